import PyProof.Rows.All
import Wide.All
import OpenK.AllK
import Wide.FinOn
import HandS.ForMost
import HandS.Wide
import HandS.IsInst
import HandS.Defaults
import HandS.MakeKwOnly
import HandS.Flow
import HandS.TupLe
import HandS.OwnEq
import HandS.More
import HandS.Small
import HandS.EndBits
import HandS.RaiseMore
import HandS.Walk
import HandS.Conv
import HandS.DictComp
import HandS.SortInts
import HandS.CallSlots
import HandS.Evl
import HandS.Steps
import PyProof.InstSpecial
import PyProof.ReprRoads
import PyProof.WalksMore
import PyProof.ReprLen
import HandS.DictTup
import HandS.ListItems
import HandS.Keys
import HandS.SetKeys
import HandS.ForExc
import HandS.ExcField
import HandS.ExcInit
import HandS.ExcOwn
import HandS.ExcIs
import KE.KExcIs
import PyProof.ExcBaseAll.LookupError
import PyProof.ExcBaseAll.RuntimeError
import PyProof.ExcBaseAll.IndexError
import PyProof.ExcBaseAll.ValueError
import HandS.MakeKw
import HandS.TupLe
import HandS.OwnEq
import PySem.Challenge.RW_stampedwait_k26_copies_stopped_and_calle
set_option Elab.async false
set_option linter.all false
set_option maxRecDepth 100000
set_option maxHeartbeats 4000000
namespace M
open PySem L2


section
open PySem PySem.Spec PyProof.Rows L2
variable {X : Cx} {ea eb ec ed : Expr} {ta tb tc td : TE} {pos : Pos}
/-- three comparisons in a row -/
def tChain3 (r r' r'' : R2) (ta tb tc td : TE) : TE := fun σ H Q => ta σ H fun x H1 => tb σ H1 fun y H2 => r x y H2 fun z H3 => ∃ k, z = .bl k ∧
  (if k = true then tc σ H3 fun u H4 => r' y u H4 fun z2 H5 => ∃ k2, z2 = .bl k2 ∧ (if k2 = true then td σ H5 fun v H6 => r'' u v H6 Q else Q (.bl false) H5) else Q (.bl false) H3)
theorem pt_chain3 {op op' op'' : CmpOp} {r r' r'' : R2} (ho : OpR X (compareOp op) r) (ho' : OpR X (compareOp op') r') (ho'' : OpR X (compareOp op'') r'') (ha : PE X ea ta) (hb : PE X eb tb) (hc : PE X ec tc) (hd : PE X ed td)
    (hm : lastMarks [op, op', op''] [eb, ec, ed] = false := by with_unfolding_all rfl) : PT X (.Compare ea [op, op', op''] [eb, ec, ed] pos) (tTest (tChain3 r r' r'' ta tb tc td)) := by
  refine ⟨fun pins s σ H Q I h => ?_⟩
  refine isTrue_chain (thn (ha.run pins s σ H _ I h) fun v s1 ⟨x, H1, I1, r1, q1⟩ => test_link (thn (hb.run pins s1 σ H1 _ I1 q1) fun u s2 ⟨y, H2, I2, r2, q2⟩ =>
    thn (ho pins s2 σ H2 x y v u _ I2 r1 r2 q2) fun d s3 ⟨z, H3, I3, r3, k, e, q3⟩ => ?_)) hm
  subst e
  cases r3
  refine wpAny_truthy_bool ?_
  cases k with
  | false =>
    obtain ⟨k', e', q'⟩ := q3
    cases e'
    exact ite_ff ⟨H3, I3, q'⟩
  | true =>
    refine ite_tt (test_link (thn (hc.run pins s3 σ H3 _ I3 q3) fun w' s4 ⟨z', H4, I4, r4, q4⟩ => thn (ho' pins s4 σ H4 y z' u w' _ I4 r2 r4 q4) fun d' s5 ⟨z2, H5, I5, r5, k2, e2, q5⟩ => ?_))
    subst e2
    cases r5
    refine wpAny_truthy_bool ?_
    cases k2 with
    | false =>
      obtain ⟨k', e', q'⟩ := q5
      cases e'
      exact ite_ff ⟨H5, I5, q'⟩
    | true =>
      refine ite_tt (test_last (thn (hd.run pins s5 σ H5 _ I5 q5) fun v' s6 ⟨z3, H6, I6, r6, q6⟩ => thn (ho'' pins s6 σ H6 z' z3 w' v' _ I6 r4 r6 q6) fun d'' s7 ⟨z4, H7, I7, r7, k3, e3, q7⟩ => ?_))
      subst e3
      cases r7
      exact wpAny_truthy_bool ⟨H7, I7, q7⟩
end

section
open PySem PySem.Spec PyProof.Rows L2
/-- the promise of a def that is only called where no object is being shown -/
structure FnG (P : Program) (w : World) (K : PySem.W.Frag) (mg : Str → Option Value) (base : Heap) (k : Nat) (f : Addr) (fd : FuncData) (ps : List Str) (sp : Sp) : Prop where
  size : ∀ vs H Q E, sp vs H Q E → vs.length = ps.length
  go : ∀ (A : Around) (outer : List Env) (s : Shared) (H : Hp) (us : List Value) (vs : List V) (Q : VK) (E : XK) (args : Args), A.guards = some [] → Room k A → Env0 P w K mg base A outer s H →
    BindsTo s fd args (ps.zip us) → Vals vs us → sp vs H Q E → codeAny (model P w) A (.call (.ref f) args) (CR CX0 outer P w H s Q E) s
theorem room66 {A : Around} {k : Nat} (hr : Room k A) : A.units + 66 < cLine := by
  have := hr.un
  omega
theorem guards_deeper (A : Around) (e : Env) : (A.deeper e).guards = A.guards := rfl
section
variable {P : Program} {w : World} {K : PySem.W.Frag} {mg : Str → Option Value} {base : Heap} {x qual : Str} {st : Stmt} {f : Addr} {fd : FuncData} {N ps : List Str} {k : Nat} {sp : Sp}
theorem fnG_mk (F : Fun K x qual st f fd) (S : FnScope N ps (defScope st)) (size : ∀ vs H Q E, sp vs H Q E → vs.length = ps.length)
    (body : ∀ (cdv : Value) (A : Around) (outer : List Env) (s : Shared) (H : Hp) (vs : List V) (Q : VK) (E : XK), (A.deeper (envOfC qual (defScope st) s.heap.objs.size f cdv)).guards = some [] →
      Room k (A.deeper (envOfC qual (defScope st) s.heap.objs.size f cdv)) → sp vs H Q E →
      ∃ t, PSs (cxOf CX0 P w K mg base N qual (defScope st) f cdv A outer s H E).nox (defBody st) t ∧ t { nx := fun _ H' => Q .non H', rt := Q } (start N vs) H) :
    FnG P w K mg base (k + 1) f fd ps sp := by
  obtain ⟨oc, od, kV, doc, pm, an, cdv, ct, osl, rfl, lk, hcd⟩ := F.ex
  refine ⟨size, ?_⟩
  intro A outer s H us vs Q E args gd hr e0 hb r hsp
  have old : ∀ b o, base.get? b = some o → s.heap.get? b = some o := fun b o z => (e0.bs b o z).1
  have kin := e0.mod.kin.keeps old
  have hkind : ∀ y ∈ ps.zip us, (defScope st).names.lookup y.1 = some .local ∨ ((defScope st).names.lookup y.1 = some .cell ∧ ((cellsFrom (s.heap.objs.size + 1) (defScope st).names []).lookup y.1).isSome = true) := by
    rintro ⟨n, v⟩ hy
    have := S.par n (List.of_mem_zip hy).1
    rcases this with z | z
    · exact .inl z
    · exact .inr ⟨z, PySem.W.cellsFrom_some _ _ _ (.inl z)⟩
  obtain ⟨t, ht, hq⟩ := body cdv A outer s H vs Q E gd (hr.deeper _) hsp
  refine codeAny_call_function hr.depth (kin _ _ lk) rfl S.co S.gen rfl (PySem.W.codeRec_of kin hcd) ?_
  refine hb _ _ _ _ (wpAny_newFunctionEnv_cells S.kind hkind ?_)
  rintro env rfl s1 y
  refine ⟨(e0.mod.nolimit.keeps old).keeps y.toInCall.keep, codeAny_func ?_⟩
  have I0 := inv_start (CX := CX0) (E := E) (cd := cdv) (f := f) (qual := qual) S hr.hd e0 (size _ _ _ _ hsp) r y
  refine wpAny_mono (ht.nox.run [] s1 _ H _ I0 hq) ?_ (fun _ _ z => z)
  intro fl s' hs
  cases fl with
  | ret u =>
    obtain ⟨v, σ', H', J, rv, z⟩ := hs
    exact ⟨v, H', J.os, J.bare, J.base, J.hok, rv, z⟩
  | next =>
    obtain ⟨σ', H', J, z⟩ := hs
    exact ⟨V.non, H', J.os, J.bare, J.base, J.hok, rfl, z⟩
  | brk => exact hs.elim fun _ h => h.elim fun _ h => h.2.elim
  | cont => exact hs.elim fun _ h => h.elim fun _ h => h.2.elim
end
section
variable {X : Cx} {k : Nat} {f : Addr} {fd : FuncData} {ps : List Str} {sp : Sp} {x : Str} {p pos : Pos} {e : Expr} {es : List Expr} {t : TA}
theorem pe_callG (F : FnG X.prog X.w X.K X.mg X.base k f fd ps sp) (gd : X.A.guards = some []) (hr : Room k X.A) (hg : Gl X x) (hm : X.mg x = some (.ref f)) (hk : PySem.W.keepIn X.K (.ref f) = true) (hb : Binds X.K fd ps [])
    (hx : Passes CX0 X E0) (ha : PA X (e :: es) t) (hdb : (x == ("__debug__" : Str)) = false := by decide) (he : starEach (e :: es) X.env = (false, eval e X.env) :: starEach es X.env := by rfl) (hpl : (backTo pos (starEach es X.env)).any (·.1) = false := by rfl) :
    PE X (.Call (.Name x p) (e :: es) [] pos) (tCall sp [] E0 t) := by
  constructor
  intro pins s σ H Q I h
  apply wpAny_Call_Name_kw
  refine ld_glob I hg hm ?_ hdb
  refine PySem.W.callWith_K (h₀ := X.base) I.ok.mod.kin hk (thn (ha.run pos pins s σ H _ I h) ?_) he hpl
  rintro us s1 ⟨vs, H1, I1, r, q⟩
  refine ⟨I1.kIn, ?_⟩
  rw [List.append_nil] at q
  have hl : us.length = ps.length := r.length.symm.trans (F.size _ _ _ _ q)
  have b := hb s1 us I1.kIn (by rw [List.append_nil]; exact hl)
  rw [List.append_nil] at b
  refine wpAny_call (codeAny_mono (F.go X.A X.stack s1 H1 us vs Q E0 ⟨us, []⟩ gd hr I1.env0 b r q) ?_)
  intro res s' hq
  cases res with
  | error e => exact hx pins σ H1 s1 e s' I1 hq
  | ok fl => cases fl <;> first | exact I1.after hq | exact False.elim hq
/-- repr of data -/
theorem call_reprD (gd : X.A.guards = some []) (hu : X.A.units + 66 < cLine) : CallR X (.builtin "repr") (fun xs H Q => ∃ (a : Addr) (d : PyData), xs = [.ref a] ∧ Dp X.K H (.ref a) d ∧ d.showable = true ∧ d.hasDict = false ∧ d.depth ≤ 64 ∧ d.shown.length ≤ sizeLine ∧ Q (.str d.shown) H) := by
  intro pins s σ H xs us Q I r h
  obtain ⟨a, d, rfl, hd, sh, nd, dp, sz, q⟩ := h
  cases r with
  | cons r1 r2 =>
    cases r2
    obtain ⟨as, rd⟩ := Dp.reads I d _ _ hd r1
    cases r1
    exact repr_of_reads' rd sh (fun z => by rw [nd] at z; cases z) gd (by omega) (fun _ _ z => z) (fun h' u tk z => ⟨.str d.shown, H, I.kept z, ⟨_, rfl⟩, q⟩) sz
end
/-- the law's call -/
theorem law_callG {P : Program} {w : World} {K : PySem.W.Frag} {mg mb : Str → Option Value} {k : Nat} {fa sa : Addr} {fd : FuncData} {x : Str} {sp : Sp} {s₁ : Shared} {vs : List Value} {ns : List Int}
    (KX : K.In s₁.heap) (hns : s₁.heap.Ns mainGlobals mg) (hb : s₁.heap.Ns builtinsNs mb) (hbb : ∀ x : Str, x ≠ "__name__" → mb x = bootBuiltins x) (hlim : s₁.heap.NoLimit) (hg : s₁.gens = #[])
    (ho : s₁.heap.get? sa = some { cls := .type "list", data := .seq vs.toArray }) (hi : IntsAre vs ns) (hl : ns.length ≤ sizeLine) (hr : Room k callerA)
    (F : ∀ base : Heap, K.In base → base.Ns mainGlobals mg → FnG P w K mg base k fa fd [x] sp) (hbind : ∀ (s : Shared) (u : Value), BindsTo s fd ⟨[u], []⟩ [(x, u)])
    (hsp : ∀ H : Hp, Only H → SqL K H sa (ns.map V.int) → sp [.ref sa] H (fun v _ => v = .bl true) fun _ _ _ => False) :
    codeAny (model P w) callerA (.call (.ref fa) ⟨[.ref sa], []⟩) (fun r s' => r = .ok (.ret (.bool true)) ∧ OldK s₁.heap s'.heap ∧ s'.os = s₁.os ∧ AllBare s'.gens) s₁ := by
  -- H tracks the script or nothing
  suffices main : ∀ H : Hp, Only H → SqL K H sa (ns.map V.int) → HOk P w H s₁.heap → (∀ b, H b ≠ none → b = sa) → (H sa ≠ none → K.lookup sa = none) →
      codeAny (model P w) callerA (.call (.ref fa) ⟨[.ref sa], []⟩) (fun r s' => r = .ok (.ret (.bool true)) ∧ OldK s₁.heap s'.heap ∧ s'.os = s₁.os ∧ AllBare s'.gens) s₁ by
    have rv := vals_ints hi
    cases hk : K.lookup sa with
    | none =>
      let H : Hp := fun b => if b = sa then some (.frz { cls := .type "list", data := .seq vs.toArray } (.lst (ns.map V.int))) else none
      have hH : H sa = some (.frz { cls := .type "list", data := .seq vs.toArray } (.lst (ns.map V.int))) := if_pos rfl
      have hN : ∀ b, b ≠ sa → H b = none := fun b z => if_neg z
      refine main H (fun b => ?_) (.inl (.inr ⟨_, hH⟩)) (fun b u z => ?_) (fun b z => ?_) fun _ => hk
      · by_cases c : b = sa
        · exact .inr ⟨_, _, by rw [c]; exact hH⟩
        · exact .inl (hN b c)
      · by_cases c : b = sa
        · subst c
          rw [hH] at z
          cases z
          exact ⟨ho, by rw [List.length_map]; exact hl, vs, _, rv, ho⟩
        · rw [hN b c] at z
          cases z
      · by_cases c : b = sa
        · exact c
        · exact absurd (hN b c) z
    | some o =>
      have z := KX sa o hk
      rw [ho] at z
      cases z
      exact main (fun _ => none) (fun _ => .inl rfl) (.inr ⟨_, vs.toArray, _, hk, rfl, rfl, rfl, by rw [List.size_toArray, hi.length]; exact hl, by simpa using rv⟩) (fun b u y => by cases y) (fun b y => absurd rfl y) fun y => absurd rfl y
  intro H hO hS hok hA hK
  have free : ∀ {b : Addr}, b ≠ sa → H b = none := fun {b} c => by
    cases z : H b with
    | none => rfl
    | some u => exact absurd (hA b (by rw [z]; simp)) c
  have dictFree : ∀ {b : Addr} {o : Obj} {es : Array DictEntry} {ep : Nat}, s₁.heap.get? b = some o → o.data = .dict es ep → H b = none := fun {b o es ep} e d => free fun c => by
    subst c
    rw [ho] at e
    cases e
    cases d
  have ns2 : ∀ {b : Addr} {m : Str → Option Value}, s₁.heap.Ns b m → (hidT s₁.heap H).Ns b m := by
    rintro b m ⟨o, es, ep, e, d, r⟩
    exact ⟨o, es, ep, hidT_get e (dictFree e d), d, r⟩
  have kin2 : K.In (hidT s₁.heap H) := by
    intro b o e
    refine hidT_get (KX b o e) ?_
    by_cases c : b = sa
    · subst c
      cases z : H b with
      | none => rfl
      | some u =>
        rw [hK (by rw [z]; simp)] at e
        cases e
    · exact free c
  have lim2 : (hidT s₁.heap H).NoLimit := by
    obtain ⟨mc, h1, h2⟩ := hlim
    exact ⟨mc, ns2 h1, h2⟩
  have env : Env0 P w K mg (hidT s₁.heap H) callerA [] s₁ H :=
    { frames := rfl, mod := ⟨kin2, ns2 hns, ⟨mb, ns2 hb, hbb⟩, lim2⟩, bs := fun b o e => of_hidT e, bsz := Nat.le_of_eq (hidT_size _ _), funs := trivial, frf := fun b z => by simp [frs] at z, hok := hok, bare := .of_eq hg }
  refine codeAny_mono ((F _ kin2 (ns2 hns)).go callerA [] s₁ H [.ref sa] [.ref sa] _ _ ⟨[.ref sa], []⟩ rfl hr env (hbind s₁ (.ref sa)) (.cons rfl .nil) (hsp H hO hS)) ?_
  intro res s' hres
  cases res with
  | error e => exact hres.elim
  | ok fl =>
    cases fl with
    | ret u =>
      obtain ⟨v, H', os, bare, un, hok', rv, qv⟩ := hres
      cases (show v = .bl true from qv)
      cases (show u = Value.bool true from rv)
      refine ⟨rfl, OldK.of_keep fun b o e => ?_, os, bare⟩
      rcases hO b with z | ⟨ob, xs, z⟩
      · exact un.keep b o e z (by simp [frs]) (by simp)
      · have z2 := un.frzs b ob _ z
        have e1 := (hok b _ z).1
        have e2 := (hok' b _ z2).1
        rw [e] at e1
        cases e1
        exact e2
    | next => exact hres.elim
    | brk => exact hres.elim
    | cont => exact hres.elim
theorem walkG {l : PySem.W.OpenLaw} {n k : Nat} {q : Program} {loose : List Str} {XP : (Str → Option Value) → Heap → Prop} {YP : World → Heap → Prop} {d : DefRec} {K : Params → PySem.W.Frag} {sp : World → Sp} {x : Str}
    (hn : l.most = some n) (hn2 : n ≤ sizeLine) (hdf : d.params.defaults = []) (hr : Room k callerA) (hY : ∀ (w : World) (h : Heap), YP w h → (K w.params).In h)
    (F : ∀ (w : World) (mg : Str → Option Value) (fa : Addr) (h : Heap), (K w.params).In h → h.Ns mainGlobals mg → mg d.name = some (.ref fa) →
      ∃ fd : FuncData, (∀ (s : Shared) (u : Value), BindsTo s fd ⟨[u], []⟩ [(x, u)]) ∧ ∀ base : Heap, (K w.params).In base → base.Ns mainGlobals mg → FnG l.prog w (K w.params) mg base k fa fd [x] (sp w))
    (hsp : ∀ (w : World) (H : Hp) (a : Addr) (ns : List Int), ns.length ≤ n → (∀ z ∈ ns, Builtin.Int.intBits z ≤ 1048576) → Only H → SqL (K w.params) H a (ns.map V.int) → sp w [.ref a] H (fun v _ => v = .bl true) fun _ _ _ => False) :
    PySem.W.WalkO q loose XP YP l.row.toRowW d [] (fun f vs => PySem.call f vs) := by
  apply Att.attach_callB hn hdf
  intro w s₀ s₁ mg mb fa o pm cd doc sa vs ns G Y ho hd hcd hmg hobj hints hlen hbits hg
  obtain ⟨fd, hb, hF⟩ := F w mg fa _ (hY w _ Y) G.T.g hmg
  exact law_callG (hY w _ Y) G.T.g G.T.b G.T.builtins G.T.nolimit hg hobj hints (Nat.le_trans hlen hn2) hr hF hb (fun H hO hS => hsp w H sa ns hlen hbits hO hS)
end

section
open PySem PySem.Spec PyProof.Rows L2
/-- data, or an empty dict -/
inductive An (K : PySem.W.Frag) (H : Hp) : V → PyData → Prop
  | dp {v : V} {d : PyData} (h : Dp K H v d) : An K H v d
  | dict {p : Addr} (e : H p = some (.dK [])) : An K H (.ref p) (.dict [])
mutual
theorem dp_up {K : PySem.W.Frag} {H H' : Hp} (k : Same H H') : ∀ {v : V} {d : PyData}, Dp K H v d → Dp K H' v d
  | _, _, .non => .non
  | _, _, .bl b => .bl b
  | _, _, .int i => .int i
  | _, _, .str x => .str x
  | _, _, .lst h hs => .lst (k.seq h) (dpall_up k hs)
  | _, _, .tup h hs => .tup (by
      rcases h with (h | ⟨u, h⟩) | h
      · exact .inl (.inl (k _ _ h))
      · exact .inl (.inr ⟨u, k _ _ h⟩)
      · exact .inr h) (dpall_up k hs)
theorem dpall_up {K : PySem.W.Frag} {H H' : Hp} (k : Same H H') : ∀ {vs : List V} {ds : List PyData}, DpAll K H vs ds → DpAll K H' vs ds
  | _, _, .nil => .nil
  | _, _, .cons h hs => .cons (dp_up k h) (dpall_up k hs)
end
mutual
theorem dp_nodict {K : PySem.W.Frag} {H : Hp} : ∀ {v : V} {d : PyData}, Dp K H v d → d.hasDict = false
  | _, _, .non => rfl
  | _, _, .bl b => rfl
  | _, _, .int i => rfl
  | _, _, .str x => rfl
  | _, _, .lst _ hs => by simp only [PyData.hasDict]; exact dpall_nodict hs
  | _, _, .tup _ hs => by simp only [PyData.hasDict]; exact dpall_nodict hs
theorem dpall_nodict {K : PySem.W.Frag} {H : Hp} : ∀ {vs : List V} {ds : List PyData}, DpAll K H vs ds → PyData.hasDictAll ds = false
  | _, _, .nil => rfl
  | _, _, .cons h hs => by simp only [PyData.hasDictAll, dp_nodict h, dpall_nodict hs, Bool.or_self]
end
theorem dpall_len {K : PySem.W.Frag} {H : Hp} : ∀ {vs : List V} {ds : List PyData}, DpAll K H vs ds → vs.length = ds.length
  | _, _, .nil => rfl
  | _, _, .cons _ hs => congrArg Nat.succ (dpall_len hs)
theorem dpall_get {K : PySem.W.Frag} {H : Hp} : ∀ {vs : List V} {ds : List PyData}, DpAll K H vs ds → ∀ {i : Nat} {v : V}, vs[i]? = some v → ∃ d, ds[i]? = some d ∧ Dp K H v d
  | _, _, .nil, i, v, e => by simp at e
  | _, _, .cons h hs, 0, v, e => by
    simp at e
    subst e
    exact ⟨_, rfl, h⟩
  | _, _, .cons h hs, i + 1, v, e => dpall_get hs (i := i) (by simpa using e)
theorem An.up {K : PySem.W.Frag} {H H' : Hp} (k : Same H H') {v : V} {d : PyData} (h : An K H v d) : An K H' v d := by
  cases h with
  | dp h => exact .dp (dp_up k h)
  | dict e => exact .dict (k _ _ e)
def wholeD : PyData → Bool
  | .int _ => true
  | _ => false
def isTup : PyData → Bool
  | .tuple _ => true
  | _ => false
theorem sql_ty {K : PySem.W.Frag} {H : Hp} {p : Addr} {xs : List V} (h : SqL K H p xs) : TyX K H (.ref p) (.type "list") := by
  rcases h with (h | ⟨u, h⟩) | ⟨o, its, n, h1, h2, _⟩
  · exact .base (.lst h)
  · exact .base (.frz h)
  · exact .kList h1 h2
theorem sqt_tyA {K : PySem.W.Frag} {H : Hp} {p : Addr} {xs : List V} (h : SqT K H p xs) : TyX K H (.ref p) (.type "tuple") := by
  rcases h with (h | ⟨u, h⟩) | ⟨o, its, n, h1, h2, _⟩
  · exact .base (.tup h)
  · exact .fTuple h
  · exact .kTuple h1 h2
/-- what isinstance says -/
theorem An.is {K : PySem.W.Frag} {H : Hp} {v : V} {d : PyData} (h : An K H v d) : ∃ (t : Value) (i b c : Bool), TyX K H v t ∧ PySem.W.kitOne K t (.type "int") = some i ∧ PySem.W.kitOne K t (.type "bool") = some b ∧ PySem.W.kitOne K t (.type "tuple") = some c ∧ (i && !b) = wholeD d ∧ c = isTup d := by
  cases h with
  | dict e => exact ⟨_, false, false, false, .base (.dK e), kit_ty (by decide +kernel), kit_ty (by decide +kernel), kit_ty (by decide +kernel), rfl, rfl⟩
  | dp h =>
    cases h with
    | non => exact ⟨_, false, false, false, .base .non, kit_ty (by decide +kernel), kit_ty (by decide +kernel), kit_ty (by decide +kernel), rfl, rfl⟩
    | bl b => exact ⟨_, true, true, false, .base (.bl b), kit_ty (by decide +kernel), kit_ty (by decide +kernel), kit_ty (by decide +kernel), rfl, rfl⟩
    | int i => exact ⟨_, true, false, false, .base (.int i), kit_ty (by decide +kernel), kit_ty (by decide +kernel), kit_ty (by decide +kernel), rfl, rfl⟩
    | str x => exact ⟨_, false, false, false, .base (.str x), kit_ty (by decide +kernel), kit_ty (by decide +kernel), kit_ty (by decide +kernel), rfl, rfl⟩
    | lst h _ => exact ⟨_, false, false, false, sql_ty h, kit_ty (by decide +kernel), kit_ty (by decide +kernel), kit_ty (by decide +kernel), rfl, rfl⟩
    | tup h _ => exact ⟨_, false, false, true, sqt_tyA h, kit_ty (by decide +kernel), kit_ty (by decide +kernel), kit_ty (by decide +kernel), rfl, rfl⟩
/-- a tuple of data -/
theorem An.tup {K : PySem.W.Frag} {H : Hp} {v : V} {ds : List PyData} (h : An K H v (.tuple ds)) : ∃ p xs, v = .ref p ∧ SqT K H p xs ∧ DpAll K H xs ds := by
  cases h with
  | dp h =>
    cases h with
    | tup h hs => exact ⟨_, _, rfl, h, hs⟩
section
variable {X : Cx}
/-- repr of any of these -/
theorem call_reprA (gd : X.A.guards = some []) (hu : X.A.units + 66 < cLine) : CallR X (.builtin "repr") (fun xs H Q => ∃ (x : V) (d : PyData), xs = [x] ∧ An X.K H x d ∧ d.showable = true ∧ d.depth ≤ 64 ∧ d.shown.length ≤ sizeLine ∧ Q (.str d.shown) H) := by
  intro pins s σ H xs us Q I r h
  obtain ⟨x, d, rfl, ha, sh, dp, sz, q⟩ := h
  cases r with
  | cons r1 r2 =>
    cases r2
    cases ha with
    | dict e =>
      cases r1
      obtain ⟨hz, hS, vs, r, o, es, ep, h1, h2, h3, h4⟩ := (show ObjOk X.prog X.w H s.heap _ (.dK []) from I.hok _ _ e)
      cases r
      have hes : es.toList = [] := by
        have z := h4.2.1
        generalize es.toList = l at z
        cases z
        rfl
      have rd : Reads s.heap (.ref _) (.dict []) (_ :: [] ++ []) := Reads.dict (kvs := []) (as := []) (bs := []) h1 h2.1 h3 (by rw [hes]; exact .nil) (by rw [hes]; exact .nil)
      refine repr_of_reads' rd rfl (fun _ z => ?_) gd (by show X.A.units + (1 + 1) < cLine; omega) (fun _ _ z => z) (fun h' u tk z => ⟨.str _, H, I.kept z, ⟨_, rfl⟩, q⟩) sz
      simp at z
      simp [z] at hS
    | dp hd =>
      cases hd with
      | non =>
        cases r1
        exact PySem.P.repr_of_none ⟨.str _, H, I.tok _, ⟨_, rfl⟩, q⟩
      | bl b =>
        cases r1
        exact PySem.P.repr_of_bool ⟨.str _, H, I.tok _, ⟨_, rfl⟩, q⟩
      | int i =>
        obtain ⟨t, rfl⟩ := r1
        exact PySem.P.repr_of_int (of_decide_eq_true sh) ⟨.str _, H, I.tok _, ⟨_, rfl⟩, q⟩
      | str z =>
        obtain ⟨t, rfl⟩ := r1
        exact PySem.P.repr_of_str ⟨.str _, H, I.tok _, ⟨_, rfl⟩, q⟩ sz
      | lst h hs =>
        obtain ⟨as, rd⟩ := Dp.reads I _ _ _ (.lst h hs) r1
        cases r1
        exact repr_of_reads' rd sh (fun z => by rw [dp_nodict (.lst h hs)] at z; cases z) gd (by omega) (fun _ _ z => z) (fun h' u tk z => ⟨.str _, H, I.kept z, ⟨_, rfl⟩, q⟩) sz
      | tup h hs =>
        obtain ⟨as, rd⟩ := Dp.reads I _ _ _ (.tup h hs) r1
        cases r1
        exact repr_of_reads' rd sh (fun z => by rw [dp_nodict (.tup h hs)] at z; cases z) gd (by omega) (fun _ _ z => z) (fun h' u tk z => ⟨.str _, H, I.kept z, ⟨_, rfl⟩, q⟩) sz
/-- min of a tuple of ints -/
theorem cr_minT (hc : X.calm = true) : CallR X (.builtin "min") (fun vs H Q => ∃ (a : Addr) (ns : List Int), vs = [V.ref a] ∧ SqT X.K H a (ns.map V.int) ∧ 0 < ns.length ∧ ∀ m, m ∈ ns → (∀ y, y ∈ ns → m ≤ y) → Q (.int m) H) := by
  intro pins s σ H vs us Q I r h
  obtain ⟨a, ns, rfl, hs, hne, q⟩ := h
  obtain ⟨its, rv, ht, _⟩ := I.tuple hs
  rw [Vals.ref1 r]
  have hi : IntsAre its ns := rv.ints
  obtain ⟨xs, e⟩ := hi.allInts.items
  have hn : numsOf (intItems xs).toList = ns := by rw [← e]; exact hi.numsOf
  rw [nums_intItems] at hn
  subst hn
  rw [e] at ht
  have hsz : 0 < xs.size := by simpa using hne
  have ht' : s.heap.IsTuple a (intItems xs) := ht
  have hlt : a < s.heap.objs.size := by
    obtain ⟨_, z, _⟩ := ht'
    exact Heap.lt_size z
  have hsz1 : ∀ o, (s.heap.push o).objs.size = s.heap.objs.size + 1 := fun o => Heap.size_push ..
  refine call_min_walk (wpAny_pyIter_tuple ht' ⟨_, _, _, _, _, _, _, rfl, Walks.tuple (A := X.A.in1) (I.ok.hd hc) _ a (Nat.ne_of_lt hlt) (intItems xs), ⟨⟨_, Heap.get?_push_size _ rfl, rfl, rfl⟩, ?_⟩, ?_, by simpa [intItems] using hsz, CmpOf.ints_lt (numAt xs) (fun _ _ => intItems_at), ?_⟩)
  · obtain ⟨o, z1, z2⟩ := ht'
    exact ⟨o, Heap.get?_push_of_some _ z1, z2⟩
  · intro b hb
    show b < (s.heap.push _).objs.size
    rw [hsz1]
    rcases List.mem_cons.mp hb with rfl | hb
    · exact Nat.lt_succ_self _
    · rcases List.mem_cons.mp hb with rfl | hb
      · exact Nat.lt_succ_of_lt hlt
      · cases hb
  · intro v h' tk hP hk
    have hv : (intItems xs)[argBest (fun i j => decide (numAt xs i < numAt xs j)) (xs.size - 1)]? = some v := by simpa [intItems] using hP
    obtain ⟨t, rfl⟩ := intItems_at hv
    obtain ⟨h1, h2⟩ := argBest_lt (numAt xs) (xs.size - 1)
    have kept : ∀ b o, s.heap.get? b = some o → h'.get? b = some o := fun b o z => hk b o (by simpa using Nat.ne_of_lt (Heap.lt_size z)) (Heap.get?_push_of_some _ z)
    refine ⟨.int _, H, I.kept kept, ⟨_, rfl⟩, q _ ?_ ?_⟩
    · rw [numAt_eq]; exact PySem.getD_mem (by rw [List.length_map, Array.length_toList]; omega)
    · intro z hz
      obtain ⟨j, hj, rfl⟩ := mem_getD hz
      rw [List.length_map, Array.length_toList] at hj
      rw [← numAt_eq]; exact h2 j (by omega)
end
end
section
open PySem PySem.Spec PyProof.Rows L2
/-- a caught exception that is kept: of the class cls, its dict d -/
def ExK (cls : Value) (d : Option Addr) (a : Addr) : HO := .ext fun h => ∃ (oe : Obj) (vs : Array Value), h.get? a = some oe ∧ Zc cls d oe ∧ oe.data = .fields vs
theorem exK_ok {P : Program} {w : World} {H : Hp} {h : Heap} {a : Addr} {cls : Value} {d : Option Addr} {oe : Obj} {vs : Array Value} (e : h.get? a = some oe) (z : Zc cls d oe) (hd : oe.data = .fields vs) : ObjOk P w H h a (ExK cls d a) :=
  ⟨⟨oe, vs, e, z, hd⟩, ⟨oe, e⟩, fun h1 h2 ⟨o, vs, e, z, hd⟩ k => ⟨o, vs, k _ e, z, hd⟩⟩
theorem exK_at {P : Program} {w : World} {H : Hp} {h : Heap} {a : Addr} {cls : Value} {d : Option Addr} (hok : HOk P w H h) (e : H a = some (ExK cls d a)) : ∃ (oe : Obj) (vs : Array Value), h.get? a = some oe ∧ Zc cls d oe ∧ oe.data = .fields vs := by
  obtain ⟨x, _⟩ := hok a _ e
  exact x
section
variable {X : Cx} {pins : List (Addr × Obj)} {σ : L2.St} {H : Hp} {s sI : Shared} {B : Heap}
/-- an exception that has landed, tracked -/
theorem inv_track {a : Addr} {o : HO} (J : Inv X pins σ H sI) (I : Inv X pins σ H s) (nI : sI.heap.get? a = none) (na : H a = none) (nL : a ≠ X.env.locals) (new : ObjOk X.prog X.w (upd H a o) s.heap a o) : Inv X pins σ (upd H a o) s := by
  refine ⟨I.ok, I.os, I.bare, ⟨I.base.keep, I.base.slot, fun b ob e n hx => ?_, I.base.there, fun b xs e => ?_, fun b ob u e => ?_, fun b ps e => ?_⟩, I.loc, I.cell, ?_, fun y c e => ?_, fun p hp => ?_, fun b u e => ?_, I.len⟩
  · rw [upd_ne (fun z => by
      subst z
      obtain ⟨o', e'⟩ := J.base.there _ _ e hx
      rw [nI] at e'; cases e')]
    exact I.base.free b ob e n hx
  · have z := I.base.tups b xs e
    rw [upd_ne (ne_of_none z na)]; exact z
  · have z := I.base.frzs b ob u e
    rw [upd_ne (ne_of_none z na)]; exact z
  · obtain ⟨m, z⟩ := I.base.tbls b ps e
    exact ⟨m, by rw [upd_ne (ne_of_none z na)]; exact z⟩
  · rw [upd_ne (fun z => nL z.symm)]; exact I.free
  · obtain ⟨v, z⟩ := J.cell y c e
    rw [upd_ne (fun q => by
      subst q
      obtain ⟨o', e', _⟩ := z
      rw [nI] at e'; cases e')]
    exact I.freeC y c e
  · obtain ⟨e1, e2, e3, e4, e5⟩ := I.pin p hp
    refine ⟨e1, ?_, e3, e4, e5⟩
    rw [upd_ne (fun q => by
      have z := (J.pin p hp).1
      rw [q, nI] at z; cases z)]
    exact e2
  · by_cases hb : b = a
    · subst hb
      rw [upd_same] at e
      cases e
      exact new
    · rw [upd_ne hb] at e
      exact (I.hok b u e).stay (fun c v _ q => q) (fun c q => by rw [upd_ne (ne_of_none q na)]; exact q) fun c xs q => by rw [upd_ne (ne_of_none q na)]; exact q
theorem inv_suiteK (I : Inv X pins σ H s) (a : Addr) : Inv (X.suite a (X.pn ++ pins)) [] σ H s where
  ok := I.ok.suite _ _
  os := I.os
  bare := I.bare
  base := I.base
  loc := I.loc
  cell := I.cell
  free := I.free
  freeC := I.freeC
  pin := fun p hp => I.pin p (by simpa using hp)
  hok := I.hok
  len := I.len
theorem inv_unsuiteK {a : Addr} {pn' : List (Addr × Obj)} (I : Inv (X.suite a (X.pn ++ pins)) pn' σ H s) (ok : X.Ok) : Inv X pins σ H s where
  ok := ok
  os := I.os
  bare := I.bare
  base := I.base
  loc := I.loc
  cell := I.cell
  free := I.free
  freeC := I.freeC
  pin := fun p hp => I.pin p (List.mem_append.mpr (.inl hp))
  hok := I.hok
  len := I.len
end
/-- an exception that came down from a try's body: B its ground, sI the state ahead of it, t the state now -/
structure Down (X : Cx) (pins : List (Addr × Obj)) (σ : L2.St) (H : Hp) (cls : Value) (d : Option Addr) (a : Addr) (B : Heap) (sI t : Shared) : Prop where
  inv : Inv X pins σ H sI
  gr : ∀ b o, sI.heap.get? b = some o → b ∉ frs X.stack → B.get? b = some o
  up : sI.heap.UpToSlots t.heap
  fl : HandSPX.FlyingZ B (X.env :: X.outer) a (Zc cls d) t.heap
  na : H a = none
  so : t.os = sI.os
  ag : AllBare t.gens
section
variable {X : Cx} {pins : List (Addr × Obj)} {σ : L2.St} {H : Hp} {cls : Value} {d : Option Addr} {a : Addr} {B : Heap} {sI t : Shared}
theorem Down.here (z : Down X pins σ H cls d a B sI t) : Inv X pins σ H t := z.inv.landed z.gr z.fl.1 z.up z.so z.ag
theorem Down.again (z : Down X pins σ H cls d a B sI t) {h : Heap} (f : HandSPX.FlyingZ B (X.env :: X.outer) a (Zc cls d) h) (u : t.heap.UpToSlots h) : Down X pins σ H cls d a B sI { t with heap := h } :=
  ⟨z.inv, z.gr, z.up.trans u, f, z.na, z.so, z.ag⟩
theorem Down.apart (z : Down X pins σ H cls d a B sI t) : a ∉ frs (X.env :: X.outer) := fun hm => by
  obtain ⟨oe, vs, he, _, hd⟩ := z.fl.there
  obtain ⟨_, o2, e2, no⟩ := z.fl.2.2.1.mem hm
  exact no vs (by rw [he] at e2; cases e2; exact hd)
theorem Down.nloc (z : Down X pins σ H cls d a B sI t) (hf : X.env.frame = some X.env.locals) : a ≠ X.env.locals := fun q => by
  refine z.apart ?_
  rw [q]
  exact List.mem_filterMap.mpr ⟨X.env, .head _, hf⟩
theorem Down.new (z : Down X pins σ H cls d a B sI t) (hs : X.stack = X.env :: X.outer) : sI.heap.get? a = none := by
  have n := z.apart
  rw [← hs] at n
  have nB : B.get? a = none := z.fl.2.1
  by_cases q : sI.heap.get? a = none
  · exact q
  · obtain ⟨o, e⟩ := Option.ne_none_iff_exists'.mp q
    rw [z.gr a o e n] at nB
    cases nB
theorem Down.kept (z : Down X pins σ H cls d a B sI t) (hs : X.stack = X.env :: X.outer) (hf : X.env.frame = some X.env.locals) : Inv X pins σ (upd H a (ExK cls d a)) t := by
  obtain ⟨oe, vs, he, hz, hd⟩ := z.fl.there
  exact inv_track z.inv z.here (z.new hs) z.na (z.nloc hf) (exK_ok he hz hd)
/-- the class of a clause, asked of it -/
theorem Down.asks {x : Str} {c : Value} {b : Bool} {np : Pos} {Q : Bool → Shared → Prop} {E : Value → Shared → Prop} (z : Down X pins σ H cls d a B sI t) (hc : Names X x c) (hb : PySem.W.exmOne X.K cls c = some b) (q : Q b t) :
    wpAny (model X.prog X.w) (X.A.mark (some (.ref a))) (eval (.Name x np) X.env) (fun v s1 => wpAny (model X.prog X.w) (X.A.mark (some (.ref a))) (excMatches (.ref a) v) Q E s1) E t := by
  obtain ⟨oe, vs, he, hz, hd⟩ := z.fl.there
  have ty : PySem.W.Looks (model X.prog X.w) t.heap (typeOf (.ref a)) cls := by
    intro A Q E s k q
    exact wpAny_typeOf_ref (k _ _ he) (hz.1 ▸ q)
  have m := (PySem.W.exm_one (M := model X.prog X.w) z.here.kIn ty hb).here (A := X.A.mark (some (.ref a))) (E := E) q
  have S := inv_suiteK z.here a
  obtain ⟨g, nd, h | ⟨h, v, nn⟩⟩ := hc
  · exact ld_glob S g h m nd
  · exact ld_blt S g h v m nn nd
end
/-- where a suite ends, its name gone -/
def offAt (i : Nat) (D : Ends) : Ends where
  nx := fun σ H => D.nx (σ.set i none) H
  rt := D.rt
  bk := fun σ H => D.bk (σ.set i none) H
  ct := fun σ H => D.ct (σ.set i none) H
/-- the clauses of a try: except x as n (its slot), or except x -/
inductive HK (X : Cx) : List ExceptHandler → List (Value × Option Nat × (Addr → Value → Option Addr → TS)) → Prop
  | nil : HK X [] []
  | named {x n : Str} {c : Value} {i : Nat} {ts : Addr → Value → Option Addr → TS} {b0 : Stmt} {suite : List Stmt} {np pos : Pos} {hds : List ExceptHandler} {l : List (Value × Option Nat × (Addr → Value → Option Addr → TS))}
      (hc : Names X x c) (hi : X.N[i]? = some n) (hk : X.env.kindOf n = some .local) (su : ∀ (a : Addr) (cls : Value) (d : Option Addr) (pn : List (Addr × Obj)), PSs (X.suite a pn) (b0 :: suite) (ts a cls d)) (r : HK X hds l) :
      HK X (.ExceptHandler (some (.Name x np)) (some n) (b0 :: suite) pos :: hds) ((c, some i, ts) :: l)
  | bare {x : Str} {c : Value} {ts : Addr → Value → Option Addr → TS} {b0 : Stmt} {suite : List Stmt} {np pos : Pos} {hds : List ExceptHandler} {l : List (Value × Option Nat × (Addr → Value → Option Addr → TS))}
      (hc : Names X x c) (su : ∀ (a : Addr) (cls : Value) (d : Option Addr) (pn : List (Addr × Obj)), PSs (X.suite a pn) (b0 :: suite) (ts a cls d)) (r : HK X hds l) :
      HK X (.ExceptHandler (some (.Name x np)) none (b0 :: suite) pos :: hds) ((c, none, ts) :: l)
/-- what the clauses wish of an exception of the body -/
def wHK (K : PySem.W.Frag) (W : WX) (D : Ends) : List (Value × Option Nat × (Addr → Value → Option Addr → TS)) → WX
  | [] => W
  | (c, some i, ts) :: l => fun cls d σ H => ∃ b, PySem.W.exmOne K cls c = some b ∧ (b = true → ∀ a, H a = none → ts a cls d (offAt i D) (σ.set i (some (.ref a))) (upd H a (ExK cls d a))) ∧ (b = false → wHK K W D l cls d σ H)
  | (c, none, ts) :: l => fun cls d σ H => ∃ b, PySem.W.exmOne K cls c = some b ∧ (b = true → ∀ a, H a = none → ts a cls d D σ (upd H a (ExK cls d a))) ∧ (b = false → wHK K W D l cls d σ H)
section
variable {X : Cx} {W : WX} {D : Ends} {hds : List ExceptHandler} {l : List (Value × Option Nat × (Addr → Value → Option Addr → TS))}
theorem handledK (hs : X.stack = X.env :: X.outer) (hf : X.env.frame = some X.env.locals) (hN : X.N.Nodup) (tk : Takes X W) (hh : HK X hds l) :
    ∀ {pins : List (Addr × Obj)} {σ : L2.St} {H : Hp} {cls : Value} {d : Option Addr} {a : Addr} {B : Heap} {sI t : Shared}, Down X pins σ H cls d a B sI t → wHK X.K W D l cls d σ H →
      wpAny (model X.prog X.w) X.A (handleBy (.ref a) X.env hds) (SP X pins D) X.xe t := by
  induction hh with
  | nil =>
    intro pins σ H cls d a B sI t z w
    have go : wpAny (model X.prog X.w) X.A (setFlight (.ref a) X.env.frame) (fun _ s4 => wpAny (model X.prog X.w) X.A (throw (.ref a) : Sem Flow) (SP X pins D) X.xe s4) X.xe t := by
      rw [hf]
      refine HandSPX.setFlight_upZ z.fl fun h hh u => ?_
      refine wpAny_throw (tk _ _ ?_)
      exact ⟨a, B, sI, pins, σ, H, cls, d, rfl, z.inv, z.gr, z.up.trans u, .inr (.inr (hs ▸ hh)), z.na, z.so, z.ag, w⟩
    obtain ⟨_, _, _, oe, vs, T, _, _, he, _, hd, h1, _⟩ := id z.fl
    apply wpAny_handleBy_nil
    unfold PySem.passOn
    apply wpAny_bind
    apply wpAny_field he hd h1
    rw [if_neg (by simp)]
    first
      | exact wpAny_bind (wpAny_pure (wpAny_bind go))
      | exact wpAny_bind go
  | @named x n c i ts b0 suite np pos hds l hc hi hk su r ih =>
    intro pins σ H cls d a B sI t z w
    obtain ⟨b, hb, yes, no⟩ := w
    refine wpAny_handleBy_cons (codeAny_handlers_test (z.asks hc hb ?_)) fun q => by cases q
    cases b with
    | false => exact ih z (no rfl)
    | true =>
      refine codeAny_handlers_suite_as (HandSPX.lands_againZ z.fl fun h f u => ?_)
      have S := inv_suiteK ((z.again f u).kept hs hf) a
      refine store_ok (X := X.suite a (X.pn ++ pins)) (v := .ref a) S hN hi (.inl hk) rfl (fun s5 S5 => ?_) (.inr hk)
      refine wpAny_mono ((su a cls d (X.pn ++ pins)).run [] s5 _ _ _ S5 (yes rfl a z.na)) (fun fl s6 e6 => ?_) fun _ _ q => q.elim
      cases fl with
      | next => obtain ⟨σ6, H6, S6, q6⟩ := e6; exact gone_ok (inv_unsuiteK S6 z.inv.ok) hN hi hk fun s7 J7 => ⟨_, _, J7, q6⟩
      | brk => obtain ⟨σ6, H6, S6, q6⟩ := e6; exact gone_ok (inv_unsuiteK S6 z.inv.ok) hN hi hk fun s7 J7 => ⟨_, _, J7, q6⟩
      | cont => obtain ⟨σ6, H6, S6, q6⟩ := e6; exact gone_ok (inv_unsuiteK S6 z.inv.ok) hN hi hk fun s7 J7 => ⟨_, _, J7, q6⟩
      | ret u => obtain ⟨v6, σ6, H6, S6, r6, q6⟩ := e6; exact gone_ok (inv_unsuiteK S6 z.inv.ok) hN hi hk fun s7 J7 => ⟨_, _, _, J7, r6, q6⟩
  | @bare x c ts b0 suite np pos hds l hc su r ih =>
    intro pins σ H cls d a B sI t z w
    obtain ⟨b, hb, yes, no⟩ := w
    refine wpAny_handleBy_cons (codeAny_handlers_test (z.asks hc hb ?_)) fun q => by cases q
    cases b with
    | false => exact ih z (no rfl)
    | true =>
      refine codeAny_handlers_suite (HandSPX.lands_againZ z.fl fun h f u => ?_)
      have S := inv_suiteK ((z.again f u).kept hs hf) a
      refine wpAny_mono ((su a cls d (X.pn ++ pins)).run [] _ _ _ _ S (yes rfl a z.na)) (fun fl s6 e6 => ?_) fun _ _ q => q.elim
      cases fl with
      | next => obtain ⟨σ6, H6, S6, q6⟩ := e6; exact ⟨_, _, inv_unsuiteK S6 z.inv.ok, q6⟩
      | brk => obtain ⟨σ6, H6, S6, q6⟩ := e6; exact ⟨_, _, inv_unsuiteK S6 z.inv.ok, q6⟩
      | cont => obtain ⟨σ6, H6, S6, q6⟩ := e6; exact ⟨_, _, inv_unsuiteK S6 z.inv.ok, q6⟩
      | ret u => obtain ⟨v6, σ6, H6, S6, r6, q6⟩ := e6; exact ⟨_, _, _, inv_unsuiteK S6 z.inv.ok, r6, q6⟩
/-- try: body, any clauses; what is caught stays known behind the suite -/
theorem ps_tryK {body : List Stmt} {h0 : ExceptHandler} {pos : Pos} {tb : WX → TS} (hs : X.stack = X.env :: X.outer) (hf : X.env.frame = some X.env.locals) (hN : X.N.Nodup) (tk : Takes X W) (hh : HK X (h0 :: hds) l)
    (hb : ∀ (V : WX) (pn : List (Addr × Obj)) (xe : Value → Shared → Prop), Takes (X.tr pn xe) V → PassesOwn (model X.prog X.w) X.A X.env xe → PSs (X.tr pn xe) body (tb V)) :
    PS X (.Try body (h0 :: hds) [] [] pos) (fun D σ H => tb (wHK X.K W D l) D σ H) := by
  constructor
  intro pins s σ H D I h
  have fr : X.A.frames = some (X.env :: X.outer) := hs ▸ I.ok.frames
  apply wpAny_Try_except
  let xe : Value → Shared → Prop := fun e s1 => wpAny (model X.prog X.w) X.A (noteFrame e X.env) (fun _ s2 => wpAny (model X.prog X.w) X.A (setFlight e none) (fun _ s3 =>
    wpAny (model X.prog X.w) X.A (handleBy e X.env (h0 :: hds)) (SP X pins D) X.xe s3) X.xe s2) X.xe s1
  have T : Takes (X.tr (X.pn ++ pins) xe) (wHK X.K W D l) := fun u t y => by
    obtain ⟨a, B, sI, _, σ1, H1, cls, d, rfl, J, gr, up, sky, na, so, ag, w⟩ := y
    have sky1 : Sky B (X.env :: X.outer) a (Zc cls d) X.env.locals t.heap := hs ▸ sky
    exact Sky.land Zc.steady fr hf sky1 fun h3 f3 u3 => handledK hs hf hN tk hh ⟨J.ofTry I.ok, gr, up.trans u3, f3, na, so, ag⟩ w
  refine wpAny_mono ((hb (wHK X.K W D l) (X.pn ++ pins) xe T PassesOwn.looking).run [] s σ H D (I.toTry _) h) (fun f s1 e => ?_) fun _ _ q => q
  cases f with
  | next => obtain ⟨σ1, H1, J, q⟩ := e; exact wpAny_execs_nil ⟨σ1, H1, J.ofTry I.ok, q⟩
  | brk => obtain ⟨σ1, H1, J, q⟩ := e; exact ⟨σ1, H1, J.ofTry I.ok, q⟩
  | cont => obtain ⟨σ1, H1, J, q⟩ := e; exact ⟨σ1, H1, J.ofTry I.ok, q⟩
  | ret u => obtain ⟨v, σ1, H1, J, r, q⟩ := e; exact ⟨v, σ1, H1, J.ofTry I.ok, r, q⟩
end
/-- e.f of a kept exception -/
def tXk (C : Addr) (f : Str) (te : TE) : TE := fun σ H Q => te σ H fun x H1 => ∃ (a dd : Addr) (fs : List (Str × V)) (v : V), x = .ref a ∧ H1 a = some (ExK (.ref C) (some dd) a) ∧ H1 dd = some (.xd fs) ∧ fs.lookup f = some v ∧ Q v H1
theorem pe_xk {X : Cx} {C : Addr} {e : Expr} {te : TE} {pos : Pos} {n : Str} (T : XfC X.K C) (hno : PySem.W.findIn X.K (.ref C) n = some none) (he : PE X e te) (hb : attributeBase e n X.env (eval e X.env) = eval e X.env := by rfl) :
    PE X (.Attribute e n pos) (tXk C n te) := by
  constructor
  intro pins s σ H Q I h
  apply attr_of hb
  refine thn (he.run pins s σ H _ I h) ?_
  rintro u s1 ⟨x, H1, I1, rx, a, dd, fs, v, rfl, ek, ea, l, q⟩
  cases rx
  obtain ⟨oe, vs, there, ⟨zc, zd⟩, fv⟩ := exK_at I1.hok ek
  obtain ⟨mA, ns, rel⟩ : ∃ mA, s1.heap.Ns1 dd mA ∧ ∀ g, RelO (fs.lookup g) (mA g) := I1.hok dd _ ea
  obtain ⟨od, look, found⟩ := lookIn_ns ns
  have rv := rel n
  rw [l] at rv
  obtain ⟨u, mu, ru⟩ := RelO.some_of rv
  have no : PySem.W.notCls oe = true := by unfold PySem.W.notCls; rw [fv] <;> rfl
  have at_ : PySem.W.InstAt s1.heap a oe C (some od) := ⟨there, zc, no, by rw [zd]; exact look⟩
  have own := PySem.W.findObj_own (K := X.K) (C := C) (od := od) (name := n) (v := u) T.hdC hno rfl ((found n).trans (congrArg some mu))
  exact HandSPX.exc_get I1.kIn at_ T.ga T.gg T.exC own (handed_of ru) ⟨v, H1, I1.tok _, ru, q⟩
/-- a method called where an exception of it is awaited, by the slots as they stand -/
def tMethS (C : Addr) (m : Str) (sp : Sp) (E : L2.St → XK) (ta : TE) (t : TA) : TE := fun σ H Q => ta σ H fun x H1 => ∃ a dx fs, x = .ref a ∧ H1 a = some (.ins C dx fs) ∧ fs.lookup m = none ∧ t σ H1 fun vs H2 => sp (.ref a :: vs) H2 Q (E σ)
theorem pe_methS {X : Cx} {CX : CXT} {k : Nat} {f C : Addr} {fd : FuncData} {ps : List Str} {sp : Sp} {E : L2.St → XK} {m : Str} {pos apos : Pos} {e o : Expr} {es : List Expr} {ta : TE} {t : TA} {pl : Sem Bool} (he : PE X o ta) (c : Cls X.K C) (hm : Meth X.K C m f)
    (F : FnOk X.prog X.w X.K X.mg X.base CX k f fd ps sp) (hr : Room k X.A) (hb : Binds X.K fd ps []) (hx : ∀ σ, PassesAt CX X σ (E σ)) (ha : PA X (e :: es) t) (hst : starEach (e :: es) X.env = (false, eval e X.env) :: starEach es X.env := by rfl)
    (hpl : (backTo pos (starEach es X.env)).any (·.1) = false := by rfl)
    (ht : eval (.Call (.Attribute o m apos) (e :: es) [] pos) X.env = (do let ov ← eval o X.env; standAt apos.atName; let (f, first) ← holding [ov] (getMethod ov m pl); callWith pos f first (backTo pos (starEach (e :: es) X.env)) (backToKw pos (keywordEach [] X.env))) := by rfl) :
    PE X (.Call (.Attribute o m apos) (e :: es) [] pos) (tMethS C m sp E ta t) := by
  constructor
  intro pins s σ H Q I h
  refine PySem.W.methodCall_KW (pl := pl) (thn (he.run pins s σ H _ I h) ?_) ht
  rintro u s1 ⟨x, H1, I1, rx, a, dx, fs, rfl, ea, l, q⟩
  cases rx
  apply getmeth_ok I1 ea c hm l
  refine PySem.W.callWith_K (first := [.ref a]) (h₀ := X.base) I.ok.mod.kin hm.kp (thn (ha.run pos pins s1 σ H1 _ I1 q) ?_) hst hpl
  rintro us s2 ⟨vs, H2, I2, r, q2⟩
  exact ⟨I2.kIn, run_fnS (us := .ref a :: us) (vs := .ref a :: vs) F hr hb (hx σ) I2 (.cons rfl r) q2⟩
end
section
open PySem PySem.Spec PyProof.Rows L2
/-- isinstance(e, c), e a kept exception of an own class D with a dict -/
def rIsK (K : PySem.W.Frag) : List V → Hp → VK → Prop := fun xs H Q => ∃ (x D dd : Addr) (fs : List (Str × V)) (c : V) (cv : Value) (b : Bool), xs = [.ref x, c] ∧ ExcC K D ∧ H x = some (ExK (.ref D) (some dd) x) ∧ H dd = some (.xd fs) ∧ (∀ u, RelV c u → u = cv) ∧ PySem.W.kitOne K (.ref D) cv = some b ∧ Q (.bl b) H
theorem call_isK {X : Cx} : CallR X (.builtin "isinstance") (rIsK X.K) := by
  intro pins s σ H xs us Q I r h
  obtain ⟨x, D, dd, fs, c, cv, b, rfl, Z, ek, ed, hcv, e, q⟩ := h
  obtain ⟨oe, vs, there, ⟨zc, zd⟩, fv⟩ := exK_at I.hok ek
  obtain ⟨mA, ns, _⟩ : ∃ mA, s.heap.Ns1 dd mA ∧ ∀ g, RelO (fs.lookup g) (mA g) := I.hok dd _ ed
  obtain ⟨od, look, _⟩ := lookIn_ns ns
  have no : PySem.W.notCls oe = true := by unfold PySem.W.notCls; rw [fv] <;> rfl
  have at_ : PySem.W.InstAt s.heap x oe D (some od) := ⟨there, zc, no, by rw [zd]; exact look⟩
  have hcl : (PySem.W.clsIn X.K D).isSome = true := by
    obtain ⟨cd, hc, _⟩ := PySem.W.any_some Z.hd
    rw [hc]; rfl
  match us, r with
  | [_, u], .cons rx (.cons rc .nil) =>
    cases rx
    cases hcv _ rc
    exact PySem.W.kia_one (PySem.W.kitx_exc hcl Z.hg Z.hk Z.hs Z.ha Z.hn Z.ht Z.hm) I.kIn at_ e (fun z => nomatch z) fun tk => ⟨.bl b, H, I.kept (t' := tk) fun _ _ z => z, rfl, q⟩
end
namespace XB
open PySem PySem.Spec PyProof.Rows PySem.Builtin PySem.Builtin.ObjectAttr
/-- what is asked of a built-in error class that own ones stand under: B the one whose __new__ makes them, bm the line of the one they stand under -/
structure Facts (B newId initId : String) (bm : List Value) : Prop where
  base : ∃ bmB, ExcBaseFacts B newId initId bmB
  hB : bm.contains (.type B) = true
  hA : bm.contains (.type "AttributeError") = false
  hN : bm.contains (.type "NameError") = false
  free : ∀ self : Value, refuseLoop self "__setattr__" bm = pure ()
  thing : bm.contains (.type "object") = true
theorem lookupError : Facts "LookupError" "LookupError.__new__" "LookupError.__init__" [.type "LookupError", .type "Exception", .type "BaseException", .type "object"] := ⟨⟨_, PySem.F.excBase_LookupError⟩, by decide +kernel, by decide +kernel, by decide +kernel, fun _ => by kernel_rfl, by decide +kernel⟩
theorem runtimeError : Facts "RuntimeError" "RuntimeError.__new__" "RuntimeError.__init__" [.type "RuntimeError", .type "Exception", .type "BaseException", .type "object"] := ⟨⟨_, PySem.F.excBase_RuntimeError⟩, by decide +kernel, by decide +kernel, by decide +kernel, fun _ => by kernel_rfl, by decide +kernel⟩
theorem indexError : Facts "IndexError" "IndexError.__new__" "IndexError.__init__" [.type "IndexError", .type "LookupError", .type "Exception", .type "BaseException", .type "object"] := ⟨⟨_, PySem.F.excBase_IndexError⟩, by decide +kernel, by decide +kernel, by decide +kernel, fun _ => by kernel_rfl, by decide +kernel⟩
theorem valueError : Facts "ValueError" "ValueError.__new__" "ValueError.__init__" [.type "ValueError", .type "Exception", .type "BaseException", .type "object"] := ⟨⟨_, PySem.F.excBase_ValueError⟩, by decide +kernel, by decide +kernel, by decide +kernel, fun _ => by kernel_rfl, by decide +kernel⟩
/-- under an own class that stands there -/
theorem Facts.under {W : Addr} {B newId initId : String} {bm : List Value} (T : Facts B newId initId bm) : Facts B newId initId (.ref W :: bm) :=
  ⟨T.base, by rw [List.contains_cons, T.hB, Bool.or_true], by rw [List.contains_cons, T.hA]; rfl, by rw [List.contains_cons, T.hN]; rfl, fun self => by rw [refuseLoop_ref]; exact T.free self, by rw [List.contains_cons, T.thing, Bool.or_true]⟩
/-- a KeyError has no __new__ of its own -/
theorem keyError : Facts "LookupError" "LookupError.__new__" "LookupError.__init__" [.type "KeyError", .type "LookupError", .type "Exception", .type "BaseException", .type "object"] := ⟨⟨_, PySem.F.excBase_LookupError⟩, by decide +kernel, by decide +kernel, by decide +kernel, fun _ => by kernel_rfl, by decide +kernel⟩
section
variable {prog : Program} {w : World} {A : Around} {E : Value → Shared → Prop} {R : Result → Shared → Prop} {h : Heap} {g : Array GenState} {d : Drawn} {t : Nat} {os : OsState}
variable {nm q : Str} {C N : Addr} {bs bm : List Value} {hdct : Bool} {sn : List Str} {sub : List Value} {ab : Bool} {col : Option Bool} {dd : Option Addr} {k0 k1 k2 k3 k5 : Option Value} {B newId initId : String}
/-- the new one is laid by __new__ -/
theorem mk_new (T : Facts B newId initId bm) {rest : List Value} (hC : h.get? C = some (excClassObj nm q C N bs bm hdct sn sub ab col dd k0 k1 k2 k3 k5 newId)) (few : rest.length ≤ sizeLine)
    (go : R (.ok (.ret (.ref (h.objs.size + 1)))) ⟨(h.push (W.kdv_tup rest)).push (PySem.HandSPX.excO C h.objs.size), g, d, t, os⟩) : codeAny (model prog w) A (.builtin newId ⟨.ref C :: rest, []⟩) R ⟨h, g, d, t, os⟩ := by
  obtain ⟨bmB, F⟩ := T.base
  have e1 : (Value.ref C :: bm).contains (.type B) = true := by rw [List.contains_cons, T.hB, Bool.or_true]
  have e2 : (Value.ref C :: bm).contains (.type "AttributeError") = false := by rw [List.contains_cons, T.hA]; rfl
  have e3 : (Value.ref C :: bm).contains (.type "NameError") = false := by rw [List.contains_cons, T.hN]; rfl
  have e4 := F.ends
  refine codeAny_builtinAt F.entry ?_
  unfold Builtin.«BaseException.__new__»
  refine PySem.wpAt_bind (?_ : PySem.wpAt _ _ _ (stack >>= _) _ _ _)
  refine PySem.wpAt_bind (PySem.wpAt_stack fun _ _ => PySem.wpAt_of_wpAny ?_)
  wp_walk
  refine PySem.wpAt_of_wpAny (?_)
  rw [F.owner]
  repeat (first | (with_reducible refine wpAny_madeHere_exc F.canon hC ?_) | (with_reducible refine wpAny_loadPart_at hC ?_) | (with_reducible refine wpAny_isSubtype_exc hC ?_; (first | rw [e1] | rw [e2] | rw [e3])) | wp_step)
  show R _ _
  rw [Heap.size_push]
  exact go
theorem chk_new (T : Facts B newId initId bm) {rest : List Value} {Q : Unit → Shared → Prop} (hC : h.get? C = some (excClassObj nm q C N bs bm hdct sn sub ab col dd k0 k1 k2 k3 k5 newId)) (go : Q () ⟨h, g, d, t, os⟩) :
    wpAny (model prog w) A (checkBuiltinCall newId ⟨.ref C :: rest, []⟩) Q E ⟨h, g, d, t, os⟩ := by
  obtain ⟨bmB, F⟩ := T.base
  have e1 : (Value.ref C :: bm).contains (.type B) = true := by rw [List.contains_cons, T.hB, Bool.or_true]
  have e4 := F.noStar
  simp only [checkBuiltinCall, F.newRow, F.newSplit, F.newKind]
  repeat (first | refine wpAny_loadPart_at hC ?_ | (refine wpAny_isSubtype_exc hC ?_; (rw [e1])) | refine wpAny_madeBy_exc hC ?_ | refine wpAny_staticBase_exc hC ?_ | (simp only [bne_self_eq_false, Bool.false_eq_true, if_false]) | wp_step)
  exact go
theorem call_typ (T : Facts B newId initId bm) {rest : List Value} {fI : Addr} {Q : Fin → Shared → Prop} (hC : h.get? C = some (excClassObj nm q C N bs bm hdct sn sub ab col dd k0 k1 k2 k3 k5 newId)) (few : rest.length ≤ sizeLine)
    (hi : W.Looks (model prog w) h (typeLookup (.ref C) "__init__") (some (.ref fI))) (hb : ∀ self, W.Looks (model prog w) h (bindSpecial (.ref fI) self) (.ref fI, [self]))
    (go : codeAny (model prog w) A (.call (.ref fI) ⟨.ref (h.objs.size + 1) :: rest, []⟩) (fun r s' => match r with | .ok (.ret v) => v = .none ∧ Q (.done (.ret (.ref (h.objs.size + 1)))) s' | .ok _ => False | .error e => E e s') ⟨(h.push (W.kdv_tup rest)).push (PySem.HandSPX.excO C h.objs.size), g, d, t, os⟩) :
    wpAny (model prog w) A (Builtin.«type.__call__» ⟨.ref C :: rest, []⟩) Q E ⟨h, g, d, t, os⟩ := by
  obtain ⟨bmB, F⟩ := T.base
  repeat (first | (with_reducible refine wpAny_loadPart_at hC ?_) | (with_reducible refine wpAny_madeBy_exc hC ?_) | wp_step)
  refine codeAny_call_builtin_code (Code.quiet_builtin _ F.quiet) (chk_new T hC (mk_new T hC few ?_))
  show wpAny _ _ _ _ _ _
  have up : ∀ b o, h.get? b = some o → ((h.push (W.kdv_tup rest)).push (PySem.HandSPX.excO C h.objs.size)).get? b = some o := fun _ _ z => Heap.get?_push_of_some _ (Heap.get?_push_of_some _ z)
  have hC1 := up _ _ hC
  have at1 : ((h.push (W.kdv_tup rest)).push (PySem.HandSPX.excO C h.objs.size)).get? (h.objs.size + 1) = some (PySem.HandSPX.excO C h.objs.size) := by heap_get
  have e1 : (Value.ref C :: bm).contains (.ref C) = true := by simp
  have i1 := hi.keeps up
  have b1 := (hb (.ref (h.objs.size + 1))).keeps up
  unfold isInstance
  repeat (first | (with_reducible refine wpAny_loadPart_at at1 ?_) | (with_reducible refine wpAny_isSubtype_exc hC1 ?_; (rw [e1])) | wp_step)
  refine (i1.at ?_ : wpAny _ _ (typeLookup (.ref C) _) _ _ _)
  refine wpAny_holding (wpAny_bind (b1.at (wpAny_bind (wpAny_call (codeAny_mono go fun r s' z => ?_)))))
  rcases r with e | (v | _ | _ | _) <;> first | exact z.elim | exact z | skip
  obtain ⟨rfl, z⟩ := z
  first | exact wpAny_pure (wpAny_pure z) | (wp_walk; exact z)
theorem call_cls (T : Facts B newId initId bm) {rest : List Value} {fI : Addr} (hC : h.get? C = some (excClassObj nm q C N bs bm hdct sn sub ab col dd k0 k1 k2 k3 k5 newId))
    (hi : W.Looks (model prog w) h (typeLookup (.ref C) "__init__") (some (.ref fI))) (hb : ∀ self, W.Looks (model prog w) h (bindSpecial (.ref fI) self) (.ref fI, [self])) (few : rest.length ≤ sizeLine)
    (go : codeAny (model prog w) (A.under (.builtin "type.__call__" ⟨.ref C :: rest, []⟩)) (.call (.ref fI) ⟨.ref (h.objs.size + 1) :: rest, []⟩) (W.InitBack (h.objs.size + 1) R) ⟨(h.push (W.kdv_tup rest)).push (PySem.HandSPX.excO C h.objs.size), g, d, t, os⟩) :
    codeAny (model prog w) A (.call (.ref C) ⟨rest, []⟩) R ⟨h, g, d, t, os⟩ := by
  have z1 := tc_lookup
  have z2 := tc_bind (.ref C)
  have z3 : (⟨h, g, d, t, os⟩ : Shared).TypeIs (.ref C) "type" := ⟨_, hC, rfl⟩
  refine codeAny_of_tree (?_ : wpAny _ _ (callAny (.ref C) _) _ _ _)
  repeat (any_goals (first | assumption | (with_reducible refine wpAny_loadPart_at hC ?_) | wp_step))
  refine ⟨rfl, codeAny_call_builtin_at (Code.quiet_builtin _ (by decide +kernel)) entry_typeCall (wpAny_check_type_call_sub hC (call_typ T hC few hi hb ?_))⟩
  refine codeAny_mono go fun r s' z => ?_
  rcases r with e | (v | _ | _ | _) <;> exact z
end
/-- the first field of a new error, whatever built-in class its own class stands under -/
theorem first_field {prog : Program} {w : World} {A : Around} {R : Result → Shared → Prop} {h : Heap} {g : Array GenState} {d : Drawn} {t : Nat} {os : OsState} {K : W.Frag} {name : Str} {tk : Tok} {v : Value} {x C : Addr} {fv : Array Value} {cd : ClassData}
    (X : K.In h) (hx : h.get? x = some { cls := .ref C, data := .fields fv }) (hcd : W.clsIn K C = some cd) (some_ : cd.mro.isEmpty = false) (thing : cd.mro.contains (.type "object") = true) (free : ∀ self : Value, refuseLoop self "__setattr__" cd.mro = pure ())
    (own : cd.hasDict = true) (no : W.findIn K (.ref C) name = some none)
    (q : ∀ h' tk' dx, (∀ b o, b ≠ x → h.get? b = some o → h'.get? b = some o) → h.objs.size ≤ dx → dx ≠ x → h'.get? x = some { cls := .ref C, dict := some dx, data := .fields fv } → h'.Ns1 dx (fun y => if y = name then some v else none) → R (.ok (.ret .none)) ⟨h', g, d, tk', os⟩) :
    codeAny (model prog w) A (.call (.builtin "object.__setattr__") ⟨[.ref x, .str name tk, v], []⟩) R ⟨h, g, d, t, os⟩ := by
  have at_ : W.InstAt h x { cls := .ref C, data := .fields fv } C none := ⟨hx, rfl, rfl, trivial⟩
  have apart : x ≠ h.objs.size := Nat.ne_of_lt (Heap.lt_size hx)
  have class_ : W.Looks (model prog w) h (classData C) cd := W.looks_clsIn X hcd
  have line_ : W.Looks (model prog w) h (mroOf (.ref C)) cd.mro := class_.andThen .now
  have under : W.Looks (model prog w) h (isInstance (.ref x) (.type "object")) true := at_.type.andThen (W.looks_mroIn X (by unfold W.mroIn; rw [hcd, Option.bind_some, if_neg (by rw [some_]; decide), thing]))
  have st := PySem.F.store_object
  refine codeAny_call_builtin st.slot.plain st.entry (@W.check_slot (model prog w) _ _ ⟨h, g, d, t, os⟩ "object.__setattr__" "object" "__setattr__" (.ref x) [.str name tk, v] [] _ st.kind st.split under (st.args (.ref x) (.str name tk) v) ?_)
  have none_ : W.Looks (model prog w) h (storeTaker? none) none := .now
  rw [W.osa_eq, refuse_eq]
  refine wpAny_bind (wpAny_bind (at_.type.at (wpAny_bind (line_.at ?_))))
  rw [free]
  refine wpAny_pure ?_
  refine wpAny_bind (at_.type.at (wpAny_bind ((W.looks_findIn X no).at (wpAny_bind (none_.at ?_)))))
  show wpAny _ _ (storeInOwnDict (.ref x) (.ref C) (.str name tk) name v false) _ _ _
  cases cd
  cases own
  unfold storeInOwnDict ownDictForStores
  repeat (first | with_reducible refine PySem.HandSPX.store_in_new ?_ ?_ | with_reducible refine wpAny_loadPart_at hx ?_ | with_reducible refine class_.at ?_ | wp_step)
  · exact ⟨_, #[], _, (Heap.get?_update_ne _ _ _ _ apart.symm).trans (Heap.get?_push_at rfl rfl), rfl, fun e he => absurd he (by simp), fun _ => rfl⟩
  · intro h' tk' new only
    have hx1 : (h.push { cls := .type "dict", data := .dict #[] }).get? x = some { cls := .ref C, data := .fields fv } := Heap.get?_push_of_some _ hx
    exact q h' tk' h.objs.size (fun b o nb ob => (only.2 b (Nat.ne_of_lt (Heap.lt_size ob))).trans ((Heap.get?_update_ne _ _ _ _ nb).trans (Heap.get?_push_of_some _ ob))) (Nat.le_refl _) apart.symm ((only.2 x apart).trans (Heap.get?_update_self _ hx1 rfl)) new

open L2
/-- what the written part says of an own error class that stands straight under a built-in one -/
structure Own (K : PySem.W.Frag) (C : Addr) (B newId initId : String) (bm : List Value) : Prop where
  fx : Facts B newId initId bm
  cls : ∃ nm q N bs sn sub ab col dd k0 k1 k2 k3 k5, K.lookup C = some (excClassObj nm q C N bs bm true sn sub ab col dd k0 k1 k2 k3 k5 newId)
  sa : PySem.W.findIn K (.ref C) "__setattr__" = some (some (.builtin "object.__setattr__"))
  exC : PySem.W.subIn K (.ref C) (.type "BaseException") = some true
  tyC : PySem.W.typeIn K (.ref C) = some (.type "type")
  kC : PySem.W.keepIn K (.ref C) = true
section
variable {X : Cx} {pins : List (Addr × Obj)} {σ : L2.St} {H : Hp} {s : Shared} {a C : Addr} {f : Str} {y : V} {u : Value} {Q : Unit → Shared → Prop} {E : Value → Shared → Prop} {A : Around} {B newId initId : String} {bm : List Value}
/-- self.f = y of a new error that has no field yet -/
theorem put_first (T : Own X.K C B newId initId bm) (I : Inv X pins σ H s) (e : H a = some (exo a C none)) (no : PySem.W.findIn X.K (.ref C) f = some none) (ry : RelV y u)
    (q : ∀ dx s', H dx = none → dx ≠ a → Inv X pins σ (upd (upd H dx (exd dx [(f, y)])) a (exo a C (some dx))) s' → Q () s') : wpAny (model X.prog X.w) A (setAttr (.ref a) f u) Q E s := by
  obtain ⟨nm, qn, N, bs, sn, sub, ab, col, dd, k0, k1, k2, k3, k5, hC⟩ := T.cls
  have cl : PySem.W.clsIn X.K C = some { name := nm, bases := bs, mro := .ref C :: bm, ns := N, qualname := qn, hasDict := true, slotNames := sn, subclasses := sub, abstract := ab, collection := col, hasDel := false } := by
    unfold PySem.W.clsIn
    rw [hC] <;> rfl
  obtain ⟨t1, there⟩ := exo_at I.hok e
  obtain ⟨h, g, d, t, os⟩ := s
  refine PySem.W.set_plain I.kIn (ox := { cls := .ref C, dict := none, data := .fields #[.ref t1, .none, .none, .none, .bool false, .none] }) (od := none) ⟨there, rfl, rfl, trivial⟩ T.sa ?_
  refine first_field I.kIn there cl rfl (by show (Value.ref C :: bm).contains _ = true; rw [List.contains_cons, T.fx.thing, Bool.or_true]) (fun self => by show refuseLoop self _ (.ref C :: bm) = _; rw [refuseLoop_ref]; exact T.fx.free self) rfl no ?_
  intro h' tk' dx keep new na here ns
  have fresh : H dx = none := I.hok.fresh new
  have off : ∀ {b : Addr} {o : Obj}, h.get? b = some o → b ≠ dx := fun z => Nat.ne_of_lt (Nat.lt_of_lt_of_le (Heap.lt_size z) new)
  have other : ∀ {b : Addr}, H b = none → b ≠ a := fun n z => by
    rw [z, e] at n
    cases n
  have two : ∀ {b : Addr}, b ≠ a → b ≠ dx → (upd (upd H dx (exd dx [(f, y)])) a (exo a C (some dx))) b = H b := fun n1 n2 => by rw [upd_ne n1, upd_ne n2]
  refine q dx _ fresh na (I.un (t' := tk') ⟨fun b o z n _ _ => keep b o (other n) z, fun b o z n _ _ => ⟨o.slots, keep b o (other n) z⟩, fun b o z n _ => by rw [two (other n) (off z)]; exact n, fun b o z _ => ?_,
    fun b xs z => by rw [two (at_ne e z exo_tup) (ne_of_none z fresh)]; exact z, fun b o v z => by rw [two (at_ne e z exo_frz) (ne_of_none z fresh)]; exact z, fun b ps z => ⟨#[], by rw [two (at_ne e z exo_tbl) (ne_of_none z fresh), z]; simp⟩⟩ fun b o z => ?_)
  · by_cases c : b = a
    · exact ⟨_, by rw [c]; exact here⟩
    · exact ⟨o, keep b o c z⟩
  · by_cases c : b = a
    · subst c
      rw [upd_same] at z
      cases z
      exact exo_ok here
    · by_cases c2 : b = dx
      · subst c2
        rw [upd_ne c, upd_same] at z
        cases z
        exact exd_ok ns (relO_put (fs := []) ry fun g => True.intro)
      · rw [two c c2] at z
        refine (I.hok b o z).stay (fun b' v hb z' => keep b' v ?_ z') (fun b' hb => by rw [two (at_ne e hb exo_own) (ne_of_none hb fresh)]; exact hb) (fun b' xs hb => by rw [two (at_ne e hb exo_tup) (ne_of_none hb fresh)]; exact hb)
        rcases hb with hb | hb
        · rw [hb]
          exact c
        · exact at_ne e hb exo_own
end
/-- self.f = e in the own __init__, the first one -/
def tPut (K : PySem.W.Frag) (C : Addr) (f : Str) (to te : TE) : TS := fun D σ H => te σ H fun y H1 => to σ H1 fun x H2 => ∃ a : Addr, x = .ref a ∧ H2 a = some (exo a C none) ∧ ∀ dx, H2 dx = none → dx ≠ a → D.nx σ (upd (upd H2 dx (exd dx [(f, y)])) a (exo a C (some dx)))
section
variable {X : Cx} {C : Addr} {B newId initId : String} {bm : List Value} {o e : Expr} {es : List Expr} {to te : TE} {ta : TA} {f : Str} {p p' pos : Pos}
theorem ps_put (T : Own X.K C B newId initId bm) (no : PySem.W.findIn X.K (.ref C) f = some none) (ho : PE X o to) (he : PE X e te) (hs : swapsWith e (some (.Attribute o f p')) pos.line X.env = pure false := by rfl) : PS X (.Assign [.Attribute o f p'] e pos) (tPut X.K C f to te) := by
  constructor
  intro pins s σ H D I h
  refine plainObj_wpAny_Assign_Attribute (thn (he.run pins s σ H _ I h) ?_) hs
  rintro v s1 ⟨y, H1, I1, r1, q1⟩
  refine thn (ho.run pins s1 σ H1 _ I1 q1) ?_
  rintro u s2 ⟨x, H2, I2, r2, a, rfl, ea, q⟩
  cases r2
  exact put_first T I2 ea no r1 fun dx s' n ne J => ⟨σ, _, J, q dx n ne⟩
/-- C(e, ..) of such a class, to be raised -/
theorem pmk {CX : CXT} {x : Str} {fI : Addr} {k : Nat} {fd : FuncData} {ps : List Str} {sp : Sp} (T : Own X.K C B newId initId bm) (iC : PySem.W.findIn X.K (.ref C) "__init__" = some (some (.ref fI))) (tI : PySem.W.typeIn X.K (.ref fI) = some (.type "function"))
    (F1 : FnOk X.prog X.w X.K X.mg X.base CX k fI fd ps sp) (hr : Room (k + 1) X.A) (hb : Binds X.K fd ps []) (hx : Passes CX X (fun _ _ _ => False)) (hg : Gl X x) (hm : X.mg x = some (.ref C)) (ha : PA X (e :: es) ta)
    (hdb : (x == ("__debug__" : Str)) = false := by decide) (he : starEach (e :: es) X.env = (false, eval e X.env) :: starEach es X.env := by rfl) (hpl : (backTo pos (starEach es X.env)).any (·.1) = false := by rfl) :
    PMk X (.Call (.Name x p) (e :: es) [] pos) (tMkO C sp [] ta) := by
  intro pins s σ H Q I h
  obtain ⟨nm, qn, N, bs, sn, sub, ab, col, dd, k0, k1, k2, k3, k5, hC⟩ := T.cls
  refine wpAny_Call_Name_kw (ld_glob I hg hm ?_ hdb)
  refine PySem.W.callWith_K (h₀ := X.base) I.ok.mod.kin T.kC (thn (ha.run pos pins s σ H _ I h) ?_) he hpl
  rintro us ⟨hp, g, dr, tk, os⟩ ⟨vs, H1, I1, r1, hz, q1⟩
  refine ⟨I1.kIn, ?_⟩
  have new : hp.objs.size ≤ hp.objs.size + 1 := Nat.le_succ _
  have hq := q1 (hp.objs.size + 1) (I1.hok.fresh new)
  have grow : ∀ b o, hp.get? b = some o → ((hp.push (PySem.W.kdv_tup us)).push (PySem.HandSPX.excO C hp.objs.size)).get? b = some o := fun b o z => Heap.get?_push_of_some _ (Heap.get?_push_of_some _ z)
  have there : ((hp.push (PySem.W.kdv_tup us)).push (PySem.HandSPX.excO C hp.objs.size)).get? (hp.objs.size + 1) = some (PySem.HandSPX.excO C hp.objs.size) := by heap_get
  have I2 := I1.laid (t' := tk) (a := hp.objs.size + 1) (o := exo (hp.objs.size + 1) C none) (h' := (hp.push (PySem.W.kdv_tup us)).push (PySem.HandSPX.excO C hp.objs.size)) grow new (exo_ok there)
  rw [List.append_nil] at hq
  have r2 : Vals (V.ref (hp.objs.size + 1) :: vs) (Value.ref (hp.objs.size + 1) :: us) := .cons rfl r1
  have len : (Value.ref (hp.objs.size + 1) :: us ++ []).length = ps.length := by
    have z := r2.length
    rw [F1.len _ _ _ _ hq] at z
    rw [List.append_nil]
    exact z.symm
  have few : us.length ≤ sizeLine := by
    rw [← Paired.length r1, sizeLine_eq]
    omega
  have bd := hb _ (Value.ref (hp.objs.size + 1) :: us) I2.kIn len
  rw [List.append_nil] at bd
  refine wpAny_call (call_cls T.fx (I1.kIn _ _ hC) (PySem.W.looks_findIn I1.kIn iC) (fun self => PySem.W.bind_fn I1.kIn self tI) few
    (codeAny_mono (F1.run _ X.stack _ _ ⟨Value.ref (hp.objs.size + 1) :: us, []⟩ (Value.ref (hp.objs.size + 1) :: us) _ _ (fun _ _ _ => False) (hr.make C us []) (I2.env0.make C us []) bd r2 hq) fun r s' z => ?_))
  cases r with
  | error er => exact hx pins σ _ _ er s' I2 z
  | ok fl =>
    cases fl with
    | ret u =>
      obtain ⟨v, H2, os2, bare2, un2, hok2, rv, ev, d, fs, ea, ed, hd1, q2⟩ := z
      cases ev
      obtain ⟨h2, g2, d2, t2, os'⟩ := s'
      exact ⟨rv, mk_end (raises_own T.exC T.tyC) I1 new grow un2 hok2 os2 bare2 ea ed hd1 q2⟩
    | next => exact z.elim
    | brk => exact z.elim
    | cont => exact z.elim
end
end XB
section
open PySem PySem.Spec PyProof.Rows L2
theorem run_fnNS {X : Cx} {CX : CXT} {k n : Nat} {f : Addr} {fd : FuncData} {ps ks : List Str} {sp : Sp} {E : XK} {g : List Value → List Value → List Value} {gV : List V → List V → List V} {pins : List (Addr × Obj)} {σ : L2.St} {H : Hp} {s : Shared} {Q : VK} {us ws : List Value} {vs zs : List V} (F : FnOk X.prog X.w X.K X.mg X.base CX k f fd ps sp) (hr : Room k X.A) (hb : KBn X.K fd ps n ks g gV) (hx : PassesAt CX X σ E)
    (I : Inv X pins σ H s) (r : Vals vs us) (rz : Vals zs ws) (l1 : vs.length = n) (l2 : zs.length = ks.length) (h : sp (gV vs zs) H Q E) : wpAny (model X.prog X.w) X.A (call (.ref f) us (ks.zip ws)) (EP X pins σ Q) X.xe s := by
  have r2 := hb.rel r rz
  refine wpAny_call (codeAny_mono (F.run X.A X.stack s H ⟨us, ks.zip ws⟩ (g us ws) (gV vs zs) Q E hr I.env0 (hb.to s us ws I.kIn (r.length.symm.trans l1) (rz.length.symm.trans l2)) r2 h) fun r s' hq => ?_)
  cases r with
  | error e => exact hx pins H s e s' I hq
  | ok fl =>
    cases fl with
    | ret u => exact I.after hq
    | next => exact False.elim hq
    | brk => exact False.elim hq
    | cont => exact False.elim hq
/-- o.m(e, .., k = v, ..) where an exception of it is awaited -/
def tMethNS (C : Addr) (m : Str) (n c : Nat) (sp : Sp) (gV : List V → List V → List V) (E : L2.St → XK) (ta : TE) (t tk : TA) : TE := fun σ H Q => ta σ H fun x H1 => ∃ a dx fs, x = .ref a ∧ H1 a = some (.ins C dx fs) ∧ fs.lookup m = none ∧
  t σ H1 fun vs H2 => tk σ H2 fun zs H3 => vs.length + 1 = n ∧ zs.length = c ∧ sp (gV (.ref a :: vs) zs) H3 Q (E σ)
theorem pe_methNS {X : Cx} {CX : CXT} {k n : Nat} {f C : Addr} {fd : FuncData} {ps ks : List Str} {sp : Sp} {E : L2.St → XK} {m : Str} {pos apos : Pos} {e o : Expr} {es : List Expr} {kws : List Keyword} {ta : TE} {t tk : TA} {pl : Sem Bool} {g : List Value → List Value → List Value} {gV : List V → List V → List V}
    (he : PE X o ta) (c : Cls X.K C) (hm : Meth X.K C m f) (F : FnOk X.prog X.w X.K X.mg X.base CX k f fd ps sp) (hr : Room k X.A) (hb : KBn X.K fd ps n ks g gV) (hx : ∀ σ, PassesAt CX X σ (E σ)) (ha : PA X (e :: es) t) (hkw : PK X kws tk)
    (hall : (backToKw pos (keywordEach kws X.env)).all (·.1.isSome) = true := by rfl) (hks : (backToKw pos (keywordEach kws X.env)).filterMap (·.1) = ks := by rfl) (hst : starEach (e :: es) X.env = (false, eval e X.env) :: starEach es X.env := by rfl)
    (hpl : ((backTo pos (starEach (e :: es) X.env)).any (·.1) || (backToKw pos (keywordEach kws X.env)).any (·.1.isNone)) = false := by rfl)
    (ht : eval (.Call (.Attribute o m apos) (e :: es) kws pos) X.env = (do let ov ← eval o X.env; standAt apos.atName; let (f, first) ← holding [ov] (getMethod ov m pl); callWith pos f first (backTo pos (starEach (e :: es) X.env)) (backToKw pos (keywordEach kws X.env))) := by rfl) :
    PE X (.Call (.Attribute o m apos) (e :: es) kws pos) (tMethNS C m n ks.length sp gV E ta t tk) := by
  constructor
  intro pins s σ H Q I h
  refine PySem.W.methodCall_KW (pl := pl) (thn (he.run pins s σ H _ I h) ?_) ht
  rintro u s1 ⟨x, H1, I1, rx, a, dx, fs, rfl, ea, l, q⟩
  cases rx
  apply getmeth_ok I1 ea c hm l
  refine PySem.W.callWith_KW (first := [.ref a]) (h₀ := X.base) I.ok.mod.kin hm.kp hall (thn (ha.run pos pins s1 σ H1 _ I1 q) ?_) hpl hst
  rintro us s2 ⟨vs, H2, I2, r, q2⟩
  refine thn (hkw.run pos pins s2 σ H2 _ I2 q2) ?_
  rintro ws s3 ⟨zs, H3, I3, rz, l1, l2, q3⟩
  refine ⟨I3.kIn, ?_⟩
  rw [hks]
  exact run_fnNS (us := .ref a :: us) (vs := .ref a :: vs) F hr hb (hx σ) I3 (.cons rfl r) rz l1 l2 q3
/-- an own error made and kept, not raised -/
def tMkx (t : L2.St → Hp → XK → Prop) : TE := fun σ H Q => t σ H fun cls d H' => ∀ a, H' a = none → Q (.ref a) (upd H' a (ExK cls d a))
theorem pe_mkx {X : Cx} {e : Expr} {t : L2.St → Hp → XK → Prop} (he : PMk X e t) : PE X e (tMkx t) := by
  constructor
  intro pins s σ H Q I h
  refine wpAny_mono (he pins s σ H _ I h) (fun u s1 hu => ?_) fun _ _ x => x
  obtain ⟨a, oe, vs, sI, H', cls, d, rfl, J, k, hne, ha, hz, hd, h1, na, os, ag, r, q⟩ := hu
  have J1 := J.kept (h' := s1.heap) (t' := s1.toks) k
  have J2 : Inv X pins σ H' s1 := ⟨J1.ok, os.trans J.os, ag, J1.base, J1.loc, J1.cell, J1.free, J1.freeC, J1.pin, J1.hok, J1.len⟩
  have nL : a ≠ X.env.locals := fun z => by
    obtain ⟨m, hn, _⟩ := J.loc
    obtain ⟨o, _, _, e, _⟩ := hn
    rw [← z, hne] at e
    cases e
  exact ⟨.ref a, _, inv_track J J2 hne na nL (exK_ok ha hz hd), rfl, q a na⟩
end
section
open PySem PySem.Spec PyProof.Rows L2
variable {X : Cx} {CX : CXT} {k : Nat} {f C : Addr} {fd : FuncData} {ps : List Str} {sp : Sp} {E : L2.St → XK} {x m : Str} {p pos apos : Pos} {e o : Expr} {es : List Expr} {ta : TE} {t : TA}
/-- C(..) whose __init__ may raise, where a clause of a try reads slots -/
def tMakeS (C : Addr) (sp : Sp) (E : L2.St → XK) (t : TA) : TE := fun σ H Q => t σ H fun vs H1 => ∀ x dx, H1 x = none → H1 dx = none → dx ≠ x → sp (.ref x :: vs) (upd (upd H1 dx (.own x)) x (.ins C dx [])) (fun v H2 => v = .non ∧ Q (.ref x) H2) (E σ)
theorem run_makeS {pins : List (Addr × Obj)} {σ : L2.St} {H : Hp} {s : Shared} {Q : VK} {us : List Value} {vs : List V} {E : XK} (mq : Mk X.K C f) (F : FnOk X.prog X.w X.K X.mg X.base CX k f fd ps sp) (hr : Room (k + 1) X.A) (hb : Binds X.K fd ps []) (hx : PassesAt CX X σ E) (I : Inv X pins σ H s) (r : Vals vs us)
    (h : ∀ x dx, H x = none → H dx = none → dx ≠ x → sp (.ref x :: vs) (upd (upd H dx (.own x)) x (.ins C dx [])) (fun v H2 => v = .non ∧ Q (.ref x) H2) E) : wpAny (model X.prog X.w) X.A (call (.ref C) us) (EP X pins σ Q) X.xe s := by
  have hq := h (s.heap.objs.size + 1) s.heap.objs.size (I.hok.fresh (Nat.le_succ _)) (I.hok.fresh (Nat.le_refl _)) (Nat.ne_of_lt (Nat.lt_succ_self _))
  have J := Inv.made (C := C) I
  have r2 : Vals (V.ref (s.heap.objs.size + 1) :: vs) (Value.ref (s.heap.objs.size + 1) :: us) := .cons rfl r
  have hl : (Value.ref (s.heap.objs.size + 1) :: us ++ []).length = ps.length := by rw [List.append_nil, ← r2.length]; exact F.len _ _ _ _ hq
  have b := hb _ (Value.ref (s.heap.objs.size + 1) :: us) J.kIn hl
  rw [List.append_nil] at b
  refine wpAny_call (make_map (f := f) I.kIn mq.makes mq.init (beq_iff_eq.mp mq.fn) (codeAny_mono (F.run _ X.stack _ _ ⟨Value.ref (s.heap.objs.size + 1) :: us, []⟩ _ _ _ E (hr.make C us []) (J.env0.make C us []) b r2 hq) fun res s' z => ?_))
  cases res with
  | error er => exact hx pins _ _ er s' J z
  | ok fl =>
    cases fl with
    | ret u =>
      obtain ⟨v, H', I3, rv, rfl, q3⟩ := J.after z
      exact ⟨rv, V.ref (s.heap.objs.size + 1), H', I3, rfl, q3⟩
    | _ => exact z.elim
theorem pe_makeS (mq : Mk X.K C f) (F : FnOk X.prog X.w X.K X.mg X.base CX k f fd ps sp) (hr : Room (k + 1) X.A) (hg : Gl X x) (hm : X.mg x = some (.ref C)) (hb : Binds X.K fd ps []) (hx : ∀ σ, PassesAt CX X σ (E σ)) (ha : PA X (e :: es) t)
    (hdb : (x == ("__debug__" : Str)) = false := by decide) (he : starEach (e :: es) X.env = (false, eval e X.env) :: starEach es X.env := by rfl) (hpl : (backTo pos (starEach es X.env)).any (·.1) = false := by rfl) : PE X (.Call (.Name x p) (e :: es) [] pos) (tMakeS C sp E t) := by
  constructor
  intro pins s σ H Q I h
  refine wpAny_Call_Name_kw (ld_glob I hg hm (PySem.W.callWith_K (h₀ := X.base) I.ok.mod.kin mq.kp (thn (ha.run pos pins s σ H _ I h) ?_) he hpl) hdb)
  rintro us s1 ⟨vs, H1, I1, r, q⟩
  exact ⟨I1.kIn, run_makeS mq F hr hb (hx σ) I1 r q⟩
/-- o.m() that may raise, likewise -/
theorem pe_methS0 {pl : Sem Bool} (he : PE X o ta) (c : Cls X.K C) (hm : Meth X.K C m f) (F : FnOk X.prog X.w X.K X.mg X.base CX k f fd ps sp) (hr : Room k X.A) (hb : Binds X.K fd ps []) (hx : ∀ σ, PassesAt CX X σ (E σ))
    (ht : eval (.Call (.Attribute o m apos) [] [] pos) X.env = (do let ov ← eval o X.env; standAt apos.atName; let (f, first) ← holding [ov] (getMethod ov m pl); callWith pos f first (backTo pos (starEach [] X.env)) (backToKw pos (keywordEach [] X.env))) := by rfl) :
    PE X (.Call (.Attribute o m apos) [] [] pos) (tMethS C m sp E ta tNil) := by
  constructor
  intro pins s σ H Q I h
  refine PySem.W.methodCall_KW (pl := pl) (thn (he.run pins s σ H _ I h) ?_) ht
  rintro u s1 ⟨x, H1, I1, rx, a, dx, fs, rfl, ea, l, q⟩
  cases rx
  refine getmeth_ok I1 ea c hm l (PySem.W.callWith_K0 (first := [.ref a]) I1.kIn hm.kp ?_)
  exact run_fnS (us := [.ref a]) (vs := [.ref a]) F hr hb (hx σ) I1 (.cons rfl .nil) q
end
section
open PySem PySem.Spec PyProof.Rows L2
/-- C(e, .., k = v, ..) whose __init__ may raise, where a clause of a try reads slots -/
def tMakeNS (C : Addr) (n m : Nat) (sp : Sp) (gV : List V → List V → List V) (E : L2.St → XK) (t tk : TA) : TE := fun σ H Q => t σ H fun vs H1 => tk σ H1 fun zs H2 => vs.length = n ∧ zs.length = m ∧
  ∀ x dx, H2 x = none → H2 dx = none → dx ≠ x → sp (gV (.ref x :: vs) zs) (upd (upd H2 dx (.own x)) x (.ins C dx [])) (fun v H3 => v = .non ∧ Q (.ref x) H3) (E σ)
variable {X : Cx} {CX : CXT} {k n : Nat} {f C : Addr} {fd : FuncData} {ps ks : List Str} {sp : Sp} {x : Str} {p pos : Pos} {e : Expr} {es : List Expr} {kws : List Keyword} {t tk : TA} {g : List Value → List Value → List Value} {gV : List V → List V → List V}
theorem run_makeNS {pins : List (Addr × Obj)} {σ : L2.St} {H : Hp} {s : Shared} {Q : VK} {us ws : List Value} {vs zs : List V} {E : XK} (mq : Mk X.K C f) (F : FnOk X.prog X.w X.K X.mg X.base CX k f fd ps sp) (hr : Room (k + 1) X.A) (hb : KBn X.K fd ps (n + 1) ks g gV) (hx : PassesAt CX X σ E)
    (I : Inv X pins σ H s) (r : Vals vs us) (rz : Vals zs ws) (l1 : vs.length = n) (l2 : zs.length = ks.length)
    (h : ∀ x dx, H x = none → H dx = none → dx ≠ x → sp (gV (.ref x :: vs) zs) (upd (upd H dx (.own x)) x (.ins C dx [])) (fun v H2 => v = .non ∧ Q (.ref x) H2) E) :
    wpAny (model X.prog X.w) X.A (call (.ref C) us (ks.zip ws)) (EP X pins σ Q) X.xe s := by
  have hq := h (s.heap.objs.size + 1) s.heap.objs.size (I.hok.fresh (Nat.le_succ _)) (I.hok.fresh (Nat.le_refl _)) (Nat.ne_of_lt (Nat.lt_succ_self _))
  have J := Inv.made (C := C) I
  have r1 : Vals (V.ref (s.heap.objs.size + 1) :: vs) (Value.ref (s.heap.objs.size + 1) :: us) := .cons rfl r
  have e1 : (Value.ref (s.heap.objs.size + 1) :: us).length = n + 1 := r1.length.symm.trans (congrArg Nat.succ l1)
  refine wpAny_call (make_map (f := f) I.kIn mq.makes mq.init (beq_iff_eq.mp mq.fn) (codeAny_mono (F.run _ X.stack _ _ ⟨Value.ref (s.heap.objs.size + 1) :: us, ks.zip ws⟩ (g (Value.ref (s.heap.objs.size + 1) :: us) ws) _ _ E (hr.make C us (ks.zip ws))
    (J.env0.make C us (ks.zip ws)) (hb.to _ (Value.ref (s.heap.objs.size + 1) :: us) ws J.kIn e1 (rz.length.symm.trans l2)) (hb.rel r1 rz) hq) fun res s' z => ?_))
  cases res with
  | error er => exact hx pins _ _ er s' J z
  | ok fl =>
    cases fl with
    | ret u =>
      obtain ⟨v, H', I3, rv, rfl, q3⟩ := J.after z
      exact ⟨rv, V.ref (s.heap.objs.size + 1), H', I3, rfl, q3⟩
    | _ => exact z.elim
theorem pe_makeNS {E : L2.St → XK} (mq : Mk X.K C f) (F : FnOk X.prog X.w X.K X.mg X.base CX k f fd ps sp) (hr : Room (k + 1) X.A) (hg : Gl X x) (hm : X.mg x = some (.ref C)) (hb : KBn X.K fd ps (n + 1) ks g gV) (hx : ∀ σ, PassesAt CX X σ (E σ))
    (ha : PA X (e :: es) t) (hkw : PK X kws tk) (hall : (backToKw pos (keywordEach kws X.env)).all (·.1.isSome) = true := by rfl) (hks : (backToKw pos (keywordEach kws X.env)).filterMap (·.1) = ks := by rfl)
    (hdb : (x == ("__debug__" : Str)) = false := by decide) (he : starEach (e :: es) X.env = (false, eval e X.env) :: starEach es X.env := by rfl)
    (hpl : ((backTo pos (starEach (e :: es) X.env)).any (·.1) || (backToKw pos (keywordEach kws X.env)).any (·.1.isNone)) = false := by rfl) :
    PE X (.Call (.Name x p) (e :: es) kws pos) (tMakeNS C n ks.length sp gV E t tk) := by
  constructor
  intro pins s σ H Q I h
  refine wpAny_Call_Name_kw (ld_glob I hg hm ?_ hdb)
  refine PySem.W.callWith_KW (h₀ := X.base) I.ok.mod.kin mq.kp hall (thn (ha.run pos pins s σ H _ I h) ?_) hpl he
  rintro us s1 ⟨vs, H1, I1, r, q⟩
  refine thn (hkw.run pos pins s1 σ H1 _ I1 q) ?_
  rintro ws s2 ⟨zs, H2, I2, rz, l1, l2, q2⟩
  refine ⟨I2.kIn, ?_⟩
  rw [hks]
  exact run_makeNS mq F hr hb (hx σ) I2 r rz l1 l2 q2
end
section
open PySem PySem.Spec PyProof.Rows L2
/-- t > u, t >= u of tuples of ints -/
def rCmpT (K : PySem.W.Frag) (r : Int → Int → Bool) (z : Nat → Nat → Bool) : R2 := fun x y H Q => ∃ (a b : Addr) (ns ms : List Int), x = .ref a ∧ y = .ref b ∧ SqT K H a (ns.map V.int) ∧ SqT K H b (ms.map V.int) ∧
  Q (.bl (Ob.lexAt (fun j => decide (ns.getD j 0 = ms.getD j 0)) (fun j => r (ns.getD j 0) (ms.getD j 0)) (z ns.length ms.length) 0 (min ns.length ms.length))) H
theorem vals_at : ∀ {ns : List Int} {us : List Value}, Vals (ns.map V.int) us → ns.length = us.length ∧ ∀ j (h : j < us.length), ∃ t, us[j] = .int (ns.getD j 0) t
  | [], _, .nil => ⟨rfl, fun j h => absurd h (Nat.not_lt_zero j)⟩
  | n :: r, _, .cons ⟨t, e⟩ q => by
    obtain ⟨l, f⟩ := vals_at (ns := r) q
    refine ⟨congrArg Nat.succ l, fun j h => ?_⟩
    cases j with
    | zero => exact ⟨t, e⟩
    | succ j => exact f j (Nat.lt_of_succ_lt_succ h)
/-- an order of tuples of ints out of the order of their items: tup lifts it, one is that of two ints -/
theorem op_cmpT {X : Cx} {op : CmpOp} {rr : Int → Int → Bool} {zz : Nat → Nat → Bool} (rich : ∀ v u, compareOp op v u = richCompare op v u)
    (tup : ∀ {s : Shared} {l b : Addr} {is js : Array Value} {e r : Nat → Bool}, s.heap.IsTuple l is → s.heap.IsTuple b js → (∀ j (h1 : j < is.size) (h2 : j < js.size), SeqAt.EqAt X.A.in1 s is[j] js[j] (e j)) →
      (∀ j (h1 : j < is.size) (h2 : j < js.size), e j = false → Ob.RcOp op X.A.in1 s is[j] js[j] (r j)) → Ob.RcOp op X.A s (.ref l) (.ref b) (Ob.lexAt e r (zz is.size js.size) 0 (min is.size js.size)))
    (one : ∀ {s : Shared} (a b : Int) (t u : Tok), Ob.RcOp op X.A.in1 s (.int a t) (.int b u) (rr a b)) : OpR X (compareOp op) (rCmpT X.K rr zz) := by
  rintro pins s σ H x y v u Q I rx ry ⟨a, b, ns, ms, rfl, rfl, ha, hb, q⟩
  cases rx
  cases ry
  obtain ⟨us, ru, tu, _⟩ := I.tuple ha
  obtain ⟨ws, rw', tw, _⟩ := I.tuple hb
  obtain ⟨lu, fu⟩ := vals_at ru
  obtain ⟨lw, fw⟩ := vals_at rw'
  have go := tup (e := fun j => decide (ns.getD j 0 = ms.getD j 0)) (r := fun j => rr (ns.getD j 0) (ms.getD j 0)) tu tw
    (fun j h1 h2 => by
      obtain ⟨t, et⟩ := fu j (by simpa using h1)
      obtain ⟨t', et'⟩ := fw j (by simpa using h2)
      have key : SeqAt.EqAt X.A.in1 s (.int (ns.getD j 0) t) (.int (ms.getD j 0) t') (ns.getD j 0 == ms.getD j 0) := SeqAt.EqAt.int_int _ _ _ _
      have same : (ns.getD j 0 == ms.getD j 0) = decide (ns.getD j 0 = ms.getD j 0) := rfl
      rw [same, ← et, ← et'] at key
      exact key)
    (fun j h1 h2 _ => by
      obtain ⟨t, et⟩ := fu j (by simpa using h1)
      obtain ⟨t', et'⟩ := fw j (by simpa using h2)
      have key := one (s := s) (ns.getD j 0) (ms.getD j 0) t t'
      rw [← et, ← et'] at key
      exact key)
  rw [List.size_toArray, List.size_toArray, ← lu, ← lw] at go
  rw [rich]
  exact go X.prog X.w X.xe _ ⟨.bl _, H, I, rfl, q⟩
theorem op_gtT {X : Cx} (hu : X.A.units < cLine) : OpR X (compareOp .Gt) (rCmpT X.K (fun a b => decide (b < a)) (fun n m => decide (n > m))) :=
  op_cmpT (fun _ _ => rfl) (fun h1 h2 he hr => Ob.RcOp.tuples_gt h1 h2 hu he hr) (fun a b t u => Ob.RcOp.gt_int a b t u)
theorem op_geT {X : Cx} (hu : X.A.units < cLine) : OpR X (compareOp .GtE) (rCmpT X.K (fun a b => decide (b ≤ a)) (fun n m => decide (n ≥ m))) :=
  op_cmpT (fun _ _ => rfl) (fun h1 h2 he hr => Ob.RcOp.tuples_ge h1 h2 hu he hr) (fun a b t u => Ob.RcOp.ge_int a b t u)
/-- len(x) by an own __len__, the built-in's own body -/
theorem len_body {P : Program} {w : World} {A : Around} {E : Value → Shared → Prop} {s : Shared} {K : PySem.W.Frag} {x C f : Addr} {ox : Obj} {od : Option Obj} {Q : Value → Shared → Prop} (X : K.In s.heap) (I : PySem.W.InstAt s.heap x ox C od)
    (hs : PySem.W.findIn K (.ref C) "__len__" = some (some (.ref f))) (hf : PySem.W.isFn K (.ref f) = true)
    (hcall : wpAny (model P w) A (call (.ref f) [.ref x]) (fun r s' => ∃ n u, r = .int n u ∧ 0 ≤ n ∧ n < 2 ^ 63 ∧ Q (.int n s'.toks) { s' with toks := s'.toks + 1 }) E s) :
    wpAny (model P w) A (Builtin.«len» ⟨[.ref x], []⟩) (fun fin s' => ∃ r, fin = .done (.ret r) ∧ Q r s') E s := by
  unfold Builtin.«len»
  refine wpAny_bind (m := oneArg "len" _) (wpAny_pure ?_)
  refine wpAny_bind (m := callSpecial? (.ref x) (Str.ofString "__len__")) (PySem.W.special_fn X I hs (beq_iff_eq.mp hf) (wpAny_mono hcall (fun r s' hr => ?_) fun _ _ y => y))
  obtain ⟨n, u, rfl, h0, h1, hq⟩ := hr
  refine wpAny_bind (wpAny_holding (wpAny_pure ?_))
  refine wpAny_bind (wpAny_letGo ?_)
  show wpAny _ _ (if n < 0 then _ else _) _ _ _
  rw [if_neg (by omega)]
  show wpAny _ _ (if n ≥ 2 ^ 63 then _ else _) _ _ _
  rw [if_neg (by omega)]
  exact wpAny_bind (wpAny_mkInt (wpAny_pure ⟨_, rfl, hq⟩))
/-- the truth of x by an own __len__ -/
theorem truthy_len {P : Program} {w : World} {A : Around} {E : Value → Shared → Prop} {s : Shared} {K : PySem.W.Frag} {x C f : Addr} {ox : Obj} {od : Option Obj} {Q : Bool → Shared → Prop} (X : K.In s.heap) (I : PySem.W.InstAt s.heap x ox C od)
    (hb : PySem.W.findIn K (.ref C) "__bool__" = some none) (hs : PySem.W.findIn K (.ref C) "__len__" = some (some (.ref f))) (hf : PySem.W.isFn K (.ref f) = true)
    (hcall : wpAny (model P w) A.in1 (call (.ref f) [.ref x]) (fun r s' => ∃ n u, r = .int n u ∧ 0 ≤ n ∧ n < 2 ^ 63 ∧ Q (n != 0) { s' with toks := s'.toks + 1 }) E s) :
    wpAny (model P w) A (truthy (.ref x)) Q E s := by
  have key : wpAny (model P w) A (runValue (.builtin "len" ⟨[.ref x], []⟩)) (fun r s' => ∃ n u, r = .int n u ∧ Q (n != 0) s') E s := by
    refine wpAny_runValue (codeAny_builtin entry_len ?_)
    rw [Around.under_plainId plain_len _]
    exact wpAny_mono (len_body (Q := fun r s' => ∃ n u, r = .int n u ∧ Q (n != 0) s') X I hs hf (wpAny_mono hcall (fun r s' hr => by
      obtain ⟨n, u, rfl, h0, h1, q⟩ := hr
      exact ⟨n, u, rfl, h0, h1, n, _, rfl, q⟩) fun _ _ e => e))
      (fun fin s' h' => by obtain ⟨r, rfl, hq⟩ := h'; exact hq) fun _ _ e => e
  unfold truthy
  refine wpAny_bind (m := callSpecial? (.ref x) (Str.ofString "__bool__")) (wpAny_bind (wpAny_bind (I.type.here ((PySem.W.looks_findIn X hb).here (wpAny_pure ?_)))))
  refine wpAny_bind (wpAny_bind (I.type.here ((PySem.W.looks_findIn X hs).here ?_)))
  exact wpAny_bind (wpAny_mono key (fun r s' h' => by obtain ⟨n, u, rfl, hq⟩ := h'; exact wpAny_pure hq) fun _ _ e => e)
section
variable {X : Cx} {CX : CXT} {n : Nat} {C f : Addr} {fd : FuncData} {ps : List Str} {sp : Sp} {E : XK}
/-- what the own __len__ must give -/
def lenQ (Q : Nat → Hp → Prop) : VK := fun v H' => ∃ k : Nat, v = .int k ∧ k < 1000000 ∧ Q k H'
theorem len_run (F : FnOk X.prog X.w X.K X.mg X.base CX n f fd ps sp) (hb : Binds X.K fd ps []) (hx : Passes CX X E) {A : Around} {pins : List (Addr × Obj)} {s : Shared} {σ : L2.St} {H : Hp} {a : Addr} {Q : Nat → Hp → Prop} {R : Value → Shared → Prop} (hA : Room n A) (fr : A.frames = X.A.frames) (I : Inv X pins σ H s)
    (hsp : sp [.ref a] H (lenQ Q) E) (hq : ∀ (k : Nat) (u : Tok) (s' : Shared) (H' : Hp), k < 1000000 → Inv X pins σ H' s' → Q k H' → R (.int k u) s') : wpAny (model X.prog X.w) A (call (.ref f) [.ref a]) R X.xe s := by
  have hl := F.len _ _ _ _ hsp
  have e0 : Env0 X.prog X.w X.K X.mg X.base A X.stack s H := by
    have e := I.env0
    exact ⟨by rw [fr]; exact e.frames, e.mod, e.bs, e.bsz, e.funs, e.frf, e.hok, e.bare⟩
  have bd := hb s [.ref a] I.kIn (by simpa using hl)
  rw [List.append_nil] at bd
  refine wpAny_call (codeAny_mono (F.run A X.stack s H ⟨[.ref a], []⟩ [.ref a] [.ref a] _ E hA e0 bd (.cons rfl .nil) hsp) ?_)
  intro r s' z
  cases r with
  | error e => exact hx pins σ H s e s' I z
  | ok fl =>
    cases fl with
    | ret u =>
      obtain ⟨v, H', I', rv, k, rfl, hk, q⟩ := I.after z
      obtain ⟨t, rfl⟩ := rv
      exact hq k t s' H' hk I' q
    | next => exact False.elim z
    | brk => exact False.elim z
    | cont => exact False.elim z
theorem call_lenOwn (F : FnOk X.prog X.w X.K X.mg X.base CX n f fd ps sp) (hr : Room n X.A.in1) (hs : PySem.W.findIn X.K (.ref C) "__len__" = some (some (.ref f))) (hf : PySem.W.isFn X.K (.ref f) = true) (hb : Binds X.K fd ps []) (hx : Passes CX X E) :
    CallR X (.builtin "len") (fun xs H Q => ∃ (a dx : Addr) (fs : List (Str × V)), xs = [.ref a] ∧ H a = some (.ins C dx fs) ∧ sp [.ref a] H (lenQ fun k H' => Q (.int k) H') E) := by
  intro pins s σ H xs us Q I r h
  obtain ⟨a, dx, fs, rfl, ha, hsp⟩ := h
  rw [Vals.ref1 r]
  obtain ⟨mA, J, _⟩ := ins_get I.hok ha
  obtain ⟨od, J, _⟩ := J.look
  refine Calls.call_function_entry kind_len plain_len entry_len (args_len1 _) ?_
  refine wpAny_mono (len_body (Q := fun v s' => EP X pins σ Q v s') I.kIn J hs hf (len_run F hb hx hr rfl I hsp fun k u s' H' hk I' q => ⟨k, u, rfl, by omega, by omega, .int k, H', I'.tok _, ⟨_, rfl⟩, q⟩)) (fun fin s' z => ?_) fun _ _ z => z
  obtain ⟨v, rfl, q⟩ := z
  exact ⟨v, rfl, q⟩
theorem tru_lenA (F : FnOk X.prog X.w X.K X.mg X.base CX n f fd ps sp) {A : Around} (hr : Room n A.in1) (fr : A.in1.frames = X.A.frames) (hn : PySem.W.findIn X.K (.ref C) "__bool__" = some none) (hs : PySem.W.findIn X.K (.ref C) "__len__" = some (some (.ref f))) (hf : PySem.W.isFn X.K (.ref f) = true) (hb : Binds X.K fd ps []) (hx : Passes CX X E)
    {pins : List (Addr × Obj)} {s : Shared} {σ : L2.St} {H : Hp} {a dx : Addr} {fs : List (Str × V)} {Q : Bool → Hp → Prop} (I : Inv X pins σ H s) (ha : H a = some (.ins C dx fs)) (hsp : sp [.ref a] H (lenQ fun k H' => Q (decide (k ≠ 0)) H') E) :
    wpAny (model X.prog X.w) A (truthy (.ref a)) (TP X pins σ Q) X.xe s := by
  obtain ⟨mA, J, _⟩ := ins_get I.hok ha
  obtain ⟨od, J, _⟩ := J.look
  refine truthy_len I.kIn J hn hs hf (len_run F hb hx hr fr I hsp fun k u s' H' hk I' q => ⟨k, u, rfl, by omega, by omega, H', I'.tok _, ?_⟩)
  have e : ((k : Int) != 0) = decide (k ≠ 0) := by
    by_cases z : k = 0
    · subst z; rfl
    · rw [decide_eq_true z]
      exact bne_iff_ne.mpr (by omega)
  rw [e]
  exact q
theorem tru_len (F : FnOk X.prog X.w X.K X.mg X.base CX n f fd ps sp) (hr : Room n X.A.in1) (hn : PySem.W.findIn X.K (.ref C) "__bool__" = some none) (hs : PySem.W.findIn X.K (.ref C) "__len__" = some (some (.ref f))) (hf : PySem.W.isFn X.K (.ref f) = true) (hb : Binds X.K fd ps []) (hx : Passes CX X E) :
    TruR X (fun x H Q => ∃ (a dx : Addr) (fs : List (Str × V)), x = .ref a ∧ H a = some (.ins C dx fs) ∧ sp [.ref a] H (lenQ fun k H' => Q (decide (k ≠ 0)) H') E) := by
  intro pins s σ H x v Q I rx h
  obtain ⟨a, dx, fs, rfl, ha, hsp⟩ := h
  cases rx
  exact tru_lenA F hr rfl hn hs hf hb hx I ha hsp
theorem meets_bool_own {prog : Program} {w : World} (x : Addr) : MeetsIn prog w (Builtin.«bool.__new__» ⟨[.type "bool", .ref x], []⟩) (fun A R s => wpAny (model prog w) A.in1 (truthy (.ref x)) (fun b s' => R (.ok (.ret (.bool b))) s') (fun e s' => R (.error e) s') s) := by
  intro A R s hs
  obtain ⟨hp, g, d, tk, os⟩ := s
  have f1 := PySem.F.conv_sub_bool
  repeat (any_goals (first | assumption | (with_reducible refine wpAny_mono hs (fun b s' z => ?_) (fun _ _ z => z)) | wp_step))
/-- bool(o) -/
theorem call_boolLen (F : FnOk X.prog X.w X.K X.mg X.base CX n f fd ps sp) (hr : Room n X.A.in1.in1.in1) (hn : PySem.W.findIn X.K (.ref C) "__bool__" = some none) (hs : PySem.W.findIn X.K (.ref C) "__len__" = some (some (.ref f))) (hf : PySem.W.isFn X.K (.ref f) = true) (hb : Binds X.K fd ps []) (hx : Passes CX X E) :
    CallR X (.type "bool") (fun xs H Q => ∃ (a dx : Addr) (fs : List (Str × V)), xs = [.ref a] ∧ H a = some (.ins C dx fs) ∧ sp [.ref a] H (lenQ fun k H' => Q (.bl (decide (k ≠ 0))) H') E) := by
  intro pins s σ H xs us Q I r h
  obtain ⟨a, dx, fs, rfl, ha, hsp⟩ := h
  rw [Vals.ref1 r]
  refine callType_newIn PySem.F.called_bool PySem.F.newNe_bool (PySem.F.typeCall_bool_1 _) (PySem.F.newCall_bool_1 _) (fun obj => PySem.F.args_object_init_2 obj _) PySem.F.entry_bool_new (meets_bool_own a) ?_
  refine wpAny_mono (tru_lenA F hr rfl hn hs hf hb hx (Q := fun b H' => Q (.bl b) H') I ha hsp) (fun b s' z => ?_) fun _ _ z => z
  obtain ⟨H', I', q⟩ := z
  exact ⟨rfl, .bl b, H', I', rfl, q⟩
/-- not o -/
theorem pe_notLen {a : Expr} {ta : TE} {pos : Pos} {r : V → Hp → (Bool → Hp → Prop) → Prop} (tr : TruR X r) (ha : PE X a ta) : PE X (.UnaryOp .Not a pos) (fun σ H Q => ta σ H fun x H1 => r x H1 fun k H2 => Q (.bl (!k)) H2) := by
  refine ⟨fun pins s σ H Q I h => ?_⟩
  refine UnaryOp_ (thn (ha.run pins s σ H _ I h) fun v s1 ⟨x, H1, I1, r1, q1⟩ => ?_)
  exact not_of (thn (tr pins s1 σ H1 x v (fun c H2 => Q (.bl (!c)) H2) I1 r1 q1) fun c s2 ⟨H2, I2, q2⟩ => ⟨.bl (!c), H2, I2, rfl, q2⟩)
end
end
section
open PySem PySem.Spec PyProof.Rows L2
theorem pt_never {X : Cx} {e : Expr} : PT X e (fun _ _ _ => False) := ⟨fun _ _ _ _ _ _ h => h.elim⟩
theorem pe_never {X : Cx} {e : Expr} : PE X e (fun _ _ _ => False) := ⟨fun _ _ _ _ _ _ h => h.elim⟩
/-- xs[i] by values, i from 0 on -/
def rGetL (K : PySem.W.Frag) : V → V → Hp → VK → Prop := fun o y H Q => ∃ (p : Addr) (xs : List V) (i : Nat) (v : V), o = .ref p ∧ y = .int (i : Int) ∧ SqL K H p xs ∧ xs[i]? = some v ∧ Q v H
theorem get_list {X : Cx} : PGet X (rGetL X.K) := by
  intro pins s σ H o y ov iv Q I ro ry h
  obtain ⟨p, xs, i, v, rfl, rfl, hq, he, q⟩ := h
  cases ro
  obtain ⟨t, rfl⟩ := ry
  obtain ⟨its, r, pl, hz⟩ := I.list hq
  obtain ⟨w, ew, rw'⟩ := r.get he
  have hl := r.length
  have hi : i < xs.length := (List.getElem?_eq_some_iff.mp he).1
  have hn := line63
  exact wpAny_getItem_list pl.isList (by omega) (by omega) (by simpa using ew) ⟨v, H, I, rw', q⟩
/-- nothing is let out -/
theorem passF {X : Cx} {P : Program} {w : World} : Passes (L2.CX P w) X E0 := fun _ _ _ _ _ _ _ h => by
  obtain ⟨_, _, _, _, _, _, _, _, _, _, _, _, z⟩ := h
  exact z.elim
end
section
open PySem PySem.Spec PyProof.Rows L2
/-- a name of a written namespace -/
theorem ns_some {K : PySem.W.Frag} {h : Heap} {N : Addr} {m : Str → Option Value} {x : Str} {v : Value} (X : K.In h) (G : h.Ns N m) (e : PySem.W.nsIn K N x = some (some v)) : m x = some v := by
  obtain ⟨o, es, ep, ho, hd, _, hf⟩ := G
  unfold PySem.W.nsIn at e
  split at e
  · rename_i hk
    have z := X _ _ hk
    rw [ho] at z
    cases z
    cases hd
    split at e
    · rename_i en hen
      cases e
      rw [← hf x]
      unfold nsFind findBy
      first
        | (rw [hen]; rfl)
        | (rw [← Array.find?_toList, hen]; rfl)
        | (rw [← Array.find?_toList] at hen; rw [hen]; rfl)
        | simp [hen]
    · split at e <;> cases e
  · cases e
/-- x != y by an own == -/
theorem op_neOwn {X : Cx} {CX : CXT} {n : Nat} {C f N : Addr} {fd : FuncData} {ps : List Str} {sp : Sp} {E : XK} {of : Obj} (F : FnOk X.prog X.w X.K X.mg X.base CX n f fd ps sp) (hr : Room (n + 1) X.A)
    (cls : ∃ nm q bs hdct sn sub ab col dd k0 k1 k2 k3 k5 newId, X.K.lookup C = some (excClassObj nm q C N bs [.type "object"] hdct sn sub ab col dd k0 k1 k2 k3 k5 newId)) (ok : PySem.W.nsOkIn X.K N = true)
    (he : PySem.W.nsIn X.K N "__eq__" = some (some (.ref f))) (hn : PySem.W.nsIn X.K N "__ne__" = some none) (lf : X.K.lookup f = some of) (tf : of.cls = .type "function") (hb : Binds X.K fd ps []) (hx : Passes CX X E) :
    OpR X (compareOp .NotEq) (fun x y H Q => ∃ (a b dx dy : Addr) (fs gs : List (Str × V)), x = .ref a ∧ y = .ref b ∧ H a = some (.ins C dx fs) ∧ H b = some (.ins C dy gs) ∧ sp [.ref a, .ref b] H (fun v H' => ∃ c, v = .bl c ∧ Q (.bl (!c)) H') E) := by
  intro pins s σ H x y v u Q I rx ry h
  obtain ⟨a, b, dx, dy, fs, gs, rfl, rfl, ha, hb', hsp⟩ := h
  cases rx
  cases ry
  obtain ⟨nm, q, bs, hdct, sn, sub, ab, col, dd, k0, k1, k2, k3, k5, newId, hC⟩ := cls
  obtain ⟨mA, J, _⟩ := ins_get I.hok ha
  obtain ⟨mB, J', _⟩ := ins_get I.hok hb'
  obtain ⟨oa, e1, e2⟩ : ∃ o, s.heap.get? a = some o ∧ o.cls = .ref C := ⟨_, J.obj, rfl⟩
  obtain ⟨ob, e3, e4⟩ : ∃ o, s.heap.get? b = some o ∧ o.cls = .ref C := ⟨_, J'.obj, rfl⟩
  have hl := F.len _ _ _ _ hsp
  have kin := I.kIn
  have NS : s.heap.Ns N (s.heap.nsMap N) := .of_isNs (PySem.W.isNs_of_in kin ok)
  have Y : s.heap.OwnEqNoNe a C f "object" [.type "object"] :=
    ⟨oa, of, nm, q, N, bs, hdct, sn, sub, ab, col, dd, k0, k1, k2, k3, k5, newId, s.heap.nsMap N, some (.builtin "object.__eq__"), e1, e2, kin _ _ hC, NS, ns_some kin NS he, kin _ _ lf, tf, PySem.F.mro_object, by kernel_rfl, PySem.W.ns_none_of kin NS hn⟩
  have bd := hb s [.ref a, .ref b] kin (by simpa using hl)
  rw [List.append_nil] at bd
  have run := F.run X.A.in1 X.stack s H ⟨[.ref a, .ref b], []⟩ [.ref a, .ref b] [.ref a, .ref b] _ E hr.in1 I.env0.in1 bd (.cons rfl (.cons rfl .nil)) hsp
  have un : X.A.units + 1 < cLine := hu_of hr
  obtain ⟨hh, g, d, tk, os⟩ := s
  refine compareOp_ne_ownEq PySem.F.cmp_object Y e3 e4 un (wpAny_call (codeAny_mono run ?_))
  intro r s' hq
  cases r with
  | error e => exact hx pins σ H _ e s' I hq
  | ok fl =>
    cases fl with
    | ret z =>
      obtain ⟨w, H', I', rw', c, rfl, q'⟩ := I.after hq
      cases rw'
      exact ⟨c, rfl, .bl (!c), H', I', rfl, q'⟩
    | next => exact False.elim hq
    | brk => exact False.elim hq
    | cont => exact False.elim hq
end

section
open PySem PySem.Spec PyProof.Rows L2
/-- o.f = .. as one of several targets -/
def gFld (K : PySem.W.Frag) (to : TE) (f : Str) : TG := fun v σ H Q => to σ H fun x H1 => ∃ a C dx fs, x = .ref a ∧ H1 a = some (.ins C dx fs) ∧ Cls K C ∧ NoAttr K C f ∧ fs.length < 1000 ∧ Q σ (upd H1 a (.ins C dx (putF f v fs)))
theorem pg_fld {X : Cx} {o : Expr} {f : Str} {pos : Pos} {to : TE} (ho : PE X o to) : PG X (.Attribute o f pos) (gFld X.K to f) := by
  refine ⟨fun pins s σ H v u Q I r h => ?_⟩
  rw [PySem.assign_Attribute]
  refine wpAny_bind (wpAny_holding (thn (ho.run pins s σ H _ I h) fun ov s1 ⟨x, H1, I1, rx, a, C, dx, fs, ex, ea, c, n, l, q⟩ => ?_))
  subst ex
  obtain rfl : ov = Value.ref a := rx
  refine wpAny_bind (wpAny_standAt (wpAny_bind (wpAny_holding (setattr_ok I1 ea c n l r fun s2 I2 => ?_))))
  exact wpAny_release ⟨σ, _, I2, q⟩
end
abbrev s_INoCopy : Stmt := inClass (PySem.Challenge.pw_stampedwait_k26_copies_stopped_and_calle.main.body.getD 6 (.Pass ⟨0, 0, 0, 0⟩)) 0
theorem sc_INoCopy : FnScope ["self", "copy"] ["self", "copy"] (defScope s_INoCopy) := ⟨rfl, rfl, rfl, by decide +kernel, rfl, by decide +kernel, by decide +kernel⟩
abbrev s_INoBounds : Stmt := inClass (PySem.Challenge.pw_stampedwait_k26_copies_stopped_and_calle.main.body.getD 3 (.Pass ⟨0, 0, 0, 0⟩)) 0
theorem sc_INoBounds : FnScope ["self", "low", "high"] ["self", "low", "high"] (defScope s_INoBounds) := ⟨rfl, rfl, rfl, by decide +kernel, rfl, by decide +kernel, by decide +kernel⟩
abbrev s_IWaitError : Stmt := inClass (PySem.Challenge.pw_stampedwait_k26_copies_stopped_and_calle.main.body.getD 2 (.Pass ⟨0, 0, 0, 0⟩)) 0
theorem sc_IWaitError : FnScope ["self", "text"] ["self", "text"] (defScope s_IWaitError) := ⟨rfl, rfl, rfl, by decide +kernel, rfl, by decide +kernel, by decide +kernel⟩
abbrev s_INoHead : Stmt := inClass (PySem.Challenge.pw_stampedwait_k26_copies_stopped_and_calle.main.body.getD 7 (.Pass ⟨0, 0, 0, 0⟩)) 0
theorem sc_INoHead : FnScope ["self", "house"] ["self", "house"] (defScope s_INoHead) := ⟨rfl, rfl, rfl, by decide +kernel, rfl, by decide +kernel, by decide +kernel⟩

def top (i : Nat) : Stmt := PySem.Challenge.pw_stampedwait_k26_copies_stopped_and_calle.main.body.getD i (.Pass ⟨0, 0, 0, 0⟩)
abbrev s_is_whole : Stmt := top 12
abbrev s_is_count : Stmt := top 13
abbrev s_is_from_to : Stmt := top 14
abbrev s_common_divisor : Stmt := top 15
abbrev s_is_share : Stmt := top 16
abbrev s_is_drift : Stmt := top 17
abbrev s_refuse_no_count : Stmt := top 18
abbrev s_least_of : Stmt := top 19
abbrev s_most_of : Stmt := top 20
abbrev s_bounds_behind : Stmt := top 23
abbrev s_set_between : Stmt := top 24
abbrev s_changed_at : Stmt := top 29
abbrev s_Copies_refuse_no_copy : Stmt := inClass (top 35) 1
abbrev s_Copies_back : Stmt := inClass (top 35) 8
abbrev s_Copies_stop : Stmt := inClass (top 35) 7
abbrev s_Copies_tell_bounds : Stmt := inClass (top 35) 5
abbrev s_Copies_tick_clock : Stmt := inClass (top 35) 4
abbrev s_Copies___len__ : Stmt := inClass (top 35) 34
abbrev s_Copies_set_clock : Stmt := inClass (top 35) 2
abbrev s_Copies_choose : Stmt := inClass (top 35) 14
abbrev s_Copies_catch_up : Stmt := inClass (top 35) 18
abbrev s_Copies_book : Stmt := inClass (top 35) 30
abbrev s_Copies___init__ : Stmt := inClass (top 35) 0
abbrev s_Copies_is_up : Stmt := inClass (top 35) 24
abbrev s_Copies_clock : Stmt := inClass (top 35) 22
abbrev s_Copies_parts : Stmt := inClass (top 35) 31
abbrev s_Copies_put_parts : Stmt := inClass (top 35) 32
abbrev s_Copies_twin : Stmt := inClass (top 35) 33
abbrev s_Clock___init__ : Stmt := inClass (top 25) 0
abbrev s_Clock_is_set : Stmt := inClass (top 25) 2
abbrev s_Clock_set_to : Stmt := inClass (top 25) 3
abbrev s_Clock_tick : Stmt := inClass (top 25) 4
abbrev s_Clock_bounds : Stmt := inClass (top 25) 5
abbrev s_Clock___eq__ : Stmt := inClass (top 25) 9
abbrev s_l_begun : Stmt := top 37
abbrev s_l_take : Stmt := top 38
abbrev s_l_said : Stmt := top 39
abbrev s_l_made : Stmt := top 40
abbrev s_l_stands : Stmt := top 41
abbrev s_l_refuses : Stmt := top 42
abbrev s_l_due : Stmt := top 43
abbrev s_law : Stmt := top 44
theorem sc_is_whole : FnScope ["thing"] ["thing"] (defScope s_is_whole) := ⟨rfl, rfl, rfl, by decide +kernel, rfl, by decide +kernel, by decide +kernel⟩
theorem sc_is_count : FnScope ["thing"] ["thing"] (defScope s_is_count) := ⟨rfl, rfl, rfl, by decide +kernel, rfl, by decide +kernel, by decide +kernel⟩
theorem sc_is_from_to : FnScope ["thing", "least", "most"] ["thing", "least", "most"] (defScope s_is_from_to) := ⟨rfl, rfl, rfl, by decide +kernel, rfl, by decide +kernel, by decide +kernel⟩
theorem sc_common_divisor : FnScope ["first", "second"] ["first", "second"] (defScope s_common_divisor) := ⟨rfl, rfl, rfl, by decide +kernel, rfl, by decide +kernel, by decide +kernel⟩
theorem sc_is_share : FnScope ["thing", "top", "bottom"] ["thing"] (defScope s_is_share) := ⟨rfl, rfl, rfl, by decide +kernel, rfl, by decide +kernel, by decide +kernel⟩
theorem sc_is_drift : FnScope ["thing"] ["thing"] (defScope s_is_drift) := ⟨rfl, rfl, rfl, by decide +kernel, rfl, by decide +kernel, by decide +kernel⟩
theorem sc_refuse_no_count : FnScope ["thing"] ["thing"] (defScope s_refuse_no_count) := ⟨rfl, rfl, rfl, by decide +kernel, rfl, by decide +kernel, by decide +kernel⟩
theorem sc_least_of : FnScope ["ticks", "drift", "top", "bottom"] ["ticks", "drift"] (defScope s_least_of) := ⟨rfl, rfl, rfl, by decide +kernel, rfl, by decide +kernel, by decide +kernel⟩
theorem sc_most_of : FnScope ["ticks", "drift", "top", "bottom"] ["ticks", "drift"] (defScope s_most_of) := ⟨rfl, rfl, rfl, by decide +kernel, rfl, by decide +kernel, by decide +kernel⟩
theorem sc_bounds_behind : FnScope ["stands", "counted", "drift"] ["stands", "counted", "drift"] (defScope s_bounds_behind) := ⟨rfl, rfl, rfl, by decide +kernel, rfl, by decide +kernel, by decide +kernel⟩
theorem sc_set_between : FnScope ["told", "low", "high", "least", "most"] ["told", "low", "high"] (defScope s_set_between) := ⟨rfl, rfl, rfl, by decide +kernel, rfl, by decide +kernel, by decide +kernel⟩
theorem sc_changed_at : FnScope ["row", "at", "thing", "new"] ["row", "at", "thing"] (defScope s_changed_at) := ⟨rfl, rfl, rfl, by decide +kernel, rfl, by decide +kernel, by decide +kernel⟩
theorem sc_Copies_refuse_no_copy : FnScope ["self", "copy"] ["self", "copy"] (defScope s_Copies_refuse_no_copy) := ⟨rfl, rfl, rfl, by decide +kernel, rfl, by decide +kernel, by decide +kernel⟩
theorem sc_Copies_back : FnScope ["self", "copy"] ["self", "copy"] (defScope s_Copies_back) := ⟨rfl, rfl, rfl, by decide +kernel, rfl, by decide +kernel, by decide +kernel⟩
theorem sc_Copies_stop : FnScope ["self", "copy"] ["self", "copy"] (defScope s_Copies_stop) := ⟨rfl, rfl, rfl, by decide +kernel, rfl, by decide +kernel, by decide +kernel⟩
theorem sc_Copies_tell_bounds : FnScope ["self", "copy", "bounds"] ["self", "copy"] (defScope s_Copies_tell_bounds) := ⟨rfl, rfl, rfl, by decide +kernel, rfl, by decide +kernel, by decide +kernel⟩
theorem sc_Copies_tick_clock : FnScope ["self", "copy", "many"] ["self", "copy", "many"] (defScope s_Copies_tick_clock) := ⟨rfl, rfl, rfl, by decide +kernel, rfl, by decide +kernel, by decide +kernel⟩
theorem sc_Copies___len__ : FnScope ["self"] ["self"] (defScope s_Copies___len__) := ⟨rfl, rfl, rfl, by decide +kernel, rfl, by decide +kernel, by decide +kernel⟩
theorem sc_Copies_set_clock : FnScope ["self", "copy", "low", "high"] ["self", "copy", "low", "high"] (defScope s_Copies_set_clock) := ⟨rfl, rfl, rfl, by decide +kernel, rfl, by decide +kernel, by decide +kernel⟩
theorem sc_Copies_choose : FnScope ["self", "copy", "some", "floor", "till", "other"] ["self", "copy"] (defScope s_Copies_choose) := ⟨rfl, rfl, rfl, by decide +kernel, rfl, by decide +kernel, by decide +kernel⟩
theorem sc_Copies_catch_up : FnScope ["self", "copy", "head"] ["self", "copy"] (defScope s_Copies_catch_up) := ⟨rfl, rfl, rfl, by decide +kernel, rfl, by decide +kernel, by decide +kernel⟩
theorem sc_Copies_book : FnScope ["self", "copy", "many", "some"] ["self", "copy"] (defScope s_Copies_book) := ⟨rfl, rfl, rfl, by decide +kernel, rfl, by decide +kernel, by decide +kernel⟩
theorem sc_Copies___init__ : FnScope ["self", "many", "drift", "lease"] ["self", "many", "drift", "lease"] (defScope s_Copies___init__) := ⟨rfl, rfl, rfl, by decide +kernel, rfl, by decide +kernel, by decide +kernel⟩
theorem sc_Copies_is_up : FnScope ["self", "copy"] ["self", "copy"] (defScope s_Copies_is_up) := ⟨rfl, rfl, rfl, by decide +kernel, rfl, by decide +kernel, by decide +kernel⟩
theorem sc_Copies_clock : FnScope ["self", "copy", "clock"] ["self", "copy"] (defScope s_Copies_clock) := ⟨rfl, rfl, rfl, by decide +kernel, rfl, by decide +kernel, by decide +kernel⟩
theorem sc_Copies_parts : FnScope ["self"] ["self"] (defScope s_Copies_parts) := ⟨rfl, rfl, rfl, by decide +kernel, rfl, by decide +kernel, by decide +kernel⟩
theorem sc_Copies_put_parts : FnScope ["self", "parts"] ["self", "parts"] (defScope s_Copies_put_parts) := ⟨rfl, rfl, rfl, by decide +kernel, rfl, by decide +kernel, by decide +kernel⟩
theorem sc_Copies_twin : FnScope ["self", "other"] ["self"] (defScope s_Copies_twin) := ⟨rfl, rfl, rfl, by decide +kernel, rfl, by decide +kernel, by decide +kernel⟩
theorem sc_Clock___init__ : FnScope ["self", "drift"] ["self", "drift"] (defScope s_Clock___init__) := ⟨rfl, rfl, rfl, by decide +kernel, rfl, by decide +kernel, by decide +kernel⟩
theorem sc_Clock_is_set : FnScope ["self"] ["self"] (defScope s_Clock_is_set) := ⟨rfl, rfl, rfl, by decide +kernel, rfl, by decide +kernel, by decide +kernel⟩
theorem sc_Clock_set_to : FnScope ["self", "low", "high", "told"] ["self", "low", "high"] (defScope s_Clock_set_to) := ⟨rfl, rfl, rfl, by decide +kernel, rfl, by decide +kernel, by decide +kernel⟩
theorem sc_Clock_tick : FnScope ["self", "many"] ["self", "many"] (defScope s_Clock_tick) := ⟨rfl, rfl, rfl, by decide +kernel, rfl, by decide +kernel, by decide +kernel⟩
theorem sc_Clock_bounds : FnScope ["self"] ["self"] (defScope s_Clock_bounds) := ⟨rfl, rfl, rfl, by decide +kernel, rfl, by decide +kernel, by decide +kernel⟩
theorem sc_Clock___eq__ : FnScope ["self", "other"] ["self", "other"] (defScope s_Clock___eq__) := ⟨rfl, rfl, rfl, by decide +kernel, rfl, by decide +kernel, by decide +kernel⟩
theorem sc_l_begun : FnScope ["_law_script", "_law_k", "_law_cell", "_law_number", "_law_mixed"] ["_law_script", "_law_k"] (defScope s_l_begun) := ⟨rfl, rfl, rfl, by decide +kernel, rfl, by decide +kernel, by decide +kernel⟩
theorem sc_l_take : FnScope ["_law_state", "_law_many", "_law_digit", "_law_made_here", "_law_turn"] ["_law_state", "_law_many"] (defScope s_l_take) := ⟨rfl, rfl, rfl, by decide +kernel, rfl, by decide +kernel, by decide +kernel⟩
theorem sc_l_said : FnScope ["_law_group", "_law_way", "_law_spot", "_law_some", "e"] ["_law_group", "_law_way", "_law_spot", "_law_some"] (defScope s_l_said) := ⟨rfl, rfl, rfl, by decide +kernel, rfl, by decide +kernel, by decide +kernel⟩
theorem sc_l_made : FnScope ["_law_many", "_law_span", "e"] ["_law_many", "_law_span"] (defScope s_l_made) := ⟨rfl, rfl, rfl, by decide +kernel, rfl, by decide +kernel, by decide +kernel⟩
theorem sc_l_stands : FnScope ["_law_group", "_law_ups", "_law_clocks", "_law_spot"] ["_law_group", "_law_ups", "_law_clocks"] (defScope s_l_stands) := ⟨rfl, rfl, rfl, by decide +kernel, rfl, by decide +kernel, by decide +kernel⟩
theorem sc_l_refuses : FnScope ["_law_group", "_law_clocks", "_law_ups", "_law_thing", "_law_way", "_law_due_here"] ["_law_group", "_law_clocks", "_law_ups"] (defScope s_l_refuses) := ⟨rfl, rfl, rfl, by decide +kernel, rfl, by decide +kernel, by decide +kernel⟩
theorem sc_l_due : FnScope ["_law_clocks", "_law_ups", "_law_way", "_law_spot", "_law_some", "_law_low", "_law_high"] ["_law_clocks", "_law_ups", "_law_way", "_law_spot", "_law_some"] (defScope s_l_due) := ⟨rfl, rfl, rfl, by decide +kernel, rfl, by decide +kernel, by decide +kernel⟩
theorem sc_law : FnScope ["_law_script", "_law_state", "_law_many", "_law_group", "_law_ups", "_law_clocks", "_law_k", "_law_spot", "_law_way", "_law_some", "_law_due_here", "_law_twin", "_law_bad", "_law_thing"] ["_law_script"] (defScope s_law) := ⟨rfl, rfl, rfl, by decide +kernel, rfl, by decide +kernel, by decide +kernel⟩
/-- what the top has written -/
structure Txt (K : PySem.W.Frag) (mg : Str → Option Value) (a : Nat → Addr) (d : Nat → FuncData) : Prop where
  g_is_whole : mg "is_whole" = some (.ref (a 0))
  F_is_whole : Fun K "is_whole" "is_whole" s_is_whole (a 0) (d 0)
  b_is_whole : Binds K (d 0) ["thing"] []
  g_is_count : mg "is_count" = some (.ref (a 1))
  F_is_count : Fun K "is_count" "is_count" s_is_count (a 1) (d 1)
  b_is_count : Binds K (d 1) ["thing"] []
  g_is_from_to : mg "is_from_to" = some (.ref (a 2))
  F_is_from_to : Fun K "is_from_to" "is_from_to" s_is_from_to (a 2) (d 2)
  b_is_from_to : Binds K (d 2) ["thing", "least", "most"] []
  g_common_divisor : mg "common_divisor" = some (.ref (a 3))
  F_common_divisor : Fun K "common_divisor" "common_divisor" s_common_divisor (a 3) (d 3)
  b_common_divisor : Binds K (d 3) ["first", "second"] []
  g_is_share : mg "is_share" = some (.ref (a 4))
  F_is_share : Fun K "is_share" "is_share" s_is_share (a 4) (d 4)
  b_is_share : Binds K (d 4) ["thing"] []
  g_is_drift : mg "is_drift" = some (.ref (a 5))
  F_is_drift : Fun K "is_drift" "is_drift" s_is_drift (a 5) (d 5)
  b_is_drift : Binds K (d 5) ["thing"] []
  g_refuse_no_count : mg "refuse_no_count" = some (.ref (a 6))
  F_refuse_no_count : Fun K "refuse_no_count" "refuse_no_count" s_refuse_no_count (a 6) (d 6)
  b_refuse_no_count : Binds K (d 6) ["thing"] []
  g_least_of : mg "least_of" = some (.ref (a 7))
  F_least_of : Fun K "least_of" "least_of" s_least_of (a 7) (d 7)
  b_least_of : Binds K (d 7) ["ticks", "drift"] []
  g_most_of : mg "most_of" = some (.ref (a 8))
  F_most_of : Fun K "most_of" "most_of" s_most_of (a 8) (d 8)
  b_most_of : Binds K (d 8) ["ticks", "drift"] []
  g_bounds_behind : mg "bounds_behind" = some (.ref (a 9))
  F_bounds_behind : Fun K "bounds_behind" "bounds_behind" s_bounds_behind (a 9) (d 9)
  b_bounds_behind : Binds K (d 9) ["stands", "counted", "drift"] []
  g_set_between : mg "set_between" = some (.ref (a 10))
  F_set_between : Fun K "set_between" "set_between" s_set_between (a 10) (d 10)
  b_set_between : Binds K (d 10) ["told", "low", "high"] []
  g_changed_at : mg "changed_at" = some (.ref (a 11))
  F_changed_at : Fun K "changed_at" "changed_at" s_changed_at (a 11) (d 11)
  b_changed_at : Binds K (d 11) ["row", "at", "thing"] []
  F_Copies_refuse_no_copy : Fun K "refuse_no_copy" "Copies.refuse_no_copy" s_Copies_refuse_no_copy (a 12) (d 12)
  b_Copies_refuse_no_copy : Binds K (d 12) ["self", "copy"] []
  m_Copies_refuse_no_copy : Meth K (a 42) "refuse_no_copy" (a 12)
  F_Copies_back : Fun K "back" "Copies.back" s_Copies_back (a 13) (d 13)
  b_Copies_back : Binds K (d 13) ["self", "copy"] []
  m_Copies_back : Meth K (a 42) "back" (a 13)
  F_Copies_stop : Fun K "stop" "Copies.stop" s_Copies_stop (a 14) (d 14)
  b_Copies_stop : Binds K (d 14) ["self", "copy"] []
  m_Copies_stop : Meth K (a 42) "stop" (a 14)
  F_Copies_tell_bounds : Fun K "tell_bounds" "Copies.tell_bounds" s_Copies_tell_bounds (a 15) (d 15)
  b_Copies_tell_bounds : Binds K (d 15) ["self", "copy"] []
  m_Copies_tell_bounds : Meth K (a 42) "tell_bounds" (a 15)
  F_Copies_tick_clock : FunD K "tick_clock" "Copies.tick_clock" (defArgs s_Copies_tick_clock) (defBody s_Copies_tick_clock) (defScope s_Copies_tick_clock) [.int 1] [] (a 16) (d 16)
  c_Copies_tick_clock : ∃ ds, Vals [.int 1] ds ∧ Binds K (d 16) ["self", "copy", "many"] ds
  b_Copies_tick_clock : Binds K (d 16) ["self", "copy", "many"] []
  m_Copies_tick_clock : Meth K (a 42) "tick_clock" (a 16)
  F_Copies___len__ : Fun K "__len__" "Copies.__len__" s_Copies___len__ (a 17) (d 17)
  b_Copies___len__ : Binds K (d 17) ["self"] []
  m_Copies___len__ : Meth K (a 42) "__len__" (a 17)
  F_Copies_set_clock : Fun K "set_clock" "Copies.set_clock" s_Copies_set_clock (a 18) (d 18)
  b_Copies_set_clock : Binds K (d 18) ["self", "copy", "low", "high"] []
  m_Copies_set_clock : Meth K (a 42) "set_clock" (a 18)
  F_Copies_choose : Fun K "choose" "Copies.choose" s_Copies_choose (a 19) (d 19)
  b_Copies_choose : Binds K (d 19) ["self", "copy"] []
  m_Copies_choose : Meth K (a 42) "choose" (a 19)
  F_Copies_catch_up : Fun K "catch_up" "Copies.catch_up" s_Copies_catch_up (a 20) (d 20)
  b_Copies_catch_up : Binds K (d 20) ["self", "copy"] []
  m_Copies_catch_up : Meth K (a 42) "catch_up" (a 20)
  F_Copies_book : FunD K "book" "Copies.book" (defArgs s_Copies_book) (defBody s_Copies_book) (defScope s_Copies_book) [.non] [] (a 21) (d 21)
  c_Copies_book : ∃ ds, Vals [.non] ds ∧ Binds K (d 21) ["self", "copy"] ds
  b_Copies_book : Binds K (d 21) ["self", "copy"] []
  m_Copies_book : Meth K (a 42) "book" (a 21)
  F_Copies___init__ : FunD K "__init__" "Copies.__init__" (defArgs s_Copies___init__) (defBody s_Copies___init__) (defScope s_Copies___init__) [.int 3] [("drift", .ref (a 46)), ("lease", .int 20)] (a 22) (d 22)
  d_Copies___init__ : ∃ ds, Vals [.ref (a 46), .int 20] ds ∧ Binds K (d 22) ["self", "many", "drift", "lease"] ds
  e_Copies___init__ : ∃ ds, Vals [.int 3, .ref (a 46), .int 20] ds ∧ Binds K (d 22) ["self", "many", "drift", "lease"] ds
  f_Copies___init__ : ∃ mv : List Value, KBn K (d 22) ["self", "many", "drift", "lease"] 2 ["lease"] (fun us ws => us ++ (mv ++ ws)) (fun vs zs => vs ++ ([.ref (a 46)] ++ zs))
  k_Copies___init__ : KBn K (d 22) ["self", "many", "drift", "lease"] 2 ["drift", "lease"] (fun us ws => us ++ ws) (fun vs zs => vs ++ zs)
  m_Copies___init__ : Mk K (a 42) (a 22)
  F_Copies_is_up : Fun K "is_up" "Copies.is_up" s_Copies_is_up (a 23) (d 23)
  b_Copies_is_up : Binds K (d 23) ["self", "copy"] []
  m_Copies_is_up : Meth K (a 42) "is_up" (a 23)
  F_Copies_clock : Fun K "clock" "Copies.clock" s_Copies_clock (a 24) (d 24)
  b_Copies_clock : Binds K (d 24) ["self", "copy"] []
  m_Copies_clock : Meth K (a 42) "clock" (a 24)
  F_Copies_parts : Fun K "parts" "Copies.parts" s_Copies_parts (a 25) (d 25)
  b_Copies_parts : Binds K (d 25) ["self"] []
  m_Copies_parts : Meth K (a 42) "parts" (a 25)
  F_Copies_put_parts : Fun K "put_parts" "Copies.put_parts" s_Copies_put_parts (a 26) (d 26)
  b_Copies_put_parts : Binds K (d 26) ["self", "parts"] []
  m_Copies_put_parts : Meth K (a 42) "put_parts" (a 26)
  F_Copies_twin : Fun K "twin" "Copies.twin" s_Copies_twin (a 27) (d 27)
  b_Copies_twin : Binds K (d 27) ["self"] []
  m_Copies_twin : Meth K (a 42) "twin" (a 27)
  F_Clock___init__ : FunD K "__init__" "Clock.__init__" (defArgs s_Clock___init__) (defBody s_Clock___init__) (defScope s_Clock___init__) [.ref (a 46)] [] (a 28) (d 28)
  c_Clock___init__ : ∃ ds, Vals [.ref (a 46)] ds ∧ Binds K (d 28) ["self", "drift"] ds
  b_Clock___init__ : Binds K (d 28) ["self", "drift"] []
  m_Clock___init__ : Mk K (a 43) (a 28)
  F_Clock_is_set : Fun K "is_set" "Clock.is_set" s_Clock_is_set (a 29) (d 29)
  b_Clock_is_set : Binds K (d 29) ["self"] []
  m_Clock_is_set : Meth K (a 43) "is_set" (a 29)
  F_Clock_set_to : Fun K "set_to" "Clock.set_to" s_Clock_set_to (a 30) (d 30)
  b_Clock_set_to : Binds K (d 30) ["self", "low", "high"] []
  m_Clock_set_to : Meth K (a 43) "set_to" (a 30)
  F_Clock_tick : FunD K "tick" "Clock.tick" (defArgs s_Clock_tick) (defBody s_Clock_tick) (defScope s_Clock_tick) [.int 1] [] (a 31) (d 31)
  c_Clock_tick : ∃ ds, Vals [.int 1] ds ∧ Binds K (d 31) ["self", "many"] ds
  b_Clock_tick : Binds K (d 31) ["self", "many"] []
  m_Clock_tick : Meth K (a 43) "tick" (a 31)
  F_Clock_bounds : Fun K "bounds" "Clock.bounds" s_Clock_bounds (a 32) (d 32)
  b_Clock_bounds : Binds K (d 32) ["self"] []
  m_Clock_bounds : Meth K (a 43) "bounds" (a 32)
  F_Clock___eq__ : Fun K "__eq__" "Clock.__eq__" s_Clock___eq__ (a 33) (d 33)
  b_Clock___eq__ : Binds K (d 33) ["self", "other"] []
  m_Clock___eq__ : Meth K (a 43) "__eq__" (a 33)
  g_l_begun : mg "_law_begun" = some (.ref (a 34))
  F_l_begun : Fun K "_law_begun" "_law_begun" s_l_begun (a 34) (d 34)
  b_l_begun : Binds K (d 34) ["_law_script", "_law_k"] []
  g_l_take : mg "_law_take" = some (.ref (a 35))
  F_l_take : Fun K "_law_take" "_law_take" s_l_take (a 35) (d 35)
  b_l_take : Binds K (d 35) ["_law_state", "_law_many"] []
  g_l_said : mg "_law_said" = some (.ref (a 36))
  F_l_said : Fun K "_law_said" "_law_said" s_l_said (a 36) (d 36)
  b_l_said : Binds K (d 36) ["_law_group", "_law_way", "_law_spot", "_law_some"] []
  g_l_made : mg "_law_made" = some (.ref (a 37))
  F_l_made : Fun K "_law_made" "_law_made" s_l_made (a 37) (d 37)
  b_l_made : Binds K (d 37) ["_law_many", "_law_span"] []
  g_l_stands : mg "_law_stands" = some (.ref (a 38))
  F_l_stands : Fun K "_law_stands" "_law_stands" s_l_stands (a 38) (d 38)
  b_l_stands : Binds K (d 38) ["_law_group", "_law_ups", "_law_clocks"] []
  g_l_refuses : mg "_law_refuses" = some (.ref (a 39))
  F_l_refuses : Fun K "_law_refuses" "_law_refuses" s_l_refuses (a 39) (d 39)
  b_l_refuses : Binds K (d 39) ["_law_group", "_law_clocks", "_law_ups"] []
  g_l_due : mg "_law_due" = some (.ref (a 40))
  F_l_due : Fun K "_law_due" "_law_due" s_l_due (a 40) (d 40)
  b_l_due : Binds K (d 40) ["_law_clocks", "_law_ups", "_law_way", "_law_spot", "_law_some"] []
  g_law : mg "law" = some (.ref (a 41))
  F_law : Fun K "law" "law" s_law (a 41) (d 41)
  b_law : Binds K (d 41) ["_law_script"] []
  g_Copies : mg "Copies" = some (.ref (a 42))
  cl : Cls K (a 42)
  n_most_drift : NoAttr K (a 42) "most_drift"
  n_lease : NoAttr K (a 42) "lease"
  n_ups : NoAttr K (a 42) "ups"
  n_has : NoAttr K (a 42) "has"
  n_stands : NoAttr K (a 42) "stands"
  n_counts : NoAttr K (a 42) "counts"
  n_spans : NoAttr K (a 42) "spans"
  n_promises : NoAttr K (a 42) "promises"
  n_promised_in : NoAttr K (a 42) "promised_in"
  n_rules_till : NoAttr K (a 42) "rules_till"
  n_entries : NoAttr K (a 42) "entries"
  n_lent : NoAttr K (a 42) "lent"
  n_loose : NoAttr K (a 42) "loose"
  n_reigns : NoAttr K (a 42) "reigns"
  n_chosen : NoAttr K (a 42) "chosen"
  g_Clock : mg "Clock" = some (.ref (a 43))
  cl_Clock : Cls K (a 43)
  n_Clock_most_drift : NoAttr K (a 43) "most_drift"
  n_Clock_stands : NoAttr K (a 43) "stands"
  n_Clock_counted : NoAttr K (a 43) "counted"
  g_WHOLE : mg "WHOLE" = some (.ref (a 44))
  k_WHOLE : ∀ H : Hp, SqT K H (a 44) [V.int 1, V.int 1]
  g_MOST_BOTTOM : ∃ t, mg "MOST_BOTTOM" = some (.int (1000) t)
  g_DRIFT : mg "DRIFT" = some (.ref (a 46))
  k_DRIFT : ∀ H : Hp, SqT K H (a 46) [V.int 1, V.int 100]
  g_LEASE : ∃ t, mg "LEASE" = some (.int (20) t)
  g_LONGEST_LEASE : ∃ t, mg "LONGEST_LEASE" = some (.int (1000) t)
  g_MOST_COPIES : ∃ t, mg "MOST_COPIES" = some (.int (5) t)
  z_max : mg "max" = none
  z_min : mg "min" = none
  z_len : mg "len" = none
  z_int : mg "int" = none
  z_range : mg "range" = none
  z_isinstance : mg "isinstance" = none
  z_bool : mg "bool" = none
  z_tuple : mg "tuple" = none
  z_list : mg "list" = none
  z_repr : mg "repr" = none
  z_IndexError : mg "IndexError" = none
  z_ValueError : mg "ValueError" = none
  gE_NoCopy : mg "NoCopy" = some (.ref (a 100))
  gE_WaitError : mg "WaitError" = some (.ref (a 101))
  gE_NoBounds : mg "NoBounds" = some (.ref (a 102))
  gE_NoNumber : mg "NoNumber" = some (.ref (a 103))
  gE_NoHead : mg "NoHead" = some (.ref (a 104))
  xo_NoCopy : XB.Own K (a 100) "IndexError" "IndexError.__new__" "IndexError.__init__" [.type "IndexError", .type "LookupError", .type "Exception", .type "BaseException", .type "object"]
  ie_NoCopy : PySem.W.findIn K (.ref (a 100)) "__init__" = some (some (.ref (a 150)))
  ne_NoCopy_copy : PySem.W.findIn K (.ref (a 100)) "copy" = some none
  xf_NoCopy : XfC K (a 100)
  xc_NoCopy : ExcC K (a 100)
  xo_NoBounds : XB.Own K (a 102) "ValueError" "ValueError.__new__" "ValueError.__init__" [.ref (a 101), .type "ValueError", .type "Exception", .type "BaseException", .type "object"]
  ie_NoBounds : PySem.W.findIn K (.ref (a 102)) "__init__" = some (some (.ref (a 151)))
  ne_NoBounds_low : PySem.W.findIn K (.ref (a 102)) "low" = some none
  ne_NoBounds_high : PySem.W.findIn K (.ref (a 102)) "high" = some none
  oe_NoBounds : OexC K (a 102)
  xf_NoBounds : XfC K (a 102)
  xc_NoBounds : ExcC K (a 102)
  xo_NoNumber : XB.Own K (a 103) "ValueError" "ValueError.__new__" "ValueError.__init__" [.ref (a 101), .type "ValueError", .type "Exception", .type "BaseException", .type "object"]
  ie_NoNumber : PySem.W.findIn K (.ref (a 103)) "__init__" = some (some (.ref (a 152)))
  ne_NoNumber_text : PySem.W.findIn K (.ref (a 103)) "text" = some none
  xf_NoNumber : XfC K (a 103)
  xc_NoNumber : ExcC K (a 103)
  xo_NoHead : XB.Own K (a 104) "RuntimeError" "RuntimeError.__new__" "RuntimeError.__init__" [.type "RuntimeError", .type "Exception", .type "BaseException", .type "object"]
  ie_NoHead : PySem.W.findIn K (.ref (a 104)) "__init__" = some (some (.ref (a 153)))
  ne_NoHead_house : PySem.W.findIn K (.ref (a 104)) "house" = some none
  xf_NoHead : XfC K (a 104)
  xc_NoHead : ExcC K (a 104)
  te_NoCopy : PySem.W.typeIn K (.ref (a 150)) = some (.type "function")
  F_INoCopy : Fun K "__init__" "NoCopy.__init__" s_INoCopy (a 150) (d 150)
  b_INoCopy : Binds K (d 150) ["self", "copy"] []
  te_NoBounds : PySem.W.typeIn K (.ref (a 151)) = some (.type "function")
  F_INoBounds : Fun K "__init__" "NoBounds.__init__" s_INoBounds (a 151) (d 151)
  b_INoBounds : Binds K (d 151) ["self", "low", "high"] []
  te_WaitError : PySem.W.typeIn K (.ref (a 152)) = some (.type "function")
  F_IWaitError : FunD K "__init__" "WaitError.__init__" (defArgs s_IWaitError) (defBody s_IWaitError) (defScope s_IWaitError) [.str ""] [] (a 152) (d 152)
  b_IWaitError : Binds K (d 152) ["self", "text"] []
  te_NoHead : PySem.W.typeIn K (.ref (a 153)) = some (.type "function")
  F_INoHead : Fun K "__init__" "NoHead.__init__" s_INoHead (a 153) (d 153)
  b_INoHead : Binds K (d 153) ["self", "house"] []
  ex_NoCopy_NoCopy : PySem.W.exmOne K (.ref (a 100)) (.ref (a 100)) = some true
  ex_NoBounds_NoCopy : PySem.W.exmOne K (.ref (a 102)) (.ref (a 100)) = some false
  ex_NoBounds_NoBounds : PySem.W.exmOne K (.ref (a 102)) (.ref (a 102)) = some true
  ex_NoNumber_NoCopy : PySem.W.exmOne K (.ref (a 103)) (.ref (a 100)) = some false
  ex_NoNumber_NoBounds : PySem.W.exmOne K (.ref (a 103)) (.ref (a 102)) = some false
  ex_NoNumber_NoNumber : PySem.W.exmOne K (.ref (a 103)) (.ref (a 103)) = some true
  ki_NoCopy_IndexError : PySem.W.kitOne K (.ref (a 100)) (.type "IndexError") = some true
  ki_NoNumber_ValueError : PySem.W.kitOne K (.ref (a 103)) (.type "ValueError") = some true
  cls : ∃ nm q bs hdct sn sub ab col dd k0 k1 k2 k3 k5 newId, K.lookup (a 43) = some (excClassObj nm q (a 43) (a 60) bs [.type "object"] hdct sn sub ab col dd k0 k1 k2 k3 k5 newId)
  nok : PySem.W.nsOkIn K (a 60) = true
  neq : PySem.W.nsIn K (a 60) "__eq__" = some (some (.ref (a 33)))
  nne : PySem.W.nsIn K (a 60) "__ne__" = some none
  leq : ∃ of, K.lookup (a 33) = some of ∧ of.cls = .type "function"
  i1 : PySem.W.findIn K (.ref (a 43)) "__class__" = some (some (.builtin "object.__class__"))
  i2 : PySem.W.specialIn K (.builtin "object.__class__") "__get__" = some (some (.builtin "getset_descriptor.__get__"))
  i3 : PySem.W.takesIn K (.builtin "object.__class__") = some true
  i4 : PySem.W.mroIn K (a 43) (.type "object") = some true
  i5 : PySem.W.kitOne K (.ref (a 43)) (.ref (a 43)) = some true

theorem bl_of {Q : VK} {H : Hp} {c : Prop} [Decidable c] (h : c) (q : Q (.bl true) H) : Q (.bl (decide c)) H := by
  rw [decide_eq_true h]
  exact q
theorem bl_no {Q : VK} {H : Hp} {c : Prop} [Decidable c] (h : ¬ c) (q : Q (.bl false) H) : Q (.bl (decide c)) H := by
  rw [decide_eq_false h]
  exact q
theorem iteDT {c A B : Prop} [Decidable c] (h : c) (a : A) : if decide c = true then A else B := by
  rw [if_pos (decide_eq_true h)]
  exact a
theorem iteDF {c A B : Prop} [Decidable c] (h : ¬ c) (b : B) : if decide c = true then A else B := by
  rw [decide_eq_false h]
  exact iteF b
theorem iteND {c A B : Prop} [Decidable c] (h : ¬ c) (a : A) : if (!decide c) = true then A else B := by
  rw [decide_eq_false h]
  exact iteT a
theorem iteBT {c : Bool} {A B : Prop} (h : c = true) (a : A) : if c = true then A else B := by
  rw [if_pos h]
  exact a
theorem iteBF {c : Bool} {A B : Prop} (h : c = false) (b : B) : if c = true then A else B := by
  rw [h]
  exact iteF b
theorem len3 : 3 ≤ sizeLine := by decide
theorem len2 : 2 ≤ sizeLine := by decide
theorem len1 : 1 ≤ sizeLine := by decide
theorem m64 {i : Int} (a : -18446744073709551616 < i) (b : i < 18446744073709551616) : -(2 ^ 64) < i ∧ i < 2 ^ 64 := by
  have e : (2 : Int) ^ 64 = 18446744073709551616 := by decide
  rw [e]
  exact ⟨a, b⟩
theorem divW {i j : Int} (h : 0 < j) (hb : j ≤ 1000000000000000000000000000000) : CDivW i j := wide_div (b := 200) h (by
  have e : (j.natAbs : Int) = j := by omega
  have q : (j.natAbs : Int) < ((2 ^ 200 : Nat) : Int) := by rw [e]; exact Int.lt_of_le_of_lt hb (by decide)
  exact Int.ofNat_lt.mp q) (by decide) (by decide)
/-! ### heaps -/
/-- all that was tracked but x stands -/
def Fr (x : Addr) (H H' : Hp) : Prop := ∀ b o, b ≠ x → H b = some o → H' b = some o
theorem Fr.refl (x : Addr) (H : Hp) : Fr x H H := fun _ _ _ e => e
theorem Fr.trans {x : Addr} {H H1 H2 : Hp} (a : Fr x H H1) (b : Fr x H1 H2) : Fr x H H2 := fun c o n e => b c o n (a c o n e)
theorem fr_same {x : Addr} {H H' : Hp} (s : Same H H') : Fr x H H' := fun b o _ e => s b o e
theorem Fr.new {x p : Addr} {H H1 : Hp} {o : HO} (k : Fr x H H1) (hp : H1 p = none) : Fr x H (upd H1 p o) := fun b u n e => by
  rw [upd_ne (ne_of_none (k b u n e) hp)]
  exact k b u n e
theorem Fr.put {x : Addr} {H H1 : Hp} {o : HO} (k : Fr x H H1) : Fr x H (upd H1 x o) := fun b u n e => by
  rw [upd_ne n]
  exact k b u n e
theorem Fr.over {x : Addr} {H0 H H1 : Hp} (a : Same H0 H) (hx : H0 x = none) (k : Fr x H H1) : Same H0 H1 := fun b o e => k b o (ne_of_none e hx) (a b o e)
theorem same_new {H0 H : Hp} {p : Addr} {o : HO} (a : Same H0 H) (hp : H p = none) : Same H0 (upd H p o) := fun b u e => by
  rw [upd_ne (ne_of_none (a b u e) hp)]
  exact a b u e
/-- a thing that may be changed -/
def Mut : HO → Prop
  | .lst _ => True
  | .ins _ _ _ => True
  | _ => False
theorem Fr.tup {x p : Addr} {H H' : Hp} {o : HO} {xs : List V} (k : Fr x H H') (hx : H x = some o) (m : Mut o) (hp : H p = some (.tup xs)) : H' p = some (.tup xs) :=
  k p _ (ne_of hp hx (by intro e; subst e; exact m)) hp
theorem Fr.sqt {K : PySem.W.Frag} {x p : Addr} {H H' : Hp} {o : HO} {xs : List V} (k : Fr x H H') (hx : H x = some o) (m : Mut o) (h : SqT K H p xs) : SqT K H' p xs := by
  rcases h with (h | ⟨u, h⟩) | h
  · exact .inl (.inl (k p _ (ne_of h hx (by intro e; subst e; exact m)) h))
  · exact .inl (.inr ⟨u, k p _ (ne_of h hx (by intro e; subst e; exact m)) h⟩)
  · exact .inr h
theorem same_sqt {K : PySem.W.Frag} {p : Addr} {H H' : Hp} {xs : List V} (k : Same H H') (h : SqT K H p xs) : SqT K H' p xs := by
  rcases h with (h | ⟨u, h⟩) | h
  · exact .inl (.inl (k p _ h))
  · exact .inl (.inr ⟨u, k p _ h⟩)
  · exact .inr h
theorem sqt_ty {K : PySem.W.Frag} {H : Hp} {p : Addr} {xs : List V} (h : SqT K H p xs) : TyX K H (.ref p) (.type "tuple") := by
  rcases h with (h | ⟨u, h⟩) | ⟨o, its, n, h1, h2, _⟩
  · exact .base (.tup h)
  · exact .fTuple h
  · exact .kTuple h1 h2
/-! ### draws -/
def BagAt (H : Hp) (s : Addr) : Prop := ∃ a b : Int, H s = some (.lst [.int a, .int b]) ∧ 0 ≤ b ∧ b < 2147483647
theorem BagAt.ex {H : Hp} {s : Addr} (h : BagAt H s) : ∃ o, H s = some o ∧ Mut o := by
  obtain ⟨a, b, e, _⟩ := h
  exact ⟨_, e, trivial⟩
theorem BagAt.same {H H' : Hp} {s : Addr} (h : BagAt H s) (k : Same H H') : BagAt H' s := by
  obtain ⟨a, b, e, r⟩ := h
  exact ⟨a, b, k _ _ e, r⟩
theorem BagAt.new {H : Hp} {s p : Addr} {o : HO} (h : BagAt H s) (hp : H p = none) : BagAt (upd H p o) s := h.same (same_new (Same.refl H) hp)
theorem BagAt.ne_new {H : Hp} {s p : Addr} (h : BagAt H s) (hp : H p = none) : p ≠ s := by
  obtain ⟨a, b, e, _⟩ := h
  exact (ne_of_none e hp).symm
theorem BagAt.fr {H H' : Hp} {s x : Addr} (h : BagAt H s) (k : Fr x H H') (ne : s ≠ x) : BagAt H' s := by
  obtain ⟨a, b, e, r⟩ := h
  exact ⟨a, b, k _ _ ne e, r⟩
theorem BagAt.some_ {H : Hp} {s : Addr} (h : BagAt H s) : ∃ o, H s = some o := by
  obtain ⟨a, b, e, _⟩ := h
  exact ⟨_, e⟩
theorem BagAt.ne_none {H : Hp} {s p : Addr} (h : BagAt H s) (hp : H p = none) : s ≠ p := (h.ne_new hp).symm
theorem same_make {H : Hp} {x dx : Addr} {o1 o2 : HO} (nx : H x = none) (ndx : H dx = none) : Same H (upd (upd H dx o1) x o2) := fun b o e => by
  rw [upd_ne (ne_of_none e nx), upd_ne (ne_of_none e ndx)]
  exact e
def spBag (K : PySem.W.Frag) : Sp := fun vs H Q _ => ∃ (l : Addr) (ns : List Int) (k : Int), vs = [.ref l, .int k] ∧ SqL K H l (ns.map V.int) ∧ 0 ≤ k ∧ k ≤ 100 ∧ ∀ (p : Addr) (H' : Hp), H p = none → Same H H' → BagAt H' p → Q (.ref p) H'
def spOut : Sp := fun vs H Q _ => ∃ (s : Addr) (m : Int), vs = [.ref s, .int m] ∧ BagAt H s ∧ 0 < m ∧ m ≤ 1000000000000000000000000000000 ∧ ∀ (r : Int) (H' : Hp), 0 ≤ r → r < m → Fr s H H' → BagAt H' s → Q (.int r) H'
def DrOk (K : PySem.W.Frag) (H : Hp) (p : Addr) (t b : Int) : Prop := SqT K H p [.int t, .int b] ∧ 0 ≤ t ∧ t < b ∧ b ≤ 1000 ∧ Int.gcd t b = 1
theorem DrOk.same {K : PySem.W.Frag} {H H' : Hp} {p : Addr} {t b : Int} (h : DrOk K H p t b) (k : Same H H') : DrOk K H' p t b := ⟨same_sqt k h.1, h.2⟩
theorem DrOk.fr {K : PySem.W.Frag} {H H' : Hp} {p x : Addr} {o : HO} {t b : Int} (h : DrOk K H p t b) (k : Fr x H H') (hx : H x = some o) (m : Mut o) : DrOk K H' p t b := ⟨k.sqt hx m h.1, h.2⟩
theorem DrOk.bag {K : PySem.W.Frag} {H H' : Hp} {p s : Addr} {t b : Int} (h : DrOk K H p t b) (k : Fr s H H') (bs : BagAt H s) : DrOk K H' p t b := by
  obtain ⟨o, e, m⟩ := bs.ex
  exact h.fr k e m
def spLDrift (K : PySem.W.Frag) : Sp := fun vs H Q _ => ∃ s : Addr, vs = [.ref s] ∧ BagAt H s ∧ ∀ (t b : Int) (p : Addr) (H' : Hp), Fr s H H' → BagAt H' s → DrOk K H' p t b → H' p = some (.tup [.int t, .int b]) → Q (.ref p) H'
/-! ### numbers -/
theorem pos_of_mul {g x l : Int} (hg : 0 < g) (hl : 0 < l) (e : l = g * x) : 0 < x := by
  rcases Int.lt_or_le 0 x with h | h
  · exact h
  · have := Int.mul_nonpos_of_nonneg_of_nonpos (Int.le_of_lt hg) h
    omega
theorem nn_of_mul {g x l : Int} (hg : 0 < g) (hl : 0 ≤ l) (e : l = g * x) : 0 ≤ x := by
  rcases Int.lt_or_le x 0 with h | h
  · have := Int.mul_neg_of_pos_of_neg hg h
    omega
  · exact h
theorem le_of_gmul {g x l : Int} (hg : 0 < g) (hx : 0 ≤ x) (e : l = g * x) : x ≤ l := by
  have := Int.mul_le_mul_of_nonneg_right (show 1 ≤ g by omega) hx
  omega
theorem le_cancel {g x y : Int} (hg : 0 < g) (h : g * x ≤ g * y) : x ≤ y := Int.le_of_mul_le_mul_left h hg
theorem lt_cancel {g x y : Int} (hg : 0 < g) (h : g * x < g * y) : x < y := Int.lt_of_mul_lt_mul_left h (Int.le_of_lt hg)
theorem gcd_turn {h t : Int} (h0 : 0 ≤ h) (t0 : 0 < t) : Int.gcd t (h % t) = Int.gcd h t := by
  obtain ⟨a, rfl⟩ := Int.eq_ofNat_of_zero_le h0
  obtain ⟨b, rfl⟩ := Int.eq_ofNat_of_zero_le (Int.le_of_lt t0)
  show Nat.gcd b (a % b) = Nat.gcd a b
  rw [Nat.gcd_comm a b, Nat.gcd_rec b a, Nat.gcd_comm]
theorem low_end {u l h : Int} (u0 : 0 ≤ u) (l0 : 0 < l) (h0 : 0 ≤ h) (e : Int.gcd h 0 = Int.gcd u l) : 0 < h ∧ u = h * (u / h) ∧ l = h * (l / h) ∧ Int.gcd (u / h) (l / h) = 1 ∧ h ≤ l := by
  have e1 : (h : Int) = (Int.gcd u l : Nat) := by
    have : Int.gcd h 0 = h.natAbs := Int.gcd_zero_right h
    rw [this] at e
    omega
  have hp : 0 < Int.gcd u l := Int.gcd_pos_of_ne_zero_right u (by omega)
  have d1 : h ∣ u := by rw [e1]; exact Int.gcd_dvd_left u l
  have d2 : h ∣ l := by rw [e1]; exact Int.gcd_dvd_right u l
  have hp' : 0 < h := by omega
  refine ⟨hp', (Int.mul_ediv_cancel' d1).symm, (Int.mul_ediv_cancel' d2).symm, ?_, Int.le_of_dvd l0 d2⟩
  rw [e1]
  exact Int.gcd_ediv_gcd_ediv_gcd hp
def leastP (n t b : Int) : Int := -(-n * b / (b + t))
def mostP (n t b : Int) : Int := ((n + 1) * b - 1) / (b - t)
theorem least_le {n t b p : Int} (t0 : 0 ≤ t) (tb : t < b) (h : n * b ≤ p * (b + t)) : leastP n t b ≤ p := by
  unfold leastP
  have q4 : -p ≤ -n * b / (b + t) := (Int.le_ediv_iff_mul_le (by omega)).mpr (by
    have z1 : -p * (b + t) = -(p * (b + t)) := by grind
    have z2 : -n * b = -(n * b) := by grind
    rw [z1, z2]
    omega)
  omega
theorem least_ge {n t b : Int} (t0 : 0 ≤ t) (tb : t < b) : n * b ≤ leastP n t b * (b + t) := by
  unfold leastP
  have q := Int.ediv_mul_le (-n * b) (show b + t ≠ 0 by omega)
  have z2 : -n * b = -(n * b) := by grind
  have z3 : -(-n * b / (b + t)) * (b + t) = -(-n * b / (b + t) * (b + t)) := by grind
  rw [z3]
  omega
theorem le_most {n t b p : Int} (t0 : 0 ≤ t) (tb : t < b) (h : p * (b - t) < (n + 1) * b) : p ≤ mostP n t b := by
  unfold mostP
  exact (Int.le_ediv_iff_mul_le (by omega)).mpr (by omega)
theorem most_lt {n t b : Int} (t0 : 0 ≤ t) (tb : t < b) : mostP n t b * (b - t) < (n + 1) * b := by
  unfold mostP
  have q := Int.ediv_mul_le ((n + 1) * b - 1) (show b - t ≠ 0 by omega)
  omega
theorem least_mono {n m t b : Int} (t0 : 0 ≤ t) (tb : t < b) (h : n ≤ m) : leastP n t b ≤ leastP m t b :=
  least_le t0 tb (Int.le_trans (Int.mul_le_mul_of_nonneg_right h (by omega)) (least_ge t0 tb))
theorem most_mono {n m t b : Int} (t0 : 0 ≤ t) (tb : t < b) (h : n ≤ m) : mostP n t b ≤ mostP m t b :=
  le_most t0 tb (Int.lt_of_lt_of_le (most_lt t0 tb) (Int.mul_le_mul_of_nonneg_right (by omega) (by omega)))
theorem least_nn {n t b : Int} (t0 : 0 ≤ t) (tb : t < b) (h : 0 ≤ n) : 0 ≤ leastP n t b := by
  have q := least_ge (n := n) t0 tb
  have z : 0 ≤ n * b := Int.mul_nonneg h (by omega)
  rcases Int.lt_or_le (leastP n t b) 0 with c | c
  · have := Int.mul_neg_of_neg_of_pos c (show 0 < b + t by omega)
    omega
  · exact c
theorem least_zero {t b : Int} (t0 : 0 ≤ t) (tb : t < b) : leastP 0 t b = 0 := by
  have h1 := least_le (n := 0) (p := 0) t0 tb (by simp)
  have h2 := least_nn (n := 0) t0 tb (by decide)
  omega
theorem most_nn {n t b : Int} (t0 : 0 ≤ t) (tb : t < b) (h : 0 ≤ n) : n ≤ mostP n t b :=
  le_most t0 tb (by
    have z1 : n * (b - t) ≤ n * b := Int.mul_le_mul_of_nonneg_left (by omega) h
    have z2 : (n + 1) * b = n * b + b := by grind
    omega)
theorem least_le_n {n t b : Int} (t0 : 0 ≤ t) (tb : t < b) (h : 0 ≤ n) : leastP n t b ≤ n :=
  least_le t0 tb (Int.mul_le_mul_of_nonneg_left (by omega) h)
/-! ### promises of times -/
def spWhole : Sp := fun vs H Q _ => ∃ n : Int, vs = [.int n] ∧ Q (.bl true) H
def spCount : Sp := fun vs H Q _ => ∃ n : Int, vs = [.int n] ∧ 0 ≤ n ∧ Q (.bl true) H
def spRef : Sp := fun vs H Q _ => ∃ n : Int, vs = [.int n] ∧ 0 ≤ n ∧ Q .non H
def spLeast (K : PySem.W.Frag) : Sp := fun vs H Q _ => ∃ (n t b : Int) (p : Addr), vs = [.int n, .ref p] ∧ 0 ≤ n ∧ DrOk K H p t b ∧ Q (.int (leastP n t b)) H
def spMost (K : PySem.W.Frag) : Sp := fun vs H Q _ => ∃ (n t b : Int) (p : Addr), vs = [.int n, .ref p] ∧ 0 ≤ n ∧ DrOk K H p t b ∧ Q (.int (mostP n t b)) H
def spRow (K : PySem.W.Frag) : Sp := fun vs H Q _ => ∃ (p : Addr) (t b : Int), vs = [.ref p, .int 2, .int 2] ∧ SqT K H p [.int t, .int b] ∧ ∀ H', Same H H' → Q (.bl true) H'
def spFromTo : Sp := fun vs H Q _ => ∃ n lo hi : Int, vs = [.int n, .int lo, .int hi] ∧ lo ≤ n ∧ n ≤ hi ∧ Q (.bl true) H
def spCd : Sp := fun vs H Q _ => ∃ (x y : Int), vs = [.int x, .int y] ∧ 0 ≤ x ∧ 0 ≤ y ∧ Q (.int (Int.gcd x y)) H
def spShare (K : PySem.W.Frag) : Sp := fun vs H Q _ => ∃ (p : Addr) (t b : Int), vs = [.ref p] ∧ DrOk K H p t b ∧ ∀ H', Same H H' → Q (.bl true) H'
theorem two_at {t b : Int} {i : Nat} {x : V} (h : [V.int t, V.int b][i]? = some x) : ∃ n : Int, x = .int n := by
  match i, h with
  | 0, h => exact ⟨t, (Option.some.inj h).symm⟩
  | 1, h => exact ⟨b, (Option.some.inj h).symm⟩
  | n + 2, h => simp at h
/-! ### a clock -/
theorem ne_cs : ¬ (("counted" : Str) = "stands") := by decide +kernel
theorem ne_cm : ¬ (("counted" : Str) = "most_drift") := by decide +kernel
theorem ne_sc : ¬ (("stands" : Str) = "counted") := by decide +kernel
theorem ne_sm : ¬ (("stands" : Str) = "most_drift") := by decide +kernel
theorem ne_mc : ¬ (("most_drift" : Str) = "counted") := by decide +kernel
theorem ne_ms : ¬ (("most_drift" : Str) = "stands") := by decide +kernel
def cf (dr : V) (sv : V) (n : Int) : List (Str × V) := putF "counted" (.int n) (putF "stands" sv (putF "most_drift" dr []))
theorem cf_eq (dr sv : V) (n : Int) : cf dr sv n = ([("most_drift", dr), ("stands", sv), ("counted", V.int n)] : List (Str × V)) := by
  unfold cf
  simp only [putF, if_neg ne_ms, if_neg ne_mc, if_neg ne_sc]
theorem cf_len (dr sv : V) (n : Int) : (cf dr sv n).length < 1000 := by
  rw [cf_eq]
  show 3 < 1000
  decide
theorem cf_m (dr sv : V) (n : Int) : (cf dr sv n).lookup ("most_drift" : Str) = some dr := by
  unfold cf
  rw [lookup_putF, if_neg ne_mc, lookup_putF, if_neg ne_ms, lookup_putF, if_pos rfl]
theorem cf_s (dr sv : V) (n : Int) : (cf dr sv n).lookup ("stands" : Str) = some sv := by
  unfold cf
  rw [lookup_putF, if_neg ne_sc, lookup_putF, if_pos rfl]
theorem cf_c (dr sv : V) (n : Int) : (cf dr sv n).lookup ("counted" : Str) = some (.int n) := by
  unfold cf
  rw [lookup_putF, if_pos rfl]
theorem cf_no (dr sv : V) (n : Int) {m : Str} (h1 : ¬ m = "counted") (h2 : ¬ m = "stands") (h3 : ¬ m = "most_drift") : (cf dr sv n).lookup m = none := by
  unfold cf
  rw [lookup_putF, if_neg h1, lookup_putF, if_neg h2, lookup_putF, if_neg h3]
  all_goals rfl
theorem cf_put_s (dr sv sv' : V) (n : Int) : putF "stands" sv' (cf dr sv n) = cf dr sv' n := by
  rw [cf_eq, cf_eq]
  simp only [putF, if_neg ne_ms, if_pos]
theorem cf_put_c (dr sv : V) (n n' : Int) : putF "counted" (.int n') (cf dr sv n) = cf dr sv n' := by
  rw [cf_eq, cf_eq]
  simp only [putF, if_neg ne_mc, if_neg ne_sc, if_pos]
def SvAt (K : PySem.W.Frag) (H : Hp) (sv : V) : Option (Int × Int) → Prop
  | none => sv = .non
  | some z => ∃ p, sv = .ref p ∧ SqT K H p [.int z.1, .int z.2]
/-- a clock at c: its drift's tuple at dr, what it stands set to, its count -/
structure CkAt (K : PySem.W.Frag) (C : Addr) (H : Hp) (c dr : Addr) (t b : Int) (st : Option (Int × Int)) (n : Int) : Prop where
  at_ : ∃ (dx : Addr) (sv : V), H c = some (.ins C dx (cf (.ref dr) sv n)) ∧ SvAt K H sv st
  dr_ : DrOk K H dr t b
  nn : 0 ≤ n
theorem CkAt.ex {K : PySem.W.Frag} {C : Addr} {H : Hp} {c dr : Addr} {t b : Int} {st : Option (Int × Int)} {n : Int} (h : CkAt K C H c dr t b st n) : ∃ o, H c = some o ∧ Mut o := by
  obtain ⟨dx, sv, e, _⟩ := h.at_
  exact ⟨_, e, trivial⟩
theorem SvAt.fr {K : PySem.W.Frag} {H H' : Hp} {x : Addr} {o : HO} {sv : V} {st : Option (Int × Int)} (h : SvAt K H sv st) (k : Fr x H H') (hx : H x = some o) (m : Mut o) : SvAt K H' sv st := by
  cases st with
  | none => exact h
  | some z =>
    obtain ⟨p, e, q⟩ := h
    exact ⟨p, e, k.sqt hx m q⟩
/-- a clock stays where another changeable thing is changed -/
theorem CkAt.fr {K : PySem.W.Frag} {C : Addr} {H H' : Hp} {c dr x : Addr} {o : HO} {t b : Int} {st : Option (Int × Int)} {n : Int} (h : CkAt K C H c dr t b st n) (k : Fr x H H') (hx : H x = some o) (m : Mut o) (ne : c ≠ x) : CkAt K C H' c dr t b st n := by
  obtain ⟨⟨dx, sv, e, q⟩, d, nn⟩ := h
  exact ⟨⟨dx, sv, k _ _ ne e, q.fr k hx m⟩, d.fr k hx m, nn⟩
theorem CkAt.same {K : PySem.W.Frag} {C : Addr} {H H' : Hp} {c dr : Addr} {t b : Int} {st : Option (Int × Int)} {n : Int} (h : CkAt K C H c dr t b st n) (k : Same H H') : CkAt K C H' c dr t b st n := by
  obtain ⟨⟨dx, sv, e, q⟩, d, nn⟩ := h
  refine ⟨⟨dx, sv, k _ _ e, ?_⟩, d.same k, nn⟩
  cases st with
  | none => exact q
  | some z =>
    obtain ⟨p, e, q⟩ := q
    exact ⟨p, e, same_sqt k q⟩
theorem CkAt.bag {K : PySem.W.Frag} {C : Addr} {H H' : Hp} {c dr s : Addr} {t b : Int} {st : Option (Int × Int)} {n : Int} (h : CkAt K C H c dr t b st n) (k : Fr s H H') (bs : BagAt H s) : CkAt K C H' c dr t b st n := by
  obtain ⟨dx, sv, e, _⟩ := h.at_
  obtain ⟨x, y, e2, _⟩ := bs
  exact h.fr k e2 trivial (ne_of e e2 (by intro z; cases z))
theorem BagAt.ck {K : PySem.W.Frag} {C : Addr} {H H' : Hp} {c dr s : Addr} {t b : Int} {st : Option (Int × Int)} {n : Int} (bs : BagAt H s) (k : Fr c H H') (h : CkAt K C H c dr t b st n) : BagAt H' s := by
  obtain ⟨dx, sv, e, _⟩ := h.at_
  obtain ⟨x, y, e2, r⟩ := bs
  exact ⟨x, y, k _ _ (ne_of e2 e (by intro z; cases z)) e2, r⟩
theorem CkAt.ne_bag {K : PySem.W.Frag} {C : Addr} {H : Hp} {c dr s : Addr} {t b : Int} {st : Option (Int × Int)} {n : Int} (h : CkAt K C H c dr t b st n) (bs : BagAt H s) : c ≠ s := by
  obtain ⟨dx, sv, e, _⟩ := h.at_
  obtain ⟨x, y, e2, _⟩ := bs
  exact ne_of e e2 (by intro z; cases z)
/-! ### promises of Clock -/
/-- what bounds_behind tells -/
def bbQ (H : Hp) (Q : VK) (n t b : Int) : Option (Int × Int) → Prop
  | none => Q .non H
  | some z => ∀ p, H p = none → Q (.ref p) (upd H p (.tup [.int (z.1 + leastP n t b), .int (z.2 + mostP n t b)]))
def spBB (K : PySem.W.Frag) : Sp := fun vs H Q _ => ∃ (sv : V) (st : Option (Int × Int)) (n : Int) (dr : Addr) (t b : Int), vs = [sv, .int n, .ref dr] ∧ SvAt K H sv st ∧ 0 ≤ n ∧ DrOk K H dr t b ∧ bbQ H Q n t b st
def btwL (low : Int) : Option (Int × Int) → Int
  | none => low
  | some z => if z.1 > low then z.1 else low
def btwH (high : Int) : Option (Int × Int) → Int
  | none => high
  | some z => if z.2 < high then z.2 else high
def spSB (K : PySem.W.Frag) : Sp := fun vs H Q _ => ∃ (tv : V) (st : Option (Int × Int)) (low high : Int), vs = [tv, .int low, .int high] ∧ SvAt K H tv st ∧ low ≤ high ∧ btwL low st ≤ btwH high st ∧ ∀ p, H p = none → Q (.ref p) (upd H p (.tup [.int (btwL low st), .int (btwH high st)]))
def spInit (K : PySem.W.Frag) (C : Addr) : Sp := fun vs H Q _ => ∃ (x dr dx : Addr) (t b : Int), vs = [.ref x, .ref dr] ∧ H x = some (.ins C dx []) ∧ DrOk K H dr t b ∧ ∀ H', Fr x H H' → CkAt K C H' x dr t b none 0 → Q .non H'
def spIsSet (K : PySem.W.Frag) (C : Addr) : Sp := fun vs H Q _ => ∃ (c dr : Addr) (t b : Int) (st : Option (Int × Int)) (n : Int), vs = [.ref c] ∧ CkAt K C H c dr t b st n ∧ Q (.bl st.isSome) H
def spBounds (K : PySem.W.Frag) (C : Addr) : Sp := fun vs H Q _ => ∃ (c dr : Addr) (t b lo hi n : Int), vs = [.ref c] ∧ CkAt K C H c dr t b (some (lo, hi)) n ∧ ∀ p, H p = none → Q (.ref p) (upd H p (.tup [.int (lo + leastP n t b), .int (hi + mostP n t b)]))
def spTick (K : PySem.W.Frag) (C : Addr) : Sp := fun vs H Q _ => ∃ (c dr : Addr) (t b : Int) (st : Option (Int × Int)) (n m : Int), vs = [.ref c, .int m] ∧ CkAt K C H c dr t b st n ∧ 0 ≤ m ∧ ∀ H', Fr c H H' → CkAt K C H' c dr t b st (n + m) → Q .non H'
def setLow (low : Int) (st : Option (Int × Int)) (t b n : Int) : Int := match st with
  | none => low
  | some z => if z.1 + leastP n t b > low then z.1 + leastP n t b else low
def setHigh (high : Int) (st : Option (Int × Int)) (t b n : Int) : Int := match st with
  | none => high
  | some z => if z.2 + mostP n t b < high then z.2 + mostP n t b else high
def spSet (K : PySem.W.Frag) (C : Addr) : Sp := fun vs H Q _ => ∃ (c dr : Addr) (t b : Int) (st : Option (Int × Int)) (n low high : Int), vs = [.ref c, .int low, .int high] ∧ CkAt K C H c dr t b st n ∧ low ≤ high ∧ setLow low st t b n ≤ setHigh high st t b n ∧
  ∀ H', Fr c H H' → CkAt K C H' c dr t b (some (setLow low st t b n, setHigh high st t b n)) 0 → Q .non H'
def spPast (K : PySem.W.Frag) (C : Addr) : Sp := fun vs H Q _ => ∃ (c dr : Addr) (t b lo hi n m : Int), vs = [.ref c, .int m] ∧ CkAt K C H c dr t b (some (lo, hi)) n ∧ ∀ H', Same H H' → Q (.bl (decide (m < lo + leastP n t b))) H'
def spAhead (K : PySem.W.Frag) (C : Addr) : Sp := fun vs H Q _ => ∃ (c dr : Addr) (t b lo hi n m : Int), vs = [.ref c, .int m] ∧ CkAt K C H c dr t b (some (lo, hi)) n ∧ ∀ H', Same H H' → Q (.bl (decide (hi + mostP n t b < m))) H'
def spLaw (K : PySem.W.Frag) : Sp := fun vs H Q _ => ∃ (a : Addr) (ns : List Int), vs = [.ref a] ∧ SqL K H a (ns.map V.int) ∧ ns.length ≤ 63 ∧ ∀ H', Q (.bl true) H'

/-! ### errors -/
theorem exm_of {K : PySem.W.Frag} {S D : Addr} {b : Bool} (h1 : PySem.W.subIn K (.ref D) (.type "BaseException") = some true) (h2 : PySem.W.isClsIn K D = true) (h3 : PySem.W.typeIn K (.ref D) = some (.type "type")) (h4 : PySem.W.subIn K (.ref S) (.ref D) = some b) : PySem.W.exmOne K (.ref S) (.ref D) = some b := by
  have h5 : (PySem.W.clsIn K D).isSome = true := h2
  unfold PySem.W.exmOne PySem.W.kitCls
  simp [h1, h3, h4, h5]
theorem kit_of {K : PySem.W.Frag} {S D : Addr} {b : Bool} (h0 : PySem.W.subIn K (.ref D) (.ref D) = some true) (h2 : PySem.W.isClsIn K D = true) (h3 : PySem.W.typeIn K (.ref D) = some (.type "type")) (h4 : PySem.W.subIn K (.ref S) (.ref D) = some b) : PySem.W.kitOne K (.ref S) (.ref D) = some b := by
  have h5 : (PySem.W.clsIn K D).isSome = true := h2
  unfold PySem.W.kitOne PySem.W.kitCls
  by_cases e : S = D
  · subst e
    rw [h0] at h4
    cases h4
    simp
  · have e2 : ((Value.ref S) == (Value.ref D)) = false := by
      rw [beq_eq_false_iff_ne]
      intro z
      exact e (Value.ref.inj z)
    simp [e2, h3, h4, h5]
theorem kit_blt {K : PySem.W.Frag} {S : Addr} {T : String} {b : Bool} (h1 : PySem.W.kitMeta T = true) (h4 : PySem.W.subIn K (.ref S) (.type T) = some b) : PySem.W.kitOne K (.ref S) (.type T) = some b := by
  unfold PySem.W.kitOne PySem.W.kitCls
  simp [h1, h4]
theorem same_err3 {H H2 : Hp} {x dx : Addr} {o1 o4 : HO} (hx : H x = none) (hd : H dx = none) (k : ∀ b, b ≠ x → b ≠ dx → H2 b = upd H x o1 b) : Same H (upd (del H2 x) dx o4) := fun b o e => by
  have n1 : b ≠ x := ne_of_none e hx
  have n2 : b ≠ dx := ne_of_none e hd
  rw [upd_ne n2, del_ne n1, k b n1 n2, upd_ne n1]
  exact e
/-- an own __init__ of one field -/
def spI1 (C : Addr) (f : Str) : Sp := fun vs H Q _ => ∃ (x : Addr) (y : V), vs = [.ref x, y] ∧ H x = some (exo x C none) ∧ ∀ (dx : Addr) (H' : Hp), H dx = none → dx ≠ x → H' x = some (exo x C (some dx)) → H' dx = some (exd dx [(f, y)]) → (∀ b, b ≠ x → b ≠ dx → H' b = H b) → Q .non H'
/-- an own __init__ of two fields -/
def spI2 (C : Addr) (f g : Str) : Sp := fun vs H Q _ => ∃ (x : Addr) (y z : V), vs = [.ref x, y, z] ∧ H x = some (exo x C none) ∧ ∀ (dx : Addr) (H' : Hp), H dx = none → dx ≠ x → H' x = some (exo x C (some dx)) → H' dx = some (exd dx [(g, z), (f, y)]) → (∀ b, b ≠ x → b ≠ dx → H' b = H b) → Q .non H'
def Out2 (E : XK) (C : Addr) (f g : Str) (y z : V) (H : Hp) : Prop := ∀ (dx : Addr) (H' : Hp), Same H H' → H' dx = some (.xd [(g, z), (f, y)]) → E (.ref C) (some dx) H'
theorem xd_one (f : Str) (y : V) : ([(f, y)] : List (Str × V)).lookup f = some y := by
  have e2 : (f == f) = true := by simp
  simp [List.lookup, e2]
/-- an error is let out: of the class C, its one field f the value y -/
def Out (E : XK) (C : Addr) (f : Str) (y : V) (H : Hp) : Prop := ∀ (dx : Addr) (H' : Hp), Same H H' → H' dx = some (.xd [(f, y)]) → E (.ref C) (some dx) H'
theorem Out.up {E : XK} {C : Addr} {f : Str} {y : V} {H H1 : Hp} (h : Out E C f y H) (k : Same H H1) : Out E C f y H1 := fun dx H' s e => h dx H' (k.trans s) e
/-- two promises of one def: one that lets nothing out, and one that may -/
theorem fn_or {P : Program} {w : World} {K : PySem.W.Frag} {mg : Str → Option Value} {base : Heap} {CX : CXT} {k : Nat} {f : Addr} {fd : FuncData} {ps : List Str} {s1 s2 : Sp} (F1 : FnOk P w K mg base CX0 k f fd ps s1) (F2 : FnOk P w K mg base CX k f fd ps s2) :
    FnOk P w K mg base CX k f fd ps (fun vs H Q E => s1 vs H Q E ∨ s2 vs H Q E) := by
  refine ⟨fun vs H Q E h => ?_, fun A outer s H args us vs Q E hr he hb hv hs => ?_⟩
  · rcases h with h | h
    · exact F1.len _ _ _ _ h
    · exact F2.len _ _ _ _ h
  · rcases hs with h | h
    · refine PySem.codeAny_mono (F1.run A outer s H args us vs Q E hr he hb hv h) fun r s' z => ?_
      cases r with
      | error e => exact z.elim
      | ok fl => cases fl <;> exact z
    · exact F2.run A outer s H args us vs Q E hr he hb hv h
theorem fn_up {P : Program} {w : World} {K : PySem.W.Frag} {mg : Str → Option Value} {base : Heap} {CX : CXT} {k j : Nat} {f : Addr} {fd : FuncData} {ps : List Str} {s1 : Sp} (F1 : FnOk P w K mg base CX k f fd ps s1) (h : k ≤ j) : FnOk P w K mg base CX j f fd ps s1 :=
  ⟨F1.len, fun A outer s H args us vs Q E hr he hb hv hs => F1.run A outer s H args us vs Q E (hr.mono h) he hb hv hs⟩
theorem fn_weak {P : Program} {w : World} {K : PySem.W.Frag} {mg : Str → Option Value} {base : Heap} {CX : CXT} {k : Nat} {f : Addr} {fd : FuncData} {ps : List Str} {s1 s2 : Sp} (F1 : FnOk P w K mg base CX k f fd ps s1) (h : ∀ vs H Q E, s2 vs H Q E → s1 vs H Q E) : FnOk P w K mg base CX k f fd ps s2 :=
  ⟨fun vs H Q E z => F1.len _ _ _ _ (h _ _ _ _ z), fun A outer s H args us vs Q E hr he hb hv hs => F1.run A outer s H args us vs Q E hr he hb hv (h _ _ _ _ hs)⟩
theorem bq {Q : VK} {H : Hp} {b c : Bool} (e : b = c) (q : Q (.bl b) H) : Q (.bl c) H := e ▸ q
def rowD (d : PyData) (k : Nat) : Bool := match d with
  | .tuple ds => decide (ds.length = k) && ds.all wholeD
  | _ => false
def fromToD (d : PyData) (lo hi : Int) : Bool := match d with
  | .int n => decide (lo ≤ n) && decide (n ≤ hi)
  | _ => false
theorem fromTo_int {d : PyData} {lo hi : Int} (h : fromToD d lo hi = true) : ∃ n, d = .int n ∧ lo ≤ n ∧ n ≤ hi := by
  cases d with
  | int n =>
    simp only [fromToD, Bool.and_eq_true, decide_eq_true_eq] at h
    exact ⟨n, rfl, h⟩
  | _ => cases h
theorem fromTo_no {d : PyData} {lo hi : Int} (h : wholeD d = false) : fromToD d lo hi = false := by
  cases d <;> first | rfl | cases h
def shareD : PyData → Bool
  | .tuple [.int t, .int b] => decide (1 ≤ b) && decide (b ≤ 1000) && decide (0 ≤ t) && decide (t ≤ b) && decide (Int.gcd t b = 1)
  | _ => false
def driftD (d : PyData) : Bool := shareD d && !PyData.eqv d (.tuple [.int 1, .int 1])
theorem whole_int {d : PyData} (h : wholeD d = true) : ∃ i, d = .int i := by
  cases d <;> first | exact ⟨_, rfl⟩ | (exact absurd h (by simp [wholeD]))
theorem row2 {d : PyData} (h : rowD d 2 = true) : ∃ t b, d = .tuple [.int t, .int b] := by
  cases d with
  | tuple ds =>
    simp only [rowD, Bool.and_eq_true, decide_eq_true_eq] at h
    match ds, h with
    | [x, y], ⟨_, h⟩ =>
      simp only [List.all_cons, List.all_nil, Bool.and_true, Bool.and_eq_true] at h
      obtain ⟨t, rfl⟩ := whole_int h.1
      obtain ⟨b, rfl⟩ := whole_int h.2
      exact ⟨t, b, rfl⟩
  | _ => exact absurd h (by simp [rowD])
def spFromToD (K : PySem.W.Frag) : Sp := fun vs H Q _ => ∃ (v : V) (d : PyData) (lo hi : Int), vs = [v, .int lo, .int hi] ∧ An K H v d ∧ Q (.bl (fromToD d lo hi)) H
structure Shw (d : PyData) : Prop where
  sh : d.showable = true
  dp : d.depth ≤ 64
  sz : d.shown.length ≤ sizeLine
def countD : PyData → Bool
  | .int n => decide (0 ≤ n)
  | _ => false
theorem count_no {d : PyData} (h : wholeD d = false) : countD d = false := by
  cases d <;> first | rfl | cases h
def spWholeD (K : PySem.W.Frag) : Sp := fun vs H Q _ => ∃ (v : V) (d : PyData), vs = [v] ∧ An K H v d ∧ Q (.bl (wholeD d)) H
def spCountD (K : PySem.W.Frag) : Sp := fun vs H Q _ => ∃ (v : V) (d : PyData), vs = [v] ∧ An K H v d ∧ Q (.bl (countD d)) H
def spRefX (K : PySem.W.Frag) (N : Addr) : Sp := fun vs H _ E => ∃ (v : V) (d : PyData), vs = [v] ∧ An K H v d ∧ countD d = false ∧ Out E N "text" (.str "no whole number from 0 on") H
def spTickX (K : PySem.W.Frag) (N : Addr) : Sp := fun vs H _ E => ∃ (v x : V) (d : PyData), vs = [x, v] ∧ An K H v d ∧ countD d = false ∧ Out E N "text" (.str "no whole number from 0 on") H

theorem ok_INoCopy {P : Program} {w : World} {K : PySem.W.Frag} {mg : Str → Option Value} {base : Heap} {a : Nat → Addr} {d : Nat → FuncData} (T : Txt K mg a d) {C : Addr} {B newId initId : String} {bm : List Value} (xo : XB.Own K C B newId initId bm) (no : PySem.W.findIn K (.ref C) "copy" = some none) : FnOk P w K mg base CX0 1 (a 150) (d 150) ["self", "copy"] (spI1 C "copy") := by
  refine T.F_INoCopy.ok sc_INoCopy (fun vs H Q E h => ?_) (fun cdv A outer s0 H vs Q E hr h => ?_)
  · obtain ⟨x, y, rfl, _⟩ := h
    rfl
  · obtain ⟨x, y, rfl, hx, q⟩ := h
    refine ⟨_, (pss_one (XB.ps_put xo no (pv 0) (pv 1))), ?_⟩
    refine ⟨_, rfl, _, rfl, x, rfl, hx, fun dx n ne => ?_⟩
    exact q dx _ n ne upd_same (by rw [upd_ne ne]; exact upd_same) fun b n1 n2 => by rw [upd_ne n1, upd_ne n2]

theorem ok_INoBounds {P : Program} {w : World} {K : PySem.W.Frag} {mg : Str → Option Value} {base : Heap} {a : Nat → Addr} {d : Nat → FuncData} (T : Txt K mg a d) : FnOk P w K mg base CX0 1 (a 151) (d 151) ["self", "low", "high"] (spI2 (a 102) "low" "high") := by
  refine T.F_INoBounds.ok sc_INoBounds (fun vs H Q E h => ?_) (fun cdv A outer s0 H vs Q E hr h => ?_)
  · obtain ⟨x, y, z, rfl, _⟩ := h
    rfl
  · obtain ⟨x, y, z, rfl, hx, q⟩ := h
    refine ⟨_, pss_cons (ps_ost (pv 0) (pv 1)) (pss_one (ps_ost (pv 0) (pv 2))), ?_⟩
    refine ⟨_, rfl, _, rfl, x, a 102, rfl, T.oe_NoBounds, T.ne_NoBounds_low, .inl ⟨hx, fun dx n ne => ?_⟩⟩
    refine ⟨_, rfl, _, rfl, x, a 102, rfl, T.oe_NoBounds, T.ne_NoBounds_high, .inr ⟨dx, _, upd_same, (by rw [upd_ne ne]; exact upd_same), (by show 1 ≤ 900; decide), ?_⟩⟩
    refine q dx _ n ne (by rw [upd_ne ne.symm]; exact upd_same) upd_same fun b n1 n2 => ?_
    rw [upd_ne n2, upd_ne n1, upd_ne n2]

theorem ok_IWaitError {P : Program} {w : World} {K : PySem.W.Frag} {mg : Str → Option Value} {base : Heap} {a : Nat → Addr} {d : Nat → FuncData} (T : Txt K mg a d) {C : Addr} {B newId initId : String} {bm : List Value} (xo : XB.Own K C B newId initId bm) (no : PySem.W.findIn K (.ref C) "text" = some none) : FnOk P w K mg base CX0 1 (a 152) (d 152) ["self", "text"] (spI1 C "text") := by
  refine T.F_IWaitError.ok (CX := CX0) sc_IWaitError (fun vs H Q E h => ?_) (fun cdv A outer s0 H vs Q E hr h => ?_)
  · obtain ⟨x, y, rfl, _⟩ := h
    rfl
  · obtain ⟨x, y, rfl, hx, q⟩ := h
    refine ⟨_, PSs.nox (pss_one (XB.ps_put xo no (pv 0) (pv 1))), ?_⟩
    refine ⟨_, rfl, _, rfl, x, rfl, hx, fun dx n ne => ?_⟩
    exact q dx _ n ne upd_same (by rw [upd_ne ne]; exact upd_same) fun b n1 n2 => by rw [upd_ne n1, upd_ne n2]

theorem ok_INoHead {P : Program} {w : World} {K : PySem.W.Frag} {mg : Str → Option Value} {base : Heap} {a : Nat → Addr} {d : Nat → FuncData} (T : Txt K mg a d) {C : Addr} {B newId initId : String} {bm : List Value} (xo : XB.Own K C B newId initId bm) (no : PySem.W.findIn K (.ref C) "house" = some none) : FnOk P w K mg base CX0 1 (a 153) (d 153) ["self", "house"] (spI1 C "house") := by
  refine T.F_INoHead.ok sc_INoHead (fun vs H Q E h => ?_) (fun cdv A outer s0 H vs Q E hr h => ?_)
  · obtain ⟨x, y, rfl, _⟩ := h
    rfl
  · obtain ⟨x, y, rfl, hx, q⟩ := h
    refine ⟨_, (pss_one (XB.ps_put xo no (pv 0) (pv 1))), ?_⟩
    refine ⟨_, rfl, _, rfl, x, rfl, hx, fun dx n ne => ?_⟩
    exact q dx _ n ne upd_same (by rw [upd_ne ne]; exact upd_same) fun b n1 n2 => by rw [upd_ne n1, upd_ne n2]

theorem ok_is_whole {P : Program} {w : World} {K : PySem.W.Frag} {mg : Str → Option Value} {base : Heap} {a : Nat → Addr} {d : Nat → FuncData} (T : Txt K mg a d) : FnOk P w K mg base CX0 1 (a 0) (d 0) ["thing"] spWhole := by
  refine T.F_is_whole.ok sc_is_whole (fun vs H Q E h => ?_) (fun cdv A outer s0 H vs Q E hr h => ?_)
  · obtain ⟨n, rfl, q⟩ := h
    rfl
  · obtain ⟨n, rfl, q⟩ := h
    refine ⟨_, (pss_one (ps_ret (pe_and (pe_callB call_isi (by rfl) T.z_isinstance (by decide +kernel) (pa_cons (pv 0) (pa_cons (pe_bltn (v := .ty "int") (by rfl) T.z_int (by decide +kernel) rfl) pa_nil))) (pe_one (pe_not (pe_callB call_isi (by rfl) T.z_isinstance (by decide +kernel) (pa_cons (pv 0) (pa_cons (pe_bltn (v := .ty "bool") (by rfl) T.z_bool (by decide +kernel) rfl) pa_nil)))))))), ?_⟩
    refine ⟨_, rfl, _, _, .type "int", .type "int", true, rfl, .ty "int", .base (.int n), kit_ty (by decide +kernel), true, rfl, iteT ?_⟩
    refine ⟨_, rfl, _, _, .type "int", .type "bool", false, rfl, .ty "bool", .base (.int n), kit_ty (by decide +kernel), false, rfl, ?_⟩
    exact q

theorem ok_is_count {P : Program} {w : World} {K : PySem.W.Frag} {mg : Str → Option Value} {base : Heap} {a : Nat → Addr} {d : Nat → FuncData} (T : Txt K mg a d) : FnOk P w K mg base CX0 2 (a 1) (d 1) ["thing"] spCount := by
  refine T.F_is_count.ok sc_is_count (fun vs H Q E h => ?_) (fun cdv A outer s0 H vs Q E hr h => ?_)
  · obtain ⟨n, rfl, n0, q⟩ := h
    rfl
  · obtain ⟨n, rfl, n0, q⟩ := h
    refine ⟨_, (pss_one (ps_ret (pe_and (pe_call (ok_is_whole T) (hr.mono (by decide)) (by rfl) T.g_is_whole T.F_is_whole.kp T.b_is_whole .nil pass0 (pa_cons (pv 0) pa_nil)) (pe_one (pe_cmpR op_ge (pv 0) pe_int (nomark _)))))), ?_⟩
    refine ⟨_, rfl, n, rfl, true, rfl, iteT ?_⟩
    exact ⟨_, rfl, n, 0, rfl, rfl, bl_of (Q := Q) n0 q⟩

theorem ok_is_from_to {P : Program} {w : World} {K : PySem.W.Frag} {mg : Str → Option Value} {base : Heap} {a : Nat → Addr} {d : Nat → FuncData} (T : Txt K mg a d) : FnOk P w K mg base CX0 1 (a 2) (d 2) ["thing", "least", "most"] spFromTo := by
  refine T.F_is_from_to.ok sc_is_from_to (fun vs H Q E h => ?_) (fun cdv A outer s0 H vs Q E hr h => ?_)
  · obtain ⟨n, lo, hi, rfl, h1, h2, q⟩ := h
    rfl
  · obtain ⟨n, lo, hi, rfl, h1, h2, q⟩ := h
    refine ⟨_, (pss_one (ps_ret (pe_and (pe_callB call_isi (by rfl) T.z_isinstance (by decide +kernel) (pa_cons (pv 0) (pa_cons (pe_bltn (v := .ty "int") (by rfl) T.z_int (by decide +kernel) rfl) pa_nil))) (pe_and (pe_not (pe_callB call_isi (by rfl) T.z_isinstance (by decide +kernel) (pa_cons (pv 0) (pa_cons (pe_bltn (v := .ty "bool") (by rfl) T.z_bool (by decide +kernel) rfl) pa_nil)))) (pe_one (pe_chain op_le op_le (pv 1) (pv 0) (pv 2))))))), ?_⟩
    refine ⟨_, rfl, _, _, .type "int", .type "int", true, rfl, .ty "int", .base (.int n), kit_ty (by decide +kernel), true, rfl, iteT ?_⟩
    refine ⟨_, rfl, _, _, .type "int", .type "bool", false, rfl, .ty "bool", .base (.int n), kit_ty (by decide +kernel), false, rfl, true, rfl, iteT ?_⟩
    refine ⟨_, rfl, _, rfl, lo, n, rfl, rfl, _, rfl, iteDT h1 ?_⟩
    exact ⟨_, rfl, n, hi, rfl, rfl, bl_of (Q := Q) h2 q⟩

theorem ok_common_divisor {P : Program} {w : World} {K : PySem.W.Frag} {mg : Str → Option Value} {base : Heap} {a : Nat → Addr} {d : Nat → FuncData} (T : Txt K mg a d) : FnOk P w K mg base CX0 1 (a 3) (d 3) ["first", "second"] spCd := by
  refine T.F_common_divisor.ok sc_common_divisor (fun vs H Q E h => ?_) (fun cdv A outer s0 H vs Q E hr h => ?_)
  · obtain ⟨x, y, rfl, x0, y0, q⟩ := h
    rfl
  · obtain ⟨x, y, rfl, x0, y0, q⟩ := h
    refine ⟨_, (pss_cons (ps_while PassesOwn.never (pt_truth (pv 1) (by intro _; rfl)) (pss_one (ps_par (i := 0) (j := 1) (by rfl) sc_common_divisor.nd rfl rfl (by decide) rfl rfl (pa_cons (pv 1) (pa_cons (pe_op op_mod (pv 0) (pv 1)) pa_nil)) (by rfl)))) (pss_one (ps_ret (pv 0)))), ?_⟩
    refine ⟨fun m σ H' => H' = H ∧ ∃ h t : Int, σ = [some (.int h), some (.int t)] ∧ m = t.toNat ∧ 0 ≤ h ∧ 0 ≤ t ∧ Int.gcd h t = Int.gcd x y, ⟨_, rfl, x, y, rfl, rfl, x0, y0, rfl⟩, ?_⟩
    rintro m σ H' ⟨rfl, h, t, rfl, rfl, h0, t0, eg⟩
    refine ⟨_, rfl, _, rfl, ?_⟩
    by_cases hz : t = 0
    · subst hz
      refine iteBF rfl ?_
      have e1 : (Int.gcd x y : Int) = h := by
        rw [← eg, Int.gcd_zero_right]
        omega
      refine ⟨_, rfl, ?_⟩
      rw [e1] at q
      exact q
    · have tp : 0 < t := by omega
      refine iteBT (by simpa using hz) ?_
      refine ⟨_, fun _ _ z => z, ?_⟩
      refine ⟨_, rfl, _, rfl, _, rfl, h, t, rfl, rfl, tp, _, _, rfl, ?_⟩
      have e0 := Int.emod_nonneg h (show t ≠ 0 by omega)
      have e1 := Int.emod_lt_of_pos h tp
      exact ⟨(h % t).toNat, by omega, rfl, t, h % t, rfl, rfl, t0, e0, (gcd_turn h0 tp).trans eg⟩

theorem ok_is_share {P : Program} {w : World} {K : PySem.W.Frag} {mg : Str → Option Value} {base : Heap} {a : Nat → Addr} {d : Nat → FuncData} (T : Txt K mg a d) : FnOk P w K mg base CX0 3 (a 4) (d 4) ["thing"] (spShare K) := by
  refine T.F_is_share.ok sc_is_share (fun vs H Q E h => ?_) (fun cdv A outer s0 H vs Q E hr h => ?_)
  · obtain ⟨p, t, b, rfl, hd, q⟩ := h
    rfl
  · obtain ⟨p, t, b, rfl, hd, q⟩ := h
    refine ⟨_, (pss_cons (ps_if (PW.pt (pw_or (pt_not (pt_truth (pe_callB call_isi (by rfl) T.z_isinstance (by decide +kernel) (pa_cons (pv 0) (pa_cons (pe_bltn (v := .ty "tuple") (by rfl) T.z_tuple (by decide +kernel) rfl) pa_nil))) (by intro _; rfl))) (pw_or1 (pt_cmpR op_ne (pe_callB call_len_seq (by rfl) T.z_len PySem.boot_len (pa_cons (pv 0) pa_nil)) pe_int (nomark _))))) (pss_one (ps_ret pe_bl)) pss_nil) (pss_cons (ps_asg (pv 0) (pg_tup (by rfl) (pgs_cons (pg_name (i := 1) sc_is_share.nd rfl (.inl rfl)) (pgs_cons (pg_name (i := 2) sc_is_share.nd rfl (.inl rfl)) pgs_nil)))) (pss_cons (ps_if (PW.pt (pw_or (pt_not (pt_truth (pe_call (ok_is_from_to T) (hr.mono (by decide)) (by rfl) T.g_is_from_to T.F_is_from_to.kp T.b_is_from_to .nil pass0 (pa_cons (pv 2) (pa_cons pe_int (pa_cons (pe_glob (v := .int (1000)) (by rfl) (Exists.choose_spec T.g_MOST_BOTTOM) ⟨_, rfl⟩) pa_nil)))) (by intro _; rfl))) (pw_or1 (pt_not (pt_truth (pe_call (ok_is_from_to T) (hr.mono (by decide)) (by rfl) T.g_is_from_to T.F_is_from_to.kp T.b_is_from_to .nil pass0 (pa_cons (pv 1) (pa_cons pe_int (pa_cons (pv 2) pa_nil)))) (by intro _; rfl)))))) (pss_one (ps_ret pe_bl)) pss_nil) (pss_one (ps_ret (pe_or (pe_cmpR op_eq (pv 1) pe_int (nomark _)) (pe_one (pe_cmpR op_eq (pe_call (ok_common_divisor T) (hr.mono (by decide)) (by rfl) T.g_common_divisor T.F_common_divisor.kp T.b_common_divisor .nil pass0 (pa_cons (pv 1) (pa_cons (pv 2) pa_nil))) pe_int (nomark _))))))))), ?_⟩
    obtain ⟨hS, t0, tb, b1, hg⟩ := hd
    refine ⟨_, rfl, _, _, .type "tuple", .type "tuple", true, rfl, .ty "tuple", sqt_ty hS, kit_ty (by decide +kernel), true, rfl, iteF ?_⟩
    refine ⟨_, rfl, p, _, rfl, .inr hS, rfl, _, rfl, iteNS rfl ?_⟩
    refine ⟨_, rfl, p, _, rfl, hS, rfl, _, _, rfl, _, _, rfl, rfl, ?_⟩
    refine ⟨_, rfl, b, 1, 1000, rfl, by omega, by omega, true, rfl, iteF ?_⟩
    refine ⟨_, rfl, _, rfl, t, 0, b, rfl, by omega, by omega, true, rfl, iteF ?_⟩
    refine ⟨_, rfl, rfl, _, rfl, ?_⟩
    refine ite2 (fun h => ?_) (fun h => ?_)
    · exact q H (Same.refl H)
    refine ⟨_, rfl, _, rfl, t, b, rfl, t0, by omega, rfl, ?_⟩
    have e : (V.int (Int.gcd t b : Nat) = V.int 1) := by rw [hg]; rfl
    exact bl_of (Q := Q) e (q H (Same.refl H))

theorem ok_is_drift {P : Program} {w : World} {K : PySem.W.Frag} {mg : Str → Option Value} {base : Heap} {a : Nat → Addr} {d : Nat → FuncData} (T : Txt K mg a d) : FnOk P w K mg base CX0 4 (a 5) (d 5) ["thing"] (spShare K) := by
  refine T.F_is_drift.ok sc_is_drift (fun vs H Q E h => ?_) (fun cdv A outer s0 H vs Q E hr h => ?_)
  · obtain ⟨p, t, b, rfl, hd, q⟩ := h
    rfl
  · obtain ⟨p, t, b, rfl, hd, q⟩ := h
    refine ⟨_, (pss_one (ps_ret (pe_and (pe_call (ok_is_share T) (hr.mono (by decide)) (by rfl) T.g_is_share T.F_is_share.kp T.b_is_share .nil pass0 (pa_cons (pv 0) pa_nil)) (pe_one (pe_cmpR (op_neD hr.units) (pv 0) (pe_glob (v := .ref (a 44)) (by rfl) T.g_WHOLE rfl) (nomark _)))))), ?_⟩
    refine ⟨_, rfl, p, t, b, rfl, hd, fun H1 s1 => ⟨true, rfl, iteT ?_⟩⟩
    have hS1 := same_sqt s1 hd.1
    refine ⟨_, rfl, .tuple [.int t, .int b], .tuple [.int 1, .int 1], .tup hS1 (.cons (.int _) (.cons (.int _) .nil)), .tup (T.k_WHOLE _) (.cons (.int _) (.cons (.int _) .nil)), rfl, rfl, ?_⟩
    have e : PyData.eqv (.tuple [.int t, .int b]) (.tuple [.int 1, .int 1]) = false := by
      have := hd.2.2.1
      by_cases ht : t = 1
      · have hb : b ≠ 1 := by omega
        simp [PyData.eqv, PyData.eqvAll, hb]
      · simp [PyData.eqv, PyData.eqvAll, ht]
    show Q (V.bl (!PyData.eqv (.tuple [.int t, .int b]) (.tuple [.int 1, .int 1]))) H1
    rw [e]
    exact q H1 s1

theorem ok_refuse_no_count {P : Program} {w : World} {K : PySem.W.Frag} {mg : Str → Option Value} {base : Heap} {a : Nat → Addr} {d : Nat → FuncData} (T : Txt K mg a d) : FnOk P w K mg base CX0 3 (a 6) (d 6) ["thing"] spRef := by
  refine T.F_refuse_no_count.ok sc_refuse_no_count (fun vs H Q E h => ?_) (fun cdv A outer s0 H vs Q E hr h => ?_)
  · obtain ⟨n, rfl, n0, q⟩ := h
    rfl
  · obtain ⟨n, rfl, n0, q⟩ := h
    refine ⟨_, (pss_one (ps_if (pt_not (pt_truth (pe_call (ok_is_count T) (hr.mono (by decide)) (by rfl) T.g_is_count T.F_is_count.kp T.b_is_count .nil pass0 (pa_cons (pv 0) pa_nil)) (by intro _; rfl))) (pss_one ps_never) pss_nil)), ?_⟩
    refine ⟨_, rfl, n, rfl, n0, true, rfl, iteF ?_⟩
    exact q

theorem ok_least_of {P : Program} {w : World} {K : PySem.W.Frag} {mg : Str → Option Value} {base : Heap} {a : Nat → Addr} {d : Nat → FuncData} (T : Txt K mg a d) : FnOk P w K mg base CX0 1 (a 7) (d 7) ["ticks", "drift"] (spLeast K) := by
  refine T.F_least_of.ok sc_least_of (fun vs H Q E h => ?_) (fun cdv A outer s0 H vs Q E hr h => ?_)
  · obtain ⟨n, t, b, p, rfl, n0, ⟨hd, t0, tb, b1, _⟩, q⟩ := h
    rfl
  · obtain ⟨n, t, b, p, rfl, n0, ⟨hd, t0, tb, b1, _⟩, q⟩ := h
    refine ⟨_, (pss_cons (ps_asg (pv 1) (pg_tup (by rfl) (pgs_cons (pg_name (i := 2) sc_least_of.nd rfl (.inl rfl)) (pgs_cons (pg_name (i := 3) sc_least_of.nd rfl (.inl rfl)) pgs_nil)))) (pss_one (ps_ret (pe_un un_neg (pe_op op_fdivW (pe_op op_mul (pe_un un_neg (pv 0)) (pv 3)) (pe_op op_add (pv 3) (pv 2))))))), ?_⟩
    refine ⟨_, rfl, p, _, rfl, hd, rfl, _, _, rfl, _, _, rfl, rfl, ?_⟩
    refine ⟨_, rfl, n, rfl, _, rfl, -n, b, rfl, rfl, .inr (m64 (by omega) (by omega)), _, rfl, _, rfl, b, t, rfl, rfl, _, _, rfl, rfl, divW (by omega) (by omega), _, rfl, ?_⟩
    exact q

theorem ok_most_of {P : Program} {w : World} {K : PySem.W.Frag} {mg : Str → Option Value} {base : Heap} {a : Nat → Addr} {d : Nat → FuncData} (T : Txt K mg a d) : FnOk P w K mg base CX0 1 (a 8) (d 8) ["ticks", "drift"] (spMost K) := by
  refine T.F_most_of.ok sc_most_of (fun vs H Q E h => ?_) (fun cdv A outer s0 H vs Q E hr h => ?_)
  · obtain ⟨n, t, b, p, rfl, n0, ⟨hd, t0, tb, b1, _⟩, q⟩ := h
    rfl
  · obtain ⟨n, t, b, p, rfl, n0, ⟨hd, t0, tb, b1, _⟩, q⟩ := h
    refine ⟨_, (pss_cons (ps_asg (pv 1) (pg_tup (by rfl) (pgs_cons (pg_name (i := 2) sc_most_of.nd rfl (.inl rfl)) (pgs_cons (pg_name (i := 3) sc_most_of.nd rfl (.inl rfl)) pgs_nil)))) (pss_one (ps_ret (pe_op op_fdivW (pe_op op_sub (pe_op op_mul (pe_op op_add (pv 0) pe_int) (pv 3)) pe_int) (pe_op op_sub (pv 3) (pv 2)))))), ?_⟩
    refine ⟨_, rfl, p, _, rfl, hd, rfl, _, _, rfl, _, _, rfl, rfl, ?_⟩
    refine ⟨_, rfl, n, 1, rfl, rfl, _, rfl, _, b, rfl, rfl, .inr (m64 (by omega) (by omega)), _, 1, rfl, rfl, _, rfl, _, rfl, b, t, rfl, rfl, _, _, rfl, rfl, divW (by omega) (by omega), ?_⟩
    exact q

theorem ok_bounds_behind {P : Program} {w : World} {K : PySem.W.Frag} {mg : Str → Option Value} {base : Heap} {a : Nat → Addr} {d : Nat → FuncData} (T : Txt K mg a d) : FnOk P w K mg base CX0 2 (a 9) (d 9) ["stands", "counted", "drift"] (spBB K) := by
  refine T.F_bounds_behind.ok sc_bounds_behind (fun vs H Q E h => ?_) (fun cdv A outer s0 H vs Q E hr h => ?_)
  · obtain ⟨sv, st, n, dr, t, b, rfl, hs, n0, hd, q⟩ := h
    rfl
  · obtain ⟨sv, st, n, dr, t, b, rfl, hs, n0, hd, q⟩ := h
    refine ⟨_, (pss_cons (ps_if (pt_cmpR op_isN (pv 0) pe_non (nomark _)) (pss_one (ps_ret pe_non)) pss_nil) (pss_one (ps_ret (pe_tup (pa_cons (pe_op op_add (pe_ix ix_tup (pv 0) pe_int (fun _ _ => rfl)) (pe_call (ok_least_of T) (hr.mono (by decide)) (by rfl) T.g_least_of T.F_least_of.kp T.b_least_of .nil pass0 (pa_cons (pv 1) (pa_cons (pv 2) pa_nil)))) (pa_cons (pe_op op_add (pe_ix ix_tup (pv 0) pe_int (fun _ _ => rfl)) (pe_call (ok_most_of T) (hr.mono (by decide)) (by rfl) T.g_most_of T.F_most_of.kp T.b_most_of .nil pass0 (pa_cons (pv 1) (pa_cons (pv 2) pa_nil)))) pa_nil)))))), ?_⟩
    cases st with
    | none =>
      have e : sv = V.non := hs
      subst e
      refine ⟨_, rfl, rfl, _, rfl, iteT ?_⟩
      exact q
    | some z =>
      obtain ⟨sp, e, hs⟩ := hs
      subst e
      refine ⟨_, rfl, rfl, _, rfl, iteF ?_⟩
      refine ⟨_, rfl, sp, _, 0, _, rfl, rfl, hs, rfl, _, rfl, _, rfl, n, t, b, dr, rfl, n0, hd, _, _, rfl, rfl, ?_⟩
      refine ⟨_, rfl, sp, _, 1, _, rfl, rfl, hs, rfl, _, rfl, _, rfl, n, t, b, dr, rfl, n0, hd, _, _, rfl, rfl, len2, fun p np => ?_⟩
      exact q p np

theorem ok_set_between {P : Program} {w : World} {K : PySem.W.Frag} {mg : Str → Option Value} {base : Heap} {a : Nat → Addr} {d : Nat → FuncData} (T : Txt K mg a d) : FnOk P w K mg base CX0 2 (a 10) (d 10) ["told", "low", "high"] (spSB K) := by
  refine T.F_set_between.ok sc_set_between (fun vs H Q E h => ?_) (fun cdv A outer s0 H vs Q E hr h => ?_)
  · obtain ⟨tv, st, low, high, rfl, hs, hlh, hle, q⟩ := h
    rfl
  · obtain ⟨tv, st, low, high, rfl, hs, hlh, hle, q⟩ := h
    refine ⟨_, (pss_cons (ps_if (PW.pt (pw_or (pt_not (pt_truth (pe_call (ok_is_whole T) (hr.mono (by decide)) (by rfl) T.g_is_whole T.F_is_whole.kp T.b_is_whole .nil pass0 (pa_cons (pv 1) pa_nil)) (by intro _; rfl))) (pw_or (pt_not (pt_truth (pe_call (ok_is_whole T) (hr.mono (by decide)) (by rfl) T.g_is_whole T.F_is_whole.kp T.b_is_whole .nil pass0 (pa_cons (pv 2) pa_nil)) (by intro _; rfl))) (pw_or1 (pt_cmpR op_gt (pv 1) (pv 2) (nomark _)))))) (pss_one ps_never) pss_nil) (pss_cons (ps_if (pt_cmpR op_isN (pv 0) pe_non (nomark _)) (pss_one (ps_ret (pe_tup (pa_cons (pv 1) (pa_cons (pv 2) pa_nil))))) pss_nil) (pss_cons (ps_set (i := 3) sc_set_between.nd rfl (Or.inl rfl) (pe_callB (call_max2 rfl) (by rfl) T.z_max (by decide +kernel) (pa_cons (pv 1) (pa_cons (pe_ix ix_tup (pv 0) pe_int (fun _ _ => rfl)) pa_nil)))) (pss_cons (ps_set (i := 4) sc_set_between.nd rfl (Or.inl rfl) (pe_callB (call_min2 rfl) (by rfl) T.z_min (by decide +kernel) (pa_cons (pv 2) (pa_cons (pe_ix ix_tup (pv 0) pe_int (fun _ _ => rfl)) pa_nil)))) (pss_cons (ps_if (pt_cmpR op_gt (pv 3) (pv 4) (nomark _)) (pss_one ps_never) pss_nil) (pss_one (ps_ret (pe_tup (pa_cons (pv 3) (pa_cons (pv 4) pa_nil)))))))))), ?_⟩
    refine ⟨_, rfl, low, rfl, true, rfl, iteF ?_⟩
    refine ⟨_, rfl, high, rfl, true, rfl, iteF ?_⟩
    refine ⟨_, rfl, _, rfl, low, high, rfl, rfl, _, rfl, iteDF (by omega) ?_⟩
    cases st with
    | none =>
      have e : tv = V.non := hs
      subst e
      refine ⟨_, rfl, rfl, _, rfl, iteT ?_⟩
      exact ⟨_, rfl, _, rfl, len2, fun p np => q p np⟩
    | some z =>
      obtain ⟨sp, e, hs⟩ := hs
      subst e
      refine ⟨_, rfl, rfl, _, rfl, iteF ?_⟩
      refine ⟨_, rfl, _, rfl, sp, _, 0, _, rfl, rfl, hs, rfl, low, _, rfl, ?_⟩
      refine ⟨_, rfl, _, rfl, sp, _, 1, _, rfl, rfl, hs, rfl, high, _, rfl, ?_⟩
      refine ⟨_, rfl, _, rfl, _, _, rfl, rfl, _, rfl, iteDF (Int.not_lt.mpr hle) ?_⟩
      exact ⟨_, rfl, _, rfl, len2, fun p np => q p np⟩

theorem ok_Clock___init__ {P : Program} {w : World} {K : PySem.W.Frag} {mg : Str → Option Value} {base : Heap} {a : Nat → Addr} {d : Nat → FuncData} (T : Txt K mg a d) : FnOk P w K mg base CX0 5 (a 28) (d 28) ["self", "drift"] (spInit K (a 43)) := by
  refine T.F_Clock___init__.ok (CX := CX0) sc_Clock___init__ (fun vs H Q E h => ?_) (fun cdv A outer s0 H vs Q E hr h => ?_)
  · obtain ⟨x, dr, dx, t, b, rfl, hx, hd, q⟩ := h
    rfl
  · obtain ⟨x, dr, dx, t, b, rfl, hx, hd, q⟩ := h
    refine ⟨_, PSs.nox (pss_cons (ps_if (pt_not (pt_truth (pe_call (ok_is_drift T) (hr.mono (by decide)) (by rfl) T.g_is_drift T.F_is_drift.kp T.b_is_drift .nil pass0 (pa_cons (pv 1) pa_nil)) (by intro _; rfl))) (pss_one ps_never) pss_nil) (pss_cons (ps_fld (pv 0) (pv 1) rfl) (pss_cons (ps_fld (pv 0) pe_non rfl) (pss_one (ps_fld (pv 0) pe_int rfl))))), ?_⟩
    refine ⟨_, rfl, dr, t, b, rfl, hd, fun H1 s1 => ⟨true, rfl, iteF ?_⟩⟩
    refine ⟨_, rfl, _, rfl, x, _, dx, _, rfl, s1 _ _ hx, T.cl_Clock, T.n_Clock_most_drift, (by decide), ?_⟩
    refine ⟨_, rfl, x, _, dx, _, rfl, upd_same, T.cl_Clock, T.n_Clock_stands, (by show 1 < 1000; decide), ?_⟩
    refine ⟨_, rfl, x, _, dx, _, rfl, upd_same, T.cl_Clock, T.n_Clock_counted, (by simp only [putF, if_neg ne_ms]; show 2 < 1000; decide), ?_⟩
    have f1 : ∀ o1 o2 o3, Fr x H (upd (upd (upd H1 x o1) x o2) x o3) := fun _ _ _ => (((fr_same s1).put).put).put
    exact q _ (f1 _ _ _) ⟨⟨dx, .non, upd_same, rfl⟩, hd.fr (f1 _ _ _) hx trivial, Int.le_refl 0⟩

theorem ok_Clock_is_set {P : Program} {w : World} {K : PySem.W.Frag} {mg : Str → Option Value} {base : Heap} {a : Nat → Addr} {d : Nat → FuncData} (T : Txt K mg a d) : FnOk P w K mg base CX0 1 (a 29) (d 29) ["self"] (spIsSet K (a 43)) := by
  refine T.F_Clock_is_set.ok sc_Clock_is_set (fun vs H Q E h => ?_) (fun cdv A outer s0 H vs Q E hr h => ?_)
  · obtain ⟨c, dr, t, b, st, n, rfl, ⟨⟨dx, sv, hc, hs⟩, hd, nn⟩, q⟩ := h
    rfl
  · obtain ⟨c, dr, t, b, st, n, rfl, ⟨⟨dx, sv, hc, hs⟩, hd, nn⟩, q⟩ := h
    refine ⟨_, (pss_one (ps_ret (pe_cmpR op_notN (pe_fld (pv 0) rfl) pe_non (nomark _)))), ?_⟩
    refine ⟨_, rfl, c, _, dx, _, _, rfl, hc, T.cl_Clock, T.n_Clock_stands, cf_s _ _ _, rfl, ?_⟩
    cases st with
    | none =>
      have e : sv = V.non := hs
      subst e
      exact q
    | some z =>
      obtain ⟨p, e, _⟩ := hs
      subst e
      exact q

theorem ok_Clock_bounds {P : Program} {w : World} {K : PySem.W.Frag} {mg : Str → Option Value} {base : Heap} {a : Nat → Addr} {d : Nat → FuncData} (T : Txt K mg a d) : FnOk P w K mg base CX0 5 (a 32) (d 32) ["self"] (spBounds K (a 43)) := by
  refine T.F_Clock_bounds.ok sc_Clock_bounds (fun vs H Q E h => ?_) (fun cdv A outer s0 H vs Q E hr h => ?_)
  · obtain ⟨c, dr, t, b, lo, hi, n, rfl, hk, q⟩ := h
    rfl
  · obtain ⟨c, dr, t, b, lo, hi, n, rfl, hk, q⟩ := h
    obtain ⟨⟨dx, sv, hc, hs⟩, hd, nn⟩ := id hk
    obtain ⟨sp, rfl, hs'⟩ := id hs
    refine ⟨_, (pss_cons (ps_if (pt_cmpR op_isN (pe_fld (pv 0) rfl) pe_non (nomark _)) (pss_one ps_never) pss_nil) (pss_one (ps_ret (pe_call (ok_bounds_behind T) (hr.mono (by decide)) (by rfl) T.g_bounds_behind T.F_bounds_behind.kp T.b_bounds_behind .nil pass0 (pa_cons (pe_fld (pv 0) rfl) (pa_cons (pe_fld (pv 0) rfl) (pa_cons (pe_fld (pv 0) rfl) pa_nil))))))), ?_⟩
    refine ⟨_, rfl, c, _, dx, _, _, rfl, hc, T.cl_Clock, T.n_Clock_stands, cf_s _ _ _, rfl, _, rfl, iteF ?_⟩
    refine ⟨_, rfl, c, _, dx, _, _, rfl, hc, T.cl_Clock, T.n_Clock_stands, cf_s _ _ _, _, rfl, c, _, dx, _, _, rfl, hc, T.cl_Clock, T.n_Clock_counted, cf_c _ _ _, _, rfl, c, _, dx, _, _, rfl, hc, T.cl_Clock, T.n_Clock_most_drift, cf_m _ _ _, ?_⟩
    exact ⟨_, some (lo, hi), n, dr, t, b, rfl, hs, nn, hd, fun p np => q p np⟩

theorem ok_Clock_set_to {P : Program} {w : World} {K : PySem.W.Frag} {mg : Str → Option Value} {base : Heap} {a : Nat → Addr} {d : Nat → FuncData} (T : Txt K mg a d) : FnOk P w K mg base CX0 6 (a 30) (d 30) ["self", "low", "high"] (spSet K (a 43)) := by
  refine T.F_Clock_set_to.ok sc_Clock_set_to (fun vs H Q E h => ?_) (fun cdv A outer s0 H vs Q E hr h => ?_)
  · obtain ⟨c, dr, t, b, st, n, low, high, rfl, hk, hlh, hle, q⟩ := h
    rfl
  · obtain ⟨c, dr, t, b, st, n, low, high, rfl, hk, hlh, hle, q⟩ := h
    refine ⟨_, (pss_cons (ps_set (i := 3) sc_Clock_set_to.nd rfl (Or.inl rfl) (pe_call (ok_bounds_behind T) (hr.mono (by decide)) (by rfl) T.g_bounds_behind T.F_bounds_behind.kp T.b_bounds_behind .nil pass0 (pa_cons (pe_fld (pv 0) rfl) (pa_cons (pe_fld (pv 0) rfl) (pa_cons (pe_fld (pv 0) rfl) pa_nil))))) (pss_cons (ps_fld (pv 0) (pe_call (ok_set_between T) (hr.mono (by decide)) (by rfl) T.g_set_between T.F_set_between.kp T.b_set_between .nil pass0 (pa_cons (pv 3) (pa_cons (pv 1) (pa_cons (pv 2) pa_nil)))) rfl) (pss_one (ps_fld (pv 0) pe_int rfl)))), ?_⟩
    obtain ⟨⟨dx, sv, hc, hs⟩, hd, nn⟩ := id hk
    refine ⟨_, rfl, c, _, dx, _, _, rfl, hc, T.cl_Clock, T.n_Clock_stands, cf_s _ _ _, _, rfl, c, _, dx, _, _, rfl, hc, T.cl_Clock, T.n_Clock_counted, cf_c _ _ _, _, rfl, c, _, dx, _, _, rfl, hc, T.cl_Clock, T.n_Clock_most_drift, cf_m _ _ _, ?_⟩
    refine ⟨_, st, n, dr, t, b, rfl, hs, nn, hd, ?_⟩
    cases st with
    | none =>
      refine ⟨_, rfl, _, rfl, _, rfl, _, none, low, high, rfl, rfl, hlh, hle, fun p np => ?_⟩
      have npc : c ≠ p := ne_of_none hc np
      refine ⟨_, rfl, c, _, dx, _, rfl, (by rw [upd_ne npc]; exact hc), T.cl_Clock, T.n_Clock_stands, cf_len _ _ _, ?_⟩
      refine ⟨_, rfl, c, _, dx, _, rfl, upd_same, T.cl_Clock, T.n_Clock_counted, (by rw [cf_put_s]; exact cf_len _ _ _), ?_⟩
      rw [cf_put_s, cf_put_c]
      have f1 : Fr c H (upd (upd (upd H p (.tup [.int low, .int high])) c (.ins (a 43) dx (cf (.ref dr) (.ref p) n))) c (.ins (a 43) dx (cf (.ref dr) (.ref p) 0))) := (((Fr.refl c H).new np).put).put
      exact q _ f1 ⟨⟨dx, .ref p, upd_same, p, rfl, SqT.of (by rw [upd_ne npc.symm, upd_ne npc.symm]; exact upd_same)⟩, hd.fr f1 hc trivial, Int.le_refl 0⟩
    | some z =>
      obtain ⟨lo, hi⟩ := z
      intro p1 np1
      refine ⟨_, rfl, _, rfl, _, rfl, _, some (lo + leastP n t b, hi + mostP n t b), low, high, rfl, ⟨p1, rfl, SqT.of upd_same⟩, hlh, hle, fun p np => ?_⟩
      have hc1 : upd H p1 (.tup [.int (lo + leastP n t b), .int (hi + mostP n t b)]) c = some (.ins (a 43) dx (cf (.ref dr) sv n)) := by
        rw [upd_ne (ne_of_none hc np1)]
        exact hc
      have npc : c ≠ p := ne_of_none hc1 np
      refine ⟨_, rfl, c, _, dx, _, rfl, (by rw [upd_ne npc]; exact hc1), T.cl_Clock, T.n_Clock_stands, cf_len _ _ _, ?_⟩
      refine ⟨_, rfl, c, _, dx, _, rfl, upd_same, T.cl_Clock, T.n_Clock_counted, (by rw [cf_put_s]; exact cf_len _ _ _), ?_⟩
      rw [cf_put_s, cf_put_c]
      have f1 : Fr c H (upd (upd (upd (upd H p1 (.tup [.int (lo + leastP n t b), .int (hi + mostP n t b)])) p (.tup [.int (setLow low (some (lo, hi)) t b n), .int (setHigh high (some (lo, hi)) t b n)])) c (.ins (a 43) dx (cf (.ref dr) (.ref p) n))) c (.ins (a 43) dx (cf (.ref dr) (.ref p) 0))) := ((((Fr.refl c H).new np1).new np).put).put
      exact q _ f1 ⟨⟨dx, .ref p, upd_same, p, rfl, SqT.of (by rw [upd_ne npc.symm, upd_ne npc.symm]; exact upd_same)⟩, hd.fr f1 hc trivial, Int.le_refl 0⟩

theorem ok_Clock_tick {P : Program} {w : World} {K : PySem.W.Frag} {mg : Str → Option Value} {base : Heap} {a : Nat → Addr} {d : Nat → FuncData} (T : Txt K mg a d) : FnOk P w K mg base CX0 4 (a 31) (d 31) ["self", "many"] (spTick K (a 43)) := by
  refine T.F_Clock_tick.ok (CX := CX0) sc_Clock_tick (fun vs H Q E h => ?_) (fun cdv A outer s0 H vs Q E hr h => ?_)
  · obtain ⟨c, dr, t, b, st, n, m, rfl, hk, m0, q⟩ := h
    rfl
  · obtain ⟨c, dr, t, b, st, n, m, rfl, hk, m0, q⟩ := h
    obtain ⟨⟨dx, sv, hc, hs⟩, hd, nn⟩ := id hk
    refine ⟨_, PSs.nox (pss_cons (ps_expr (pe_call (ok_refuse_no_count T) (hr.mono (by decide)) (by rfl) T.g_refuse_no_count T.F_refuse_no_count.kp T.b_refuse_no_count .nil pass0 (pa_cons (pv 1) pa_nil))) (pss_one (ps_fldaug (pv 0) (pv 1) in_add))), ?_⟩
    refine ⟨_, rfl, m, rfl, m0, ?_⟩
    refine ⟨_, rfl, c, _, dx, _, _, rfl, hc, T.cl_Clock, T.n_Clock_counted, cf_c _ _ _, _, rfl, n, m, rfl, rfl, dx, _, hc, cf_len _ _ _, ?_⟩
    rw [cf_put_c]
    have f1 : Fr c H (upd H c (.ins (a 43) dx (cf (.ref dr) sv (n + m)))) := (Fr.refl c H).put
    exact q _ f1 ⟨⟨dx, sv, upd_same, hs.fr f1 hc trivial⟩, hd.fr f1 hc trivial, by omega⟩


theorem upd_app (H : Hp) (a : Addr) (o : HO) (b : Addr) : upd H a o b = if b = a then some o else H b := by
  by_cases e : b = a
  · subst e; rw [upd_same, if_pos rfl]
  · rw [upd_ne e, if_neg e]
theorem upd_twice {H : Hp} {p : Addr} {o o' : HO} : upd (upd H p o) p o' = upd H p o' := by
  funext b
  rw [upd_app, upd_app, upd_app]
  by_cases e : b = p
  · rw [if_pos e, if_pos e]
  · rw [if_neg e, if_neg e, if_neg e]
theorem iteNDF {c A B : Prop} [Decidable c] (h : c) (b : B) : if (!decide c) = true then A else B := by
  rw [decide_eq_true h]
  exact iteF b
theorem lk_hit {k : Str} {v : V} {r : List (Str × V)} : ((k, v) :: r).lookup k = some v := by simp [List.lookup]
theorem lk_skip {k k' : Str} {v : V} {r : List (Str × V)} (h : ¬ k = k') : ((k', v) :: r).lookup k = r.lookup k := by
  have e : (k == k') = false := by simpa using h
  simp [List.lookup, e]
theorem pf_hit {k : Str} {v w : V} {r : List (Str × V)} : putF k v ((k, w) :: r) = (k, v) :: r := by simp [putF]
theorem pf_skip {k k' : Str} {v w : V} {r : List (Str × V)} (h : ¬ k' = k) : putF k v ((k', w) :: r) = (k', w) :: putF k v r := by simp [putF, h]
theorem putF_le (f : Str) (v : V) : ∀ l : List (Str × V), (putF f v l).length ≤ l.length + 1
  | [] => by simp [putF]
  | (k, w) :: r => by
    by_cases e : k = f
    · subst e
      rw [pf_hit]
      simp
    · rw [pf_skip e]
      have := putF_le f v r
      simp only [List.length_cons]
      omega
theorem few0 : ([] : List (Str × V)).length ≤ 0 := by simp
theorem few_up {l : List (Str × V)} {n : Nat} (h : l.length ≤ n) (f : Str) (v : V) : (putF f v l).length ≤ n + 1 := Nat.le_trans (putF_le f v l) (by omega)
def oV : Option Int → V
  | none => .non
  | some i => .int i
section
variable {K : PySem.W.Frag} {H H' : Hp}
theorem sql_fr {p y C dx : Addr} {fs : List (Str × V)} {xs : List V} (h : SqL K H p xs) (k : Fr y H H') (hy : H y = some (.ins C dx fs)) : SqL K H' p xs := by
  rcases h with (h | ⟨u, h⟩) | h
  · exact .inl (.inl (k p _ (ne_of h hy (by intro e; cases e)) h))
  · exact .inl (.inr ⟨u, k p _ (ne_of h hy (by intro e; cases e)) h⟩)
  · exact .inr h
mutual
theorem dp_fr {v : V} {d : PyData} {y C dx : Addr} {fs : List (Str × V)} (h : Dp K H v d) (k : Fr y H H') (hy : H y = some (.ins C dx fs)) : Dp K H' v d := by
  cases h with
  | non => exact .non
  | bl x => exact .bl x
  | int i => exact .int i
  | str x => exact .str x
  | lst hq hs => exact .lst (sql_fr hq k hy) (dpall_fr hs k hy)
  | tup hq hs => exact .tup (k.sqt hy trivial hq) (dpall_fr hs k hy)
theorem dpall_fr {vs : List V} {ds : List PyData} {y C dx : Addr} {fs : List (Str × V)} (h : DpAll K H vs ds) (k : Fr y H H') (hy : H y = some (.ins C dx fs)) : DpAll K H' vs ds := by
  cases h with
  | nil => exact .nil
  | cons a r => exact .cons (dp_fr a k hy) (dpall_fr r k hy)
end
theorem sql_same {p : Addr} {xs : List V} (h : SqL K H p xs) (k : Same H H') : SqL K H' p xs := by
  rcases h with (h | ⟨u, h⟩) | h
  · exact .inl (.inl (k p _ h))
  · exact .inl (.inr ⟨u, k p _ h⟩)
  · exact .inr h
mutual
theorem dp_same {v : V} {d : PyData} (h : Dp K H v d) (k : Same H H') : Dp K H' v d := by
  cases h with
  | non => exact .non
  | bl x => exact .bl x
  | int i => exact .int i
  | str x => exact .str x
  | lst hq hs => exact .lst (sql_same hq k) (dpall_same hs k)
  | tup hq hs => exact .tup (same_sqt k hq) (dpall_same hs k)
theorem dpall_same {vs : List V} {ds : List PyData} (h : DpAll K H vs ds) (k : Same H H') : DpAll K H' vs ds := by
  cases h with
  | nil => exact .nil
  | cons a r => exact .cons (dp_same a k) (dpall_same r k)
end
theorem svat_same {v : V} {s : Option (Int × Int)} (h : SvAt K H v s) (k : Same H H') : SvAt K H' v s := by
  cases s with
  | none => exact h
  | some z =>
    obtain ⟨p, e, q⟩ := h
    exact ⟨p, e, same_sqt k q⟩
/-- values of bounds, or None -/
structure SvL (K : PySem.W.Frag) (H : Hp) (vs : List V) (ss : List (Option (Int × Int))) : Prop where
  len : vs.length = ss.length
  at_ : ∀ (i : Nat) (v : V) (s : Option (Int × Int)), vs[i]? = some v → ss[i]? = some s → SvAt K H v s
theorem SvL.same {vs : List V} {ss : List (Option (Int × Int))} (h : SvL K H vs ss) (k : Same H H') : SvL K H' vs ss := ⟨h.len, fun i v s e1 e2 => svat_same (h.at_ i v s e1 e2) k⟩
theorem SvL.fr {vs : List V} {ss : List (Option (Int × Int))} {y C dx : Addr} {fs : List (Str × V)} (h : SvL K H vs ss) (k : Fr y H H') (hy : H y = some (.ins C dx fs)) : SvL K H' vs ss := ⟨h.len, fun i v s e1 e2 => (h.at_ i v s e1 e2).fr k hy trivial⟩
theorem SvL.set {vs : List V} {ss : List (Option (Int × Int))} {i : Nat} {v : V} {s : Option (Int × Int)} (h : SvL K H vs ss) (hv : SvAt K H v s) : SvL K H (vs.set i v) (ss.set i s) := by
  refine ⟨by rw [List.length_set, List.length_set]; exact h.len, fun j u r e1 e2 => ?_⟩
  rw [List.getElem?_set] at e1 e2
  by_cases c : i = j
  · subst c
    rw [if_pos rfl] at e1 e2
    by_cases l1 : i < vs.length
    · rw [if_pos l1] at e1
      rw [if_pos (by rw [← h.len]; exact l1)] at e2
      cases e1
      cases e2
      exact hv
    · rw [if_neg l1] at e1
      cases e1
  · rw [if_neg c] at e1 e2
    exact h.at_ j u r e1 e2
theorem SvL.get {vs : List V} {ss : List (Option (Int × Int))} {i : Nat} {s : Option (Int × Int)} (h : SvL K H vs ss) (e : ss[i]? = some s) : ∃ v, vs[i]? = some v ∧ SvAt K H v s := by
  have hi : i < vs.length := by rw [h.len]; exact (List.getElem?_eq_some_iff.mp e).1
  exact ⟨vs[i], List.getElem?_eq_getElem hi, h.at_ i _ s (List.getElem?_eq_getElem hi) e⟩
end
/-- a copy's state -/
structure MS where
  up : Bool
  has : Int
  st : Option (Int × Int)
  n : Int
  sp : Option (Int × Int)
  pr : Option Int
  pin : Int
  rt : Option Int
def MS.new : MS := ⟨true, 0, none, 0, none, none, 0, none⟩
structure GA where
  dr : Addr
  ups : Addr
  has : Addr
  sts : Addr
  cts : Addr
  sps : Addr
  prs : Addr
  pins : Addr
  rts : Addr
  el : Addr
def GA.all (A : GA) : List Addr := [A.ups, A.has, A.sts, A.cts, A.sps, A.prs, A.pins, A.rts, A.el]
structure GS where
  ms : List MS
  le : Int
  rg : Int
  ch : Option Int
  ds : List PyData
  lent : Bool
  loose : Bool
theorem map_same {α : Type} {ms : List MS} {i : Nat} {s s' : MS} {f : MS → α} (hs : ms[i]? = some s) (e : f s' = f s) : (ms.set i s').map f = ms.map f := by
  rw [List.map_set, e]
  have h2 : (ms.map f)[i]? = some (f s) := by rw [List.getElem?_map, hs]; rfl
  apply List.ext_getElem?
  intro j
  rw [List.getElem?_set]
  by_cases c : i = j
  · subst c
    rw [if_pos rfl, if_pos (List.getElem?_eq_some_iff.mp h2).1, h2]
  · rw [if_neg c]
def gf (A : GA) (g : GS) : List (Str × V) := [("most_drift", .ref A.dr), ("lease", .int g.le), ("ups", .ref A.ups), ("has", .ref A.has), ("stands", .ref A.sts), ("counts", .ref A.cts), ("spans", .ref A.sps), ("promises", .ref A.prs), ("promised_in", .ref A.pins), ("rules_till", .ref A.rts), ("entries", .ref A.el), ("lent", .bl g.lent), ("loose", .bl g.loose), ("reigns", .int g.rg), ("chosen", oV g.ch)]
theorem gf_len (A : GA) (g : GS) : (gf A g).length < 1000 := by show 15 < 1000; decide
theorem gf_most_drift (A : GA) (g : GS) : (gf A g).lookup ("most_drift" : Str) = some (.ref A.dr) := by unfold gf; rw [lk_hit]
theorem gf_lease (A : GA) (g : GS) : (gf A g).lookup ("lease" : Str) = some (.int g.le) := by unfold gf; rw [lk_skip (by decide +kernel), lk_hit]
theorem gf_ups (A : GA) (g : GS) : (gf A g).lookup ("ups" : Str) = some (.ref A.ups) := by unfold gf; rw [lk_skip (by decide +kernel), lk_skip (by decide +kernel), lk_hit]
theorem gf_has (A : GA) (g : GS) : (gf A g).lookup ("has" : Str) = some (.ref A.has) := by unfold gf; rw [lk_skip (by decide +kernel), lk_skip (by decide +kernel), lk_skip (by decide +kernel), lk_hit]
theorem gf_stands (A : GA) (g : GS) : (gf A g).lookup ("stands" : Str) = some (.ref A.sts) := by unfold gf; rw [lk_skip (by decide +kernel), lk_skip (by decide +kernel), lk_skip (by decide +kernel), lk_skip (by decide +kernel), lk_hit]
theorem gf_counts (A : GA) (g : GS) : (gf A g).lookup ("counts" : Str) = some (.ref A.cts) := by unfold gf; rw [lk_skip (by decide +kernel), lk_skip (by decide +kernel), lk_skip (by decide +kernel), lk_skip (by decide +kernel), lk_skip (by decide +kernel), lk_hit]
theorem gf_spans (A : GA) (g : GS) : (gf A g).lookup ("spans" : Str) = some (.ref A.sps) := by unfold gf; rw [lk_skip (by decide +kernel), lk_skip (by decide +kernel), lk_skip (by decide +kernel), lk_skip (by decide +kernel), lk_skip (by decide +kernel), lk_skip (by decide +kernel), lk_hit]
theorem gf_promises (A : GA) (g : GS) : (gf A g).lookup ("promises" : Str) = some (.ref A.prs) := by unfold gf; rw [lk_skip (by decide +kernel), lk_skip (by decide +kernel), lk_skip (by decide +kernel), lk_skip (by decide +kernel), lk_skip (by decide +kernel), lk_skip (by decide +kernel), lk_skip (by decide +kernel), lk_hit]
theorem gf_promised_in (A : GA) (g : GS) : (gf A g).lookup ("promised_in" : Str) = some (.ref A.pins) := by unfold gf; rw [lk_skip (by decide +kernel), lk_skip (by decide +kernel), lk_skip (by decide +kernel), lk_skip (by decide +kernel), lk_skip (by decide +kernel), lk_skip (by decide +kernel), lk_skip (by decide +kernel), lk_skip (by decide +kernel), lk_hit]
theorem gf_rules_till (A : GA) (g : GS) : (gf A g).lookup ("rules_till" : Str) = some (.ref A.rts) := by unfold gf; rw [lk_skip (by decide +kernel), lk_skip (by decide +kernel), lk_skip (by decide +kernel), lk_skip (by decide +kernel), lk_skip (by decide +kernel), lk_skip (by decide +kernel), lk_skip (by decide +kernel), lk_skip (by decide +kernel), lk_skip (by decide +kernel), lk_hit]
theorem gf_entries (A : GA) (g : GS) : (gf A g).lookup ("entries" : Str) = some (.ref A.el) := by unfold gf; rw [lk_skip (by decide +kernel), lk_skip (by decide +kernel), lk_skip (by decide +kernel), lk_skip (by decide +kernel), lk_skip (by decide +kernel), lk_skip (by decide +kernel), lk_skip (by decide +kernel), lk_skip (by decide +kernel), lk_skip (by decide +kernel), lk_skip (by decide +kernel), lk_hit]
theorem gf_lent (A : GA) (g : GS) : (gf A g).lookup ("lent" : Str) = some (.bl g.lent) := by unfold gf; rw [lk_skip (by decide +kernel), lk_skip (by decide +kernel), lk_skip (by decide +kernel), lk_skip (by decide +kernel), lk_skip (by decide +kernel), lk_skip (by decide +kernel), lk_skip (by decide +kernel), lk_skip (by decide +kernel), lk_skip (by decide +kernel), lk_skip (by decide +kernel), lk_skip (by decide +kernel), lk_hit]
theorem gf_loose (A : GA) (g : GS) : (gf A g).lookup ("loose" : Str) = some (.bl g.loose) := by unfold gf; rw [lk_skip (by decide +kernel), lk_skip (by decide +kernel), lk_skip (by decide +kernel), lk_skip (by decide +kernel), lk_skip (by decide +kernel), lk_skip (by decide +kernel), lk_skip (by decide +kernel), lk_skip (by decide +kernel), lk_skip (by decide +kernel), lk_skip (by decide +kernel), lk_skip (by decide +kernel), lk_skip (by decide +kernel), lk_hit]
theorem gf_reigns (A : GA) (g : GS) : (gf A g).lookup ("reigns" : Str) = some (.int g.rg) := by unfold gf; rw [lk_skip (by decide +kernel), lk_skip (by decide +kernel), lk_skip (by decide +kernel), lk_skip (by decide +kernel), lk_skip (by decide +kernel), lk_skip (by decide +kernel), lk_skip (by decide +kernel), lk_skip (by decide +kernel), lk_skip (by decide +kernel), lk_skip (by decide +kernel), lk_skip (by decide +kernel), lk_skip (by decide +kernel), lk_skip (by decide +kernel), lk_hit]
theorem gf_chosen (A : GA) (g : GS) : (gf A g).lookup ("chosen" : Str) = some (oV g.ch) := by unfold gf; rw [lk_skip (by decide +kernel), lk_skip (by decide +kernel), lk_skip (by decide +kernel), lk_skip (by decide +kernel), lk_skip (by decide +kernel), lk_skip (by decide +kernel), lk_skip (by decide +kernel), lk_skip (by decide +kernel), lk_skip (by decide +kernel), lk_skip (by decide +kernel), lk_skip (by decide +kernel), lk_skip (by decide +kernel), lk_skip (by decide +kernel), lk_skip (by decide +kernel), lk_hit]
theorem gf_no (A : GA) (g : GS) {m : Str} (h0 : ¬ m = "most_drift") (h1 : ¬ m = "lease") (h2 : ¬ m = "ups") (h3 : ¬ m = "has") (h4 : ¬ m = "stands") (h5 : ¬ m = "counts") (h6 : ¬ m = "spans") (h7 : ¬ m = "promises") (h8 : ¬ m = "promised_in") (h9 : ¬ m = "rules_till") (h10 : ¬ m = "entries") (h11 : ¬ m = "lent") (h12 : ¬ m = "loose") (h13 : ¬ m = "reigns") (h14 : ¬ m = "chosen") : (gf A g).lookup m = none := by unfold gf; rw [lk_skip h0, lk_skip h1, lk_skip h2, lk_skip h3, lk_skip h4, lk_skip h5, lk_skip h6, lk_skip h7, lk_skip h8, lk_skip h9, lk_skip h10, lk_skip h11, lk_skip h12, lk_skip h13, lk_skip h14]; rfl
theorem gp_ups (A : GA) (g : GS) (p : Addr) : putF "ups" (.ref p) (gf A g) = gf { A with ups := p } g := by unfold gf; rw [pf_skip (by decide +kernel), pf_skip (by decide +kernel), pf_hit]
theorem gp_has (A : GA) (g : GS) (p : Addr) : putF "has" (.ref p) (gf A g) = gf { A with has := p } g := by unfold gf; rw [pf_skip (by decide +kernel), pf_skip (by decide +kernel), pf_skip (by decide +kernel), pf_hit]
theorem gp_stands (A : GA) (g : GS) (p : Addr) : putF "stands" (.ref p) (gf A g) = gf { A with sts := p } g := by unfold gf; rw [pf_skip (by decide +kernel), pf_skip (by decide +kernel), pf_skip (by decide +kernel), pf_skip (by decide +kernel), pf_hit]
theorem gp_counts (A : GA) (g : GS) (p : Addr) : putF "counts" (.ref p) (gf A g) = gf { A with cts := p } g := by unfold gf; rw [pf_skip (by decide +kernel), pf_skip (by decide +kernel), pf_skip (by decide +kernel), pf_skip (by decide +kernel), pf_skip (by decide +kernel), pf_hit]
theorem gp_spans (A : GA) (g : GS) (p : Addr) : putF "spans" (.ref p) (gf A g) = gf { A with sps := p } g := by unfold gf; rw [pf_skip (by decide +kernel), pf_skip (by decide +kernel), pf_skip (by decide +kernel), pf_skip (by decide +kernel), pf_skip (by decide +kernel), pf_skip (by decide +kernel), pf_hit]
theorem gp_promises (A : GA) (g : GS) (p : Addr) : putF "promises" (.ref p) (gf A g) = gf { A with prs := p } g := by unfold gf; rw [pf_skip (by decide +kernel), pf_skip (by decide +kernel), pf_skip (by decide +kernel), pf_skip (by decide +kernel), pf_skip (by decide +kernel), pf_skip (by decide +kernel), pf_skip (by decide +kernel), pf_hit]
theorem gp_promised_in (A : GA) (g : GS) (p : Addr) : putF "promised_in" (.ref p) (gf A g) = gf { A with pins := p } g := by unfold gf; rw [pf_skip (by decide +kernel), pf_skip (by decide +kernel), pf_skip (by decide +kernel), pf_skip (by decide +kernel), pf_skip (by decide +kernel), pf_skip (by decide +kernel), pf_skip (by decide +kernel), pf_skip (by decide +kernel), pf_hit]
theorem gp_rules_till (A : GA) (g : GS) (p : Addr) : putF "rules_till" (.ref p) (gf A g) = gf { A with rts := p } g := by unfold gf; rw [pf_skip (by decide +kernel), pf_skip (by decide +kernel), pf_skip (by decide +kernel), pf_skip (by decide +kernel), pf_skip (by decide +kernel), pf_skip (by decide +kernel), pf_skip (by decide +kernel), pf_skip (by decide +kernel), pf_skip (by decide +kernel), pf_hit]
theorem gp_entries (A : GA) (g : GS) (p : Addr) : putF "entries" (.ref p) (gf A g) = gf { A with el := p } g := by unfold gf; rw [pf_skip (by decide +kernel), pf_skip (by decide +kernel), pf_skip (by decide +kernel), pf_skip (by decide +kernel), pf_skip (by decide +kernel), pf_skip (by decide +kernel), pf_skip (by decide +kernel), pf_skip (by decide +kernel), pf_skip (by decide +kernel), pf_skip (by decide +kernel), pf_hit]
theorem gp_reigns (A : GA) (g : GS) (n : Int) : putF "reigns" (.int n) (gf A g) = gf A { g with rg := n } := by unfold gf; rw [pf_skip (by decide +kernel), pf_skip (by decide +kernel), pf_skip (by decide +kernel), pf_skip (by decide +kernel), pf_skip (by decide +kernel), pf_skip (by decide +kernel), pf_skip (by decide +kernel), pf_skip (by decide +kernel), pf_skip (by decide +kernel), pf_skip (by decide +kernel), pf_skip (by decide +kernel), pf_skip (by decide +kernel), pf_skip (by decide +kernel), pf_hit]
theorem gp_chosen (A : GA) (g : GS) (c : Option Int) : putF "chosen" (oV c) (gf A g) = gf A { g with ch := c } := by unfold gf; rw [pf_skip (by decide +kernel), pf_skip (by decide +kernel), pf_skip (by decide +kernel), pf_skip (by decide +kernel), pf_skip (by decide +kernel), pf_skip (by decide +kernel), pf_skip (by decide +kernel), pf_skip (by decide +kernel), pf_skip (by decide +kernel), pf_skip (by decide +kernel), pf_skip (by decide +kernel), pf_skip (by decide +kernel), pf_skip (by decide +kernel), pf_skip (by decide +kernel), pf_hit]
theorem gp_loose (A : GA) (g : GS) (c : Bool) : putF "loose" (.bl c) (gf A g) = gf A { g with loose := c } := by unfold gf; rw [pf_skip (by decide +kernel), pf_skip (by decide +kernel), pf_skip (by decide +kernel), pf_skip (by decide +kernel), pf_skip (by decide +kernel), pf_skip (by decide +kernel), pf_skip (by decide +kernel), pf_skip (by decide +kernel), pf_skip (by decide +kernel), pf_skip (by decide +kernel), pf_skip (by decide +kernel), pf_skip (by decide +kernel), pf_hit]
theorem gf_new (A : GA) (le : Int) (ms : List MS) : putF "chosen" (.non) (putF "reigns" (.int 0) (putF "loose" (.bl false) (putF "lent" (.bl false) (putF "entries" (.ref A.el) (putF "rules_till" (.ref A.rts) (putF "promised_in" (.ref A.pins) (putF "promises" (.ref A.prs) (putF "spans" (.ref A.sps) (putF "counts" (.ref A.cts) (putF "stands" (.ref A.sts) (putF "has" (.ref A.has) (putF "ups" (.ref A.ups) (putF "lease" (.int le) (putF "most_drift" (.ref A.dr) ([]))))))))))))))) = gf A ⟨ms, le, 0, none, [], false, false⟩ := by
  have z : ∀ (k : Str) (v : V), putF k v [] = [(k, v)] := fun _ _ => rfl
  rw [z]
  repeat (first | rw [pf_skip (by decide +kernel)] | rw [z])
  rfl
structure Lists (K : PySem.W.Frag) (H : Hp) (A : GA) (t b : Int) (g : GS) : Prop where
  dr : DrOk K H A.dr t b
  ups : H A.ups = some (.lst (g.ms.map fun s => V.bl s.up))
  has : H A.has = some (.lst (g.ms.map fun s => V.int s.has))
  cts : H A.cts = some (.lst (g.ms.map fun s => V.int s.n))
  prs : H A.prs = some (.lst (g.ms.map fun s => oV s.pr))
  pins : H A.pins = some (.lst (g.ms.map fun s => V.int s.pin))
  rts : H A.rts = some (.lst (g.ms.map fun s => oV s.rt))
  sts : ∃ vs, H A.sts = some (.lst vs) ∧ SvL K H vs (g.ms.map fun s => s.st)
  sps : ∃ vs, H A.sps = some (.lst vs) ∧ SvL K H vs (g.ms.map fun s => s.sp)
  el : ∃ vs, H A.el = some (.lst vs) ∧ DpAll K H vs g.ds
  e_ups : A.el ≠ A.ups
  e_has : A.el ≠ A.has
  e_cts : A.el ≠ A.cts
  e_prs : A.el ≠ A.prs
  e_pins : A.el ≠ A.pins
  e_rts : A.el ≠ A.rts
  e_sts : A.el ≠ A.sts
  e_sps : A.el ≠ A.sps
  n5 : g.ms.length ≤ 5
  n1 : 0 < g.ms.length
  nn : ∀ s ∈ g.ms, 0 ≤ s.n
  dl : g.ds.length ≤ 1000
section
variable {K : PySem.W.Frag} {CG : Addr} {H H' : Hp} {x : Addr} {A : GA} {t b : Int} {g : GS}
theorem Lists.same (l : Lists K H A t b g) (k : Same H H') : Lists K H' A t b g := ⟨l.dr.same k, k _ _ l.ups, k _ _ l.has, k _ _ l.cts, k _ _ l.prs, k _ _ l.pins, k _ _ l.rts, (by obtain ⟨vs, e, q⟩ := l.sts; exact ⟨vs, k _ _ e, q.same k⟩), (by obtain ⟨vs, e, q⟩ := l.sps; exact ⟨vs, k _ _ e, q.same k⟩), (by obtain ⟨vs, e, q⟩ := l.el; exact ⟨vs, k _ _ e, dpall_same q k⟩), l.e_ups, l.e_has, l.e_cts, l.e_prs, l.e_pins, l.e_rts, l.e_sts, l.e_sps, l.n5, l.n1, l.nn, l.dl⟩
theorem Lists.fr (l : Lists K H A t b g) {y C dx : Addr} {fs : List (Str × V)} (k : Fr y H H') (hy : H y = some (.ins C dx fs)) : Lists K H' A t b g := ⟨l.dr.fr k hy trivial, k _ _ (ne_of l.ups hy (by intro z; cases z)) l.ups, k _ _ (ne_of l.has hy (by intro z; cases z)) l.has, k _ _ (ne_of l.cts hy (by intro z; cases z)) l.cts, k _ _ (ne_of l.prs hy (by intro z; cases z)) l.prs, k _ _ (ne_of l.pins hy (by intro z; cases z)) l.pins, k _ _ (ne_of l.rts hy (by intro z; cases z)) l.rts, (by obtain ⟨vs, e, q⟩ := l.sts; exact ⟨vs, k _ _ (ne_of e hy (by intro z; cases z)) e, q.fr k hy⟩), (by obtain ⟨vs, e, q⟩ := l.sps; exact ⟨vs, k _ _ (ne_of e hy (by intro z; cases z)) e, q.fr k hy⟩), (by obtain ⟨vs, e, q⟩ := l.el; exact ⟨vs, k _ _ (ne_of e hy (by intro z; cases z)) e, dpall_fr q k hy⟩), l.e_ups, l.e_has, l.e_cts, l.e_prs, l.e_pins, l.e_rts, l.e_sts, l.e_sps, l.n5, l.n1, l.nn, l.dl⟩
theorem Lists.set_ups (l : Lists K H A t b g) {i : Nat} {s : MS} {p : Addr} {u : Bool} (hs : g.ms[i]? = some s) (hp : H p = some (.lst ((g.ms.map fun s => V.bl s.up).set i (V.bl u)))) (hel : A.el ≠ p) : Lists K H { A with ups := p } t b { g with ms := g.ms.set i { s with up := u } } := ⟨l.dr, (by rw [List.map_set]; exact hp), (by rw [map_same (s' := { s with up := u }) hs rfl]; exact l.has), (by rw [map_same (s' := { s with up := u }) hs rfl]; exact l.cts), (by rw [map_same (s' := { s with up := u }) hs rfl]; exact l.prs), (by rw [map_same (s' := { s with up := u }) hs rfl]; exact l.pins), (by rw [map_same (s' := { s with up := u }) hs rfl]; exact l.rts), (by obtain ⟨vs, e, q⟩ := l.sts; exact ⟨vs, e, by rw [map_same (s' := { s with up := u }) hs rfl]; exact q⟩), (by obtain ⟨vs, e, q⟩ := l.sps; exact ⟨vs, e, by rw [map_same (s' := { s with up := u }) hs rfl]; exact q⟩), l.el, hel, l.e_has, l.e_cts, l.e_prs, l.e_pins, l.e_rts, l.e_sts, l.e_sps, (by rw [List.length_set]; exact l.n5), (by rw [List.length_set]; exact l.n1), (fun s' h' => (List.mem_or_eq_of_mem_set h').elim (fun z => l.nn s' z) (fun z => by subst z; exact l.nn s (List.mem_of_getElem? hs))), l.dl⟩
theorem Lists.set_has (l : Lists K H A t b g) {i : Nat} {s : MS} {p : Addr} {u : Int} (hs : g.ms[i]? = some s) (hp : H p = some (.lst ((g.ms.map fun s => V.int s.has).set i (V.int u)))) (hel : A.el ≠ p) : Lists K H { A with has := p } t b { g with ms := g.ms.set i { s with has := u } } := ⟨l.dr, (by rw [map_same (s' := { s with has := u }) hs rfl]; exact l.ups), (by rw [List.map_set]; exact hp), (by rw [map_same (s' := { s with has := u }) hs rfl]; exact l.cts), (by rw [map_same (s' := { s with has := u }) hs rfl]; exact l.prs), (by rw [map_same (s' := { s with has := u }) hs rfl]; exact l.pins), (by rw [map_same (s' := { s with has := u }) hs rfl]; exact l.rts), (by obtain ⟨vs, e, q⟩ := l.sts; exact ⟨vs, e, by rw [map_same (s' := { s with has := u }) hs rfl]; exact q⟩), (by obtain ⟨vs, e, q⟩ := l.sps; exact ⟨vs, e, by rw [map_same (s' := { s with has := u }) hs rfl]; exact q⟩), l.el, l.e_ups, hel, l.e_cts, l.e_prs, l.e_pins, l.e_rts, l.e_sts, l.e_sps, (by rw [List.length_set]; exact l.n5), (by rw [List.length_set]; exact l.n1), (fun s' h' => (List.mem_or_eq_of_mem_set h').elim (fun z => l.nn s' z) (fun z => by subst z; exact l.nn s (List.mem_of_getElem? hs))), l.dl⟩
theorem Lists.set_cts (l : Lists K H A t b g) {i : Nat} {s : MS} {p : Addr} {u : Int} (hs : g.ms[i]? = some s) (hp : H p = some (.lst ((g.ms.map fun s => V.int s.n).set i (V.int u)))) (hel : A.el ≠ p) (hu : 0 ≤ u) : Lists K H { A with cts := p } t b { g with ms := g.ms.set i { s with n := u } } := ⟨l.dr, (by rw [map_same (s' := { s with n := u }) hs rfl]; exact l.ups), (by rw [map_same (s' := { s with n := u }) hs rfl]; exact l.has), (by rw [List.map_set]; exact hp), (by rw [map_same (s' := { s with n := u }) hs rfl]; exact l.prs), (by rw [map_same (s' := { s with n := u }) hs rfl]; exact l.pins), (by rw [map_same (s' := { s with n := u }) hs rfl]; exact l.rts), (by obtain ⟨vs, e, q⟩ := l.sts; exact ⟨vs, e, by rw [map_same (s' := { s with n := u }) hs rfl]; exact q⟩), (by obtain ⟨vs, e, q⟩ := l.sps; exact ⟨vs, e, by rw [map_same (s' := { s with n := u }) hs rfl]; exact q⟩), l.el, l.e_ups, l.e_has, hel, l.e_prs, l.e_pins, l.e_rts, l.e_sts, l.e_sps, (by rw [List.length_set]; exact l.n5), (by rw [List.length_set]; exact l.n1), (fun s' h' => (List.mem_or_eq_of_mem_set h').elim (fun z => l.nn s' z) (fun z => by subst z; exact hu)), l.dl⟩
theorem Lists.set_prs (l : Lists K H A t b g) {i : Nat} {s : MS} {p : Addr} {u : Option Int} (hs : g.ms[i]? = some s) (hp : H p = some (.lst ((g.ms.map fun s => oV s.pr).set i (oV u)))) (hel : A.el ≠ p) : Lists K H { A with prs := p } t b { g with ms := g.ms.set i { s with pr := u } } := ⟨l.dr, (by rw [map_same (s' := { s with pr := u }) hs rfl]; exact l.ups), (by rw [map_same (s' := { s with pr := u }) hs rfl]; exact l.has), (by rw [map_same (s' := { s with pr := u }) hs rfl]; exact l.cts), (by rw [List.map_set]; exact hp), (by rw [map_same (s' := { s with pr := u }) hs rfl]; exact l.pins), (by rw [map_same (s' := { s with pr := u }) hs rfl]; exact l.rts), (by obtain ⟨vs, e, q⟩ := l.sts; exact ⟨vs, e, by rw [map_same (s' := { s with pr := u }) hs rfl]; exact q⟩), (by obtain ⟨vs, e, q⟩ := l.sps; exact ⟨vs, e, by rw [map_same (s' := { s with pr := u }) hs rfl]; exact q⟩), l.el, l.e_ups, l.e_has, l.e_cts, hel, l.e_pins, l.e_rts, l.e_sts, l.e_sps, (by rw [List.length_set]; exact l.n5), (by rw [List.length_set]; exact l.n1), (fun s' h' => (List.mem_or_eq_of_mem_set h').elim (fun z => l.nn s' z) (fun z => by subst z; exact l.nn s (List.mem_of_getElem? hs))), l.dl⟩
theorem Lists.set_pins (l : Lists K H A t b g) {i : Nat} {s : MS} {p : Addr} {u : Int} (hs : g.ms[i]? = some s) (hp : H p = some (.lst ((g.ms.map fun s => V.int s.pin).set i (V.int u)))) (hel : A.el ≠ p) : Lists K H { A with pins := p } t b { g with ms := g.ms.set i { s with pin := u } } := ⟨l.dr, (by rw [map_same (s' := { s with pin := u }) hs rfl]; exact l.ups), (by rw [map_same (s' := { s with pin := u }) hs rfl]; exact l.has), (by rw [map_same (s' := { s with pin := u }) hs rfl]; exact l.cts), (by rw [map_same (s' := { s with pin := u }) hs rfl]; exact l.prs), (by rw [List.map_set]; exact hp), (by rw [map_same (s' := { s with pin := u }) hs rfl]; exact l.rts), (by obtain ⟨vs, e, q⟩ := l.sts; exact ⟨vs, e, by rw [map_same (s' := { s with pin := u }) hs rfl]; exact q⟩), (by obtain ⟨vs, e, q⟩ := l.sps; exact ⟨vs, e, by rw [map_same (s' := { s with pin := u }) hs rfl]; exact q⟩), l.el, l.e_ups, l.e_has, l.e_cts, l.e_prs, hel, l.e_rts, l.e_sts, l.e_sps, (by rw [List.length_set]; exact l.n5), (by rw [List.length_set]; exact l.n1), (fun s' h' => (List.mem_or_eq_of_mem_set h').elim (fun z => l.nn s' z) (fun z => by subst z; exact l.nn s (List.mem_of_getElem? hs))), l.dl⟩
theorem Lists.set_rts (l : Lists K H A t b g) {i : Nat} {s : MS} {p : Addr} {u : Option Int} (hs : g.ms[i]? = some s) (hp : H p = some (.lst ((g.ms.map fun s => oV s.rt).set i (oV u)))) (hel : A.el ≠ p) : Lists K H { A with rts := p } t b { g with ms := g.ms.set i { s with rt := u } } := ⟨l.dr, (by rw [map_same (s' := { s with rt := u }) hs rfl]; exact l.ups), (by rw [map_same (s' := { s with rt := u }) hs rfl]; exact l.has), (by rw [map_same (s' := { s with rt := u }) hs rfl]; exact l.cts), (by rw [map_same (s' := { s with rt := u }) hs rfl]; exact l.prs), (by rw [map_same (s' := { s with rt := u }) hs rfl]; exact l.pins), (by rw [List.map_set]; exact hp), (by obtain ⟨vs, e, q⟩ := l.sts; exact ⟨vs, e, by rw [map_same (s' := { s with rt := u }) hs rfl]; exact q⟩), (by obtain ⟨vs, e, q⟩ := l.sps; exact ⟨vs, e, by rw [map_same (s' := { s with rt := u }) hs rfl]; exact q⟩), l.el, l.e_ups, l.e_has, l.e_cts, l.e_prs, l.e_pins, hel, l.e_sts, l.e_sps, (by rw [List.length_set]; exact l.n5), (by rw [List.length_set]; exact l.n1), (fun s' h' => (List.mem_or_eq_of_mem_set h').elim (fun z => l.nn s' z) (fun z => by subst z; exact l.nn s (List.mem_of_getElem? hs))), l.dl⟩
theorem Lists.set_sts (l : Lists K H A t b g) {i : Nat} {s : MS} {p : Addr} {u : Option (Int × Int)} {vs : List V} (hs : g.ms[i]? = some s) (hp : H p = some (.lst vs)) (hq : SvL K H vs ((g.ms.map fun s => s.st).set i u)) (hel : A.el ≠ p) : Lists K H { A with sts := p } t b { g with ms := g.ms.set i { s with st := u } } := ⟨l.dr, (by rw [map_same (s' := { s with st := u }) hs rfl]; exact l.ups), (by rw [map_same (s' := { s with st := u }) hs rfl]; exact l.has), (by rw [map_same (s' := { s with st := u }) hs rfl]; exact l.cts), (by rw [map_same (s' := { s with st := u }) hs rfl]; exact l.prs), (by rw [map_same (s' := { s with st := u }) hs rfl]; exact l.pins), (by rw [map_same (s' := { s with st := u }) hs rfl]; exact l.rts), ⟨_, hp, by rw [List.map_set]; exact hq⟩, (by obtain ⟨vs, e, q⟩ := l.sps; exact ⟨vs, e, by rw [map_same (s' := { s with st := u }) hs rfl]; exact q⟩), l.el, l.e_ups, l.e_has, l.e_cts, l.e_prs, l.e_pins, l.e_rts, hel, l.e_sps, (by rw [List.length_set]; exact l.n5), (by rw [List.length_set]; exact l.n1), (fun s' h' => (List.mem_or_eq_of_mem_set h').elim (fun z => l.nn s' z) (fun z => by subst z; exact l.nn s (List.mem_of_getElem? hs))), l.dl⟩
theorem Lists.set_sps (l : Lists K H A t b g) {i : Nat} {s : MS} {p : Addr} {u : Option (Int × Int)} {vs : List V} (hs : g.ms[i]? = some s) (hp : H p = some (.lst vs)) (hq : SvL K H vs ((g.ms.map fun s => s.sp).set i u)) (hel : A.el ≠ p) : Lists K H { A with sps := p } t b { g with ms := g.ms.set i { s with sp := u } } := ⟨l.dr, (by rw [map_same (s' := { s with sp := u }) hs rfl]; exact l.ups), (by rw [map_same (s' := { s with sp := u }) hs rfl]; exact l.has), (by rw [map_same (s' := { s with sp := u }) hs rfl]; exact l.cts), (by rw [map_same (s' := { s with sp := u }) hs rfl]; exact l.prs), (by rw [map_same (s' := { s with sp := u }) hs rfl]; exact l.pins), (by rw [map_same (s' := { s with sp := u }) hs rfl]; exact l.rts), (by obtain ⟨vs, e, q⟩ := l.sts; exact ⟨vs, e, by rw [map_same (s' := { s with sp := u }) hs rfl]; exact q⟩), ⟨_, hp, by rw [List.map_set]; exact hq⟩, l.el, l.e_ups, l.e_has, l.e_cts, l.e_prs, l.e_pins, l.e_rts, l.e_sts, hel, (by rw [List.length_set]; exact l.n5), (by rw [List.length_set]; exact l.n1), (fun s' h' => (List.mem_or_eq_of_mem_set h').elim (fun z => l.nn s' z) (fun z => by subst z; exact l.nn s (List.mem_of_getElem? hs))), l.dl⟩
structure GroupAt (K : PySem.W.Frag) (CG : Addr) (H : Hp) (x : Addr) (A : GA) (t b : Int) (g : GS) : Prop where
  at_ : ∃ dx, H x = some (.ins CG dx (gf A g))
  ls : Lists K H A t b g
theorem GroupAt.same (h : GroupAt K CG H x A t b g) (k : Same H H') : GroupAt K CG H' x A t b g := by
  obtain ⟨⟨dx, e⟩, l⟩ := h
  exact ⟨⟨dx, k _ _ e⟩, l.same k⟩
/-- behind a step: all else that was tracked stands -/
structure Gx (K : PySem.W.Frag) (CG : Addr) (H : Hp) (x : Addr) (A : GA) (t b : Int) (H' : Hp) (A' : GA) (g' : GS) : Prop where
  ee : A'.el = A.el
  fr : Fr x H H'
  at_ : GroupAt K CG H' x A' t b g'
  ow : ∀ c, c ∈ A'.all → c ∈ A.all ∨ H c = none
theorem fr_free {o : HO} {c : Addr} (k : Fr x H H') (hx : H' x = some o) (n : H' c = none) : H c = none := by
  cases e : H c with
  | none => rfl
  | some u =>
    by_cases z : c = x
    · rw [z, hx] at n
      cases n
    · rw [k c u z e] at n
      cases n
theorem Gx.refl (h : GroupAt K CG H x A t b g) : Gx K CG H x A t b H A g := ⟨rfl, Fr.refl x H, h, fun _ z => .inl z⟩
theorem Gx.trans {H2 : Hp} {A1 A2 : GA} {g1 g2 : GS} (a : Gx K CG H x A t b H' A1 g1) (c : Gx K CG H' x A1 t b H2 A2 g2) : Gx K CG H x A t b H2 A2 g2 := ⟨c.ee.trans a.ee, a.fr.trans c.fr, c.at_, fun d z => by
  obtain ⟨dx, hx⟩ := a.at_.at_
  rcases c.ow d z with y | y
  · exact a.ow d y
  · exact .inr (fr_free a.fr hx y)⟩
theorem Gx.same {H2 : Hp} {A1 : GA} {g1 : GS} (a : Gx K CG H x A t b H' A1 g1) (k : Same H' H2) : Gx K CG H x A t b H2 A1 g1 := ⟨a.ee, a.fr.trans (fr_same k), a.at_.same k, a.ow⟩
theorem Gx.pre {H2 : Hp} {A1 : GA} {g1 : GS} (a : Gx K CG H' x A t b H2 A1 g1) (k : Same H H') : Gx K CG H x A t b H2 A1 g1 := ⟨a.ee, (fr_same k).trans a.fr, a.at_, fun c z => (a.ow c z).imp id fun y => k.free y⟩
theorem GroupAt.put_ups (h : GroupAt K CG H x A t b g) {dx : Addr} (hx : H x = some (.ins CG dx (gf A g))) {i : Nat} {s : MS} {p : Addr} {u : Bool} (hs : g.ms[i]? = some s) (np : H p = none) :
    ∃ A', Gx K CG H x A t b (upd (upd H p (.lst ((g.ms.map fun s => V.bl s.up).set i (V.bl u)))) x (.ins CG dx (putF "ups" (.ref p) (gf A g)))) A' { g with ms := g.ms.set i { s with up := u } } := by
  have l1 := h.ls.same (same_new (o := .lst ((g.ms.map fun s => V.bl s.up).set i (V.bl u))) (Same.refl H) np)
  obtain ⟨vs, hel, _⟩ := h.ls.el
  have l2 := l1.set_ups hs upd_same (ne_of_none hel np)
  have hx1 : (upd H p (.lst ((g.ms.map fun s => V.bl s.up).set i (V.bl u)))) x = some (.ins CG dx (gf A g)) := by rw [upd_ne (ne_of_none hx np)]; exact hx
  exact ⟨{ A with ups := p }, rfl, ((Fr.refl x H).new np).put, ⟨⟨dx, by rw [upd_same, gp_ups]; rfl⟩, l2.fr ((Fr.refl x _).put) hx1⟩, fun c z => by simp only [GA.all, List.mem_cons, List.not_mem_nil, or_false] at z ⊢; rcases z with z | z | z | z | z | z | z | z | z <;> first | (subst z; exact .inr np) | simp [z]⟩
theorem GroupAt.put_has (h : GroupAt K CG H x A t b g) {dx : Addr} (hx : H x = some (.ins CG dx (gf A g))) {i : Nat} {s : MS} {p : Addr} {u : Int} (hs : g.ms[i]? = some s) (np : H p = none) :
    ∃ A', Gx K CG H x A t b (upd (upd H p (.lst ((g.ms.map fun s => V.int s.has).set i (V.int u)))) x (.ins CG dx (putF "has" (.ref p) (gf A g)))) A' { g with ms := g.ms.set i { s with has := u } } := by
  have l1 := h.ls.same (same_new (o := .lst ((g.ms.map fun s => V.int s.has).set i (V.int u))) (Same.refl H) np)
  obtain ⟨vs, hel, _⟩ := h.ls.el
  have l2 := l1.set_has hs upd_same (ne_of_none hel np)
  have hx1 : (upd H p (.lst ((g.ms.map fun s => V.int s.has).set i (V.int u)))) x = some (.ins CG dx (gf A g)) := by rw [upd_ne (ne_of_none hx np)]; exact hx
  exact ⟨{ A with has := p }, rfl, ((Fr.refl x H).new np).put, ⟨⟨dx, by rw [upd_same, gp_has]; rfl⟩, l2.fr ((Fr.refl x _).put) hx1⟩, fun c z => by simp only [GA.all, List.mem_cons, List.not_mem_nil, or_false] at z ⊢; rcases z with z | z | z | z | z | z | z | z | z <;> first | (subst z; exact .inr np) | simp [z]⟩
theorem GroupAt.put_cts (h : GroupAt K CG H x A t b g) {dx : Addr} (hx : H x = some (.ins CG dx (gf A g))) {i : Nat} {s : MS} {p : Addr} {u : Int} (hs : g.ms[i]? = some s) (np : H p = none) (hu : 0 ≤ u) :
    ∃ A', Gx K CG H x A t b (upd (upd H p (.lst ((g.ms.map fun s => V.int s.n).set i (V.int u)))) x (.ins CG dx (putF "counts" (.ref p) (gf A g)))) A' { g with ms := g.ms.set i { s with n := u } } := by
  have l1 := h.ls.same (same_new (o := .lst ((g.ms.map fun s => V.int s.n).set i (V.int u))) (Same.refl H) np)
  obtain ⟨vs, hel, _⟩ := h.ls.el
  have l2 := l1.set_cts hs upd_same (ne_of_none hel np) hu
  have hx1 : (upd H p (.lst ((g.ms.map fun s => V.int s.n).set i (V.int u)))) x = some (.ins CG dx (gf A g)) := by rw [upd_ne (ne_of_none hx np)]; exact hx
  exact ⟨{ A with cts := p }, rfl, ((Fr.refl x H).new np).put, ⟨⟨dx, by rw [upd_same, gp_counts]; rfl⟩, l2.fr ((Fr.refl x _).put) hx1⟩, fun c z => by simp only [GA.all, List.mem_cons, List.not_mem_nil, or_false] at z ⊢; rcases z with z | z | z | z | z | z | z | z | z <;> first | (subst z; exact .inr np) | simp [z]⟩
theorem GroupAt.put_prs (h : GroupAt K CG H x A t b g) {dx : Addr} (hx : H x = some (.ins CG dx (gf A g))) {i : Nat} {s : MS} {p : Addr} {u : Option Int} (hs : g.ms[i]? = some s) (np : H p = none) :
    ∃ A', Gx K CG H x A t b (upd (upd H p (.lst ((g.ms.map fun s => oV s.pr).set i (oV u)))) x (.ins CG dx (putF "promises" (.ref p) (gf A g)))) A' { g with ms := g.ms.set i { s with pr := u } } := by
  have l1 := h.ls.same (same_new (o := .lst ((g.ms.map fun s => oV s.pr).set i (oV u))) (Same.refl H) np)
  obtain ⟨vs, hel, _⟩ := h.ls.el
  have l2 := l1.set_prs hs upd_same (ne_of_none hel np)
  have hx1 : (upd H p (.lst ((g.ms.map fun s => oV s.pr).set i (oV u)))) x = some (.ins CG dx (gf A g)) := by rw [upd_ne (ne_of_none hx np)]; exact hx
  exact ⟨{ A with prs := p }, rfl, ((Fr.refl x H).new np).put, ⟨⟨dx, by rw [upd_same, gp_promises]; rfl⟩, l2.fr ((Fr.refl x _).put) hx1⟩, fun c z => by simp only [GA.all, List.mem_cons, List.not_mem_nil, or_false] at z ⊢; rcases z with z | z | z | z | z | z | z | z | z <;> first | (subst z; exact .inr np) | simp [z]⟩
theorem GroupAt.put_pins (h : GroupAt K CG H x A t b g) {dx : Addr} (hx : H x = some (.ins CG dx (gf A g))) {i : Nat} {s : MS} {p : Addr} {u : Int} (hs : g.ms[i]? = some s) (np : H p = none) :
    ∃ A', Gx K CG H x A t b (upd (upd H p (.lst ((g.ms.map fun s => V.int s.pin).set i (V.int u)))) x (.ins CG dx (putF "promised_in" (.ref p) (gf A g)))) A' { g with ms := g.ms.set i { s with pin := u } } := by
  have l1 := h.ls.same (same_new (o := .lst ((g.ms.map fun s => V.int s.pin).set i (V.int u))) (Same.refl H) np)
  obtain ⟨vs, hel, _⟩ := h.ls.el
  have l2 := l1.set_pins hs upd_same (ne_of_none hel np)
  have hx1 : (upd H p (.lst ((g.ms.map fun s => V.int s.pin).set i (V.int u)))) x = some (.ins CG dx (gf A g)) := by rw [upd_ne (ne_of_none hx np)]; exact hx
  exact ⟨{ A with pins := p }, rfl, ((Fr.refl x H).new np).put, ⟨⟨dx, by rw [upd_same, gp_promised_in]; rfl⟩, l2.fr ((Fr.refl x _).put) hx1⟩, fun c z => by simp only [GA.all, List.mem_cons, List.not_mem_nil, or_false] at z ⊢; rcases z with z | z | z | z | z | z | z | z | z <;> first | (subst z; exact .inr np) | simp [z]⟩
theorem GroupAt.put_rts (h : GroupAt K CG H x A t b g) {dx : Addr} (hx : H x = some (.ins CG dx (gf A g))) {i : Nat} {s : MS} {p : Addr} {u : Option Int} (hs : g.ms[i]? = some s) (np : H p = none) :
    ∃ A', Gx K CG H x A t b (upd (upd H p (.lst ((g.ms.map fun s => oV s.rt).set i (oV u)))) x (.ins CG dx (putF "rules_till" (.ref p) (gf A g)))) A' { g with ms := g.ms.set i { s with rt := u } } := by
  have l1 := h.ls.same (same_new (o := .lst ((g.ms.map fun s => oV s.rt).set i (oV u))) (Same.refl H) np)
  obtain ⟨vs, hel, _⟩ := h.ls.el
  have l2 := l1.set_rts hs upd_same (ne_of_none hel np)
  have hx1 : (upd H p (.lst ((g.ms.map fun s => oV s.rt).set i (oV u)))) x = some (.ins CG dx (gf A g)) := by rw [upd_ne (ne_of_none hx np)]; exact hx
  exact ⟨{ A with rts := p }, rfl, ((Fr.refl x H).new np).put, ⟨⟨dx, by rw [upd_same, gp_rules_till]; rfl⟩, l2.fr ((Fr.refl x _).put) hx1⟩, fun c z => by simp only [GA.all, List.mem_cons, List.not_mem_nil, or_false] at z ⊢; rcases z with z | z | z | z | z | z | z | z | z <;> first | (subst z; exact .inr np) | simp [z]⟩
theorem GroupAt.put_sts (h : GroupAt K CG H x A t b g) {dx : Addr} (hx : H x = some (.ins CG dx (gf A g))) {i : Nat} {s : MS} {p : Addr} {u : Option (Int × Int)} {v : V} {vs : List V} (hs : g.ms[i]? = some s) (np : H p = none) (hv : SvAt K H v u) (hvs : SvL K H vs (g.ms.map fun s => s.st)) :
    ∃ A', Gx K CG H x A t b (upd (upd H p (.lst (vs.set i v))) x (.ins CG dx (putF "stands" (.ref p) (gf A g)))) A' { g with ms := g.ms.set i { s with st := u } } := by
  have k := same_new (o := .lst (vs.set i v)) (Same.refl H) np
  have l1 := h.ls.same k
  obtain ⟨es, hel, _⟩ := h.ls.el
  have l2 := l1.set_sts hs upd_same ((hvs.same k).set (svat_same hv k)) (ne_of_none hel np)
  have hx1 : (upd H p (.lst (vs.set i v))) x = some (.ins CG dx (gf A g)) := k _ _ hx
  exact ⟨{ A with sts := p }, rfl, ((Fr.refl x H).new np).put, ⟨⟨dx, by rw [upd_same, gp_stands]; rfl⟩, l2.fr ((Fr.refl x _).put) hx1⟩, fun c z => by simp only [GA.all, List.mem_cons, List.not_mem_nil, or_false] at z ⊢; rcases z with z | z | z | z | z | z | z | z | z <;> first | (subst z; exact .inr np) | simp [z]⟩
theorem GroupAt.put_sps (h : GroupAt K CG H x A t b g) {dx : Addr} (hx : H x = some (.ins CG dx (gf A g))) {i : Nat} {s : MS} {p : Addr} {u : Option (Int × Int)} {v : V} {vs : List V} (hs : g.ms[i]? = some s) (np : H p = none) (hv : SvAt K H v u) (hvs : SvL K H vs (g.ms.map fun s => s.sp)) :
    ∃ A', Gx K CG H x A t b (upd (upd H p (.lst (vs.set i v))) x (.ins CG dx (putF "spans" (.ref p) (gf A g)))) A' { g with ms := g.ms.set i { s with sp := u } } := by
  have k := same_new (o := .lst (vs.set i v)) (Same.refl H) np
  have l1 := h.ls.same k
  obtain ⟨es, hel, _⟩ := h.ls.el
  have l2 := l1.set_sps hs upd_same ((hvs.same k).set (svat_same hv k)) (ne_of_none hel np)
  have hx1 : (upd H p (.lst (vs.set i v))) x = some (.ins CG dx (gf A g)) := k _ _ hx
  exact ⟨{ A with sps := p }, rfl, ((Fr.refl x H).new np).put, ⟨⟨dx, by rw [upd_same, gp_spans]; rfl⟩, l2.fr ((Fr.refl x _).put) hx1⟩, fun c z => by simp only [GA.all, List.mem_cons, List.not_mem_nil, or_false] at z ⊢; rcases z with z | z | z | z | z | z | z | z | z <;> first | (subst z; exact .inr np) | simp [z]⟩
theorem GroupAt.put_rg (h : GroupAt K CG H x A t b g) {dx : Addr} (hx : H x = some (.ins CG dx (gf A g))) (n : Int) : Gx K CG H x A t b (upd H x (.ins CG dx (putF "reigns" (.int n) (gf A g)))) A { g with rg := n } := by
  have l2 := h.ls.fr ((Fr.refl x H).put (o := .ins CG dx (putF "reigns" (.int n) (gf A g)))) hx
  exact ⟨rfl, (Fr.refl x H).put, ⟨⟨dx, by rw [upd_same, gp_reigns]⟩, ⟨l2.dr, l2.ups, l2.has, l2.cts, l2.prs, l2.pins, l2.rts, l2.sts, l2.sps, l2.el, l2.e_ups, l2.e_has, l2.e_cts, l2.e_prs, l2.e_pins, l2.e_rts, l2.e_sts, l2.e_sps, l2.n5, l2.n1, l2.nn, l2.dl⟩⟩, fun _ z => .inl z⟩
theorem GroupAt.put_ch (h : GroupAt K CG H x A t b g) {dx : Addr} (hx : H x = some (.ins CG dx (gf A g))) (c : Option Int) : Gx K CG H x A t b (upd H x (.ins CG dx (putF "chosen" (oV c) (gf A g)))) A { g with ch := c } := by
  have l2 := h.ls.fr ((Fr.refl x H).put (o := .ins CG dx (putF "chosen" (oV c) (gf A g)))) hx
  exact ⟨rfl, (Fr.refl x H).put, ⟨⟨dx, by rw [upd_same, gp_chosen]⟩, ⟨l2.dr, l2.ups, l2.has, l2.cts, l2.prs, l2.pins, l2.rts, l2.sts, l2.sps, l2.el, l2.e_ups, l2.e_has, l2.e_cts, l2.e_prs, l2.e_pins, l2.e_rts, l2.e_sts, l2.e_sps, l2.n5, l2.n1, l2.nn, l2.dl⟩⟩, fun _ z => .inl z⟩
end

def spOf (t b : Int) (s : MS) : Option (Int × Int) := s.st.map fun z => (z.1 + leastP s.n t b, z.2 + mostP s.n t b)
def canP (s : MS) : Bool := s.up && (match s.sp with
  | none => false
  | some z => match s.pr with
    | none => true
    | some m => decide (m < z.1))
def mayR (s : MS) : Bool := match s.rt with
  | none => false
  | some m => match s.sp with
    | none => false
    | some z => decide (z.2 < m)
/-- who has rules_till has bounds; the chosen one is one of them -/
structure GOk (g : GS) : Prop where
  rt : ∀ (i : Nat) (s : MS), g.ms[i]? = some s → s.rt.isSome = true → s.sp.isSome = true
  ch : ∀ c, g.ch = some c → 0 ≤ c ∧ c < g.ms.length
def atG (f : MS → Bool) (g : GS) (i : Nat) : Bool := match g.ms[i]? with
  | none => false
  | some s => f s
def pickG (f : MS → Bool) (g : GS) : List Nat := (List.range g.ms.length).filter (atG f g)
def headOf (g : GS) : Option Int := match g.ch with
  | none => none
  | some c => if atG mayR g c.toNat = true then some c else none
def isWr (g : GS) (s : MS) : Bool := decide (s.has = (g.ds.length : Int)) && s.up
def nV (i : Nat) : V := .int (i : Int)
section
variable (K : PySem.W.Frag) (CG : Addr)
def spCA : Sp := fun vs H Q _ => ∃ (r : Addr) (xs : List V) (i : Nat) (v : V), vs = [.ref r, .int (i : Int), v] ∧ H r = some (.lst xs) ∧ i < xs.length ∧ ∀ p, H p = none → Q (.ref p) (upd H p (.lst (xs.set i v)))
def spRefuse : Sp := fun vs H Q _ => ∃ (x : Addr) (A : GA) (t b : Int) (g : GS) (i : Nat), vs = [.ref x, .int (i : Int)] ∧ GroupAt K CG H x A t b g ∧ i < g.ms.length ∧ Q .non H
/-- one copy's state is changed -/
def spSetM (f : MS → MS) : Sp := fun vs H Q _ => ∃ (x : Addr) (A : GA) (t b : Int) (g : GS) (i : Nat) (s : MS), vs = [.ref x, .int (i : Int)] ∧ GroupAt K CG H x A t b g ∧ g.ms[i]? = some s ∧ ∀ A' H', Gx K CG H x A t b H' A' { g with ms := g.ms.set i (f s) } → Q .non H'
def spTell : Sp := fun vs H Q _ => ∃ (x : Addr) (A : GA) (t b : Int) (g : GS) (i : Nat) (s : MS), vs = [.ref x, .int (i : Int)] ∧ GroupAt K CG H x A t b g ∧ g.ms[i]? = some s ∧ ∀ A' H', Gx K CG H x A t b H' A' { g with ms := g.ms.set i { s with sp := spOf t b s } } → Q .non H'
def MS.ticked (t b m : Int) (s : MS) : MS := { s with n := s.n + m, sp := spOf t b { s with n := s.n + m } }
def MS.setTo (t b : Int) (z : Int × Int) (s : MS) : MS := { s with st := some z, n := 0, sp := spOf t b { s with st := some z, n := 0 } }
def spTickC : Sp := fun vs H Q _ => ∃ (x : Addr) (A : GA) (t b m : Int) (g : GS) (i : Nat) (s : MS), vs = [.ref x, .int (i : Int), .int m] ∧ 0 ≤ m ∧ GroupAt K CG H x A t b g ∧ g.ms[i]? = some s ∧ ∀ A' H', Gx K CG H x A t b H' A' { g with ms := g.ms.set i (s.ticked t b m) } → Q .non H'
def spSetC : Sp := fun vs H Q _ => ∃ (x : Addr) (A : GA) (t b low high : Int) (g : GS) (i : Nat) (s : MS), vs = [.ref x, .int (i : Int), .int low, .int high] ∧ low ≤ high ∧ btwL low s.sp ≤ btwH high s.sp ∧ GroupAt K CG H x A t b g ∧ g.ms[i]? = some s ∧ ∀ A' H', Gx K CG H x A t b H' A' { g with ms := g.ms.set i (s.setTo t b (btwL low s.sp, btwH high s.sp)) } → Q .non H'
def spIsMost : Sp := fun vs H Q _ => ∃ (x : Addr) (A : GA) (t b : Int) (g : GS) (l : Addr) (xs : List V), vs = [.ref x, .ref l] ∧ GroupAt K CG H x A t b g ∧ H l = some (.lst xs) ∧ Q (.bl (decide (g.ms.length < 2 * xs.length))) H
def spTill : Sp := fun vs H Q _ => ∃ (x : Addr) (A : GA) (t b : Int) (g : GS) (i : Nat) (s : MS) (z : Int × Int), vs = [.ref x, .int (i : Int)] ∧ GroupAt K CG H x A t b g ∧ g.ms[i]? = some s ∧ s.sp = some z ∧ Q (.int (z.2 + g.le)) H
def spCan : Sp := fun vs H Q _ => ∃ (x : Addr) (A : GA) (t b : Int) (g : GS) (i : Nat) (s : MS), vs = [.ref x, .int (i : Int)] ∧ GroupAt K CG H x A t b g ∧ g.ms[i]? = some s ∧ Q (.bl (canP s)) H
def spRule : Sp := fun vs H Q _ => ∃ (x : Addr) (A : GA) (t b : Int) (g : GS) (i : Nat) (s : MS), vs = [.ref x, .int (i : Int)] ∧ GroupAt K CG H x A t b g ∧ g.ms[i]? = some s ∧ (s.rt.isSome = true → s.sp.isSome = true) ∧ Q (.bl (mayR s)) H
def spHeads : Sp := fun vs H Q _ => ∃ (x : Addr) (A : GA) (t b : Int) (g : GS), vs = [.ref x] ∧ GroupAt K CG H x A t b g ∧ GOk g ∧ ∀ p H', H p = none → Same H H' → H' p = some (.lst ((pickG mayR g).map nV)) → Q (.ref p) H'
def spHead : Sp := fun vs H Q _ => ∃ (x : Addr) (A : GA) (t b : Int) (g : GS), vs = [.ref x] ∧ GroupAt K CG H x A t b g ∧ GOk g ∧ Q (oV (headOf g)) H
def spWriters : Sp := fun vs H Q _ => ∃ (x : Addr) (A : GA) (t b : Int) (g : GS), vs = [.ref x] ∧ GroupAt K CG H x A t b g ∧ ∀ p H', H p = none → Same H H' → H' p = some (.lst ((pickG (isWr g) g).map nV)) → Q (.ref p) H'
def canW (g : GS) : Bool := (headOf g).isSome && decide (g.ms.length < 2 * (pickG (isWr g) g).length)
def spCanW : Sp := fun vs H Q _ => ∃ (x : Addr) (A : GA) (t b : Int) (g : GS), vs = [.ref x] ∧ GroupAt K CG H x A t b g ∧ GOk g ∧ ∀ H', Same H H' → Q (.bl (canW g)) H'
/-- all that promise -/
def promL (ms : List MS) (is : List Nat) (till rg : Int) : List MS := ms.mapIdx fun j s => if j ∈ is then { s with pr := some till, pin := rg } else s
def spProm : Sp := fun vs H Q _ => ∃ (x : Addr) (A : GA) (t b : Int) (g : GS) (l : Addr) (is : List Nat) (till : Int), vs = [.ref x, .ref l, .int till] ∧ GroupAt K CG H x A t b g ∧ H l = some (.lst (is.map nV)) ∧ (∀ i ∈ is, i < g.ms.length) ∧ ∀ A' H', Gx K CG H x A t b H' A' { g with ms := promL g.ms is till g.rg } → Q .non H'
def prO (g : GS) (i : Nat) : Option Int := (g.ms[i]?).bind fun s => s.pr
def prG (g : GS) (i : Nat) : Int := match g.ms[i]? with
  | none => -1
  | some s => s.pr.getD (-1)
def hasG (g : GS) (i : Nat) : Int := match g.ms[i]? with
  | none => 0
  | some s => s.has
def IsMax (f : Nat → Int) (is : List Nat) (m : Int) : Prop := (∃ i ∈ is, m = f i) ∧ ∀ i ∈ is, f i ≤ m
def spGreat : Sp := fun vs H Q _ => ∃ (x : Addr) (A : GA) (t b : Int) (g : GS) (l : Addr) (is : List Nat), vs = [.ref x, .ref l] ∧ GroupAt K CG H x A t b g ∧ H l = some (.lst (is.map nV)) ∧ (∀ i ∈ is, i < g.ms.length) ∧ is ≠ [] ∧ is.length ≤ 5 ∧ ∀ m H', IsMax (prG g) is m → Same H H' → Q (.int m) H'
def spNeed (NH : Addr) : Sp := fun vs H Q E => ∃ (x : Addr) (A : GA) (t b : Int) (g : GS), vs = [.ref x] ∧ GroupAt K CG H x A t b g ∧ GOk g ∧ (∀ c, headOf g = some c → Q (.int c) H) ∧ (headOf g = none → Out E NH "house" .non H)
def spCatch (NH : Addr) : Sp := fun vs H Q E => ∃ (x : Addr) (A : GA) (t b : Int) (g : GS) (i : Nat) (s : MS), vs = [.ref x, .int (i : Int)] ∧ GroupAt K CG H x A t b g ∧ GOk g ∧ g.ms[i]? = some s ∧
  (∀ c sh A' H', headOf g = some c → s.up = true → g.ms[c.toNat]? = some sh → Gx K CG H x A t b H' A' { g with ms := g.ms.set i { s with has := sh.has } } → Q .non H') ∧ (headOf g = none ∨ s.up = false → Out E NH "house" .non H)
def canC (g : GS) (i : Nat) : Bool := atG canP g i && decide (g.ms.length < 2 * (pickG canP g).length)
def choG (g : GS) (i : Nat) (s : MS) (mh till : Int) : GS := { g with rg := g.rg + 1, ch := some (i : Int), ms := promL (g.ms.set i { s with has := mh, rt := some till }) (pickG canP g) till (g.rg + 1) }
def spChoose (NH : Addr) : Sp := fun vs H Q E => ∃ (x : Addr) (A : GA) (t b : Int) (g : GS) (i : Nat) (s : MS), vs = [.ref x, .int (i : Int)] ∧ GroupAt K CG H x A t b g ∧ g.ms[i]? = some s ∧
  (canC g i = true → ∀ (fl mh : Int) (z : Int × Int) A' H', IsMax (prG g) (pickG canP g) fl → IsMax (hasG g) (pickG canP g) mh → s.sp = some z → Gx K CG H x A t b H' A' (choG g i s mh (z.2 + g.le)) → Q (.int fl) H') ∧ (canC g i = false → Out E NH "house" .non H)
def wroteG (g : GS) (d : PyData) : GS := { g with ms := g.ms.map fun s => if isWr g s = true then { s with has := s.has + 1 } else s, ds := g.ds ++ [d] }
def spLenC : Sp := fun vs H Q _ => ∃ (x : Addr) (A : GA) (t b : Int) (g : GS), vs = [.ref x] ∧ GroupAt K CG H x A t b g ∧ Q (.int (g.ms.length : Int)) H
end
theorem atG_of {f : MS → Bool} {g : GS} {i : Nat} {s : MS} (h : g.ms[i]? = some s) : atG f g i = f s := by
  unfold atG
  rw [h]
theorem getM {ms : List MS} {i : Nat} (h : i < ms.length) : ∃ s, ms[i]? = some s := ⟨_, List.getElem?_eq_getElem h⟩
theorem atI_map {ms : List MS} {i : Nat} {s : MS} (f : MS → V) (h : ms[i]? = some s) : atI (ms.map f) (i : Int) = some (f s) := atI_nat (by rw [List.getElem?_map, h]; rfl)
theorem range_take (n i : Nat) (p : Nat → Bool) (h : i < n) : ((List.range n).take (i + 1)).filter p = ((List.range n).take i).filter p ++ (if p i = true then [i] else []) := by
  rw [List.take_add_one, List.filter_append]
  have e : (List.range n)[i]? = some i := by simp [h]
  rw [e]
  show _ ++ List.filter p [i] = _
  cases h2 : p i with
  | true =>
    rw [List.filter_cons, if_pos h2]
    rfl
  | false =>
    rw [List.filter_cons, if_neg (by rw [h2]; decide)]
    rfl

theorem ok_changed_at {P : Program} {w : World} {K : PySem.W.Frag} {mg : Str → Option Value} {base : Heap} {a : Nat → Addr} {d : Nat → FuncData} (T : Txt K mg a d) : FnOk P w K mg base CX0 1 (a 11) (d 11) ["row", "at", "thing"] spCA := by
  refine T.F_changed_at.ok sc_changed_at (fun vs H Q E h => ?_) (fun cdv A outer s0 H vs Q E hr h => ?_)
  · obtain ⟨r, xs, i, v, rfl, hr', hi, q⟩ := h
    rfl
  · obtain ⟨r, xs, i, v, rfl, hr', hi, q⟩ := h
    refine ⟨_, (pss_cons (ps_set (i := 3) sc_changed_at.nd rfl (Or.inl rfl) (pe_callTy call_list_of (by rfl) T.z_list (by decide +kernel) (pa_cons (pv 0) pa_nil))) (pss_cons (ps_asg (pv 2) (pg_sub (pv 3) (pv 1) set_list)) (pss_one (ps_ret (pv 3))))), ?_⟩
    refine ⟨_, rfl, r, xs, rfl, .inl (SqL.of hr'), fun p np => ?_⟩
    refine ⟨_, rfl, _, rfl, _, rfl, p, xs, (i : Int), i, rfl, rfl, upd_same, ?_, ?_⟩
    · unfold ixN
      rw [if_pos (by omega), if_pos (by omega)]
      simp
    · rw [upd_twice]
      exact ⟨_, rfl, q p np⟩

theorem ok_Copies_refuse_no_copy {P : Program} {w : World} {K : PySem.W.Frag} {mg : Str → Option Value} {base : Heap} {a : Nat → Addr} {d : Nat → FuncData} (T : Txt K mg a d) : FnOk P w K mg base CX0 2 (a 12) (d 12) ["self", "copy"] (spRefuse K (a 42)) := by
  refine T.F_Copies_refuse_no_copy.ok sc_Copies_refuse_no_copy (fun vs H Q E h => ?_) (fun cdv A outer s0 H vs Q E hr h => ?_)
  · obtain ⟨x, A, t, b, g, i, rfl, hg, hi, q⟩ := h
    rfl
  · obtain ⟨x, A, t, b, g, i, rfl, hg, hi, q⟩ := h
    obtain ⟨dx, hx⟩ := hg.at_
    refine ⟨_, (pss_one (ps_if (pt_not (pt_truth (pe_call (ok_is_from_to T) (hr.mono (by decide)) (by rfl) T.g_is_from_to T.F_is_from_to.kp T.b_is_from_to .nil pass0 (pa_cons (pv 1) (pa_cons pe_int (pa_cons (pe_op op_sub (pe_callB call_len_seq (by rfl) T.z_len PySem.boot_len (pa_cons (pe_fld (pv 0) rfl) pa_nil)) pe_int) pa_nil)))) (by intro _; rfl))) (pss_one ps_never) pss_nil)), ?_⟩
    refine ⟨_, rfl, _, rfl, x, _, dx, _, _, rfl, hx, T.cl, T.n_ups, gf_ups _ _, A.ups, _, rfl, .inl (SqL.of hg.ls.ups), _, 1, rfl, rfl, (i : Int), 0, _, rfl, by omega, ?_, true, rfl, iteF q⟩
    rw [List.length_map]
    omega

theorem ok_Copies_back {P : Program} {w : World} {K : PySem.W.Frag} {mg : Str → Option Value} {base : Heap} {a : Nat → Addr} {d : Nat → FuncData} (T : Txt K mg a d) : FnOk P w K mg base CX0 3 (a 13) (d 13) ["self", "copy"] (spSetM K (a 42) fun s => { s with up := true }) := by
  refine T.F_Copies_back.ok sc_Copies_back (fun vs H Q E h => ?_) (fun cdv A outer s0 H vs Q E hr h => ?_)
  · obtain ⟨x, A, t, b, g, i, s, rfl, hg, hs, q⟩ := h
    rfl
  · obtain ⟨x, A, t, b, g, i, s, rfl, hg, hs, q⟩ := h
    obtain ⟨dx, hx⟩ := hg.at_
    have hi : i < g.ms.length := (List.getElem?_eq_some_iff.mp hs).1
    refine ⟨_, (pss_cons (ps_expr (pe_meth (pv 0) T.cl T.m_Copies_refuse_no_copy (ok_Copies_refuse_no_copy T) (hr.mono (by decide)) T.b_Copies_refuse_no_copy .nil pass0 (pa_cons (pv 1) pa_nil))) (pss_one (ps_fld (pv 0) (pe_call (ok_changed_at T) (hr.mono (by decide)) (by rfl) T.g_changed_at T.F_changed_at.kp T.b_changed_at .nil pass0 (pa_cons (pe_fld (pv 0) rfl) (pa_cons (pv 1) (pa_cons pe_bl pa_nil)))) rfl))), ?_⟩
    refine ⟨_, rfl, x, dx, _, rfl, hx, gf_no _ _ (by decide +kernel) (by decide +kernel) (by decide +kernel) (by decide +kernel) (by decide +kernel) (by decide +kernel) (by decide +kernel) (by decide +kernel) (by decide +kernel) (by decide +kernel) (by decide +kernel) (by decide +kernel) (by decide +kernel) (by decide +kernel) (by decide +kernel), _, rfl, x, A, t, b, g, i, rfl, hg, hi, ?_⟩
    refine ⟨_, rfl, x, _, dx, _, _, rfl, hx, T.cl, T.n_ups, gf_ups _ _, _, rfl, A.ups, _, i, .bl true, rfl, hg.ls.ups, (by rw [List.length_map]; exact hi), fun p1 np1 => ?_⟩
    refine ⟨_, rfl, x, _, dx, _, rfl, (by rw [upd_ne (ne_of_none hx np1)]; exact hx), T.cl, T.n_ups, gf_len _ _, ?_⟩
    have n1 := hg.put_ups (p := p1) (u := true) hx hs np1
    generalize (upd (upd H p1 (.lst ((g.ms.map fun s => V.bl s.up).set i (.bl true)))) x (.ins (a 42) dx (putF "ups" (.ref p1) (gf A g)))) = H1 at n1 ⊢
    obtain ⟨A1, n1⟩ := n1
    obtain ⟨dx1, hx1⟩ := n1.at_.at_
    exact q A1 H1 n1

theorem ok_Copies_stop {P : Program} {w : World} {K : PySem.W.Frag} {mg : Str → Option Value} {base : Heap} {a : Nat → Addr} {d : Nat → FuncData} (T : Txt K mg a d) : FnOk P w K mg base CX0 3 (a 14) (d 14) ["self", "copy"] (spSetM K (a 42) fun s => { s with up := false, rt := none }) := by
  refine T.F_Copies_stop.ok sc_Copies_stop (fun vs H Q E h => ?_) (fun cdv A outer s0 H vs Q E hr h => ?_)
  · obtain ⟨x, A, t, b, g, i, s, rfl, hg, hs, q⟩ := h
    rfl
  · obtain ⟨x, A, t, b, g, i, s, rfl, hg, hs, q⟩ := h
    obtain ⟨dx, hx⟩ := hg.at_
    have hi : i < g.ms.length := (List.getElem?_eq_some_iff.mp hs).1
    refine ⟨_, (pss_cons (ps_expr (pe_meth (pv 0) T.cl T.m_Copies_refuse_no_copy (ok_Copies_refuse_no_copy T) (hr.mono (by decide)) T.b_Copies_refuse_no_copy .nil pass0 (pa_cons (pv 1) pa_nil))) (pss_cons (ps_fld (pv 0) (pe_call (ok_changed_at T) (hr.mono (by decide)) (by rfl) T.g_changed_at T.F_changed_at.kp T.b_changed_at .nil pass0 (pa_cons (pe_fld (pv 0) rfl) (pa_cons (pv 1) (pa_cons pe_bl pa_nil)))) rfl) (pss_one (ps_fld (pv 0) (pe_call (ok_changed_at T) (hr.mono (by decide)) (by rfl) T.g_changed_at T.F_changed_at.kp T.b_changed_at .nil pass0 (pa_cons (pe_fld (pv 0) rfl) (pa_cons (pv 1) (pa_cons pe_non pa_nil)))) rfl)))), ?_⟩
    refine ⟨_, rfl, x, dx, _, rfl, hx, gf_no _ _ (by decide +kernel) (by decide +kernel) (by decide +kernel) (by decide +kernel) (by decide +kernel) (by decide +kernel) (by decide +kernel) (by decide +kernel) (by decide +kernel) (by decide +kernel) (by decide +kernel) (by decide +kernel) (by decide +kernel) (by decide +kernel) (by decide +kernel), _, rfl, x, A, t, b, g, i, rfl, hg, hi, ?_⟩
    refine ⟨_, rfl, x, _, dx, _, _, rfl, hx, T.cl, T.n_ups, gf_ups _ _, _, rfl, A.ups, _, i, .bl false, rfl, hg.ls.ups, (by rw [List.length_map]; exact hi), fun p1 np1 => ?_⟩
    refine ⟨_, rfl, x, _, dx, _, rfl, (by rw [upd_ne (ne_of_none hx np1)]; exact hx), T.cl, T.n_ups, gf_len _ _, ?_⟩
    have n1 := hg.put_ups (p := p1) (u := false) hx hs np1
    generalize (upd (upd H p1 (.lst ((g.ms.map fun s => V.bl s.up).set i (.bl false)))) x (.ins (a 42) dx (putF "ups" (.ref p1) (gf A g)))) = H1 at n1 ⊢
    obtain ⟨A1, n1⟩ := n1
    obtain ⟨dx1, hx1⟩ := n1.at_.at_
    have hs1 : ({ g with ms := g.ms.set i { s with up := false } } : GS).ms[i]? = some { s with up := false } := List.getElem?_set_self hi
    refine ⟨_, rfl, x, _, dx1, _, _, rfl, hx1, T.cl, T.n_rules_till, gf_rules_till _ _, _, rfl, A1.rts, _, i, .non, rfl, n1.at_.ls.rts, (by rw [List.length_map, List.length_set]; exact hi), fun p2 np2 => ?_⟩
    refine ⟨_, rfl, x, _, dx1, _, rfl, (by rw [upd_ne (ne_of_none hx1 np2)]; exact hx1), T.cl, T.n_rules_till, gf_len _ _, ?_⟩
    obtain ⟨A2, n2⟩ := n1.at_.put_rts (p := p2) (u := none) hx1 hs1 np2
    have z := n1.trans n2
    simp only [List.set_set] at z
    exact q A2 _ z

theorem ok_Copies_tell_bounds {P : Program} {w : World} {K : PySem.W.Frag} {mg : Str → Option Value} {base : Heap} {a : Nat → Addr} {d : Nat → FuncData} (T : Txt K mg a d) : FnOk P w K mg base CX0 3 (a 15) (d 15) ["self", "copy"] (spTell K (a 42)) := by
  refine T.F_Copies_tell_bounds.ok sc_Copies_tell_bounds (fun vs H Q E h => ?_) (fun cdv A outer s0 H vs Q E hr h => ?_)
  · obtain ⟨x, A, t, b, g, i, s, rfl, hg, hs, q⟩ := h
    rfl
  · obtain ⟨x, A, t, b, g, i, s, rfl, hg, hs, q⟩ := h
    obtain ⟨dx, hx⟩ := hg.at_
    have hi : i < g.ms.length := (List.getElem?_eq_some_iff.mp hs).1
    obtain ⟨vst, est, qst⟩ := hg.ls.sts
    obtain ⟨vsp, esp, qsp⟩ := hg.ls.sps
    obtain ⟨sv, e1, e2⟩ := qst.get (i := i) (s := s.st) (by rw [List.getElem?_map, hs]; rfl)
    refine ⟨_, (pss_cons (ps_set (i := 2) sc_Copies_tell_bounds.nd rfl (Or.inl rfl) (pe_call (ok_bounds_behind T) (hr.mono (by decide)) (by rfl) T.g_bounds_behind T.F_bounds_behind.kp T.b_bounds_behind .nil pass0 (pa_cons (pe_ix ix_list (pe_fld (pv 0) rfl) (pv 1) (fun _ _ => rfl)) (pa_cons (pe_ix ix_list (pe_fld (pv 0) rfl) (pv 1) (fun _ _ => rfl)) (pa_cons (pe_fld (pv 0) rfl) pa_nil))))) (pss_one (ps_fld (pv 0) (pe_call (ok_changed_at T) (hr.mono (by decide)) (by rfl) T.g_changed_at T.F_changed_at.kp T.b_changed_at .nil pass0 (pa_cons (pe_fld (pv 0) rfl) (pa_cons (pv 1) (pa_cons (pv 2) pa_nil)))) rfl))), ?_⟩
    refine ⟨_, rfl, x, _, dx, _, _, rfl, hx, T.cl, T.n_stands, gf_stands _ _, _, rfl, A.sts, _, (i : Int), _, rfl, rfl, SqL.of est, atI_nat e1, _, rfl, x, _, dx, _, _, rfl, hx, T.cl, T.n_counts, gf_counts _ _, _, rfl, A.cts, _, (i : Int), _, rfl, rfl, SqL.of hg.ls.cts, atI_map _ hs, _, rfl, x, _, dx, _, _, rfl, hx, T.cl, T.n_most_drift, gf_most_drift _ _, ?_⟩
    refine ⟨sv, s.st, s.n, A.dr, t, b, rfl, e2, hg.ls.nn s (List.mem_of_getElem? hs), hg.ls.dr, ?_⟩
    cases c : s.st with
    | none =>
      refine ⟨_, rfl, x, _, dx, _, _, rfl, hx, T.cl, T.n_spans, gf_spans _ _, _, rfl, _, rfl, A.sps, _, i, .non, rfl, esp, (by rw [qsp.len, List.length_map]; exact hi), fun p1 np1 => ?_⟩
      refine ⟨_, rfl, x, _, dx, _, rfl, (by rw [upd_ne (ne_of_none hx np1)]; exact hx), T.cl, T.n_spans, gf_len _ _, ?_⟩
      obtain ⟨A1, n1⟩ := hg.put_sps (p := p1) (u := none) (v := .non) hx hs np1 rfl qsp
      refine q A1 _ ?_
      have z : spOf t b s = none := by unfold spOf; rw [c]; rfl
      rw [z]
      exact n1
    | some z =>
      intro p0 np0
      have s0 : Same H (upd H p0 (.tup [.int (z.1 + leastP s.n t b), .int (z.2 + mostP s.n t b)])) := same_new (Same.refl H) np0
      have hv : SvAt K (upd H p0 (.tup [.int (z.1 + leastP s.n t b), .int (z.2 + mostP s.n t b)])) (.ref p0) (some (z.1 + leastP s.n t b, z.2 + mostP s.n t b)) := ⟨p0, rfl, SqT.of upd_same⟩
      generalize (upd H p0 (.tup [.int (z.1 + leastP s.n t b), .int (z.2 + mostP s.n t b)])) = H0 at s0 hv ⊢
      have hx0 := s0 _ _ hx
      refine ⟨_, rfl, x, _, dx, _, _, rfl, hx0, T.cl, T.n_spans, gf_spans _ _, _, rfl, _, rfl, A.sps, _, i, .ref p0, rfl, s0 _ _ esp, (by rw [qsp.len, List.length_map]; exact hi), fun p1 np1 => ?_⟩
      refine ⟨_, rfl, x, _, dx, _, rfl, (by rw [upd_ne (ne_of_none hx0 np1)]; exact hx0), T.cl, T.n_spans, gf_len _ _, ?_⟩
      obtain ⟨A1, n1⟩ := (hg.same s0).put_sps (p := p1) hx0 hs np1 hv (qsp.same s0)
      refine q A1 _ ?_
      have z : spOf t b s = some (z.1 + leastP s.n t b, z.2 + mostP s.n t b) := by unfold spOf; rw [c]; rfl
      rw [z]
      exact n1.pre s0

theorem ok_Copies_tick_clock {P : Program} {w : World} {K : PySem.W.Frag} {mg : Str → Option Value} {base : Heap} {a : Nat → Addr} {d : Nat → FuncData} (T : Txt K mg a d) : FnOk P w K mg base CX0 4 (a 16) (d 16) ["self", "copy", "many"] (spTickC K (a 42)) := by
  refine T.F_Copies_tick_clock.ok (CX := CX0) sc_Copies_tick_clock (fun vs H Q E h => ?_) (fun cdv A outer s0 H vs Q E hr h => ?_)
  · obtain ⟨x, A, t, b, m, g, i, s, rfl, m0, hg, hs, q⟩ := h
    rfl
  · obtain ⟨x, A, t, b, m, g, i, s, rfl, m0, hg, hs, q⟩ := h
    obtain ⟨dx, hx⟩ := hg.at_
    have hi : i < g.ms.length := (List.getElem?_eq_some_iff.mp hs).1
    refine ⟨_, PSs.nox (pss_cons (ps_expr (pe_meth (pv 0) T.cl T.m_Copies_refuse_no_copy (ok_Copies_refuse_no_copy T) (hr.mono (by decide)) T.b_Copies_refuse_no_copy .nil pass0 (pa_cons (pv 1) pa_nil))) (pss_cons (ps_expr (pe_call (ok_refuse_no_count T) (hr.mono (by decide)) (by rfl) T.g_refuse_no_count T.F_refuse_no_count.kp T.b_refuse_no_count .nil pass0 (pa_cons (pv 2) pa_nil))) (pss_cons (ps_fld (pv 0) (pe_call (ok_changed_at T) (hr.mono (by decide)) (by rfl) T.g_changed_at T.F_changed_at.kp T.b_changed_at .nil pass0 (pa_cons (pe_fld (pv 0) rfl) (pa_cons (pv 1) (pa_cons (pe_op op_add (pe_ix ix_list (pe_fld (pv 0) rfl) (pv 1) (fun _ _ => rfl)) (pv 2)) pa_nil)))) rfl) (pss_one (ps_expr (pe_meth (pv 0) T.cl T.m_Copies_tell_bounds (ok_Copies_tell_bounds T) (hr.mono (by decide)) T.b_Copies_tell_bounds .nil pass0 (pa_cons (pv 1) pa_nil))))))), ?_⟩
    refine ⟨_, rfl, x, dx, _, rfl, hx, gf_no _ _ (by decide +kernel) (by decide +kernel) (by decide +kernel) (by decide +kernel) (by decide +kernel) (by decide +kernel) (by decide +kernel) (by decide +kernel) (by decide +kernel) (by decide +kernel) (by decide +kernel) (by decide +kernel) (by decide +kernel) (by decide +kernel) (by decide +kernel), _, rfl, x, A, t, b, g, i, rfl, hg, hi, ?_⟩
    refine ⟨_, rfl, m, rfl, m0, ?_⟩
    refine ⟨_, rfl, x, _, dx, _, _, rfl, hx, T.cl, T.n_counts, gf_counts _ _, _, rfl, _, rfl, x, _, dx, _, _, rfl, hx, T.cl, T.n_counts, gf_counts _ _, _, rfl, A.cts, _, (i : Int), _, rfl, rfl, SqL.of hg.ls.cts, atI_map _ hs, _, rfl, s.n, m, rfl, rfl, A.cts, _, i, .int (s.n + m), rfl, hg.ls.cts, (by rw [List.length_map]; exact hi), fun p1 np1 => ?_⟩
    refine ⟨_, rfl, x, _, dx, _, rfl, (by rw [upd_ne (ne_of_none hx np1)]; exact hx), T.cl, T.n_counts, gf_len _ _, ?_⟩
    have sn := hg.ls.nn s (List.mem_of_getElem? hs)
    have n1 := hg.put_cts (p := p1) (u := s.n + m) hx hs np1 (by omega)
    generalize (upd (upd H p1 (.lst ((g.ms.map fun s => V.int s.n).set i (.int (s.n + m))))) x (.ins (a 42) dx (putF "counts" (.ref p1) (gf A g)))) = H1 at n1 ⊢
    obtain ⟨A1, n1⟩ := n1
    obtain ⟨dx1, hx1⟩ := n1.at_.at_
    have hs1 : ({ g with ms := g.ms.set i { s with n := s.n + m } } : GS).ms[i]? = some { s with n := s.n + m } := List.getElem?_set_self hi
    refine ⟨_, rfl, x, dx1, _, rfl, hx1, gf_no _ _ (by decide +kernel) (by decide +kernel) (by decide +kernel) (by decide +kernel) (by decide +kernel) (by decide +kernel) (by decide +kernel) (by decide +kernel) (by decide +kernel) (by decide +kernel) (by decide +kernel) (by decide +kernel) (by decide +kernel) (by decide +kernel) (by decide +kernel), _, rfl, x, A1, t, b, _, i, _, rfl, n1.at_, hs1, fun A2 H2 n2 => ?_⟩
    have z := n1.trans n2
    simp only [List.set_set] at z
    exact q A2 H2 z

theorem ok_Copies___len__ {P : Program} {w : World} {K : PySem.W.Frag} {mg : Str → Option Value} {base : Heap} {a : Nat → Addr} {d : Nat → FuncData} (T : Txt K mg a d) : FnOk P w K mg base CX0 1 (a 17) (d 17) ["self"] (spLenC K (a 42)) := by
  refine T.F_Copies___len__.ok sc_Copies___len__ (fun vs H Q E h => ?_) (fun cdv A outer s0 H vs Q E hr h => ?_)
  · obtain ⟨x, A, t, b, g, rfl, hg, q⟩ := h
    rfl
  · obtain ⟨x, A, t, b, g, rfl, hg, q⟩ := h
    obtain ⟨dx, hx⟩ := hg.at_
    refine ⟨_, (pss_one (ps_ret (pe_callB call_len_seq (by rfl) T.z_len PySem.boot_len (pa_cons (pe_fld (pv 0) rfl) pa_nil)))), ?_⟩
    refine ⟨_, rfl, x, _, dx, _, _, rfl, hx, T.cl, T.n_ups, gf_ups _ _, A.ups, _, rfl, .inl (SqL.of hg.ls.ups), ?_⟩
    rw [List.length_map]
    exact q

theorem ok_Copies_set_clock {P : Program} {w : World} {K : PySem.W.Frag} {mg : Str → Option Value} {base : Heap} {a : Nat → Addr} {d : Nat → FuncData} (T : Txt K mg a d) : FnOk P w K mg base CX0 5 (a 18) (d 18) ["self", "copy", "low", "high"] (spSetC K (a 42)) := by
  refine T.F_Copies_set_clock.ok sc_Copies_set_clock (fun vs H Q E h => ?_) (fun cdv A outer s0 H vs Q E hr h => ?_)
  · obtain ⟨x, A, t, b, low, high, g, i, s, rfl, lh, le, hg, hs, q⟩ := h
    rfl
  · obtain ⟨x, A, t, b, low, high, g, i, s, rfl, lh, le, hg, hs, q⟩ := h
    obtain ⟨dx, hx⟩ := hg.at_
    have hi : i < g.ms.length := (List.getElem?_eq_some_iff.mp hs).1
    obtain ⟨vst, est, qst⟩ := hg.ls.sts
    obtain ⟨vsp, esp, qsp⟩ := hg.ls.sps
    obtain ⟨sv, e1, e2⟩ := qsp.get (i := i) (s := s.sp) (by rw [List.getElem?_map, hs]; rfl)
    refine ⟨_, (pss_cons (ps_expr (pe_meth (pv 0) T.cl T.m_Copies_refuse_no_copy (ok_Copies_refuse_no_copy T) (hr.mono (by decide)) T.b_Copies_refuse_no_copy .nil pass0 (pa_cons (pv 1) pa_nil))) (pss_cons (ps_fld (pv 0) (pe_call (ok_changed_at T) (hr.mono (by decide)) (by rfl) T.g_changed_at T.F_changed_at.kp T.b_changed_at .nil pass0 (pa_cons (pe_fld (pv 0) rfl) (pa_cons (pv 1) (pa_cons (pe_call (ok_set_between T) (hr.mono (by decide)) (by rfl) T.g_set_between T.F_set_between.kp T.b_set_between .nil pass0 (pa_cons (pe_ix ix_list (pe_fld (pv 0) rfl) (pv 1) (fun _ _ => rfl)) (pa_cons (pv 2) (pa_cons (pv 3) pa_nil)))) pa_nil)))) rfl) (pss_cons (ps_fld (pv 0) (pe_call (ok_changed_at T) (hr.mono (by decide)) (by rfl) T.g_changed_at T.F_changed_at.kp T.b_changed_at .nil pass0 (pa_cons (pe_fld (pv 0) rfl) (pa_cons (pv 1) (pa_cons pe_int pa_nil)))) rfl) (pss_one (ps_expr (pe_meth (pv 0) T.cl T.m_Copies_tell_bounds (ok_Copies_tell_bounds T) (hr.mono (by decide)) T.b_Copies_tell_bounds .nil pass0 (pa_cons (pv 1) pa_nil))))))), ?_⟩
    refine ⟨_, rfl, x, dx, _, rfl, hx, gf_no _ _ (by decide +kernel) (by decide +kernel) (by decide +kernel) (by decide +kernel) (by decide +kernel) (by decide +kernel) (by decide +kernel) (by decide +kernel) (by decide +kernel) (by decide +kernel) (by decide +kernel) (by decide +kernel) (by decide +kernel) (by decide +kernel) (by decide +kernel), _, rfl, x, A, t, b, g, i, rfl, hg, hi, ?_⟩
    refine ⟨_, rfl, x, _, dx, _, _, rfl, hx, T.cl, T.n_stands, gf_stands _ _, _, rfl, _, rfl, x, _, dx, _, _, rfl, hx, T.cl, T.n_spans, gf_spans _ _, _, rfl, A.sps, _, (i : Int), _, rfl, rfl, SqL.of esp, atI_nat e1, _, rfl, _, rfl, sv, s.sp, low, high, rfl, e2, lh, le, fun p0 np0 => ?_⟩
    have s0 : Same H (upd H p0 (.tup [.int (btwL low s.sp), .int (btwH high s.sp)])) := same_new (Same.refl H) np0
    have hv : SvAt K (upd H p0 (.tup [.int (btwL low s.sp), .int (btwH high s.sp)])) (.ref p0) (some (btwL low s.sp, btwH high s.sp)) := ⟨p0, rfl, SqT.of upd_same⟩
    generalize (upd H p0 (.tup [.int (btwL low s.sp), .int (btwH high s.sp)])) = H0 at s0 hv ⊢
    have hx0 := s0 _ _ hx
    refine ⟨A.sts, _, i, .ref p0, rfl, s0 _ _ est, (by rw [qst.len, List.length_map]; exact hi), fun p1 np1 => ?_⟩
    refine ⟨_, rfl, x, _, dx, _, rfl, (by rw [upd_ne (ne_of_none hx0 np1)]; exact hx0), T.cl, T.n_stands, gf_len _ _, ?_⟩
    have n1 := (hg.same s0).put_sts (p := p1) hx0 hs np1 hv (qst.same s0)
    generalize (upd (upd H0 p1 (.lst (vst.set i (.ref p0)))) x (.ins (a 42) dx (putF "stands" (.ref p1) (gf A g)))) = H1 at n1 ⊢
    obtain ⟨A1, n1⟩ := n1
    obtain ⟨dx1, hx1⟩ := n1.at_.at_
    have hs1 : ({ g with ms := g.ms.set i { s with st := some (btwL low s.sp, btwH high s.sp) } } : GS).ms[i]? = some { s with st := some (btwL low s.sp, btwH high s.sp) } := List.getElem?_set_self hi
    refine ⟨_, rfl, x, _, dx1, _, _, rfl, hx1, T.cl, T.n_counts, gf_counts _ _, _, rfl, A1.cts, _, i, .int 0, rfl, n1.at_.ls.cts, (by rw [List.length_map, List.length_set]; exact hi), fun p2 np2 => ?_⟩
    refine ⟨_, rfl, x, _, dx1, _, rfl, (by rw [upd_ne (ne_of_none hx1 np2)]; exact hx1), T.cl, T.n_counts, gf_len _ _, ?_⟩
    have n2 := n1.at_.put_cts (p := p2) (u := 0) hx1 hs1 np2 (Int.le_refl 0)
    generalize (upd (upd H1 p2 (.lst ((List.map (fun s => V.int s.n) ({ g with ms := g.ms.set i { s with st := some (btwL low s.sp, btwH high s.sp) } } : GS).ms).set i (.int 0)))) x (.ins (a 42) dx1 (putF "counts" (.ref p2) (gf A1 { g with ms := g.ms.set i { s with st := some (btwL low s.sp, btwH high s.sp) } })))) = H2 at n2 ⊢
    obtain ⟨A2, n2⟩ := n2
    obtain ⟨dx2, hx2⟩ := n2.at_.at_
    have n12 : Gx K (a 42) H x A t b H2 A2 { g with ms := g.ms.set i { s with st := some (btwL low s.sp, btwH high s.sp), n := 0 } } := by
      have z := (n1.pre s0).trans n2
      simp only [List.set_set] at z
      exact z
    have hs2 : ({ g with ms := g.ms.set i { s with st := some (btwL low s.sp, btwH high s.sp), n := 0 } } : GS).ms[i]? = some { s with st := some (btwL low s.sp, btwH high s.sp), n := 0 } := List.getElem?_set_self hi
    refine ⟨_, rfl, x, dx2, _, rfl, hx2, gf_no _ _ (by decide +kernel) (by decide +kernel) (by decide +kernel) (by decide +kernel) (by decide +kernel) (by decide +kernel) (by decide +kernel) (by decide +kernel) (by decide +kernel) (by decide +kernel) (by decide +kernel) (by decide +kernel) (by decide +kernel) (by decide +kernel) (by decide +kernel), _, rfl, x, A2, t, b, _, i, _, rfl, n12.at_, hs2, fun A3 H3 n3 => ?_⟩
    have z := n12.trans n3
    simp only [List.set_set] at z
    exact q A3 H3 z


theorem Lists.setPP {K : PySem.W.Frag} {H : Hp} {A : GA} {t b : Int} {g : GS} (l : Lists K H A t b g) {p1 p2 : Addr} {is : List Nat} {till rg : Int} (h1 : H p1 = some (.lst ((promL g.ms is till rg).map fun s => oV s.pr))) (h2 : H p2 = some (.lst ((promL g.ms is till rg).map fun s => V.int s.pin))) (e1 : A.el ≠ p1) (e2 : A.el ≠ p2) :
    Lists K H { A with prs := p1, pins := p2 } t b { g with ms := promL g.ms is till rg } := by
  have pm : ∀ {α : Type} {f : MS → α}, (∀ s : MS, f { s with pr := some till, pin := rg } = f s) → (promL g.ms is till rg).map f = g.ms.map f := fun {α} {f} hf => by
    apply List.ext_getElem?
    intro j
    unfold promL
    rw [List.getElem?_map, List.getElem?_map, List.getElem?_mapIdx]
    cases g.ms[j]? with
    | none => rfl
    | some s =>
      show some (f (if j ∈ is then { s with pr := some till, pin := rg } else s)) = some (f s)
      by_cases c : j ∈ is
      · rw [if_pos c, hf]
      · rw [if_neg c]
  have ln : (promL g.ms is till rg).length = g.ms.length := by unfold promL; rw [List.length_mapIdx]
  refine ⟨l.dr, (by rw [pm fun _ => rfl]; exact l.ups), (by rw [pm fun _ => rfl]; exact l.has), (by rw [pm fun _ => rfl]; exact l.cts), h1, h2, (by rw [pm fun _ => rfl]; exact l.rts), (by obtain ⟨vs, e, q⟩ := l.sts; exact ⟨vs, e, by rw [pm fun _ => rfl]; exact q⟩), (by obtain ⟨vs, e, q⟩ := l.sps; exact ⟨vs, e, by rw [pm fun _ => rfl]; exact q⟩), l.el, l.e_ups, l.e_has, l.e_cts, e1, e2, l.e_rts, l.e_sts, l.e_sps, (by rw [ln]; exact l.n5), (by rw [ln]; exact l.n1), fun s hs => ?_, l.dl⟩
  obtain ⟨j, hj⟩ := List.getElem?_of_mem hs
  have hj : (promL g.ms is till rg)[j]? = some s := hj
  unfold promL at hj
  rw [List.getElem?_mapIdx] at hj
  cases c : g.ms[j]? with
  | none => rw [c] at hj; cases hj
  | some s0 =>
    rw [c] at hj
    have z := l.nn s0 (List.mem_of_getElem? c)
    have e : s = if j ∈ is then { s0 with pr := some till, pin := rg } else s0 := (Option.some.inj hj).symm
    rw [e]
    by_cases c2 : j ∈ is
    · rw [if_pos c2]; exact z
    · rw [if_neg c2]; exact z
theorem promL_nil (ms : List MS) (till rg : Int) : promL ms [] till rg = ms := by
  apply List.ext_getElem?
  intro j
  unfold promL
  rw [List.getElem?_mapIdx]
  cases ms[j]? <;> simp
theorem promL_len (ms : List MS) (is : List Nat) (till rg : Int) : (promL ms is till rg).length = ms.length := by unfold promL; rw [List.length_mapIdx]
theorem promL_step {ms : List MS} {is : List Nat} {till rg : Int} {i : Nat} {α : Type} (f : MS → α) (v : α) (hi : i < ms.length) (hf : ∀ s : MS, f { s with pr := some till, pin := rg } = v) : ((promL ms is till rg).map f).set i v = (promL ms (is ++ [i]) till rg).map f := by
  apply List.ext_getElem?
  intro j
  rw [List.getElem?_set, List.getElem?_map, List.getElem?_map]
  unfold promL
  rw [List.getElem?_mapIdx, List.getElem?_mapIdx, List.length_map, List.length_mapIdx]
  by_cases c : i = j
  · subst c
    rw [if_pos rfl, if_pos hi, List.getElem?_eq_getElem hi]
    show some v = some (f (if i ∈ is ++ [i] then _ else _))
    rw [if_pos (by simp), hf]
  · rw [if_neg c]
    cases ms[j]? with
    | none => rfl
    | some s =>
      show some (f (if j ∈ is then _ else _)) = some (f (if j ∈ is ++ [i] then _ else _))
      by_cases c2 : j ∈ is
      · rw [if_pos c2, if_pos (List.mem_append_left _ c2)]
      · rw [if_neg c2, if_neg (fun z => (List.mem_append.mp z).elim c2 fun y => c (List.mem_singleton.mp y).symm)]
theorem oV_ne {i : Int} : ¬ (oV (some i) = V.non) := by intro z; cases z
theorem is_len {g : GS} {f : MS → Bool} : (pickG f g).length ≤ g.ms.length := by
  unfold pickG
  have := List.length_filter_le (atG f g) (List.range g.ms.length)
  rw [List.length_range] at this
  exact this
theorem is_lt {g : GS} {f : MS → Bool} : ∀ i ∈ pickG f g, i < g.ms.length := fun i h => by
  unfold pickG at h
  exact List.mem_range.mp (List.mem_filter.mp h).1
theorem in_ints (d : Int) (ns : List Int) : inV (.int d) (ns.map V.int) = decide (d ∈ ns) := by
  unfold inV
  rw [List.any_map]
  by_cases c : d ∈ ns
  · rw [decide_eq_true c, List.any_eq_true]
    exact ⟨d, c, by simp [eqV]⟩
  · rw [decide_eq_false c, List.any_eq_false]
    intro x hx
    simp only [Function.comp, eqV, beq_iff_eq]
    intro e
    exact c (e ▸ hx)
theorem in_nats (d : Nat) (ns : List Nat) : inV (.int (d : Int)) (ns.map nV) = decide (d ∈ ns) := by
  have e : ns.map nV = (ns.map fun n : Nat => (n : Int)).map V.int := by rw [List.map_map]; rfl
  rw [e, in_ints]
  refine decide_eq_decide.mpr ⟨fun h => ?_, fun h => List.mem_map.mpr ⟨d, h, rfl⟩⟩
  obtain ⟨n, hn, en⟩ := List.mem_map.mp h
  have : n = d := by omega
  exact this ▸ hn
theorem nats_flat (ns : List Nat) : (ns.map nV).all flatV = true := by
  rw [List.all_eq_true]
  intro v hv
  obtain ⟨n, _, rfl⟩ := List.mem_map.mp hv
  rfl
theorem pick_mem {g : GS} {f : MS → Bool} {i : Nat} (hi : i < g.ms.length) : decide (i ∈ pickG f g) = atG f g i := by
  unfold pickG
  cases c : atG f g i with
  | true => exact decide_eq_true (List.mem_filter.mpr ⟨List.mem_range.mpr hi, c⟩)
  | false => exact decide_eq_false fun z => by rw [(List.mem_filter.mp z).2] at c; cases c


def leafD : PyData → Bool
  | .none => true
  | .bool _ => true
  | .int _ => true
  | .str _ => true
  | _ => false
def flatT : PyData → Bool
  | .tuple ds => ds.all leafD
  | d => leafD d
theorem leaf_up {K : PySem.W.Frag} {H H' : Hp} {v : V} {d : PyData} (h : Dp K H v d) (l : leafD d = true) : Dp K H' v d := by
  cases h with
  | non => exact .non
  | bl x => exact .bl x
  | int i => exact .int i
  | str x => exact .str x
  | lst hq hs => cases l
  | tup hq hs => cases l
theorem leaves_up {K : PySem.W.Frag} {H H' : Hp} : ∀ {vs : List V} {ds : List PyData}, DpAll K H vs ds → ds.all leafD = true → DpAll K H' vs ds
  | _, _, .nil, _ => .nil
  | _, _, .cons a r, l => by
    rw [List.all_cons, Bool.and_eq_true] at l
    exact .cons (leaf_up a l.1) (leaves_up r l.2)
theorem flat_up {K : PySem.W.Frag} {H H' : Hp} {v : V} {d : PyData} {y : Addr} {o : HO} (h : Dp K H v d) (l : flatT d = true) (k : Fr y H H') (hy : H y = some o) (m : Mut o) : Dp K H' v d := by
  cases h with
  | non => exact .non
  | bl x => exact .bl x
  | int i => exact .int i
  | str x => exact .str x
  | lst hq hs => cases l
  | tup hq hs => exact .tup (k.sqt hy m hq) (leaves_up hs l)
theorem flats_up {K : PySem.W.Frag} {H H' : Hp} {y : Addr} {o : HO} (k : Fr y H H') (hy : H y = some o) (m : Mut o) : ∀ {vs : List V} {ds : List PyData}, DpAll K H vs ds → (∀ d ∈ ds, flatT d = true) → DpAll K H' vs ds
  | _, _, .nil, _ => .nil
  | _, _, .cons a r, l => .cons (flat_up a (l _ (List.mem_cons_self ..)) k hy m) (flats_up k hy m r fun d hd => l d (List.mem_cons_of_mem _ hd))
theorem dpall_snoc {K : PySem.W.Frag} {H : Hp} {v : V} {d : PyData} (hv : Dp K H v d) : ∀ {vs : List V} {ds : List PyData}, DpAll K H vs ds → DpAll K H (vs ++ [v]) (ds ++ [d])
  | _, _, .nil => .cons hv .nil
  | _, _, .cons a r => .cons a (dpall_snoc hv r)
theorem dpall_take {K : PySem.W.Frag} {H : Hp} : ∀ {vs : List V} {ds : List PyData} (n : Nat), DpAll K H vs ds → DpAll K H (vs.take n) (ds.take n)
  | _, _, 0, _ => by rw [List.take_zero, List.take_zero]; exact .nil
  | _, _, n + 1, .nil => by rw [List.take_nil, List.take_nil]; exact .nil
  | _, _, n + 1, .cons a r => by rw [List.take_succ_cons, List.take_succ_cons]; exact .cons a (dpall_take n r)
theorem cut_take (xs : List V) {k : Int} (h0 : 0 ≤ k) (h1 : k ≤ xs.length) : cutV xs none (some k) = xs.take k.toNat := by
  obtain ⟨n, rfl⟩ := Int.eq_ofNat_of_zero_le h0
  have hn : n ≤ xs.length := by omega
  have e : HT.sIx xs.length xs.length (some (n : Int)) = n := by
    have z := HT.clip_eq (n : Int) xs.length xs.length
    rw [if_neg (by omega)] at z
    omega
  unfold cutV
  rw [e]
  show (xs.drop 0).take (n - 0) = _
  rw [List.drop_zero, Nat.sub_zero]
  rfl
def hasL (g : GS) (is : List Nat) : List V := g.ms.mapIdx fun i s => V.int (if i ∈ is then s.has + 1 else s.has)
theorem hasL_nil (g : GS) : hasL g [] = g.ms.map fun s => V.int s.has := by
  apply List.ext_getElem?
  intro j
  unfold hasL
  rw [List.getElem?_mapIdx, List.getElem?_map]
  cases g.ms[j]? <;> simp
theorem hasL_len (g : GS) (is : List Nat) : (hasL g is).length = g.ms.length := by unfold hasL; rw [List.length_mapIdx]
theorem hasL_get {g : GS} {is : List Nat} {k : Nat} {s : MS} (hs : g.ms[k]? = some s) (n : ¬ k ∈ is) : (hasL g is)[k]? = some (.int s.has) := by
  unfold hasL
  rw [List.getElem?_mapIdx, hs]
  show some (V.int (if k ∈ is then _ else _)) = _
  rw [if_neg n]
theorem hasL_step {g : GS} {is : List Nat} {k : Nat} {s : MS} (hs : g.ms[k]? = some s) : (hasL g is).set k (.int (s.has + 1)) = hasL g (is ++ [k]) := by
  apply List.ext_getElem?
  intro j
  rw [List.getElem?_set, hasL_len]
  by_cases c : k = j
  · subst c
    rw [if_pos rfl, if_pos (List.getElem?_eq_some_iff.mp hs).1]
    unfold hasL
    rw [List.getElem?_mapIdx, hs]
    show _ = some (V.int (if k ∈ is ++ [k] then _ else _))
    rw [if_pos (by simp)]
  · rw [if_neg c]
    unfold hasL
    rw [List.getElem?_mapIdx, List.getElem?_mapIdx]
    cases g.ms[j]? with
    | none => rfl
    | some u =>
      show some (V.int (if j ∈ is then _ else _)) = some (V.int (if j ∈ is ++ [k] then _ else _))
      by_cases c2 : j ∈ is
      · rw [if_pos c2, if_pos (List.mem_append_left _ c2)]
      · rw [if_neg c2, if_neg (fun z => (List.mem_append.mp z).elim c2 fun y => c (List.mem_singleton.mp y).symm)]
theorem hasL_all (g : GS) (d : PyData) : hasL g (pickG (isWr g) g) = (wroteG g d).ms.map fun s => V.int s.has := by
  apply List.ext_getElem?
  intro j
  unfold hasL wroteG
  rw [List.getElem?_mapIdx, List.getElem?_map, List.getElem?_map]
  cases c : g.ms[j]? with
  | none => rfl
  | some s =>
    have hj := (List.getElem?_eq_some_iff.mp c).1
    have e : decide (j ∈ pickG (isWr g) g) = isWr g s := (pick_mem hj).trans (atG_of c)
    show some (V.int (if j ∈ pickG (isWr g) g then s.has + 1 else s.has)) = some (V.int (if isWr g s = true then ({ s with has := s.has + 1 } : MS) else s).has)
    cases c2 : isWr g s with
    | true => rw [if_pos (of_decide_eq_true (e.trans c2)), if_pos rfl]
    | false => rw [if_neg (of_decide_eq_false (e.trans c2)), if_neg (by decide)]
theorem wrote_map {α : Type} {f : MS → α} (g : GS) (d : PyData) (hf : ∀ (s : MS) (n : Int), f { s with has := n } = f s) : (wroteG g d).ms.map f = g.ms.map f := by
  unfold wroteG
  rw [List.map_map]
  refine List.map_congr_left fun s _ => ?_
  show f (if isWr g s = true then { s with has := s.has + 1 } else s) = f s
  cases isWr g s with
  | true => rw [if_pos rfl, hf]
  | false => rw [if_neg (by decide)]
theorem pick_nodup (g : GS) (f : MS → Bool) : (pickG f g).Nodup := (List.filter_sublist (l := List.range g.ms.length)).nodup List.nodup_range
theorem take_notin {α : Type} : ∀ {l : List α} {i : Nat} {x : α}, l.Nodup → l[i]? = some x → ¬ x ∈ l.take i
  | [], i, x, _, h => by simp at h
  | a :: r, 0, x, _, h => by simp
  | a :: r, i + 1, x, n, h => by
    rw [List.nodup_cons] at n
    have h' : r[i]? = some x := by simpa using h
    rw [List.take_succ_cons]
    intro z
    rcases List.mem_cons.mp z with rfl | z
    · exact n.1 (List.mem_of_getElem? h')
    · exact take_notin n.2 h' z
/-- an entry is written: el grows in place, the new list of 'has' stands at p -/
theorem Lists.wrote {K : PySem.W.Frag} {H : Hp} {A : GA} {t b : Int} {g : GS} (l : Lists K H A t b g) {p : Addr} {vs : List V} {v : V} {d : PyData} (hp : H p = some (.lst (hasL g (pickG (isWr g) g)))) (hel : H A.el = some (.lst vs)) (hd : DpAll K H vs g.ds) (hv : Dp K H v d) (fl : ∀ e ∈ g.ds, flatT e = true) (fd : flatT d = true) (ne : A.el ≠ p) (dl : g.ds.length < 1000) :
    Lists K (upd H A.el (.lst (vs ++ [v]))) { A with has := p } t b (wroteG g d) := by
  have k : Fr A.el H (upd H A.el (.lst (vs ++ [v]))) := (Fr.refl _ H).put
  have up : ∀ {q : Addr} {o : HO}, A.el ≠ q → H q = some o → (upd H A.el (.lst (vs ++ [v]))) q = some o := fun n e => k _ _ n.symm e
  have ln : (wroteG g d).ms.length = g.ms.length := by unfold wroteG; rw [List.length_map]
  have sv : ∀ {vs' : List V} {ss : List (Option (Int × Int))}, SvL K H vs' ss → SvL K (upd H A.el (.lst (vs ++ [v]))) vs' ss := fun q => ⟨q.len, fun i v s e1 e2 => (q.at_ i v s e1 e2).fr k hel trivial⟩
  refine ⟨l.dr.fr k hel trivial, (by rw [wrote_map g d fun _ _ => rfl]; exact up l.e_ups l.ups), (by rw [← hasL_all]; exact up ne hp), (by rw [wrote_map g d fun _ _ => rfl]; exact up l.e_cts l.cts), (by rw [wrote_map g d fun _ _ => rfl]; exact up l.e_prs l.prs), (by rw [wrote_map g d fun _ _ => rfl]; exact up l.e_pins l.pins), (by rw [wrote_map g d fun _ _ => rfl]; exact up l.e_rts l.rts),
    (by obtain ⟨us, e, q⟩ := l.sts; exact ⟨us, up l.e_sts e, by rw [wrote_map g d fun _ _ => rfl]; exact sv q⟩), (by obtain ⟨us, e, q⟩ := l.sps; exact ⟨us, up l.e_sps e, by rw [wrote_map g d fun _ _ => rfl]; exact sv q⟩),
    ⟨_, upd_same, dpall_snoc (flat_up hv fd k hel trivial) (flats_up k hel trivial hd fl)⟩, l.e_ups, ne, l.e_cts, l.e_prs, l.e_pins, l.e_rts, l.e_sts, l.e_sps, (by rw [ln]; exact l.n5), (by rw [ln]; exact l.n1), fun s hs => ?_, ?_⟩
  · unfold wroteG at hs
    obtain ⟨s0, h0, rfl⟩ := List.mem_map.mp hs
    have z := l.nn s0 h0
    cases c : isWr g s0 with
    | true => rw [if_pos rfl]; exact z
    | false => rw [if_neg (by decide)]; exact z
  · show (g.ds ++ [d]).length ≤ 1000
    rw [List.length_append]
    exact dl
/-- a list that is none of the group's is changed -/
theorem Lists.frl {K : PySem.W.Frag} {H H' : Hp} {A : GA} {t b : Int} {g : GS} (l : Lists K H A t b g) {y : Addr} {ys : List V} (k : Fr y H H') (hy : H y = some (.lst ys)) (ny : ¬ y ∈ A.all) (fl : ∀ d ∈ g.ds, flatT d = true) : Lists K H' A t b g := by
  have no : ∀ c, c ∈ A.all → c ≠ y := fun c hc e => ny (e ▸ hc)
  exact ⟨l.dr.fr k hy trivial, k _ _ (no A.ups (by simp [GA.all])) l.ups, k _ _ (no A.has (by simp [GA.all])) l.has, k _ _ (no A.cts (by simp [GA.all])) l.cts, k _ _ (no A.prs (by simp [GA.all])) l.prs, k _ _ (no A.pins (by simp [GA.all])) l.pins, k _ _ (no A.rts (by simp [GA.all])) l.rts, (by obtain ⟨vs, e, q⟩ := l.sts; exact ⟨vs, k _ _ (no A.sts (by simp [GA.all])) e, ⟨q.len, fun i v s e1 e2 => (q.at_ i v s e1 e2).fr k hy trivial⟩⟩), (by obtain ⟨vs, e, q⟩ := l.sps; exact ⟨vs, k _ _ (no A.sps (by simp [GA.all])) e, ⟨q.len, fun i v s e1 e2 => (q.at_ i v s e1 e2).fr k hy trivial⟩⟩), (by obtain ⟨vs, e, q⟩ := l.el; exact ⟨vs, k _ _ (no A.el (by simp [GA.all])) e, flats_up k hy trivial q fl⟩), l.e_ups, l.e_has, l.e_cts, l.e_prs, l.e_pins, l.e_rts, l.e_sts, l.e_sps, l.n5, l.n1, l.nn, l.dl⟩
theorem Lists.some_ {K : PySem.W.Frag} {H : Hp} {A : GA} {t b : Int} {g : GS} (l : Lists K H A t b g) : ∀ c ∈ A.all, ∃ o, H c = some o := fun c hc => by
  obtain ⟨_, e1, _⟩ := l.sts
  obtain ⟨_, e2, _⟩ := l.sps
  obtain ⟨_, e3, _⟩ := l.el
  simp only [GA.all, List.mem_cons, List.not_mem_nil, or_false] at hc
  rcases hc with rfl | rfl | rfl | rfl | rfl | rfl | rfl | rfl | rfl
  · exact ⟨_, l.ups⟩
  · exact ⟨_, l.has⟩
  · exact ⟨_, e1⟩
  · exact ⟨_, l.cts⟩
  · exact ⟨_, e2⟩
  · exact ⟨_, l.prs⟩
  · exact ⟨_, l.pins⟩
  · exact ⟨_, l.rts⟩
  · exact ⟨_, e3⟩
def LeafV (v : V) : Prop := v = .non ∨ (∃ b, v = .bl b) ∨ (∃ i, v = .int i) ∨ ∃ z, v = .str z
theorem LeafV.ty {K : PySem.W.Frag} {H : Hp} {v : V} (h : LeafV v) : ∃ t : Value, TyX K H v t ∧ PySem.W.kitAny K t [.type "tuple", .type "list", .type "dict"] = some false := by
  have go : ∀ {T : String}, kitB T "tuple" = some false → kitB T "list" = some false → kitB T "dict" = some false → PySem.W.kitAny K (.type T) [.type "tuple", .type "list", .type "dict"] = some false := fun a b c =>
    kitAny_cons (kit_ty a) (fun _ => kitAny_cons (kit_ty b) (fun _ => kitAny_cons (kit_ty c) (fun _ => rfl) (fun z => by cases z)) (fun z => by cases z)) (fun z => by cases z)
  rcases h with rfl | ⟨b, rfl⟩ | ⟨i, rfl⟩ | ⟨z, rfl⟩
  · exact ⟨_, .base .non, go (by decide +kernel) (by decide +kernel) (by decide +kernel)⟩
  · exact ⟨_, .base (.bl b), go (by decide +kernel) (by decide +kernel) (by decide +kernel)⟩
  · exact ⟨_, .base (.int i), go (by decide +kernel) (by decide +kernel) (by decide +kernel)⟩
  · exact ⟨_, .base (.str z), go (by decide +kernel) (by decide +kernel) (by decide +kernel)⟩
def spFixed : Sp := fun vs H Q _ => ∃ (p : Addr) (xs : List V), vs = [.ref p] ∧ H p = some (.tup xs) ∧ (∀ v ∈ xs, LeafV v) ∧ ∀ H', Same H H' → Q (.bl true) H'
section
variable (K : PySem.W.Frag) (CG : Addr)
def spWrite (NH : Addr) : Sp := fun vs H Q E => ∃ (x : Addr) (A : GA) (t b : Int) (g : GS) (p : Addr) (xs : List V) (ds : List PyData), vs = [.ref x, .ref p] ∧ GroupAt K CG H x A t b g ∧ GOk g ∧ g.lent = false ∧ g.loose = false ∧ H p = some (.tup xs) ∧ DpAll K H xs ds ∧ ds.all leafD = true ∧ (∀ v ∈ xs, LeafV v) ∧ g.ds.length < 1000 ∧ (∀ d ∈ g.ds, flatT d = true) ∧
  (canW g = true → ∀ A' H', A'.el = A.el → (∀ c, c ∈ A'.all → c ∈ A.all ∨ H c = none) → (∀ b o, b ≠ x → b ≠ A.el → H b = some o → H' b = some o) → GroupAt K CG H' x A' t b (wroteG g (.tuple ds)) → Q .non H') ∧ (canW g = false → Out E NH "house" .non H)
def spBook : Sp := fun vs H Q _ => ∃ (x : Addr) (A : GA) (t b : Int) (g : GS) (cv : V) (k : Nat), vs = [.ref x, cv] ∧ GroupAt K CG H x A t b g ∧ g.loose = false ∧ k ≤ g.ds.length ∧ ((cv = .non ∧ k = g.ds.length) ∨ ∃ (i : Nat) (s : MS), cv = .int (i : Int) ∧ g.ms[i]? = some s ∧ s.has = (k : Int)) ∧
  ∀ p us H', H p = none → Same H H' → H' p = some (.lst us) → DpAll K H' us (g.ds.take k) → Q (.ref p) H'
def newG (n : Nat) (le : Int) : GS := ⟨List.replicate n MS.new, le, 0, none, [], false, false⟩
def spInitC : Sp := fun vs H Q _ => ∃ (x dx : Addr) (n : Nat) (dr : Addr) (le t b : Int), vs = [.ref x, .int (n : Int), .ref dr, .int le] ∧ H x = some (.ins CG dx []) ∧ 1 ≤ n ∧ n ≤ 5 ∧ 1 ≤ le ∧ le ≤ 1000 ∧ DrOk K H dr t b ∧ ∀ A H', (∀ c ∈ A.all, H c = none) → A.el ≠ x → Fr x H H' → GroupAt K CG H' x A t b (newG n le) → Q .non H'
end
theorem rep_flat {v : V} : ∀ n : Nat, (List.replicate n [v]).flatten = List.replicate n v
  | 0 => rfl
  | n + 1 => by rw [List.replicate_succ, List.flatten_cons, rep_flat n, List.replicate_succ]; rfl
theorem rep_map {α : Type} (f : MS → α) (n : Nat) : (List.replicate n MS.new).map f = List.replicate n (f MS.new) := by rw [List.map_replicate]
theorem rep_sv {K : PySem.W.Frag} {H : Hp} (n : Nat) : SvL K H (List.replicate n .non) (List.replicate n none) := by
  refine ⟨by rw [List.length_replicate, List.length_replicate], fun i v s e1 e2 => ?_⟩
  rw [List.getElem?_replicate] at e1 e2
  by_cases c : i < n
  · rw [if_pos c] at e1 e2
    cases e1
    cases e2
    rfl
  · rw [if_neg c] at e1
    cases e1

theorem ok_Copies_book {P : Program} {w : World} {K : PySem.W.Frag} {mg : Str → Option Value} {base : Heap} {a : Nat → Addr} {d : Nat → FuncData} (T : Txt K mg a d) : FnOk P w K mg base CX0 3 (a 21) (d 21) ["self", "copy"] (spBook K (a 42)) := by
  refine T.F_Copies_book.ok (CX := CX0) sc_Copies_book (fun vs H Q E h => ?_) (fun cdv A outer s0 H vs Q E hr h => ?_)
  · obtain ⟨x, A, t, b, g, cv, k, rfl, hg, hlo, hk, hc, q⟩ := h
    rfl
  · obtain ⟨x, A, t, b, g, cv, k, rfl, hg, hlo, hk, hc, q⟩ := h
    obtain ⟨dx, hx⟩ := hg.at_
    obtain ⟨vs, hel, hed⟩ := hg.ls.el
    have lv := dpall_len hed
    refine ⟨_, PSs.nox (pss_cons (ps_set (i := 2) sc_Copies_book.nd rfl (Or.inl rfl) (pe_callB call_len_seq (by rfl) T.z_len PySem.boot_len (pa_cons (pe_fld (pv 0) rfl) pa_nil))) (pss_cons (ps_if (pt_cmpR op_notN (pv 1) pe_non (nomark _)) (pss_cons (ps_expr (pe_meth (pv 0) T.cl T.m_Copies_refuse_no_copy (ok_Copies_refuse_no_copy T) (hr.mono (by decide)) T.b_Copies_refuse_no_copy .nil pass0 (pa_cons (pv 1) pa_nil))) (pss_one (ps_set (i := 2) sc_Copies_book.nd rfl (Or.inl rfl) (pe_ix ix_list (pe_fld (pv 0) rfl) (pv 1) (fun _ _ => rfl))))) pss_nil) (pss_cons (ps_set (i := 3) sc_Copies_book.nd rfl (Or.inl rfl) (pe_slice sl_list (pe_fld (pv 0) rfl) po_none (po_some (pv 2)))) (pss_one (ps_ret (pe_ifExp (pt_truth (pe_fld (pv 0) rfl) (by intro _; rfl)) pe_never (pv 3))))))), ?_⟩
    have fin : ∀ (m : Int), m = (k : Int) → ∀ p, H p = none → Q (.ref p) (upd H p (.lst (cutV vs none (some m)))) := fun m em p np => by
      rw [em, cut_take vs (by omega) (by omega)]
      exact q p _ _ np (same_new (Same.refl H) np) upd_same (dpall_take k (dpall_same hed (same_new (Same.refl H) np)))
    refine ⟨_, rfl, x, _, dx, _, _, rfl, hx, T.cl, T.n_entries, gf_entries _ _, A.el, vs, rfl, .inl (SqL.of hel), ?_⟩
    rcases hc with ⟨rfl, ek⟩ | ⟨i, s, rfl, hs, eh⟩
    · refine ⟨_, rfl, rfl, _, rfl, iteNDF rfl ?_⟩
      refine ⟨_, rfl, x, _, dx, _, _, rfl, hx, T.cl, T.n_entries, gf_entries _ _, _, rfl, (vs.length : Int), rfl, A.el, vs, rfl, SqL.of hel, fun p np => ?_⟩
      refine ⟨_, rfl, x, _, dx, _, _, rfl, (by rw [upd_ne (ne_of_none hx np)]; exact hx), T.cl, T.n_loose, gf_loose _ _, false, (by rw [hlo] <;> rfl), iteF ⟨_, rfl, fin _ (by omega) p np⟩⟩
    · have hi := (List.getElem?_eq_some_iff.mp hs).1
      refine ⟨_, rfl, rfl, _, rfl, iteND (by intro y; cases y) ?_⟩
      refine ⟨_, rfl, x, dx, _, rfl, hx, gf_no _ _ (by decide +kernel) (by decide +kernel) (by decide +kernel) (by decide +kernel) (by decide +kernel) (by decide +kernel) (by decide +kernel) (by decide +kernel) (by decide +kernel) (by decide +kernel) (by decide +kernel) (by decide +kernel) (by decide +kernel) (by decide +kernel) (by decide +kernel), _, rfl, x, A, t, b, g, i, rfl, hg, hi, ?_⟩
      refine ⟨_, rfl, x, _, dx, _, _, rfl, hx, T.cl, T.n_has, gf_has _ _, _, rfl, A.has, _, (i : Int), _, rfl, rfl, SqL.of hg.ls.has, atI_map _ hs, ?_⟩
      refine ⟨_, rfl, x, _, dx, _, _, rfl, hx, T.cl, T.n_entries, gf_entries _ _, _, rfl, s.has, rfl, A.el, vs, rfl, SqL.of hel, fun p np => ?_⟩
      refine ⟨_, rfl, x, _, dx, _, _, rfl, (by rw [upd_ne (ne_of_none hx np)]; exact hx), T.cl, T.n_loose, gf_loose _ _, false, (by rw [hlo] <;> rfl), iteF ⟨_, rfl, fin _ eh p np⟩⟩

theorem ok_Copies___init__ {P : Program} {w : World} {K : PySem.W.Frag} {mg : Str → Option Value} {base : Heap} {a : Nat → Addr} {d : Nat → FuncData} (T : Txt K mg a d) : FnOk P w K mg base CX0 5 (a 22) (d 22) ["self", "many", "drift", "lease"] (spInitC K (a 42)) := by
  refine T.F_Copies___init__.ok (CX := CX0) sc_Copies___init__ (fun vs H Q E h => ?_) (fun cdv A outer s0 H vs Q E hr h => ?_)
  · obtain ⟨x, dx, n, dr, le, t, b, rfl, hx, hn1, hn5, hl1, hl2, hd, q⟩ := h
    rfl
  · obtain ⟨x, dx, n, dr, le, t, b, rfl, hx, hn1, hn5, hl1, hl2, hd, q⟩ := h
    refine ⟨_, PSs.nox (pss_cons (ps_if (pt_not (pt_truth (pe_call (ok_is_from_to T) (hr.mono (by decide)) (by rfl) T.g_is_from_to T.F_is_from_to.kp T.b_is_from_to .nil pass0 (pa_cons (pv 1) (pa_cons pe_int (pa_cons (pe_glob (v := .int (5)) (by rfl) (Exists.choose_spec T.g_MOST_COPIES) ⟨_, rfl⟩) pa_nil)))) (by intro _; rfl))) (pss_one ps_never) pss_nil) (pss_cons (ps_if (pt_not (pt_truth (pe_call (ok_is_from_to T) (hr.mono (by decide)) (by rfl) T.g_is_from_to T.F_is_from_to.kp T.b_is_from_to .nil pass0 (pa_cons (pv 3) (pa_cons pe_int (pa_cons (pe_glob (v := .int (1000)) (by rfl) (Exists.choose_spec T.g_LONGEST_LEASE) ⟨_, rfl⟩) pa_nil)))) (by intro _; rfl))) (pss_one ps_never) pss_nil) (pss_cons (ps_if (pt_not (pt_truth (pe_call (ok_is_drift T) (hr.mono (by decide)) (by rfl) T.g_is_drift T.F_is_drift.kp T.b_is_drift .nil pass0 (pa_cons (pv 2) pa_nil)) (by intro _; rfl))) (pss_one ps_never) pss_nil) (pss_cons (ps_fld (pv 0) (pv 2) rfl) (pss_cons (ps_fld (pv 0) (pv 3) rfl) (pss_cons (ps_fld (pv 0) (pe_op op_rep (pe_lst (pa_cons pe_bl pa_nil)) (pv 1)) rfl) (pss_cons (ps_fld (pv 0) (pe_op op_rep (pe_lst (pa_cons pe_int pa_nil)) (pv 1)) rfl) (pss_cons (ps_fld (pv 0) (pe_op op_rep (pe_lst (pa_cons pe_non pa_nil)) (pv 1)) rfl) (pss_cons (ps_fld (pv 0) (pe_op op_rep (pe_lst (pa_cons pe_int pa_nil)) (pv 1)) rfl) (pss_cons (ps_fld (pv 0) (pe_op op_rep (pe_lst (pa_cons pe_non pa_nil)) (pv 1)) rfl) (pss_cons (ps_fld (pv 0) (pe_op op_rep (pe_lst (pa_cons pe_non pa_nil)) (pv 1)) rfl) (pss_cons (ps_fld (pv 0) (pe_op op_rep (pe_lst (pa_cons pe_int pa_nil)) (pv 1)) rfl) (pss_cons (ps_fld (pv 0) (pe_op op_rep (pe_lst (pa_cons pe_non pa_nil)) (pv 1)) rfl) (pss_cons (ps_fld (pv 0) (pe_lst pa_nil) rfl) (pss_cons (ps_fld (pv 0) pe_bl rfl) (pss_cons (ps_fld (pv 0) pe_bl rfl) (pss_cons (ps_fld (pv 0) pe_int rfl) (pss_one (ps_fld (pv 0) pe_non rfl))))))))))))))))))), ?_⟩
    refine ⟨_, rfl, (n : Int), 1, 5, rfl, by omega, by omega, true, rfl, iteF ?_⟩
    refine ⟨_, rfl, le, 1, 1000, rfl, by omega, by omega, true, rfl, iteF ?_⟩
    refine ⟨_, rfl, dr, t, b, rfl, hd, fun H0 s0 => ⟨true, rfl, iteF ?_⟩⟩
    have f0 : Fr x H H0 := fr_same s0
    have hx0 : H0 x = some (.ins (a 42) dx []) := s0 _ _ hx
    refine ⟨_, rfl, _, rfl, x, _, dx, _, rfl, hx0, T.cl, T.n_most_drift, Nat.lt_of_le_of_lt (few0) (by decide), ?_⟩
    have f1 : Fr x H (upd H0 x (.ins (a 42) dx (putF "most_drift" (.ref dr) ([])))) := f0.put
    have hx1 : (upd H0 x (.ins (a 42) dx (putF "most_drift" (.ref dr) ([])))) x = some (.ins (a 42) dx (putF "most_drift" (.ref dr) ([]))) := upd_same
    generalize (upd H0 x (.ins (a 42) dx (putF "most_drift" (.ref dr) ([])))) = H1 at f1 hx1 ⊢
    refine ⟨_, rfl, _, rfl, x, _, dx, _, rfl, hx1, T.cl, T.n_lease, Nat.lt_of_le_of_lt (few_up (few0) _ _) (by decide), ?_⟩
    have f2 : Fr x H (upd H1 x (.ins (a 42) dx (putF "lease" (.int le) (putF "most_drift" (.ref dr) ([]))))) := f1.put
    have hx2 : (upd H1 x (.ins (a 42) dx (putF "lease" (.int le) (putF "most_drift" (.ref dr) ([]))))) x = some (.ins (a 42) dx (putF "lease" (.int le) (putF "most_drift" (.ref dr) ([])))) := upd_same
    generalize (upd H1 x (.ins (a 42) dx (putF "lease" (.int le) (putF "most_drift" (.ref dr) ([]))))) = H2 at f2 hx2 ⊢
    refine ⟨len1, fun tups n_tups => ?_⟩
    have f3 : Fr x H (upd H2 tups (.lst ([.bl true]))) := f2.new n_tups
    have hx3 : (upd H2 tups (.lst ([.bl true]))) x = some (.ins (a 42) dx (putF "lease" (.int le) (putF "most_drift" (.ref dr) ([])))) := by rw [upd_ne (ne_of_none hx2 n_tups)]; exact hx2
    have htups_3 : (upd H2 tups (.lst ([.bl true]))) tups = some (.lst ([.bl true])) := upd_same
    have x_tups : tups ≠ x := (ne_of_none hx2 n_tups).symm
    generalize (upd H2 tups (.lst ([.bl true]))) = H3 at f3 hx3 htups_3 ⊢
    refine ⟨_, rfl, tups, (n : Int), _, rfl, rfl, htups_3, by omega, by omega, Nat.le_trans (show _ ≤ 5 by simpa using hn5) (by decide), fun pups n_pups => ?_⟩
    rw [show (n : Int).toNat = n from Int.toNat_natCast n, rep_flat]
    have fr_pups : H pups = none := fr_free f3 hx3 n_pups
    have f4 : Fr x H (upd H3 pups (.lst (List.replicate n (.bl true)))) := f3.new n_pups
    have hx4 : (upd H3 pups (.lst (List.replicate n (.bl true)))) x = some (.ins (a 42) dx (putF "lease" (.int le) (putF "most_drift" (.ref dr) ([])))) := by rw [upd_ne (ne_of_none hx3 n_pups)]; exact hx3
    have hpups_4 : (upd H3 pups (.lst (List.replicate n (.bl true)))) pups = some (.lst (List.replicate n (.bl true))) := upd_same
    have x_pups : pups ≠ x := (ne_of_none hx3 n_pups).symm
    generalize (upd H3 pups (.lst (List.replicate n (.bl true)))) = H4 at f4 hx4 hpups_4 ⊢
    refine ⟨_, rfl, x, _, dx, _, rfl, hx4, T.cl, T.n_ups, Nat.lt_of_le_of_lt (few_up (few_up (few0) _ _) _ _) (by decide), ?_⟩
    have f5 : Fr x H (upd H4 x (.ins (a 42) dx (putF "ups" (.ref pups) (putF "lease" (.int le) (putF "most_drift" (.ref dr) ([])))))) := f4.put
    have hx5 : (upd H4 x (.ins (a 42) dx (putF "ups" (.ref pups) (putF "lease" (.int le) (putF "most_drift" (.ref dr) ([])))))) x = some (.ins (a 42) dx (putF "ups" (.ref pups) (putF "lease" (.int le) (putF "most_drift" (.ref dr) ([]))))) := upd_same
    have hpups_5 : (upd H4 x (.ins (a 42) dx (putF "ups" (.ref pups) (putF "lease" (.int le) (putF "most_drift" (.ref dr) ([])))))) pups = some (.lst (List.replicate n (.bl true))) := by rw [upd_ne x_pups]; exact hpups_4
    generalize (upd H4 x (.ins (a 42) dx (putF "ups" (.ref pups) (putF "lease" (.int le) (putF "most_drift" (.ref dr) ([])))))) = H5 at f5 hx5 hpups_5 ⊢
    refine ⟨len1, fun thas n_thas => ?_⟩
    have f6 : Fr x H (upd H5 thas (.lst ([.int 0]))) := f5.new n_thas
    have hx6 : (upd H5 thas (.lst ([.int 0]))) x = some (.ins (a 42) dx (putF "ups" (.ref pups) (putF "lease" (.int le) (putF "most_drift" (.ref dr) ([]))))) := by rw [upd_ne (ne_of_none hx5 n_thas)]; exact hx5
    have hthas_6 : (upd H5 thas (.lst ([.int 0]))) thas = some (.lst ([.int 0])) := upd_same
    have x_thas : thas ≠ x := (ne_of_none hx5 n_thas).symm
    have hpups_6 : (upd H5 thas (.lst ([.int 0]))) pups = some (.lst (List.replicate n (.bl true))) := by rw [upd_ne (ne_of_none hpups_5 n_thas)]; exact hpups_5
    generalize (upd H5 thas (.lst ([.int 0]))) = H6 at f6 hx6 hthas_6 hpups_6 ⊢
    refine ⟨_, rfl, thas, (n : Int), _, rfl, rfl, hthas_6, by omega, by omega, Nat.le_trans (show _ ≤ 5 by simpa using hn5) (by decide), fun phas n_phas => ?_⟩
    rw [show (n : Int).toNat = n from Int.toNat_natCast n, rep_flat]
    have fr_phas : H phas = none := fr_free f6 hx6 n_phas
    have f7 : Fr x H (upd H6 phas (.lst (List.replicate n (.int 0)))) := f6.new n_phas
    have hx7 : (upd H6 phas (.lst (List.replicate n (.int 0)))) x = some (.ins (a 42) dx (putF "ups" (.ref pups) (putF "lease" (.int le) (putF "most_drift" (.ref dr) ([]))))) := by rw [upd_ne (ne_of_none hx6 n_phas)]; exact hx6
    have hphas_7 : (upd H6 phas (.lst (List.replicate n (.int 0)))) phas = some (.lst (List.replicate n (.int 0))) := upd_same
    have x_phas : phas ≠ x := (ne_of_none hx6 n_phas).symm
    have hpups_7 : (upd H6 phas (.lst (List.replicate n (.int 0)))) pups = some (.lst (List.replicate n (.bl true))) := by rw [upd_ne (ne_of_none hpups_6 n_phas)]; exact hpups_6
    generalize (upd H6 phas (.lst (List.replicate n (.int 0)))) = H7 at f7 hx7 hphas_7 hpups_7 ⊢
    refine ⟨_, rfl, x, _, dx, _, rfl, hx7, T.cl, T.n_has, Nat.lt_of_le_of_lt (few_up (few_up (few_up (few0) _ _) _ _) _ _) (by decide), ?_⟩
    have f8 : Fr x H (upd H7 x (.ins (a 42) dx (putF "has" (.ref phas) (putF "ups" (.ref pups) (putF "lease" (.int le) (putF "most_drift" (.ref dr) ([]))))))) := f7.put
    have hx8 : (upd H7 x (.ins (a 42) dx (putF "has" (.ref phas) (putF "ups" (.ref pups) (putF "lease" (.int le) (putF "most_drift" (.ref dr) ([]))))))) x = some (.ins (a 42) dx (putF "has" (.ref phas) (putF "ups" (.ref pups) (putF "lease" (.int le) (putF "most_drift" (.ref dr) ([])))))) := upd_same
    have hpups_8 : (upd H7 x (.ins (a 42) dx (putF "has" (.ref phas) (putF "ups" (.ref pups) (putF "lease" (.int le) (putF "most_drift" (.ref dr) ([]))))))) pups = some (.lst (List.replicate n (.bl true))) := by rw [upd_ne x_pups]; exact hpups_7
    have hphas_8 : (upd H7 x (.ins (a 42) dx (putF "has" (.ref phas) (putF "ups" (.ref pups) (putF "lease" (.int le) (putF "most_drift" (.ref dr) ([]))))))) phas = some (.lst (List.replicate n (.int 0))) := by rw [upd_ne x_phas]; exact hphas_7
    generalize (upd H7 x (.ins (a 42) dx (putF "has" (.ref phas) (putF "ups" (.ref pups) (putF "lease" (.int le) (putF "most_drift" (.ref dr) ([]))))))) = H8 at f8 hx8 hpups_8 hphas_8 ⊢
    refine ⟨len1, fun tsts n_tsts => ?_⟩
    have f9 : Fr x H (upd H8 tsts (.lst ([.non]))) := f8.new n_tsts
    have hx9 : (upd H8 tsts (.lst ([.non]))) x = some (.ins (a 42) dx (putF "has" (.ref phas) (putF "ups" (.ref pups) (putF "lease" (.int le) (putF "most_drift" (.ref dr) ([])))))) := by rw [upd_ne (ne_of_none hx8 n_tsts)]; exact hx8
    have htsts_9 : (upd H8 tsts (.lst ([.non]))) tsts = some (.lst ([.non])) := upd_same
    have x_tsts : tsts ≠ x := (ne_of_none hx8 n_tsts).symm
    have hpups_9 : (upd H8 tsts (.lst ([.non]))) pups = some (.lst (List.replicate n (.bl true))) := by rw [upd_ne (ne_of_none hpups_8 n_tsts)]; exact hpups_8
    have hphas_9 : (upd H8 tsts (.lst ([.non]))) phas = some (.lst (List.replicate n (.int 0))) := by rw [upd_ne (ne_of_none hphas_8 n_tsts)]; exact hphas_8
    generalize (upd H8 tsts (.lst ([.non]))) = H9 at f9 hx9 htsts_9 hpups_9 hphas_9 ⊢
    refine ⟨_, rfl, tsts, (n : Int), _, rfl, rfl, htsts_9, by omega, by omega, Nat.le_trans (show _ ≤ 5 by simpa using hn5) (by decide), fun psts n_psts => ?_⟩
    rw [show (n : Int).toNat = n from Int.toNat_natCast n, rep_flat]
    have fr_psts : H psts = none := fr_free f9 hx9 n_psts
    have f10 : Fr x H (upd H9 psts (.lst (List.replicate n (.non)))) := f9.new n_psts
    have hx10 : (upd H9 psts (.lst (List.replicate n (.non)))) x = some (.ins (a 42) dx (putF "has" (.ref phas) (putF "ups" (.ref pups) (putF "lease" (.int le) (putF "most_drift" (.ref dr) ([])))))) := by rw [upd_ne (ne_of_none hx9 n_psts)]; exact hx9
    have hpsts_10 : (upd H9 psts (.lst (List.replicate n (.non)))) psts = some (.lst (List.replicate n (.non))) := upd_same
    have x_psts : psts ≠ x := (ne_of_none hx9 n_psts).symm
    have hpups_10 : (upd H9 psts (.lst (List.replicate n (.non)))) pups = some (.lst (List.replicate n (.bl true))) := by rw [upd_ne (ne_of_none hpups_9 n_psts)]; exact hpups_9
    have hphas_10 : (upd H9 psts (.lst (List.replicate n (.non)))) phas = some (.lst (List.replicate n (.int 0))) := by rw [upd_ne (ne_of_none hphas_9 n_psts)]; exact hphas_9
    generalize (upd H9 psts (.lst (List.replicate n (.non)))) = H10 at f10 hx10 hpsts_10 hpups_10 hphas_10 ⊢
    refine ⟨_, rfl, x, _, dx, _, rfl, hx10, T.cl, T.n_stands, Nat.lt_of_le_of_lt (few_up (few_up (few_up (few_up (few0) _ _) _ _) _ _) _ _) (by decide), ?_⟩
    have f11 : Fr x H (upd H10 x (.ins (a 42) dx (putF "stands" (.ref psts) (putF "has" (.ref phas) (putF "ups" (.ref pups) (putF "lease" (.int le) (putF "most_drift" (.ref dr) ([])))))))) := f10.put
    have hx11 : (upd H10 x (.ins (a 42) dx (putF "stands" (.ref psts) (putF "has" (.ref phas) (putF "ups" (.ref pups) (putF "lease" (.int le) (putF "most_drift" (.ref dr) ([])))))))) x = some (.ins (a 42) dx (putF "stands" (.ref psts) (putF "has" (.ref phas) (putF "ups" (.ref pups) (putF "lease" (.int le) (putF "most_drift" (.ref dr) ([]))))))) := upd_same
    have hpups_11 : (upd H10 x (.ins (a 42) dx (putF "stands" (.ref psts) (putF "has" (.ref phas) (putF "ups" (.ref pups) (putF "lease" (.int le) (putF "most_drift" (.ref dr) ([])))))))) pups = some (.lst (List.replicate n (.bl true))) := by rw [upd_ne x_pups]; exact hpups_10
    have hphas_11 : (upd H10 x (.ins (a 42) dx (putF "stands" (.ref psts) (putF "has" (.ref phas) (putF "ups" (.ref pups) (putF "lease" (.int le) (putF "most_drift" (.ref dr) ([])))))))) phas = some (.lst (List.replicate n (.int 0))) := by rw [upd_ne x_phas]; exact hphas_10
    have hpsts_11 : (upd H10 x (.ins (a 42) dx (putF "stands" (.ref psts) (putF "has" (.ref phas) (putF "ups" (.ref pups) (putF "lease" (.int le) (putF "most_drift" (.ref dr) ([])))))))) psts = some (.lst (List.replicate n (.non))) := by rw [upd_ne x_psts]; exact hpsts_10
    generalize (upd H10 x (.ins (a 42) dx (putF "stands" (.ref psts) (putF "has" (.ref phas) (putF "ups" (.ref pups) (putF "lease" (.int le) (putF "most_drift" (.ref dr) ([])))))))) = H11 at f11 hx11 hpups_11 hphas_11 hpsts_11 ⊢
    refine ⟨len1, fun tcts n_tcts => ?_⟩
    have f12 : Fr x H (upd H11 tcts (.lst ([.int 0]))) := f11.new n_tcts
    have hx12 : (upd H11 tcts (.lst ([.int 0]))) x = some (.ins (a 42) dx (putF "stands" (.ref psts) (putF "has" (.ref phas) (putF "ups" (.ref pups) (putF "lease" (.int le) (putF "most_drift" (.ref dr) ([]))))))) := by rw [upd_ne (ne_of_none hx11 n_tcts)]; exact hx11
    have htcts_12 : (upd H11 tcts (.lst ([.int 0]))) tcts = some (.lst ([.int 0])) := upd_same
    have x_tcts : tcts ≠ x := (ne_of_none hx11 n_tcts).symm
    have hpups_12 : (upd H11 tcts (.lst ([.int 0]))) pups = some (.lst (List.replicate n (.bl true))) := by rw [upd_ne (ne_of_none hpups_11 n_tcts)]; exact hpups_11
    have hphas_12 : (upd H11 tcts (.lst ([.int 0]))) phas = some (.lst (List.replicate n (.int 0))) := by rw [upd_ne (ne_of_none hphas_11 n_tcts)]; exact hphas_11
    have hpsts_12 : (upd H11 tcts (.lst ([.int 0]))) psts = some (.lst (List.replicate n (.non))) := by rw [upd_ne (ne_of_none hpsts_11 n_tcts)]; exact hpsts_11
    generalize (upd H11 tcts (.lst ([.int 0]))) = H12 at f12 hx12 htcts_12 hpups_12 hphas_12 hpsts_12 ⊢
    refine ⟨_, rfl, tcts, (n : Int), _, rfl, rfl, htcts_12, by omega, by omega, Nat.le_trans (show _ ≤ 5 by simpa using hn5) (by decide), fun pcts n_pcts => ?_⟩
    rw [show (n : Int).toNat = n from Int.toNat_natCast n, rep_flat]
    have fr_pcts : H pcts = none := fr_free f12 hx12 n_pcts
    have f13 : Fr x H (upd H12 pcts (.lst (List.replicate n (.int 0)))) := f12.new n_pcts
    have hx13 : (upd H12 pcts (.lst (List.replicate n (.int 0)))) x = some (.ins (a 42) dx (putF "stands" (.ref psts) (putF "has" (.ref phas) (putF "ups" (.ref pups) (putF "lease" (.int le) (putF "most_drift" (.ref dr) ([]))))))) := by rw [upd_ne (ne_of_none hx12 n_pcts)]; exact hx12
    have hpcts_13 : (upd H12 pcts (.lst (List.replicate n (.int 0)))) pcts = some (.lst (List.replicate n (.int 0))) := upd_same
    have x_pcts : pcts ≠ x := (ne_of_none hx12 n_pcts).symm
    have hpups_13 : (upd H12 pcts (.lst (List.replicate n (.int 0)))) pups = some (.lst (List.replicate n (.bl true))) := by rw [upd_ne (ne_of_none hpups_12 n_pcts)]; exact hpups_12
    have hphas_13 : (upd H12 pcts (.lst (List.replicate n (.int 0)))) phas = some (.lst (List.replicate n (.int 0))) := by rw [upd_ne (ne_of_none hphas_12 n_pcts)]; exact hphas_12
    have hpsts_13 : (upd H12 pcts (.lst (List.replicate n (.int 0)))) psts = some (.lst (List.replicate n (.non))) := by rw [upd_ne (ne_of_none hpsts_12 n_pcts)]; exact hpsts_12
    generalize (upd H12 pcts (.lst (List.replicate n (.int 0)))) = H13 at f13 hx13 hpcts_13 hpups_13 hphas_13 hpsts_13 ⊢
    refine ⟨_, rfl, x, _, dx, _, rfl, hx13, T.cl, T.n_counts, Nat.lt_of_le_of_lt (few_up (few_up (few_up (few_up (few_up (few0) _ _) _ _) _ _) _ _) _ _) (by decide), ?_⟩
    have f14 : Fr x H (upd H13 x (.ins (a 42) dx (putF "counts" (.ref pcts) (putF "stands" (.ref psts) (putF "has" (.ref phas) (putF "ups" (.ref pups) (putF "lease" (.int le) (putF "most_drift" (.ref dr) ([]))))))))) := f13.put
    have hx14 : (upd H13 x (.ins (a 42) dx (putF "counts" (.ref pcts) (putF "stands" (.ref psts) (putF "has" (.ref phas) (putF "ups" (.ref pups) (putF "lease" (.int le) (putF "most_drift" (.ref dr) ([]))))))))) x = some (.ins (a 42) dx (putF "counts" (.ref pcts) (putF "stands" (.ref psts) (putF "has" (.ref phas) (putF "ups" (.ref pups) (putF "lease" (.int le) (putF "most_drift" (.ref dr) ([])))))))) := upd_same
    have hpups_14 : (upd H13 x (.ins (a 42) dx (putF "counts" (.ref pcts) (putF "stands" (.ref psts) (putF "has" (.ref phas) (putF "ups" (.ref pups) (putF "lease" (.int le) (putF "most_drift" (.ref dr) ([]))))))))) pups = some (.lst (List.replicate n (.bl true))) := by rw [upd_ne x_pups]; exact hpups_13
    have hphas_14 : (upd H13 x (.ins (a 42) dx (putF "counts" (.ref pcts) (putF "stands" (.ref psts) (putF "has" (.ref phas) (putF "ups" (.ref pups) (putF "lease" (.int le) (putF "most_drift" (.ref dr) ([]))))))))) phas = some (.lst (List.replicate n (.int 0))) := by rw [upd_ne x_phas]; exact hphas_13
    have hpsts_14 : (upd H13 x (.ins (a 42) dx (putF "counts" (.ref pcts) (putF "stands" (.ref psts) (putF "has" (.ref phas) (putF "ups" (.ref pups) (putF "lease" (.int le) (putF "most_drift" (.ref dr) ([]))))))))) psts = some (.lst (List.replicate n (.non))) := by rw [upd_ne x_psts]; exact hpsts_13
    have hpcts_14 : (upd H13 x (.ins (a 42) dx (putF "counts" (.ref pcts) (putF "stands" (.ref psts) (putF "has" (.ref phas) (putF "ups" (.ref pups) (putF "lease" (.int le) (putF "most_drift" (.ref dr) ([]))))))))) pcts = some (.lst (List.replicate n (.int 0))) := by rw [upd_ne x_pcts]; exact hpcts_13
    generalize (upd H13 x (.ins (a 42) dx (putF "counts" (.ref pcts) (putF "stands" (.ref psts) (putF "has" (.ref phas) (putF "ups" (.ref pups) (putF "lease" (.int le) (putF "most_drift" (.ref dr) ([]))))))))) = H14 at f14 hx14 hpups_14 hphas_14 hpsts_14 hpcts_14 ⊢
    refine ⟨len1, fun tsps n_tsps => ?_⟩
    have f15 : Fr x H (upd H14 tsps (.lst ([.non]))) := f14.new n_tsps
    have hx15 : (upd H14 tsps (.lst ([.non]))) x = some (.ins (a 42) dx (putF "counts" (.ref pcts) (putF "stands" (.ref psts) (putF "has" (.ref phas) (putF "ups" (.ref pups) (putF "lease" (.int le) (putF "most_drift" (.ref dr) ([])))))))) := by rw [upd_ne (ne_of_none hx14 n_tsps)]; exact hx14
    have htsps_15 : (upd H14 tsps (.lst ([.non]))) tsps = some (.lst ([.non])) := upd_same
    have x_tsps : tsps ≠ x := (ne_of_none hx14 n_tsps).symm
    have hpups_15 : (upd H14 tsps (.lst ([.non]))) pups = some (.lst (List.replicate n (.bl true))) := by rw [upd_ne (ne_of_none hpups_14 n_tsps)]; exact hpups_14
    have hphas_15 : (upd H14 tsps (.lst ([.non]))) phas = some (.lst (List.replicate n (.int 0))) := by rw [upd_ne (ne_of_none hphas_14 n_tsps)]; exact hphas_14
    have hpsts_15 : (upd H14 tsps (.lst ([.non]))) psts = some (.lst (List.replicate n (.non))) := by rw [upd_ne (ne_of_none hpsts_14 n_tsps)]; exact hpsts_14
    have hpcts_15 : (upd H14 tsps (.lst ([.non]))) pcts = some (.lst (List.replicate n (.int 0))) := by rw [upd_ne (ne_of_none hpcts_14 n_tsps)]; exact hpcts_14
    generalize (upd H14 tsps (.lst ([.non]))) = H15 at f15 hx15 htsps_15 hpups_15 hphas_15 hpsts_15 hpcts_15 ⊢
    refine ⟨_, rfl, tsps, (n : Int), _, rfl, rfl, htsps_15, by omega, by omega, Nat.le_trans (show _ ≤ 5 by simpa using hn5) (by decide), fun psps n_psps => ?_⟩
    rw [show (n : Int).toNat = n from Int.toNat_natCast n, rep_flat]
    have fr_psps : H psps = none := fr_free f15 hx15 n_psps
    have f16 : Fr x H (upd H15 psps (.lst (List.replicate n (.non)))) := f15.new n_psps
    have hx16 : (upd H15 psps (.lst (List.replicate n (.non)))) x = some (.ins (a 42) dx (putF "counts" (.ref pcts) (putF "stands" (.ref psts) (putF "has" (.ref phas) (putF "ups" (.ref pups) (putF "lease" (.int le) (putF "most_drift" (.ref dr) ([])))))))) := by rw [upd_ne (ne_of_none hx15 n_psps)]; exact hx15
    have hpsps_16 : (upd H15 psps (.lst (List.replicate n (.non)))) psps = some (.lst (List.replicate n (.non))) := upd_same
    have x_psps : psps ≠ x := (ne_of_none hx15 n_psps).symm
    have hpups_16 : (upd H15 psps (.lst (List.replicate n (.non)))) pups = some (.lst (List.replicate n (.bl true))) := by rw [upd_ne (ne_of_none hpups_15 n_psps)]; exact hpups_15
    have hphas_16 : (upd H15 psps (.lst (List.replicate n (.non)))) phas = some (.lst (List.replicate n (.int 0))) := by rw [upd_ne (ne_of_none hphas_15 n_psps)]; exact hphas_15
    have hpsts_16 : (upd H15 psps (.lst (List.replicate n (.non)))) psts = some (.lst (List.replicate n (.non))) := by rw [upd_ne (ne_of_none hpsts_15 n_psps)]; exact hpsts_15
    have hpcts_16 : (upd H15 psps (.lst (List.replicate n (.non)))) pcts = some (.lst (List.replicate n (.int 0))) := by rw [upd_ne (ne_of_none hpcts_15 n_psps)]; exact hpcts_15
    generalize (upd H15 psps (.lst (List.replicate n (.non)))) = H16 at f16 hx16 hpsps_16 hpups_16 hphas_16 hpsts_16 hpcts_16 ⊢
    refine ⟨_, rfl, x, _, dx, _, rfl, hx16, T.cl, T.n_spans, Nat.lt_of_le_of_lt (few_up (few_up (few_up (few_up (few_up (few_up (few0) _ _) _ _) _ _) _ _) _ _) _ _) (by decide), ?_⟩
    have f17 : Fr x H (upd H16 x (.ins (a 42) dx (putF "spans" (.ref psps) (putF "counts" (.ref pcts) (putF "stands" (.ref psts) (putF "has" (.ref phas) (putF "ups" (.ref pups) (putF "lease" (.int le) (putF "most_drift" (.ref dr) ([])))))))))) := f16.put
    have hx17 : (upd H16 x (.ins (a 42) dx (putF "spans" (.ref psps) (putF "counts" (.ref pcts) (putF "stands" (.ref psts) (putF "has" (.ref phas) (putF "ups" (.ref pups) (putF "lease" (.int le) (putF "most_drift" (.ref dr) ([])))))))))) x = some (.ins (a 42) dx (putF "spans" (.ref psps) (putF "counts" (.ref pcts) (putF "stands" (.ref psts) (putF "has" (.ref phas) (putF "ups" (.ref pups) (putF "lease" (.int le) (putF "most_drift" (.ref dr) ([]))))))))) := upd_same
    have hpups_17 : (upd H16 x (.ins (a 42) dx (putF "spans" (.ref psps) (putF "counts" (.ref pcts) (putF "stands" (.ref psts) (putF "has" (.ref phas) (putF "ups" (.ref pups) (putF "lease" (.int le) (putF "most_drift" (.ref dr) ([])))))))))) pups = some (.lst (List.replicate n (.bl true))) := by rw [upd_ne x_pups]; exact hpups_16
    have hphas_17 : (upd H16 x (.ins (a 42) dx (putF "spans" (.ref psps) (putF "counts" (.ref pcts) (putF "stands" (.ref psts) (putF "has" (.ref phas) (putF "ups" (.ref pups) (putF "lease" (.int le) (putF "most_drift" (.ref dr) ([])))))))))) phas = some (.lst (List.replicate n (.int 0))) := by rw [upd_ne x_phas]; exact hphas_16
    have hpsts_17 : (upd H16 x (.ins (a 42) dx (putF "spans" (.ref psps) (putF "counts" (.ref pcts) (putF "stands" (.ref psts) (putF "has" (.ref phas) (putF "ups" (.ref pups) (putF "lease" (.int le) (putF "most_drift" (.ref dr) ([])))))))))) psts = some (.lst (List.replicate n (.non))) := by rw [upd_ne x_psts]; exact hpsts_16
    have hpcts_17 : (upd H16 x (.ins (a 42) dx (putF "spans" (.ref psps) (putF "counts" (.ref pcts) (putF "stands" (.ref psts) (putF "has" (.ref phas) (putF "ups" (.ref pups) (putF "lease" (.int le) (putF "most_drift" (.ref dr) ([])))))))))) pcts = some (.lst (List.replicate n (.int 0))) := by rw [upd_ne x_pcts]; exact hpcts_16
    have hpsps_17 : (upd H16 x (.ins (a 42) dx (putF "spans" (.ref psps) (putF "counts" (.ref pcts) (putF "stands" (.ref psts) (putF "has" (.ref phas) (putF "ups" (.ref pups) (putF "lease" (.int le) (putF "most_drift" (.ref dr) ([])))))))))) psps = some (.lst (List.replicate n (.non))) := by rw [upd_ne x_psps]; exact hpsps_16
    generalize (upd H16 x (.ins (a 42) dx (putF "spans" (.ref psps) (putF "counts" (.ref pcts) (putF "stands" (.ref psts) (putF "has" (.ref phas) (putF "ups" (.ref pups) (putF "lease" (.int le) (putF "most_drift" (.ref dr) ([])))))))))) = H17 at f17 hx17 hpups_17 hphas_17 hpsts_17 hpcts_17 hpsps_17 ⊢
    refine ⟨len1, fun tprs n_tprs => ?_⟩
    have f18 : Fr x H (upd H17 tprs (.lst ([.non]))) := f17.new n_tprs
    have hx18 : (upd H17 tprs (.lst ([.non]))) x = some (.ins (a 42) dx (putF "spans" (.ref psps) (putF "counts" (.ref pcts) (putF "stands" (.ref psts) (putF "has" (.ref phas) (putF "ups" (.ref pups) (putF "lease" (.int le) (putF "most_drift" (.ref dr) ([]))))))))) := by rw [upd_ne (ne_of_none hx17 n_tprs)]; exact hx17
    have htprs_18 : (upd H17 tprs (.lst ([.non]))) tprs = some (.lst ([.non])) := upd_same
    have x_tprs : tprs ≠ x := (ne_of_none hx17 n_tprs).symm
    have hpups_18 : (upd H17 tprs (.lst ([.non]))) pups = some (.lst (List.replicate n (.bl true))) := by rw [upd_ne (ne_of_none hpups_17 n_tprs)]; exact hpups_17
    have hphas_18 : (upd H17 tprs (.lst ([.non]))) phas = some (.lst (List.replicate n (.int 0))) := by rw [upd_ne (ne_of_none hphas_17 n_tprs)]; exact hphas_17
    have hpsts_18 : (upd H17 tprs (.lst ([.non]))) psts = some (.lst (List.replicate n (.non))) := by rw [upd_ne (ne_of_none hpsts_17 n_tprs)]; exact hpsts_17
    have hpcts_18 : (upd H17 tprs (.lst ([.non]))) pcts = some (.lst (List.replicate n (.int 0))) := by rw [upd_ne (ne_of_none hpcts_17 n_tprs)]; exact hpcts_17
    have hpsps_18 : (upd H17 tprs (.lst ([.non]))) psps = some (.lst (List.replicate n (.non))) := by rw [upd_ne (ne_of_none hpsps_17 n_tprs)]; exact hpsps_17
    generalize (upd H17 tprs (.lst ([.non]))) = H18 at f18 hx18 htprs_18 hpups_18 hphas_18 hpsts_18 hpcts_18 hpsps_18 ⊢
    refine ⟨_, rfl, tprs, (n : Int), _, rfl, rfl, htprs_18, by omega, by omega, Nat.le_trans (show _ ≤ 5 by simpa using hn5) (by decide), fun pprs n_pprs => ?_⟩
    rw [show (n : Int).toNat = n from Int.toNat_natCast n, rep_flat]
    have fr_pprs : H pprs = none := fr_free f18 hx18 n_pprs
    have f19 : Fr x H (upd H18 pprs (.lst (List.replicate n (.non)))) := f18.new n_pprs
    have hx19 : (upd H18 pprs (.lst (List.replicate n (.non)))) x = some (.ins (a 42) dx (putF "spans" (.ref psps) (putF "counts" (.ref pcts) (putF "stands" (.ref psts) (putF "has" (.ref phas) (putF "ups" (.ref pups) (putF "lease" (.int le) (putF "most_drift" (.ref dr) ([]))))))))) := by rw [upd_ne (ne_of_none hx18 n_pprs)]; exact hx18
    have hpprs_19 : (upd H18 pprs (.lst (List.replicate n (.non)))) pprs = some (.lst (List.replicate n (.non))) := upd_same
    have x_pprs : pprs ≠ x := (ne_of_none hx18 n_pprs).symm
    have hpups_19 : (upd H18 pprs (.lst (List.replicate n (.non)))) pups = some (.lst (List.replicate n (.bl true))) := by rw [upd_ne (ne_of_none hpups_18 n_pprs)]; exact hpups_18
    have hphas_19 : (upd H18 pprs (.lst (List.replicate n (.non)))) phas = some (.lst (List.replicate n (.int 0))) := by rw [upd_ne (ne_of_none hphas_18 n_pprs)]; exact hphas_18
    have hpsts_19 : (upd H18 pprs (.lst (List.replicate n (.non)))) psts = some (.lst (List.replicate n (.non))) := by rw [upd_ne (ne_of_none hpsts_18 n_pprs)]; exact hpsts_18
    have hpcts_19 : (upd H18 pprs (.lst (List.replicate n (.non)))) pcts = some (.lst (List.replicate n (.int 0))) := by rw [upd_ne (ne_of_none hpcts_18 n_pprs)]; exact hpcts_18
    have hpsps_19 : (upd H18 pprs (.lst (List.replicate n (.non)))) psps = some (.lst (List.replicate n (.non))) := by rw [upd_ne (ne_of_none hpsps_18 n_pprs)]; exact hpsps_18
    generalize (upd H18 pprs (.lst (List.replicate n (.non)))) = H19 at f19 hx19 hpprs_19 hpups_19 hphas_19 hpsts_19 hpcts_19 hpsps_19 ⊢
    refine ⟨_, rfl, x, _, dx, _, rfl, hx19, T.cl, T.n_promises, Nat.lt_of_le_of_lt (few_up (few_up (few_up (few_up (few_up (few_up (few_up (few0) _ _) _ _) _ _) _ _) _ _) _ _) _ _) (by decide), ?_⟩
    have f20 : Fr x H (upd H19 x (.ins (a 42) dx (putF "promises" (.ref pprs) (putF "spans" (.ref psps) (putF "counts" (.ref pcts) (putF "stands" (.ref psts) (putF "has" (.ref phas) (putF "ups" (.ref pups) (putF "lease" (.int le) (putF "most_drift" (.ref dr) ([]))))))))))) := f19.put
    have hx20 : (upd H19 x (.ins (a 42) dx (putF "promises" (.ref pprs) (putF "spans" (.ref psps) (putF "counts" (.ref pcts) (putF "stands" (.ref psts) (putF "has" (.ref phas) (putF "ups" (.ref pups) (putF "lease" (.int le) (putF "most_drift" (.ref dr) ([]))))))))))) x = some (.ins (a 42) dx (putF "promises" (.ref pprs) (putF "spans" (.ref psps) (putF "counts" (.ref pcts) (putF "stands" (.ref psts) (putF "has" (.ref phas) (putF "ups" (.ref pups) (putF "lease" (.int le) (putF "most_drift" (.ref dr) ([])))))))))) := upd_same
    have hpups_20 : (upd H19 x (.ins (a 42) dx (putF "promises" (.ref pprs) (putF "spans" (.ref psps) (putF "counts" (.ref pcts) (putF "stands" (.ref psts) (putF "has" (.ref phas) (putF "ups" (.ref pups) (putF "lease" (.int le) (putF "most_drift" (.ref dr) ([]))))))))))) pups = some (.lst (List.replicate n (.bl true))) := by rw [upd_ne x_pups]; exact hpups_19
    have hphas_20 : (upd H19 x (.ins (a 42) dx (putF "promises" (.ref pprs) (putF "spans" (.ref psps) (putF "counts" (.ref pcts) (putF "stands" (.ref psts) (putF "has" (.ref phas) (putF "ups" (.ref pups) (putF "lease" (.int le) (putF "most_drift" (.ref dr) ([]))))))))))) phas = some (.lst (List.replicate n (.int 0))) := by rw [upd_ne x_phas]; exact hphas_19
    have hpsts_20 : (upd H19 x (.ins (a 42) dx (putF "promises" (.ref pprs) (putF "spans" (.ref psps) (putF "counts" (.ref pcts) (putF "stands" (.ref psts) (putF "has" (.ref phas) (putF "ups" (.ref pups) (putF "lease" (.int le) (putF "most_drift" (.ref dr) ([]))))))))))) psts = some (.lst (List.replicate n (.non))) := by rw [upd_ne x_psts]; exact hpsts_19
    have hpcts_20 : (upd H19 x (.ins (a 42) dx (putF "promises" (.ref pprs) (putF "spans" (.ref psps) (putF "counts" (.ref pcts) (putF "stands" (.ref psts) (putF "has" (.ref phas) (putF "ups" (.ref pups) (putF "lease" (.int le) (putF "most_drift" (.ref dr) ([]))))))))))) pcts = some (.lst (List.replicate n (.int 0))) := by rw [upd_ne x_pcts]; exact hpcts_19
    have hpsps_20 : (upd H19 x (.ins (a 42) dx (putF "promises" (.ref pprs) (putF "spans" (.ref psps) (putF "counts" (.ref pcts) (putF "stands" (.ref psts) (putF "has" (.ref phas) (putF "ups" (.ref pups) (putF "lease" (.int le) (putF "most_drift" (.ref dr) ([]))))))))))) psps = some (.lst (List.replicate n (.non))) := by rw [upd_ne x_psps]; exact hpsps_19
    have hpprs_20 : (upd H19 x (.ins (a 42) dx (putF "promises" (.ref pprs) (putF "spans" (.ref psps) (putF "counts" (.ref pcts) (putF "stands" (.ref psts) (putF "has" (.ref phas) (putF "ups" (.ref pups) (putF "lease" (.int le) (putF "most_drift" (.ref dr) ([]))))))))))) pprs = some (.lst (List.replicate n (.non))) := by rw [upd_ne x_pprs]; exact hpprs_19
    generalize (upd H19 x (.ins (a 42) dx (putF "promises" (.ref pprs) (putF "spans" (.ref psps) (putF "counts" (.ref pcts) (putF "stands" (.ref psts) (putF "has" (.ref phas) (putF "ups" (.ref pups) (putF "lease" (.int le) (putF "most_drift" (.ref dr) ([]))))))))))) = H20 at f20 hx20 hpups_20 hphas_20 hpsts_20 hpcts_20 hpsps_20 hpprs_20 ⊢
    refine ⟨len1, fun tpins n_tpins => ?_⟩
    have f21 : Fr x H (upd H20 tpins (.lst ([.int 0]))) := f20.new n_tpins
    have hx21 : (upd H20 tpins (.lst ([.int 0]))) x = some (.ins (a 42) dx (putF "promises" (.ref pprs) (putF "spans" (.ref psps) (putF "counts" (.ref pcts) (putF "stands" (.ref psts) (putF "has" (.ref phas) (putF "ups" (.ref pups) (putF "lease" (.int le) (putF "most_drift" (.ref dr) ([])))))))))) := by rw [upd_ne (ne_of_none hx20 n_tpins)]; exact hx20
    have htpins_21 : (upd H20 tpins (.lst ([.int 0]))) tpins = some (.lst ([.int 0])) := upd_same
    have x_tpins : tpins ≠ x := (ne_of_none hx20 n_tpins).symm
    have hpups_21 : (upd H20 tpins (.lst ([.int 0]))) pups = some (.lst (List.replicate n (.bl true))) := by rw [upd_ne (ne_of_none hpups_20 n_tpins)]; exact hpups_20
    have hphas_21 : (upd H20 tpins (.lst ([.int 0]))) phas = some (.lst (List.replicate n (.int 0))) := by rw [upd_ne (ne_of_none hphas_20 n_tpins)]; exact hphas_20
    have hpsts_21 : (upd H20 tpins (.lst ([.int 0]))) psts = some (.lst (List.replicate n (.non))) := by rw [upd_ne (ne_of_none hpsts_20 n_tpins)]; exact hpsts_20
    have hpcts_21 : (upd H20 tpins (.lst ([.int 0]))) pcts = some (.lst (List.replicate n (.int 0))) := by rw [upd_ne (ne_of_none hpcts_20 n_tpins)]; exact hpcts_20
    have hpsps_21 : (upd H20 tpins (.lst ([.int 0]))) psps = some (.lst (List.replicate n (.non))) := by rw [upd_ne (ne_of_none hpsps_20 n_tpins)]; exact hpsps_20
    have hpprs_21 : (upd H20 tpins (.lst ([.int 0]))) pprs = some (.lst (List.replicate n (.non))) := by rw [upd_ne (ne_of_none hpprs_20 n_tpins)]; exact hpprs_20
    generalize (upd H20 tpins (.lst ([.int 0]))) = H21 at f21 hx21 htpins_21 hpups_21 hphas_21 hpsts_21 hpcts_21 hpsps_21 hpprs_21 ⊢
    refine ⟨_, rfl, tpins, (n : Int), _, rfl, rfl, htpins_21, by omega, by omega, Nat.le_trans (show _ ≤ 5 by simpa using hn5) (by decide), fun ppins n_ppins => ?_⟩
    rw [show (n : Int).toNat = n from Int.toNat_natCast n, rep_flat]
    have fr_ppins : H ppins = none := fr_free f21 hx21 n_ppins
    have f22 : Fr x H (upd H21 ppins (.lst (List.replicate n (.int 0)))) := f21.new n_ppins
    have hx22 : (upd H21 ppins (.lst (List.replicate n (.int 0)))) x = some (.ins (a 42) dx (putF "promises" (.ref pprs) (putF "spans" (.ref psps) (putF "counts" (.ref pcts) (putF "stands" (.ref psts) (putF "has" (.ref phas) (putF "ups" (.ref pups) (putF "lease" (.int le) (putF "most_drift" (.ref dr) ([])))))))))) := by rw [upd_ne (ne_of_none hx21 n_ppins)]; exact hx21
    have hppins_22 : (upd H21 ppins (.lst (List.replicate n (.int 0)))) ppins = some (.lst (List.replicate n (.int 0))) := upd_same
    have x_ppins : ppins ≠ x := (ne_of_none hx21 n_ppins).symm
    have hpups_22 : (upd H21 ppins (.lst (List.replicate n (.int 0)))) pups = some (.lst (List.replicate n (.bl true))) := by rw [upd_ne (ne_of_none hpups_21 n_ppins)]; exact hpups_21
    have hphas_22 : (upd H21 ppins (.lst (List.replicate n (.int 0)))) phas = some (.lst (List.replicate n (.int 0))) := by rw [upd_ne (ne_of_none hphas_21 n_ppins)]; exact hphas_21
    have hpsts_22 : (upd H21 ppins (.lst (List.replicate n (.int 0)))) psts = some (.lst (List.replicate n (.non))) := by rw [upd_ne (ne_of_none hpsts_21 n_ppins)]; exact hpsts_21
    have hpcts_22 : (upd H21 ppins (.lst (List.replicate n (.int 0)))) pcts = some (.lst (List.replicate n (.int 0))) := by rw [upd_ne (ne_of_none hpcts_21 n_ppins)]; exact hpcts_21
    have hpsps_22 : (upd H21 ppins (.lst (List.replicate n (.int 0)))) psps = some (.lst (List.replicate n (.non))) := by rw [upd_ne (ne_of_none hpsps_21 n_ppins)]; exact hpsps_21
    have hpprs_22 : (upd H21 ppins (.lst (List.replicate n (.int 0)))) pprs = some (.lst (List.replicate n (.non))) := by rw [upd_ne (ne_of_none hpprs_21 n_ppins)]; exact hpprs_21
    generalize (upd H21 ppins (.lst (List.replicate n (.int 0)))) = H22 at f22 hx22 hppins_22 hpups_22 hphas_22 hpsts_22 hpcts_22 hpsps_22 hpprs_22 ⊢
    refine ⟨_, rfl, x, _, dx, _, rfl, hx22, T.cl, T.n_promised_in, Nat.lt_of_le_of_lt (few_up (few_up (few_up (few_up (few_up (few_up (few_up (few_up (few0) _ _) _ _) _ _) _ _) _ _) _ _) _ _) _ _) (by decide), ?_⟩
    have f23 : Fr x H (upd H22 x (.ins (a 42) dx (putF "promised_in" (.ref ppins) (putF "promises" (.ref pprs) (putF "spans" (.ref psps) (putF "counts" (.ref pcts) (putF "stands" (.ref psts) (putF "has" (.ref phas) (putF "ups" (.ref pups) (putF "lease" (.int le) (putF "most_drift" (.ref dr) ([])))))))))))) := f22.put
    have hx23 : (upd H22 x (.ins (a 42) dx (putF "promised_in" (.ref ppins) (putF "promises" (.ref pprs) (putF "spans" (.ref psps) (putF "counts" (.ref pcts) (putF "stands" (.ref psts) (putF "has" (.ref phas) (putF "ups" (.ref pups) (putF "lease" (.int le) (putF "most_drift" (.ref dr) ([])))))))))))) x = some (.ins (a 42) dx (putF "promised_in" (.ref ppins) (putF "promises" (.ref pprs) (putF "spans" (.ref psps) (putF "counts" (.ref pcts) (putF "stands" (.ref psts) (putF "has" (.ref phas) (putF "ups" (.ref pups) (putF "lease" (.int le) (putF "most_drift" (.ref dr) ([]))))))))))) := upd_same
    have hpups_23 : (upd H22 x (.ins (a 42) dx (putF "promised_in" (.ref ppins) (putF "promises" (.ref pprs) (putF "spans" (.ref psps) (putF "counts" (.ref pcts) (putF "stands" (.ref psts) (putF "has" (.ref phas) (putF "ups" (.ref pups) (putF "lease" (.int le) (putF "most_drift" (.ref dr) ([])))))))))))) pups = some (.lst (List.replicate n (.bl true))) := by rw [upd_ne x_pups]; exact hpups_22
    have hphas_23 : (upd H22 x (.ins (a 42) dx (putF "promised_in" (.ref ppins) (putF "promises" (.ref pprs) (putF "spans" (.ref psps) (putF "counts" (.ref pcts) (putF "stands" (.ref psts) (putF "has" (.ref phas) (putF "ups" (.ref pups) (putF "lease" (.int le) (putF "most_drift" (.ref dr) ([])))))))))))) phas = some (.lst (List.replicate n (.int 0))) := by rw [upd_ne x_phas]; exact hphas_22
    have hpsts_23 : (upd H22 x (.ins (a 42) dx (putF "promised_in" (.ref ppins) (putF "promises" (.ref pprs) (putF "spans" (.ref psps) (putF "counts" (.ref pcts) (putF "stands" (.ref psts) (putF "has" (.ref phas) (putF "ups" (.ref pups) (putF "lease" (.int le) (putF "most_drift" (.ref dr) ([])))))))))))) psts = some (.lst (List.replicate n (.non))) := by rw [upd_ne x_psts]; exact hpsts_22
    have hpcts_23 : (upd H22 x (.ins (a 42) dx (putF "promised_in" (.ref ppins) (putF "promises" (.ref pprs) (putF "spans" (.ref psps) (putF "counts" (.ref pcts) (putF "stands" (.ref psts) (putF "has" (.ref phas) (putF "ups" (.ref pups) (putF "lease" (.int le) (putF "most_drift" (.ref dr) ([])))))))))))) pcts = some (.lst (List.replicate n (.int 0))) := by rw [upd_ne x_pcts]; exact hpcts_22
    have hpsps_23 : (upd H22 x (.ins (a 42) dx (putF "promised_in" (.ref ppins) (putF "promises" (.ref pprs) (putF "spans" (.ref psps) (putF "counts" (.ref pcts) (putF "stands" (.ref psts) (putF "has" (.ref phas) (putF "ups" (.ref pups) (putF "lease" (.int le) (putF "most_drift" (.ref dr) ([])))))))))))) psps = some (.lst (List.replicate n (.non))) := by rw [upd_ne x_psps]; exact hpsps_22
    have hpprs_23 : (upd H22 x (.ins (a 42) dx (putF "promised_in" (.ref ppins) (putF "promises" (.ref pprs) (putF "spans" (.ref psps) (putF "counts" (.ref pcts) (putF "stands" (.ref psts) (putF "has" (.ref phas) (putF "ups" (.ref pups) (putF "lease" (.int le) (putF "most_drift" (.ref dr) ([])))))))))))) pprs = some (.lst (List.replicate n (.non))) := by rw [upd_ne x_pprs]; exact hpprs_22
    have hppins_23 : (upd H22 x (.ins (a 42) dx (putF "promised_in" (.ref ppins) (putF "promises" (.ref pprs) (putF "spans" (.ref psps) (putF "counts" (.ref pcts) (putF "stands" (.ref psts) (putF "has" (.ref phas) (putF "ups" (.ref pups) (putF "lease" (.int le) (putF "most_drift" (.ref dr) ([])))))))))))) ppins = some (.lst (List.replicate n (.int 0))) := by rw [upd_ne x_ppins]; exact hppins_22
    generalize (upd H22 x (.ins (a 42) dx (putF "promised_in" (.ref ppins) (putF "promises" (.ref pprs) (putF "spans" (.ref psps) (putF "counts" (.ref pcts) (putF "stands" (.ref psts) (putF "has" (.ref phas) (putF "ups" (.ref pups) (putF "lease" (.int le) (putF "most_drift" (.ref dr) ([])))))))))))) = H23 at f23 hx23 hpups_23 hphas_23 hpsts_23 hpcts_23 hpsps_23 hpprs_23 hppins_23 ⊢
    refine ⟨len1, fun trts n_trts => ?_⟩
    have f24 : Fr x H (upd H23 trts (.lst ([.non]))) := f23.new n_trts
    have hx24 : (upd H23 trts (.lst ([.non]))) x = some (.ins (a 42) dx (putF "promised_in" (.ref ppins) (putF "promises" (.ref pprs) (putF "spans" (.ref psps) (putF "counts" (.ref pcts) (putF "stands" (.ref psts) (putF "has" (.ref phas) (putF "ups" (.ref pups) (putF "lease" (.int le) (putF "most_drift" (.ref dr) ([]))))))))))) := by rw [upd_ne (ne_of_none hx23 n_trts)]; exact hx23
    have htrts_24 : (upd H23 trts (.lst ([.non]))) trts = some (.lst ([.non])) := upd_same
    have x_trts : trts ≠ x := (ne_of_none hx23 n_trts).symm
    have hpups_24 : (upd H23 trts (.lst ([.non]))) pups = some (.lst (List.replicate n (.bl true))) := by rw [upd_ne (ne_of_none hpups_23 n_trts)]; exact hpups_23
    have hphas_24 : (upd H23 trts (.lst ([.non]))) phas = some (.lst (List.replicate n (.int 0))) := by rw [upd_ne (ne_of_none hphas_23 n_trts)]; exact hphas_23
    have hpsts_24 : (upd H23 trts (.lst ([.non]))) psts = some (.lst (List.replicate n (.non))) := by rw [upd_ne (ne_of_none hpsts_23 n_trts)]; exact hpsts_23
    have hpcts_24 : (upd H23 trts (.lst ([.non]))) pcts = some (.lst (List.replicate n (.int 0))) := by rw [upd_ne (ne_of_none hpcts_23 n_trts)]; exact hpcts_23
    have hpsps_24 : (upd H23 trts (.lst ([.non]))) psps = some (.lst (List.replicate n (.non))) := by rw [upd_ne (ne_of_none hpsps_23 n_trts)]; exact hpsps_23
    have hpprs_24 : (upd H23 trts (.lst ([.non]))) pprs = some (.lst (List.replicate n (.non))) := by rw [upd_ne (ne_of_none hpprs_23 n_trts)]; exact hpprs_23
    have hppins_24 : (upd H23 trts (.lst ([.non]))) ppins = some (.lst (List.replicate n (.int 0))) := by rw [upd_ne (ne_of_none hppins_23 n_trts)]; exact hppins_23
    generalize (upd H23 trts (.lst ([.non]))) = H24 at f24 hx24 htrts_24 hpups_24 hphas_24 hpsts_24 hpcts_24 hpsps_24 hpprs_24 hppins_24 ⊢
    refine ⟨_, rfl, trts, (n : Int), _, rfl, rfl, htrts_24, by omega, by omega, Nat.le_trans (show _ ≤ 5 by simpa using hn5) (by decide), fun prts n_prts => ?_⟩
    rw [show (n : Int).toNat = n from Int.toNat_natCast n, rep_flat]
    have fr_prts : H prts = none := fr_free f24 hx24 n_prts
    have f25 : Fr x H (upd H24 prts (.lst (List.replicate n (.non)))) := f24.new n_prts
    have hx25 : (upd H24 prts (.lst (List.replicate n (.non)))) x = some (.ins (a 42) dx (putF "promised_in" (.ref ppins) (putF "promises" (.ref pprs) (putF "spans" (.ref psps) (putF "counts" (.ref pcts) (putF "stands" (.ref psts) (putF "has" (.ref phas) (putF "ups" (.ref pups) (putF "lease" (.int le) (putF "most_drift" (.ref dr) ([]))))))))))) := by rw [upd_ne (ne_of_none hx24 n_prts)]; exact hx24
    have hprts_25 : (upd H24 prts (.lst (List.replicate n (.non)))) prts = some (.lst (List.replicate n (.non))) := upd_same
    have x_prts : prts ≠ x := (ne_of_none hx24 n_prts).symm
    have hpups_25 : (upd H24 prts (.lst (List.replicate n (.non)))) pups = some (.lst (List.replicate n (.bl true))) := by rw [upd_ne (ne_of_none hpups_24 n_prts)]; exact hpups_24
    have hphas_25 : (upd H24 prts (.lst (List.replicate n (.non)))) phas = some (.lst (List.replicate n (.int 0))) := by rw [upd_ne (ne_of_none hphas_24 n_prts)]; exact hphas_24
    have hpsts_25 : (upd H24 prts (.lst (List.replicate n (.non)))) psts = some (.lst (List.replicate n (.non))) := by rw [upd_ne (ne_of_none hpsts_24 n_prts)]; exact hpsts_24
    have hpcts_25 : (upd H24 prts (.lst (List.replicate n (.non)))) pcts = some (.lst (List.replicate n (.int 0))) := by rw [upd_ne (ne_of_none hpcts_24 n_prts)]; exact hpcts_24
    have hpsps_25 : (upd H24 prts (.lst (List.replicate n (.non)))) psps = some (.lst (List.replicate n (.non))) := by rw [upd_ne (ne_of_none hpsps_24 n_prts)]; exact hpsps_24
    have hpprs_25 : (upd H24 prts (.lst (List.replicate n (.non)))) pprs = some (.lst (List.replicate n (.non))) := by rw [upd_ne (ne_of_none hpprs_24 n_prts)]; exact hpprs_24
    have hppins_25 : (upd H24 prts (.lst (List.replicate n (.non)))) ppins = some (.lst (List.replicate n (.int 0))) := by rw [upd_ne (ne_of_none hppins_24 n_prts)]; exact hppins_24
    generalize (upd H24 prts (.lst (List.replicate n (.non)))) = H25 at f25 hx25 hprts_25 hpups_25 hphas_25 hpsts_25 hpcts_25 hpsps_25 hpprs_25 hppins_25 ⊢
    refine ⟨_, rfl, x, _, dx, _, rfl, hx25, T.cl, T.n_rules_till, Nat.lt_of_le_of_lt (few_up (few_up (few_up (few_up (few_up (few_up (few_up (few_up (few_up (few0) _ _) _ _) _ _) _ _) _ _) _ _) _ _) _ _) _ _) (by decide), ?_⟩
    have f26 : Fr x H (upd H25 x (.ins (a 42) dx (putF "rules_till" (.ref prts) (putF "promised_in" (.ref ppins) (putF "promises" (.ref pprs) (putF "spans" (.ref psps) (putF "counts" (.ref pcts) (putF "stands" (.ref psts) (putF "has" (.ref phas) (putF "ups" (.ref pups) (putF "lease" (.int le) (putF "most_drift" (.ref dr) ([]))))))))))))) := f25.put
    have hx26 : (upd H25 x (.ins (a 42) dx (putF "rules_till" (.ref prts) (putF "promised_in" (.ref ppins) (putF "promises" (.ref pprs) (putF "spans" (.ref psps) (putF "counts" (.ref pcts) (putF "stands" (.ref psts) (putF "has" (.ref phas) (putF "ups" (.ref pups) (putF "lease" (.int le) (putF "most_drift" (.ref dr) ([]))))))))))))) x = some (.ins (a 42) dx (putF "rules_till" (.ref prts) (putF "promised_in" (.ref ppins) (putF "promises" (.ref pprs) (putF "spans" (.ref psps) (putF "counts" (.ref pcts) (putF "stands" (.ref psts) (putF "has" (.ref phas) (putF "ups" (.ref pups) (putF "lease" (.int le) (putF "most_drift" (.ref dr) ([])))))))))))) := upd_same
    have hpups_26 : (upd H25 x (.ins (a 42) dx (putF "rules_till" (.ref prts) (putF "promised_in" (.ref ppins) (putF "promises" (.ref pprs) (putF "spans" (.ref psps) (putF "counts" (.ref pcts) (putF "stands" (.ref psts) (putF "has" (.ref phas) (putF "ups" (.ref pups) (putF "lease" (.int le) (putF "most_drift" (.ref dr) ([]))))))))))))) pups = some (.lst (List.replicate n (.bl true))) := by rw [upd_ne x_pups]; exact hpups_25
    have hphas_26 : (upd H25 x (.ins (a 42) dx (putF "rules_till" (.ref prts) (putF "promised_in" (.ref ppins) (putF "promises" (.ref pprs) (putF "spans" (.ref psps) (putF "counts" (.ref pcts) (putF "stands" (.ref psts) (putF "has" (.ref phas) (putF "ups" (.ref pups) (putF "lease" (.int le) (putF "most_drift" (.ref dr) ([]))))))))))))) phas = some (.lst (List.replicate n (.int 0))) := by rw [upd_ne x_phas]; exact hphas_25
    have hpsts_26 : (upd H25 x (.ins (a 42) dx (putF "rules_till" (.ref prts) (putF "promised_in" (.ref ppins) (putF "promises" (.ref pprs) (putF "spans" (.ref psps) (putF "counts" (.ref pcts) (putF "stands" (.ref psts) (putF "has" (.ref phas) (putF "ups" (.ref pups) (putF "lease" (.int le) (putF "most_drift" (.ref dr) ([]))))))))))))) psts = some (.lst (List.replicate n (.non))) := by rw [upd_ne x_psts]; exact hpsts_25
    have hpcts_26 : (upd H25 x (.ins (a 42) dx (putF "rules_till" (.ref prts) (putF "promised_in" (.ref ppins) (putF "promises" (.ref pprs) (putF "spans" (.ref psps) (putF "counts" (.ref pcts) (putF "stands" (.ref psts) (putF "has" (.ref phas) (putF "ups" (.ref pups) (putF "lease" (.int le) (putF "most_drift" (.ref dr) ([]))))))))))))) pcts = some (.lst (List.replicate n (.int 0))) := by rw [upd_ne x_pcts]; exact hpcts_25
    have hpsps_26 : (upd H25 x (.ins (a 42) dx (putF "rules_till" (.ref prts) (putF "promised_in" (.ref ppins) (putF "promises" (.ref pprs) (putF "spans" (.ref psps) (putF "counts" (.ref pcts) (putF "stands" (.ref psts) (putF "has" (.ref phas) (putF "ups" (.ref pups) (putF "lease" (.int le) (putF "most_drift" (.ref dr) ([]))))))))))))) psps = some (.lst (List.replicate n (.non))) := by rw [upd_ne x_psps]; exact hpsps_25
    have hpprs_26 : (upd H25 x (.ins (a 42) dx (putF "rules_till" (.ref prts) (putF "promised_in" (.ref ppins) (putF "promises" (.ref pprs) (putF "spans" (.ref psps) (putF "counts" (.ref pcts) (putF "stands" (.ref psts) (putF "has" (.ref phas) (putF "ups" (.ref pups) (putF "lease" (.int le) (putF "most_drift" (.ref dr) ([]))))))))))))) pprs = some (.lst (List.replicate n (.non))) := by rw [upd_ne x_pprs]; exact hpprs_25
    have hppins_26 : (upd H25 x (.ins (a 42) dx (putF "rules_till" (.ref prts) (putF "promised_in" (.ref ppins) (putF "promises" (.ref pprs) (putF "spans" (.ref psps) (putF "counts" (.ref pcts) (putF "stands" (.ref psts) (putF "has" (.ref phas) (putF "ups" (.ref pups) (putF "lease" (.int le) (putF "most_drift" (.ref dr) ([]))))))))))))) ppins = some (.lst (List.replicate n (.int 0))) := by rw [upd_ne x_ppins]; exact hppins_25
    have hprts_26 : (upd H25 x (.ins (a 42) dx (putF "rules_till" (.ref prts) (putF "promised_in" (.ref ppins) (putF "promises" (.ref pprs) (putF "spans" (.ref psps) (putF "counts" (.ref pcts) (putF "stands" (.ref psts) (putF "has" (.ref phas) (putF "ups" (.ref pups) (putF "lease" (.int le) (putF "most_drift" (.ref dr) ([]))))))))))))) prts = some (.lst (List.replicate n (.non))) := by rw [upd_ne x_prts]; exact hprts_25
    generalize (upd H25 x (.ins (a 42) dx (putF "rules_till" (.ref prts) (putF "promised_in" (.ref ppins) (putF "promises" (.ref pprs) (putF "spans" (.ref psps) (putF "counts" (.ref pcts) (putF "stands" (.ref psts) (putF "has" (.ref phas) (putF "ups" (.ref pups) (putF "lease" (.int le) (putF "most_drift" (.ref dr) ([]))))))))))))) = H26 at f26 hx26 hpups_26 hphas_26 hpsts_26 hpcts_26 hpsps_26 hpprs_26 hppins_26 hprts_26 ⊢
    refine ⟨Nat.zero_le _, fun pel n_pel => ?_⟩
    have z_ups : pel ≠ pups := (ne_of_none hpups_26 n_pel).symm
    have z_has : pel ≠ phas := (ne_of_none hphas_26 n_pel).symm
    have z_cts : pel ≠ pcts := (ne_of_none hpcts_26 n_pel).symm
    have z_prs : pel ≠ pprs := (ne_of_none hpprs_26 n_pel).symm
    have z_pins : pel ≠ ppins := (ne_of_none hppins_26 n_pel).symm
    have z_rts : pel ≠ prts := (ne_of_none hprts_26 n_pel).symm
    have z_sts : pel ≠ psts := (ne_of_none hpsts_26 n_pel).symm
    have z_sps : pel ≠ psps := (ne_of_none hpsps_26 n_pel).symm
    have fel : H pel = none := by
      cases e : H pel with
      | none => rfl
      | some o =>
        have y := f26 pel o (ne_of_none hx26 n_pel).symm e
        rw [n_pel] at y
        cases y
    have f27 : Fr x H (upd H26 pel (.lst ([]))) := f26.new n_pel
    have hx27 : (upd H26 pel (.lst ([]))) x = some (.ins (a 42) dx (putF "rules_till" (.ref prts) (putF "promised_in" (.ref ppins) (putF "promises" (.ref pprs) (putF "spans" (.ref psps) (putF "counts" (.ref pcts) (putF "stands" (.ref psts) (putF "has" (.ref phas) (putF "ups" (.ref pups) (putF "lease" (.int le) (putF "most_drift" (.ref dr) ([])))))))))))) := by rw [upd_ne (ne_of_none hx26 n_pel)]; exact hx26
    have hpel_27 : (upd H26 pel (.lst ([]))) pel = some (.lst ([])) := upd_same
    have x_pel : pel ≠ x := (ne_of_none hx26 n_pel).symm
    have hpups_27 : (upd H26 pel (.lst ([]))) pups = some (.lst (List.replicate n (.bl true))) := by rw [upd_ne (ne_of_none hpups_26 n_pel)]; exact hpups_26
    have hphas_27 : (upd H26 pel (.lst ([]))) phas = some (.lst (List.replicate n (.int 0))) := by rw [upd_ne (ne_of_none hphas_26 n_pel)]; exact hphas_26
    have hpsts_27 : (upd H26 pel (.lst ([]))) psts = some (.lst (List.replicate n (.non))) := by rw [upd_ne (ne_of_none hpsts_26 n_pel)]; exact hpsts_26
    have hpcts_27 : (upd H26 pel (.lst ([]))) pcts = some (.lst (List.replicate n (.int 0))) := by rw [upd_ne (ne_of_none hpcts_26 n_pel)]; exact hpcts_26
    have hpsps_27 : (upd H26 pel (.lst ([]))) psps = some (.lst (List.replicate n (.non))) := by rw [upd_ne (ne_of_none hpsps_26 n_pel)]; exact hpsps_26
    have hpprs_27 : (upd H26 pel (.lst ([]))) pprs = some (.lst (List.replicate n (.non))) := by rw [upd_ne (ne_of_none hpprs_26 n_pel)]; exact hpprs_26
    have hppins_27 : (upd H26 pel (.lst ([]))) ppins = some (.lst (List.replicate n (.int 0))) := by rw [upd_ne (ne_of_none hppins_26 n_pel)]; exact hppins_26
    have hprts_27 : (upd H26 pel (.lst ([]))) prts = some (.lst (List.replicate n (.non))) := by rw [upd_ne (ne_of_none hprts_26 n_pel)]; exact hprts_26
    generalize (upd H26 pel (.lst ([]))) = H27 at f27 hx27 hpel_27 hpups_27 hphas_27 hpsts_27 hpcts_27 hpsps_27 hpprs_27 hppins_27 hprts_27 ⊢
    refine ⟨_, rfl, x, _, dx, _, rfl, hx27, T.cl, T.n_entries, Nat.lt_of_le_of_lt (few_up (few_up (few_up (few_up (few_up (few_up (few_up (few_up (few_up (few_up (few0) _ _) _ _) _ _) _ _) _ _) _ _) _ _) _ _) _ _) _ _) (by decide), ?_⟩
    have f28 : Fr x H (upd H27 x (.ins (a 42) dx (putF "entries" (.ref pel) (putF "rules_till" (.ref prts) (putF "promised_in" (.ref ppins) (putF "promises" (.ref pprs) (putF "spans" (.ref psps) (putF "counts" (.ref pcts) (putF "stands" (.ref psts) (putF "has" (.ref phas) (putF "ups" (.ref pups) (putF "lease" (.int le) (putF "most_drift" (.ref dr) ([])))))))))))))) := f27.put
    have hx28 : (upd H27 x (.ins (a 42) dx (putF "entries" (.ref pel) (putF "rules_till" (.ref prts) (putF "promised_in" (.ref ppins) (putF "promises" (.ref pprs) (putF "spans" (.ref psps) (putF "counts" (.ref pcts) (putF "stands" (.ref psts) (putF "has" (.ref phas) (putF "ups" (.ref pups) (putF "lease" (.int le) (putF "most_drift" (.ref dr) ([])))))))))))))) x = some (.ins (a 42) dx (putF "entries" (.ref pel) (putF "rules_till" (.ref prts) (putF "promised_in" (.ref ppins) (putF "promises" (.ref pprs) (putF "spans" (.ref psps) (putF "counts" (.ref pcts) (putF "stands" (.ref psts) (putF "has" (.ref phas) (putF "ups" (.ref pups) (putF "lease" (.int le) (putF "most_drift" (.ref dr) ([]))))))))))))) := upd_same
    have hpups_28 : (upd H27 x (.ins (a 42) dx (putF "entries" (.ref pel) (putF "rules_till" (.ref prts) (putF "promised_in" (.ref ppins) (putF "promises" (.ref pprs) (putF "spans" (.ref psps) (putF "counts" (.ref pcts) (putF "stands" (.ref psts) (putF "has" (.ref phas) (putF "ups" (.ref pups) (putF "lease" (.int le) (putF "most_drift" (.ref dr) ([])))))))))))))) pups = some (.lst (List.replicate n (.bl true))) := by rw [upd_ne x_pups]; exact hpups_27
    have hphas_28 : (upd H27 x (.ins (a 42) dx (putF "entries" (.ref pel) (putF "rules_till" (.ref prts) (putF "promised_in" (.ref ppins) (putF "promises" (.ref pprs) (putF "spans" (.ref psps) (putF "counts" (.ref pcts) (putF "stands" (.ref psts) (putF "has" (.ref phas) (putF "ups" (.ref pups) (putF "lease" (.int le) (putF "most_drift" (.ref dr) ([])))))))))))))) phas = some (.lst (List.replicate n (.int 0))) := by rw [upd_ne x_phas]; exact hphas_27
    have hpsts_28 : (upd H27 x (.ins (a 42) dx (putF "entries" (.ref pel) (putF "rules_till" (.ref prts) (putF "promised_in" (.ref ppins) (putF "promises" (.ref pprs) (putF "spans" (.ref psps) (putF "counts" (.ref pcts) (putF "stands" (.ref psts) (putF "has" (.ref phas) (putF "ups" (.ref pups) (putF "lease" (.int le) (putF "most_drift" (.ref dr) ([])))))))))))))) psts = some (.lst (List.replicate n (.non))) := by rw [upd_ne x_psts]; exact hpsts_27
    have hpcts_28 : (upd H27 x (.ins (a 42) dx (putF "entries" (.ref pel) (putF "rules_till" (.ref prts) (putF "promised_in" (.ref ppins) (putF "promises" (.ref pprs) (putF "spans" (.ref psps) (putF "counts" (.ref pcts) (putF "stands" (.ref psts) (putF "has" (.ref phas) (putF "ups" (.ref pups) (putF "lease" (.int le) (putF "most_drift" (.ref dr) ([])))))))))))))) pcts = some (.lst (List.replicate n (.int 0))) := by rw [upd_ne x_pcts]; exact hpcts_27
    have hpsps_28 : (upd H27 x (.ins (a 42) dx (putF "entries" (.ref pel) (putF "rules_till" (.ref prts) (putF "promised_in" (.ref ppins) (putF "promises" (.ref pprs) (putF "spans" (.ref psps) (putF "counts" (.ref pcts) (putF "stands" (.ref psts) (putF "has" (.ref phas) (putF "ups" (.ref pups) (putF "lease" (.int le) (putF "most_drift" (.ref dr) ([])))))))))))))) psps = some (.lst (List.replicate n (.non))) := by rw [upd_ne x_psps]; exact hpsps_27
    have hpprs_28 : (upd H27 x (.ins (a 42) dx (putF "entries" (.ref pel) (putF "rules_till" (.ref prts) (putF "promised_in" (.ref ppins) (putF "promises" (.ref pprs) (putF "spans" (.ref psps) (putF "counts" (.ref pcts) (putF "stands" (.ref psts) (putF "has" (.ref phas) (putF "ups" (.ref pups) (putF "lease" (.int le) (putF "most_drift" (.ref dr) ([])))))))))))))) pprs = some (.lst (List.replicate n (.non))) := by rw [upd_ne x_pprs]; exact hpprs_27
    have hppins_28 : (upd H27 x (.ins (a 42) dx (putF "entries" (.ref pel) (putF "rules_till" (.ref prts) (putF "promised_in" (.ref ppins) (putF "promises" (.ref pprs) (putF "spans" (.ref psps) (putF "counts" (.ref pcts) (putF "stands" (.ref psts) (putF "has" (.ref phas) (putF "ups" (.ref pups) (putF "lease" (.int le) (putF "most_drift" (.ref dr) ([])))))))))))))) ppins = some (.lst (List.replicate n (.int 0))) := by rw [upd_ne x_ppins]; exact hppins_27
    have hprts_28 : (upd H27 x (.ins (a 42) dx (putF "entries" (.ref pel) (putF "rules_till" (.ref prts) (putF "promised_in" (.ref ppins) (putF "promises" (.ref pprs) (putF "spans" (.ref psps) (putF "counts" (.ref pcts) (putF "stands" (.ref psts) (putF "has" (.ref phas) (putF "ups" (.ref pups) (putF "lease" (.int le) (putF "most_drift" (.ref dr) ([])))))))))))))) prts = some (.lst (List.replicate n (.non))) := by rw [upd_ne x_prts]; exact hprts_27
    have hpel_28 : (upd H27 x (.ins (a 42) dx (putF "entries" (.ref pel) (putF "rules_till" (.ref prts) (putF "promised_in" (.ref ppins) (putF "promises" (.ref pprs) (putF "spans" (.ref psps) (putF "counts" (.ref pcts) (putF "stands" (.ref psts) (putF "has" (.ref phas) (putF "ups" (.ref pups) (putF "lease" (.int le) (putF "most_drift" (.ref dr) ([])))))))))))))) pel = some (.lst ([])) := by rw [upd_ne x_pel]; exact hpel_27
    generalize (upd H27 x (.ins (a 42) dx (putF "entries" (.ref pel) (putF "rules_till" (.ref prts) (putF "promised_in" (.ref ppins) (putF "promises" (.ref pprs) (putF "spans" (.ref psps) (putF "counts" (.ref pcts) (putF "stands" (.ref psts) (putF "has" (.ref phas) (putF "ups" (.ref pups) (putF "lease" (.int le) (putF "most_drift" (.ref dr) ([])))))))))))))) = H28 at f28 hx28 hpups_28 hphas_28 hpsts_28 hpcts_28 hpsps_28 hpprs_28 hppins_28 hprts_28 hpel_28 ⊢
    refine ⟨_, rfl, x, _, dx, _, rfl, hx28, T.cl, T.n_lent, Nat.lt_of_le_of_lt (few_up (few_up (few_up (few_up (few_up (few_up (few_up (few_up (few_up (few_up (few_up (few0) _ _) _ _) _ _) _ _) _ _) _ _) _ _) _ _) _ _) _ _) _ _) (by decide), ?_⟩
    have f29 : Fr x H (upd H28 x (.ins (a 42) dx (putF "lent" (.bl false) (putF "entries" (.ref pel) (putF "rules_till" (.ref prts) (putF "promised_in" (.ref ppins) (putF "promises" (.ref pprs) (putF "spans" (.ref psps) (putF "counts" (.ref pcts) (putF "stands" (.ref psts) (putF "has" (.ref phas) (putF "ups" (.ref pups) (putF "lease" (.int le) (putF "most_drift" (.ref dr) ([]))))))))))))))) := f28.put
    have hx29 : (upd H28 x (.ins (a 42) dx (putF "lent" (.bl false) (putF "entries" (.ref pel) (putF "rules_till" (.ref prts) (putF "promised_in" (.ref ppins) (putF "promises" (.ref pprs) (putF "spans" (.ref psps) (putF "counts" (.ref pcts) (putF "stands" (.ref psts) (putF "has" (.ref phas) (putF "ups" (.ref pups) (putF "lease" (.int le) (putF "most_drift" (.ref dr) ([]))))))))))))))) x = some (.ins (a 42) dx (putF "lent" (.bl false) (putF "entries" (.ref pel) (putF "rules_till" (.ref prts) (putF "promised_in" (.ref ppins) (putF "promises" (.ref pprs) (putF "spans" (.ref psps) (putF "counts" (.ref pcts) (putF "stands" (.ref psts) (putF "has" (.ref phas) (putF "ups" (.ref pups) (putF "lease" (.int le) (putF "most_drift" (.ref dr) ([])))))))))))))) := upd_same
    have hpups_29 : (upd H28 x (.ins (a 42) dx (putF "lent" (.bl false) (putF "entries" (.ref pel) (putF "rules_till" (.ref prts) (putF "promised_in" (.ref ppins) (putF "promises" (.ref pprs) (putF "spans" (.ref psps) (putF "counts" (.ref pcts) (putF "stands" (.ref psts) (putF "has" (.ref phas) (putF "ups" (.ref pups) (putF "lease" (.int le) (putF "most_drift" (.ref dr) ([]))))))))))))))) pups = some (.lst (List.replicate n (.bl true))) := by rw [upd_ne x_pups]; exact hpups_28
    have hphas_29 : (upd H28 x (.ins (a 42) dx (putF "lent" (.bl false) (putF "entries" (.ref pel) (putF "rules_till" (.ref prts) (putF "promised_in" (.ref ppins) (putF "promises" (.ref pprs) (putF "spans" (.ref psps) (putF "counts" (.ref pcts) (putF "stands" (.ref psts) (putF "has" (.ref phas) (putF "ups" (.ref pups) (putF "lease" (.int le) (putF "most_drift" (.ref dr) ([]))))))))))))))) phas = some (.lst (List.replicate n (.int 0))) := by rw [upd_ne x_phas]; exact hphas_28
    have hpsts_29 : (upd H28 x (.ins (a 42) dx (putF "lent" (.bl false) (putF "entries" (.ref pel) (putF "rules_till" (.ref prts) (putF "promised_in" (.ref ppins) (putF "promises" (.ref pprs) (putF "spans" (.ref psps) (putF "counts" (.ref pcts) (putF "stands" (.ref psts) (putF "has" (.ref phas) (putF "ups" (.ref pups) (putF "lease" (.int le) (putF "most_drift" (.ref dr) ([]))))))))))))))) psts = some (.lst (List.replicate n (.non))) := by rw [upd_ne x_psts]; exact hpsts_28
    have hpcts_29 : (upd H28 x (.ins (a 42) dx (putF "lent" (.bl false) (putF "entries" (.ref pel) (putF "rules_till" (.ref prts) (putF "promised_in" (.ref ppins) (putF "promises" (.ref pprs) (putF "spans" (.ref psps) (putF "counts" (.ref pcts) (putF "stands" (.ref psts) (putF "has" (.ref phas) (putF "ups" (.ref pups) (putF "lease" (.int le) (putF "most_drift" (.ref dr) ([]))))))))))))))) pcts = some (.lst (List.replicate n (.int 0))) := by rw [upd_ne x_pcts]; exact hpcts_28
    have hpsps_29 : (upd H28 x (.ins (a 42) dx (putF "lent" (.bl false) (putF "entries" (.ref pel) (putF "rules_till" (.ref prts) (putF "promised_in" (.ref ppins) (putF "promises" (.ref pprs) (putF "spans" (.ref psps) (putF "counts" (.ref pcts) (putF "stands" (.ref psts) (putF "has" (.ref phas) (putF "ups" (.ref pups) (putF "lease" (.int le) (putF "most_drift" (.ref dr) ([]))))))))))))))) psps = some (.lst (List.replicate n (.non))) := by rw [upd_ne x_psps]; exact hpsps_28
    have hpprs_29 : (upd H28 x (.ins (a 42) dx (putF "lent" (.bl false) (putF "entries" (.ref pel) (putF "rules_till" (.ref prts) (putF "promised_in" (.ref ppins) (putF "promises" (.ref pprs) (putF "spans" (.ref psps) (putF "counts" (.ref pcts) (putF "stands" (.ref psts) (putF "has" (.ref phas) (putF "ups" (.ref pups) (putF "lease" (.int le) (putF "most_drift" (.ref dr) ([]))))))))))))))) pprs = some (.lst (List.replicate n (.non))) := by rw [upd_ne x_pprs]; exact hpprs_28
    have hppins_29 : (upd H28 x (.ins (a 42) dx (putF "lent" (.bl false) (putF "entries" (.ref pel) (putF "rules_till" (.ref prts) (putF "promised_in" (.ref ppins) (putF "promises" (.ref pprs) (putF "spans" (.ref psps) (putF "counts" (.ref pcts) (putF "stands" (.ref psts) (putF "has" (.ref phas) (putF "ups" (.ref pups) (putF "lease" (.int le) (putF "most_drift" (.ref dr) ([]))))))))))))))) ppins = some (.lst (List.replicate n (.int 0))) := by rw [upd_ne x_ppins]; exact hppins_28
    have hprts_29 : (upd H28 x (.ins (a 42) dx (putF "lent" (.bl false) (putF "entries" (.ref pel) (putF "rules_till" (.ref prts) (putF "promised_in" (.ref ppins) (putF "promises" (.ref pprs) (putF "spans" (.ref psps) (putF "counts" (.ref pcts) (putF "stands" (.ref psts) (putF "has" (.ref phas) (putF "ups" (.ref pups) (putF "lease" (.int le) (putF "most_drift" (.ref dr) ([]))))))))))))))) prts = some (.lst (List.replicate n (.non))) := by rw [upd_ne x_prts]; exact hprts_28
    have hpel_29 : (upd H28 x (.ins (a 42) dx (putF "lent" (.bl false) (putF "entries" (.ref pel) (putF "rules_till" (.ref prts) (putF "promised_in" (.ref ppins) (putF "promises" (.ref pprs) (putF "spans" (.ref psps) (putF "counts" (.ref pcts) (putF "stands" (.ref psts) (putF "has" (.ref phas) (putF "ups" (.ref pups) (putF "lease" (.int le) (putF "most_drift" (.ref dr) ([]))))))))))))))) pel = some (.lst ([])) := by rw [upd_ne x_pel]; exact hpel_28
    generalize (upd H28 x (.ins (a 42) dx (putF "lent" (.bl false) (putF "entries" (.ref pel) (putF "rules_till" (.ref prts) (putF "promised_in" (.ref ppins) (putF "promises" (.ref pprs) (putF "spans" (.ref psps) (putF "counts" (.ref pcts) (putF "stands" (.ref psts) (putF "has" (.ref phas) (putF "ups" (.ref pups) (putF "lease" (.int le) (putF "most_drift" (.ref dr) ([]))))))))))))))) = H29 at f29 hx29 hpups_29 hphas_29 hpsts_29 hpcts_29 hpsps_29 hpprs_29 hppins_29 hprts_29 hpel_29 ⊢
    refine ⟨_, rfl, x, _, dx, _, rfl, hx29, T.cl, T.n_loose, Nat.lt_of_le_of_lt (few_up (few_up (few_up (few_up (few_up (few_up (few_up (few_up (few_up (few_up (few_up (few_up (few0) _ _) _ _) _ _) _ _) _ _) _ _) _ _) _ _) _ _) _ _) _ _) _ _) (by decide), ?_⟩
    have f30 : Fr x H (upd H29 x (.ins (a 42) dx (putF "loose" (.bl false) (putF "lent" (.bl false) (putF "entries" (.ref pel) (putF "rules_till" (.ref prts) (putF "promised_in" (.ref ppins) (putF "promises" (.ref pprs) (putF "spans" (.ref psps) (putF "counts" (.ref pcts) (putF "stands" (.ref psts) (putF "has" (.ref phas) (putF "ups" (.ref pups) (putF "lease" (.int le) (putF "most_drift" (.ref dr) ([])))))))))))))))) := f29.put
    have hx30 : (upd H29 x (.ins (a 42) dx (putF "loose" (.bl false) (putF "lent" (.bl false) (putF "entries" (.ref pel) (putF "rules_till" (.ref prts) (putF "promised_in" (.ref ppins) (putF "promises" (.ref pprs) (putF "spans" (.ref psps) (putF "counts" (.ref pcts) (putF "stands" (.ref psts) (putF "has" (.ref phas) (putF "ups" (.ref pups) (putF "lease" (.int le) (putF "most_drift" (.ref dr) ([])))))))))))))))) x = some (.ins (a 42) dx (putF "loose" (.bl false) (putF "lent" (.bl false) (putF "entries" (.ref pel) (putF "rules_till" (.ref prts) (putF "promised_in" (.ref ppins) (putF "promises" (.ref pprs) (putF "spans" (.ref psps) (putF "counts" (.ref pcts) (putF "stands" (.ref psts) (putF "has" (.ref phas) (putF "ups" (.ref pups) (putF "lease" (.int le) (putF "most_drift" (.ref dr) ([]))))))))))))))) := upd_same
    have hpups_30 : (upd H29 x (.ins (a 42) dx (putF "loose" (.bl false) (putF "lent" (.bl false) (putF "entries" (.ref pel) (putF "rules_till" (.ref prts) (putF "promised_in" (.ref ppins) (putF "promises" (.ref pprs) (putF "spans" (.ref psps) (putF "counts" (.ref pcts) (putF "stands" (.ref psts) (putF "has" (.ref phas) (putF "ups" (.ref pups) (putF "lease" (.int le) (putF "most_drift" (.ref dr) ([])))))))))))))))) pups = some (.lst (List.replicate n (.bl true))) := by rw [upd_ne x_pups]; exact hpups_29
    have hphas_30 : (upd H29 x (.ins (a 42) dx (putF "loose" (.bl false) (putF "lent" (.bl false) (putF "entries" (.ref pel) (putF "rules_till" (.ref prts) (putF "promised_in" (.ref ppins) (putF "promises" (.ref pprs) (putF "spans" (.ref psps) (putF "counts" (.ref pcts) (putF "stands" (.ref psts) (putF "has" (.ref phas) (putF "ups" (.ref pups) (putF "lease" (.int le) (putF "most_drift" (.ref dr) ([])))))))))))))))) phas = some (.lst (List.replicate n (.int 0))) := by rw [upd_ne x_phas]; exact hphas_29
    have hpsts_30 : (upd H29 x (.ins (a 42) dx (putF "loose" (.bl false) (putF "lent" (.bl false) (putF "entries" (.ref pel) (putF "rules_till" (.ref prts) (putF "promised_in" (.ref ppins) (putF "promises" (.ref pprs) (putF "spans" (.ref psps) (putF "counts" (.ref pcts) (putF "stands" (.ref psts) (putF "has" (.ref phas) (putF "ups" (.ref pups) (putF "lease" (.int le) (putF "most_drift" (.ref dr) ([])))))))))))))))) psts = some (.lst (List.replicate n (.non))) := by rw [upd_ne x_psts]; exact hpsts_29
    have hpcts_30 : (upd H29 x (.ins (a 42) dx (putF "loose" (.bl false) (putF "lent" (.bl false) (putF "entries" (.ref pel) (putF "rules_till" (.ref prts) (putF "promised_in" (.ref ppins) (putF "promises" (.ref pprs) (putF "spans" (.ref psps) (putF "counts" (.ref pcts) (putF "stands" (.ref psts) (putF "has" (.ref phas) (putF "ups" (.ref pups) (putF "lease" (.int le) (putF "most_drift" (.ref dr) ([])))))))))))))))) pcts = some (.lst (List.replicate n (.int 0))) := by rw [upd_ne x_pcts]; exact hpcts_29
    have hpsps_30 : (upd H29 x (.ins (a 42) dx (putF "loose" (.bl false) (putF "lent" (.bl false) (putF "entries" (.ref pel) (putF "rules_till" (.ref prts) (putF "promised_in" (.ref ppins) (putF "promises" (.ref pprs) (putF "spans" (.ref psps) (putF "counts" (.ref pcts) (putF "stands" (.ref psts) (putF "has" (.ref phas) (putF "ups" (.ref pups) (putF "lease" (.int le) (putF "most_drift" (.ref dr) ([])))))))))))))))) psps = some (.lst (List.replicate n (.non))) := by rw [upd_ne x_psps]; exact hpsps_29
    have hpprs_30 : (upd H29 x (.ins (a 42) dx (putF "loose" (.bl false) (putF "lent" (.bl false) (putF "entries" (.ref pel) (putF "rules_till" (.ref prts) (putF "promised_in" (.ref ppins) (putF "promises" (.ref pprs) (putF "spans" (.ref psps) (putF "counts" (.ref pcts) (putF "stands" (.ref psts) (putF "has" (.ref phas) (putF "ups" (.ref pups) (putF "lease" (.int le) (putF "most_drift" (.ref dr) ([])))))))))))))))) pprs = some (.lst (List.replicate n (.non))) := by rw [upd_ne x_pprs]; exact hpprs_29
    have hppins_30 : (upd H29 x (.ins (a 42) dx (putF "loose" (.bl false) (putF "lent" (.bl false) (putF "entries" (.ref pel) (putF "rules_till" (.ref prts) (putF "promised_in" (.ref ppins) (putF "promises" (.ref pprs) (putF "spans" (.ref psps) (putF "counts" (.ref pcts) (putF "stands" (.ref psts) (putF "has" (.ref phas) (putF "ups" (.ref pups) (putF "lease" (.int le) (putF "most_drift" (.ref dr) ([])))))))))))))))) ppins = some (.lst (List.replicate n (.int 0))) := by rw [upd_ne x_ppins]; exact hppins_29
    have hprts_30 : (upd H29 x (.ins (a 42) dx (putF "loose" (.bl false) (putF "lent" (.bl false) (putF "entries" (.ref pel) (putF "rules_till" (.ref prts) (putF "promised_in" (.ref ppins) (putF "promises" (.ref pprs) (putF "spans" (.ref psps) (putF "counts" (.ref pcts) (putF "stands" (.ref psts) (putF "has" (.ref phas) (putF "ups" (.ref pups) (putF "lease" (.int le) (putF "most_drift" (.ref dr) ([])))))))))))))))) prts = some (.lst (List.replicate n (.non))) := by rw [upd_ne x_prts]; exact hprts_29
    have hpel_30 : (upd H29 x (.ins (a 42) dx (putF "loose" (.bl false) (putF "lent" (.bl false) (putF "entries" (.ref pel) (putF "rules_till" (.ref prts) (putF "promised_in" (.ref ppins) (putF "promises" (.ref pprs) (putF "spans" (.ref psps) (putF "counts" (.ref pcts) (putF "stands" (.ref psts) (putF "has" (.ref phas) (putF "ups" (.ref pups) (putF "lease" (.int le) (putF "most_drift" (.ref dr) ([])))))))))))))))) pel = some (.lst ([])) := by rw [upd_ne x_pel]; exact hpel_29
    generalize (upd H29 x (.ins (a 42) dx (putF "loose" (.bl false) (putF "lent" (.bl false) (putF "entries" (.ref pel) (putF "rules_till" (.ref prts) (putF "promised_in" (.ref ppins) (putF "promises" (.ref pprs) (putF "spans" (.ref psps) (putF "counts" (.ref pcts) (putF "stands" (.ref psts) (putF "has" (.ref phas) (putF "ups" (.ref pups) (putF "lease" (.int le) (putF "most_drift" (.ref dr) ([])))))))))))))))) = H30 at f30 hx30 hpups_30 hphas_30 hpsts_30 hpcts_30 hpsps_30 hpprs_30 hppins_30 hprts_30 hpel_30 ⊢
    refine ⟨_, rfl, x, _, dx, _, rfl, hx30, T.cl, T.n_reigns, Nat.lt_of_le_of_lt (few_up (few_up (few_up (few_up (few_up (few_up (few_up (few_up (few_up (few_up (few_up (few_up (few_up (few0) _ _) _ _) _ _) _ _) _ _) _ _) _ _) _ _) _ _) _ _) _ _) _ _) _ _) (by decide), ?_⟩
    have f31 : Fr x H (upd H30 x (.ins (a 42) dx (putF "reigns" (.int 0) (putF "loose" (.bl false) (putF "lent" (.bl false) (putF "entries" (.ref pel) (putF "rules_till" (.ref prts) (putF "promised_in" (.ref ppins) (putF "promises" (.ref pprs) (putF "spans" (.ref psps) (putF "counts" (.ref pcts) (putF "stands" (.ref psts) (putF "has" (.ref phas) (putF "ups" (.ref pups) (putF "lease" (.int le) (putF "most_drift" (.ref dr) ([]))))))))))))))))) := f30.put
    have hx31 : (upd H30 x (.ins (a 42) dx (putF "reigns" (.int 0) (putF "loose" (.bl false) (putF "lent" (.bl false) (putF "entries" (.ref pel) (putF "rules_till" (.ref prts) (putF "promised_in" (.ref ppins) (putF "promises" (.ref pprs) (putF "spans" (.ref psps) (putF "counts" (.ref pcts) (putF "stands" (.ref psts) (putF "has" (.ref phas) (putF "ups" (.ref pups) (putF "lease" (.int le) (putF "most_drift" (.ref dr) ([]))))))))))))))))) x = some (.ins (a 42) dx (putF "reigns" (.int 0) (putF "loose" (.bl false) (putF "lent" (.bl false) (putF "entries" (.ref pel) (putF "rules_till" (.ref prts) (putF "promised_in" (.ref ppins) (putF "promises" (.ref pprs) (putF "spans" (.ref psps) (putF "counts" (.ref pcts) (putF "stands" (.ref psts) (putF "has" (.ref phas) (putF "ups" (.ref pups) (putF "lease" (.int le) (putF "most_drift" (.ref dr) ([])))))))))))))))) := upd_same
    have hpups_31 : (upd H30 x (.ins (a 42) dx (putF "reigns" (.int 0) (putF "loose" (.bl false) (putF "lent" (.bl false) (putF "entries" (.ref pel) (putF "rules_till" (.ref prts) (putF "promised_in" (.ref ppins) (putF "promises" (.ref pprs) (putF "spans" (.ref psps) (putF "counts" (.ref pcts) (putF "stands" (.ref psts) (putF "has" (.ref phas) (putF "ups" (.ref pups) (putF "lease" (.int le) (putF "most_drift" (.ref dr) ([]))))))))))))))))) pups = some (.lst (List.replicate n (.bl true))) := by rw [upd_ne x_pups]; exact hpups_30
    have hphas_31 : (upd H30 x (.ins (a 42) dx (putF "reigns" (.int 0) (putF "loose" (.bl false) (putF "lent" (.bl false) (putF "entries" (.ref pel) (putF "rules_till" (.ref prts) (putF "promised_in" (.ref ppins) (putF "promises" (.ref pprs) (putF "spans" (.ref psps) (putF "counts" (.ref pcts) (putF "stands" (.ref psts) (putF "has" (.ref phas) (putF "ups" (.ref pups) (putF "lease" (.int le) (putF "most_drift" (.ref dr) ([]))))))))))))))))) phas = some (.lst (List.replicate n (.int 0))) := by rw [upd_ne x_phas]; exact hphas_30
    have hpsts_31 : (upd H30 x (.ins (a 42) dx (putF "reigns" (.int 0) (putF "loose" (.bl false) (putF "lent" (.bl false) (putF "entries" (.ref pel) (putF "rules_till" (.ref prts) (putF "promised_in" (.ref ppins) (putF "promises" (.ref pprs) (putF "spans" (.ref psps) (putF "counts" (.ref pcts) (putF "stands" (.ref psts) (putF "has" (.ref phas) (putF "ups" (.ref pups) (putF "lease" (.int le) (putF "most_drift" (.ref dr) ([]))))))))))))))))) psts = some (.lst (List.replicate n (.non))) := by rw [upd_ne x_psts]; exact hpsts_30
    have hpcts_31 : (upd H30 x (.ins (a 42) dx (putF "reigns" (.int 0) (putF "loose" (.bl false) (putF "lent" (.bl false) (putF "entries" (.ref pel) (putF "rules_till" (.ref prts) (putF "promised_in" (.ref ppins) (putF "promises" (.ref pprs) (putF "spans" (.ref psps) (putF "counts" (.ref pcts) (putF "stands" (.ref psts) (putF "has" (.ref phas) (putF "ups" (.ref pups) (putF "lease" (.int le) (putF "most_drift" (.ref dr) ([]))))))))))))))))) pcts = some (.lst (List.replicate n (.int 0))) := by rw [upd_ne x_pcts]; exact hpcts_30
    have hpsps_31 : (upd H30 x (.ins (a 42) dx (putF "reigns" (.int 0) (putF "loose" (.bl false) (putF "lent" (.bl false) (putF "entries" (.ref pel) (putF "rules_till" (.ref prts) (putF "promised_in" (.ref ppins) (putF "promises" (.ref pprs) (putF "spans" (.ref psps) (putF "counts" (.ref pcts) (putF "stands" (.ref psts) (putF "has" (.ref phas) (putF "ups" (.ref pups) (putF "lease" (.int le) (putF "most_drift" (.ref dr) ([]))))))))))))))))) psps = some (.lst (List.replicate n (.non))) := by rw [upd_ne x_psps]; exact hpsps_30
    have hpprs_31 : (upd H30 x (.ins (a 42) dx (putF "reigns" (.int 0) (putF "loose" (.bl false) (putF "lent" (.bl false) (putF "entries" (.ref pel) (putF "rules_till" (.ref prts) (putF "promised_in" (.ref ppins) (putF "promises" (.ref pprs) (putF "spans" (.ref psps) (putF "counts" (.ref pcts) (putF "stands" (.ref psts) (putF "has" (.ref phas) (putF "ups" (.ref pups) (putF "lease" (.int le) (putF "most_drift" (.ref dr) ([]))))))))))))))))) pprs = some (.lst (List.replicate n (.non))) := by rw [upd_ne x_pprs]; exact hpprs_30
    have hppins_31 : (upd H30 x (.ins (a 42) dx (putF "reigns" (.int 0) (putF "loose" (.bl false) (putF "lent" (.bl false) (putF "entries" (.ref pel) (putF "rules_till" (.ref prts) (putF "promised_in" (.ref ppins) (putF "promises" (.ref pprs) (putF "spans" (.ref psps) (putF "counts" (.ref pcts) (putF "stands" (.ref psts) (putF "has" (.ref phas) (putF "ups" (.ref pups) (putF "lease" (.int le) (putF "most_drift" (.ref dr) ([]))))))))))))))))) ppins = some (.lst (List.replicate n (.int 0))) := by rw [upd_ne x_ppins]; exact hppins_30
    have hprts_31 : (upd H30 x (.ins (a 42) dx (putF "reigns" (.int 0) (putF "loose" (.bl false) (putF "lent" (.bl false) (putF "entries" (.ref pel) (putF "rules_till" (.ref prts) (putF "promised_in" (.ref ppins) (putF "promises" (.ref pprs) (putF "spans" (.ref psps) (putF "counts" (.ref pcts) (putF "stands" (.ref psts) (putF "has" (.ref phas) (putF "ups" (.ref pups) (putF "lease" (.int le) (putF "most_drift" (.ref dr) ([]))))))))))))))))) prts = some (.lst (List.replicate n (.non))) := by rw [upd_ne x_prts]; exact hprts_30
    have hpel_31 : (upd H30 x (.ins (a 42) dx (putF "reigns" (.int 0) (putF "loose" (.bl false) (putF "lent" (.bl false) (putF "entries" (.ref pel) (putF "rules_till" (.ref prts) (putF "promised_in" (.ref ppins) (putF "promises" (.ref pprs) (putF "spans" (.ref psps) (putF "counts" (.ref pcts) (putF "stands" (.ref psts) (putF "has" (.ref phas) (putF "ups" (.ref pups) (putF "lease" (.int le) (putF "most_drift" (.ref dr) ([]))))))))))))))))) pel = some (.lst ([])) := by rw [upd_ne x_pel]; exact hpel_30
    generalize (upd H30 x (.ins (a 42) dx (putF "reigns" (.int 0) (putF "loose" (.bl false) (putF "lent" (.bl false) (putF "entries" (.ref pel) (putF "rules_till" (.ref prts) (putF "promised_in" (.ref ppins) (putF "promises" (.ref pprs) (putF "spans" (.ref psps) (putF "counts" (.ref pcts) (putF "stands" (.ref psts) (putF "has" (.ref phas) (putF "ups" (.ref pups) (putF "lease" (.int le) (putF "most_drift" (.ref dr) ([]))))))))))))))))) = H31 at f31 hx31 hpups_31 hphas_31 hpsts_31 hpcts_31 hpsps_31 hpprs_31 hppins_31 hprts_31 hpel_31 ⊢
    refine ⟨_, rfl, x, _, dx, _, rfl, hx31, T.cl, T.n_chosen, Nat.lt_of_le_of_lt (few_up (few_up (few_up (few_up (few_up (few_up (few_up (few_up (few_up (few_up (few_up (few_up (few_up (few_up (few0) _ _) _ _) _ _) _ _) _ _) _ _) _ _) _ _) _ _) _ _) _ _) _ _) _ _) _ _) (by decide), ?_⟩
    have f32 : Fr x H (upd H31 x (.ins (a 42) dx (putF "chosen" (.non) (putF "reigns" (.int 0) (putF "loose" (.bl false) (putF "lent" (.bl false) (putF "entries" (.ref pel) (putF "rules_till" (.ref prts) (putF "promised_in" (.ref ppins) (putF "promises" (.ref pprs) (putF "spans" (.ref psps) (putF "counts" (.ref pcts) (putF "stands" (.ref psts) (putF "has" (.ref phas) (putF "ups" (.ref pups) (putF "lease" (.int le) (putF "most_drift" (.ref dr) ([])))))))))))))))))) := f31.put
    have hx32 : (upd H31 x (.ins (a 42) dx (putF "chosen" (.non) (putF "reigns" (.int 0) (putF "loose" (.bl false) (putF "lent" (.bl false) (putF "entries" (.ref pel) (putF "rules_till" (.ref prts) (putF "promised_in" (.ref ppins) (putF "promises" (.ref pprs) (putF "spans" (.ref psps) (putF "counts" (.ref pcts) (putF "stands" (.ref psts) (putF "has" (.ref phas) (putF "ups" (.ref pups) (putF "lease" (.int le) (putF "most_drift" (.ref dr) ([])))))))))))))))))) x = some (.ins (a 42) dx (putF "chosen" (.non) (putF "reigns" (.int 0) (putF "loose" (.bl false) (putF "lent" (.bl false) (putF "entries" (.ref pel) (putF "rules_till" (.ref prts) (putF "promised_in" (.ref ppins) (putF "promises" (.ref pprs) (putF "spans" (.ref psps) (putF "counts" (.ref pcts) (putF "stands" (.ref psts) (putF "has" (.ref phas) (putF "ups" (.ref pups) (putF "lease" (.int le) (putF "most_drift" (.ref dr) ([]))))))))))))))))) := upd_same
    have hpups_32 : (upd H31 x (.ins (a 42) dx (putF "chosen" (.non) (putF "reigns" (.int 0) (putF "loose" (.bl false) (putF "lent" (.bl false) (putF "entries" (.ref pel) (putF "rules_till" (.ref prts) (putF "promised_in" (.ref ppins) (putF "promises" (.ref pprs) (putF "spans" (.ref psps) (putF "counts" (.ref pcts) (putF "stands" (.ref psts) (putF "has" (.ref phas) (putF "ups" (.ref pups) (putF "lease" (.int le) (putF "most_drift" (.ref dr) ([])))))))))))))))))) pups = some (.lst (List.replicate n (.bl true))) := by rw [upd_ne x_pups]; exact hpups_31
    have hphas_32 : (upd H31 x (.ins (a 42) dx (putF "chosen" (.non) (putF "reigns" (.int 0) (putF "loose" (.bl false) (putF "lent" (.bl false) (putF "entries" (.ref pel) (putF "rules_till" (.ref prts) (putF "promised_in" (.ref ppins) (putF "promises" (.ref pprs) (putF "spans" (.ref psps) (putF "counts" (.ref pcts) (putF "stands" (.ref psts) (putF "has" (.ref phas) (putF "ups" (.ref pups) (putF "lease" (.int le) (putF "most_drift" (.ref dr) ([])))))))))))))))))) phas = some (.lst (List.replicate n (.int 0))) := by rw [upd_ne x_phas]; exact hphas_31
    have hpsts_32 : (upd H31 x (.ins (a 42) dx (putF "chosen" (.non) (putF "reigns" (.int 0) (putF "loose" (.bl false) (putF "lent" (.bl false) (putF "entries" (.ref pel) (putF "rules_till" (.ref prts) (putF "promised_in" (.ref ppins) (putF "promises" (.ref pprs) (putF "spans" (.ref psps) (putF "counts" (.ref pcts) (putF "stands" (.ref psts) (putF "has" (.ref phas) (putF "ups" (.ref pups) (putF "lease" (.int le) (putF "most_drift" (.ref dr) ([])))))))))))))))))) psts = some (.lst (List.replicate n (.non))) := by rw [upd_ne x_psts]; exact hpsts_31
    have hpcts_32 : (upd H31 x (.ins (a 42) dx (putF "chosen" (.non) (putF "reigns" (.int 0) (putF "loose" (.bl false) (putF "lent" (.bl false) (putF "entries" (.ref pel) (putF "rules_till" (.ref prts) (putF "promised_in" (.ref ppins) (putF "promises" (.ref pprs) (putF "spans" (.ref psps) (putF "counts" (.ref pcts) (putF "stands" (.ref psts) (putF "has" (.ref phas) (putF "ups" (.ref pups) (putF "lease" (.int le) (putF "most_drift" (.ref dr) ([])))))))))))))))))) pcts = some (.lst (List.replicate n (.int 0))) := by rw [upd_ne x_pcts]; exact hpcts_31
    have hpsps_32 : (upd H31 x (.ins (a 42) dx (putF "chosen" (.non) (putF "reigns" (.int 0) (putF "loose" (.bl false) (putF "lent" (.bl false) (putF "entries" (.ref pel) (putF "rules_till" (.ref prts) (putF "promised_in" (.ref ppins) (putF "promises" (.ref pprs) (putF "spans" (.ref psps) (putF "counts" (.ref pcts) (putF "stands" (.ref psts) (putF "has" (.ref phas) (putF "ups" (.ref pups) (putF "lease" (.int le) (putF "most_drift" (.ref dr) ([])))))))))))))))))) psps = some (.lst (List.replicate n (.non))) := by rw [upd_ne x_psps]; exact hpsps_31
    have hpprs_32 : (upd H31 x (.ins (a 42) dx (putF "chosen" (.non) (putF "reigns" (.int 0) (putF "loose" (.bl false) (putF "lent" (.bl false) (putF "entries" (.ref pel) (putF "rules_till" (.ref prts) (putF "promised_in" (.ref ppins) (putF "promises" (.ref pprs) (putF "spans" (.ref psps) (putF "counts" (.ref pcts) (putF "stands" (.ref psts) (putF "has" (.ref phas) (putF "ups" (.ref pups) (putF "lease" (.int le) (putF "most_drift" (.ref dr) ([])))))))))))))))))) pprs = some (.lst (List.replicate n (.non))) := by rw [upd_ne x_pprs]; exact hpprs_31
    have hppins_32 : (upd H31 x (.ins (a 42) dx (putF "chosen" (.non) (putF "reigns" (.int 0) (putF "loose" (.bl false) (putF "lent" (.bl false) (putF "entries" (.ref pel) (putF "rules_till" (.ref prts) (putF "promised_in" (.ref ppins) (putF "promises" (.ref pprs) (putF "spans" (.ref psps) (putF "counts" (.ref pcts) (putF "stands" (.ref psts) (putF "has" (.ref phas) (putF "ups" (.ref pups) (putF "lease" (.int le) (putF "most_drift" (.ref dr) ([])))))))))))))))))) ppins = some (.lst (List.replicate n (.int 0))) := by rw [upd_ne x_ppins]; exact hppins_31
    have hprts_32 : (upd H31 x (.ins (a 42) dx (putF "chosen" (.non) (putF "reigns" (.int 0) (putF "loose" (.bl false) (putF "lent" (.bl false) (putF "entries" (.ref pel) (putF "rules_till" (.ref prts) (putF "promised_in" (.ref ppins) (putF "promises" (.ref pprs) (putF "spans" (.ref psps) (putF "counts" (.ref pcts) (putF "stands" (.ref psts) (putF "has" (.ref phas) (putF "ups" (.ref pups) (putF "lease" (.int le) (putF "most_drift" (.ref dr) ([])))))))))))))))))) prts = some (.lst (List.replicate n (.non))) := by rw [upd_ne x_prts]; exact hprts_31
    have hpel_32 : (upd H31 x (.ins (a 42) dx (putF "chosen" (.non) (putF "reigns" (.int 0) (putF "loose" (.bl false) (putF "lent" (.bl false) (putF "entries" (.ref pel) (putF "rules_till" (.ref prts) (putF "promised_in" (.ref ppins) (putF "promises" (.ref pprs) (putF "spans" (.ref psps) (putF "counts" (.ref pcts) (putF "stands" (.ref psts) (putF "has" (.ref phas) (putF "ups" (.ref pups) (putF "lease" (.int le) (putF "most_drift" (.ref dr) ([])))))))))))))))))) pel = some (.lst ([])) := by rw [upd_ne x_pel]; exact hpel_31
    generalize (upd H31 x (.ins (a 42) dx (putF "chosen" (.non) (putF "reigns" (.int 0) (putF "loose" (.bl false) (putF "lent" (.bl false) (putF "entries" (.ref pel) (putF "rules_till" (.ref prts) (putF "promised_in" (.ref ppins) (putF "promises" (.ref pprs) (putF "spans" (.ref psps) (putF "counts" (.ref pcts) (putF "stands" (.ref psts) (putF "has" (.ref phas) (putF "ups" (.ref pups) (putF "lease" (.int le) (putF "most_drift" (.ref dr) ([])))))))))))))))))) = H32 at f32 hx32 hpups_32 hphas_32 hpsts_32 hpcts_32 hpsps_32 hpprs_32 hppins_32 hprts_32 hpel_32 ⊢
    rw [gf_new ⟨dr, pups, phas, psts, pcts, psps, pprs, ppins, prts, pel⟩ le (List.replicate n MS.new)] at hx32
    have ld : DrOk K H32 dr t b := hd.fr f32 hx trivial
    refine q ⟨dr, pups, phas, psts, pcts, psps, pprs, ppins, prts, pel⟩ H32 (fun c z => by simp only [GA.all, List.mem_cons, List.not_mem_nil, or_false] at z; rcases z with rfl | rfl | rfl | rfl | rfl | rfl | rfl | rfl | rfl <;> assumption) x_pel f32 ⟨⟨dx, hx32⟩, ⟨ld, (by show _ = some (HO.lst ((List.replicate n MS.new).map _)); rw [rep_map]; exact hpups_32), (by show _ = some (HO.lst ((List.replicate n MS.new).map _)); rw [rep_map]; exact hphas_32), (by show _ = some (HO.lst ((List.replicate n MS.new).map _)); rw [rep_map]; exact hpcts_32), (by show _ = some (HO.lst ((List.replicate n MS.new).map _)); rw [rep_map]; exact hpprs_32), (by show _ = some (HO.lst ((List.replicate n MS.new).map _)); rw [rep_map]; exact hppins_32), (by show _ = some (HO.lst ((List.replicate n MS.new).map _)); rw [rep_map]; exact hprts_32), ⟨_, hpsts_32, by show SvL K H32 _ ((List.replicate n MS.new).map _); rw [rep_map]; exact rep_sv n⟩, ⟨_, hpsps_32, by show SvL K H32 _ ((List.replicate n MS.new).map _); rw [rep_map]; exact rep_sv n⟩, ⟨[], hpel_32, .nil⟩, z_ups, z_has, z_cts, z_prs, z_pins, z_rts, z_sts, z_sps, (by show (List.replicate n MS.new).length ≤ 5; rw [List.length_replicate]; exact hn5), (by show 0 < (List.replicate n MS.new).length; rw [List.length_replicate]; exact hn1), (fun s hs => by rw [List.eq_of_mem_replicate hs]; exact Int.le_refl 0), Nat.zero_le _⟩⟩

/-! ### k31: what stands behind each deed -/
structure P31 (g : GS) : Prop where
  hb : ∀ s ∈ g.ms, 0 ≤ s.has ∧ s.has ≤ (g.ds.length : Int)
  rt : ∀ s ∈ g.ms, s.rt.isSome = true → s.up = true ∧ s.has = (g.ds.length : Int)
  cl : ∀ s ∈ g.ms, s.st.isSome = true ∧ s.sp.isSome = true
  most : g.ms.length < 2 * ((g.ms.map fun s => s.has).filter fun h => decide (h = (g.ds.length : Int))).length
  ch : ∀ c, g.ch = some c → 0 ≤ c ∧ c < g.ms.length
  lo : g.loose = false
  fl : ∀ d ∈ g.ds, flatT d = true
theorem P31.ok {g : GS} (h : P31 g) : GOk g := ⟨fun i s hs _ => (h.cl s (List.mem_of_getElem? hs)).2, h.ch⟩
theorem mem_set {ms : List MS} {i : Nat} {s' u : MS} (h : u ∈ ms.set i s') : u ∈ ms ∨ u = s' := List.mem_or_eq_of_mem_set h
/-- a copy is changed in what this law doesn't look at -/
theorem P31.set {g : GS} (h : P31 g) {i : Nat} {s s' : MS} (hs : g.ms[i]? = some s) (eh : s'.has = s.has) (er : s'.rt.isSome = true → s.rt.isSome = true ∧ s'.up = s.up) (cl : s'.st.isSome = true ∧ s'.sp.isSome = true) : P31 { g with ms := g.ms.set i s' } := by
  have hm := List.mem_of_getElem? hs
  refine ⟨fun u hu => ?_, fun u hu r => ?_, fun u hu => ?_, ?_, fun c hc => ?_, h.lo, h.fl⟩
  · rcases mem_set hu with z | rfl
    · exact h.hb u z
    · rw [eh]; exact h.hb s hm
  · rcases mem_set hu with z | rfl
    · exact h.rt u z r
    · obtain ⟨a, b⟩ := er r
      rw [b, eh]
      exact h.rt s hm a
  · rcases mem_set hu with z | rfl
    · exact h.cl u z
    · exact cl
  · show (g.ms.set i s').length < 2 * (((g.ms.set i s').map fun s => s.has).filter _).length
    rw [List.length_set, map_same hs eh]
    exact h.most
  · show 0 ≤ c ∧ c < (g.ms.set i s').length
    rw [List.length_set]
    exact h.ch c hc
theorem P31.tick {g : GS} (h : P31 g) {i : Nat} {s : MS} {t b m : Int} (hs : g.ms[i]? = some s) : P31 { g with ms := g.ms.set i (s.ticked t b m) } := by
  have c := h.cl s (List.mem_of_getElem? hs)
  refine h.set hs rfl (fun r => ⟨r, rfl⟩) ⟨c.1, ?_⟩
  show (spOf t b { s with n := s.n + m }).isSome = true
  unfold spOf
  rw [Option.isSome_map]
  exact c.1
theorem P31.back {g : GS} (h : P31 g) {i : Nat} {s : MS} (hs : g.ms[i]? = some s) : P31 { g with ms := g.ms.set i { s with up := true } } := by
  have hm := List.mem_of_getElem? hs
  refine h.set hs rfl (fun r => ⟨r, ?_⟩) (h.cl s hm)
  exact (h.rt s hm r).1.symm
theorem P31.stop {g : GS} (h : P31 g) {i : Nat} {s : MS} (hs : g.ms[i]? = some s) : P31 { g with ms := g.ms.set i { s with up := false, rt := none } } :=
  h.set hs rfl (fun r => by cases r) (h.cl s (List.mem_of_getElem? hs))
theorem count_set {p : Int → Bool} {v : Int} (hv : p v = true) : ∀ (l : List Int) (i : Nat), (l.filter p).length ≤ ((l.set i v).filter p).length
  | [], _ => Nat.le_refl _
  | a :: r, 0 => by
    rw [List.set_cons_zero, List.filter_cons, List.filter_cons, if_pos hv]
    split <;> simp
  | a :: r, i + 1 => by
    rw [List.set_cons_succ, List.filter_cons, List.filter_cons]
    have := count_set hv r i
    split <;> simp <;> omega
/-- a copy has all of the book -/
theorem P31.all {g : GS} (h : P31 g) {i : Nat} {s s' : MS} (hs : g.ms[i]? = some s) (eh : s'.has = (g.ds.length : Int)) (eu : s'.rt.isSome = true → s'.up = true) (cl : s'.st = s.st ∧ s'.sp = s.sp) : P31 { g with ms := g.ms.set i s' } := by
  have hm := List.mem_of_getElem? hs
  refine ⟨fun u hu => ?_, fun u hu r => ?_, fun u hu => ?_, ?_, fun c hc => ?_, h.lo, h.fl⟩
  · rcases mem_set hu with z | rfl
    · exact h.hb u z
    · rw [eh]
      show 0 ≤ (g.ds.length : Int) ∧ (g.ds.length : Int) ≤ (g.ds.length : Int)
      omega
  · rcases mem_set hu with z | rfl
    · exact h.rt u z r
    · exact ⟨eu r, eh⟩
  · rcases mem_set hu with z | rfl
    · exact h.cl u z
    · rw [cl.1, cl.2]; exact h.cl s hm
  · show (g.ms.set i s').length < 2 * (((g.ms.set i s').map fun s => s.has).filter _).length
    rw [List.length_set, List.map_set, eh]
    have := count_set (p := fun h => decide (h = (g.ds.length : Int))) (v := (g.ds.length : Int)) (decide_eq_true rfl) (g.ms.map fun s => s.has) i
    have := h.most
    show g.ms.length < 2 * (((g.ms.map fun s => s.has).set i (g.ds.length : Int)).filter fun h => decide (h = (g.ds.length : Int))).length
    omega
  · show 0 ≤ c ∧ c < (g.ms.set i s').length
    rw [List.length_set]
    exact h.ch c hc
theorem head_rules {g : GS} (h : P31 g) {c : Int} {sh : MS} (e : headOf g = some c) (hs : g.ms[c.toNat]? = some sh) : sh.rt.isSome = true := by
  unfold headOf at e
  cases c2 : g.ch with
  | none => rw [c2] at e; cases e
  | some k =>
    rw [c2] at e
    have e : (if atG mayR g k.toNat = true then some k else none) = some c := e
    by_cases c3 : atG mayR g k.toNat = true
    · rw [if_pos c3] at e
      cases e
      rw [atG_of hs] at c3
      unfold mayR at c3
      cases c4 : sh.rt with
      | none => rw [c4] at c3; cases c3
      | some m => rfl
    · rw [if_neg c3] at e
      cases e
theorem P31.catch {g : GS} (h : P31 g) {i : Nat} {s sh : MS} {c : Int} (hs : g.ms[i]? = some s) (e : headOf g = some c) (hsh : g.ms[c.toNat]? = some sh) : P31 { g with ms := g.ms.set i { s with has := sh.has } } := by
  have r := head_rules h e hsh
  exact h.all hs (h.rt sh (List.mem_of_getElem? hsh) r).2 (fun z => (h.rt s (List.mem_of_getElem? hs) z).1) ⟨rfl, rfl⟩
theorem filter_two {α : Type} (p q : α → Bool) : ∀ l : List α, (l.filter p).length + (l.filter q).length ≤ l.length + (l.filter fun a => p a && q a).length
  | [] => Nat.le_refl _
  | a :: r => by
    have ih := filter_two p q r
    rw [List.filter_cons, List.filter_cons, List.filter_cons]
    cases p a <;> cases q a <;> simp <;> omega
theorem range_get (n j : Nat) : (List.range n)[j]? = if j < n then some j else none := by
  by_cases c : j < n
  · rw [if_pos c, List.getElem?_range c]
  · rw [if_neg c, List.getElem?_eq_none (by rw [List.length_range]; omega)]
theorem range_filter {g : GS} (p : Int → Bool) : ((g.ms.map fun s => s.has).filter p).length = ((List.range g.ms.length).filter fun i => p (hasG g i)).length := by
  have e : (g.ms.map fun s => s.has) = (List.range g.ms.length).map (hasG g) := by
    apply List.ext_getElem?
    intro j
    rw [List.getElem?_map, List.getElem?_map, range_get]
    by_cases c : j < g.ms.length
    · rw [if_pos c, List.getElem?_eq_getElem c]
      show some _ = some (hasG g j)
      unfold hasG
      rw [List.getElem?_eq_getElem c]
    · rw [if_neg c, List.getElem?_eq_none (by omega)]
      rfl
  rw [e, List.filter_map, List.length_map]
  rfl
/-- most promise, and most have all: one of them is both -/
theorem P31.max {g : GS} (h : P31 g) {mh : Int} (c : g.ms.length < 2 * (pickG canP g).length) (m : IsMax (hasG g) (pickG canP g) mh) : mh = (g.ds.length : Int) := by
  have h1 := h.most
  rw [range_filter] at h1
  have h2 := filter_two (atG canP g) (fun i => decide (hasG g i = (g.ds.length : Int))) (List.range g.ms.length)
  rw [List.length_range] at h2
  have h3 : 0 < ((List.range g.ms.length).filter fun a => atG canP g a && decide (hasG g a = (g.ds.length : Int))).length := by
    have e : (pickG canP g).length = ((List.range g.ms.length).filter (atG canP g)).length := rfl
    omega
  obtain ⟨k, hk⟩ := List.exists_mem_of_length_pos h3
  rw [List.mem_filter, Bool.and_eq_true, decide_eq_true_eq] at hk
  have kin : k ∈ pickG canP g := List.mem_filter.mpr ⟨hk.1, hk.2.1⟩
  have z := m.2 k kin
  obtain ⟨j, hj, ej⟩ := m.1
  obtain ⟨s, hs⟩ := getM (is_lt j hj)
  have y := (h.hb s (List.mem_of_getElem? hs)).2
  have e2 : hasG g j = s.has := by unfold hasG; rw [hs]
  have := hk.2.2
  omega
theorem P31.prom {g : GS} (h : P31 g) (is : List Nat) (till rg : Int) (r c : Int) (hc : 0 ≤ c ∧ c < g.ms.length) : P31 { g with rg := r, ch := some c, ms := promL g.ms is till rg } := by
  have mm : ∀ u ∈ promL g.ms is till rg, ∃ s ∈ g.ms, u.has = s.has ∧ u.rt = s.rt ∧ u.up = s.up ∧ u.st = s.st ∧ u.sp = s.sp := fun u hu => by
    obtain ⟨j, hj⟩ := List.getElem?_of_mem hu
    unfold promL at hj
    rw [List.getElem?_mapIdx] at hj
    cases e : g.ms[j]? with
    | none => rw [e] at hj; cases hj
    | some s =>
      rw [e] at hj
      have e2 : u = if j ∈ is then { s with pr := some till, pin := rg } else s := (Option.some.inj hj).symm
      refine ⟨s, List.mem_of_getElem? e, ?_⟩
      rw [e2]
      by_cases c2 : j ∈ is
      · rw [if_pos c2]; exact ⟨rfl, rfl, rfl, rfl, rfl⟩
      · rw [if_neg c2]; exact ⟨rfl, rfl, rfl, rfl, rfl⟩
  have hh : (promL g.ms is till rg).map (fun s => s.has) = g.ms.map fun s => s.has := by
    apply List.ext_getElem?
    intro j
    unfold promL
    rw [List.getElem?_map, List.getElem?_map, List.getElem?_mapIdx]
    cases g.ms[j]? with
    | none => rfl
    | some s =>
      show some (if j ∈ is then ({ s with pr := some till, pin := rg } : MS) else s).has = some s.has
      by_cases c2 : j ∈ is
      · rw [if_pos c2]
      · rw [if_neg c2]
  refine ⟨fun u hu => ?_, fun u hu r' => ?_, fun u hu => ?_, ?_, fun d hd => ?_, h.lo, h.fl⟩
  · obtain ⟨s, hs, a, _⟩ := mm u hu
    rw [a]; exact h.hb s hs
  · obtain ⟨s, hs, a, b', c', _⟩ := mm u hu
    rw [a, c']; exact h.rt s hs (b' ▸ r')
  · obtain ⟨s, hs, _, _, _, a, b'⟩ := mm u hu
    rw [a, b']; exact h.cl s hs
  · show (promL g.ms is till rg).length < 2 * (((promL g.ms is till rg).map fun s => s.has).filter _).length
    rw [promL_len, hh]
    exact h.most
  · show 0 ≤ d ∧ d < (promL g.ms is till rg).length
    rw [promL_len]
    have e : c = d := Option.some.inj hd
    subst e
    exact hc
theorem P31.choose {g : GS} (h : P31 g) {i : Nat} {s : MS} {mh till : Int} (hs : g.ms[i]? = some s) (c : canC g i = true) (m : IsMax (hasG g) (pickG canP g) mh) : P31 (choG g i s mh till) := by
  unfold canC at c
  rw [Bool.and_eq_true, decide_eq_true_eq, atG_of hs] at c
  have e := h.max c.2 m
  have up : s.up = true := by
    have := c.1
    unfold canP at this
    cases c2 : s.up with
    | true => rfl
    | false => rw [c2] at this; cases this
  have h1 := h.all (s' := { s with has := mh, rt := some till }) hs e (fun _ => up) ⟨rfl, rfl⟩
  have hi := (List.getElem?_eq_some_iff.mp hs).1
  exact h1.prom (pickG canP g) till (g.rg + 1) (g.rg + 1) i ⟨by omega, by
    show (i : Int) < (g.ms.set i _).length
    rw [List.length_set]
    omega⟩
theorem P31.write {g : GS} (h : P31 g) {ds : List PyData} (c : canW g = true) (hd : ds.all leafD = true) : P31 (wroteG g (.tuple ds)) := by
  have ln : (wroteG g (.tuple ds)).ms.length = g.ms.length := by unfold wroteG; rw [List.length_map]
  have dl : ((wroteG g (.tuple ds)).ds.length : Int) = (g.ds.length : Int) + 1 := by
    show ((g.ds ++ [PyData.tuple ds]).length : Int) = _
    rw [List.length_append]
    rfl
  have mm : ∀ u ∈ (wroteG g (.tuple ds)).ms, ∃ s ∈ g.ms, u.rt = s.rt ∧ u.up = s.up ∧ u.st = s.st ∧ u.sp = s.sp ∧ u.has = (if isWr g s = true then s.has + 1 else s.has) := fun u hu => by
    unfold wroteG at hu
    obtain ⟨s, hs, rfl⟩ := List.mem_map.mp hu
    refine ⟨s, hs, ?_⟩
    cases c2 : isWr g s with
    | true => rw [if_pos rfl, if_pos rfl]; exact ⟨rfl, rfl, rfl, rfl, rfl⟩
    | false => rw [if_neg (by decide), if_neg (by decide)]; exact ⟨rfl, rfl, rfl, rfl, rfl⟩
  have wr : ∀ s, isWr g s = true ↔ s.has = (g.ds.length : Int) ∧ s.up = true := fun s => by
    unfold isWr
    rw [Bool.and_eq_true, decide_eq_true_eq]
  refine ⟨fun u hu => ?_, fun u hu r => ?_, fun u hu => ?_, ?_, fun d hd' => ?_, h.lo, fun d hd' => ?_⟩
  · obtain ⟨s, hs, _, _, _, _, e⟩ := mm u hu
    have z := h.hb s hs
    rw [dl, e]
    cases c2 : isWr g s with
    | true =>
      have := (wr s).mp c2
      rw [if_pos rfl]
      omega
    | false =>
      rw [if_neg (by decide)]
      omega
  · obtain ⟨s, hs, a, b', _, _, e⟩ := mm u hu
    have z := h.rt s hs (a ▸ r)
    rw [dl, e, b', if_pos ((wr s).mpr ⟨z.2, z.1⟩)]
    exact ⟨z.1, by omega⟩
  · obtain ⟨s, hs, _, _, a, b', _⟩ := mm u hu
    rw [a, b']; exact h.cl s hs
  · rw [ln, dl]
    unfold canW at c
    rw [Bool.and_eq_true, decide_eq_true_eq] at c
    have e1 : ((wroteG g (.tuple ds)).ms.map fun s => s.has).filter (fun h => decide (h = (g.ds.length : Int) + 1)) = ((g.ms.filter (isWr g)).map fun s => s.has + 1) := by
      unfold wroteG
      show ((g.ms.map fun s => if isWr g s = true then ({ s with has := s.has + 1 } : MS) else s).map fun s => s.has).filter _ = _
      have go : ∀ l : List MS, (∀ s ∈ l, s.has ≤ (g.ds.length : Int)) → ((l.map fun s => if isWr g s = true then ({ s with has := s.has + 1 } : MS) else s).map fun s => s.has).filter (fun h => decide (h = (g.ds.length : Int) + 1)) = ((l.filter (isWr g)).map fun s => s.has + 1) := by
        intro l
        induction l with
        | nil => intro _; rfl
        | cons s r ih =>
          intro hl
          have ih := ih fun u hu => hl u (List.mem_cons_of_mem _ hu)
          have hs := hl s (List.mem_cons_self ..)
          rw [List.map_cons, List.map_cons, List.filter_cons, List.filter_cons, ih]
          cases c2 : isWr g s with
          | true =>
            have := (wr s).mp c2
            rw [if_pos rfl, if_pos (decide_eq_true (by show s.has + 1 = _; omega)), if_pos rfl, List.map_cons]
          | false =>
            have e5 : (if false = true then ({ s with has := s.has + 1 } : MS) else s) = s := if_neg (by decide)
            rw [e5, if_neg (by simp; omega), if_neg (by decide)]
      exact go g.ms fun s hs => (h.hb s hs).2
    rw [e1, List.length_map]
    have e2 : (g.ms.filter (isWr g)).length = (pickG (isWr g) g).length := by
      unfold pickG
      have e : g.ms.map (isWr g) = (List.range g.ms.length).map (atG (isWr g) g) := by
        apply List.ext_getElem?
        intro j
        rw [List.getElem?_map, List.getElem?_map, range_get]
        by_cases c : j < g.ms.length
        · rw [if_pos c, List.getElem?_eq_getElem c]
          show some _ = some (atG (isWr g) g j)
          rw [atG_of (List.getElem?_eq_getElem c)]
        · rw [if_neg c, List.getElem?_eq_none (by omega)]
          rfl
      have e3 : ∀ {α : Type} (l : List α) (f : α → Bool), (l.filter f).length = ((l.map f).filter id).length := fun l f => by
        rw [List.filter_map, List.length_map]
        rfl
      rw [e3, e3 (List.range g.ms.length), e]
    rw [e2]
    exact c.2
  · show 0 ≤ d ∧ d < (wroteG g (.tuple ds)).ms.length
    rw [ln]
    exact h.ch d hd'
  · have hd' : d ∈ g.ds ++ [PyData.tuple ds] := hd'
    rcases List.mem_append.mp hd' with z | z
    · exact h.fl d z
    · rw [List.mem_singleton.mp z]
      exact hd
theorem gp_lent (A : GA) (g : GS) (c : Bool) : putF "lent" (.bl c) (gf A g) = gf A { g with lent := c } := by unfold gf; rw [pf_skip (by decide +kernel), pf_skip (by decide +kernel), pf_skip (by decide +kernel), pf_skip (by decide +kernel), pf_skip (by decide +kernel), pf_skip (by decide +kernel), pf_skip (by decide +kernel), pf_skip (by decide +kernel), pf_skip (by decide +kernel), pf_skip (by decide +kernel), pf_skip (by decide +kernel), pf_hit]
def partsV (A : GA) (g : GS) : List V := [.ref A.ups, .ref A.has, .ref A.sts, .ref A.cts, .ref A.sps, .ref A.prs, .ref A.pins, .ref A.rts, .ref A.el, .bl g.loose, .int g.rg, oV g.ch]

theorem GroupAt.put_lent {K : PySem.W.Frag} {CG : Addr} {H : Hp} {x : Addr} {A : GA} {t b : Int} {g : GS} (h : GroupAt K CG H x A t b g) {dx : Addr} (hx : H x = some (.ins CG dx (gf A g))) (c : Bool) : Gx K CG H x A t b (upd H x (.ins CG dx (gf A { g with lent := c }))) A { g with lent := c } := by
  have l2 := h.ls.fr ((Fr.refl x H).put (o := .ins CG dx (gf A { g with lent := c }))) hx
  exact ⟨rfl, (Fr.refl x H).put, ⟨⟨dx, upd_same⟩, ⟨l2.dr, l2.ups, l2.has, l2.cts, l2.prs, l2.pins, l2.rts, l2.sts, l2.sps, l2.el, l2.e_ups, l2.e_has, l2.e_cts, l2.e_prs, l2.e_pins, l2.e_rts, l2.e_sts, l2.e_sps, l2.n5, l2.n1, l2.nn, l2.dl⟩⟩, fun _ z => .inl z⟩
section
variable (K : PySem.W.Frag) (CG : Addr)
def spParts : Sp := fun vs H Q _ => ∃ (x : Addr) (A : GA) (t b : Int) (g : GS), vs = [.ref x] ∧ GroupAt K CG H x A t b g ∧ ∀ p H', H p = none → Fr x H H' → GroupAt K CG H' x A t b { g with lent := true } → H' p = some (.tup (partsV A g)) → Q (.ref p) H'
def spPutParts : Sp := fun vs H Q _ => ∃ (y p dy : Addr) (A0 A : GA) (g0 g : GS), vs = [.ref y, .ref p] ∧ H y = some (.ins CG dy (gf A0 g0)) ∧ H p = some (.tup (partsV A g)) ∧ ∀ H', Fr y H H' → H' y = some (.ins CG dy (gf { A with dr := A0.dr } { g with le := g0.le, lent := true })) → Q .non H'
def spTwin : Sp := fun vs H Q _ => ∃ (x : Addr) (A : GA) (t b : Int) (g : GS), vs = [.ref x] ∧ GroupAt K CG H x A t b g ∧ 1 ≤ g.le ∧ g.le ≤ 1000 ∧ ∀ y A2 H', H y = none → y ≠ x → Fr x H H' → GroupAt K CG H' x A t b { g with lent := true } → GroupAt K CG H' y A2 t b { g with lent := true } → A2.all = A.all → A2.el = A.el → Q (.ref y) H'
end

theorem ok_Copies_parts {P : Program} {w : World} {K : PySem.W.Frag} {mg : Str → Option Value} {base : Heap} {a : Nat → Addr} {d : Nat → FuncData} (T : Txt K mg a d) : FnOk P w K mg base CX0 1 (a 25) (d 25) ["self"] (spParts K (a 42)) := by
  refine T.F_Copies_parts.ok sc_Copies_parts (fun vs H Q E h => ?_) (fun cdv A outer s0 H vs Q E hr h => ?_)
  · obtain ⟨x, A, t, b, g, rfl, hg, q⟩ := h
    rfl
  · obtain ⟨x, A, t, b, g, rfl, hg, q⟩ := h
    obtain ⟨dx, hx⟩ := hg.at_
    refine ⟨_, (pss_cons (ps_fld (pv 0) pe_bl rfl) (pss_one (ps_ret (pe_tup (pa_cons (pe_fld (pv 0) rfl) (pa_cons (pe_fld (pv 0) rfl) (pa_cons (pe_fld (pv 0) rfl) (pa_cons (pe_fld (pv 0) rfl) (pa_cons (pe_fld (pv 0) rfl) (pa_cons (pe_fld (pv 0) rfl) (pa_cons (pe_fld (pv 0) rfl) (pa_cons (pe_fld (pv 0) rfl) (pa_cons (pe_fld (pv 0) rfl) (pa_cons (pe_fld (pv 0) rfl) (pa_cons (pe_fld (pv 0) rfl) (pa_cons (pe_fld (pv 0) rfl) pa_nil)))))))))))))))), ?_⟩
    refine ⟨_, rfl, x, _, dx, _, rfl, hx, T.cl, T.n_lent, gf_len _ _, ?_⟩
    rw [gp_lent]
    have n1 := hg.put_lent hx true
    have hx1 : (upd H x (.ins (a 42) dx (gf A { g with lent := true }))) x = some (.ins (a 42) dx (gf A { g with lent := true })) := upd_same
    generalize (upd H x (.ins (a 42) dx (gf A { g with lent := true }))) = H1 at n1 hx1 ⊢
    refine ⟨_, rfl, x, _, dx, _, _, rfl, hx1, T.cl, T.n_ups, gf_ups _ _, _, rfl, x, _, dx, _, _, rfl, hx1, T.cl, T.n_has, gf_has _ _, _, rfl, x, _, dx, _, _, rfl, hx1, T.cl, T.n_stands, gf_stands _ _, _, rfl, x, _, dx, _, _, rfl, hx1, T.cl, T.n_counts, gf_counts _ _, _, rfl, x, _, dx, _, _, rfl, hx1, T.cl, T.n_spans, gf_spans _ _, _, rfl, x, _, dx, _, _, rfl, hx1, T.cl, T.n_promises, gf_promises _ _, _, rfl, x, _, dx, _, _, rfl, hx1, T.cl, T.n_promised_in, gf_promised_in _ _, _, rfl, x, _, dx, _, _, rfl, hx1, T.cl, T.n_rules_till, gf_rules_till _ _, _, rfl, x, _, dx, _, _, rfl, hx1, T.cl, T.n_entries, gf_entries _ _, _, rfl, x, _, dx, _, _, rfl, hx1, T.cl, T.n_loose, gf_loose _ _, _, rfl, x, _, dx, _, _, rfl, hx1, T.cl, T.n_reigns, gf_reigns _ _, _, rfl, x, _, dx, _, _, rfl, hx1, T.cl, T.n_chosen, gf_chosen _ _, (by decide : 12 ≤ sizeLine), fun p np => ?_⟩
    have s2 := same_new (o := .tup (partsV A g)) (Same.refl H1) np
    exact q p _ (fr_free n1.fr hx1 np) (n1.fr.trans (fr_same s2)) (n1.at_.same s2) upd_same

theorem ok_Copies_put_parts {P : Program} {w : World} {K : PySem.W.Frag} {mg : Str → Option Value} {base : Heap} {a : Nat → Addr} {d : Nat → FuncData} (T : Txt K mg a d) : FnOk P w K mg base CX0 1 (a 26) (d 26) ["self", "parts"] (spPutParts (a 42)) := by
  refine T.F_Copies_put_parts.ok sc_Copies_put_parts (fun vs H Q E h => ?_) (fun cdv A outer s0 H vs Q E hr h => ?_)
  · obtain ⟨y, p, dy, A0, A, g0, g, rfl, hy, hp, q⟩ := h
    rfl
  · obtain ⟨y, p, dy, A0, A, g0, g, rfl, hy, hp, q⟩ := h
    refine ⟨_, (pss_cons (ps_asg (pv 1) (pg_tup (by rfl) (pgs_cons (pg_fld (pv 0)) (pgs_cons (pg_fld (pv 0)) (pgs_cons (pg_fld (pv 0)) (pgs_cons (pg_fld (pv 0)) (pgs_cons (pg_fld (pv 0)) (pgs_cons (pg_fld (pv 0)) (pgs_cons (pg_fld (pv 0)) (pgs_cons (pg_fld (pv 0)) (pgs_cons (pg_fld (pv 0)) (pgs_cons (pg_fld (pv 0)) (pgs_cons (pg_fld (pv 0)) (pgs_cons (pg_fld (pv 0)) pgs_nil)))))))))))))) (pss_one (ps_fld (pv 0) pe_bl rfl))), ?_⟩
    refine ⟨_, rfl, p, _, rfl, SqT.of hp, rfl, ?_⟩
    refine ⟨_, _, rfl, _, rfl, y, _, dy, _, rfl, hy, T.cl, T.n_ups, gf_len _ _, ?_⟩
    rw [gp_ups]
    refine ⟨_, _, rfl, _, rfl, y, _, dy, _, rfl, upd_same, T.cl, T.n_has, gf_len _ _, ?_⟩
    rw [upd_twice, gp_has]
    refine ⟨_, _, rfl, _, rfl, y, _, dy, _, rfl, upd_same, T.cl, T.n_stands, gf_len _ _, ?_⟩
    rw [upd_twice, gp_stands]
    refine ⟨_, _, rfl, _, rfl, y, _, dy, _, rfl, upd_same, T.cl, T.n_counts, gf_len _ _, ?_⟩
    rw [upd_twice, gp_counts]
    refine ⟨_, _, rfl, _, rfl, y, _, dy, _, rfl, upd_same, T.cl, T.n_spans, gf_len _ _, ?_⟩
    rw [upd_twice, gp_spans]
    refine ⟨_, _, rfl, _, rfl, y, _, dy, _, rfl, upd_same, T.cl, T.n_promises, gf_len _ _, ?_⟩
    rw [upd_twice, gp_promises]
    refine ⟨_, _, rfl, _, rfl, y, _, dy, _, rfl, upd_same, T.cl, T.n_promised_in, gf_len _ _, ?_⟩
    rw [upd_twice, gp_promised_in]
    refine ⟨_, _, rfl, _, rfl, y, _, dy, _, rfl, upd_same, T.cl, T.n_rules_till, gf_len _ _, ?_⟩
    rw [upd_twice, gp_rules_till]
    refine ⟨_, _, rfl, _, rfl, y, _, dy, _, rfl, upd_same, T.cl, T.n_entries, gf_len _ _, ?_⟩
    rw [upd_twice, gp_entries]
    refine ⟨_, _, rfl, _, rfl, y, _, dy, _, rfl, upd_same, T.cl, T.n_loose, gf_len _ _, ?_⟩
    rw [upd_twice, gp_loose]
    refine ⟨_, _, rfl, _, rfl, y, _, dy, _, rfl, upd_same, T.cl, T.n_reigns, gf_len _ _, ?_⟩
    rw [upd_twice, gp_reigns]
    refine ⟨_, _, rfl, _, rfl, y, _, dy, _, rfl, upd_same, T.cl, T.n_chosen, gf_len _ _, ?_⟩
    rw [upd_twice, gp_chosen]
    refine ⟨rfl, _, rfl, y, _, dy, _, rfl, upd_same, T.cl, T.n_lent, gf_len _ _, ?_⟩
    rw [upd_twice, gp_lent]
    exact q _ ((Fr.refl y H).put) upd_same

theorem ok_Copies_twin {P : Program} {w : World} {K : PySem.W.Frag} {mg : Str → Option Value} {base : Heap} {a : Nat → Addr} {d : Nat → FuncData} (T : Txt K mg a d) : FnOk P w K mg base CX0 7 (a 27) (d 27) ["self"] (spTwin K (a 42)) := by
  refine T.F_Copies_twin.ok sc_Copies_twin (fun vs H Q E h => ?_) (fun cdv A outer s0 H vs Q E hr h => ?_)
  · obtain ⟨x, A, t, b, g, rfl, hg, le1, le2, q⟩ := h
    rfl
  · obtain ⟨x, A, t, b, g, rfl, hg, le1, le2, q⟩ := h
    obtain ⟨dx, hx⟩ := hg.at_
    refine ⟨_, (pss_cons (ps_set (i := 1) sc_Copies_twin.nd rfl (Or.inl rfl) (pe_makeN T.m_Copies___init__ (ok_Copies___init__ T) (hr.mono (by decide)) (by rfl) T.g_Copies T.k_Copies___init__ pass0 (pa_cons (pe_callB call_len_seq (by rfl) T.z_len PySem.boot_len (pa_cons (pe_fld (pv 0) rfl) pa_nil)) pa_nil) (pk_cons (pe_fld (pv 0) rfl) (pk_cons (pe_fld (pv 0) rfl) pk_nil)))) (pss_cons (ps_expr (pe_meth (pv 1) T.cl T.m_Copies_put_parts (ok_Copies_put_parts T) (hr.mono (by decide)) T.b_Copies_put_parts .nil pass0 (pa_cons (pe_meth0 (pv 0) T.cl T.m_Copies_parts (ok_Copies_parts T) (hr.mono (by decide)) T.b_Copies_parts .nil pass0) pa_nil))) (pss_one (ps_ret (pv 1))))), ?_⟩
    refine ⟨_, rfl, x, _, dx, _, _, rfl, hx, T.cl, T.n_ups, gf_ups _ _, A.ups, _, rfl, .inl (SqL.of hg.ls.ups), _, rfl, x, _, dx, _, _, rfl, hx, T.cl, T.n_most_drift, gf_most_drift _ _, _, rfl, x, _, dx, _, _, rfl, hx, T.cl, T.n_lease, gf_lease _ _, rfl, rfl, fun y dy ny ndy ney => ?_⟩
    have sm := same_make (o1 := .own y) (o2 := .ins (a 42) dy []) ny ndy
    have hy1 : (upd (upd H dy (.own y)) y (.ins (a 42) dy [])) y = some (.ins (a 42) dy []) := upd_same
    generalize (upd (upd H dy (.own y)) y (.ins (a 42) dy [])) = H1 at sm hy1 ⊢
    have yx : y ≠ x := (ne_of_none hx ny).symm
    refine ⟨y, dy, g.ms.length, A.dr, g.le, t, b, (by rw [List.length_map]; rfl), hy1, hg.ls.n1, hg.ls.n5, le1, le2, hg.ls.dr.same sm, fun A0 H2 fA eA F2 hg2 => ⟨rfl, ?_⟩⟩
    have S2 : Same H H2 := fun c o e => F2 _ _ (ne_of_none e ny) (sm _ _ e)
    obtain ⟨dy2, hy2⟩ := hg2.at_
    have hgx := hg.same S2
    obtain ⟨dx2, hx2⟩ := hgx.at_
    refine ⟨_, rfl, y, dy2, _, rfl, hy2, gf_no _ _ (by decide +kernel) (by decide +kernel) (by decide +kernel) (by decide +kernel) (by decide +kernel) (by decide +kernel) (by decide +kernel) (by decide +kernel) (by decide +kernel) (by decide +kernel) (by decide +kernel) (by decide +kernel) (by decide +kernel) (by decide +kernel) (by decide +kernel), _, rfl, x, dx2, _, rfl, hx2, gf_no _ _ (by decide +kernel) (by decide +kernel) (by decide +kernel) (by decide +kernel) (by decide +kernel) (by decide +kernel) (by decide +kernel) (by decide +kernel) (by decide +kernel) (by decide +kernel) (by decide +kernel) (by decide +kernel) (by decide +kernel) (by decide +kernel) (by decide +kernel), x, A, t, b, g, rfl, hgx, fun p H3 np F3 hg3 hp3 => ?_⟩
    have hy3 := F3 _ _ yx hy2
    refine ⟨y, p, dy2, A0, A, _, g, rfl, hy3, hp3, fun H4 F4 hy4 => ?_⟩
    have hg4 : GroupAt K (a 42) H4 x A t b { g with lent := true } := by
      obtain ⟨⟨dx3, hx3⟩, l3⟩ := hg3
      exact ⟨⟨dx3, F4 _ _ yx.symm hx3⟩, l3.fr F4 hy3⟩
    have l0 := (hg2.ls.fr F3 hx2).fr F4 hy3
    have l4 := hg4.ls
    exact ⟨_, rfl, q y { A with dr := A0.dr } H4 ny yx (fun c o nc e => F4 c o (ne_of_none e ny) (F3 c o nc (S2 c o e))) hg4 ⟨⟨dy2, hy4⟩, ⟨l0.dr, l4.ups, l4.has, l4.cts, l4.prs, l4.pins, l4.rts, l4.sts, l4.sps, l4.el, l4.e_ups, l4.e_has, l4.e_cts, l4.e_prs, l4.e_pins, l4.e_rts, l4.e_sts, l4.e_sps, l4.n5, l4.n1, l4.nn, l4.dl⟩⟩ rfl rfl⟩


section
variable (K : PySem.W.Frag) (CG : Addr)
def spIsUp : Sp := fun vs H Q _ => ∃ (x : Addr) (A : GA) (t b : Int) (g : GS) (i : Nat) (s : MS), vs = [.ref x, .int (i : Int)] ∧ GroupAt K CG H x A t b g ∧ g.ms[i]? = some s ∧ Q (.bl s.up) H
def spClock (CC : Addr) : Sp := fun vs H Q _ => ∃ (x : Addr) (A : GA) (t b : Int) (g : GS) (i : Nat) (s : MS), vs = [.ref x, .int (i : Int)] ∧ GroupAt K CG H x A t b g ∧ g.ms[i]? = some s ∧ ∀ c H', H c = none → Same H H' → CkAt K CC H' c A.dr t b s.st s.n → Q (.ref c) H'
end
theorem head_at {g : GS} {c : Int} (ok : GOk g) (e : headOf g = some c) : ∃ (i : Nat) (s : MS) (T : Int), c = (i : Int) ∧ g.ch = some (i : Int) ∧ g.ms[i]? = some s ∧ s.rt = some T ∧ mayR s = true := by
  unfold headOf at e
  cases c2 : g.ch with
  | none => rw [c2] at e; cases e
  | some k =>
    rw [c2] at e
    have e : (if atG mayR g k.toNat = true then some k else none) = some c := e
    obtain ⟨k0, k1⟩ := ok.ch k c2
    obtain ⟨i, rfl⟩ := Int.eq_ofNat_of_zero_le k0
    by_cases c3 : atG mayR g i = true
    · have e : (if atG mayR g i = true then some (i : Int) else none) = some c := e
      rw [if_pos c3] at e
      cases e
      obtain ⟨s, hs⟩ := getM (ms := g.ms) (i := i) (by omega)
      rw [atG_of hs] at c3
      have c4 := c3
      unfold mayR at c3
      cases c5 : s.rt with
      | none => rw [c5] at c3; cases c3
      | some T => exact ⟨i, s, T, rfl, rfl, hs, c5, c4⟩
    · have e : (if atG mayR g i = true then some (i : Int) else none) = some c := e
      rw [if_neg c3] at e
      cases e

theorem ok_Copies_is_up {P : Program} {w : World} {K : PySem.W.Frag} {mg : Str → Option Value} {base : Heap} {a : Nat → Addr} {d : Nat → FuncData} (T : Txt K mg a d) : FnOk P w K mg base CX0 3 (a 23) (d 23) ["self", "copy"] (spIsUp K (a 42)) := by
  refine T.F_Copies_is_up.ok sc_Copies_is_up (fun vs H Q E h => ?_) (fun cdv A outer s0 H vs Q E hr h => ?_)
  · obtain ⟨x, A, t, b, g, i, s, rfl, hg, hs, q⟩ := h
    rfl
  · obtain ⟨x, A, t, b, g, i, s, rfl, hg, hs, q⟩ := h
    obtain ⟨dx, hx⟩ := hg.at_
    have hi : i < g.ms.length := (List.getElem?_eq_some_iff.mp hs).1
    refine ⟨_, (pss_cons (ps_expr (pe_meth (pv 0) T.cl T.m_Copies_refuse_no_copy (ok_Copies_refuse_no_copy T) (hr.mono (by decide)) T.b_Copies_refuse_no_copy .nil pass0 (pa_cons (pv 1) pa_nil))) (pss_one (ps_ret (pe_ix ix_list (pe_fld (pv 0) rfl) (pv 1) (fun _ _ => rfl))))), ?_⟩
    refine ⟨_, rfl, x, dx, _, rfl, hx, gf_no _ _ (by decide +kernel) (by decide +kernel) (by decide +kernel) (by decide +kernel) (by decide +kernel) (by decide +kernel) (by decide +kernel) (by decide +kernel) (by decide +kernel) (by decide +kernel) (by decide +kernel) (by decide +kernel) (by decide +kernel) (by decide +kernel) (by decide +kernel), _, rfl, x, A, t, b, g, i, rfl, hg, hi, ?_⟩
    exact ⟨_, rfl, x, _, dx, _, _, rfl, hx, T.cl, T.n_ups, gf_ups _ _, _, rfl, A.ups, _, (i : Int), _, rfl, rfl, SqL.of hg.ls.ups, atI_map _ hs, q⟩

theorem ok_Copies_clock {P : Program} {w : World} {K : PySem.W.Frag} {mg : Str → Option Value} {base : Heap} {a : Nat → Addr} {d : Nat → FuncData} (T : Txt K mg a d) : FnOk P w K mg base CX0 7 (a 24) (d 24) ["self", "copy"] (spClock K (a 42) (a 43)) := by
  refine T.F_Copies_clock.ok sc_Copies_clock (fun vs H Q E h => ?_) (fun cdv A outer s0 H vs Q E hr h => ?_)
  · obtain ⟨x, A, t, b, g, i, s, rfl, hg, hs, q⟩ := h
    rfl
  · obtain ⟨x, A, t, b, g, i, s, rfl, hg, hs, q⟩ := h
    obtain ⟨dx, hx⟩ := hg.at_
    have hi : i < g.ms.length := (List.getElem?_eq_some_iff.mp hs).1
    obtain ⟨vst, est, qst⟩ := hg.ls.sts
    obtain ⟨sv, e1, e2⟩ := qst.get (i := i) (s := s.st) (by rw [List.getElem?_map, hs]; rfl)
    refine ⟨_, (pss_cons (ps_expr (pe_meth (pv 0) T.cl T.m_Copies_refuse_no_copy (ok_Copies_refuse_no_copy T) (hr.mono (by decide)) T.b_Copies_refuse_no_copy .nil pass0 (pa_cons (pv 1) pa_nil))) (pss_cons (ps_set (i := 2) sc_Copies_clock.nd rfl (Or.inl rfl) (pe_make T.m_Clock___init__ (ok_Clock___init__ T) (hr.mono (by decide)) (by rfl) T.g_Clock T.b_Clock___init__ .nil pass0 (pa_cons (pe_fld (pv 0) rfl) pa_nil))) (pss_cons (ps_fld (pv 2) (pe_ix ix_list (pe_fld (pv 0) rfl) (pv 1) (fun _ _ => rfl)) rfl) (pss_cons (ps_fld (pv 2) (pe_ix ix_list (pe_fld (pv 0) rfl) (pv 1) (fun _ _ => rfl)) rfl) (pss_one (ps_ret (pv 2))))))), ?_⟩
    refine ⟨_, rfl, x, dx, _, rfl, hx, gf_no _ _ (by decide +kernel) (by decide +kernel) (by decide +kernel) (by decide +kernel) (by decide +kernel) (by decide +kernel) (by decide +kernel) (by decide +kernel) (by decide +kernel) (by decide +kernel) (by decide +kernel) (by decide +kernel) (by decide +kernel) (by decide +kernel) (by decide +kernel), _, rfl, x, A, t, b, g, i, rfl, hg, hi, ?_⟩
    refine ⟨_, rfl, x, _, dx, _, _, rfl, hx, T.cl, T.n_most_drift, gf_most_drift _ _, fun c dc nc ndc nec => ?_⟩
    have sm := same_make (o1 := .own c) (o2 := .ins (a 43) dc []) nc ndc
    refine ⟨c, A.dr, dc, t, b, rfl, upd_same, hg.ls.dr.same sm, fun H1 f1 hk => ⟨rfl, ?_⟩⟩
    have S1 : Same H H1 := f1.over sm nc
    obtain ⟨⟨dc1, sv1, hc1, _⟩, hdr1, _⟩ := id hk
    have hx1 := S1 _ _ hx
    have ncx : x ≠ c := ne_of_none hx nc
    refine ⟨_, rfl, x, _, dx, _, _, rfl, hx1, T.cl, T.n_stands, gf_stands _ _, _, rfl, A.sts, _, (i : Int), _, rfl, rfl, SqL.of (S1 _ _ est), atI_nat e1, _, rfl, c, _, dc1, _, rfl, hc1, T.cl_Clock, T.n_Clock_stands, cf_len _ _ _, ?_⟩
    rw [cf_put_s]
    refine ⟨_, rfl, x, _, dx, _, _, rfl, (by rw [upd_ne ncx]; exact hx1), T.cl, T.n_counts, gf_counts _ _, _, rfl, A.cts, _, (i : Int), _, rfl, rfl, SqL.of (by rw [upd_ne (ne_of (S1 _ _ hg.ls.cts) hc1 (by intro z; cases z))]; exact S1 _ _ hg.ls.cts), atI_map _ hs, _, rfl, c, _, dc1, _, rfl, upd_same, T.cl_Clock, T.n_Clock_counted, cf_len _ _ _, ?_⟩
    rw [cf_put_c]
    have f2 : ∀ o1 o2, Fr c H1 (upd (upd H1 c o1) c o2) := fun _ _ => ((Fr.refl c H1).put).put
    have S2 : ∀ o1 o2, Same H (upd (upd H1 c o1) c o2) := fun o1 o2 d o e => f2 o1 o2 d o (ne_of_none e nc) (S1 _ _ e)
    exact ⟨_, rfl, q c _ nc (S2 _ _) ⟨⟨dc1, sv, upd_same, svat_same e2 (S2 _ _)⟩, hg.ls.dr.same (S2 _ _), hg.ls.nn s (List.mem_of_getElem? hs)⟩⟩

/-! ### k26: what is told or refused -/
theorem dpall_ups {K : PySem.W.Frag} {H H' : Hp} {vs : List V} {ds : List PyData} (h : DpAll K H vs ds) (k : Same H H') : DpAll K H' vs ds := dpall_same h k
/-- no copy of n -/
def BadC (K : PySem.W.Frag) (H : Hp) (v : V) (n : Nat) : Prop := ∃ d, An K H v d ∧ fromToD d 0 ((n : Int) - 1) = false
/-- told bounds can't stand -/
def okB (lo hi : Int) (sp : Option (Int × Int)) : Prop := lo ≤ hi ∧ btwL lo sp ≤ btwH hi sp
def MS.stopped (s : MS) : MS := { s with up := false, rt := none }
def MS.backed (s : MS) : MS := { s with up := true }
/-- one deed at a copy: its answer, its state behind -/
inductive StepD (lo hi : Int) (s : MS) : Int → Str → MS → Prop
  | stop : StepD lo hi s 0 "told" s.stopped
  | back : StepD lo hi s 1 "told" s.backed
  | set (h : okB lo hi s.sp) : StepD lo hi s 2 "told" (s.setTo 1 100 (btwL lo s.sp, btwH hi s.sp))
  | not (h : ¬ okB lo hi s.sp) : StepD lo hi s 2 "bounds" s
  | tick : StepD lo hi s 3 "told" (s.ticked 1 100 lo)
theorem StepD.uniq {lo hi : Int} {s : MS} {w : Int} {r r' : Str} {u u' : MS} (a : StepD lo hi s w r u) (b : StepD lo hi s w r' u') : r = r' ∧ u = u' := by
  cases a <;> cases b <;> first | exact ⟨rfl, rfl⟩ | (exfalso; contradiction)
theorem set_self {ms : List MS} {i : Nat} {s : MS} (h : ms[i]? = some s) : ms.set i s = ms := by
  apply List.ext_getElem?
  intro j
  rw [List.getElem?_set]
  by_cases c : i = j
  · subst c
    rw [if_pos rfl, if_pos (List.getElem?_eq_some_iff.mp h).1, h]
  · rw [if_neg c]
theorem Gx.free {K : PySem.W.Frag} {CG : Addr} {H H' : Hp} {x c : Addr} {A A' : GA} {t b : Int} {g' : GS} (n : Gx K CG H x A t b H' A' g') (e : H' c = none) : H c = none := by
  obtain ⟨dx, hx⟩ := n.at_.at_
  exact fr_free n.fr hx e
def shownB (d : PyData) : Prop := d.showable = true ∧ d.depth ≤ 64 ∧ d.shown.length ≤ sizeLine
section
variable (K : PySem.W.Frag) (CG : Addr)
def spRefCX (NC : Addr) : Sp := fun vs H _ E => ∃ (x : Addr) (A : GA) (t b : Int) (g : GS) (v : V), vs = [.ref x, v] ∧ GroupAt K CG H x A t b g ∧ BadC K H v g.ms.length ∧ Out E NC "copy" v H
def spTickCX (NC NN : Addr) : Sp := fun vs H _ E => ∃ (x : Addr) (A : GA) (t b : Int) (g : GS) (v w : V), vs = [.ref x, v, w] ∧ GroupAt K CG H x A t b g ∧
  ((BadC K H v g.ms.length ∧ Out E NC "copy" v H) ∨ ∃ (i : Nat) (m : Int), v = .int (i : Int) ∧ w = .int m ∧ i < g.ms.length ∧ m < 0 ∧ Out E NN "text" (.str "no whole number from 0 on") H)
def spSetX (NC NB : Addr) : Sp := fun vs H _ E => ∃ (x : Addr) (A : GA) (t b : Int) (g : GS) (v : V) (lo hi : Int), vs = [.ref x, v, .int lo, .int hi] ∧ GroupAt K CG H x A t b g ∧
  ((BadC K H v g.ms.length ∧ Out E NC "copy" v H) ∨ ∃ (i : Nat) (s : MS), v = .int (i : Int) ∧ g.ms[i]? = some s ∧ ¬ okB lo hi s.sp ∧ Out2 E NB "low" "high" (.int lo) (.int hi) H)
def spSBX (NB : Addr) : Sp := fun vs H _ E => ∃ (tv : V) (sp : Option (Int × Int)) (lo hi : Int), vs = [tv, .int lo, .int hi] ∧ SvAt K H tv sp ∧ ¬ okB lo hi sp ∧ Out2 E NB "low" "high" (.int lo) (.int hi) H
def spBookX (NC : Addr) : Sp := fun vs H Q E => ∃ (x : Addr) (A : GA) (t b : Int) (g : GS) (v : V), vs = [.ref x, v] ∧ GroupAt K CG H x A t b g ∧ v ≠ .non ∧ BadC K H v g.ms.length ∧ Out E NC "copy" v H
abbrev spStopB (NC : Addr) : Sp := fun vs H Q E => spSetM K CG (fun s => { s with up := false, rt := none }) vs H Q E ∨ spRefCX K CG NC vs H Q E
abbrev spBackB (NC : Addr) : Sp := fun vs H Q E => spSetM K CG (fun s => { s with up := true }) vs H Q E ∨ spRefCX K CG NC vs H Q E
abbrev spTickB (NC NN : Addr) : Sp := fun vs H Q E => spTickC K CG vs H Q E ∨ spTickCX K CG NC NN vs H Q E
abbrev spSetB (NC NB : Addr) : Sp := fun vs H Q E => spSetC K CG vs H Q E ∨ spSetX K CG NC NB vs H Q E
abbrev spBookB (NC : Addr) : Sp := fun vs H Q E => spBook K CG vs H Q E ∨ spBookX K CG NC vs H Q E
/-- what is said -/
inductive Said (H : Hp) (Q : VK) (x : Addr) (A : GA) (g : GS) : Int → V → V → Prop
  | bad {w : Int} {v : V} {p : Addr} {lo hi : Int} {d : PyData} (h0 : 0 ≤ w) (h9 : w < 9) (hp : H p = some (.tup [.int lo, .int hi])) (ha : An K H v d) (sh : shownB d) (hb : fromToD d 0 ((g.ms.length : Int) - 1) = false) (nn : w = 8 → v ≠ .non)
      (q : ∀ r H', H r = none → Same H H' → H' r = some (.lst [.str "copy", .str d.shown, .bl true]) → Q (.ref r) H') : Said H Q x A g w v (.ref p)
  | book {pv : V} (lo : g.loose = false) (q : ∀ r H', H r = none → Same H H' → H' r = some (.lst [.str "told"]) → Q (.ref r) H') : Said H Q x A g 8 .non pv
  | deed {w : Int} {i : Nat} {s : MS} {p : Addr} {lo hi : Int} (h0 : 0 ≤ w) (h4 : w < 4) (l0 : 0 ≤ lo) (hs : g.ms[i]? = some s) (hp : H p = some (.tup [.int lo, .int hi]))
      (q : ∀ r H' A' res u, H r = none → StepD lo hi s w res u → Gx K CG H x A 1 100 H' A' { g with ms := g.ms.set i u } → H' r = some (.lst [.str res]) → Q (.ref r) H') : Said H Q x A g w (.int (i : Int)) (.ref p)
  | neg {i : Nat} {m : Int} {p : Addr} (hi : i < g.ms.length) (m0 : m < 0) (hp : H p = some (.tup [.int m])) (q : ∀ r H', H r = none → Same H H' → H' r = some (.lst [.str "number"]) → Q (.ref r) H') : Said H Q x A g 3 (.int (i : Int)) (.ref p)
def spSaid26 : Sp := fun vs H Q _ => ∃ (x : Addr) (A : GA) (g : GS) (w : Int) (v pv : V), vs = [.ref x, .int w, v, pv] ∧ GroupAt K CG H x A 1 100 g ∧ Said K CG H Q x A g w v pv
end

theorem ok_is_wholeD {P : Program} {w : World} {K : PySem.W.Frag} {mg : Str → Option Value} {base : Heap} {a : Nat → Addr} {d : Nat → FuncData} (T : Txt K mg a d) : FnOk P w K mg base CX0 1 (a 0) (d 0) ["thing"] (spWholeD K) := by
  refine T.F_is_whole.ok sc_is_whole (fun vs H Q E h => ?_) (fun cdv A outer s0 H vs Q E hr h => ?_)
  · obtain ⟨v, d', rfl, ha, q⟩ := h
    rfl
  · obtain ⟨v, d', rfl, ha, q⟩ := h
    refine ⟨_, (pss_one (ps_ret (pe_and (pe_callB call_isi (by rfl) T.z_isinstance (by decide +kernel) (pa_cons (pv 0) (pa_cons (pe_bltn (v := .ty "int") (by rfl) T.z_int (by decide +kernel) rfl) pa_nil))) (pe_one (pe_not (pe_callB call_isi (by rfl) T.z_isinstance (by decide +kernel) (pa_cons (pv 0) (pa_cons (pe_bltn (v := .ty "bool") (by rfl) T.z_bool (by decide +kernel) rfl) pa_nil)))))))), ?_⟩
    obtain ⟨t, i, b, c, ty, ei, eb, _, ew, _⟩ := ha.is
    refine ⟨_, rfl, v, .ty "int", t, .type "int", i, rfl, .ty "int", ty, ei, i, rfl, ?_⟩
    cases i with
    | false => exact iteF (bq (Q := Q) ew.symm q)
    | true => exact iteT ⟨_, rfl, v, .ty "bool", t, .type "bool", b, rfl, .ty "bool", ty, eb, b, rfl, bq (Q := Q) ew.symm q⟩

theorem ok_is_countD {P : Program} {w : World} {K : PySem.W.Frag} {mg : Str → Option Value} {base : Heap} {a : Nat → Addr} {d : Nat → FuncData} (T : Txt K mg a d) : FnOk P w K mg base CX0 2 (a 1) (d 1) ["thing"] (spCountD K) := by
  refine T.F_is_count.ok sc_is_count (fun vs H Q E h => ?_) (fun cdv A outer s0 H vs Q E hr h => ?_)
  · obtain ⟨v, d', rfl, ha, q⟩ := h
    rfl
  · obtain ⟨v, d', rfl, ha, q⟩ := h
    refine ⟨_, (pss_one (ps_ret (pe_and (pe_call (ok_is_wholeD T) (hr.mono (by decide)) (by rfl) T.g_is_whole T.F_is_whole.kp T.b_is_whole .nil pass0 (pa_cons (pv 0) pa_nil)) (pe_one (pe_cmpR op_ge (pv 0) pe_int (nomark _)))))), ?_⟩
    refine ⟨_, rfl, v, d', rfl, ha, _, rfl, ?_⟩
    cases e : wholeD d' with
    | false => exact iteF (bq (Q := Q) (count_no e) q)
    | true =>
      obtain ⟨n, rfl⟩ := whole_int e
      have ev : v = .int n := by
        cases ha with
        | dp h => cases h; rfl
      subst ev
      exact iteT ⟨_, rfl, n, 0, rfl, rfl, q⟩

theorem ok_is_from_toD {P : Program} {w : World} {K : PySem.W.Frag} {mg : Str → Option Value} {base : Heap} {a : Nat → Addr} {d : Nat → FuncData} (T : Txt K mg a d) : FnOk P w K mg base CX0 1 (a 2) (d 2) ["thing", "least", "most"] (spFromToD K) := by
  refine T.F_is_from_to.ok sc_is_from_to (fun vs H Q E h => ?_) (fun cdv A outer s0 H vs Q E hr h => ?_)
  · obtain ⟨v, d', lo, hi, rfl, ha, q⟩ := h
    rfl
  · obtain ⟨v, d', lo, hi, rfl, ha, q⟩ := h
    refine ⟨_, (pss_one (ps_ret (pe_and (pe_callB call_isi (by rfl) T.z_isinstance (by decide +kernel) (pa_cons (pv 0) (pa_cons (pe_bltn (v := .ty "int") (by rfl) T.z_int (by decide +kernel) rfl) pa_nil))) (pe_and (pe_not (pe_callB call_isi (by rfl) T.z_isinstance (by decide +kernel) (pa_cons (pv 0) (pa_cons (pe_bltn (v := .ty "bool") (by rfl) T.z_bool (by decide +kernel) rfl) pa_nil)))) (pe_one (pe_chain op_le op_le (pv 1) (pv 0) (pv 2))))))), ?_⟩
    obtain ⟨t, i, b, c, ty, ei, eb, _, ew, _⟩ := ha.is
    refine ⟨_, rfl, v, .ty "int", t, .type "int", i, rfl, .ty "int", ty, ei, i, rfl, ?_⟩
    cases i with
    | false => exact iteF (bq (Q := Q) (fromTo_no ew.symm) q)
    | true =>
      refine iteT ⟨_, rfl, v, .ty "bool", t, .type "bool", b, rfl, .ty "bool", ty, eb, b, rfl, _, rfl, ?_⟩
      cases b with
      | true => exact iteF (bq (Q := Q) (fromTo_no ew.symm) q)
      | false =>
        obtain ⟨n, rfl⟩ := whole_int ew.symm
        have ev : v = .int n := by
          cases ha with
          | dp h => cases h; rfl
        subst ev
        refine iteT ⟨_, rfl, _, rfl, lo, n, rfl, rfl, _, rfl, ?_⟩
        by_cases h1 : lo ≤ n
        · refine iteDT h1 ⟨_, rfl, n, hi, rfl, rfl, bq (Q := Q) ?_ q⟩
          simp only [fromToD, h1, decide_true, Bool.true_and]
        · refine iteDF h1 (bq (Q := Q) ?_ q)
          simp only [fromToD, h1, decide_false, Bool.false_and]

theorem ok_refuse_no_countX {P : Program} {w : World} {K : PySem.W.Frag} {mg : Str → Option Value} {base : Heap} {a : Nat → Addr} {d : Nat → FuncData} (T : Txt K mg a d) : FnOk P w K mg base (L2.CX P w) 4 (a 6) (d 6) ["thing"] (spRefX K (a 103)) := by
  refine T.F_refuse_no_count.okX sc_refuse_no_count (fun vs H Q E h => ?_) (fun cdv A outer s0 H vs Q E hr h => ?_)
  · obtain ⟨v, d', rfl, ha, hd, q⟩ := h
    rfl
  · obtain ⟨v, d', rfl, ha, hd, q⟩ := h
    refine ⟨_, (pss_one (ps_if (pt_not (pt_truth (pe_call (ok_is_countD T) (hr.mono (by decide)) (by rfl) T.g_is_count T.F_is_count.kp T.b_is_count .nil pass0 (pa_cons (pv 0) pa_nil)) (by intro _; rfl))) (pss_one (ps_raise rfl (takes_of rfl rfl rfl rfl) (XB.pmk T.xo_NoNumber T.ie_NoNumber T.te_WaitError (ok_IWaitError T T.xo_NoNumber T.ne_NoNumber_text) (hr.mono (by decide)) T.b_IWaitError pass0 (by rfl) T.gE_NoNumber (pa_cons pe_str pa_nil)))) pss_nil)), ?_⟩
    refine ⟨_, rfl, v, d', rfl, ha, _, rfl, ?_⟩
    rw [hd]
    refine iteT ?_
    refine ⟨(by show 1 ≤ 1000; decide), fun y ny => ⟨y, _, rfl, upd_same, fun dx' H' ndx ne e1 e2 k => ?_⟩⟩
    have nd := ndx
    rw [upd_ne ne] at nd
    exact ⟨rfl, dx', _, e1, e2, nd, q dx' _ (same_err3 ny nd k) upd_same⟩

theorem ok_set_betweenX {P : Program} {w : World} {K : PySem.W.Frag} {mg : Str → Option Value} {base : Heap} {a : Nat → Addr} {d : Nat → FuncData} (T : Txt K mg a d) : FnOk P w K mg base (L2.CX P w) 3 (a 10) (d 10) ["told", "low", "high"] (spSBX K (a 102)) := by
  refine T.F_set_between.okX sc_set_between (fun vs H Q E h => ?_) (fun cdv A outer s0 H vs Q E hr h => ?_)
  · obtain ⟨tv, sp, lo, hi, rfl, hs, nb, q⟩ := h
    rfl
  · obtain ⟨tv, sp, lo, hi, rfl, hs, nb, q⟩ := h
    refine ⟨_, (pss_cons (ps_if (PW.pt (pw_or (pt_not (pt_truth (pe_call (ok_is_wholeD T) (hr.mono (by decide)) (by rfl) T.g_is_whole T.F_is_whole.kp T.b_is_whole .nil pass0 (pa_cons (pv 1) pa_nil)) (by intro _; rfl))) (pw_or (pt_not (pt_truth (pe_call (ok_is_wholeD T) (hr.mono (by decide)) (by rfl) T.g_is_whole T.F_is_whole.kp T.b_is_whole .nil pass0 (pa_cons (pv 2) pa_nil)) (by intro _; rfl))) (pw_or1 (pt_cmpR op_gt (pv 1) (pv 2) (nomark _)))))) (pss_one (ps_raise rfl (takes_of rfl rfl rfl rfl) (XB.pmk T.xo_NoBounds T.ie_NoBounds T.te_NoBounds (ok_INoBounds T) (hr.mono (by decide)) T.b_INoBounds pass0 (by rfl) T.gE_NoBounds (pa_cons (pv 1) (pa_cons (pv 2) pa_nil))))) pss_nil) (pss_cons (ps_if (pt_cmpR op_isN (pv 0) pe_non (nomark _)) (pss_one (ps_ret (pe_tup (pa_cons (pv 1) (pa_cons (pv 2) pa_nil))))) pss_nil) (pss_cons (ps_set (i := 3) sc_set_between.nd rfl (Or.inl rfl) (pe_callB (call_max2 rfl) (by rfl) T.z_max (by decide +kernel) (pa_cons (pv 1) (pa_cons (pe_ix ix_tup (pv 0) pe_int (fun _ _ => rfl)) pa_nil)))) (pss_cons (ps_set (i := 4) sc_set_between.nd rfl (Or.inl rfl) (pe_callB (call_min2 rfl) (by rfl) T.z_min (by decide +kernel) (pa_cons (pv 2) (pa_cons (pe_ix ix_tup (pv 0) pe_int (fun _ _ => rfl)) pa_nil)))) (pss_cons (ps_if (pt_cmpR op_gt (pv 3) (pv 4) (nomark _)) (pss_one (ps_raise rfl (takes_of rfl rfl rfl rfl) (XB.pmk T.xo_NoBounds T.ie_NoBounds T.te_NoBounds (ok_INoBounds T) (hr.mono (by decide)) T.b_INoBounds pass0 (by rfl) T.gE_NoBounds (pa_cons (pv 1) (pa_cons (pv 2) pa_nil))))) pss_nil) (pss_one (ps_ret (pe_tup (pa_cons (pv 3) (pa_cons (pv 4) pa_nil)))))))))), ?_⟩
    refine ⟨_, rfl, .int lo, .int lo, rfl, .dp (.int lo), true, rfl, iteF ?_⟩
    refine ⟨_, rfl, .int hi, .int hi, rfl, .dp (.int hi), true, rfl, iteF ?_⟩
    by_cases lt : hi < lo
    · refine ⟨_, rfl, _, rfl, lo, hi, rfl, rfl, _, rfl, iteDT lt ?_⟩
      refine ⟨_, rfl, _, rfl, (by show 2 ≤ 1000; decide), fun y ny => ⟨y, _, _, rfl, upd_same, fun dx' H' ndx ne e1 e2 k => ?_⟩⟩
      have nd := ndx
      rw [upd_ne ne] at nd
      exact ⟨rfl, dx', _, e1, e2, nd, q dx' _ (same_err3 ny nd k) upd_same⟩
    · refine ⟨_, rfl, _, rfl, lo, hi, rfl, rfl, _, rfl, iteDF lt ?_⟩
      cases sp with
      | none => exact absurd ⟨by omega, by show lo ≤ hi; omega⟩ nb
      | some z =>
        obtain ⟨p, rfl, hs⟩ := hs
        refine ⟨_, rfl, rfl, _, rfl, iteF ?_⟩
        refine ⟨_, rfl, _, rfl, p, _, 0, _, rfl, rfl, hs, rfl, lo, _, rfl, ?_⟩
        refine ⟨_, rfl, _, rfl, p, _, 1, _, rfl, rfl, hs, rfl, hi, _, rfl, ?_⟩
        refine ⟨_, rfl, _, rfl, _, _, rfl, rfl, _, rfl, iteDT ?_ ?_⟩
        · have : ¬ ((if z.1 > lo then z.1 else lo) ≤ (if z.2 < hi then z.2 else hi)) := fun h => nb ⟨by omega, h⟩
          omega
        · refine ⟨_, rfl, _, rfl, (by show 2 ≤ 1000; decide), fun y ny => ⟨y, _, _, rfl, upd_same, fun dx' H' ndx ne e1 e2 k => ?_⟩⟩
          have nd := ndx
          rw [upd_ne ne] at nd
          exact ⟨rfl, dx', _, e1, e2, nd, q dx' _ (same_err3 ny nd k) upd_same⟩

theorem ok_Copies_refuse_no_copyX {P : Program} {w : World} {K : PySem.W.Frag} {mg : Str → Option Value} {base : Heap} {a : Nat → Addr} {d : Nat → FuncData} (T : Txt K mg a d) : FnOk P w K mg base (L2.CX P w) 3 (a 12) (d 12) ["self", "copy"] (spRefCX K (a 42) (a 100)) := by
  refine T.F_Copies_refuse_no_copy.okX sc_Copies_refuse_no_copy (fun vs H Q E h => ?_) (fun cdv A outer s0 H vs Q E hr h => ?_)
  · obtain ⟨x, A, t, b, g, v, rfl, hg, ⟨d', ha, hd⟩, q⟩ := h
    rfl
  · obtain ⟨x, A, t, b, g, v, rfl, hg, ⟨d', ha, hd⟩, q⟩ := h
    obtain ⟨dx, hx⟩ := hg.at_
    refine ⟨_, (pss_one (ps_if (pt_not (pt_truth (pe_call (ok_is_from_toD T) (hr.mono (by decide)) (by rfl) T.g_is_from_to T.F_is_from_to.kp T.b_is_from_to .nil pass0 (pa_cons (pv 1) (pa_cons pe_int (pa_cons (pe_op op_sub (pe_callB call_len_seq (by rfl) T.z_len PySem.boot_len (pa_cons (pe_fld (pv 0) rfl) pa_nil)) pe_int) pa_nil)))) (by intro _; rfl))) (pss_one (ps_raise rfl (takes_of rfl rfl rfl rfl) (XB.pmk T.xo_NoCopy T.ie_NoCopy T.te_NoCopy (ok_INoCopy T T.xo_NoCopy T.ne_NoCopy_copy) (hr.mono (by decide)) T.b_INoCopy pass0 (by rfl) T.gE_NoCopy (pa_cons (pv 1) pa_nil)))) pss_nil)), ?_⟩
    refine ⟨_, rfl, _, rfl, x, _, dx, _, _, rfl, hx, T.cl, T.n_ups, gf_ups _ _, A.ups, _, rfl, .inl (SqL.of hg.ls.ups), _, 1, rfl, rfl, v, d', _, _, rfl, ha, _, rfl, ?_⟩
    rw [List.length_map, hd]
    refine iteT ?_
    refine ⟨_, rfl, (by show 1 ≤ 1000; decide), fun y ny => ⟨y, _, rfl, upd_same, fun dx' H' ndx ne e1 e2 k => ?_⟩⟩
    have nd := ndx
    rw [upd_ne ne] at nd
    exact ⟨rfl, dx', _, e1, e2, nd, q dx' _ (same_err3 ny nd k) upd_same⟩

theorem ok_Copies_stopX {P : Program} {w : World} {K : PySem.W.Frag} {mg : Str → Option Value} {base : Heap} {a : Nat → Addr} {d : Nat → FuncData} (T : Txt K mg a d) : FnOk P w K mg base (L2.CX P w) 4 (a 14) (d 14) ["self", "copy"] (spRefCX K (a 42) (a 100)) := by
  refine T.F_Copies_stop.okX sc_Copies_stop (fun vs H Q E h => ?_) (fun cdv A outer s0 H vs Q E hr h => ?_)
  · obtain ⟨x, A, t, b, g, v, rfl, hg, hb, q⟩ := h
    rfl
  · obtain ⟨x, A, t, b, g, v, rfl, hg, hb, q⟩ := h
    obtain ⟨dx, hx⟩ := hg.at_
    refine ⟨_, (pss_cons (ps_expr (pe_methS (pv 0) T.cl T.m_Copies_refuse_no_copy (fn_or (fn_up (ok_Copies_refuse_no_copy T) (by decide)) (ok_Copies_refuse_no_copyX T)) (hr.mono (by decide)) T.b_Copies_refuse_no_copy (fun σ => passAt (takes_of rfl rfl rfl rfl) σ) (pa_cons (pv 1) pa_nil))) pss_never), ?_⟩
    exact ⟨_, rfl, x, dx, _, rfl, hx, gf_no _ _ (by decide +kernel) (by decide +kernel) (by decide +kernel) (by decide +kernel) (by decide +kernel) (by decide +kernel) (by decide +kernel) (by decide +kernel) (by decide +kernel) (by decide +kernel) (by decide +kernel) (by decide +kernel) (by decide +kernel) (by decide +kernel) (by decide +kernel), _, rfl, .inr ⟨x, A, t, b, g, v, rfl, hg, hb, q⟩⟩

theorem ok_Copies_backX {P : Program} {w : World} {K : PySem.W.Frag} {mg : Str → Option Value} {base : Heap} {a : Nat → Addr} {d : Nat → FuncData} (T : Txt K mg a d) : FnOk P w K mg base (L2.CX P w) 4 (a 13) (d 13) ["self", "copy"] (spRefCX K (a 42) (a 100)) := by
  refine T.F_Copies_back.okX sc_Copies_back (fun vs H Q E h => ?_) (fun cdv A outer s0 H vs Q E hr h => ?_)
  · obtain ⟨x, A, t, b, g, v, rfl, hg, hb, q⟩ := h
    rfl
  · obtain ⟨x, A, t, b, g, v, rfl, hg, hb, q⟩ := h
    obtain ⟨dx, hx⟩ := hg.at_
    refine ⟨_, (pss_cons (ps_expr (pe_methS (pv 0) T.cl T.m_Copies_refuse_no_copy (fn_or (fn_up (ok_Copies_refuse_no_copy T) (by decide)) (ok_Copies_refuse_no_copyX T)) (hr.mono (by decide)) T.b_Copies_refuse_no_copy (fun σ => passAt (takes_of rfl rfl rfl rfl) σ) (pa_cons (pv 1) pa_nil))) pss_never), ?_⟩
    exact ⟨_, rfl, x, dx, _, rfl, hx, gf_no _ _ (by decide +kernel) (by decide +kernel) (by decide +kernel) (by decide +kernel) (by decide +kernel) (by decide +kernel) (by decide +kernel) (by decide +kernel) (by decide +kernel) (by decide +kernel) (by decide +kernel) (by decide +kernel) (by decide +kernel) (by decide +kernel) (by decide +kernel), _, rfl, .inr ⟨x, A, t, b, g, v, rfl, hg, hb, q⟩⟩

theorem ok_Copies_is_upX {P : Program} {w : World} {K : PySem.W.Frag} {mg : Str → Option Value} {base : Heap} {a : Nat → Addr} {d : Nat → FuncData} (T : Txt K mg a d) : FnOk P w K mg base (L2.CX P w) 4 (a 23) (d 23) ["self", "copy"] (spRefCX K (a 42) (a 100)) := by
  refine T.F_Copies_is_up.okX sc_Copies_is_up (fun vs H Q E h => ?_) (fun cdv A outer s0 H vs Q E hr h => ?_)
  · obtain ⟨x, A, t, b, g, v, rfl, hg, hb, q⟩ := h
    rfl
  · obtain ⟨x, A, t, b, g, v, rfl, hg, hb, q⟩ := h
    obtain ⟨dx, hx⟩ := hg.at_
    refine ⟨_, (pss_cons (ps_expr (pe_methS (pv 0) T.cl T.m_Copies_refuse_no_copy (fn_or (fn_up (ok_Copies_refuse_no_copy T) (by decide)) (ok_Copies_refuse_no_copyX T)) (hr.mono (by decide)) T.b_Copies_refuse_no_copy (fun σ => passAt (takes_of rfl rfl rfl rfl) σ) (pa_cons (pv 1) pa_nil))) pss_never), ?_⟩
    exact ⟨_, rfl, x, dx, _, rfl, hx, gf_no _ _ (by decide +kernel) (by decide +kernel) (by decide +kernel) (by decide +kernel) (by decide +kernel) (by decide +kernel) (by decide +kernel) (by decide +kernel) (by decide +kernel) (by decide +kernel) (by decide +kernel) (by decide +kernel) (by decide +kernel) (by decide +kernel) (by decide +kernel), _, rfl, .inr ⟨x, A, t, b, g, v, rfl, hg, hb, q⟩⟩

theorem ok_Copies_clockX {P : Program} {w : World} {K : PySem.W.Frag} {mg : Str → Option Value} {base : Heap} {a : Nat → Addr} {d : Nat → FuncData} (T : Txt K mg a d) : FnOk P w K mg base (L2.CX P w) 6 (a 24) (d 24) ["self", "copy"] (spRefCX K (a 42) (a 100)) := by
  refine T.F_Copies_clock.okX sc_Copies_clock (fun vs H Q E h => ?_) (fun cdv A outer s0 H vs Q E hr h => ?_)
  · obtain ⟨x, A, t, b, g, v, rfl, hg, hb, q⟩ := h
    rfl
  · obtain ⟨x, A, t, b, g, v, rfl, hg, hb, q⟩ := h
    obtain ⟨dx, hx⟩ := hg.at_
    refine ⟨_, (pss_cons (ps_expr (pe_methS (pv 0) T.cl T.m_Copies_refuse_no_copy (fn_or (fn_up (ok_Copies_refuse_no_copy T) (by decide)) (ok_Copies_refuse_no_copyX T)) (hr.mono (by decide)) T.b_Copies_refuse_no_copy (fun σ => passAt (takes_of rfl rfl rfl rfl) σ) (pa_cons (pv 1) pa_nil))) pss_never), ?_⟩
    exact ⟨_, rfl, x, dx, _, rfl, hx, gf_no _ _ (by decide +kernel) (by decide +kernel) (by decide +kernel) (by decide +kernel) (by decide +kernel) (by decide +kernel) (by decide +kernel) (by decide +kernel) (by decide +kernel) (by decide +kernel) (by decide +kernel) (by decide +kernel) (by decide +kernel) (by decide +kernel) (by decide +kernel), _, rfl, .inr ⟨x, A, t, b, g, v, rfl, hg, hb, q⟩⟩

theorem ok_Copies_chooseX {P : Program} {w : World} {K : PySem.W.Frag} {mg : Str → Option Value} {base : Heap} {a : Nat → Addr} {d : Nat → FuncData} (T : Txt K mg a d) : FnOk P w K mg base (L2.CX P w) 5 (a 19) (d 19) ["self", "copy"] (spRefCX K (a 42) (a 100)) := by
  refine T.F_Copies_choose.okX sc_Copies_choose (fun vs H Q E h => ?_) (fun cdv A outer s0 H vs Q E hr h => ?_)
  · obtain ⟨x, A, t, b, g, v, rfl, hg, hb, q⟩ := h
    rfl
  · obtain ⟨x, A, t, b, g, v, rfl, hg, hb, q⟩ := h
    obtain ⟨dx, hx⟩ := hg.at_
    refine ⟨_, (pss_cons (ps_expr (pe_methS (pv 0) T.cl T.m_Copies_refuse_no_copy (fn_or (fn_up (ok_Copies_refuse_no_copy T) (by decide)) (ok_Copies_refuse_no_copyX T)) (hr.mono (by decide)) T.b_Copies_refuse_no_copy (fun σ => passAt (takes_of rfl rfl rfl rfl) σ) (pa_cons (pv 1) pa_nil))) pss_never), ?_⟩
    exact ⟨_, rfl, x, dx, _, rfl, hx, gf_no _ _ (by decide +kernel) (by decide +kernel) (by decide +kernel) (by decide +kernel) (by decide +kernel) (by decide +kernel) (by decide +kernel) (by decide +kernel) (by decide +kernel) (by decide +kernel) (by decide +kernel) (by decide +kernel) (by decide +kernel) (by decide +kernel) (by decide +kernel), _, rfl, .inr ⟨x, A, t, b, g, v, rfl, hg, hb, q⟩⟩

theorem ok_Copies_catch_upX {P : Program} {w : World} {K : PySem.W.Frag} {mg : Str → Option Value} {base : Heap} {a : Nat → Addr} {d : Nat → FuncData} (T : Txt K mg a d) : FnOk P w K mg base (L2.CX P w) 5 (a 20) (d 20) ["self", "copy"] (spRefCX K (a 42) (a 100)) := by
  refine T.F_Copies_catch_up.okX sc_Copies_catch_up (fun vs H Q E h => ?_) (fun cdv A outer s0 H vs Q E hr h => ?_)
  · obtain ⟨x, A, t, b, g, v, rfl, hg, hb, q⟩ := h
    rfl
  · obtain ⟨x, A, t, b, g, v, rfl, hg, hb, q⟩ := h
    obtain ⟨dx, hx⟩ := hg.at_
    refine ⟨_, (pss_cons (ps_expr (pe_methS (pv 0) T.cl T.m_Copies_refuse_no_copy (fn_or (fn_up (ok_Copies_refuse_no_copy T) (by decide)) (ok_Copies_refuse_no_copyX T)) (hr.mono (by decide)) T.b_Copies_refuse_no_copy (fun σ => passAt (takes_of rfl rfl rfl rfl) σ) (pa_cons (pv 1) pa_nil))) pss_never), ?_⟩
    exact ⟨_, rfl, x, dx, _, rfl, hx, gf_no _ _ (by decide +kernel) (by decide +kernel) (by decide +kernel) (by decide +kernel) (by decide +kernel) (by decide +kernel) (by decide +kernel) (by decide +kernel) (by decide +kernel) (by decide +kernel) (by decide +kernel) (by decide +kernel) (by decide +kernel) (by decide +kernel) (by decide +kernel), _, rfl, .inr ⟨x, A, t, b, g, v, rfl, hg, hb, q⟩⟩

theorem ok_Copies_tick_clockX {P : Program} {w : World} {K : PySem.W.Frag} {mg : Str → Option Value} {base : Heap} {a : Nat → Addr} {d : Nat → FuncData} (T : Txt K mg a d) : FnOk P w K mg base (L2.CX P w) 5 (a 16) (d 16) ["self", "copy", "many"] (spTickCX K (a 42) (a 100) (a 103)) := by
  refine T.F_Copies_tick_clock.ok (CX := L2.CX P w) sc_Copies_tick_clock (fun vs H Q E h => ?_) (fun cdv A outer s0 H vs Q E hr h => ?_)
  · obtain ⟨x, A, t, b, g, v, w, rfl, hg, hc⟩ := h
    rfl
  · obtain ⟨x, A, t, b, g, v, w, rfl, hg, hc⟩ := h
    obtain ⟨dx, hx⟩ := hg.at_
    refine ⟨_, (pss_cons (ps_expr (pe_methS (pv 0) T.cl T.m_Copies_refuse_no_copy (fn_or (fn_up (ok_Copies_refuse_no_copy T) (by decide)) (ok_Copies_refuse_no_copyX T)) (hr.mono (by decide)) T.b_Copies_refuse_no_copy (fun σ => passAt (takes_of rfl rfl rfl rfl) σ) (pa_cons (pv 1) pa_nil))) (pss_cons (ps_expr (pe_callS (ok_refuse_no_countX T) (hr.mono (by decide)) (by rfl) T.g_refuse_no_count T.F_refuse_no_count.kp T.b_refuse_no_count (fun σ => passAt (takes_of rfl rfl rfl rfl) σ) (pa_cons (pv 2) pa_nil))) pss_never)), ?_⟩
    rcases hc with ⟨hb, q⟩ | ⟨i, m, rfl, rfl, hi, m0, q⟩
    · exact ⟨_, rfl, x, dx, _, rfl, hx, gf_no _ _ (by decide +kernel) (by decide +kernel) (by decide +kernel) (by decide +kernel) (by decide +kernel) (by decide +kernel) (by decide +kernel) (by decide +kernel) (by decide +kernel) (by decide +kernel) (by decide +kernel) (by decide +kernel) (by decide +kernel) (by decide +kernel) (by decide +kernel), _, rfl, .inr ⟨x, A, t, b, g, v, rfl, hg, hb, q⟩⟩
    · exact ⟨_, rfl, x, dx, _, rfl, hx, gf_no _ _ (by decide +kernel) (by decide +kernel) (by decide +kernel) (by decide +kernel) (by decide +kernel) (by decide +kernel) (by decide +kernel) (by decide +kernel) (by decide +kernel) (by decide +kernel) (by decide +kernel) (by decide +kernel) (by decide +kernel) (by decide +kernel) (by decide +kernel), _, rfl, .inl ⟨x, A, t, b, g, i, rfl, hg, hi, _, rfl, .int m, .int m, rfl, .dp (.int m), decide_eq_false (by omega), q⟩⟩

theorem ok_Copies_set_clockX {P : Program} {w : World} {K : PySem.W.Frag} {mg : Str → Option Value} {base : Heap} {a : Nat → Addr} {d : Nat → FuncData} (T : Txt K mg a d) : FnOk P w K mg base (L2.CX P w) 6 (a 18) (d 18) ["self", "copy", "low", "high"] (spSetX K (a 42) (a 100) (a 102)) := by
  refine T.F_Copies_set_clock.okX sc_Copies_set_clock (fun vs H Q E h => ?_) (fun cdv A outer s0 H vs Q E hr h => ?_)
  · obtain ⟨x, A, t, b, g, v, lo, hi, rfl, hg, hc⟩ := h
    rfl
  · obtain ⟨x, A, t, b, g, v, lo, hi, rfl, hg, hc⟩ := h
    obtain ⟨dx, hx⟩ := hg.at_
    refine ⟨_, (pss_cons (ps_expr (pe_methS (pv 0) T.cl T.m_Copies_refuse_no_copy (fn_or (fn_up (ok_Copies_refuse_no_copy T) (by decide)) (ok_Copies_refuse_no_copyX T)) (hr.mono (by decide)) T.b_Copies_refuse_no_copy (fun σ => passAt (takes_of rfl rfl rfl rfl) σ) (pa_cons (pv 1) pa_nil))) (pss_cons (ps_fld (pv 0) (pe_call (ok_changed_at T) (hr.mono (by decide)) (by rfl) T.g_changed_at T.F_changed_at.kp T.b_changed_at .nil pass0 (pa_cons (pe_fld (pv 0) rfl) (pa_cons (pv 1) (pa_cons (pe_callS (ok_set_betweenX T) (hr.mono (by decide)) (by rfl) T.g_set_between T.F_set_between.kp T.b_set_between (fun σ => passAt (takes_of rfl rfl rfl rfl) σ) (pa_cons (pe_ix ix_list (pe_fld (pv 0) rfl) (pv 1) (fun _ _ => rfl)) (pa_cons (pv 2) (pa_cons (pv 3) pa_nil)))) pa_nil)))) rfl) pss_never)), ?_⟩
    rcases hc with ⟨hb, q⟩ | ⟨i, s, rfl, hs, nb, q⟩
    · exact ⟨_, rfl, x, dx, _, rfl, hx, gf_no _ _ (by decide +kernel) (by decide +kernel) (by decide +kernel) (by decide +kernel) (by decide +kernel) (by decide +kernel) (by decide +kernel) (by decide +kernel) (by decide +kernel) (by decide +kernel) (by decide +kernel) (by decide +kernel) (by decide +kernel) (by decide +kernel) (by decide +kernel), _, rfl, .inr ⟨x, A, t, b, g, v, rfl, hg, hb, q⟩⟩
    · have hi' : i < g.ms.length := (List.getElem?_eq_some_iff.mp hs).1
      obtain ⟨vsp, esp, qsp⟩ := hg.ls.sps
      obtain ⟨sv, e1, e2⟩ := qsp.get (i := i) (s := s.sp) (by rw [List.getElem?_map, hs]; rfl)
      exact ⟨_, rfl, x, dx, _, rfl, hx, gf_no _ _ (by decide +kernel) (by decide +kernel) (by decide +kernel) (by decide +kernel) (by decide +kernel) (by decide +kernel) (by decide +kernel) (by decide +kernel) (by decide +kernel) (by decide +kernel) (by decide +kernel) (by decide +kernel) (by decide +kernel) (by decide +kernel) (by decide +kernel), _, rfl, .inl ⟨x, A, t, b, g, i, rfl, hg, hi', _, rfl, x, _, dx, _, _, rfl, hx, T.cl, T.n_stands, gf_stands _ _, _, rfl, _, rfl, x, _, dx, _, _, rfl, hx, T.cl, T.n_spans, gf_spans _ _, _, rfl, A.sps, _, (i : Int), _, rfl, rfl, SqL.of esp, atI_nat e1, _, rfl, _, rfl, sv, s.sp, lo, hi, rfl, e2, nb, q⟩⟩

theorem ok_Copies_bookX {P : Program} {w : World} {K : PySem.W.Frag} {mg : Str → Option Value} {base : Heap} {a : Nat → Addr} {d : Nat → FuncData} (T : Txt K mg a d) : FnOk P w K mg base (L2.CX P w) 4 (a 21) (d 21) ["self", "copy"] (spBookX K (a 42) (a 100)) := by
  refine T.F_Copies_book.ok (CX := L2.CX P w) sc_Copies_book (fun vs H Q E h => ?_) (fun cdv A outer s0 H vs Q E hr h => ?_)
  · obtain ⟨x, A, t, b, g, v, rfl, hg, nn, hb, q⟩ := h
    rfl
  · obtain ⟨x, A, t, b, g, v, rfl, hg, nn, hb, q⟩ := h
    obtain ⟨dx, hx⟩ := hg.at_
    obtain ⟨vs, hel, hed⟩ := hg.ls.el
    refine ⟨_, (pss_cons (ps_set (i := 2) sc_Copies_book.nd rfl (Or.inl rfl) (pe_callB call_len_seq (by rfl) T.z_len PySem.boot_len (pa_cons (pe_fld (pv 0) rfl) pa_nil))) (pss_cons (ps_if (pt_cmpR op_notN (pv 1) pe_non (nomark _)) (pss_cons (ps_expr (pe_methS (pv 0) T.cl T.m_Copies_refuse_no_copy (fn_or (fn_up (ok_Copies_refuse_no_copy T) (by decide)) (ok_Copies_refuse_no_copyX T)) (hr.mono (by decide)) T.b_Copies_refuse_no_copy (fun σ => passAt (takes_of rfl rfl rfl rfl) σ) (pa_cons (pv 1) pa_nil))) (pss_one (ps_set (i := 2) sc_Copies_book.nd rfl (Or.inl rfl) (pe_ix ix_list (pe_fld (pv 0) rfl) (pv 1) (fun _ _ => rfl))))) pss_nil) pss_never)), ?_⟩
    refine ⟨_, rfl, x, _, dx, _, _, rfl, hx, T.cl, T.n_entries, gf_entries _ _, A.el, vs, rfl, .inl (SqL.of hel), ?_⟩
    refine ⟨_, rfl, rfl, _, rfl, iteND nn ?_⟩
    exact ⟨_, rfl, x, dx, _, rfl, hx, gf_no _ _ (by decide +kernel) (by decide +kernel) (by decide +kernel) (by decide +kernel) (by decide +kernel) (by decide +kernel) (by decide +kernel) (by decide +kernel) (by decide +kernel) (by decide +kernel) (by decide +kernel) (by decide +kernel) (by decide +kernel) (by decide +kernel) (by decide +kernel), _, rfl, .inr ⟨x, A, t, b, g, v, rfl, hg, hb, q⟩⟩

theorem ok_stopB {P : Program} {w : World} {K : PySem.W.Frag} {mg : Str → Option Value} {base : Heap} {a : Nat → Addr} {d : Nat → FuncData} (T : Txt K mg a d) : FnOk P w K mg base (L2.CX P w) 4 (a 14) (d 14) ["self", "copy"] (spStopB K (a 42) (a 100)) := fn_or (fn_up (ok_Copies_stop T) (by decide)) (ok_Copies_stopX T)

theorem ok_backB {P : Program} {w : World} {K : PySem.W.Frag} {mg : Str → Option Value} {base : Heap} {a : Nat → Addr} {d : Nat → FuncData} (T : Txt K mg a d) : FnOk P w K mg base (L2.CX P w) 4 (a 13) (d 13) ["self", "copy"] (spBackB K (a 42) (a 100)) := fn_or (fn_up (ok_Copies_back T) (by decide)) (ok_Copies_backX T)

theorem ok_set_clockB {P : Program} {w : World} {K : PySem.W.Frag} {mg : Str → Option Value} {base : Heap} {a : Nat → Addr} {d : Nat → FuncData} (T : Txt K mg a d) : FnOk P w K mg base (L2.CX P w) 6 (a 18) (d 18) ["self", "copy", "low", "high"] (spSetB K (a 42) (a 100) (a 102)) := fn_or (fn_up (ok_Copies_set_clock T) (by decide)) (ok_Copies_set_clockX T)

theorem ok_tick_clockB {P : Program} {w : World} {K : PySem.W.Frag} {mg : Str → Option Value} {base : Heap} {a : Nat → Addr} {d : Nat → FuncData} (T : Txt K mg a d) : FnOk P w K mg base (L2.CX P w) 5 (a 16) (d 16) ["self", "copy", "many"] (spTickB K (a 42) (a 100) (a 103)) := fn_or (fn_up (ok_Copies_tick_clock T) (by decide)) (ok_Copies_tick_clockX T)

theorem ok_bookB {P : Program} {w : World} {K : PySem.W.Frag} {mg : Str → Option Value} {base : Heap} {a : Nat → Addr} {d : Nat → FuncData} (T : Txt K mg a d) : FnOk P w K mg base (L2.CX P w) 4 (a 21) (d 21) ["self", "copy"] (spBookB K (a 42) (a 100)) := fn_or (fn_up (ok_Copies_book T) (by decide)) (ok_Copies_bookX T)

theorem ok_said {P : Program} {w : World} {K : PySem.W.Frag} {mg : Str → Option Value} {base : Heap} {a : Nat → Addr} {d : Nat → FuncData} (T : Txt K mg a d) : FnG P w K mg base 8 (a 36) (d 36) ["_law_group", "_law_way", "_law_spot", "_law_some"] (spSaid26 K (a 42)) := by
  refine fnG_mk T.F_l_said sc_l_said (fun vs H Q E h => ?_) (fun cdv A outer s0 H vs Q E gd hr h => ?_)
  · obtain ⟨x, A', g, wy, v, pz, rfl, _⟩ := h
    rfl
  · obtain ⟨x, A', g, wy, v, pz, rfl, hg, hc⟩ := h
    obtain ⟨dx, hx⟩ := hg.at_
    have hu66 := room66 hr
    refine ⟨_, (pss_cons (ps_tryK (tb := fun W => (tIfS (tTest (tOp rEq (tVar 1) (tC (.int 0)))) (tDrop (tMethS (a 42) "stop" (spStopB K (a 42) (a 100)) (WE W) (tVar 0) (tCons (tVar 2) tNil))) (tIfS (tTest (tOp rEq (tVar 1) (tC (.int 1)))) (tDrop (tMethS (a 42) "back" (spBackB K (a 42) (a 100)) (WE W) (tVar 0) (tCons (tVar 2) tNil))) (tIfS (tTest (tOp rEq (tVar 1) (tC (.int 2)))) (tDrop (tMethS (a 42) "set_clock" (spSetB K (a 42) (a 100) (a 102)) (WE W) (tVar 0) (tCons (tVar 2) (tCons (tOp (rIxT K) (tVar 3) (tC (.int 0))) (tCons (tOp (rIxT K) (tVar 3) (tC (.int 1))) tNil))))) (tIfS (tTest (tOp rEq (tVar 1) (tC (.int 3)))) (tDrop (tMethS (a 42) "tick_clock" (spTickB K (a 42) (a 100) (a 103)) (WE W) (tVar 0) (tCons (tVar 2) (tCons (tOp (rIxT K) (tVar 3) (tC (.int 0))) tNil)))) (tIfS (tTest (tOp rEq (tVar 1) (tC (.int 4)))) (tDrop (tMethS (a 42) "is_up" (spRefCX K (a 42) (a 100)) (WE W) (tVar 0) (tCons (tVar 2) tNil))) (tIfS (tTest (tOp rEq (tVar 1) (tC (.int 5)))) (tDrop (tMethS (a 42) "clock" (spRefCX K (a 42) (a 100)) (WE W) (tVar 0) (tCons (tVar 2) tNil))) (tIfS (tTest (tOp rEq (tVar 1) (tC (.int 6)))) (tDrop (tMethS (a 42) "choose" (spRefCX K (a 42) (a 100)) (WE W) (tVar 0) (tCons (tVar 2) tNil))) (tIfS (tTest (tOp rEq (tVar 1) (tC (.int 7)))) (tDrop (tMethS (a 42) "catch_up" (spRefCX K (a 42) (a 100)) (WE W) (tVar 0) (tCons (tVar 2) tNil))) (tDrop (tMethS (a 42) "book" (spBookB K (a 42) (a 100)) (WE W) (tVar 0) (tCons (tVar 2) tNil)))))))))))) rfl rfl sc_l_said.nd takes0 (HK.named (i := 4) (ts := (fun _ _ _ => tRet (tLst (tCons (tC (.str "copy")) (tCons (tCB (fun xs H Q => ∃ (x : V) (d : PyData), xs = [x] ∧ An K H x d ∧ d.showable = true ∧ d.depth ≤ 64 ∧ d.shown.length ≤ sizeLine ∧ Q (.str d.shown) H) (tCons (tXk (a 100) "copy" (tVar 4)) tNil)) (tCons (tCB (rIsK K) (tCons (tVar 4) (tCons (tC (.ty "IndexError")) tNil))) tNil)))))) ⟨rfl, by decide, .inl T.gE_NoCopy⟩ rfl rfl (fun _ _ _ _ => (pss_one (ps_ret (pe_lst (pa_cons pe_str (pa_cons (pe_callB (call_reprA gd hu66) (by rfl) T.z_repr (by decide +kernel) (pa_cons (pe_xk (C := (a 100)) T.xf_NoCopy T.ne_NoCopy_copy (pv 4) rfl) pa_nil)) (pa_cons (pe_callB call_isK (by rfl) T.z_isinstance (by decide +kernel) (pa_cons (pv 4) (pa_cons (pe_bltn (v := .ty "IndexError") (by rfl) T.z_IndexError (by decide +kernel) rfl) pa_nil))) pa_nil))))))) (HK.bare (ts := (fun _ _ _ => tRet (tLst (tCons (tC (.str "bounds")) tNil)))) ⟨rfl, by decide, .inl T.gE_NoBounds⟩ (fun _ _ _ _ => (pss_one (ps_ret (pe_lst (pa_cons pe_str pa_nil))))) (HK.bare (ts := (fun _ _ _ => tRet (tLst (tCons (tC (.str "number")) tNil)))) ⟨rfl, by decide, .inl T.gE_NoNumber⟩ (fun _ _ _ _ => (pss_one (ps_ret (pe_lst (pa_cons pe_str pa_nil))))) HK.nil))) (W := fun _ _ _ _ => False) (fun W pn xe tk _ => (pss_one (ps_if (pt_cmpR op_eq (pv 1) pe_int (nomark _)) (pss_one (ps_expr (pe_methS (pv 0) T.cl T.m_Copies_stop (ok_stopB T) (hr.mono (by decide)) T.b_Copies_stop (fun σ => passAt tk σ) (pa_cons (pv 2) pa_nil)))) (pss_one (ps_if (pt_cmpR op_eq (pv 1) pe_int (nomark _)) (pss_one (ps_expr (pe_methS (pv 0) T.cl T.m_Copies_back (ok_backB T) (hr.mono (by decide)) T.b_Copies_back (fun σ => passAt tk σ) (pa_cons (pv 2) pa_nil)))) (pss_one (ps_if (pt_cmpR op_eq (pv 1) pe_int (nomark _)) (pss_one (ps_expr (pe_methS (pv 0) T.cl T.m_Copies_set_clock (ok_set_clockB T) (hr.mono (by decide)) T.b_Copies_set_clock (fun σ => passAt tk σ) (pa_cons (pv 2) (pa_cons (pe_ix ix_tup (pv 3) pe_int (fun _ _ => rfl)) (pa_cons (pe_ix ix_tup (pv 3) pe_int (fun _ _ => rfl)) pa_nil)))))) (pss_one (ps_if (pt_cmpR op_eq (pv 1) pe_int (nomark _)) (pss_one (ps_expr (pe_methS (pv 0) T.cl T.m_Copies_tick_clock (ok_tick_clockB T) (hr.mono (by decide)) T.b_Copies_tick_clock (fun σ => passAt tk σ) (pa_cons (pv 2) (pa_cons (pe_ix ix_tup (pv 3) pe_int (fun _ _ => rfl)) pa_nil))))) (pss_one (ps_if (pt_cmpR op_eq (pv 1) pe_int (nomark _)) (pss_one (ps_expr (pe_methS (pv 0) T.cl T.m_Copies_is_up (ok_Copies_is_upX T) (hr.mono (by decide)) T.b_Copies_is_up (fun σ => passAt tk σ) (pa_cons (pv 2) pa_nil)))) (pss_one (ps_if (pt_cmpR op_eq (pv 1) pe_int (nomark _)) (pss_one (ps_expr (pe_methS (pv 0) T.cl T.m_Copies_clock (ok_Copies_clockX T) (hr.mono (by decide)) T.b_Copies_clock (fun σ => passAt tk σ) (pa_cons (pv 2) pa_nil)))) (pss_one (ps_if (pt_cmpR op_eq (pv 1) pe_int (nomark _)) (pss_one (ps_expr (pe_methS (pv 0) T.cl T.m_Copies_choose (ok_Copies_chooseX T) (hr.mono (by decide)) T.b_Copies_choose (fun σ => passAt tk σ) (pa_cons (pv 2) pa_nil)))) (pss_one (ps_if (pt_cmpR op_eq (pv 1) pe_int (nomark _)) (pss_one (ps_expr (pe_methS (pv 0) T.cl T.m_Copies_catch_up (ok_Copies_catch_upX T) (hr.mono (by decide)) T.b_Copies_catch_up (fun σ => passAt tk σ) (pa_cons (pv 2) pa_nil)))) (pss_one (ps_expr (pe_methS (pv 0) T.cl T.m_Copies_book (ok_bookB T) (hr.mono (by decide)) T.b_Copies_book (fun σ => passAt tk σ) (pa_cons (pv 2) pa_nil)))))))))))))))))))))) (pss_one (ps_ret (pe_lst (pa_cons pe_str pa_nil))))), ?_⟩
    cases hc with
    | @bad _ _ p lo hi d' h0 h9 hp ha sh hb nn q =>
      have : wy = 0 ∨ wy = 1 ∨ wy = 2 ∨ wy = 3 ∨ wy = 4 ∨ wy = 5 ∨ wy = 6 ∨ wy = 7 ∨ wy = 8 := by omega
      rcases this with rfl | rfl | rfl | rfl | rfl | rfl | rfl | rfl | rfl
      · refine ⟨_, rfl, rfl, _, rfl, ite2 (fun _ => ?_) (fun h => absurd rfl h)⟩
        refine ⟨_, rfl, x, dx, _, rfl, hx, gf_no _ _ (by decide +kernel) (by decide +kernel) (by decide +kernel) (by decide +kernel) (by decide +kernel) (by decide +kernel) (by decide +kernel) (by decide +kernel) (by decide +kernel) (by decide +kernel) (by decide +kernel) (by decide +kernel) (by decide +kernel) (by decide +kernel) (by decide +kernel), _, rfl, .inr ⟨x, A', 1, 100, g, v, rfl, hg, ⟨d', ha, hb⟩, fun dd H' s' hdd => ?_⟩⟩
        refine ⟨true, T.ex_NoCopy_NoCopy, fun _ e' ne' => ?_, fun z => by cases z⟩
        have ned : dd ≠ e' := ne_of_none hdd ne'
        have hd2 : (upd H' e' (ExK (.ref (a 100)) (some dd) e')) dd = some (.xd [("copy", v)]) := by rw [upd_ne ned]; exact hdd
        have sE : Same H (upd H' e' (ExK (.ref (a 100)) (some dd) e')) := s'.trans (same_new (Same.refl H') ne')
        refine ⟨_, rfl, e', dd, _, _, rfl, upd_same, hd2, xd_one _ _, v, d', rfl, ha.up sE, sh.1, sh.2.1, sh.2.2, ?_⟩
        refine ⟨_, rfl, e', (a 100), dd, _, .ty "IndexError", .type "IndexError", true, rfl, T.xc_NoCopy, upd_same, hd2, (fun u r => by first | exact r | (cases r; rfl)), T.ki_NoCopy_IndexError, ?_⟩
        exact ⟨len3, fun r nr => q r _ (sE.free nr) (sE.trans (same_new (Same.refl _) nr)) upd_same⟩
      · refine ⟨_, rfl, rfl, _, rfl, ite2 (fun h => absurd h (by decide)) (fun _ => ?_)⟩
        refine ⟨_, rfl, rfl, _, rfl, ite2 (fun _ => ?_) (fun h => absurd rfl h)⟩
        refine ⟨_, rfl, x, dx, _, rfl, hx, gf_no _ _ (by decide +kernel) (by decide +kernel) (by decide +kernel) (by decide +kernel) (by decide +kernel) (by decide +kernel) (by decide +kernel) (by decide +kernel) (by decide +kernel) (by decide +kernel) (by decide +kernel) (by decide +kernel) (by decide +kernel) (by decide +kernel) (by decide +kernel), _, rfl, .inr ⟨x, A', 1, 100, g, v, rfl, hg, ⟨d', ha, hb⟩, fun dd H' s' hdd => ?_⟩⟩
        refine ⟨true, T.ex_NoCopy_NoCopy, fun _ e' ne' => ?_, fun z => by cases z⟩
        have ned : dd ≠ e' := ne_of_none hdd ne'
        have hd2 : (upd H' e' (ExK (.ref (a 100)) (some dd) e')) dd = some (.xd [("copy", v)]) := by rw [upd_ne ned]; exact hdd
        have sE : Same H (upd H' e' (ExK (.ref (a 100)) (some dd) e')) := s'.trans (same_new (Same.refl H') ne')
        refine ⟨_, rfl, e', dd, _, _, rfl, upd_same, hd2, xd_one _ _, v, d', rfl, ha.up sE, sh.1, sh.2.1, sh.2.2, ?_⟩
        refine ⟨_, rfl, e', (a 100), dd, _, .ty "IndexError", .type "IndexError", true, rfl, T.xc_NoCopy, upd_same, hd2, (fun u r => by first | exact r | (cases r; rfl)), T.ki_NoCopy_IndexError, ?_⟩
        exact ⟨len3, fun r nr => q r _ (sE.free nr) (sE.trans (same_new (Same.refl _) nr)) upd_same⟩
      · refine ⟨_, rfl, rfl, _, rfl, ite2 (fun h => absurd h (by decide)) (fun _ => ?_)⟩
        refine ⟨_, rfl, rfl, _, rfl, ite2 (fun h => absurd h (by decide)) (fun _ => ?_)⟩
        refine ⟨_, rfl, rfl, _, rfl, ite2 (fun _ => ?_) (fun h => absurd rfl h)⟩
        refine ⟨_, rfl, x, dx, _, rfl, hx, gf_no _ _ (by decide +kernel) (by decide +kernel) (by decide +kernel) (by decide +kernel) (by decide +kernel) (by decide +kernel) (by decide +kernel) (by decide +kernel) (by decide +kernel) (by decide +kernel) (by decide +kernel) (by decide +kernel) (by decide +kernel) (by decide +kernel) (by decide +kernel), _, rfl, _, rfl, p, _, 0, _, rfl, rfl, SqT.of hp, rfl, _, rfl, p, _, 1, _, rfl, rfl, SqT.of hp, rfl, .inr ⟨x, A', 1, 100, g, v, lo, hi, rfl, hg, .inl ⟨⟨d', ha, hb⟩, fun dd H' s' hdd => ?_⟩⟩⟩
        refine ⟨true, T.ex_NoCopy_NoCopy, fun _ e' ne' => ?_, fun z => by cases z⟩
        have ned : dd ≠ e' := ne_of_none hdd ne'
        have hd2 : (upd H' e' (ExK (.ref (a 100)) (some dd) e')) dd = some (.xd [("copy", v)]) := by rw [upd_ne ned]; exact hdd
        have sE : Same H (upd H' e' (ExK (.ref (a 100)) (some dd) e')) := s'.trans (same_new (Same.refl H') ne')
        refine ⟨_, rfl, e', dd, _, _, rfl, upd_same, hd2, xd_one _ _, v, d', rfl, ha.up sE, sh.1, sh.2.1, sh.2.2, ?_⟩
        refine ⟨_, rfl, e', (a 100), dd, _, .ty "IndexError", .type "IndexError", true, rfl, T.xc_NoCopy, upd_same, hd2, (fun u r => by first | exact r | (cases r; rfl)), T.ki_NoCopy_IndexError, ?_⟩
        exact ⟨len3, fun r nr => q r _ (sE.free nr) (sE.trans (same_new (Same.refl _) nr)) upd_same⟩
      · refine ⟨_, rfl, rfl, _, rfl, ite2 (fun h => absurd h (by decide)) (fun _ => ?_)⟩
        refine ⟨_, rfl, rfl, _, rfl, ite2 (fun h => absurd h (by decide)) (fun _ => ?_)⟩
        refine ⟨_, rfl, rfl, _, rfl, ite2 (fun h => absurd h (by decide)) (fun _ => ?_)⟩
        refine ⟨_, rfl, rfl, _, rfl, ite2 (fun _ => ?_) (fun h => absurd rfl h)⟩
        refine ⟨_, rfl, x, dx, _, rfl, hx, gf_no _ _ (by decide +kernel) (by decide +kernel) (by decide +kernel) (by decide +kernel) (by decide +kernel) (by decide +kernel) (by decide +kernel) (by decide +kernel) (by decide +kernel) (by decide +kernel) (by decide +kernel) (by decide +kernel) (by decide +kernel) (by decide +kernel) (by decide +kernel), _, rfl, _, rfl, p, _, 0, _, rfl, rfl, SqT.of hp, rfl, .inr ⟨x, A', 1, 100, g, v, .int lo, rfl, hg, .inl ⟨⟨d', ha, hb⟩, fun dd H' s' hdd => ?_⟩⟩⟩
        refine ⟨true, T.ex_NoCopy_NoCopy, fun _ e' ne' => ?_, fun z => by cases z⟩
        have ned : dd ≠ e' := ne_of_none hdd ne'
        have hd2 : (upd H' e' (ExK (.ref (a 100)) (some dd) e')) dd = some (.xd [("copy", v)]) := by rw [upd_ne ned]; exact hdd
        have sE : Same H (upd H' e' (ExK (.ref (a 100)) (some dd) e')) := s'.trans (same_new (Same.refl H') ne')
        refine ⟨_, rfl, e', dd, _, _, rfl, upd_same, hd2, xd_one _ _, v, d', rfl, ha.up sE, sh.1, sh.2.1, sh.2.2, ?_⟩
        refine ⟨_, rfl, e', (a 100), dd, _, .ty "IndexError", .type "IndexError", true, rfl, T.xc_NoCopy, upd_same, hd2, (fun u r => by first | exact r | (cases r; rfl)), T.ki_NoCopy_IndexError, ?_⟩
        exact ⟨len3, fun r nr => q r _ (sE.free nr) (sE.trans (same_new (Same.refl _) nr)) upd_same⟩
      · refine ⟨_, rfl, rfl, _, rfl, ite2 (fun h => absurd h (by decide)) (fun _ => ?_)⟩
        refine ⟨_, rfl, rfl, _, rfl, ite2 (fun h => absurd h (by decide)) (fun _ => ?_)⟩
        refine ⟨_, rfl, rfl, _, rfl, ite2 (fun h => absurd h (by decide)) (fun _ => ?_)⟩
        refine ⟨_, rfl, rfl, _, rfl, ite2 (fun h => absurd h (by decide)) (fun _ => ?_)⟩
        refine ⟨_, rfl, rfl, _, rfl, ite2 (fun _ => ?_) (fun h => absurd rfl h)⟩
        refine ⟨_, rfl, x, dx, _, rfl, hx, gf_no _ _ (by decide +kernel) (by decide +kernel) (by decide +kernel) (by decide +kernel) (by decide +kernel) (by decide +kernel) (by decide +kernel) (by decide +kernel) (by decide +kernel) (by decide +kernel) (by decide +kernel) (by decide +kernel) (by decide +kernel) (by decide +kernel) (by decide +kernel), _, rfl, x, A', 1, 100, g, v, rfl, hg, ⟨d', ha, hb⟩, fun dd H' s' hdd => ?_⟩
        refine ⟨true, T.ex_NoCopy_NoCopy, fun _ e' ne' => ?_, fun z => by cases z⟩
        have ned : dd ≠ e' := ne_of_none hdd ne'
        have hd2 : (upd H' e' (ExK (.ref (a 100)) (some dd) e')) dd = some (.xd [("copy", v)]) := by rw [upd_ne ned]; exact hdd
        have sE : Same H (upd H' e' (ExK (.ref (a 100)) (some dd) e')) := s'.trans (same_new (Same.refl H') ne')
        refine ⟨_, rfl, e', dd, _, _, rfl, upd_same, hd2, xd_one _ _, v, d', rfl, ha.up sE, sh.1, sh.2.1, sh.2.2, ?_⟩
        refine ⟨_, rfl, e', (a 100), dd, _, .ty "IndexError", .type "IndexError", true, rfl, T.xc_NoCopy, upd_same, hd2, (fun u r => by first | exact r | (cases r; rfl)), T.ki_NoCopy_IndexError, ?_⟩
        exact ⟨len3, fun r nr => q r _ (sE.free nr) (sE.trans (same_new (Same.refl _) nr)) upd_same⟩
      · refine ⟨_, rfl, rfl, _, rfl, ite2 (fun h => absurd h (by decide)) (fun _ => ?_)⟩
        refine ⟨_, rfl, rfl, _, rfl, ite2 (fun h => absurd h (by decide)) (fun _ => ?_)⟩
        refine ⟨_, rfl, rfl, _, rfl, ite2 (fun h => absurd h (by decide)) (fun _ => ?_)⟩
        refine ⟨_, rfl, rfl, _, rfl, ite2 (fun h => absurd h (by decide)) (fun _ => ?_)⟩
        refine ⟨_, rfl, rfl, _, rfl, ite2 (fun h => absurd h (by decide)) (fun _ => ?_)⟩
        refine ⟨_, rfl, rfl, _, rfl, ite2 (fun _ => ?_) (fun h => absurd rfl h)⟩
        refine ⟨_, rfl, x, dx, _, rfl, hx, gf_no _ _ (by decide +kernel) (by decide +kernel) (by decide +kernel) (by decide +kernel) (by decide +kernel) (by decide +kernel) (by decide +kernel) (by decide +kernel) (by decide +kernel) (by decide +kernel) (by decide +kernel) (by decide +kernel) (by decide +kernel) (by decide +kernel) (by decide +kernel), _, rfl, x, A', 1, 100, g, v, rfl, hg, ⟨d', ha, hb⟩, fun dd H' s' hdd => ?_⟩
        refine ⟨true, T.ex_NoCopy_NoCopy, fun _ e' ne' => ?_, fun z => by cases z⟩
        have ned : dd ≠ e' := ne_of_none hdd ne'
        have hd2 : (upd H' e' (ExK (.ref (a 100)) (some dd) e')) dd = some (.xd [("copy", v)]) := by rw [upd_ne ned]; exact hdd
        have sE : Same H (upd H' e' (ExK (.ref (a 100)) (some dd) e')) := s'.trans (same_new (Same.refl H') ne')
        refine ⟨_, rfl, e', dd, _, _, rfl, upd_same, hd2, xd_one _ _, v, d', rfl, ha.up sE, sh.1, sh.2.1, sh.2.2, ?_⟩
        refine ⟨_, rfl, e', (a 100), dd, _, .ty "IndexError", .type "IndexError", true, rfl, T.xc_NoCopy, upd_same, hd2, (fun u r => by first | exact r | (cases r; rfl)), T.ki_NoCopy_IndexError, ?_⟩
        exact ⟨len3, fun r nr => q r _ (sE.free nr) (sE.trans (same_new (Same.refl _) nr)) upd_same⟩
      · refine ⟨_, rfl, rfl, _, rfl, ite2 (fun h => absurd h (by decide)) (fun _ => ?_)⟩
        refine ⟨_, rfl, rfl, _, rfl, ite2 (fun h => absurd h (by decide)) (fun _ => ?_)⟩
        refine ⟨_, rfl, rfl, _, rfl, ite2 (fun h => absurd h (by decide)) (fun _ => ?_)⟩
        refine ⟨_, rfl, rfl, _, rfl, ite2 (fun h => absurd h (by decide)) (fun _ => ?_)⟩
        refine ⟨_, rfl, rfl, _, rfl, ite2 (fun h => absurd h (by decide)) (fun _ => ?_)⟩
        refine ⟨_, rfl, rfl, _, rfl, ite2 (fun h => absurd h (by decide)) (fun _ => ?_)⟩
        refine ⟨_, rfl, rfl, _, rfl, ite2 (fun _ => ?_) (fun h => absurd rfl h)⟩
        refine ⟨_, rfl, x, dx, _, rfl, hx, gf_no _ _ (by decide +kernel) (by decide +kernel) (by decide +kernel) (by decide +kernel) (by decide +kernel) (by decide +kernel) (by decide +kernel) (by decide +kernel) (by decide +kernel) (by decide +kernel) (by decide +kernel) (by decide +kernel) (by decide +kernel) (by decide +kernel) (by decide +kernel), _, rfl, x, A', 1, 100, g, v, rfl, hg, ⟨d', ha, hb⟩, fun dd H' s' hdd => ?_⟩
        refine ⟨true, T.ex_NoCopy_NoCopy, fun _ e' ne' => ?_, fun z => by cases z⟩
        have ned : dd ≠ e' := ne_of_none hdd ne'
        have hd2 : (upd H' e' (ExK (.ref (a 100)) (some dd) e')) dd = some (.xd [("copy", v)]) := by rw [upd_ne ned]; exact hdd
        have sE : Same H (upd H' e' (ExK (.ref (a 100)) (some dd) e')) := s'.trans (same_new (Same.refl H') ne')
        refine ⟨_, rfl, e', dd, _, _, rfl, upd_same, hd2, xd_one _ _, v, d', rfl, ha.up sE, sh.1, sh.2.1, sh.2.2, ?_⟩
        refine ⟨_, rfl, e', (a 100), dd, _, .ty "IndexError", .type "IndexError", true, rfl, T.xc_NoCopy, upd_same, hd2, (fun u r => by first | exact r | (cases r; rfl)), T.ki_NoCopy_IndexError, ?_⟩
        exact ⟨len3, fun r nr => q r _ (sE.free nr) (sE.trans (same_new (Same.refl _) nr)) upd_same⟩
      · refine ⟨_, rfl, rfl, _, rfl, ite2 (fun h => absurd h (by decide)) (fun _ => ?_)⟩
        refine ⟨_, rfl, rfl, _, rfl, ite2 (fun h => absurd h (by decide)) (fun _ => ?_)⟩
        refine ⟨_, rfl, rfl, _, rfl, ite2 (fun h => absurd h (by decide)) (fun _ => ?_)⟩
        refine ⟨_, rfl, rfl, _, rfl, ite2 (fun h => absurd h (by decide)) (fun _ => ?_)⟩
        refine ⟨_, rfl, rfl, _, rfl, ite2 (fun h => absurd h (by decide)) (fun _ => ?_)⟩
        refine ⟨_, rfl, rfl, _, rfl, ite2 (fun h => absurd h (by decide)) (fun _ => ?_)⟩
        refine ⟨_, rfl, rfl, _, rfl, ite2 (fun h => absurd h (by decide)) (fun _ => ?_)⟩
        refine ⟨_, rfl, rfl, _, rfl, ite2 (fun _ => ?_) (fun h => absurd rfl h)⟩
        refine ⟨_, rfl, x, dx, _, rfl, hx, gf_no _ _ (by decide +kernel) (by decide +kernel) (by decide +kernel) (by decide +kernel) (by decide +kernel) (by decide +kernel) (by decide +kernel) (by decide +kernel) (by decide +kernel) (by decide +kernel) (by decide +kernel) (by decide +kernel) (by decide +kernel) (by decide +kernel) (by decide +kernel), _, rfl, x, A', 1, 100, g, v, rfl, hg, ⟨d', ha, hb⟩, fun dd H' s' hdd => ?_⟩
        refine ⟨true, T.ex_NoCopy_NoCopy, fun _ e' ne' => ?_, fun z => by cases z⟩
        have ned : dd ≠ e' := ne_of_none hdd ne'
        have hd2 : (upd H' e' (ExK (.ref (a 100)) (some dd) e')) dd = some (.xd [("copy", v)]) := by rw [upd_ne ned]; exact hdd
        have sE : Same H (upd H' e' (ExK (.ref (a 100)) (some dd) e')) := s'.trans (same_new (Same.refl H') ne')
        refine ⟨_, rfl, e', dd, _, _, rfl, upd_same, hd2, xd_one _ _, v, d', rfl, ha.up sE, sh.1, sh.2.1, sh.2.2, ?_⟩
        refine ⟨_, rfl, e', (a 100), dd, _, .ty "IndexError", .type "IndexError", true, rfl, T.xc_NoCopy, upd_same, hd2, (fun u r => by first | exact r | (cases r; rfl)), T.ki_NoCopy_IndexError, ?_⟩
        exact ⟨len3, fun r nr => q r _ (sE.free nr) (sE.trans (same_new (Same.refl _) nr)) upd_same⟩
      · refine ⟨_, rfl, rfl, _, rfl, ite2 (fun h => absurd h (by decide)) (fun _ => ?_)⟩
        refine ⟨_, rfl, rfl, _, rfl, ite2 (fun h => absurd h (by decide)) (fun _ => ?_)⟩
        refine ⟨_, rfl, rfl, _, rfl, ite2 (fun h => absurd h (by decide)) (fun _ => ?_)⟩
        refine ⟨_, rfl, rfl, _, rfl, ite2 (fun h => absurd h (by decide)) (fun _ => ?_)⟩
        refine ⟨_, rfl, rfl, _, rfl, ite2 (fun h => absurd h (by decide)) (fun _ => ?_)⟩
        refine ⟨_, rfl, rfl, _, rfl, ite2 (fun h => absurd h (by decide)) (fun _ => ?_)⟩
        refine ⟨_, rfl, rfl, _, rfl, ite2 (fun h => absurd h (by decide)) (fun _ => ?_)⟩
        refine ⟨_, rfl, rfl, _, rfl, ite2 (fun h => absurd h (by decide)) (fun _ => ?_)⟩
        refine ⟨_, rfl, x, dx, _, rfl, hx, gf_no _ _ (by decide +kernel) (by decide +kernel) (by decide +kernel) (by decide +kernel) (by decide +kernel) (by decide +kernel) (by decide +kernel) (by decide +kernel) (by decide +kernel) (by decide +kernel) (by decide +kernel) (by decide +kernel) (by decide +kernel) (by decide +kernel) (by decide +kernel), _, rfl, .inr ⟨x, A', 1, 100, g, v, rfl, hg, nn rfl, ⟨d', ha, hb⟩, fun dd H' s' hdd => ?_⟩⟩
        refine ⟨true, T.ex_NoCopy_NoCopy, fun _ e' ne' => ?_, fun z => by cases z⟩
        have ned : dd ≠ e' := ne_of_none hdd ne'
        have hd2 : (upd H' e' (ExK (.ref (a 100)) (some dd) e')) dd = some (.xd [("copy", v)]) := by rw [upd_ne ned]; exact hdd
        have sE : Same H (upd H' e' (ExK (.ref (a 100)) (some dd) e')) := s'.trans (same_new (Same.refl H') ne')
        refine ⟨_, rfl, e', dd, _, _, rfl, upd_same, hd2, xd_one _ _, v, d', rfl, ha.up sE, sh.1, sh.2.1, sh.2.2, ?_⟩
        refine ⟨_, rfl, e', (a 100), dd, _, .ty "IndexError", .type "IndexError", true, rfl, T.xc_NoCopy, upd_same, hd2, (fun u r => by first | exact r | (cases r; rfl)), T.ki_NoCopy_IndexError, ?_⟩
        exact ⟨len3, fun r nr => q r _ (sE.free nr) (sE.trans (same_new (Same.refl _) nr)) upd_same⟩
    | @book pz lo q =>
      refine ⟨_, rfl, rfl, _, rfl, ite2 (fun h => absurd h (by decide)) (fun _ => ?_)⟩
      refine ⟨_, rfl, rfl, _, rfl, ite2 (fun h => absurd h (by decide)) (fun _ => ?_)⟩
      refine ⟨_, rfl, rfl, _, rfl, ite2 (fun h => absurd h (by decide)) (fun _ => ?_)⟩
      refine ⟨_, rfl, rfl, _, rfl, ite2 (fun h => absurd h (by decide)) (fun _ => ?_)⟩
      refine ⟨_, rfl, rfl, _, rfl, ite2 (fun h => absurd h (by decide)) (fun _ => ?_)⟩
      refine ⟨_, rfl, rfl, _, rfl, ite2 (fun h => absurd h (by decide)) (fun _ => ?_)⟩
      refine ⟨_, rfl, rfl, _, rfl, ite2 (fun h => absurd h (by decide)) (fun _ => ?_)⟩
      refine ⟨_, rfl, rfl, _, rfl, ite2 (fun h => absurd h (by decide)) (fun _ => ?_)⟩
      refine ⟨_, rfl, x, dx, _, rfl, hx, gf_no _ _ (by decide +kernel) (by decide +kernel) (by decide +kernel) (by decide +kernel) (by decide +kernel) (by decide +kernel) (by decide +kernel) (by decide +kernel) (by decide +kernel) (by decide +kernel) (by decide +kernel) (by decide +kernel) (by decide +kernel) (by decide +kernel) (by decide +kernel), _, rfl, .inl ⟨x, A', 1, 100, g, .non, g.ds.length, rfl, hg, lo, Nat.le_refl _, .inl ⟨rfl, rfl⟩, fun p2 xs H2 np2 s2 hp2 hd2 => ⟨len1, fun r nr => ?_⟩⟩⟩
      exact q r _ (s2.free nr) (s2.trans (same_new (Same.refl _) nr)) upd_same
    | @deed _ i s p lo hi h0 h4 l0 hs hp q =>
      have : wy = 0 ∨ wy = 1 ∨ wy = 2 ∨ wy = 3 := by omega
      rcases this with rfl | rfl | rfl | rfl
      · refine ⟨_, rfl, rfl, _, rfl, ite2 (fun _ => ?_) (fun h => absurd rfl h)⟩
        refine ⟨_, rfl, x, dx, _, rfl, hx, gf_no _ _ (by decide +kernel) (by decide +kernel) (by decide +kernel) (by decide +kernel) (by decide +kernel) (by decide +kernel) (by decide +kernel) (by decide +kernel) (by decide +kernel) (by decide +kernel) (by decide +kernel) (by decide +kernel) (by decide +kernel) (by decide +kernel) (by decide +kernel), _, rfl, .inl ⟨x, A', 1, 100, g, i, s, rfl, hg, hs, fun A2 H2 n2 => ⟨len1, fun r nr => ?_⟩⟩⟩
        have sN : Same H2 (upd H2 r (.lst [.str "told"])) := same_new (Same.refl _) nr
        exact q r _ A2 "told" _ (n2.free nr) .stop (n2.same sN) upd_same
      · refine ⟨_, rfl, rfl, _, rfl, ite2 (fun h => absurd h (by decide)) (fun _ => ?_)⟩
        refine ⟨_, rfl, rfl, _, rfl, ite2 (fun _ => ?_) (fun h => absurd rfl h)⟩
        refine ⟨_, rfl, x, dx, _, rfl, hx, gf_no _ _ (by decide +kernel) (by decide +kernel) (by decide +kernel) (by decide +kernel) (by decide +kernel) (by decide +kernel) (by decide +kernel) (by decide +kernel) (by decide +kernel) (by decide +kernel) (by decide +kernel) (by decide +kernel) (by decide +kernel) (by decide +kernel) (by decide +kernel), _, rfl, .inl ⟨x, A', 1, 100, g, i, s, rfl, hg, hs, fun A2 H2 n2 => ⟨len1, fun r nr => ?_⟩⟩⟩
        have sN : Same H2 (upd H2 r (.lst [.str "told"])) := same_new (Same.refl _) nr
        exact q r _ A2 "told" _ (n2.free nr) .back (n2.same sN) upd_same
      · refine ⟨_, rfl, rfl, _, rfl, ite2 (fun h => absurd h (by decide)) (fun _ => ?_)⟩
        refine ⟨_, rfl, rfl, _, rfl, ite2 (fun h => absurd h (by decide)) (fun _ => ?_)⟩
        refine ⟨_, rfl, rfl, _, rfl, ite2 (fun _ => ?_) (fun h => absurd rfl h)⟩
        by_cases ok : okB lo hi s.sp
        · refine ⟨_, rfl, x, dx, _, rfl, hx, gf_no _ _ (by decide +kernel) (by decide +kernel) (by decide +kernel) (by decide +kernel) (by decide +kernel) (by decide +kernel) (by decide +kernel) (by decide +kernel) (by decide +kernel) (by decide +kernel) (by decide +kernel) (by decide +kernel) (by decide +kernel) (by decide +kernel) (by decide +kernel), _, rfl, _, rfl, p, _, 0, _, rfl, rfl, SqT.of hp, rfl, _, rfl, p, _, 1, _, rfl, rfl, SqT.of hp, rfl, .inl ⟨x, A', 1, 100, lo, hi, g, i, s, rfl, ok.1, ok.2, hg, hs, fun A2 H2 n2 => ⟨len1, fun r nr => ?_⟩⟩⟩
          have sN : Same H2 (upd H2 r (.lst [.str "told"])) := same_new (Same.refl _) nr
          exact q r _ A2 "told" _ (n2.free nr) (.set ok) (n2.same sN) upd_same
        · refine ⟨_, rfl, x, dx, _, rfl, hx, gf_no _ _ (by decide +kernel) (by decide +kernel) (by decide +kernel) (by decide +kernel) (by decide +kernel) (by decide +kernel) (by decide +kernel) (by decide +kernel) (by decide +kernel) (by decide +kernel) (by decide +kernel) (by decide +kernel) (by decide +kernel) (by decide +kernel) (by decide +kernel), _, rfl, _, rfl, p, _, 0, _, rfl, rfl, SqT.of hp, rfl, _, rfl, p, _, 1, _, rfl, rfl, SqT.of hp, rfl, .inr ⟨x, A', 1, 100, g, _, lo, hi, rfl, hg, .inr ⟨i, s, rfl, hs, ok, fun dd H' s' hdd => ?_⟩⟩⟩
          refine ⟨false, T.ex_NoBounds_NoCopy, (fun z => by cases z), fun _ => ⟨true, T.ex_NoBounds_NoBounds, fun _ e' ne' => ?_, fun z => by cases z⟩⟩
          have sE : Same H (upd H' e' (ExK (.ref (a 102)) (some dd) e')) := s'.trans (same_new (Same.refl H') ne')
          refine ⟨len1, fun r nr => ?_⟩
          have sN := sE.trans (same_new (o := .lst [.str "bounds"]) (Same.refl _) nr)
          refine q r _ A' "bounds" s (sE.free nr) (.not ok) ?_ upd_same
          rw [set_self hs]
          exact (Gx.refl hg).same sN
      · refine ⟨_, rfl, rfl, _, rfl, ite2 (fun h => absurd h (by decide)) (fun _ => ?_)⟩
        refine ⟨_, rfl, rfl, _, rfl, ite2 (fun h => absurd h (by decide)) (fun _ => ?_)⟩
        refine ⟨_, rfl, rfl, _, rfl, ite2 (fun h => absurd h (by decide)) (fun _ => ?_)⟩
        refine ⟨_, rfl, rfl, _, rfl, ite2 (fun _ => ?_) (fun h => absurd rfl h)⟩
        refine ⟨_, rfl, x, dx, _, rfl, hx, gf_no _ _ (by decide +kernel) (by decide +kernel) (by decide +kernel) (by decide +kernel) (by decide +kernel) (by decide +kernel) (by decide +kernel) (by decide +kernel) (by decide +kernel) (by decide +kernel) (by decide +kernel) (by decide +kernel) (by decide +kernel) (by decide +kernel) (by decide +kernel), _, rfl, _, rfl, p, _, 0, _, rfl, rfl, SqT.of hp, rfl, .inl ⟨x, A', 1, 100, lo, g, i, s, rfl, l0, hg, hs, fun A2 H2 n2 => ⟨len1, fun r nr => ?_⟩⟩⟩
        have sN : Same H2 (upd H2 r (.lst [.str "told"])) := same_new (Same.refl _) nr
        exact q r _ A2 "told" _ (n2.free nr) .tick (n2.same sN) upd_same
    | @neg i m p hi m0 hp q =>
      refine ⟨_, rfl, rfl, _, rfl, ite2 (fun h => absurd h (by decide)) (fun _ => ?_)⟩
      refine ⟨_, rfl, rfl, _, rfl, ite2 (fun h => absurd h (by decide)) (fun _ => ?_)⟩
      refine ⟨_, rfl, rfl, _, rfl, ite2 (fun h => absurd h (by decide)) (fun _ => ?_)⟩
      refine ⟨_, rfl, rfl, _, rfl, ite2 (fun _ => ?_) (fun h => absurd rfl h)⟩
      refine ⟨_, rfl, x, dx, _, rfl, hx, gf_no _ _ (by decide +kernel) (by decide +kernel) (by decide +kernel) (by decide +kernel) (by decide +kernel) (by decide +kernel) (by decide +kernel) (by decide +kernel) (by decide +kernel) (by decide +kernel) (by decide +kernel) (by decide +kernel) (by decide +kernel) (by decide +kernel) (by decide +kernel), _, rfl, _, rfl, p, _, 0, _, rfl, rfl, SqT.of hp, rfl, .inr ⟨x, A', 1, 100, g, _, _, rfl, hg, .inr ⟨i, m, rfl, rfl, hi, m0, fun dd H' s' hdd => ?_⟩⟩⟩
      refine ⟨false, T.ex_NoNumber_NoCopy, (fun z => by cases z), fun _ => ⟨false, T.ex_NoNumber_NoBounds, (fun z => by cases z), fun _ => ⟨true, T.ex_NoNumber_NoNumber, fun _ e' ne' => ?_, fun z => by cases z⟩⟩⟩
      have sE : Same H (upd H' e' (ExK (.ref (a 103)) (some dd) e')) := s'.trans (same_new (Same.refl H') ne')
      exact ⟨len1, fun r nr => q r _ (sE.free nr) (sE.trans (same_new (Same.refl _) nr)) upd_same⟩


/-- a state of draws stands at s -/
def StAt (H : Hp) (s : Addr) : Prop := ∃ (a b : Int) (c : Bool), H s = some (.lst [.int a, .int b, .bl c]) ∧ 0 ≤ b ∧ b < 2147483647
/-- all else that was tracked stands; at s a state -/
def Kp (s : Addr) (H H' : Hp) : Prop := (∀ b o, b ≠ s → H b = some o → H' b = some o) ∧ StAt H' s
theorem StAt.kp {H : Hp} {s : Addr} (h : StAt H s) : Kp s H H := ⟨fun _ _ _ e => e, h⟩
theorem Kp.trans {s : Addr} {H H1 H2 : Hp} (a : Kp s H H1) (b : Kp s H1 H2) : Kp s H H2 := ⟨fun c o n e => b.1 c o n (a.1 c o n e), b.2⟩
theorem StAt.ne_new {H : Hp} {s p : Addr} (h : StAt H s) (hp : H p = none) : p ≠ s := by
  obtain ⟨a, b, c, e, _⟩ := h
  exact (ne_of_none e hp).symm
theorem StAt.new {H : Hp} {s p : Addr} {o : HO} (h : StAt H s) (hp : H p = none) : StAt (upd H p o) s := by
  obtain ⟨a, b, c, e, r⟩ := h
  exact ⟨a, b, c, by rw [upd_ne (ne_of_none e hp)]; exact e, r⟩
theorem Kp.new {s p : Addr} {H H1 : Hp} {o : HO} (k : Kp s H H1) (hp : H1 p = none) : Kp s H (upd H1 p o) :=
  ⟨fun b u n e => by rw [upd_ne (ne_of_none (k.1 b u n e) hp)]; exact k.1 b u n e, k.2.new hp⟩
theorem StAt.ne_tup {H : Hp} {s p : Addr} {xs : List V} (h : StAt H s) (hp : H p = some (.tup xs)) : p ≠ s := by
  obtain ⟨a, b, c, e, _⟩ := h
  exact ne_of hp e (by intro q; cases q)
theorem Kp.tup {s p : Addr} {H H1 : Hp} {xs : List V} (k : Kp s H H1) (h0 : StAt H s) (hp : H p = some (.tup xs)) : H1 p = some (.tup xs) := k.1 p _ (h0.ne_tup hp) hp
theorem Kp.free {s p : Addr} {H H1 : Hp} (k : Kp s H H1) (h0 : StAt H s) (hp : H1 p = none) : H p = none := by
  cases e : H p with
  | none => rfl
  | some o =>
    have z := k.1 p o (k.2.ne_new hp) e
    rw [hp] at z
    cases z
theorem Kp.same {s : Addr} {H0 H H1 : Hp} (a : Same H0 H) (hs : H0 s = none) (k : Kp s H H1) : Same H0 H1 := fun b o e => k.1 b o (ne_of_none e hs) (a b o e)
theorem cell_at (ns : List Int) (lo hi : Option Int) : ∃ c : Int, atI (cutV (ns.map V.int) lo hi ++ [V.int 0]) 0 = some (V.int c) := by
  unfold cutV
  rw [← List.map_drop, ← List.map_take]
  generalize ((List.drop _ ns).take _) = l
  cases l with
  | nil => exact ⟨0, rfl⟩
  | cons x xs => exact ⟨x, atI_nat (j := 0) rfl⟩
theorem cut_len (xs : List V) (lo hi : Option Int) : (cutV xs lo hi).length ≤ xs.length := by
  unfold cutV
  rw [List.length_take, List.length_drop]
  omega
def spBegun (K : PySem.W.Frag) : Sp := fun vs H Q _ => ∃ (l : Addr) (ns : List Int) (k : Int), vs = [.ref l, .int k] ∧ SqL K H l (ns.map V.int) ∧ ns.length ≤ 63 ∧ 0 ≤ k ∧ k ≤ 100 ∧ ∀ (p : Addr) (H' : Hp), H p = none → Same H H' → StAt H' p → Q (.ref p) H'
def spTake : Sp := fun vs H Q _ => ∃ (s : Addr) (m : Int), vs = [.ref s, .int m] ∧ StAt H s ∧ 0 < m ∧ m ≤ 1000000000000000000000000000000 ∧ ∀ (r : Int) (H' : Hp), 0 ≤ r → r < m → Kp s H H' → Q (.int r) H'
/-! ### sets of things that may be changed -/
def MutD : HO → Prop
  | .lst _ => True
  | .ins _ _ _ => True
  | .dK _ => True
  | _ => False
def FrS (S : List Addr) (H H' : Hp) : Prop := ∀ c o, ¬ c ∈ S → H c = some o → H' c = some o
def MutS (S : List Addr) (H : Hp) : Prop := ∀ c ∈ S, ∃ o, H c = some o ∧ MutD o
structure Nx (S : List Addr) (H : Hp) (S' : List Addr) (H' : Hp) : Prop where
  fr : FrS S H H'
  ow : ∀ c ∈ S', c ∈ S ∨ H c = none
theorem Nx.refl (S : List Addr) (H : Hp) : Nx S H S H := ⟨fun _ _ _ e => e, fun _ z => .inl z⟩
theorem Nx.trans {S S1 S2 : List Addr} {H H1 H2 : Hp} (a : Nx S H S1 H1) (b : Nx S1 H1 S2 H2) : Nx S H S2 H2 := by
  refine ⟨fun c o n e => b.fr c o (fun z => ?_) (a.fr c o n e), fun c z => ?_⟩
  · rcases a.ow c z with y | y
    · exact n y
    · rw [e] at y; cases y
  · rcases b.ow c z with y | y
    · exact a.ow c y
    · cases e : H c with
      | none => exact .inr rfl
      | some o =>
        by_cases n : c ∈ S
        · exact .inl n
        · rw [a.fr c o n e] at y; cases y
theorem Nx.same {S S1 : List Addr} {H H1 H2 : Hp} (a : Nx S H S1 H1) (k : Same H1 H2) : Nx S H S1 H2 := ⟨fun c o n e => k c o (a.fr c o n e), a.ow⟩
theorem Nx.pre {S S1 : List Addr} {H H1 H2 : Hp} (a : Nx S H1 S1 H2) (k : Same H H1) : Nx S H S1 H2 := ⟨fun c o n e => a.fr c o n (k c o e), fun c z => (a.ow c z).imp id fun y => k.free y⟩
theorem nx_same {S : List Addr} {H H1 : Hp} (k : Same H H1) : Nx S H S H1 := (Nx.refl S H).same k
theorem Nx.out {S S1 : List Addr} {H H1 : Hp} (a : Nx S H S1 H1) {c : Addr} {o : HO} (n : ¬ c ∈ S) (e : H c = some o) : ¬ c ∈ S1 ∧ H1 c = some o :=
  ⟨fun z => (a.ow c z).elim n (fun y => by rw [e] at y; cases y), a.fr c o n e⟩
/-- as a step of more -/
theorem Nx.wid {S S1 T T1 : List Addr} {H H1 : Hp} (a : Nx S H S1 H1) (h : ∀ c ∈ S, c ∈ T) (h1 : ∀ c ∈ T1, c ∈ S1 ∨ c ∈ T) : Nx T H T1 H1 :=
  ⟨fun c o n e => a.fr c o (fun z => n (h c z)) e, fun c z => (h1 c z).elim (fun y => (a.ow c y).imp (h c) id) .inl⟩
theorem nx_put {S : List Addr} {H : Hp} {x : Addr} {o : HO} (h : x ∈ S) : Nx S H S (upd H x o) := ⟨fun c u n e => by rw [upd_ne (fun z => n (by rw [z]; exact h))]; exact e, fun _ z => .inl z⟩
theorem Nx.sm {S S1 : List Addr} {H0 H H1 : Hp} (a : Nx S H S1 H1) (k : Same H0 H) (h : ∀ c ∈ S, H0 c = none) : Same H0 H1 := fun c o e => a.fr c o (fun z => by rw [h c z] at e; cases e) (k c o e)
section
variable {K : PySem.W.Frag} {H H' : Hp} {S : List Addr}
theorem mut_tup {p : Addr} {xs : List V} (m : MutS S H) (e : H p = some (.tup xs)) : ¬ p ∈ S := fun z => by
  obtain ⟨o, h, u⟩ := m p z
  rw [e] at h
  cases h
  exact u
theorem mut_frz {p : Addr} {u : Obj} {o : HO} (m : MutS S H) (e : H p = some (.frz u o)) : ¬ p ∈ S := fun z => by
  obtain ⟨o, h, u⟩ := m p z
  rw [e] at h
  cases h
  exact u
theorem sqt_S {p : Addr} {xs : List V} (h : SqT K H p xs) (k : FrS S H H') (m : MutS S H) : SqT K H' p xs := by
  rcases h with (h | ⟨u, h⟩) | h
  · exact .inl (.inl (k p _ (mut_tup m h) h))
  · exact .inl (.inr ⟨u, k p _ (mut_frz m h) h⟩)
  · exact .inr h
theorem flat_S {v : V} {d : PyData} (h : Dp K H v d) (l : flatT d = true) (k : FrS S H H') (m : MutS S H) : Dp K H' v d := by
  cases h with
  | non => exact .non
  | bl x => exact .bl x
  | int i => exact .int i
  | str x => exact .str x
  | lst hq hs => cases l
  | tup hq hs => exact .tup (sqt_S hq k m) (leaves_up hs l)
theorem flats_S (k : FrS S H H') (m : MutS S H) : ∀ {vs : List V} {ds : List PyData}, DpAll K H vs ds → (∀ d ∈ ds, flatT d = true) → DpAll K H' vs ds
  | _, _, .nil, _ => .nil
  | _, _, .cons a r, l => .cons (flat_S a (l _ (List.mem_cons_self ..)) k m) (flats_S k m r fun d hd => l d (List.mem_cons_of_mem _ hd))
theorem svat_S {v : V} {s : Option (Int × Int)} (h : SvAt K H v s) (k : FrS S H H') (m : MutS S H) : SvAt K H' v s := by
  cases s with
  | none => exact h
  | some z =>
    obtain ⟨p, e, q⟩ := h
    exact ⟨p, e, sqt_S q k m⟩
theorem svl_S {vs : List V} {ss : List (Option (Int × Int))} (h : SvL K H vs ss) (k : FrS S H H') (m : MutS S H) : SvL K H' vs ss := ⟨h.len, fun i v s e1 e2 => svat_S (h.at_ i v s e1 e2) k m⟩
/-- things that are none of the group's are changed -/
theorem Lists.frS {A : GA} {t b : Int} {g : GS} (l : Lists K H A t b g) (k : FrS S H H') (m : MutS S H) (nA : ∀ c ∈ A.all, ¬ c ∈ S) (fl : ∀ d ∈ g.ds, flatT d = true) : Lists K H' A t b g :=
  ⟨⟨sqt_S l.dr.1 k m, l.dr.2⟩, k _ _ (nA A.ups (by simp [GA.all])) l.ups, k _ _ (nA A.has (by simp [GA.all])) l.has, k _ _ (nA A.cts (by simp [GA.all])) l.cts, k _ _ (nA A.prs (by simp [GA.all])) l.prs, k _ _ (nA A.pins (by simp [GA.all])) l.pins, k _ _ (nA A.rts (by simp [GA.all])) l.rts, (by obtain ⟨vs, e, q⟩ := l.sts; exact ⟨vs, k _ _ (nA A.sts (by simp [GA.all])) e, svl_S q k m⟩), (by obtain ⟨vs, e, q⟩ := l.sps; exact ⟨vs, k _ _ (nA A.sps (by simp [GA.all])) e, svl_S q k m⟩), (by obtain ⟨vs, e, q⟩ := l.el; exact ⟨vs, k _ _ (nA A.el (by simp [GA.all])) e, flats_S k m q fl⟩), l.e_ups, l.e_has, l.e_cts, l.e_prs, l.e_pins, l.e_rts, l.e_sts, l.e_sps, l.n5, l.n1, l.nn, l.dl⟩
def ownG (x : Addr) (A : GA) : List Addr := x :: A.all
theorem GroupAt.frS {CG x : Addr} {A : GA} {t b : Int} {g : GS} (h : GroupAt K CG H x A t b g) (k : FrS S H H') (m : MutS S H) (nA : ∀ c ∈ ownG x A, ¬ c ∈ S) (fl : ∀ d ∈ g.ds, flatT d = true) : GroupAt K CG H' x A t b g := by
  obtain ⟨⟨dx, hx⟩, l⟩ := h
  exact ⟨⟨dx, k _ _ (nA x (List.mem_cons_self ..)) hx⟩, l.frS k m (fun c z => nA c (List.mem_cons_of_mem _ z)) fl⟩
theorem GroupAt.mut {CG x : Addr} {A : GA} {t b : Int} {g : GS} (h : GroupAt K CG H x A t b g) : MutS (ownG x A) H := fun c hc => by
  obtain ⟨⟨dx, hx⟩, l⟩ := h
  rcases List.mem_cons.mp hc with rfl | hc
  · exact ⟨_, hx, trivial⟩
  obtain ⟨_, e1, _⟩ := l.sts
  obtain ⟨_, e2, _⟩ := l.sps
  obtain ⟨_, e3, _⟩ := l.el
  simp only [GA.all, List.mem_cons, List.not_mem_nil, or_false] at hc
  rcases hc with rfl | rfl | rfl | rfl | rfl | rfl | rfl | rfl | rfl
  · exact ⟨_, l.ups, trivial⟩
  · exact ⟨_, l.has, trivial⟩
  · exact ⟨_, e1, trivial⟩
  · exact ⟨_, l.cts, trivial⟩
  · exact ⟨_, e2, trivial⟩
  · exact ⟨_, l.prs, trivial⟩
  · exact ⟨_, l.pins, trivial⟩
  · exact ⟨_, l.rts, trivial⟩
  · exact ⟨_, e3, trivial⟩
end
theorem Gx.nx {K : PySem.W.Frag} {CG : Addr} {H H' : Hp} {x : Addr} {A A' : GA} {t b : Int} {g' : GS} (n : Gx K CG H x A t b H' A' g') : Nx (ownG x A) H (ownG x A') H' :=
  ⟨fun c o nc e => n.fr c o (fun z => nc (by rw [z]; exact List.mem_cons_self ..)) e, fun c z => by
    rcases List.mem_cons.mp z with rfl | z
    · exact .inl (List.mem_cons_self ..)
    · exact (n.ow c z).imp (List.mem_cons_of_mem _) id⟩
theorem bool_show (b : Bool) : (PyData.bool b).showable = true ∧ (PyData.bool b).depth ≤ 64 ∧ (PyData.bool b).shown.length ≤ sizeLine := ⟨rfl, by cases b <;> decide, by rw [sizeLine_eq]; cases b <;> decide +kernel⟩
theorem atI_map0 {ms : List MS} {i : Nat} {s : MS} (f : MS → V) (h : ms[i]? = some s) : atI (ms.map f) (0 + (i : Int)) = some (f s) := by rw [Int.zero_add]; exact atI_map f h
theorem atI_mapR {α : Type} {ws : List α} {i : Nat} {w : α} (f : α → V) (h : ws[i]? = some w) : atI (ws.map f) (i : Int) = some (f w) := atI_nat (by rw [List.getElem?_map, h]; rfl)
theorem atI_mapR0 {α : Type} {ws : List α} {i : Nat} {w : α} (f : α → V) (h : ws[i]? = some w) : atI (ws.map f) (0 + (i : Int)) = some (f w) := by rw [Int.zero_add]; exact atI_mapR f h
theorem eqv_two {a b c d : Int} (h1 : a = c) (h2 : b = d) : PyData.eqv (.tuple [.int a, .int b]) (.tuple [.int c, .int d]) = true := by
  subst h1 h2
  simp [PyData.eqv, PyData.eqvAll]
theorem kit_self {K : PySem.W.Frag} {S : Addr} : PySem.W.kitOne K (.ref S) (.ref S) = some true := by
  unfold PySem.W.kitOne
  simp
theorem nsok_of {K : PySem.W.Frag} {N : Addr} {oc : Value} {od : Option Addr} {es : Array DictEntry} {ep : Nat} {sl : Array (Option Value)} (h : K.lookup N = some ⟨oc, od, .dict es ep, sl⟩) (a : (es.all fun e => match e.key with | .str _ _ => true | _ => false) = true) : PySem.W.nsOkIn K N = true := by
  unfold PySem.W.nsOkIn
  rw [h]
  exact a
theorem ixj' {k j : Nat} (h : j < k) : ixN k (j : Int) = some j := by
  unfold ixN
  rw [if_pos (by omega), if_pos (by omega)]
  simp
theorem shaped_rf {d : PyData} (h : SeqAt.shaped d = true) : PyData.eqv d d = true := SeqAt.eqv_refl _ (by
  unfold SeqAt.shaped at h
  rw [Bool.and_eq_true] at h
  exact h.1)
theorem CkAt.frS {K : PySem.W.Frag} {C : Addr} {H H' : Hp} {c dr : Addr} {t b : Int} {st : Option (Int × Int)} {n : Int} {S : List Addr} (h : CkAt K C H c dr t b st n) (k : FrS S H H') (m : MutS S H) (nc : ¬ c ∈ S) : CkAt K C H' c dr t b st n := by
  obtain ⟨⟨dx, sv, e, q⟩, d, nn⟩ := h
  exact ⟨⟨dx, sv, k _ _ nc e, svat_S q k m⟩, ⟨sqt_S d.1 k m, d.2⟩, nn⟩
/-- the law's own clocks and ups -/
structure M26 (K : PySem.W.Frag) (CC : Addr) (H : Hp) (C U : Addr) (cs : List Addr) (ms : List MS) : Prop where
  hU : H U = some (.lst (ms.map fun s => V.bl s.up))
  hC : H C = some (.lst (cs.map V.ref))
  len : cs.length = ms.length
  n5 : ms.length ≤ 5
  ck : ∀ (i : Nat) (c : Addr) (s : MS), cs[i]? = some c → ms[i]? = some s → ∃ dr, CkAt K CC H c dr 1 100 s.st s.n
  nd : cs.Nodup
  UC : U ≠ C
  sp : ∀ s ∈ ms, s.sp = spOf 1 100 s
  so : ∀ s ∈ ms, ∀ z, s.st = some z → z.1 ≤ z.2
section
variable {K : PySem.W.Frag} {CC C U : Addr} {H H' : Hp} {cs : List Addr} {ms : List MS}
theorem M26.frS {S : List Addr} (h : M26 K CC H C U cs ms) (k : FrS S H H') (m : MutS S H) (n : ∀ c ∈ C :: U :: cs, ¬ c ∈ S) : M26 K CC H' C U cs ms :=
  ⟨k _ _ (n U (by simp)) h.hU, k _ _ (n C (by simp)) h.hC, h.len, h.n5, fun i c s hc hs => by
    obtain ⟨dr, z⟩ := h.ck i c s hc hs
    exact ⟨dr, z.frS k m (n c (List.mem_cons_of_mem _ (List.mem_cons_of_mem _ (List.mem_of_getElem? hc))))⟩, h.nd, h.UC, h.sp, h.so⟩
theorem M26.same (h : M26 K CC H C U cs ms) (k : Same H H') : M26 K CC H' C U cs ms := h.frS (S := []) (fun c o _ e => k c o e) (fun c z => by cases z) (fun c _ z => by cases z)
theorem M26.at_ (h : M26 K CC H C U cs ms) {c : Addr} (hc : c ∈ cs) : ∃ dx fs, H c = some (.ins CC dx fs) := by
  obtain ⟨i, hi⟩ := List.mem_iff_getElem?.mp hc
  have hl : i < ms.length := by rw [← h.len]; exact (List.getElem?_eq_some_iff.mp hi).1
  obtain ⟨dr, ⟨dx, sv, e, _⟩, _⟩ := h.ck i c _ hi (List.getElem?_eq_getElem hl)
  exact ⟨dx, _, e⟩
theorem M26.mut (h : M26 K CC H C U cs ms) : MutS (C :: U :: cs) H := fun c hc => by
  rcases List.mem_cons.mp hc with rfl | hc
  · exact ⟨_, h.hC, trivial⟩
  rcases List.mem_cons.mp hc with rfl | hc
  · exact ⟨_, h.hU, trivial⟩
  obtain ⟨dx, fs, e⟩ := h.at_ hc
  exact ⟨_, e, trivial⟩
theorem set_mem {i : Nat} {u : MS} {p : MS → Prop} (h : ∀ s ∈ ms, p s) (hu : p u) : ∀ s ∈ ms.set i u, p s := fun s hs => by
  rcases List.mem_or_eq_of_mem_set hs with hs | rfl
  · exact h s hs
  · exact hu
theorem M26.putC (h : M26 K CC H C U cs ms) {i : Nat} {c dr : Addr} {s u : MS} (hc : cs[i]? = some c) (hs : ms[i]? = some s) (k : Fr c H H') (ck : CkAt K CC H' c dr 1 100 u.st u.n) (eu : u.up = s.up) (hsp : u.sp = spOf 1 100 u) (hso : ∀ z, u.st = some z → z.1 ≤ z.2) : M26 K CC H' C U cs (ms.set i u) := by
  obtain ⟨dx, fs, e⟩ := h.at_ (List.mem_of_getElem? hc)
  have il : i < ms.length := (List.getElem?_eq_some_iff.mp hs).1
  refine ⟨?_, k _ _ (ne_of h.hC e (by intro z; cases z)) h.hC, by rw [List.length_set]; exact h.len, by rw [List.length_set]; exact h.n5, fun j c' s' hc' hs' => ?_, h.nd, h.UC, set_mem h.sp hsp, set_mem h.so hso⟩
  · rw [map_same (f := fun s => V.bl s.up) hs (by show V.bl u.up = V.bl s.up; rw [eu])]
    exact k _ _ (ne_of h.hU e (by intro z; cases z)) h.hU
  · rw [List.getElem?_set] at hs'
    by_cases e2 : i = j
    · subst e2
      rw [if_pos rfl, if_pos il] at hs'
      cases hs'
      rw [hc] at hc'
      cases hc'
      exact ⟨dr, ck⟩
    · rw [if_neg e2] at hs'
      obtain ⟨dr', z⟩ := h.ck j c' s' hc' hs'
      have ne : c' ≠ c := fun z => by
        subst z
        exact e2 ((List.getElem?_inj (List.getElem?_eq_some_iff.mp hc).1 h.nd).mp (hc.trans hc'.symm))
      exact ⟨dr', z.fr k e trivial ne⟩
theorem M26.putU (h : M26 K CC H C U cs ms) {i : Nat} {s u : MS} {b : Bool} (hs : ms[i]? = some s) (eb : u.up = b) (est : u.st = s.st) (en : u.n = s.n) (hsp : u.sp = spOf 1 100 u) (hso : ∀ z, u.st = some z → z.1 ≤ z.2) : M26 K CC (upd H U (.lst ((ms.map fun s => V.bl s.up).set i (.bl b)))) C U cs (ms.set i u) := by
  have il : i < ms.length := (List.getElem?_eq_some_iff.mp hs).1
  have k : FrS [U] H (upd H U (.lst ((ms.map fun s => V.bl s.up).set i (.bl b)))) := fun c o n e => by
    rw [upd_ne (fun z => n (List.mem_singleton.mpr z))]; exact e
  have m : MutS [U] H := fun c z => by rw [List.mem_singleton.mp z]; exact ⟨_, h.hU, trivial⟩
  refine ⟨?_, k _ _ (fun z => h.UC (List.mem_singleton.mp z).symm) h.hC, by rw [List.length_set]; exact h.len, by rw [List.length_set]; exact h.n5, fun j c' s' hc' hs' => ?_, h.nd, h.UC, set_mem h.sp hsp, set_mem h.so hso⟩
  · rw [upd_same, List.map_set, eb]
  · obtain ⟨dx, fs, e⟩ := h.at_ (List.mem_of_getElem? hc')
    have nU : ¬ c' ∈ [U] := fun z => by
      rw [List.mem_singleton.mp z, h.hU] at e; cases e
    rw [List.getElem?_set] at hs'
    by_cases e2 : i = j
    · subst e2
      rw [if_pos rfl, if_pos il] at hs'
      cases hs'
      obtain ⟨dr', z⟩ := h.ck i c' s hc' hs
      rw [est, en]
      exact ⟨dr', z.frS k m nU⟩
    · rw [if_neg e2] at hs'
      obtain ⟨dr', z⟩ := h.ck j c' s' hc' hs'
      exact ⟨dr', z.frS k m nU⟩
end
theorem setLow_eq (lo t b : Int) (s : MS) : setLow lo s.st t b s.n = btwL lo (spOf t b s) := by
  unfold setLow btwL spOf
  cases s.st <;> rfl
theorem setHigh_eq (hi t b : Int) (s : MS) : setHigh hi s.st t b s.n = btwH hi (spOf t b s) := by
  unfold setHigh btwH spOf
  cases s.st <;> rfl
theorem okB_some {lo hi : Int} {z : Int × Int} (h : z.1 ≤ z.2) : okB lo hi (some z) ↔ lo ≤ hi ∧ z.1 ≤ hi ∧ lo ≤ z.2 := by
  unfold okB
  have e1 : btwL lo (some z) = if z.1 > lo then z.1 else lo := rfl
  have e2 : btwH hi (some z) = if z.2 < hi then z.2 else hi := rfl
  rw [e1, e2]
  constructor <;> intro h <;> (repeat' split at h) <;> (try split) <;> omega
theorem okB_none {lo hi : Int} : okB lo hi none ↔ lo ≤ hi := ⟨fun h => h.1, fun h => ⟨h, h⟩⟩
theorem res_shaped {lo hi w : Int} {s u : MS} {r : Str} (h : StepD lo hi s w r u) : SeqAt.shaped (.list [.str r]) = true := by
  cases h <;> decide +kernel
theorem word_at {K : PySem.W.Frag} {H : Hp} {p : Addr} {r : Str} (h : H p = some (.lst [.str r])) : Dp K H (.ref p) (.list [.str r]) := .lst (SqL.of h) (.cons (.str _) .nil)
def copyD (t : Str) : PyData := .list [.str "copy", .str t, .bool true]
theorem copy_at {K : PySem.W.Frag} {H : Hp} {p : Addr} {t : Str} (h : H p = some (.lst [.str "copy", .str t, .bl true])) : Dp K H (.ref p) (copyD t) := .lst (SqL.of h) (.cons (.str _) (.cons (.str _) (.cons (.bl _) .nil)))
/-- what the law refuses with -/
theorem bad_all {K : PySem.W.Frag} {H : Hp} {pl pt pd : Addr} {n : Nat} (n1 : 1 ≤ n) (n5 : n ≤ 5) (hl : H pl = some (.lst [.int 0])) (ht : H pt = some (.tup [.int 0])) (hd : H pd = some (.dK [])) {i : Nat} {v : V}
    (hi : [V.int (n : Int), V.int (-1), V.non, V.bl true, V.str "0", V.ref pl, V.ref pt, V.int (10 ^ (20 : Int).toNat), V.ref pd][i]? = some v) :
    ∃ d, An K H v d ∧ shownB d ∧ fromToD d 0 ((n : Int) - 1) = false ∧ SeqAt.shaped (copyD d.shown) = true ∧ (v = .non ∨ v ≠ .non) := by
  have fits : ∀ d : PyData, (d.showable && decide (d.depth ≤ 64) && decide (d.shown.length ≤ sizeLine) && SeqAt.shaped (copyD d.shown)) = true → shownB d ∧ SeqAt.shaped (copyD d.shown) = true := fun d h => by
    simp only [Bool.and_eq_true, decide_eq_true_eq] at h
    exact ⟨⟨h.1.1.1, h.1.1.2, h.1.2⟩, h.2⟩
  match i, hi with
  | 0, hi =>
    cases hi
    have f : shownB (.int (n : Int)) ∧ SeqAt.shaped (copyD (PyData.int (n : Int)).shown) = true := fits _ (by
      have : n = 1 ∨ n = 2 ∨ n = 3 ∨ n = 4 ∨ n = 5 := by omega
      rcases this with rfl | rfl | rfl | rfl | rfl <;> decide +kernel)
    exact ⟨_, .dp (.int _), f.1, (by simp [fromToD]; omega), f.2, .inr (by intro z; cases z)⟩
  | 1, hi => cases hi; exact ⟨_, .dp (.int _), (fits _ (by decide +kernel)).1, (by simp [fromToD]), (fits _ (by decide +kernel)).2, .inr (by intro z; cases z)⟩
  | 2, hi => cases hi; exact ⟨_, .dp .non, (fits _ (by decide +kernel)).1, rfl, (fits _ (by decide +kernel)).2, .inl rfl⟩
  | 3, hi => cases hi; exact ⟨_, .dp (.bl _), (fits _ (by decide +kernel)).1, rfl, (fits _ (by decide +kernel)).2, .inr (by intro z; cases z)⟩
  | 4, hi => cases hi; exact ⟨_, .dp (.str _), (fits _ (by decide +kernel)).1, rfl, (fits _ (by decide +kernel)).2, .inr (by intro z; cases z)⟩
  | 5, hi => cases hi; exact ⟨_, .dp (.lst (SqL.of hl) (.cons (.int _) .nil)), (fits _ (by decide +kernel)).1, rfl, (fits _ (by decide +kernel)).2, .inr (by intro z; cases z)⟩
  | 6, hi => cases hi; exact ⟨_, .dp (.tup (SqT.of ht) (.cons (.int _) .nil)), (fits _ (by decide +kernel)).1, rfl, (fits _ (by decide +kernel)).2, .inr (by intro z; cases z)⟩
  | 7, hi => cases hi; exact ⟨_, .dp (.int _), (fits _ (by decide +kernel)).1, (by simp [fromToD]; omega), (fits _ (by decide +kernel)).2, .inr (by intro z; cases z)⟩
  | 8, hi => cases hi; exact ⟨_, .dict hd, (fits _ (by decide +kernel)).1, rfl, (fits _ (by decide +kernel)).2, .inr (by intro z; cases z)⟩
  | k + 9, hi => simp at hi
section
variable (K : PySem.W.Frag) (CG CC : Addr)
def spEq26 : Sp := fun vs H Q _ => ∃ (c c' dr dr' : Addr) (t b n : Int) (st : Option (Int × Int)), vs = [.ref c, .ref c'] ∧ CkAt K CC H c dr t b st n ∧ CkAt K CC H c' dr' t b st n ∧ Q (.bl true) H
def spStands26 : Sp := fun vs H Q _ => ∃ (x : Addr) (A : GA) (g : GS) (C U : Addr) (cs : List Addr), vs = [.ref x, .ref U, .ref C] ∧ GroupAt K CG H x A 1 100 g ∧ M26 K CC H C U cs g.ms ∧ ∀ H', Same H H' → Q (.bl true) H'
def spRefuses26 : Sp := fun vs H Q _ => ∃ (x : Addr) (A : GA) (g : GS) (C U : Addr) (cs : List Addr), vs = [.ref x, .ref C, .ref U] ∧ GroupAt K CG H x A 1 100 g ∧ g.loose = false ∧ M26 K CC H C U cs g.ms ∧ ∀ H', Same H H' → Q (.bl true) H'
def spDue26 : Sp := fun vs H Q _ => ∃ (C U p : Addr) (cs : List Addr) (ms : List MS) (w lo hi : Int) (i : Nat) (s : MS), vs = [.ref C, .ref U, .int w, .int (i : Int), .ref p] ∧ M26 K CC H C U cs ms ∧ H p = some (.tup [.int lo, .int hi]) ∧ 0 ≤ w ∧ w < 4 ∧ 0 ≤ lo ∧ ms[i]? = some s ∧
  ∀ r H' res u, H r = none → StepD lo hi s w res u → FrS (C :: U :: cs) H H' → M26 K CC H' C U cs (ms.set i u) → H' r = some (.lst [.str res]) → Q (.ref r) H'
def badM (d : PyData) : Bool := !fromToD d 1 5
def badL (d : PyData) : Bool := !fromToD d 1 1000
def spInitCX (NN : Addr) : Sp := fun vs H _ E => ∃ (x dr : Addr) (v w : V) (d e : PyData), vs = [.ref x, v, .ref dr, w] ∧ An K H v d ∧ An K H w e ∧ (fromToD d 1 5 && fromToD e 1 1000) = false ∧ ∀ tx, Out E NN "text" (.str tx) H
def spMade26 : Sp := fun vs H Q _ => ∃ (v w : V) (d e : PyData), vs = [v, w] ∧ An K H v d ∧ An K H w e ∧ ((fromToD d 1 5 && fromToD e 1 1000) = false → ∀ H', Same H H' → Q (.bl true) H') ∧ ((fromToD d 1 5 && fromToD e 1 1000) = true → ∀ H', Same H H' → Q .non H')
end

theorem ok_l_begun {P : Program} {w : World} {K : PySem.W.Frag} {mg : Str → Option Value} {base : Heap} {a : Nat → Addr} {d : Nat → FuncData} (T : Txt K mg a d) : FnOk P w K mg base CX0 1 (a 34) (d 34) ["_law_script", "_law_k"] (spBegun K) := by
  refine T.F_l_begun.ok sc_l_begun (fun vs H Q E h => ?_) (fun cdv A outer s0 H vs Q E hr h => ?_)
  · obtain ⟨l, ns, k, rfl, hS, hl, hk0, hk1, q⟩ := h
    rfl
  · obtain ⟨l, ns, k, rfl, hS, hl, hk0, hk1, q⟩ := h
    have hc := cell_at ns (some k) (some (k + 1))
    obtain ⟨c, hc⟩ := hc
    refine ⟨_, (pss_cons (ps_set (i := 2) sc_l_begun.nd rfl (Or.inl rfl) (pe_ix ix_list (pe_op op_cat (pe_slice sl_list (pv 0) (po_some (pv 1)) (po_some (pe_op op_add (pv 1) pe_int))) (pe_lst (pa_cons pe_int pa_nil))) pe_int (fun _ _ => rfl))) (pss_cons (ps_set (i := 3) sc_l_begun.nd rfl (Or.inl rfl) (pe_callB (call_max2 rfl) (by rfl) T.z_max (by decide +kernel) (pa_cons (pv 2) (pa_cons (pe_op op_sub (pe_un un_neg pe_int) (pv 2)) pa_nil)))) (pss_cons (ps_set (i := 4) sc_l_begun.nd rfl (Or.inl rfl) (pe_op op_mod (pe_op op_add (pe_op op_add (pe_op op_add (pe_op op_mod (pv 3) pe_int) (pe_op op_mul pe_int (pv 1))) (pe_op op_mul (pe_op op_mul pe_int (pv 1)) (pv 1))) pe_int) pe_int)) (pss_one (ps_ret (pe_lst (pa_cons (pv 3) (pa_cons (pv 4) (pa_cons (pe_cmpR op_ge (pv 3) (pe_op op_pow pe_int pe_int) (nomark _)) pa_nil))))))))), ?_⟩
    refine ⟨_, rfl, _, rfl, k, rfl, _, rfl, k, 1, rfl, rfl, k + 1, rfl, l, _, rfl, hS, fun p1 n1 => ?_⟩
    refine ⟨len1, fun p2 n2 => ?_⟩
    have n12 : p1 ≠ p2 := fun e => by rw [e] at n1; rw [← e, upd_same] at n2; cases n2
    refine ⟨p1, p2, _, _, rfl, rfl, (by rw [upd_ne n12]; exact upd_same), upd_same, ?_, fun p3 n3 => ?_⟩
    · have z := cut_len (ns.map V.int) (some k) (some (k + 1))
      rw [List.length_map] at z
      exact Nat.le_trans (Nat.add_le_add_right (Nat.le_trans z hl) 1) (by decide)
    refine ⟨p3, _, 0, _, rfl, rfl, SqL.of upd_same, hc, ?_⟩
    refine ⟨_, rfl, 1, rfl, _, rfl, -1, c, rfl, rfl, c, -1 - c, rfl, ?_⟩
    refine ⟨_, rfl, _, _, rfl, rfl, (by show (0 : Int) < 2147483629; decide), _, rfl, 7919, k, rfl, rfl, .inl (m64 (by decide) (by decide)), _, _, rfl, rfl, ?_⟩
    refine ⟨_, rfl, 104729, k, rfl, rfl, .inl (m64 (by decide) (by decide)), _, rfl, _, k, rfl, rfl, .inr (m64 (by omega) (by omega)), _, _, rfl, rfl, _, 11, rfl, rfl, _, _, rfl, rfl, (by show (0 : Int) < 2147483629; decide), ?_⟩
    refine ⟨_, rfl, _, rfl, _, rfl, 10, 18, rfl, rfl, ⟨by decide, by decide, by decide⟩, _, _, rfl, rfl, len3, fun p4 n4 => ?_⟩
    refine q p4 _ (Same.free (same_new (same_new (same_new (Same.refl H) n1) n2) n3) n4) (same_new (same_new (same_new (same_new (Same.refl H) n1) n2) n3) n4) ⟨_, _, _, upd_same, ?_, ?_⟩
    · exact Int.emod_nonneg _ (by decide)
    · exact Int.lt_trans (Int.emod_lt_of_pos _ (by decide)) (by decide)

theorem ok_l_take {P : Program} {w : World} {K : PySem.W.Frag} {mg : Str → Option Value} {base : Heap} {a : Nat → Addr} {d : Nat → FuncData} (T : Txt K mg a d) : FnOk P w K mg base CX0 1 (a 35) (d 35) ["_law_state", "_law_many"] spTake := by
  refine T.F_l_take.ok sc_l_take (fun vs H Q E h => ?_) (fun cdv A outer s0 H vs Q E hr h => ?_)
  · obtain ⟨s, m, rfl, ⟨x, y, c, hs, y0, y1⟩, m0, m1, q⟩ := h
    rfl
  · obtain ⟨s, m, rfl, ⟨x, y, c, hs, y0, y1⟩, m0, m1, q⟩ := h
    refine ⟨_, (pss_cons (ps_if (pt_truth (pe_ix ix_list (pv 0) pe_int (fun _ _ => rfl)) (by intro _; rfl)) (pss_cons (ps_set (i := 2) sc_l_take.nd rfl (Or.inl rfl) (pe_op op_mod (pe_ix ix_list (pv 0) pe_int (fun _ _ => rfl)) (pv 1))) (pss_cons (ps_asg (pe_op op_fdivW (pe_ix ix_list (pv 0) pe_int (fun _ _ => rfl)) (pv 1)) (pg_sub (pv 0) pe_int set_list)) (pss_cons (ps_asg (pe_cmpR op_gt (pe_ix ix_list (pv 0) pe_int (fun _ _ => rfl)) pe_int (nomark _)) (pg_sub (pv 0) pe_int set_list)) (pss_one (ps_ret (pv 2)))))) pss_nil) (pss_cons (ps_set (i := 3) sc_l_take.nd rfl (Or.inl rfl) pe_int) (pss_cons (ps_for PassesOwn.never rfl (pi_range1 (by rfl) T.z_range (pa_cons (pe_op op_add pe_int (pe_callTy call_int1 (by rfl) T.z_int (by decide +kernel) (pa_cons (pe_cmpR op_gt (pv 1) (pe_op op_pow pe_int pe_int) (nomark _)) pa_nil))) pa_nil)) (pg_name (i := 4) sc_l_take.nd rfl (.inl rfl)) (pss_cons (ps_asg (pe_op op_mod (pe_op op_add (pe_op op_mul (pe_ix ix_list (pv 0) pe_int (fun _ _ => rfl)) pe_int) pe_int) pe_int) (pg_sub (pv 0) pe_int set_list)) (pss_one (ps_set (i := 3) sc_l_take.nd rfl (Or.inl rfl) (pe_op op_add (pe_op op_mul (pv 3) pe_int) (pe_op op_mod (pe_op op_mul (pe_ix ix_list (pv 0) pe_int (fun _ _ => rfl)) (pe_ix ix_list (pv 0) pe_int (fun _ _ => rfl))) pe_int)))))) (pss_one (ps_ret (pe_op op_mod (pe_op op_fdiv (pv 3) pe_int) (pv 1))))))), ?_⟩
    refine ⟨_, rfl, s, _, 2, _, rfl, rfl, SqL.of hs, rfl, c, rfl, ?_⟩
    cases c with
    | true =>
      refine iteT ?_
      refine ⟨_, rfl, s, _, 0, _, rfl, rfl, SqL.of hs, rfl, _, rfl, x, m, rfl, rfl, m0, ?_⟩
      refine ⟨_, rfl, s, _, 0, _, rfl, rfl, SqL.of hs, rfl, _, rfl, x, m, rfl, rfl, divW m0 m1, _, rfl, s, _, 0, 0, rfl, rfl, hs, rfl, ?_⟩
      refine ⟨_, rfl, s, _, 0, _, rfl, rfl, SqL.of upd_same, rfl, _, 0, rfl, rfl, _, rfl, s, _, 2, 2, rfl, rfl, upd_same, rfl, ?_⟩
      refine ⟨_, rfl, ?_⟩
      refine q _ _ (Int.emod_nonneg _ (by omega)) (Int.emod_lt_of_pos _ m0) ⟨fun b o n e => ?_, ⟨_, _, _, upd_same, y0, y1⟩⟩
      rw [upd_ne n, upd_ne n]
      exact e
    | false =>
      refine iteF ?_
      refine ⟨_, rfl, 10, 6, rfl, rfl, ⟨by decide, by decide, by decide⟩, m, _, rfl, rfl, .inr ⟨_, rfl, 1, _, rfl, rfl, _, rfl, ?_, ?_, ?_⟩⟩
      · cases decide ((10 : Int) ^ (6 : Int).toNat < m) <;> decide
      · cases decide ((10 : Int) ^ (6 : Int).toNat < m) <;> decide
      refine for_range (fun i σ H' => ∃ (made : Int) (t : Option V), σ = [some (.ref s), some (.int m), none, some (.int made), t] ∧ Kp s H H') ⟨0, none, rfl, ⟨fun _ _ _ e => e, _, _, _, hs, y0, y1⟩⟩ ?_ ?_
      · rintro i σ H' hi ⟨made, t, rfl, k, ⟨x', y', c', hs', y0', y1'⟩⟩
        refine ⟨_, rfl, s, _, 1, _, rfl, rfl, SqL.of hs', rfl, y', 48271, rfl, rfl, .inr (m64 (by decide) (by decide)), _, 11, rfl, rfl, _, 2147483647, rfl, rfl, (by show (0 : Int) < 2147483647; decide), _, rfl, s, _, 1, 1, rfl, rfl, hs', rfl, ?_⟩
        have e0 : 0 ≤ (y' * 48271 + 11) % 2147483647 := Int.emod_nonneg _ (by decide)
        have e1 : (y' * 48271 + 11) % 2147483647 < 2147483647 := Int.emod_lt_of_pos _ (by decide)
        refine ⟨_, rfl, made, 2147483587, rfl, rfl, .inr (m64 (by decide) (by decide)), _, rfl, s, _, 1, _, rfl, rfl, SqL.of upd_same, rfl, _, rfl, s, _, 1, _, rfl, rfl, SqL.of upd_same, rfl, _, _, rfl, rfl, .inl (m64 (by omega) (by omega)), _, 2147483587, rfl, rfl, (by show (0 : Int) < 2147483587; decide), _, _, rfl, rfl, ?_⟩
        refine ⟨_, _, rfl, ⟨fun b o n e => ?_, _, _, _, upd_same, e0, e1⟩⟩
        rw [upd_ne n]
        exact k b o n e
      · rintro σ H' ⟨made, t, rfl, k⟩
        refine ⟨_, rfl, made, 64, rfl, rfl, ⟨by decide, by decide⟩, _, rfl, _, m, rfl, rfl, m0, ?_⟩
        exact q _ _ (Int.emod_nonneg _ (by omega)) (Int.emod_lt_of_pos _ m0) k

theorem ok_Clock___eq__ {P : Program} {w : World} {K : PySem.W.Frag} {mg : Str → Option Value} {base : Heap} {a : Nat → Addr} {d : Nat → FuncData} (T : Txt K mg a d) : FnOk P w K mg base CX0 1 (a 33) (d 33) ["self", "other"] (spEq26 K (a 43)) := by
  refine T.F_Clock___eq__.ok sc_Clock___eq__ (fun vs H Q E h => ?_) (fun cdv A outer s0 H vs Q E hr h => ?_)
  · obtain ⟨c, c', dr, dr', t, b, n, st, rfl, hk, hk', q⟩ := h
    rfl
  · obtain ⟨c, c', dr, dr', t, b, n, st, rfl, hk, hk', q⟩ := h
    obtain ⟨⟨dx, sv, hc, hs⟩, hd, nn⟩ := id hk
    obtain ⟨⟨dx', sv', hc', hs'⟩, hd', nn'⟩ := id hk'
    refine ⟨_, (pss_one (ps_ret (pe_and (pe_callB call_isi (by rfl) T.z_isinstance (by decide +kernel) (pa_cons (pv 1) (pa_cons (pe_glob (v := .ref (a 43)) (by rfl) T.g_Clock rfl) pa_nil))) (pe_and (pe_cmpR (op_eqD hr.units) (pe_fld (pv 0) rfl) (pe_fld (pv 1) rfl) (nomark _)) (pe_and (pe_cmpR (op_eqD hr.units) (pe_fld (pv 0) rfl) (pe_fld (pv 1) rfl) (nomark _)) (pe_one (pe_cmpR op_eq (pe_fld (pv 0) rfl) (pe_fld (pv 1) rfl) (nomark _)))))))), ?_⟩
    refine ⟨_, rfl, _, .ref (a 43), .ref (a 43), .ref (a 43), true, rfl, .own (a 43), .base (.ins hc' T.cl_Clock T.i1 T.i2 T.i3 T.i4), T.i5, true, rfl, iteT ?_⟩
    refine ⟨_, rfl, c, _, dx, _, _, rfl, hc, T.cl_Clock, T.n_Clock_most_drift, cf_m _ _ _, _, rfl, c', _, dx', _, _, rfl, hc', T.cl_Clock, T.n_Clock_most_drift, cf_m _ _ _, .tuple [.int t, .int b], .tuple [.int t, .int b], .tup hd.1 (.cons (.int _) (.cons (.int _) .nil)), .tup hd'.1 (.cons (.int _) (.cons (.int _) .nil)), rfl, rfl, _, rfl, iteBT (eqv_two rfl rfl) ?_⟩
    cases st with
    | none =>
      have e1 : sv = V.non := hs
      have e2 : sv' = V.non := hs'
      subst e1 e2
      refine ⟨_, rfl, c, _, dx, _, _, rfl, hc, T.cl_Clock, T.n_Clock_stands, cf_s _ _ _, _, rfl, c', _, dx', _, _, rfl, hc', T.cl_Clock, T.n_Clock_stands, cf_s _ _ _, .none, .none, .non, .non, rfl, rfl, _, rfl, iteBT rfl ?_⟩
      refine ⟨_, rfl, c, _, dx, _, _, rfl, hc, T.cl_Clock, T.n_Clock_counted, cf_c _ _ _, _, rfl, c', _, dx', _, _, rfl, hc', T.cl_Clock, T.n_Clock_counted, cf_c _ _ _, rfl, ?_⟩
      exact bl_of (Q := Q) rfl q
    | some z =>
      obtain ⟨sp, rfl, hs⟩ := hs
      obtain ⟨sp', rfl, hs'⟩ := hs'
      refine ⟨_, rfl, c, _, dx, _, _, rfl, hc, T.cl_Clock, T.n_Clock_stands, cf_s _ _ _, _, rfl, c', _, dx', _, _, rfl, hc', T.cl_Clock, T.n_Clock_stands, cf_s _ _ _, .tuple [.int z.1, .int z.2], .tuple [.int z.1, .int z.2], .tup hs (.cons (.int _) (.cons (.int _) .nil)), .tup hs' (.cons (.int _) (.cons (.int _) .nil)), rfl, rfl, _, rfl, iteBT (eqv_two rfl rfl) ?_⟩
      refine ⟨_, rfl, c, _, dx, _, _, rfl, hc, T.cl_Clock, T.n_Clock_counted, cf_c _ _ _, _, rfl, c', _, dx', _, _, rfl, hc', T.cl_Clock, T.n_Clock_counted, cf_c _ _ _, rfl, ?_⟩
      exact bl_of (Q := Q) rfl q

theorem ok_l_stands {P : Program} {w : World} {K : PySem.W.Frag} {mg : Str → Option Value} {base : Heap} {a : Nat → Addr} {d : Nat → FuncData} (T : Txt K mg a d) : FnG P w K mg base 9 (a 38) (d 38) ["_law_group", "_law_ups", "_law_clocks"] (spStands26 K (a 42) (a 43)) := by
  refine fnG_mk T.F_l_stands sc_l_stands (fun vs H Q E h => ?_) (fun cdv A outer s0 H vs Q E gd hr h => ?_)
  · obtain ⟨x, A, g, C, U, cs, rfl, hg, hm, q⟩ := h
    rfl
  · obtain ⟨x, A, g, C, U, cs, rfl, hg, hm, q⟩ := h
    obtain ⟨dx, hx⟩ := hg.at_
    obtain ⟨of, lof, tof⟩ := T.leq
    have n5 := hg.ls.n5
    refine ⟨_, (pss_cons (ps_for PassesOwn.never rfl (pi_range1 (by rfl) T.z_range (pa_cons (pe_callB call_len_seq (by rfl) T.z_len PySem.boot_len (pa_cons (pv 1) pa_nil)) pa_nil)) (pg_name (i := 3) sc_l_stands.nd rfl (.inl rfl)) (pss_one (ps_if (PW.pt (pw_or (pt_cmpR op_ne (pe_callB (call_reprA gd (room66 hr)) (by rfl) T.z_repr (by decide +kernel) (pa_cons (pe_meth (pv 0) T.cl T.m_Copies_is_up (ok_Copies_is_up T) (hr.mono (by decide)) T.b_Copies_is_up .nil pass0 (pa_cons (pv 3) pa_nil)) pa_nil)) (pe_callB (call_reprA gd (room66 hr)) (by rfl) T.z_repr (by decide +kernel) (pa_cons (pe_ix ix_list (pv 1) (pv 3) (fun _ _ => rfl)) pa_nil)) (nomark _)) (pw_or1 (pt_cmpR (op_neOwn (ok_Clock___eq__ T) (hr.mono (by decide)) T.cls T.nok T.neq T.nne lof tof T.b_Clock___eq__ pass0) (pe_meth (pv 0) T.cl T.m_Copies_clock (ok_Copies_clock T) (hr.mono (by decide)) T.b_Copies_clock .nil pass0 (pa_cons (pv 3) pa_nil)) (pe_ix ix_list (pv 2) (pv 3) (fun _ _ => rfl)) (nomark _))))) (pss_one (ps_ret pe_bl)) pss_nil))) (pss_one (ps_ret (pe_cmpR op_eq (pe_callB (call_lenOwn (ok_Copies___len__ T) (Room.in1 (k := 1) (hr.mono (by decide))) T.m_Copies___len__.at_ T.m_Copies___len__.fn T.b_Copies___len__ pass0) (by rfl) T.z_len PySem.boot_len (pa_cons (pv 0) pa_nil)) (pe_callB call_len_seq (by rfl) T.z_len PySem.boot_len (pa_cons (pv 1) pa_nil)) (nomark _))))), ?_⟩
    refine ⟨_, rfl, U, _, rfl, .inl (SqL.of hm.hU), g.ms.length, by rw [List.length_map], by omega, by omega, ?_⟩
    refine for_range (lo := 0) (n := g.ms.length) (fun j σ H' => (∃ v : Option V, σ = [some (.ref x), some (.ref U), some (.ref C), v]) ∧ Same H H') ⟨⟨none, rfl⟩, Same.refl H⟩ ?_ ?_
    · rintro j σ H6 hj ⟨⟨v, rfl⟩, S6⟩
      obtain ⟨s, hs⟩ := getM (ms := g.ms) (i := j) hj
      obtain ⟨c, hc⟩ : ∃ c, cs[j]? = some c := ⟨_, List.getElem?_eq_getElem (by rw [hm.len]; exact hj)⟩
      have hm6 := hm.same S6
      obtain ⟨b1, b2, b3⟩ := bool_show s.up
      refine ⟨_, rfl, x, dx, _, rfl, S6 _ _ hx, gf_no _ _ (by decide +kernel) (by decide +kernel) (by decide +kernel) (by decide +kernel) (by decide +kernel) (by decide +kernel) (by decide +kernel) (by decide +kernel) (by decide +kernel) (by decide +kernel) (by decide +kernel) (by decide +kernel) (by decide +kernel) (by decide +kernel) (by decide +kernel), _, rfl, x, A, 1, 100, g, j, s, (by rw [Int.zero_add]; rfl), hg.same S6, hs, _, .bool s.up, rfl, .dp (.bl _), b1, b2, b3, ?_⟩
      refine ⟨_, rfl, _, rfl, U, _, _, _, rfl, rfl, SqL.of hm6.hU, atI_map0 _ hs, _, .bool s.up, rfl, .dp (.bl _), b1, b2, b3, rfl, _, rfl, iteBF (by rw [decide_eq_true rfl]; rfl) ?_⟩
      refine ⟨_, rfl, x, dx, _, rfl, S6 _ _ hx, gf_no _ _ (by decide +kernel) (by decide +kernel) (by decide +kernel) (by decide +kernel) (by decide +kernel) (by decide +kernel) (by decide +kernel) (by decide +kernel) (by decide +kernel) (by decide +kernel) (by decide +kernel) (by decide +kernel) (by decide +kernel) (by decide +kernel) (by decide +kernel), _, rfl, x, A, 1, 100, g, j, s, by rw [Int.zero_add]; rfl, hg.same S6, hs, fun c1 H7 nc1 s7 hk7 => ?_⟩
      have hm7 := hm6.same s7
      obtain ⟨dr', hk'⟩ := hm7.ck j c s hc hs
      obtain ⟨⟨dx1, sv1, hc1, hs1⟩, _, _⟩ := id hk7
      obtain ⟨⟨dx2, sv2, hc2, hs2⟩, _, _⟩ := id hk'
      refine ⟨_, rfl, _, rfl, C, _, _, _, rfl, rfl, SqL.of hm7.hC, atI_mapR0 _ hc, c1, c, dx1, dx2, _, _, rfl, rfl, hc1, hc2, c1, c, _, _, _, _, _, _, rfl, hk7, hk', true, rfl, _, rfl, iteBF rfl ?_⟩
      exact ⟨⟨_, rfl⟩, S6.trans s7⟩
    · rintro σ H6 ⟨⟨v, rfl⟩, S6⟩
      have hm6 := hm.same S6
      refine ⟨_, rfl, x, dx, _, rfl, S6 _ _ hx, x, A, 1, 100, g, rfl, (hg.same S6), g.ms.length, rfl, (by have := (hg.same S6).ls.n5; omega), _, rfl, U, _, rfl, .inl (SqL.of hm6.hU), rfl, ?_⟩
      rw [List.length_map]
      exact bl_of (Q := Q) rfl (q H6 S6)

theorem ok_Copies___init__X {P : Program} {w : World} {K : PySem.W.Frag} {mg : Str → Option Value} {base : Heap} {a : Nat → Addr} {d : Nat → FuncData} (T : Txt K mg a d) : FnOk P w K mg base (L2.CX P w) 6 (a 22) (d 22) ["self", "many", "drift", "lease"] (spInitCX K (a 103)) := by
  refine T.F_Copies___init__.ok (CX := L2.CX P w) sc_Copies___init__ (fun vs H Q E h => ?_) (fun cdv A outer s0 H vs Q E hr h => ?_)
  · obtain ⟨x, dr, v, w', d', e', rfl, ha, hw, hbad, q⟩ := h
    rfl
  · obtain ⟨x, dr, v, w', d', e', rfl, ha, hw, hbad, q⟩ := h
    refine ⟨_, (pss_cons (ps_if (pt_not (pt_truth (pe_call (ok_is_from_toD T) (hr.mono (by decide)) (by rfl) T.g_is_from_to T.F_is_from_to.kp T.b_is_from_to .nil pass0 (pa_cons (pv 1) (pa_cons pe_int (pa_cons (pe_glob (v := .int (5)) (by rfl) (Exists.choose_spec T.g_MOST_COPIES) ⟨_, rfl⟩) pa_nil)))) (by intro _; rfl))) (pss_one (ps_raise rfl (takes_of rfl rfl rfl rfl) (XB.pmk T.xo_NoNumber T.ie_NoNumber T.te_WaitError (ok_IWaitError T T.xo_NoNumber T.ne_NoNumber_text) (hr.mono (by decide)) T.b_IWaitError pass0 (by rfl) T.gE_NoNumber (pa_cons pe_str pa_nil)))) pss_nil) (pss_cons (ps_if (pt_not (pt_truth (pe_call (ok_is_from_toD T) (hr.mono (by decide)) (by rfl) T.g_is_from_to T.F_is_from_to.kp T.b_is_from_to .nil pass0 (pa_cons (pv 3) (pa_cons pe_int (pa_cons (pe_glob (v := .int (1000)) (by rfl) (Exists.choose_spec T.g_LONGEST_LEASE) ⟨_, rfl⟩) pa_nil)))) (by intro _; rfl))) (pss_one (ps_raise rfl (takes_of rfl rfl rfl rfl) (XB.pmk T.xo_NoNumber T.ie_NoNumber T.te_WaitError (ok_IWaitError T T.xo_NoNumber T.ne_NoNumber_text) (hr.mono (by decide)) T.b_IWaitError pass0 (by rfl) T.gE_NoNumber (pa_cons pe_str pa_nil)))) pss_nil) pss_never)), ?_⟩
    refine ⟨_, rfl, v, d', 1, 5, rfl, ha, _, rfl, ?_⟩
    cases e1 : fromToD d' 1 5 with
    | false =>
      refine iteT ?_
      refine ⟨(by show 1 ≤ 1000; decide), fun y ny => ⟨y, _, rfl, upd_same, fun dx' H' ndx ne e1 e2 k => ?_⟩⟩
      have nd := ndx
      rw [upd_ne ne] at nd
      exact ⟨rfl, dx', _, e1, e2, nd, (q _) dx' _ (same_err3 ny nd k) upd_same⟩
    | true =>
      refine iteF ?_
      rw [e1] at hbad
      refine ⟨_, rfl, w', e', 1, 1000, rfl, hw, _, rfl, ?_⟩
      have e2 : fromToD e' 1 1000 = false := hbad
      rw [e2]
      refine iteT ?_
      refine ⟨(by show 1 ≤ 1000; decide), fun y ny => ⟨y, _, rfl, upd_same, fun dx' H' ndx ne e1 e2 k => ?_⟩⟩
      have nd := ndx
      rw [upd_ne ne] at nd
      exact ⟨rfl, dx', _, e1, e2, nd, (q _) dx' _ (same_err3 ny nd k) upd_same⟩

theorem ok_l_made {P : Program} {w : World} {K : PySem.W.Frag} {mg : Str → Option Value} {base : Heap} {a : Nat → Addr} {d : Nat → FuncData} (T : Txt K mg a d) : FnOk P w K mg base CX0 8 (a 37) (d 37) ["_law_many", "_law_span"] (spMade26 K) := by
  refine T.F_l_made.ok sc_l_made (fun vs H Q E h => ?_) (fun cdv A outer s0 H vs Q E hr h => ?_)
  · obtain ⟨v, w', d', e', rfl, _⟩ := h
    rfl
  · obtain ⟨v, w', d', e', rfl, ha, hw, qb, qg⟩ := h
    refine ⟨_, (pss_cons (ps_tryK (tb := fun W => tDrop (tMakeNS (a 42) 1 1 (fun vs H Q E => spInitC K (a 42) vs H Q E ∨ spInitCX K (a 103) vs H Q E) (fun vs zs => vs ++ ([.ref (a 46)] ++ zs)) (WE W) (tCons (tVar 0) tNil) (tCons (tVar 1) tNil))) rfl rfl sc_l_made.nd takes0 (HK.named (i := 2) (ts := (fun _ _ _ => tRet (tCB (rIsK K) (tCons (tVar 2) (tCons (tC (.ty "ValueError")) tNil))))) ⟨rfl, by decide, .inl T.gE_NoNumber⟩ rfl rfl (fun _ _ _ _ => (pss_one (ps_ret (pe_callB call_isK (by rfl) T.z_isinstance (by decide +kernel) (pa_cons (pv 2) (pa_cons (pe_bltn (v := .ty "ValueError") (by rfl) T.z_ValueError (by decide +kernel) rfl) pa_nil)))))) HK.nil) (W := fun _ _ _ _ => False) (fun W pn xe tk _ => (pss_one (ps_expr (pe_makeNS T.m_Copies___init__ (fn_or (fn_up (ok_Copies___init__ T) (by decide)) (ok_Copies___init__X T)) (hr.mono (by decide)) (by rfl) T.g_Copies (Exists.choose_spec T.f_Copies___init__) (fun σ => passAt tk σ) (pa_cons (pv 0) pa_nil) (pk_cons (pv 1) pk_nil)))))) (pss_one (ps_ret pe_non))), ?_⟩
    refine ⟨_, rfl, _, rfl, rfl, rfl, fun x dx nx ndx nex => ?_⟩
    have sm := same_make (o1 := .own x) (o2 := .ins (a 42) dx []) nx ndx
    have hx1 : (upd (upd H dx (.own x)) x (.ins (a 42) dx [])) x = some (.ins (a 42) dx []) := upd_same
    generalize (upd (upd H dx (.own x)) x (.ins (a 42) dx [])) = H1 at sm hx1 ⊢
    cases eb : (fromToD d' 1 5 && fromToD e' 1 1000) with
    | true =>
      have z := Bool.and_eq_true_iff.mp eb
      obtain ⟨m, rfl, m1, m5⟩ := fromTo_int z.1
      obtain ⟨le, rfl, l1, l2⟩ := fromTo_int z.2
      have ev : v = .int m := by cases ha with | dp h => cases h; rfl
      have ew : w' = .int le := by cases hw with | dp h => cases h; rfl
      subst ev ew
      obtain ⟨n, rfl⟩ := Int.eq_ofNat_of_zero_le (show 0 ≤ m by omega)
      refine .inl ⟨x, dx, n, _, le, 1, 100, rfl, hx1, by omega, by omega, l1, l2, ⟨T.k_DRIFT _, by decide, by decide, by decide, by decide⟩, fun A0 H2 fA eA F2 hg2 => ⟨rfl, ?_⟩⟩
      exact qg eb _ (F2.over sm nx)
    | false =>
      refine .inr ⟨x, _, v, w', d', e', rfl, ha.up sm, hw.up sm, eb, fun tx dd H' s' hdd => ?_⟩
      refine ⟨true, T.ex_NoNumber_NoNumber, fun _ ee ne' => ?_, fun z => by cases z⟩
      have ned : dd ≠ ee := ne_of_none hdd ne'
      have hd2 : (upd H' ee (ExK (.ref (a 103)) (some dd) ee)) dd = some (.xd [("text", .str tx)]) := by rw [upd_ne ned]; exact hdd
      refine ⟨_, rfl, ee, (a 103), dd, _, .ty "ValueError", .type "ValueError", true, rfl, T.xc_NoNumber, upd_same, hd2, (fun u r => by first | exact r | (cases r; rfl)), T.ki_NoNumber_ValueError, ?_⟩
      exact qb eb _ (sm.trans (s'.trans (same_new (Same.refl H') ne')))

theorem ok_l_due {P : Program} {w : World} {K : PySem.W.Frag} {mg : Str → Option Value} {base : Heap} {a : Nat → Addr} {d : Nat → FuncData} (T : Txt K mg a d) : FnOk P w K mg base CX0 7 (a 40) (d 40) ["_law_clocks", "_law_ups", "_law_way", "_law_spot", "_law_some"] (spDue26 K (a 43)) := by
  refine T.F_l_due.ok sc_l_due (fun vs H Q E h => ?_) (fun cdv A outer s0 H vs Q E hr h => ?_)
  · obtain ⟨C, U, p, cs, ms, way, lo, hi, i, s, rfl, hm, hp, w0, w4, l0, hs, q⟩ := h
    rfl
  · obtain ⟨C, U, p, cs, ms, way, lo, hi, i, s, rfl, hm, hp, w0, w4, l0, hs, q⟩ := h
    have il : i < ms.length := (List.getElem?_eq_some_iff.mp hs).1
    have sm := List.mem_of_getElem? hs
    have esp := hm.sp s sm
    have eso := hm.so s sm
    obtain ⟨c, hc⟩ : ∃ c, cs[i]? = some c := ⟨_, List.getElem?_eq_getElem (by rw [hm.len]; exact il)⟩
    obtain ⟨dr, hk⟩ := hm.ck i c s hc hs
    obtain ⟨dxc, svc, hcc, hsc⟩ := hk.at_
    have nn := hk.nn
    obtain ⟨t0, tb⟩ : (0 : Int) ≤ 1 ∧ (1 : Int) < 100 := by decide
    have inC : c ∈ C :: U :: cs := List.mem_cons_of_mem _ (List.mem_cons_of_mem _ (List.mem_of_getElem? hc))
    have inU : U ∈ C :: U :: cs := List.mem_cons_of_mem _ (List.mem_cons_self ..)
    have frc : ∀ {H' : Hp}, Fr c H H' → FrS (C :: U :: cs) H H' := fun k c' o n e => k c' o (fun z => n (by rw [z]; exact inC)) e
    have pc : p ≠ c := ne_of hp hcc (by intro z; cases z)
    refine ⟨_, (pss_cons (ps_if (pt_cmpR op_lt (pv 2) pe_int (nomark _)) (pss_cons (ps_asg (pe_cmpR op_eq (pv 2) pe_int (nomark _)) (pg_sub (pv 1) (pv 3) set_list)) (pss_one (ps_ret (pe_lst (pa_cons pe_str pa_nil))))) pss_nil) (pss_cons (ps_if (pt_cmpR op_eq (pv 2) pe_int (nomark _)) (pss_cons (ps_expr (pe_meth (pe_ix ix_list (pv 0) (pv 3) (fun _ _ => rfl)) T.cl_Clock T.m_Clock_tick (ok_Clock_tick T) (hr.mono (by decide)) T.b_Clock_tick .nil pass0 (pa_cons (pe_ix ix_tup (pv 4) pe_int (fun _ _ => rfl)) pa_nil))) (pss_one (ps_ret (pe_lst (pa_cons pe_str pa_nil))))) pss_nil) (pss_cons (ps_if (pt_cmpR op_gt (pe_ix ix_tup (pv 4) pe_int (fun _ _ => rfl)) (pe_ix ix_tup (pv 4) pe_int (fun _ _ => rfl)) (nomark _)) (pss_one (ps_ret (pe_lst (pa_cons pe_str pa_nil)))) pss_nil) (pss_cons (ps_if (pt_truth (pe_meth0 (pe_ix ix_list (pv 0) (pv 3) (fun _ _ => rfl)) T.cl_Clock T.m_Clock_is_set (ok_Clock_is_set T) (hr.mono (by decide)) T.b_Clock_is_set .nil pass0) (by intro _; rfl)) (pss_cons (ps_asg (pe_meth0 (pe_ix ix_list (pv 0) (pv 3) (fun _ _ => rfl)) T.cl_Clock T.m_Clock_bounds (ok_Clock_bounds T) (hr.mono (by decide)) T.b_Clock_bounds .nil pass0) (pg_tup (by rfl) (pgs_cons (pg_name (i := 5) sc_l_due.nd rfl (.inl rfl)) (pgs_cons (pg_name (i := 6) sc_l_due.nd rfl (.inl rfl)) pgs_nil)))) (pss_one (ps_if (PW.pt (pw_or (pt_cmpR op_gt (pv 5) (pe_ix ix_tup (pv 4) pe_int (fun _ _ => rfl)) (nomark _)) (pw_or1 (pt_cmpR op_lt (pv 6) (pe_ix ix_tup (pv 4) pe_int (fun _ _ => rfl)) (nomark _))))) (pss_one (ps_ret (pe_lst (pa_cons pe_str pa_nil)))) pss_nil))) pss_nil) (pss_cons (ps_expr (pe_meth (pe_ix ix_list (pv 0) (pv 3) (fun _ _ => rfl)) T.cl_Clock T.m_Clock_set_to (ok_Clock_set_to T) (hr.mono (by decide)) T.b_Clock_set_to .nil pass0 (pa_cons (pe_ix ix_tup (pv 4) pe_int (fun _ _ => rfl)) (pa_cons (pe_ix ix_tup (pv 4) pe_int (fun _ _ => rfl)) pa_nil)))) (pss_one (ps_ret (pe_lst (pa_cons pe_str pa_nil))))))))), ?_⟩
    have : way = 0 ∨ way = 1 ∨ way = 2 ∨ way = 3 := by omega
    rcases this with rfl | rfl | rfl | rfl
    · refine ⟨_, rfl, 0, 2, rfl, rfl, _, rfl, iteDT (by decide) ?_⟩
      refine ⟨_, rfl, rfl, _, rfl, _, rfl, U, _, (i : Int), i, rfl, rfl, hm.hU, ixj' (by rw [List.length_map]; exact il), ?_⟩
      have hm2 := hm.putU (u := s.stopped) (b := false) hs rfl rfl rfl esp eso
      refine ⟨len1, fun r nr => ?_⟩
      have k2 : FrS (C :: U :: cs) H (upd H U (.lst ((ms.map fun s => V.bl s.up).set i (.bl false)))) := fun c' o n e => by rw [upd_ne (fun z => n (by rw [z]; exact inU))]; exact e
      have nr0 : H r = none := by
        rw [upd_ne (fun z => by rw [z, upd_same] at nr; cases nr)] at nr; exact nr
      have sr := same_new (o := .lst [.str "told"]) (Same.refl (upd H U (.lst ((ms.map fun s => V.bl s.up).set i (.bl false))))) nr
      exact q r _ "told" _ nr0 .stop (fun c' o n e => sr _ _ (k2 c' o n e)) (hm2.same sr) upd_same
    · refine ⟨_, rfl, 1, 2, rfl, rfl, _, rfl, iteDT (by decide) ?_⟩
      refine ⟨_, rfl, rfl, _, rfl, _, rfl, U, _, (i : Int), i, rfl, rfl, hm.hU, ixj' (by rw [List.length_map]; exact il), ?_⟩
      have hm2 := hm.putU (u := s.backed) (b := true) hs rfl rfl rfl esp eso
      refine ⟨len1, fun r nr => ?_⟩
      have k2 : FrS (C :: U :: cs) H (upd H U (.lst ((ms.map fun s => V.bl s.up).set i (.bl true)))) := fun c' o n e => by rw [upd_ne (fun z => n (by rw [z]; exact inU))]; exact e
      have nr0 : H r = none := by
        rw [upd_ne (fun z => by rw [z, upd_same] at nr; cases nr)] at nr; exact nr
      have sr := same_new (o := .lst [.str "told"]) (Same.refl (upd H U (.lst ((ms.map fun s => V.bl s.up).set i (.bl true))))) nr
      exact q r _ "told" _ nr0 .back (fun c' o n e => sr _ _ (k2 c' o n e)) (hm2.same sr) upd_same
    · refine ⟨_, rfl, 2, 2, rfl, rfl, _, rfl, iteDF (by decide) ?_⟩
      refine ⟨_, rfl, rfl, _, rfl, iteDF (by intro z; cases z) ?_⟩
      refine ⟨_, rfl, p, _, 0, _, rfl, rfl, SqT.of hp, rfl, _, rfl, p, _, 1, _, rfl, rfl, SqT.of hp, rfl, lo, hi, rfl, rfl, _, rfl, ?_⟩
      have no : ∀ {Hx : Hp}, Same H Hx → ¬ okB lo hi s.sp → ∀ r, Hx r = none → Q (.ref r) (upd Hx r (.lst [.str "bounds"])) := fun {Hx} sx nb r nr => by
        have sr := sx.trans (same_new (o := .lst [.str "bounds"]) (Same.refl Hx) nr)
        refine q r _ "bounds" s (sx.free nr) (.not nb) (fun c' o n e => sr _ _ e) ?_ upd_same
        rw [set_self hs]
        exact hm.same sr
      by_cases lh : hi < lo
      · refine iteDT lh ⟨len1, fun r nr => ?_⟩
        exact no (Same.refl H) (fun z => by have := z.1; omega) r nr
      · refine iteDF lh ?_
        refine ⟨_, rfl, _, rfl, C, _, _, _, rfl, rfl, SqL.of hm.hC, atI_mapR _ hc, c, dxc, _, rfl, hcc, cf_no _ _ _ (by decide +kernel) (by decide +kernel) (by decide +kernel), c, dr, 1, 100, s.st, s.n, rfl, hk, _, rfl, ?_⟩
        cases est : s.st with
        | none =>
          refine iteF ?_
          have ok : okB lo hi s.sp := by rw [esp]; unfold spOf; rw [est]; exact okB_none.mpr (by omega)
          refine ⟨_, rfl, _, rfl, C, _, _, _, rfl, rfl, SqL.of ((Same.refl H) _ _ hm.hC), atI_mapR _ hc, c, dxc, _, rfl, (Same.refl H) _ _ hcc, cf_no _ _ _ (by decide +kernel) (by decide +kernel) (by decide +kernel), _, rfl, p, _, 0, _, rfl, rfl, SqT.of ((Same.refl H) _ _ hp), rfl, _, rfl, p, _, 1, _, rfl, rfl, SqT.of ((Same.refl H) _ _ hp), rfl, c, dr, 1, 100, s.st, s.n, lo, hi, rfl, hk.same (Same.refl H), ok.1, (by rw [setLow_eq, setHigh_eq, ← esp]; exact ok.2), fun H2 k2 hk2 => ?_⟩
          rw [setLow_eq, setHigh_eq, ← esp] at hk2
          refine ⟨len1, fun r nr => ?_⟩
          have hm2 := (hm.same (Same.refl H)).putC (u := s.setTo 1 100 (btwL lo s.sp, btwH hi s.sp)) hc hs k2 hk2 rfl rfl (fun z e => by cases e; exact ok.2)
          have sr := same_new (o := .lst [.str "told"]) (Same.refl H2) nr
          obtain ⟨dx5, sv5, hc5, _⟩ := hk2.at_
          exact q r _ "told" _ ((Same.refl H).free (fr_free k2 hc5 nr)) (.set ok) (fun c' o n e => sr _ _ (k2 c' o (fun z => n (by rw [z]; exact inC)) ((Same.refl H) _ _ e))) (hm2.same sr) upd_same
        | some z =>
          refine iteT ?_
          have hkz := hk
          rw [est] at hkz
          have ez : s.sp = some (z.1 + leastP s.n 1 100, z.2 + mostP s.n 1 100) := by rw [esp]; unfold spOf; rw [est]; rfl
          have zz := eso z est
          have g1 := least_le_n t0 tb nn
          have g2 := most_nn t0 tb nn
          refine ⟨_, rfl, _, rfl, C, _, _, _, rfl, rfl, SqL.of hm.hC, atI_mapR _ hc, c, dxc, _, rfl, hcc, cf_no _ _ _ (by decide +kernel) (by decide +kernel) (by decide +kernel), c, dr, 1, 100, z.1, z.2, s.n, rfl, hkz, fun pb npb => ?_⟩
          have sb := same_new (o := .tup [.int (z.1 + leastP s.n 1 100), .int (z.2 + mostP s.n 1 100)]) (Same.refl H) npb
          have hpb : (upd H pb (.tup [.int (z.1 + leastP s.n 1 100), .int (z.2 + mostP s.n 1 100)])) pb = some (.tup [.int (z.1 + leastP s.n 1 100), .int (z.2 + mostP s.n 1 100)]) := upd_same
          generalize (upd H pb (.tup [.int (z.1 + leastP s.n 1 100), .int (z.2 + mostP s.n 1 100)])) = Hb at sb hpb ⊢
          refine ⟨pb, _, rfl, SqT.of hpb, rfl, _, _, rfl, _, _, rfl, rfl, ?_⟩
          have oks : okB lo hi s.sp ↔ lo ≤ hi ∧ z.1 + leastP s.n 1 100 ≤ hi ∧ lo ≤ z.2 + mostP s.n 1 100 := by rw [ez]; exact okB_some (by show z.1 + leastP s.n 1 100 ≤ z.2 + mostP s.n 1 100; omega)
          refine ⟨_, rfl, _, rfl, p, _, 1, _, rfl, rfl, SqT.of (sb _ _ hp), rfl, _, hi, rfl, rfl, _, rfl, ?_⟩
          by_cases c1 : hi < z.1 + leastP s.n 1 100
          · refine iteDT c1 ⟨len1, fun r nr => no sb (fun y => by have := oks.mp y; omega) r nr⟩
          · refine iteDF c1 ⟨_, rfl, _, rfl, p, _, 0, _, rfl, rfl, SqT.of (sb _ _ hp), rfl, _, lo, rfl, rfl, _, rfl, ?_⟩
            by_cases c2 : z.2 + mostP s.n 1 100 < lo
            · refine iteDT c2 ⟨len1, fun r nr => no sb (fun y => by have := oks.mp y; omega) r nr⟩
            · refine iteDF c2 ?_
              have ok : okB lo hi s.sp := oks.mpr ⟨by omega, by omega, by omega⟩
              refine ⟨_, rfl, _, rfl, C, _, _, _, rfl, rfl, SqL.of (sb _ _ hm.hC), atI_mapR _ hc, c, dxc, _, rfl, sb _ _ hcc, cf_no _ _ _ (by decide +kernel) (by decide +kernel) (by decide +kernel), _, rfl, p, _, 0, _, rfl, rfl, SqT.of (sb _ _ hp), rfl, _, rfl, p, _, 1, _, rfl, rfl, SqT.of (sb _ _ hp), rfl, c, dr, 1, 100, s.st, s.n, lo, hi, rfl, hk.same sb, ok.1, (by rw [setLow_eq, setHigh_eq, ← esp]; exact ok.2), fun H2 k2 hk2 => ?_⟩
              rw [setLow_eq, setHigh_eq, ← esp] at hk2
              refine ⟨len1, fun r nr => ?_⟩
              have hm2 := (hm.same sb).putC (u := s.setTo 1 100 (btwL lo s.sp, btwH hi s.sp)) hc hs k2 hk2 rfl rfl (fun z e => by cases e; exact ok.2)
              have sr := same_new (o := .lst [.str "told"]) (Same.refl H2) nr
              obtain ⟨dx5, sv5, hc5, _⟩ := hk2.at_
              exact q r _ "told" _ (sb.free (fr_free k2 hc5 nr)) (.set ok) (fun c' o n e => sr _ _ (k2 c' o (fun z => n (by rw [z]; exact inC)) (sb _ _ e))) (hm2.same sr) upd_same
    · refine ⟨_, rfl, 3, 2, rfl, rfl, _, rfl, iteDF (by decide) ?_⟩
      refine ⟨_, rfl, rfl, _, rfl, iteDT rfl ?_⟩
      refine ⟨_, rfl, _, rfl, C, _, _, _, rfl, rfl, SqL.of hm.hC, atI_mapR _ hc, c, dxc, _, rfl, hcc, cf_no _ _ _ (by decide +kernel) (by decide +kernel) (by decide +kernel), _, rfl, p, _, 0, _, rfl, rfl, SqT.of hp, rfl, c, dr, 1, 100, s.st, s.n, lo, rfl, hk, l0, fun H2 k2 hk2 => ?_⟩
      refine ⟨len1, fun r nr => ?_⟩
      have hm2 := hm.putC (u := s.ticked 1 100 lo) hc hs k2 hk2 rfl rfl eso
      have sr := same_new (o := .lst [.str "told"]) (Same.refl H2) nr
      exact q r _ "told" _ (by
        cases e : H r with
        | none => rfl
        | some o =>
          by_cases z : r = c
          · have := hk2.at_
            obtain ⟨_, _, e2, _⟩ := this
            rw [← z, nr] at e2; cases e2
          · rw [k2 r o z e] at nr; cases nr) .tick (fun c' o n e => sr _ _ (frc k2 c' o n e)) (hm2.same sr) upd_same

/-- the law's world: a group, and the law's own clocks and ups beside it -/
structure W26 (K : PySem.W.Frag) (CG CC : Addr) (H0 H : Hp) (x : Addr) (A : GA) (g : GS) (C U : Addr) (cs : List Addr) (n : Nat) : Prop where
  at_ : GroupAt K CG H x A 1 100 g
  m : M26 K CC H C U cs g.ms
  n_ : g.ms.length = n
  dj : ∀ c ∈ C :: U :: cs, ¬ c ∈ ownG x A
  ds : g.ds = []
  lo : g.loose = false
  le : g.le = 20
  sm : Same H0 H
  nx : H0 x = none
  nM : ∀ c ∈ C :: U :: cs, H0 c = none
section
variable {K : PySem.W.Frag} {CG CC : Addr} {H0 H H1 H2 : Hp} {x : Addr} {A A' : GA} {g : GS} {C U : Addr} {cs : List Addr} {n : Nat}
theorem W26.fl (h : W26 K CG CC H0 H x A g C U cs n) : ∀ d ∈ g.ds, flatT d = true := fun d hd => by rw [h.ds] at hd; cases hd
theorem W26.same (h : W26 K CG CC H0 H x A g C U cs n) (k : Same H H1) : W26 K CG CC H0 H1 x A g C U cs n := ⟨h.at_.same k, h.m.same k, h.n_, h.dj, h.ds, h.lo, h.le, h.sm.trans k, h.nx, h.nM⟩
theorem sm_S {S : List Addr} (a : Same H0 H) (k : FrS S H H1) (nS : ∀ c ∈ S, H0 c = none) : Same H0 H1 := fun c o e => k c o (fun z => by rw [nS c z] at e; cases e) (a c o e)
theorem W26.side {S : List Addr} (h : W26 K CG CC H0 H x A g C U cs n) (k : FrS S H H1) (m : MutS S H) (nO : ∀ c ∈ S, ¬ c ∈ ownG x A ∧ ¬ c ∈ C :: U :: cs) (nS : ∀ c ∈ S, H0 c = none) : W26 K CG CC H0 H1 x A g C U cs n :=
  ⟨h.at_.frS k m (fun c z y => (nO c y).1 z) h.fl, h.m.frS k m (fun c z y => (nO c y).2 z), h.n_, h.dj, h.ds, h.lo, h.le, sm_S h.sm k nS, h.nx, h.nM⟩
theorem W26.grp (h : W26 K CG CC H0 H x A g C U cs n) (k : FrS (C :: U :: cs) H H1) : GroupAt K CG H1 x A 1 100 g := h.at_.frS k h.m.mut (fun c z y => h.dj c y z) h.fl
theorem frS_x {S : List Addr} (k : Fr x H H1) (i : x ∈ S) : FrS S H H1 := fun c o n e => k c o (fun z => n (by rw [z]; exact i)) e
theorem W26.step (h : W26 K CG CC H0 H x A g C U cs n) {ms : List MS} (k : FrS (C :: U :: cs) H H1) (m1 : M26 K CC H1 C U cs ms) (ln : ms.length = n) (n2 : Gx K CG H1 x A 1 100 H2 A' { g with ms := ms }) : W26 K CG CC H0 H2 x A' { g with ms := ms } C U cs n := by
  have hg1 := h.grp k
  obtain ⟨dx, hx⟩ := hg1.at_
  have mx : MutS [x] H1 := fun c z => by rw [List.mem_singleton.mp z]; exact ⟨_, hx, trivial⟩
  have ex : ∀ c ∈ C :: U :: cs, ∃ o, H1 c = some o := fun c z => by
    obtain ⟨o, e, _⟩ := m1.mut c z
    exact ⟨o, e⟩
  refine ⟨n2.at_, m1.frS (S := [x]) (frS_x n2.fr (by simp)) mx (fun c z y => h.dj c z (by rw [List.mem_singleton.mp y]; exact List.mem_cons_self ..)), ln, fun c z y => ?_, h.ds, h.lo, h.le, ?_, h.nx, h.nM⟩
  · rcases n2.nx.ow c y with w | w
    · exact h.dj c z w
    · obtain ⟨o, e⟩ := ex c z
      rw [e] at w; cases w
  · exact sm_S (sm_S h.sm k h.nM) (frS_x (S := [x]) n2.fr (by simp)) (fun c z => by rw [List.mem_singleton.mp z]; exact h.nx)
theorem W26.lent (h : W26 K CG CC H0 H x A g C U cs n) (k : Fr x H H1) (hg : GroupAt K CG H1 x A 1 100 { g with lent := true }) : W26 K CG CC H0 H1 x A { g with lent := true } C U cs n := by
  obtain ⟨dx, hx⟩ := h.at_.at_
  have mx : MutS [x] H := fun c z => by rw [List.mem_singleton.mp z]; exact ⟨_, hx, trivial⟩
  exact ⟨hg, h.m.frS (S := [x]) (frS_x k (by simp)) mx (fun c z y => h.dj c z (by rw [List.mem_singleton.mp y]; exact List.mem_cons_self ..)), h.n_, h.dj, h.ds, h.lo, h.le, sm_S h.sm (frS_x (S := [x]) k (by simp)) (fun c z => by rw [List.mem_singleton.mp z]; exact h.nx), h.nx, h.nM⟩
theorem W26.new (h : W26 K CG CC H0 H x A g C U cs n) {c : Addr} (e : H c = none) : ¬ c ∈ ownG x A ∧ ¬ c ∈ C :: U :: cs := by
  constructor
  · intro z
    obtain ⟨o, e2, _⟩ := h.at_.mut c z
    rw [e] at e2; cases e2
  · intro z
    obtain ⟨o, e2, _⟩ := h.m.mut c z
    rw [e] at e2; cases e2
end
theorem number_sh : SeqAt.shaped (.list [.str "number"]) = true := by decide +kernel
theorem told_sh : SeqAt.shaped (.list [.str "told"]) = true := by decide +kernel
theorem bad_many {K : PySem.W.Frag} {H : Hp} {pl : Addr} (hl : H pl = some (.lst [.int 3])) {i : Nat} {v : V}
    (hi : [V.int 0, V.int 6, V.int (-1), V.non, V.bl true, V.str "3", V.ref pl, V.int (10 ^ (9 : Int).toNat)][i]? = some v) : ∃ d, An K H v d ∧ fromToD d 1 5 = false := by
  match i, hi with
  | 0, hi => cases hi; exact ⟨_, .dp (.int _), by decide +kernel⟩
  | 1, hi => cases hi; exact ⟨_, .dp (.int _), by decide +kernel⟩
  | 2, hi => cases hi; exact ⟨_, .dp (.int _), by decide +kernel⟩
  | 3, hi => cases hi; exact ⟨_, .dp .non, rfl⟩
  | 4, hi => cases hi; exact ⟨_, .dp (.bl _), rfl⟩
  | 5, hi => cases hi; exact ⟨_, .dp (.str _), rfl⟩
  | 6, hi => cases hi; exact ⟨_, .dp (.lst (SqL.of hl) (.cons (.int _) .nil)), rfl⟩
  | 7, hi => cases hi; exact ⟨_, .dp (.int _), by decide +kernel⟩
  | k + 8, hi => simp at hi
theorem bad_lease {K : PySem.W.Frag} {H : Hp} {pl : Addr} (hl : H pl = some (.lst [.int 3])) {i : Nat} {v : V}
    (hi : [V.int 0, V.int 1001, V.int (-1), V.non, V.bl true, V.str "3", V.ref pl][i]? = some v) : ∃ d, An K H v d ∧ fromToD d 1 1000 = false := by
  match i, hi with
  | 0, hi => cases hi; exact ⟨_, .dp (.int _), by decide +kernel⟩
  | 1, hi => cases hi; exact ⟨_, .dp (.int _), by decide +kernel⟩
  | 2, hi => cases hi; exact ⟨_, .dp (.int _), by decide +kernel⟩
  | 3, hi => cases hi; exact ⟨_, .dp .non, rfl⟩
  | 4, hi => cases hi; exact ⟨_, .dp (.bl _), rfl⟩
  | 5, hi => cases hi; exact ⟨_, .dp (.str _), rfl⟩
  | 6, hi => cases hi; exact ⟨_, .dp (.lst (SqL.of hl) (.cons (.int _) .nil)), rfl⟩
  | k + 7, hi => simp at hi

theorem ok_l_refuses {P : Program} {w : World} {K : PySem.W.Frag} {mg : Str → Option Value} {base : Heap} {a : Nat → Addr} {d : Nat → FuncData} (T : Txt K mg a d) : FnG P w K mg base 10 (a 39) (d 39) ["_law_group", "_law_clocks", "_law_ups"] (spRefuses26 K (a 42) (a 43)) := by
  refine fnG_mk T.F_l_refuses sc_l_refuses (fun vs H Q E h => ?_) (fun cdv A outer s0 H vs Q E gd hr h => ?_)
  · obtain ⟨x, A', g, C, U, cs, rfl, hg, lo, hm, q⟩ := h
    rfl
  · obtain ⟨x, A', g, C, U, cs, rfl, hg, lo, hm, q⟩ := h
    refine ⟨_, (pss_cons (ps_for PassesOwn.never rfl (pi_list (pe_lst (pa_cons (pe_callB call_len_seq (by rfl) T.z_len PySem.boot_len (pa_cons (pv 2) pa_nil)) (pa_cons (pe_un un_neg pe_int) (pa_cons pe_non (pa_cons pe_bl (pa_cons pe_str (pa_cons (pe_lst (pa_cons pe_int pa_nil)) (pa_cons (pe_tup (pa_cons pe_int pa_nil)) (pa_cons (pe_op op_pow pe_int pe_int) (pa_cons pe_dnewK pa_nil))))))))))) (pg_name (i := 3) sc_l_refuses.nd rfl (.inl rfl)) (pss_one (ps_for PassesOwn.never rfl (pi_range1 (by rfl) T.z_range (pa_cons pe_int pa_nil)) (pg_name (i := 4) sc_l_refuses.nd rfl (.inl rfl)) (pss_cons (ps_set (i := 5) sc_l_refuses.nd rfl (Or.inl rfl) (pe_lst (pa_cons pe_str (pa_cons (pe_callB (call_reprA gd (room66 hr)) (by rfl) T.z_repr (by decide +kernel) (pa_cons (pv 3) pa_nil)) (pa_cons pe_bl pa_nil))))) (Evl.pss_cut (ps_if (PW.pt (pw_and (pt_cmpR op_eq (pv 4) pe_int (nomark _)) (pw_and1 (pt_cmpR op_isN (pv 3) pe_non (nomark _))))) (pss_one (ps_set (i := 5) sc_l_refuses.nd rfl (Or.inl rfl) (pe_lst (pa_cons pe_str pa_nil)))) pss_nil) (pss_one (ps_if (pt_cmpR (op_neD hr.units) (pe_callG (ok_said T) gd (hr.mono (by decide)) (by rfl) T.g_l_said T.F_l_said.kp T.b_l_said pass0 (pa_cons (pv 0) (pa_cons (pv 4) (pa_cons (pv 3) (pa_cons (pe_tup (pa_cons pe_int (pa_cons pe_int pa_nil))) pa_nil))))) (pv 5) (nomark _)) (pss_one (ps_ret pe_bl)) pss_nil))))))) (pss_one (ps_ret (pe_callG (ok_l_stands T) gd (hr.mono (by decide)) (by rfl) T.g_l_stands T.F_l_stands.kp T.b_l_stands pass0 (pa_cons (pv 0) (pa_cons (pv 2) (pa_cons (pv 1) pa_nil))))))), ?_⟩
    obtain ⟨dx, hx⟩ := hg.at_
    have n5 := hg.ls.n5
    have n1 := hg.ls.n1
    refine ⟨_, rfl, U, _, rfl, .inl (SqL.of hm.hU), 1, rfl, len1, fun pl npl => ?_⟩
    rw [List.length_map]
    have s1 : Same H (upd H pl (.lst [.int 0])) := same_new (Same.refl H) npl
    have hpl : (upd H pl (.lst [.int 0])) pl = some (.lst [.int 0]) := upd_same
    generalize (upd H pl (.lst [.int 0])) = H1 at s1 hpl ⊢
    refine ⟨len1, fun pt npt => ?_⟩
    have s2 : Same H1 (upd H1 pt (.tup [.int 0])) := same_new (Same.refl H1) npt
    have hpt : (upd H1 pt (.tup [.int 0])) pt = some (.tup [.int 0]) := upd_same
    generalize (upd H1 pt (.tup [.int 0])) = H2 at s2 hpt ⊢
    refine ⟨10, 20, rfl, rfl, ⟨by decide, by decide, by decide⟩, fun pd npd => ?_⟩
    have s3 : Same H2 (upd H2 pd (.dK [])) := same_new (Same.refl H2) npd
    have hpd : (upd H2 pd (.dK [])) pd = some (.dK []) := upd_same
    generalize (upd H2 pd (.dK [])) = H3 at s3 hpd ⊢
    refine ⟨(by decide : 9 ≤ sizeLine), fun D nD => ?_⟩
    have s4 := same_new (o := .lst [V.int (g.ms.length : Int), V.int (-1), V.non, V.bl true, V.str "0", V.ref pl, V.ref pt, V.int (10 ^ (20 : Int).toNat), V.ref pd]) (Same.refl H3) nD
    have hD : (upd H3 D (.lst [V.int (g.ms.length : Int), V.int (-1), V.non, V.bl true, V.str "0", V.ref pl, V.ref pt, V.int (10 ^ (20 : Int).toNat), V.ref pd])) D = some (.lst [V.int (g.ms.length : Int), V.int (-1), V.non, V.bl true, V.str "0", V.ref pl, V.ref pt, V.int (10 ^ (20 : Int).toNat), V.ref pd]) := upd_same
    have hl4 := s4 _ _ (s3 _ _ (s2 _ _ hpl))
    have ht4 := s4 _ _ (s3 _ _ hpt)
    have hd4 := s4 _ _ hpd
    have S4 := s1.trans (s2.trans (s3.trans s4))
    generalize (upd H3 D (.lst [V.int (g.ms.length : Int), V.int (-1), V.non, V.bl true, V.str "0", V.ref pl, V.ref pt, V.int (10 ^ (20 : Int).toNat), V.ref pd])) = H4 at hl4 ht4 hd4 S4 hD ⊢
    clear s1 s2 s3 s4
    refine ⟨D, rfl, ⟨_, SqL.of hD⟩, ?_⟩
    refine for_list (K := K) (a := D) (xs := [V.int (g.ms.length : Int), V.int (-1), V.non, V.bl true, V.str "0", V.ref pl, V.ref pt, V.int (10 ^ (20 : Int).toNat), V.ref pd]) (fun j σ H' => (∃ v3 v4 v5 : Option V, σ = [some (.ref x), some (.ref C), some (.ref U), v3, v4, v5]) ∧ Same H4 H') ⟨⟨_, _, _, rfl⟩, Same.refl H4⟩ (fun j σ H' _ z => SqL.of (z.2 _ _ hD)) ?_ ?_
    · rintro j v σ H5 hj ⟨⟨v3, v4, v5, rfl⟩, S5⟩
      obtain ⟨d, ha, sh, hb, shp, hn⟩ := bad_all (K := K) (H := H5) n1 n5 (S5 _ _ hl4) (S5 _ _ ht4) (S5 _ _ hd4) hj
      refine ⟨9, rfl, by decide, by decide, ?_⟩
      refine for_range (lo := 0) (n := 9) (fun k σ H' => (∃ v4 v5 : Option V, σ = [some (.ref x), some (.ref C), some (.ref U), some v, v4, v5]) ∧ Same H5 H') ⟨⟨_, _, rfl⟩, Same.refl H5⟩ ?_ ?_
      · rintro k σ H6 hk ⟨⟨v4, v5, rfl⟩, S6⟩
        refine ⟨_, rfl, v, d, rfl, ha.up S6, sh.1, sh.2.1, sh.2.2, len3, fun pe npe => ?_⟩
        have s7 : Same H6 (upd H6 pe (.lst [.str "copy", .str d.shown, .bl true])) := same_new (Same.refl H6) npe
        have hpe : (upd H6 pe (.lst [.str "copy", .str d.shown, .bl true])) pe = some (.lst [.str "copy", .str d.shown, .bl true]) := upd_same
        generalize (upd H6 pe (.lst [.str "copy", .str d.shown, .bl true])) = H7 at s7 hpe ⊢
        refine ⟨fun σ' H' => ∃ q' : Addr, σ' = [some (.ref x), some (.ref C), some (.ref U), some v, some (.int (0 + (k : Int))), some (.ref q')] ∧ Same H7 H' ∧ ((k = 8 ∧ v = .non ∧ H' q' = some (.lst [.str "told"])) ∨ ((0 + (k : Int) = 8 → v ≠ .non) ∧ H' q' = some (.lst [.str "copy", .str d.shown, .bl true]))), ?_, ?_⟩
        · refine ⟨_, rfl, rfl, _, rfl, ?_⟩
          by_cases k8 : k = 8
          · subst k8
            refine iteDT (by rfl) ⟨_, rfl, rfl, _, rfl, ?_⟩
            rcases hn with rfl | hn
            · refine iteDT rfl ⟨len1, fun q2 nq2 => ?_⟩
              exact ⟨q2, rfl, same_new (Same.refl H7) nq2, .inl ⟨rfl, rfl, upd_same⟩⟩
            · exact iteDF hn ⟨pe, rfl, Same.refl H7, .inr ⟨fun _ => hn, hpe⟩⟩
          · exact iteDF (fun z => k8 (by have := V.int.inj z; omega)) ⟨pe, rfl, Same.refl H7, .inr ⟨fun z => absurd (show k = 8 by omega) k8, hpe⟩⟩
        · rintro σ' H8 ⟨q', rfl, s8, hc⟩
          have S8 := S4.trans (S5.trans (S6.trans (s7.trans s8)))
          have S58 := S6.trans (s7.trans s8)
          refine ⟨_, rfl, _, rfl, _, rfl, len2, fun p9 np9 => ?_⟩
          have s9 : Same H8 (upd H8 p9 (.tup [.int 9, .int 1])) := same_new (Same.refl H8) np9
          have hp9 : (upd H8 p9 (.tup [.int 9, .int 1])) p9 = some (.tup [.int 9, .int 1]) := upd_same
          generalize (upd H8 p9 (.tup [.int 9, .int 1])) = H9 at s9 hp9 ⊢
          have hg9 := hg.same (S8.trans s9)
          refine ⟨x, A', g, _, v, .ref p9, rfl, hg9, ?_⟩
          rcases hc with ⟨rfl, rfl, hq'⟩ | ⟨hnn, hq'⟩
          · refine .book lo fun r Ha nr sa hr' => ?_
            refine ⟨_, rfl, .list [.str "told"], .list [.str "told"], word_at hr', word_at (sa _ _ (s9 _ _ hq')), told_sh, told_sh, _, rfl, iteBF (by rw [shaped_rf told_sh]; rfl) ?_⟩
            exact ⟨⟨_, _, rfl⟩, S58.trans (s9.trans sa)⟩
          · refine .bad (by omega) (by omega) hp9 (ha.up (S58.trans s9)) sh hb hnn fun r Ha nr sa hr' => ?_
            refine ⟨_, rfl, copyD d.shown, copyD d.shown, copy_at hr', copy_at (sa _ _ (s9 _ _ hq')), shp, shp, _, rfl, iteBF (by rw [shaped_rf shp]; rfl) ?_⟩
            exact ⟨⟨_, _, rfl⟩, S58.trans (s9.trans sa)⟩
      · rintro σ H6 ⟨⟨v4, v5, rfl⟩, S6⟩
        exact ⟨⟨_, _, _, rfl⟩, S5.trans S6⟩
    · rintro σ H5 ⟨⟨v3, v4, v5, rfl⟩, S5⟩
      have S := S4.trans S5
      exact ⟨_, rfl, _, rfl, _, rfl, x, A', g, C, U, cs, rfl, hg.same S, hm.same S, fun H' s' => q H' (S.trans s')⟩

theorem ok_law {P : Program} {w : World} {K : PySem.W.Frag} {mg : Str → Option Value} {base : Heap} {a : Nat → Addr} {d : Nat → FuncData} (T : Txt K mg a d) : FnG P w K mg base 11 (a 41) (d 41) ["_law_script"] (spLaw K) := by
  refine fnG_mk T.F_law sc_law (fun vs H Q E h => ?_) (fun cdv A outer s0 H vs Q E gd hr h => ?_)
  · obtain ⟨l, ns, rfl, hS, hl, q⟩ := h
    rfl
  · obtain ⟨l, ns, rfl, hS, hl, q⟩ := h
    refine ⟨_, (pss_cons (ps_set (i := 1) sc_law.nd rfl (Or.inl rfl) (pe_call (ok_l_begun T) (hr.mono (by decide)) (by rfl) T.g_l_begun T.F_l_begun.kp T.b_l_begun .nil pass0 (pa_cons (pv 0) (pa_cons pe_int pa_nil)))) (pss_cons (ps_set (i := 2) sc_law.nd rfl (Or.inl rfl) (pe_op op_add pe_int (pe_call (ok_l_take T) (hr.mono (by decide)) (by rfl) T.g_l_take T.F_l_take.kp T.b_l_take .nil pass0 (pa_cons (pv 1) (pa_cons pe_int pa_nil))))) (pss_cons (ps_set (i := 3) sc_law.nd rfl (Or.inl rfl) (pe_make T.m_Copies___init__ (ok_Copies___init__ T) (hr.mono (by decide)) (by rfl) T.g_Copies (Exists.choose_spec T.d_Copies___init__).2 (Exists.choose_spec T.d_Copies___init__).1 pass0 (pa_cons (pv 2) pa_nil))) (pss_cons (ps_set (i := 4) sc_law.nd rfl (Or.inl rfl) (pe_op op_rep (pe_lst (pa_cons pe_bl pa_nil)) (pv 2))) (pss_cons (ps_setLc (i := 5) (own := [("_law_spot", 7)]) (g := gName 7) (by rfl) sc_law.nd rfl rfl (sw_true rfl rfl rfl (by decide +kernel)) (pi_range1 (by rfl) T.z_range (pa_cons (pv 2) pa_nil)) (blkOk_by (own := [("_law_spot", 7)]) (N := ["_law_script", "_law_state", "_law_many", "_law_group", "_law_ups", "_law_clocks", "_law_k", "_law_spot", "_law_way", "_law_some", "_law_due_here", "_law_twin", "_law_bad", "_law_thing"]) (sc := defScope s_law) (by decide +kernel)) (fun _ _ _ _ _ => (pg_name (i := 7) sc_law.nd rfl (.inl rfl))) (fun _ _ _ _ _ => pts_nil) (fun _ _ _ _ _ => (pe_make0 T.m_Clock___init__ (ok_Clock___init__ T) (hr.mono (by decide)) (by rfl) T.g_Clock (Exists.choose_spec T.c_Clock___init__).2 (Exists.choose_spec T.c_Clock___init__).1 pass0))) (pss_cons (ps_for PassesOwn.never rfl (pi_range2 (by rfl) T.z_range (pa_cons pe_int (pa_cons (pe_callB (call_max2 rfl) (by rfl) T.z_max (by decide +kernel) (pa_cons pe_int (pa_cons (pe_callB (call_min2 rfl) (by rfl) T.z_min (by decide +kernel) (pa_cons pe_int (pa_cons (pe_callB call_len_seq (by rfl) T.z_len PySem.boot_len (pa_cons (pv 0) pa_nil)) pa_nil))) pa_nil))) pa_nil))) (pg_name (i := 6) sc_law.nd rfl (.inl rfl)) (pss_cons (ps_set (i := 1) sc_law.nd rfl (Or.inl rfl) (pe_call (ok_l_begun T) (hr.mono (by decide)) (by rfl) T.g_l_begun T.F_l_begun.kp T.b_l_begun .nil pass0 (pa_cons (pv 0) (pa_cons (pv 6) pa_nil)))) (pss_cons (ps_set (i := 7) sc_law.nd rfl (Or.inl rfl) (pe_call (ok_l_take T) (hr.mono (by decide)) (by rfl) T.g_l_take T.F_l_take.kp T.b_l_take .nil pass0 (pa_cons (pv 1) (pa_cons (pv 2) pa_nil)))) (pss_cons (ps_set (i := 8) sc_law.nd rfl (Or.inl rfl) (pe_call (ok_l_take T) (hr.mono (by decide)) (by rfl) T.g_l_take T.F_l_take.kp T.b_l_take .nil pass0 (pa_cons (pv 1) (pa_cons pe_int pa_nil)))) (pss_cons (ps_set (i := 9) sc_law.nd rfl (Or.inl rfl) (pe_tup (pa_cons (pe_call (ok_l_take T) (hr.mono (by decide)) (by rfl) T.g_l_take T.F_l_take.kp T.b_l_take .nil pass0 (pa_cons (pv 1) (pa_cons pe_int pa_nil))) (pa_cons (pe_op op_add pe_int (pe_call (ok_l_take T) (hr.mono (by decide)) (by rfl) T.g_l_take T.F_l_take.kp T.b_l_take .nil pass0 (pa_cons (pv 1) (pa_cons pe_int pa_nil)))) pa_nil)))) (pss_cons (ps_set (i := 10) sc_law.nd rfl (Or.inl rfl) (pe_call (ok_l_due T) (hr.mono (by decide)) (by rfl) T.g_l_due T.F_l_due.kp T.b_l_due .nil pass0 (pa_cons (pv 5) (pa_cons (pv 4) (pa_cons (pv 8) (pa_cons (pv 7) (pa_cons (pv 9) pa_nil))))))) (pss_cons (ps_if (PW.pt (pw_or (pt_cmpR (op_neD hr.units) (pe_callG (ok_said T) gd (hr.mono (by decide)) (by rfl) T.g_l_said T.F_l_said.kp T.b_l_said pass0 (pa_cons (pv 3) (pa_cons (pv 8) (pa_cons (pv 7) (pa_cons (pv 9) pa_nil))))) (pv 10) (nomark _)) (pw_or1 (pt_not (pt_truth (pe_callG (ok_l_stands T) gd (hr.mono (by decide)) (by rfl) T.g_l_stands T.F_l_stands.kp T.b_l_stands pass0 (pa_cons (pv 3) (pa_cons (pv 4) (pa_cons (pv 5) pa_nil)))) (by intro _; rfl)))))) (pss_one (ps_ret pe_bl)) pss_nil) (pss_cons (ps_expr (pe_meth (pe_meth (pv 3) T.cl T.m_Copies_clock (ok_Copies_clock T) (hr.mono (by decide)) T.b_Copies_clock .nil pass0 (pa_cons (pv 7) pa_nil)) T.cl_Clock T.m_Clock_tick (ok_Clock_tick T) (hr.mono (by decide)) T.b_Clock_tick .nil pass0 (pa_cons pe_int pa_nil))) (pss_cons (ps_set (i := 11) sc_law.nd rfl (Or.inl rfl) (pe_meth0 (pv 3) T.cl T.m_Copies_twin (ok_Copies_twin T) (hr.mono (by decide)) T.b_Copies_twin .nil pass0)) (pss_cons (ps_expr (pe_meth (pv 11) T.cl T.m_Copies_stop (ok_Copies_stop T) (hr.mono (by decide)) T.b_Copies_stop .nil pass0 (pa_cons (pv 7) pa_nil))) (pss_cons (ps_expr (pe_meth (pv 11) T.cl T.m_Copies_tick_clock (ok_Copies_tick_clock T) (hr.mono (by decide)) T.b_Copies_tick_clock .nil pass0 (pa_cons (pv 7) (pa_cons pe_int pa_nil)))) (pss_one (ps_if (PW.pt (pw_or (pt_not (pt_truth (pe_callG (ok_l_stands T) gd (hr.mono (by decide)) (by rfl) T.g_l_stands T.F_l_stands.kp T.b_l_stands pass0 (pa_cons (pv 3) (pa_cons (pv 4) (pa_cons (pv 5) pa_nil)))) (by intro _; rfl))) (pw_or (pt_truth (pe_meth (pv 11) T.cl T.m_Copies_is_up (ok_Copies_is_up T) (hr.mono (by decide)) T.b_Copies_is_up .nil pass0 (pa_cons (pv 7) pa_nil)) (by intro _; rfl)) (pw_or1 (pt_cmpR (op_neD hr.units) (pe_callG (ok_said T) gd (hr.mono (by decide)) (by rfl) T.g_l_said T.F_l_said.kp T.b_l_said pass0 (pa_cons (pv 3) (pa_cons pe_int (pa_cons (pv 7) (pa_cons (pe_tup (pa_cons (pe_un un_neg pe_int) pa_nil)) pa_nil))))) (pe_lst (pa_cons pe_str pa_nil)) (nomark _)))))) (pss_one (ps_ret pe_bl)) pss_nil))))))))))))) (pss_cons (ps_set (i := 12) sc_law.nd rfl (Or.inl rfl) (pe_lst (pa_cons pe_int (pa_cons pe_int (pa_cons (pe_un un_neg pe_int) (pa_cons pe_non (pa_cons pe_bl (pa_cons pe_str (pa_cons (pe_lst (pa_cons pe_int pa_nil)) (pa_cons (pe_op op_pow pe_int pe_int) pa_nil)))))))))) (pss_cons (ps_if (PW.pt (pw_or (pt_cmpR (op_neD hr.units) (pe_lc (own := [("_law_thing", 13)]) (g := gName 13) (te := (tVar 13)) (by rfl) sc_law.nd (pi_list (pv 12)) (blkOk_by (own := [("_law_thing", 13)]) (N := ["_law_script", "_law_state", "_law_many", "_law_group", "_law_ups", "_law_clocks", "_law_k", "_law_spot", "_law_way", "_law_some", "_law_due_here", "_law_twin", "_law_bad", "_law_thing"]) (sc := defScope s_law) (by decide +kernel)) (fun _ _ _ _ _ => (pg_name (i := 13) sc_law.nd rfl (.inl rfl))) (fun _ _ _ _ _ => (pts_one (pt_cmpR op_isnot_bl (pe_call (ok_l_made T) (hr.mono (by decide)) (by rfl) T.g_l_made T.F_l_made.kp T.b_l_made .nil pass0 (pa_cons (pv 13) (pa_cons pe_int pa_nil))) pe_bl (nomark _)))) (fun _ _ _ _ _ => (pv 13))) (pe_lst pa_nil) (nomark _)) (pw_or1 (pt_cmpR op_ne (pe_glob (v := .int (20)) (by rfl) (Exists.choose_spec T.g_LEASE) ⟨_, rfl⟩) pe_int (nomark _))))) (pss_one (ps_ret pe_bl)) pss_nil) (pss_cons (ps_set (i := 12) sc_law.nd rfl (Or.inl rfl) (pe_lst (pa_cons pe_int (pa_cons pe_int (pa_cons (pe_un un_neg pe_int) (pa_cons pe_non (pa_cons pe_bl (pa_cons pe_str (pa_cons (pe_lst (pa_cons pe_int pa_nil)) pa_nil))))))))) (pss_cons (ps_if (PW.pt (pw_or (pt_cmpR (op_neD hr.units) (pe_lc (own := [("_law_thing", 13)]) (g := gName 13) (te := (tVar 13)) (by rfl) sc_law.nd (pi_list (pv 12)) (blkOk_by (own := [("_law_thing", 13)]) (N := ["_law_script", "_law_state", "_law_many", "_law_group", "_law_ups", "_law_clocks", "_law_k", "_law_spot", "_law_way", "_law_some", "_law_due_here", "_law_twin", "_law_bad", "_law_thing"]) (sc := defScope s_law) (by decide +kernel)) (fun _ _ _ _ _ => (pg_name (i := 13) sc_law.nd rfl (.inl rfl))) (fun _ _ _ _ _ => (pts_one (pt_cmpR op_isnot_bl (pe_call (ok_l_made T) (hr.mono (by decide)) (by rfl) T.g_l_made T.F_l_made.kp T.b_l_made .nil pass0 (pa_cons pe_int (pa_cons (pv 13) pa_nil))) pe_bl (nomark _)))) (fun _ _ _ _ _ => (pv 13))) (pe_lst pa_nil) (nomark _)) (pw_or1 (pt_cmpR op_notN (pe_call (ok_l_made T) (hr.mono (by decide)) (by rfl) T.g_l_made T.F_l_made.kp T.b_l_made .nil pass0 (pa_cons pe_int (pa_cons pe_int pa_nil))) pe_non (nomark _))))) (pss_one (ps_ret pe_bl)) pss_nil) (pss_one (ps_ret (pe_and (pe_callG (ok_l_refuses T) gd (hr.mono (by decide)) (by rfl) T.g_l_refuses T.F_l_refuses.kp T.b_l_refuses pass0 (pa_cons (pv 3) (pa_cons (pv 5) (pa_cons (pv 4) pa_nil)))) (pe_one (pe_cmpR op_eq (pe_callB (call_lenOwn (ok_Copies___len__ T) (Room.in1 (k := 1) (hr.mono (by decide))) T.m_Copies___len__.at_ T.m_Copies___len__.fn T.b_Copies___len__ pass0) (by rfl) T.z_len PySem.boot_len (pa_cons (pe_make0 T.m_Copies___init__ (ok_Copies___init__ T) (hr.mono (by decide)) (by rfl) T.g_Copies (Exists.choose_spec T.e_Copies___init__).2 (Exists.choose_spec T.e_Copies___init__).1 pass0) pa_nil)) pe_int (nomark _)))))))))))))))), ?_⟩
    refine ⟨_, rfl, l, ns, 0, rfl, hS, hl, by decide, by decide, fun s0 H1 ns0 s1 hs1 => ?_⟩
    have sn : H s0 = none := ns0
    refine ⟨_, rfl, s0, 5, rfl, hs1, (by decide), (by decide), fun r5 H4 r50 r51 K4 => ⟨1, r5, rfl, rfl, ?_⟩⟩
    have S5 : Same H H4 := Kp.same s1 sn K4
    obtain ⟨n, hn⟩ := Int.eq_ofNat_of_zero_le (show 0 ≤ 1 + r5 by omega)
    generalize ev : ((fun i j : Int => V.int (i + j)) 1 r5) = vm
    have ev2 : vm = V.int (n : Int) := by rw [← ev]; show V.int (1 + r5) = V.int (n : Int); rw [hn]
    subst ev2
    have n1 : 1 ≤ n := by omega
    have n5 : n ≤ 5 := by omega
    -- the group
    refine ⟨_, rfl, fun x dx nx ndx nex => ?_⟩
    have sm := same_make (o1 := .own x) (o2 := .ins (a 42) dx []) nx ndx
    have fx : H x = none := S5.free nx
    have hx5 : (upd (upd H4 dx (.own x)) x (.ins (a 42) dx [])) x = some (.ins (a 42) dx []) := upd_same
    generalize (upd (upd H4 dx (.own x)) x (.ins (a 42) dx [])) = H6 at sm hx5 ⊢
    refine ⟨x, dx, n, (a 46), 20, 1, 100, rfl, hx5, by omega, by omega, by decide, by decide, ⟨T.k_DRIFT _, by decide, by decide, by decide, by decide⟩, fun A H7 fA eA F7 hg7 => ⟨rfl, ?_⟩⟩
    have S6 : Same H H6 := S5.trans sm
    have S7 : Same H H7 := fun c o e => F7 _ _ (ne_of_none e fx) (S6 _ _ e)
    -- the ups
    refine ⟨len1, fun t1 nt1 => ?_⟩
    have s8 : Same H7 (upd H7 t1 (.lst [.bl true])) := same_new (Same.refl H7) nt1
    have ht1 : (upd H7 t1 (.lst [.bl true])) t1 = some (.lst [.bl true]) := upd_same
    generalize (upd H7 t1 (.lst [.bl true])) = H8 at s8 ht1 ⊢
    refine ⟨_, rfl, t1, (n : Int), _, rfl, rfl, ht1, by omega, by omega, Nat.le_trans (show _ ≤ 5 by simpa using n5) (by decide), fun U nU => ?_⟩
    rw [show (n : Int).toNat = n from Int.toNat_natCast n, rep_flat]
    have s9 : Same H8 (upd H8 U (.lst (List.replicate n (.bl true)))) := same_new (Same.refl H8) nU
    have hU : (upd H8 U (.lst (List.replicate n (.bl true)))) U = some (.lst (List.replicate n (.bl true))) := upd_same
    have fU : H U = none := (S7.trans s8).free nU
    have f7U : H7 U = none := s8.free nU
    generalize (upd H8 U (.lst (List.replicate n (.bl true)))) = H9 at s9 hU ⊢
    have S79 : Same H7 H9 := s8.trans s9
    -- the clocks
    refine ⟨_, rfl, n, rfl, by omega, by omega, fun C nC => ?_⟩
    have fC9 : H9 C = none := nC
    have UC : U ≠ C := ne_of_none hU nC
    refine lc_range (lo := 0) (n := n) (fun i H' => Same H9 H' ∧ ∃ cs : List Addr, H' C = some (.lst (cs.map V.ref)) ∧ cs.length = i ∧ cs.Nodup ∧ ∀ c ∈ cs, H9 c = none ∧ c ≠ C ∧ ∃ dr, CkAt K (a 43) H' c dr 1 100 none 0) ⟨same_new (Same.refl H9) nC, [], upd_same, rfl, .nil, fun c z => by cases z⟩ ?_ ?_
    · rintro i Ha hi ⟨sa, cs, hC, cl, nd, hcs⟩
      refine ⟨rfl, fun c dc nc ndc nec => ?_⟩
      have smc := same_make (o1 := .own c) (o2 := .ins (a 43) dc []) nc ndc
      have hc1 : (upd (upd Ha dc (.own c)) c (.ins (a 43) dc [])) c = some (.ins (a 43) dc []) := upd_same
      generalize (upd (upd Ha dc (.own c)) c (.ins (a 43) dc [])) = Hb at smc hc1 ⊢
      refine ⟨c, (a 46), dc, 1, 100, rfl, hc1, ⟨T.k_DRIFT _, by decide, by decide, by decide, by decide⟩, fun Hd kd hkd => ⟨rfl, ?_⟩⟩
      have cC : c ≠ C := (ne_of_none hC nc).symm
      have sad : Same Ha Hd := kd.over smc nc
      have nin : ¬ c ∈ cs := fun z => by
        obtain ⟨_, _, dr, hk⟩ := hcs c z
        obtain ⟨_, _, e, _⟩ := hk.at_
        rw [nc] at e; cases e
      have hCd := sad _ _ hC
      refine ⟨_, hCd, (by rw [List.length_map, cl]; exact Nat.lt_of_lt_of_le (show i < 5 by omega) (by decide)), ?_, cs ++ [c], ?_, ?_, ?_, ?_⟩
      · intro b o e
        rw [upd_ne (fun z => by rw [z, fC9] at e; cases e)]
        exact sad _ _ (sa _ _ e)
      · rw [upd_same, List.map_append]; rfl
      · rw [List.length_append, cl]; rfl
      · exact List.nodup_append.mpr ⟨nd, List.nodup_cons.mpr ⟨by simp, .nil⟩, fun a ha b hb => by rw [List.mem_singleton.mp hb]; intro z; exact nin (z ▸ ha)⟩
      · intro c' z
        have kC : ∀ o, Fr C Hd (upd Hd C o) := fun o => (Fr.refl C Hd).put
        rcases List.mem_append.mp z with z | z
        · obtain ⟨a1, a2, dr, hk⟩ := hcs c' z
          exact ⟨a1, a2, dr, (hk.same sad).fr (kC _) hCd trivial a2⟩
        · rw [List.mem_singleton.mp z]
          exact ⟨sa.free nc, cC, _, hkd.fr (kC _) hCd trivial cC⟩
    rintro Ha ⟨sa, cs, hC, cl, nd, hcs⟩
    have S9 : Same H H9 := S7.trans S79
    have W0 : W26 K (a 42) (a 43) H Ha x A (newG n 20) C U cs n := by
      have hga := hg7.same (S79.trans sa)
      have al7 : ∀ c, H7 c = none → ¬ c ∈ ownG x A := fun c e z => by
        obtain ⟨o, e2, _⟩ := hg7.mut c z
        rw [e] at e2; cases e2
      have nw : ∀ c ∈ C :: U :: cs, H7 c = none := fun c z => by
        rcases List.mem_cons.mp z with rfl | z
        · exact S79.free fC9
        rcases List.mem_cons.mp z with rfl | z
        · exact f7U
        · exact S79.free (hcs c z).1
      refine ⟨hga, ⟨?_, hC, ?_, ?_, ?_, nd, UC, ?_, ?_⟩, ?_, fun c z => al7 c (nw c z), rfl, rfl, rfl, S9.trans sa, fx, fun c z => S7.free (nw c z)⟩
      · show _ = some (HO.lst ((List.replicate n MS.new).map _))
        rw [List.map_replicate]
        exact sa _ _ hU
      · show cs.length = (List.replicate n MS.new).length
        rw [List.length_replicate]; exact cl
      · show (List.replicate n MS.new).length ≤ 5
        rw [List.length_replicate]; exact n5
      · intro i c s hc hs
        have e : s = MS.new := List.eq_of_mem_replicate (List.mem_of_getElem? hs)
        subst e
        exact (hcs c (List.mem_of_getElem? hc)).2.2
      · intro s hs
        rw [List.eq_of_mem_replicate hs]; rfl
      · intro s hs z e
        rw [List.eq_of_mem_replicate hs] at e; cases e
      · show (List.replicate n MS.new).length = n
        rw [List.length_replicate]
    generalize newG n 20 = g0 at W0
    clear hg7 hcs
    have hSa := W0.sm.seq hS
    have hm : (ns.map V.int).length = ns.length := List.length_map _
    refine ⟨_, rfl, l, _, rfl, .inl hSa, 41, _, rfl, 6, _, rfl, 1, _, rfl, ⟨by decide, by decide, by (repeat' split) <;> omega, by (repeat' split) <;> omega⟩, ?_⟩
    have hN : ((if (if ((ns.map V.int).length : Int) < 41 then ((ns.map V.int).length : Int) else 41) > 6 then (if ((ns.map V.int).length : Int) < 41 then ((ns.map V.int).length : Int) else 41) else (6 : Int)) - 1).toNat ≤ 40 := by
      rw [hm]; (repeat' split) <;> omega
    refine for_range (lo := 1) (fun i σ H' => (∃ v1 v6 v7 v8 v9 v10 v11 : Option V, σ = [some (.ref l), v1, some (.int (n : Int)), some (.ref x), some (.ref U), some (.ref C), v6, v7, v8, v9, v10, v11, none, none]) ∧ ∃ (A' : GA) (g' : GS), W26 K (a 42) (a 43) H H' x A' g' C U cs n) ⟨⟨_, _, _, _, _, _, _, rfl⟩, A, g0, W0⟩ ?_ ?_
    · rintro i σ Hb hi ⟨⟨v1, v6, v7, v8, v9, v10, v11, rfl⟩, A', g', Wb⟩
      refine ⟨_, rfl, _, rfl, l, ns, _, rfl, Wb.sm.seq hS, hl, by omega, by omega, fun s Hc ns' sc hsc => ?_⟩
      have Wc := Wb.same sc
      have fs : H s = none := Wb.sm.free ns'
      have nO := Wb.new ns'
      have draw : ∀ {Hx Hy : Hp}, W26 K (a 42) (a 43) H Hx x A' g' C U cs n → StAt Hx s → Kp s Hx Hy → W26 K (a 42) (a 43) H Hy x A' g' C U cs n := fun W st k => by
        obtain ⟨_, _, _, e, _⟩ := st
        exact W.side (S := [s]) (fun c o nc e => k.1 c o (fun z => nc (List.mem_singleton.mpr z)) e) (fun c hc => by rw [List.mem_singleton.mp hc]; exact ⟨_, e, trivial⟩) (fun c y => by rw [List.mem_singleton.mp y]; exact nO) (fun c z => by rw [List.mem_singleton.mp z]; exact fs)
      refine ⟨_, rfl, _, rfl, s, (n : Int), rfl, hsc, by omega, by omega, fun at' Hd at0 at1 Kd => ?_⟩
      have Wd := draw Wc hsc Kd
      obtain ⟨j, rfl⟩ := Int.eq_ofNat_of_zero_le at0
      have jn : j < g'.ms.length := by rw [Wb.n_]; omega
      obtain ⟨ms, hms⟩ := getM (ms := g'.ms) (i := j) jn
      refine ⟨_, rfl, s, 4, rfl, Kd.2, (by decide), (by decide), fun w Hf w0 w4 Kf => ?_⟩
      have Wf := draw Wd Kd.2 Kf
      refine ⟨_, rfl, s, 20, rfl, Kf.2, (by decide), (by decide), fun lo Hh lo0 lo1 Kh => ?_⟩
      have Wh := draw Wf Kf.2 Kh
      refine ⟨_, rfl, s, 30, rfl, Kh.2, (by decide), (by decide), fun hi' Hi hi0 hi1 Ki => ⟨10, hi', rfl, rfl, len2, fun p np => ?_⟩⟩
      have Wi := draw Wh Kh.2 Ki
      generalize ev3 : ((fun i j : Int => V.int (i + j)) 10 hi') = vm
      have ev4 : vm = V.int (10 + hi') := ev3.symm
      subst ev4
      have sp1 : Same Hi (upd Hi p (.tup [.int lo, .int (10 + hi')])) := same_new (Same.refl Hi) np
      have hp1 : (upd Hi p (.tup [.int lo, .int (10 + hi')])) p = some (.tup [.int lo, .int (10 + hi')]) := upd_same
      have Wj := Wi.same sp1
      generalize (upd Hi p (.tup [.int lo, .int (10 + hi')])) = Hj at hp1 Wj ⊢
      -- the law's own deed
      refine ⟨_, rfl, _, rfl, _, rfl, _, rfl, _, rfl, C, U, p, cs, g'.ms, w, lo, 10 + hi', j, ms, rfl, Wj.m, hp1, w0, w4, lo0, hms, fun r1 Hk res u nr1 sd k1 m1 hr1 => ?_⟩
      have gk := Wj.grp k1
      have hpk : Hk p = some (.tup [.int lo, .int (10 + hi')]) := k1 _ _ (fun z => by
        obtain ⟨o, e, md⟩ := Wj.m.mut p z
        rw [hp1] at e; cases e; exact md) hp1
      refine ⟨_, rfl, _, rfl, _, rfl, _, rfl, x, A', g', w, .int (j : Int), .ref p, rfl, gk, .deed w0 w4 lo0 hms hpk fun r2 Hl A2 res2 u2 nr2 sd2 n2 hr2 => ?_⟩
      obtain ⟨rfl, rfl⟩ := sd.uniq sd2
      have W2 := Wj.step k1 m1 (by rw [List.length_set]; exact Wb.n_) n2
      obtain ⟨dxk, hxk⟩ := gk.at_
      have hr1' : Hl r1 = some (.lst [.str res]) := n2.fr _ _ (ne_of hr1 hxk (by intro z; cases z)) hr1
      refine ⟨_, rfl, .list [.str res], .list [.str res], word_at hr2, word_at hr1', res_shaped sd, res_shaped sd, _, rfl, iteBF (by rw [shaped_rf (res_shaped sd)]; rfl) ?_⟩
      have j2 : (g'.ms.set j u)[j]? = some u := List.getElem?_set_self jn
      generalize hgg : ({ g' with ms := g'.ms.set j u } : GS) = g2 at W2
      have j3 : g2.ms[j]? = some u := by rw [← hgg]; exact j2
      have jl : j < g2.ms.length := (List.getElem?_eq_some_iff.mp j3).1
      clear n2 hgg
      refine ⟨_, rfl, _, rfl, _, rfl, x, A2, g2, C, U, cs, rfl, W2.at_, W2.m, fun Hm sm2 => ⟨true, rfl, iteF ?_⟩⟩
      have W3 := W2.same sm2
      -- a clock that is told is a new one
      obtain ⟨dx3, hx3⟩ := W3.at_.at_
      refine ⟨_, rfl, x, dx3, _, rfl, hx3, gf_no _ _ (by decide +kernel) (by decide +kernel) (by decide +kernel) (by decide +kernel) (by decide +kernel) (by decide +kernel) (by decide +kernel) (by decide +kernel) (by decide +kernel) (by decide +kernel) (by decide +kernel) (by decide +kernel) (by decide +kernel) (by decide +kernel) (by decide +kernel), _, rfl, x, A2, 1, 100, g2, j, u, rfl, W3.at_, j3, fun c5 Ho nc5 s5 hk5 => ?_⟩
      obtain ⟨dx5, sv5, hc5, hs5⟩ := hk5.at_
      refine ⟨c5, dx5, _, rfl, hc5, cf_no _ _ _ (by decide +kernel) (by decide +kernel) (by decide +kernel), c5, A2.dr, 1, 100, u.st, u.n, 5, rfl, hk5, by decide, fun Hp6 k6 hk6 => ?_⟩
      have W4 := W3.same (k6.over s5 nc5)
      -- a twin
      obtain ⟨dx4, hx4⟩ := W4.at_.at_
      refine ⟨_, rfl, x, dx4, _, rfl, hx4, gf_no _ _ (by decide +kernel) (by decide +kernel) (by decide +kernel) (by decide +kernel) (by decide +kernel) (by decide +kernel) (by decide +kernel) (by decide +kernel) (by decide +kernel) (by decide +kernel) (by decide +kernel) (by decide +kernel) (by decide +kernel) (by decide +kernel) (by decide +kernel), x, A2, 1, 100, g2, rfl, W4.at_, (by rw [W4.le]; decide), (by rw [W4.le]; decide), fun y A7 Hq ny yx F7 hgx hgy eA eE => ?_⟩
      have W5 := W4.lent F7 hgx
      have yO := W4.new ny
      have fy : H y = none := W4.sm.free ny
      obtain ⟨dy7, hy7⟩ := hgy.at_
      refine ⟨_, rfl, y, dy7, _, rfl, hy7, gf_no _ _ (by decide +kernel) (by decide +kernel) (by decide +kernel) (by decide +kernel) (by decide +kernel) (by decide +kernel) (by decide +kernel) (by decide +kernel) (by decide +kernel) (by decide +kernel) (by decide +kernel) (by decide +kernel) (by decide +kernel) (by decide +kernel) (by decide +kernel), _, rfl, y, A7, 1, 100, _, j, u, rfl, hgy, j3, fun A8 Hr n8 => ?_⟩
      have sideY : ∀ {Hx Hy : Hp}, W26 K (a 42) (a 43) H Hx x A2 { g2 with lent := true } C U cs n → (∃ dy fs, Hx y = some (.ins (a 42) dy fs)) → Fr y Hx Hy → W26 K (a 42) (a 43) H Hy x A2 { g2 with lent := true } C U cs n := fun W e k => by
        obtain ⟨dy, fs2, e⟩ := e
        exact W.side (S := [y]) (frS_x k (by simp)) (fun c hc => by rw [List.mem_singleton.mp hc]; exact ⟨_, e, trivial⟩) (fun c z => by rw [List.mem_singleton.mp z]; exact yO) (fun c z => by rw [List.mem_singleton.mp z]; exact fy)
      have W6 := sideY W5 ⟨_, _, hy7⟩ n8.fr
      obtain ⟨dy8, hy8⟩ := n8.at_.at_
      refine ⟨_, rfl, y, dy8, _, rfl, hy8, gf_no _ _ (by decide +kernel) (by decide +kernel) (by decide +kernel) (by decide +kernel) (by decide +kernel) (by decide +kernel) (by decide +kernel) (by decide +kernel) (by decide +kernel) (by decide +kernel) (by decide +kernel) (by decide +kernel) (by decide +kernel) (by decide +kernel) (by decide +kernel), _, rfl, y, A8, 1, 100, 3, _, j, _, rfl, by decide, n8.at_, List.getElem?_set_self jl, fun A9 Hs n9 => ?_⟩
      have W7 := sideY W6 ⟨_, _, hy8⟩ n9.fr
      refine ⟨_, rfl, _, rfl, _, rfl, x, A2, { g2 with lent := true }, C, U, cs, rfl, W7.at_, W7.m, fun Ht st => ⟨true, rfl, iteF ?_⟩⟩
      have W8 := W7.same st
      have gy := n9.at_.same st
      obtain ⟨dy9, hy9⟩ := gy.at_
      refine ⟨_, rfl, y, dy9, _, rfl, hy9, gf_no _ _ (by decide +kernel) (by decide +kernel) (by decide +kernel) (by decide +kernel) (by decide +kernel) (by decide +kernel) (by decide +kernel) (by decide +kernel) (by decide +kernel) (by decide +kernel) (by decide +kernel) (by decide +kernel) (by decide +kernel) (by decide +kernel) (by decide +kernel), _, rfl, y, A9, 1, 100, _, j, _, rfl, gy, List.getElem?_set_self (by rw [List.length_set]; exact jl), false, rfl, iteF ?_⟩
      refine ⟨_, rfl, _, rfl, 1, rfl, len1, fun pq npq => ?_⟩
      have sq : Same Ht (upd Ht pq (.tup [.int (-1)])) := same_new (Same.refl Ht) npq
      have hpq : (upd Ht pq (.tup [.int (-1)])) pq = some (.tup [.int (-1)]) := upd_same
      generalize (upd Ht pq (.tup [.int (-1)])) = Hu at sq hpq ⊢
      have W9 := W8.same sq
      refine ⟨x, A2, { g2 with lent := true }, 3, .int (j : Int), .ref pq, rfl, W9.at_, .neg jl (by decide) hpq fun r9 Hv nr9 s9' hr9 => ?_⟩
      refine ⟨len1, fun pz npz => ?_⟩
      have sz := same_new (o := .lst [.str "number"]) (Same.refl Hv) npz
      refine ⟨.list [.str "number"], .list [.str "number"], word_at (sz _ _ hr9), word_at upd_same, number_sh, number_sh, _, rfl, iteBF (by rw [shaped_rf number_sh]; rfl) ?_⟩
      exact ⟨⟨_, _, _, _, _, _, _, rfl⟩, A2, _, W9.same (s9'.trans sz)⟩
    · rintro σ Hb ⟨⟨v1, v6, v7, v8, v9, v10, v11, rfl⟩, A', g', Wb⟩
      refine ⟨1, rfl, len1, fun pl npl => ?_⟩
      have sl : Same Hb (upd Hb pl (.lst [.int 3])) := same_new (Same.refl Hb) npl
      have hpl : (upd Hb pl (.lst [.int 3])) pl = some (.lst [.int 3]) := upd_same
      generalize (upd Hb pl (.lst [.int 3])) = Hc at sl hpl ⊢
      refine ⟨10, 9, rfl, rfl, ⟨by decide, by decide, by decide⟩, (by decide : 8 ≤ sizeLine), fun B nB => ?_⟩
      have sB : Same Hc (upd Hc B (.lst [V.int 0, V.int 6, V.int (-1), V.non, V.bl true, V.str "3", V.ref pl, V.int (10 ^ (9 : Int).toNat)])) := same_new (Same.refl Hc) nB
      have hB : (upd Hc B (.lst [V.int 0, V.int 6, V.int (-1), V.non, V.bl true, V.str "3", V.ref pl, V.int (10 ^ (9 : Int).toNat)])) B = some (.lst [V.int 0, V.int 6, V.int (-1), V.non, V.bl true, V.str "3", V.ref pl, V.int (10 ^ (9 : Int).toNat)]) := upd_same
      have hpl2 := sB _ _ hpl
      have SB := sl.trans sB
      generalize (upd Hc B (.lst [V.int 0, V.int 6, V.int (-1), V.non, V.bl true, V.str "3", V.ref pl, V.int (10 ^ (9 : Int).toNat)])) = Hd at hB hpl2 SB ⊢
      refine ⟨_, rfl, B, rfl, ⟨_, SqL.of hB⟩, fun D nD => ?_⟩
      refine lc_list (K := K) (a := B) (xs := [V.int 0, V.int 6, V.int (-1), V.non, V.bl true, V.str "3", V.ref pl, V.int (10 ^ (9 : Int).toNat)]) (fun i H' => Same Hd H' ∧ H' D = some (.lst [])) ⟨same_new (Same.refl Hd) nD, upd_same⟩ (fun i H' _ z => SqL.of (z.1 _ _ hB)) ?_ ?_
      · rintro i v He hv ⟨se, hD⟩
        obtain ⟨d, ha, hb⟩ := bad_many (K := K) (H := He) (se _ _ hpl2) hv
        refine ⟨rfl, _, rfl, v, .int 5, d, .int 5, rfl, ha, .dp (.int 5), fun _ Hf sf => ?_, fun z => by rw [hb] at z; cases z⟩
        exact ⟨true, true, rfl, rfl, false, rfl, iteF ⟨se.trans sf, sf _ _ hD⟩⟩
      rintro He ⟨se, hD⟩
      refine ⟨Nat.zero_le _, fun p np => ?_⟩
      have sp2 := same_new (o := .lst []) (Same.refl He) np
      refine ⟨.list [], .list [], .lst (SqL.of (sp2 _ _ hD)) .nil, .lst (SqL.of upd_same) .nil, rfl, rfl, _, rfl, iteBF (by rfl) ?_⟩
      refine ⟨rfl, _, rfl, iteBF (by rfl) ?_⟩
      have W2 := Wb.same (SB.trans (se.trans sp2))
      generalize (upd He p (.lst [])) = Hg at W2 ⊢
      refine ⟨1, rfl, len1, fun pl2 npl2 => ?_⟩
      have sl2 : Same Hg (upd Hg pl2 (.lst [.int 3])) := same_new (Same.refl Hg) npl2
      have hq : (upd Hg pl2 (.lst [.int 3])) pl2 = some (.lst [.int 3]) := upd_same
      generalize (upd Hg pl2 (.lst [.int 3])) = Hh at sl2 hq ⊢
      refine ⟨(by decide : 7 ≤ sizeLine), fun B2 nB2 => ?_⟩
      have sB2 : Same Hh (upd Hh B2 (.lst [V.int 0, V.int 1001, V.int (-1), V.non, V.bl true, V.str "3", V.ref pl2])) := same_new (Same.refl Hh) nB2
      have hB2 : (upd Hh B2 (.lst [V.int 0, V.int 1001, V.int (-1), V.non, V.bl true, V.str "3", V.ref pl2])) B2 = some (.lst [V.int 0, V.int 1001, V.int (-1), V.non, V.bl true, V.str "3", V.ref pl2]) := upd_same
      have hq2 := sB2 _ _ hq
      have SB2 := sl2.trans sB2
      generalize (upd Hh B2 (.lst [V.int 0, V.int 1001, V.int (-1), V.non, V.bl true, V.str "3", V.ref pl2])) = Hi at hB2 hq2 SB2 ⊢
      refine ⟨_, rfl, B2, rfl, ⟨_, SqL.of hB2⟩, fun D2 nD2 => ?_⟩
      refine lc_list (K := K) (a := B2) (xs := [V.int 0, V.int 1001, V.int (-1), V.non, V.bl true, V.str "3", V.ref pl2]) (fun i H' => Same Hi H' ∧ H' D2 = some (.lst [])) ⟨same_new (Same.refl Hi) nD2, upd_same⟩ (fun i H' _ z => SqL.of (z.1 _ _ hB2)) ?_ ?_
      · rintro i v Hj hv ⟨sj, hD2⟩
        obtain ⟨d, ha, hb⟩ := bad_lease (K := K) (H := Hj) (sj _ _ hq2) hv
        refine ⟨rfl, _, rfl, .int 3, v, .int 3, d, rfl, .dp (.int 3), ha, fun _ Hk sk => ?_, fun z => by rw [hb, Bool.and_false] at z; cases z⟩
        exact ⟨true, true, rfl, rfl, false, rfl, iteF ⟨sj.trans sk, sk _ _ hD2⟩⟩
      rintro Hj ⟨sj, hD2⟩
      refine ⟨Nat.zero_le _, fun p2 np2 => ?_⟩
      have sp3 := same_new (o := .lst []) (Same.refl Hj) np2
      refine ⟨.list [], .list [], .lst (SqL.of (sp3 _ _ hD2)) .nil, .lst (SqL.of upd_same) .nil, rfl, rfl, _, rfl, iteBF (by rfl) ?_⟩
      have W3 := W2.same (SB2.trans (sj.trans sp3))
      generalize (upd Hj p2 (.lst [])) = Hl at W3 ⊢
      refine ⟨.int 5, .int 1000, .int 5, .int 1000, rfl, .dp (.int 5), .dp (.int 1000), fun z => absurd z (by decide), fun _ Hm sm2 => ?_⟩
      refine ⟨rfl, _, rfl, iteNDF rfl ?_⟩
      have W4 := W3.same sm2
      refine ⟨_, rfl, _, rfl, _, rfl, x, A', g', C, U, cs, rfl, W4.at_, W4.lo, W4.m, fun Hn sn2 => ⟨true, rfl, iteT ?_⟩⟩
      refine fun x2 dx2 nx2 ndx2 nex2 => ?_
      refine ⟨x2, dx2, 3, (a 46), 20, 1, 100, rfl, upd_same, by decide, by decide, by decide, by decide, ⟨T.k_DRIFT _, by decide, by decide, by decide, by decide⟩, fun A0 Hz fA2 eA2 F2 hg2 => ⟨rfl, ?_⟩⟩
      obtain ⟨dx3, hx3⟩ := hg2.at_
      refine ⟨x2, dx3, _, rfl, hx3, x2, A0, 1, 100, newG 3 20, rfl, hg2, 3, rfl, by decide, rfl, ?_⟩
      exact bl_of (Q := Q) rfl (q _)

theorem all_mk {l : PySem.W.OpenLaw} {w : World} {K : PySem.W.Frag} {h : Heap} {mg : Str → Option Value} {fa : Addr} {f0 f1 f2 f3 f4 f5 f6 f7 f8 f9 f10 f11 f12 f13 f14 f15 f16 f17 f18 f19 f20 f21 f22 f23 f24 f25 f26 f27 f28 f29 f30 f31 f32 f33 f34 f35 f36 f37 f38 f39 f40 f41 : Addr} (X : K.In h) (G : h.Ns mainGlobals mg) (hfa : mg "law" = some (.ref fa))
    {od0 od1 od2 od3 od4 od5 od6 od7 od8 od9 od10 od11 od12 od13 od14 od15 od16 od17 od18 od19 od20 od21 od22 od23 od24 od25 od26 od27 od28 od29 od30 od31 od32 od33 od34 od35 od36 od37 od38 od39 od40 od41 : Option Addr} {an0 an1 an2 an3 an4 an5 an6 an7 an8 an9 an10 an11 an12 an13 an14 an15 an16 an17 an18 an19 an20 an21 an22 an23 an24 an25 an26 an27 an28 an29 an30 an31 an32 an33 an34 an35 an36 an37 an38 an39 an40 an41 : Option Addr} {sl0 sl1 sl2 sl3 sl4 sl5 sl6 sl7 sl8 sl9 sl10 sl11 sl12 sl13 sl14 sl15 sl16 sl17 sl18 sl19 sl20 sl21 sl22 sl23 sl24 sl25 sl26 sl27 sl28 sl29 sl30 sl31 sl32 sl33 sl34 sl35 sl36 sl37 sl38 sl39 sl40 sl41 : Array (Option Value)} {oc0 kV0 dc0 pm0 cd0 ct0 oc1 kV1 dc1 pm1 cd1 ct1 oc2 kV2 dc2 pm2 cd2 ct2 oc3 kV3 dc3 pm3 cd3 ct3 oc4 kV4 dc4 pm4 cd4 ct4 oc5 kV5 dc5 pm5 cd5 ct5 oc6 kV6 dc6 pm6 cd6 ct6 oc7 kV7 dc7 pm7 cd7 ct7 oc8 kV8 dc8 pm8 cd8 ct8 oc9 kV9 dc9 pm9 cd9 ct9 oc10 kV10 dc10 pm10 cd10 ct10 oc11 kV11 dc11 pm11 cd11 ct11 oc12 kV12 dc12 pm12 cd12 ct12 oc13 kV13 dc13 pm13 cd13 ct13 oc14 kV14 dc14 pm14 cd14 ct14 oc15 kV15 dc15 pm15 cd15 ct15 oc16 kV16 dc16 pm16 cd16 ct16 oc17 kV17 dc17 pm17 cd17 ct17 oc18 kV18 dc18 pm18 cd18 ct18 oc19 kV19 dc19 pm19 cd19 ct19 oc20 kV20 dc20 pm20 cd20 ct20 oc21 kV21 dc21 pm21 cd21 ct21 oc22 dc22 pm22 cd22 ct22 oc23 kV23 dc23 pm23 cd23 ct23 oc24 kV24 dc24 pm24 cd24 ct24 oc25 kV25 dc25 pm25 cd25 ct25 oc26 kV26 dc26 pm26 cd26 ct26 oc27 kV27 dc27 pm27 cd27 ct27 oc28 kV28 dc28 pm28 cd28 ct28 oc29 kV29 dc29 pm29 cd29 ct29 oc30 kV30 dc30 pm30 cd30 ct30 oc31 kV31 dc31 pm31 cd31 ct31 oc32 kV32 dc32 pm32 cd32 ct32 oc33 kV33 dc33 pm33 cd33 ct33 oc34 kV34 dc34 pm34 cd34 ct34 oc35 kV35 dc35 pm35 cd35 ct35 oc36 kV36 dc36 pm36 cd36 ct36 oc37 kV37 dc37 pm37 cd37 ct37 oc38 kV38 dc38 pm38 cd38 ct38 oc39 kV39 dc39 pm39 cd39 ct39 oc40 kV40 dc40 pm40 cd40 ct40 oc41 kV41 dc41 pm41 cd41 ct41 : Value}
    {fC : Addr}
    {fC_Clock : Addr}
    {i153 : Addr} {i152 : Addr} {i151 : Addr} {i150 : Addr} {e100 : Addr} {e101 : Addr} {e102 : Addr} {e103 : Addr} {e104 : Addr} {nm100 q100 : Str} {N100 : Addr} {bs100 : List Value} {sn100 : List Str} {sub100 : List Value} {ab100 : Bool} {col100 : Option Bool} {dd100 : Option Addr} {x0100 x1100 x2100 x3100 x5100 : Option Value} {nm102 q102 : Str} {N102 : Addr} {bs102 : List Value} {sn102 : List Str} {sub102 : List Value} {ab102 : Bool} {col102 : Option Bool} {dd102 : Option Addr} {x0102 x1102 x2102 x3102 x5102 : Option Value} {nm103 q103 : Str} {N103 : Addr} {bs103 : List Value} {sn103 : List Str} {sub103 : List Value} {ab103 : Bool} {col103 : Option Bool} {dd103 : Option Addr} {x0103 x1103 x2103 x3103 x5103 : Option Value} {nm104 q104 : Str} {N104 : Addr} {bs104 : List Value} {sn104 : List Str} {sub104 : List Value} {ab104 : Bool} {col104 : Option Bool} {dd104 : Option Addr} {x0104 x1104 x2104 x3104 x5104 : Option Value} {oc150 kV150 dc150 pm150 cd150 ct150 : Value} {od150 an150 : Option Addr} {sl150 : Array (Option Value)} {oc151 kV151 dc151 pm151 cd151 ct151 : Value} {od151 an151 : Option Addr} {sl151 : Array (Option Value)} {oc152 kV152 dc152 pm152 cd152 ct152 : Value} {od152 an152 : Option Addr} {sl152 : Array (Option Value)} {T152 : Addr} {ocT152 : Value} {odT152 : Option Addr} {slT152 : Array (Option Value)} {nT152 : Nat} {tkT152 : Tok} {oc153 kV153 dc153 pm153 cd153 ct153 : Value} {od153 an153 : Option Addr} {sl153 : Array (Option Value)}
    {nC : Addr} {nmC qC : Str} {bsC : List Value} {hdC abC : Bool} {snC : List Str} {subC : List Value} {colC : Option Bool} {ddC : Option Addr} {y0 y1 y2 y3 y5 : Option Value} {newC : String} {ocN : Value} {odN : Option Addr} {esN : Array DictEntry} {epN : Nat} {slN : Array (Option Value)}
    {f44 : Addr} {od44 : Option Addr} {n44 : Nat} {sl44 : Array (Option Value)} {t44_0 t44_1 : Tok}
    {t45 : Tok}
    {f46 : Addr} {od46 : Option Addr} {n46 : Nat} {sl46 : Array (Option Value)} {t46_0 t46_1 : Tok}
    {t47 : Tok}
    {t48 : Tok}
    {t49 : Tok}
    {T16 : Addr} {odT16 : Option Addr} {ocT16 : Value} {nT16 : Nat} {slT16 : Array (Option Value)} {tT16_0 : Tok}
    {T21 : Addr} {odT21 : Option Addr} {ocT21 : Value} {nT21 : Nat} {slT21 : Array (Option Value)} 
    {T22 : Addr} {odT22 : Option Addr} {ocT22 : Value} {nT22 : Nat} {slT22 : Array (Option Value)} {tT22_0 : Tok}
    {T28 : Addr} {odT28 : Option Addr} {ocT28 : Value} {nT28 : Nat} {slT28 : Array (Option Value)} 
    {T31 : Addr} {odT31 : Option Addr} {ocT31 : Value} {nT31 : Nat} {slT31 : Array (Option Value)} {tT31_0 : Tok}
    (g44 : PySem.W.nsIn K mainGlobals "WHOLE" = some (some (.ref f44))) (l44 : K.lookup f44 = some ⟨.type "tuple", od44, .seq #[.int 1 t44_0, .int 1 t44_1] n44, sl44⟩)
    (g45 : PySem.W.nsIn K mainGlobals "MOST_BOTTOM" = some (some (.int (1000) t45)))
    (g46 : PySem.W.nsIn K mainGlobals "DRIFT" = some (some (.ref f46))) (l46 : K.lookup f46 = some ⟨.type "tuple", od46, .seq #[.int 1 t46_0, .int 100 t46_1] n46, sl46⟩)
    (g47 : PySem.W.nsIn K mainGlobals "LEASE" = some (some (.int (20) t47)))
    (g48 : PySem.W.nsIn K mainGlobals "LONGEST_LEASE" = some (some (.int (1000) t48)))
    (g49 : PySem.W.nsIn K mainGlobals "MOST_COPIES" = some (some (.int (5) t49)))
    (aC : PySem.W.nsIn K mainGlobals "Copies" = some (some (.ref fC))) (pg : PySem.W.plainGet K fC Str.empty = true) (hd : PySem.W.hasDictIn K fC = true) (po : PySem.W.plainOver K fC = true) (sa : PySem.W.findIn K (.ref fC) "__setattr__" = some (some (.builtin "object.__setattr__"))) (mk : PySem.W.makesIn K fC = true) (kc : PySem.W.keepIn K (.ref fC) = true)
    (nf_most_drift : PySem.W.findIn K (.ref fC) "most_drift" = some none)
    (nf_lease : PySem.W.findIn K (.ref fC) "lease" = some none)
    (nf_ups : PySem.W.findIn K (.ref fC) "ups" = some none)
    (nf_has : PySem.W.findIn K (.ref fC) "has" = some none)
    (nf_stands : PySem.W.findIn K (.ref fC) "stands" = some none)
    (nf_counts : PySem.W.findIn K (.ref fC) "counts" = some none)
    (nf_spans : PySem.W.findIn K (.ref fC) "spans" = some none)
    (nf_promises : PySem.W.findIn K (.ref fC) "promises" = some none)
    (nf_promised_in : PySem.W.findIn K (.ref fC) "promised_in" = some none)
    (nf_rules_till : PySem.W.findIn K (.ref fC) "rules_till" = some none)
    (nf_entries : PySem.W.findIn K (.ref fC) "entries" = some none)
    (nf_lent : PySem.W.findIn K (.ref fC) "lent" = some none)
    (nf_loose : PySem.W.findIn K (.ref fC) "loose" = some none)
    (nf_reigns : PySem.W.findIn K (.ref fC) "reigns" = some none)
    (nf_chosen : PySem.W.findIn K (.ref fC) "chosen" = some none)
    (aC_Clock : PySem.W.nsIn K mainGlobals "Clock" = some (some (.ref fC_Clock))) (pg_Clock : PySem.W.plainGet K fC_Clock Str.empty = true) (hd_Clock : PySem.W.hasDictIn K fC_Clock = true) (po_Clock : PySem.W.plainOver K fC_Clock = true) (sa_Clock : PySem.W.findIn K (.ref fC_Clock) "__setattr__" = some (some (.builtin "object.__setattr__"))) (mk_Clock : PySem.W.makesIn K fC_Clock = true) (kc_Clock : PySem.W.keepIn K (.ref fC_Clock) = true)
    (nf_Clock_most_drift : PySem.W.findIn K (.ref fC_Clock) "most_drift" = some none)
    (nf_Clock_stands : PySem.W.findIn K (.ref fC_Clock) "stands" = some none)
    (nf_Clock_counted : PySem.W.findIn K (.ref fC_Clock) "counted" = some none)
    (a0 : PySem.W.nsIn K mainGlobals "is_whole" = some (some (.ref f0)))
    (l0 : K.lookup f0 = some ⟨oc0, od0, .func (PySem.W.fnOf "is_whole" "is_whole" (defArgs s_is_whole) (defBody s_is_whole) (defScope s_is_whole) .none kV0 dc0 pm0 an0 cd0 ct0), sl0⟩) (c0 : PySem.W.codeIn K cd0 "is_whole" = true) (k0 : PySem.W.keepIn K (.ref f0) = true)
    (a1 : PySem.W.nsIn K mainGlobals "is_count" = some (some (.ref f1)))
    (l1 : K.lookup f1 = some ⟨oc1, od1, .func (PySem.W.fnOf "is_count" "is_count" (defArgs s_is_count) (defBody s_is_count) (defScope s_is_count) .none kV1 dc1 pm1 an1 cd1 ct1), sl1⟩) (c1 : PySem.W.codeIn K cd1 "is_count" = true) (k1 : PySem.W.keepIn K (.ref f1) = true)
    (a2 : PySem.W.nsIn K mainGlobals "is_from_to" = some (some (.ref f2)))
    (l2 : K.lookup f2 = some ⟨oc2, od2, .func (PySem.W.fnOf "is_from_to" "is_from_to" (defArgs s_is_from_to) (defBody s_is_from_to) (defScope s_is_from_to) .none kV2 dc2 pm2 an2 cd2 ct2), sl2⟩) (c2 : PySem.W.codeIn K cd2 "is_from_to" = true) (k2 : PySem.W.keepIn K (.ref f2) = true)
    (a3 : PySem.W.nsIn K mainGlobals "common_divisor" = some (some (.ref f3)))
    (l3 : K.lookup f3 = some ⟨oc3, od3, .func (PySem.W.fnOf "common_divisor" "common_divisor" (defArgs s_common_divisor) (defBody s_common_divisor) (defScope s_common_divisor) .none kV3 dc3 pm3 an3 cd3 ct3), sl3⟩) (c3 : PySem.W.codeIn K cd3 "common_divisor" = true) (k3 : PySem.W.keepIn K (.ref f3) = true)
    (a4 : PySem.W.nsIn K mainGlobals "is_share" = some (some (.ref f4)))
    (l4 : K.lookup f4 = some ⟨oc4, od4, .func (PySem.W.fnOf "is_share" "is_share" (defArgs s_is_share) (defBody s_is_share) (defScope s_is_share) .none kV4 dc4 pm4 an4 cd4 ct4), sl4⟩) (c4 : PySem.W.codeIn K cd4 "is_share" = true) (k4 : PySem.W.keepIn K (.ref f4) = true)
    (a5 : PySem.W.nsIn K mainGlobals "is_drift" = some (some (.ref f5)))
    (l5 : K.lookup f5 = some ⟨oc5, od5, .func (PySem.W.fnOf "is_drift" "is_drift" (defArgs s_is_drift) (defBody s_is_drift) (defScope s_is_drift) .none kV5 dc5 pm5 an5 cd5 ct5), sl5⟩) (c5 : PySem.W.codeIn K cd5 "is_drift" = true) (k5 : PySem.W.keepIn K (.ref f5) = true)
    (a6 : PySem.W.nsIn K mainGlobals "refuse_no_count" = some (some (.ref f6)))
    (l6 : K.lookup f6 = some ⟨oc6, od6, .func (PySem.W.fnOf "refuse_no_count" "refuse_no_count" (defArgs s_refuse_no_count) (defBody s_refuse_no_count) (defScope s_refuse_no_count) .none kV6 dc6 pm6 an6 cd6 ct6), sl6⟩) (c6 : PySem.W.codeIn K cd6 "refuse_no_count" = true) (k6 : PySem.W.keepIn K (.ref f6) = true)
    (a7 : PySem.W.nsIn K mainGlobals "least_of" = some (some (.ref f7)))
    (l7 : K.lookup f7 = some ⟨oc7, od7, .func (PySem.W.fnOf "least_of" "least_of" (defArgs s_least_of) (defBody s_least_of) (defScope s_least_of) .none kV7 dc7 pm7 an7 cd7 ct7), sl7⟩) (c7 : PySem.W.codeIn K cd7 "least_of" = true) (k7 : PySem.W.keepIn K (.ref f7) = true)
    (a8 : PySem.W.nsIn K mainGlobals "most_of" = some (some (.ref f8)))
    (l8 : K.lookup f8 = some ⟨oc8, od8, .func (PySem.W.fnOf "most_of" "most_of" (defArgs s_most_of) (defBody s_most_of) (defScope s_most_of) .none kV8 dc8 pm8 an8 cd8 ct8), sl8⟩) (c8 : PySem.W.codeIn K cd8 "most_of" = true) (k8 : PySem.W.keepIn K (.ref f8) = true)
    (a9 : PySem.W.nsIn K mainGlobals "bounds_behind" = some (some (.ref f9)))
    (l9 : K.lookup f9 = some ⟨oc9, od9, .func (PySem.W.fnOf "bounds_behind" "bounds_behind" (defArgs s_bounds_behind) (defBody s_bounds_behind) (defScope s_bounds_behind) .none kV9 dc9 pm9 an9 cd9 ct9), sl9⟩) (c9 : PySem.W.codeIn K cd9 "bounds_behind" = true) (k9 : PySem.W.keepIn K (.ref f9) = true)
    (a10 : PySem.W.nsIn K mainGlobals "set_between" = some (some (.ref f10)))
    (l10 : K.lookup f10 = some ⟨oc10, od10, .func (PySem.W.fnOf "set_between" "set_between" (defArgs s_set_between) (defBody s_set_between) (defScope s_set_between) .none kV10 dc10 pm10 an10 cd10 ct10), sl10⟩) (c10 : PySem.W.codeIn K cd10 "set_between" = true) (k10 : PySem.W.keepIn K (.ref f10) = true)
    (a11 : PySem.W.nsIn K mainGlobals "changed_at" = some (some (.ref f11)))
    (l11 : K.lookup f11 = some ⟨oc11, od11, .func (PySem.W.fnOf "changed_at" "changed_at" (defArgs s_changed_at) (defBody s_changed_at) (defScope s_changed_at) .none kV11 dc11 pm11 an11 cd11 ct11), sl11⟩) (c11 : PySem.W.codeIn K cd11 "changed_at" = true) (k11 : PySem.W.keepIn K (.ref f11) = true)
    (a12 : PySem.W.findIn K (.ref fC) "refuse_no_copy" = some (some (.ref f12))) (i12 : PySem.W.isFn K (.ref f12) = true)
    (l12 : K.lookup f12 = some ⟨oc12, od12, .func (PySem.W.fnOf "refuse_no_copy" "Copies.refuse_no_copy" (defArgs s_Copies_refuse_no_copy) (defBody s_Copies_refuse_no_copy) (defScope s_Copies_refuse_no_copy) .none kV12 dc12 pm12 an12 cd12 ct12), sl12⟩) (c12 : PySem.W.codeIn K cd12 "Copies.refuse_no_copy" = true) (k12 : PySem.W.keepIn K (.ref f12) = true)
    (a13 : PySem.W.findIn K (.ref fC) "back" = some (some (.ref f13))) (i13 : PySem.W.isFn K (.ref f13) = true)
    (l13 : K.lookup f13 = some ⟨oc13, od13, .func (PySem.W.fnOf "back" "Copies.back" (defArgs s_Copies_back) (defBody s_Copies_back) (defScope s_Copies_back) .none kV13 dc13 pm13 an13 cd13 ct13), sl13⟩) (c13 : PySem.W.codeIn K cd13 "Copies.back" = true) (k13 : PySem.W.keepIn K (.ref f13) = true)
    (a14 : PySem.W.findIn K (.ref fC) "stop" = some (some (.ref f14))) (i14 : PySem.W.isFn K (.ref f14) = true)
    (l14 : K.lookup f14 = some ⟨oc14, od14, .func (PySem.W.fnOf "stop" "Copies.stop" (defArgs s_Copies_stop) (defBody s_Copies_stop) (defScope s_Copies_stop) .none kV14 dc14 pm14 an14 cd14 ct14), sl14⟩) (c14 : PySem.W.codeIn K cd14 "Copies.stop" = true) (k14 : PySem.W.keepIn K (.ref f14) = true)
    (a15 : PySem.W.findIn K (.ref fC) "tell_bounds" = some (some (.ref f15))) (i15 : PySem.W.isFn K (.ref f15) = true)
    (l15 : K.lookup f15 = some ⟨oc15, od15, .func (PySem.W.fnOf "tell_bounds" "Copies.tell_bounds" (defArgs s_Copies_tell_bounds) (defBody s_Copies_tell_bounds) (defScope s_Copies_tell_bounds) .none kV15 dc15 pm15 an15 cd15 ct15), sl15⟩) (c15 : PySem.W.codeIn K cd15 "Copies.tell_bounds" = true) (k15 : PySem.W.keepIn K (.ref f15) = true)
    (a16 : PySem.W.findIn K (.ref fC) "tick_clock" = some (some (.ref f16))) (i16 : PySem.W.isFn K (.ref f16) = true)
    (l16 : K.lookup f16 = some ⟨oc16, od16, .func (PySem.W.fnOf "tick_clock" "Copies.tick_clock" (defArgs s_Copies_tick_clock) (defBody s_Copies_tick_clock) (defScope s_Copies_tick_clock) (.ref T16) kV16 dc16 pm16 an16 cd16 ct16), sl16⟩) (c16 : PySem.W.codeIn K cd16 "Copies.tick_clock" = true) (k16 : PySem.W.keepIn K (.ref f16) = true)
    (lT16 : K.lookup T16 = some ⟨ocT16, odT16, .seq #[.int 1 tT16_0] nT16, slT16⟩)
    (a17 : PySem.W.findIn K (.ref fC) "__len__" = some (some (.ref f17))) (i17 : PySem.W.isFn K (.ref f17) = true)
    (l17 : K.lookup f17 = some ⟨oc17, od17, .func (PySem.W.fnOf "__len__" "Copies.__len__" (defArgs s_Copies___len__) (defBody s_Copies___len__) (defScope s_Copies___len__) .none kV17 dc17 pm17 an17 cd17 ct17), sl17⟩) (c17 : PySem.W.codeIn K cd17 "Copies.__len__" = true) (k17 : PySem.W.keepIn K (.ref f17) = true)
    (a18 : PySem.W.findIn K (.ref fC) "set_clock" = some (some (.ref f18))) (i18 : PySem.W.isFn K (.ref f18) = true)
    (l18 : K.lookup f18 = some ⟨oc18, od18, .func (PySem.W.fnOf "set_clock" "Copies.set_clock" (defArgs s_Copies_set_clock) (defBody s_Copies_set_clock) (defScope s_Copies_set_clock) .none kV18 dc18 pm18 an18 cd18 ct18), sl18⟩) (c18 : PySem.W.codeIn K cd18 "Copies.set_clock" = true) (k18 : PySem.W.keepIn K (.ref f18) = true)
    (a19 : PySem.W.findIn K (.ref fC) "choose" = some (some (.ref f19))) (i19 : PySem.W.isFn K (.ref f19) = true)
    (l19 : K.lookup f19 = some ⟨oc19, od19, .func (PySem.W.fnOf "choose" "Copies.choose" (defArgs s_Copies_choose) (defBody s_Copies_choose) (defScope s_Copies_choose) .none kV19 dc19 pm19 an19 cd19 ct19), sl19⟩) (c19 : PySem.W.codeIn K cd19 "Copies.choose" = true) (k19 : PySem.W.keepIn K (.ref f19) = true)
    (a20 : PySem.W.findIn K (.ref fC) "catch_up" = some (some (.ref f20))) (i20 : PySem.W.isFn K (.ref f20) = true)
    (l20 : K.lookup f20 = some ⟨oc20, od20, .func (PySem.W.fnOf "catch_up" "Copies.catch_up" (defArgs s_Copies_catch_up) (defBody s_Copies_catch_up) (defScope s_Copies_catch_up) .none kV20 dc20 pm20 an20 cd20 ct20), sl20⟩) (c20 : PySem.W.codeIn K cd20 "Copies.catch_up" = true) (k20 : PySem.W.keepIn K (.ref f20) = true)
    (a21 : PySem.W.findIn K (.ref fC) "book" = some (some (.ref f21))) (i21 : PySem.W.isFn K (.ref f21) = true)
    (l21 : K.lookup f21 = some ⟨oc21, od21, .func (PySem.W.fnOf "book" "Copies.book" (defArgs s_Copies_book) (defBody s_Copies_book) (defScope s_Copies_book) (.ref T21) kV21 dc21 pm21 an21 cd21 ct21), sl21⟩) (c21 : PySem.W.codeIn K cd21 "Copies.book" = true) (k21 : PySem.W.keepIn K (.ref f21) = true)
    (lT21 : K.lookup T21 = some ⟨ocT21, odT21, .seq #[.none] nT21, slT21⟩)
    (a22 : PySem.W.findIn K (.ref fC) "__init__" = some (some (.ref f22))) (i22 : PySem.W.isFn K (.ref f22) = true)
    {DK22 : Addr} {tK22_1 : Tok}
    (l22 : K.lookup f22 = some ⟨oc22, od22, .func (PySem.W.fnOf "__init__" "Copies.__init__" (defArgs s_Copies___init__) (defBody s_Copies___init__) (defScope s_Copies___init__) (.ref T22) (.ref DK22) dc22 pm22 an22 cd22 ct22), sl22⟩) (c22 : PySem.W.codeIn K cd22 "Copies.__init__" = true) (k22 : PySem.W.keepIn K (.ref f22) = true)
    (lK22_drift : PySem.W.nsIn K DK22 "drift" = some (some (.ref f46)))
    (lK22_lease : PySem.W.nsIn K DK22 "lease" = some (some (.int 20 tK22_1)))
    (lT22 : K.lookup T22 = some ⟨ocT22, odT22, .seq #[.int 3 tT22_0] nT22, slT22⟩)
    (a23 : PySem.W.findIn K (.ref fC) "is_up" = some (some (.ref f23))) (i23 : PySem.W.isFn K (.ref f23) = true)
    (l23 : K.lookup f23 = some ⟨oc23, od23, .func (PySem.W.fnOf "is_up" "Copies.is_up" (defArgs s_Copies_is_up) (defBody s_Copies_is_up) (defScope s_Copies_is_up) .none kV23 dc23 pm23 an23 cd23 ct23), sl23⟩) (c23 : PySem.W.codeIn K cd23 "Copies.is_up" = true) (k23 : PySem.W.keepIn K (.ref f23) = true)
    (a24 : PySem.W.findIn K (.ref fC) "clock" = some (some (.ref f24))) (i24 : PySem.W.isFn K (.ref f24) = true)
    (l24 : K.lookup f24 = some ⟨oc24, od24, .func (PySem.W.fnOf "clock" "Copies.clock" (defArgs s_Copies_clock) (defBody s_Copies_clock) (defScope s_Copies_clock) .none kV24 dc24 pm24 an24 cd24 ct24), sl24⟩) (c24 : PySem.W.codeIn K cd24 "Copies.clock" = true) (k24 : PySem.W.keepIn K (.ref f24) = true)
    (a25 : PySem.W.findIn K (.ref fC) "parts" = some (some (.ref f25))) (i25 : PySem.W.isFn K (.ref f25) = true)
    (l25 : K.lookup f25 = some ⟨oc25, od25, .func (PySem.W.fnOf "parts" "Copies.parts" (defArgs s_Copies_parts) (defBody s_Copies_parts) (defScope s_Copies_parts) .none kV25 dc25 pm25 an25 cd25 ct25), sl25⟩) (c25 : PySem.W.codeIn K cd25 "Copies.parts" = true) (k25 : PySem.W.keepIn K (.ref f25) = true)
    (a26 : PySem.W.findIn K (.ref fC) "put_parts" = some (some (.ref f26))) (i26 : PySem.W.isFn K (.ref f26) = true)
    (l26 : K.lookup f26 = some ⟨oc26, od26, .func (PySem.W.fnOf "put_parts" "Copies.put_parts" (defArgs s_Copies_put_parts) (defBody s_Copies_put_parts) (defScope s_Copies_put_parts) .none kV26 dc26 pm26 an26 cd26 ct26), sl26⟩) (c26 : PySem.W.codeIn K cd26 "Copies.put_parts" = true) (k26 : PySem.W.keepIn K (.ref f26) = true)
    (a27 : PySem.W.findIn K (.ref fC) "twin" = some (some (.ref f27))) (i27 : PySem.W.isFn K (.ref f27) = true)
    (l27 : K.lookup f27 = some ⟨oc27, od27, .func (PySem.W.fnOf "twin" "Copies.twin" (defArgs s_Copies_twin) (defBody s_Copies_twin) (defScope s_Copies_twin) .none kV27 dc27 pm27 an27 cd27 ct27), sl27⟩) (c27 : PySem.W.codeIn K cd27 "Copies.twin" = true) (k27 : PySem.W.keepIn K (.ref f27) = true)
    (a28 : PySem.W.findIn K (.ref fC_Clock) "__init__" = some (some (.ref f28))) (i28 : PySem.W.isFn K (.ref f28) = true)
    (l28 : K.lookup f28 = some ⟨oc28, od28, .func (PySem.W.fnOf "__init__" "Clock.__init__" (defArgs s_Clock___init__) (defBody s_Clock___init__) (defScope s_Clock___init__) (.ref T28) kV28 dc28 pm28 an28 cd28 ct28), sl28⟩) (c28 : PySem.W.codeIn K cd28 "Clock.__init__" = true) (k28 : PySem.W.keepIn K (.ref f28) = true)
    (lT28 : K.lookup T28 = some ⟨ocT28, odT28, .seq #[.ref f46] nT28, slT28⟩)
    (a29 : PySem.W.findIn K (.ref fC_Clock) "is_set" = some (some (.ref f29))) (i29 : PySem.W.isFn K (.ref f29) = true)
    (l29 : K.lookup f29 = some ⟨oc29, od29, .func (PySem.W.fnOf "is_set" "Clock.is_set" (defArgs s_Clock_is_set) (defBody s_Clock_is_set) (defScope s_Clock_is_set) .none kV29 dc29 pm29 an29 cd29 ct29), sl29⟩) (c29 : PySem.W.codeIn K cd29 "Clock.is_set" = true) (k29 : PySem.W.keepIn K (.ref f29) = true)
    (a30 : PySem.W.findIn K (.ref fC_Clock) "set_to" = some (some (.ref f30))) (i30 : PySem.W.isFn K (.ref f30) = true)
    (l30 : K.lookup f30 = some ⟨oc30, od30, .func (PySem.W.fnOf "set_to" "Clock.set_to" (defArgs s_Clock_set_to) (defBody s_Clock_set_to) (defScope s_Clock_set_to) .none kV30 dc30 pm30 an30 cd30 ct30), sl30⟩) (c30 : PySem.W.codeIn K cd30 "Clock.set_to" = true) (k30 : PySem.W.keepIn K (.ref f30) = true)
    (a31 : PySem.W.findIn K (.ref fC_Clock) "tick" = some (some (.ref f31))) (i31 : PySem.W.isFn K (.ref f31) = true)
    (l31 : K.lookup f31 = some ⟨oc31, od31, .func (PySem.W.fnOf "tick" "Clock.tick" (defArgs s_Clock_tick) (defBody s_Clock_tick) (defScope s_Clock_tick) (.ref T31) kV31 dc31 pm31 an31 cd31 ct31), sl31⟩) (c31 : PySem.W.codeIn K cd31 "Clock.tick" = true) (k31 : PySem.W.keepIn K (.ref f31) = true)
    (lT31 : K.lookup T31 = some ⟨ocT31, odT31, .seq #[.int 1 tT31_0] nT31, slT31⟩)
    (a32 : PySem.W.findIn K (.ref fC_Clock) "bounds" = some (some (.ref f32))) (i32 : PySem.W.isFn K (.ref f32) = true)
    (l32 : K.lookup f32 = some ⟨oc32, od32, .func (PySem.W.fnOf "bounds" "Clock.bounds" (defArgs s_Clock_bounds) (defBody s_Clock_bounds) (defScope s_Clock_bounds) .none kV32 dc32 pm32 an32 cd32 ct32), sl32⟩) (c32 : PySem.W.codeIn K cd32 "Clock.bounds" = true) (k32 : PySem.W.keepIn K (.ref f32) = true)
    (a33 : PySem.W.findIn K (.ref fC_Clock) "__eq__" = some (some (.ref f33))) (i33 : PySem.W.isFn K (.ref f33) = true)
    (l33 : K.lookup f33 = some ⟨oc33, od33, .func (PySem.W.fnOf "__eq__" "Clock.__eq__" (defArgs s_Clock___eq__) (defBody s_Clock___eq__) (defScope s_Clock___eq__) .none kV33 dc33 pm33 an33 cd33 ct33), sl33⟩) (c33 : PySem.W.codeIn K cd33 "Clock.__eq__" = true) (k33 : PySem.W.keepIn K (.ref f33) = true)
    (a34 : PySem.W.nsIn K mainGlobals "_law_begun" = some (some (.ref f34)))
    (l34 : K.lookup f34 = some ⟨oc34, od34, .func (PySem.W.fnOf "_law_begun" "_law_begun" (defArgs s_l_begun) (defBody s_l_begun) (defScope s_l_begun) .none kV34 dc34 pm34 an34 cd34 ct34), sl34⟩) (c34 : PySem.W.codeIn K cd34 "_law_begun" = true) (k34 : PySem.W.keepIn K (.ref f34) = true)
    (a35 : PySem.W.nsIn K mainGlobals "_law_take" = some (some (.ref f35)))
    (l35 : K.lookup f35 = some ⟨oc35, od35, .func (PySem.W.fnOf "_law_take" "_law_take" (defArgs s_l_take) (defBody s_l_take) (defScope s_l_take) .none kV35 dc35 pm35 an35 cd35 ct35), sl35⟩) (c35 : PySem.W.codeIn K cd35 "_law_take" = true) (k35 : PySem.W.keepIn K (.ref f35) = true)
    (a36 : PySem.W.nsIn K mainGlobals "_law_said" = some (some (.ref f36)))
    (l36 : K.lookup f36 = some ⟨oc36, od36, .func (PySem.W.fnOf "_law_said" "_law_said" (defArgs s_l_said) (defBody s_l_said) (defScope s_l_said) .none kV36 dc36 pm36 an36 cd36 ct36), sl36⟩) (c36 : PySem.W.codeIn K cd36 "_law_said" = true) (k36 : PySem.W.keepIn K (.ref f36) = true)
    (a37 : PySem.W.nsIn K mainGlobals "_law_made" = some (some (.ref f37)))
    (l37 : K.lookup f37 = some ⟨oc37, od37, .func (PySem.W.fnOf "_law_made" "_law_made" (defArgs s_l_made) (defBody s_l_made) (defScope s_l_made) .none kV37 dc37 pm37 an37 cd37 ct37), sl37⟩) (c37 : PySem.W.codeIn K cd37 "_law_made" = true) (k37 : PySem.W.keepIn K (.ref f37) = true)
    (a38 : PySem.W.nsIn K mainGlobals "_law_stands" = some (some (.ref f38)))
    (l38 : K.lookup f38 = some ⟨oc38, od38, .func (PySem.W.fnOf "_law_stands" "_law_stands" (defArgs s_l_stands) (defBody s_l_stands) (defScope s_l_stands) .none kV38 dc38 pm38 an38 cd38 ct38), sl38⟩) (c38 : PySem.W.codeIn K cd38 "_law_stands" = true) (k38 : PySem.W.keepIn K (.ref f38) = true)
    (a39 : PySem.W.nsIn K mainGlobals "_law_refuses" = some (some (.ref f39)))
    (l39 : K.lookup f39 = some ⟨oc39, od39, .func (PySem.W.fnOf "_law_refuses" "_law_refuses" (defArgs s_l_refuses) (defBody s_l_refuses) (defScope s_l_refuses) .none kV39 dc39 pm39 an39 cd39 ct39), sl39⟩) (c39 : PySem.W.codeIn K cd39 "_law_refuses" = true) (k39 : PySem.W.keepIn K (.ref f39) = true)
    (a40 : PySem.W.nsIn K mainGlobals "_law_due" = some (some (.ref f40)))
    (l40 : K.lookup f40 = some ⟨oc40, od40, .func (PySem.W.fnOf "_law_due" "_law_due" (defArgs s_l_due) (defBody s_l_due) (defScope s_l_due) .none kV40 dc40 pm40 an40 cd40 ct40), sl40⟩) (c40 : PySem.W.codeIn K cd40 "_law_due" = true) (k40 : PySem.W.keepIn K (.ref f40) = true)
    (a41 : PySem.W.nsIn K mainGlobals "law" = some (some (.ref f41)))
    (l41 : K.lookup f41 = some ⟨oc41, od41, .func (PySem.W.fnOf "law" "law" (defArgs s_law) (defBody s_law) (defScope s_law) .none kV41 dc41 pm41 an41 cd41 ct41), sl41⟩) (c41 : PySem.W.codeIn K cd41 "law" = true) (k41 : PySem.W.keepIn K (.ref f41) = true)
    (z_max : PySem.W.nsIn K mainGlobals "max" = some none)
    (z_min : PySem.W.nsIn K mainGlobals "min" = some none)
    (z_len : PySem.W.nsIn K mainGlobals "len" = some none)
    (z_int : PySem.W.nsIn K mainGlobals "int" = some none)
    (z_range : PySem.W.nsIn K mainGlobals "range" = some none)
    (z_isinstance : PySem.W.nsIn K mainGlobals "isinstance" = some none)
    (z_bool : PySem.W.nsIn K mainGlobals "bool" = some none)
    (z_tuple : PySem.W.nsIn K mainGlobals "tuple" = some none)
    (z_list : PySem.W.nsIn K mainGlobals "list" = some none)
    (z_repr : PySem.W.nsIn K mainGlobals "repr" = some none)
    (z_IndexError : PySem.W.nsIn K mainGlobals "IndexError" = some none)
    (z_ValueError : PySem.W.nsIn K mainGlobals "ValueError" = some none)
    (aE100 : PySem.W.nsIn K mainGlobals "NoCopy" = some (some (.ref e100)))
    (aE101 : PySem.W.nsIn K mainGlobals "WaitError" = some (some (.ref e101)))
    (aE102 : PySem.W.nsIn K mainGlobals "NoBounds" = some (some (.ref e102)))
    (aE103 : PySem.W.nsIn K mainGlobals "NoNumber" = some (some (.ref e103)))
    (aE104 : PySem.W.nsIn K mainGlobals "NoHead" = some (some (.ref e104)))
    (tb100 : PySem.W.subIn K (.ref e100) (.type "BaseException") = some true)
    (tc100 : PySem.W.isClsIn K e100 = true)
    (tt100 : PySem.W.typeIn K (.ref e100) = some (.type "type"))
    (ts100 : PySem.W.subIn K (.ref e100) (.ref e100) = some true)
    (tb102 : PySem.W.subIn K (.ref e102) (.type "BaseException") = some true)
    (tc102 : PySem.W.isClsIn K e102 = true)
    (tt102 : PySem.W.typeIn K (.ref e102) = some (.type "type"))
    (ts102 : PySem.W.subIn K (.ref e102) (.ref e102) = some true)
    (tb103 : PySem.W.subIn K (.ref e103) (.type "BaseException") = some true)
    (tc103 : PySem.W.isClsIn K e103 = true)
    (tt103 : PySem.W.typeIn K (.ref e103) = some (.type "type"))
    (ts103 : PySem.W.subIn K (.ref e103) (.ref e103) = some true)
    (j2 : PySem.W.specialIn K (.builtin "object.__class__") "__get__" = some (some (.builtin "getset_descriptor.__get__")))
    (j3 : PySem.W.takesIn K (.builtin "object.__class__") = some true)
    (x100 : K.lookup e100 = some (excClassObj nm100 q100 e100 N100 bs100 [.type "IndexError", .type "LookupError", .type "Exception", .type "BaseException", .type "object"] true sn100 sub100 ab100 col100 dd100 x0100 x1100 x2100 x3100 x5100 "IndexError.__new__"))
    (sa100 : PySem.W.findIn K (.ref e100) "__setattr__" = some (some (.builtin "object.__setattr__")))
    (xb100 : PySem.W.subIn K (.ref e100) (.type "BaseException") = some true)
    (ty100 : PySem.W.typeIn K (.ref e100) = some (.type "type"))
    (kp100 : PySem.W.keepIn K (.ref e100) = true)
    (in100 : PySem.W.findIn K (.ref e100) "__init__" = some (some (.ref i150)))
    (ga100 : PySem.W.findIn K (.ref e100) "__getattribute__" = some (some (.builtin "BaseException.__getattribute__")))
    (gg100 : PySem.W.findIn K (.ref e100) "__getattr__" = some none)
    (hd100 : PySem.W.hasDictIn K e100 = true)
    (jc100 : PySem.W.findIn K (.ref e100) "__class__" = some (some (.builtin "object.__class__")))
    (jm100 : PySem.W.mroIn K e100 (.type "object") = some true)
    (n0_100 : PySem.W.findIn K (.ref e100) "copy" = some none)
    (x102 : K.lookup e102 = some (excClassObj nm102 q102 e102 N102 bs102 [.ref e101, .type "ValueError", .type "Exception", .type "BaseException", .type "object"] true sn102 sub102 ab102 col102 dd102 x0102 x1102 x2102 x3102 x5102 "ValueError.__new__"))
    (sa102 : PySem.W.findIn K (.ref e102) "__setattr__" = some (some (.builtin "object.__setattr__")))
    (xb102 : PySem.W.subIn K (.ref e102) (.type "BaseException") = some true)
    (ty102 : PySem.W.typeIn K (.ref e102) = some (.type "type"))
    (kp102 : PySem.W.keepIn K (.ref e102) = true)
    (in102 : PySem.W.findIn K (.ref e102) "__init__" = some (some (.ref i151)))
    (ga102 : PySem.W.findIn K (.ref e102) "__getattribute__" = some (some (.builtin "BaseException.__getattribute__")))
    (gg102 : PySem.W.findIn K (.ref e102) "__getattr__" = some none)
    (hd102 : PySem.W.hasDictIn K e102 = true)
    (jc102 : PySem.W.findIn K (.ref e102) "__class__" = some (some (.builtin "object.__class__")))
    (jm102 : PySem.W.mroIn K e102 (.type "object") = some true)
    (n0_102 : PySem.W.findIn K (.ref e102) "low" = some none)
    (n1_102 : PySem.W.findIn K (.ref e102) "high" = some none)
    (x103 : K.lookup e103 = some (excClassObj nm103 q103 e103 N103 bs103 [.ref e101, .type "ValueError", .type "Exception", .type "BaseException", .type "object"] true sn103 sub103 ab103 col103 dd103 x0103 x1103 x2103 x3103 x5103 "ValueError.__new__"))
    (sa103 : PySem.W.findIn K (.ref e103) "__setattr__" = some (some (.builtin "object.__setattr__")))
    (xb103 : PySem.W.subIn K (.ref e103) (.type "BaseException") = some true)
    (ty103 : PySem.W.typeIn K (.ref e103) = some (.type "type"))
    (kp103 : PySem.W.keepIn K (.ref e103) = true)
    (in103 : PySem.W.findIn K (.ref e103) "__init__" = some (some (.ref i152)))
    (ga103 : PySem.W.findIn K (.ref e103) "__getattribute__" = some (some (.builtin "BaseException.__getattribute__")))
    (gg103 : PySem.W.findIn K (.ref e103) "__getattr__" = some none)
    (hd103 : PySem.W.hasDictIn K e103 = true)
    (jc103 : PySem.W.findIn K (.ref e103) "__class__" = some (some (.builtin "object.__class__")))
    (jm103 : PySem.W.mroIn K e103 (.type "object") = some true)
    (n0_103 : PySem.W.findIn K (.ref e103) "text" = some none)
    (x104 : K.lookup e104 = some (excClassObj nm104 q104 e104 N104 bs104 [.type "RuntimeError", .type "Exception", .type "BaseException", .type "object"] true sn104 sub104 ab104 col104 dd104 x0104 x1104 x2104 x3104 x5104 "RuntimeError.__new__"))
    (sa104 : PySem.W.findIn K (.ref e104) "__setattr__" = some (some (.builtin "object.__setattr__")))
    (xb104 : PySem.W.subIn K (.ref e104) (.type "BaseException") = some true)
    (ty104 : PySem.W.typeIn K (.ref e104) = some (.type "type"))
    (kp104 : PySem.W.keepIn K (.ref e104) = true)
    (in104 : PySem.W.findIn K (.ref e104) "__init__" = some (some (.ref i153)))
    (ga104 : PySem.W.findIn K (.ref e104) "__getattribute__" = some (some (.builtin "BaseException.__getattribute__")))
    (gg104 : PySem.W.findIn K (.ref e104) "__getattr__" = some none)
    (hd104 : PySem.W.hasDictIn K e104 = true)
    (jc104 : PySem.W.findIn K (.ref e104) "__class__" = some (some (.builtin "object.__class__")))
    (jm104 : PySem.W.mroIn K e104 (.type "object") = some true)
    (n0_104 : PySem.W.findIn K (.ref e104) "house" = some none)
    (ti150 : PySem.W.typeIn K (.ref i150) = some (.type "function"))
    (li150 : K.lookup i150 = some ⟨oc150, od150, .func (PySem.W.fnOf "__init__" "NoCopy.__init__" (defArgs s_INoCopy) (defBody s_INoCopy) (defScope s_INoCopy) .none kV150 dc150 pm150 an150 cd150 ct150), sl150⟩)
    (cc150 : PySem.W.codeIn K cd150 "NoCopy.__init__" = true)
    (kk150 : PySem.W.keepIn K (.ref i150) = true)
    (ti151 : PySem.W.typeIn K (.ref i151) = some (.type "function"))
    (li151 : K.lookup i151 = some ⟨oc151, od151, .func (PySem.W.fnOf "__init__" "NoBounds.__init__" (defArgs s_INoBounds) (defBody s_INoBounds) (defScope s_INoBounds) .none kV151 dc151 pm151 an151 cd151 ct151), sl151⟩)
    (cc151 : PySem.W.codeIn K cd151 "NoBounds.__init__" = true)
    (kk151 : PySem.W.keepIn K (.ref i151) = true)
    (ti152 : PySem.W.typeIn K (.ref i152) = some (.type "function"))
    (li152 : K.lookup i152 = some ⟨oc152, od152, .func (PySem.W.fnOf "__init__" "WaitError.__init__" (defArgs s_IWaitError) (defBody s_IWaitError) (defScope s_IWaitError) (.ref T152) kV152 dc152 pm152 an152 cd152 ct152), sl152⟩)
    (cc152 : PySem.W.codeIn K cd152 "WaitError.__init__" = true)
    (kk152 : PySem.W.keepIn K (.ref i152) = true)
    (lT152 : K.lookup T152 = some ⟨ocT152, odT152, .seq #[.str "" tkT152] nT152, slT152⟩)
    (ti153 : PySem.W.typeIn K (.ref i153) = some (.type "function"))
    (li153 : K.lookup i153 = some ⟨oc153, od153, .func (PySem.W.fnOf "__init__" "NoHead.__init__" (defArgs s_INoHead) (defBody s_INoHead) (defScope s_INoHead) .none kV153 dc153 pm153 an153 cd153 ct153), sl153⟩)
    (cc153 : PySem.W.codeIn K cd153 "NoHead.__init__" = true)
    (kk153 : PySem.W.keepIn K (.ref i153) = true)
    (su0 : PySem.W.subIn K (.ref e100) (.ref e100) = some true)
    (su1 : PySem.W.subIn K (.ref e102) (.ref e100) = some false)
    (su2 : PySem.W.subIn K (.ref e102) (.ref e102) = some true)
    (su3 : PySem.W.subIn K (.ref e103) (.ref e100) = some false)
    (su4 : PySem.W.subIn K (.ref e103) (.ref e102) = some false)
    (su5 : PySem.W.subIn K (.ref e103) (.ref e103) = some true)
    (su6 : PySem.W.subIn K (.ref e100) (.type "IndexError") = some true)
    (su7 : PySem.W.subIn K (.ref e103) (.type "ValueError") = some true)
    (xC : K.lookup fC_Clock = some (excClassObj nmC qC fC_Clock nC bsC [.type "object"] hdC snC subC abC colC ddC y0 y1 y2 y3 y5 newC)) (lN : K.lookup nC = some ⟨ocN, odN, .dict esN epN, slN⟩) (alN : (esN.all fun e => match e.key with | .str _ _ => true | _ => false) = true) (eqC : PySem.W.nsIn K nC "__eq__" = some (some (.ref f33))) (neC : PySem.W.nsIn K nC "__ne__" = some none) (tyE : oc33 = .type "function")
    (jk1 : PySem.W.findIn K (.ref fC_Clock) "__class__" = some (some (.builtin "object.__class__"))) (jk4 : PySem.W.mroIn K fC_Clock (.type "object") = some true)
    : ∃ fd : FuncData, (∀ (s : Shared) (v : Value), BindsTo s fd ⟨[v], []⟩ [("_law_script", v)]) ∧ ∀ base : Heap, K.In base → base.Ns mainGlobals mg → FnG l.prog w K mg base 11 fa fd ["_law_script"] (spLaw K) := by
  have e := hfa.symm.trans (PySem.W.mg_of X G a41)
  cases e
  have F0 := fun_mk (st := s_is_whole) l0 c0 k0
  have b0 := F0.binds (ps := ["thing"]) fun _ _ _ _ _ _ us hl => match us, hl with | [_], _ => rfl
  have F1 := fun_mk (st := s_is_count) l1 c1 k1
  have b1 := F1.binds (ps := ["thing"]) fun _ _ _ _ _ _ us hl => match us, hl with | [_], _ => rfl
  have F2 := fun_mk (st := s_is_from_to) l2 c2 k2
  have b2 := F2.binds (ps := ["thing", "least", "most"]) fun _ _ _ _ _ _ us hl => match us, hl with | [_, _, _], _ => rfl
  have F3 := fun_mk (st := s_common_divisor) l3 c3 k3
  have b3 := F3.binds (ps := ["first", "second"]) fun _ _ _ _ _ _ us hl => match us, hl with | [_, _], _ => rfl
  have F4 := fun_mk (st := s_is_share) l4 c4 k4
  have b4 := F4.binds (ps := ["thing"]) fun _ _ _ _ _ _ us hl => match us, hl with | [_], _ => rfl
  have F5 := fun_mk (st := s_is_drift) l5 c5 k5
  have b5 := F5.binds (ps := ["thing"]) fun _ _ _ _ _ _ us hl => match us, hl with | [_], _ => rfl
  have F6 := fun_mk (st := s_refuse_no_count) l6 c6 k6
  have b6 := F6.binds (ps := ["thing"]) fun _ _ _ _ _ _ us hl => match us, hl with | [_], _ => rfl
  have F7 := fun_mk (st := s_least_of) l7 c7 k7
  have b7 := F7.binds (ps := ["ticks", "drift"]) fun _ _ _ _ _ _ us hl => match us, hl with | [_, _], _ => rfl
  have F8 := fun_mk (st := s_most_of) l8 c8 k8
  have b8 := F8.binds (ps := ["ticks", "drift"]) fun _ _ _ _ _ _ us hl => match us, hl with | [_, _], _ => rfl
  have F9 := fun_mk (st := s_bounds_behind) l9 c9 k9
  have b9 := F9.binds (ps := ["stands", "counted", "drift"]) fun _ _ _ _ _ _ us hl => match us, hl with | [_, _, _], _ => rfl
  have F10 := fun_mk (st := s_set_between) l10 c10 k10
  have b10 := F10.binds (ps := ["told", "low", "high"]) fun _ _ _ _ _ _ us hl => match us, hl with | [_, _, _], _ => rfl
  have F11 := fun_mk (st := s_changed_at) l11 c11 k11
  have b11 := F11.binds (ps := ["row", "at", "thing"]) fun _ _ _ _ _ _ us hl => match us, hl with | [_, _, _], _ => rfl
  have F12 := fun_mk (st := s_Copies_refuse_no_copy) l12 c12 k12
  have b12 := F12.binds (ps := ["self", "copy"]) fun _ _ _ _ _ _ us hl => match us, hl with | [_, _], _ => rfl
  have F13 := fun_mk (st := s_Copies_back) l13 c13 k13
  have b13 := F13.binds (ps := ["self", "copy"]) fun _ _ _ _ _ _ us hl => match us, hl with | [_, _], _ => rfl
  have F14 := fun_mk (st := s_Copies_stop) l14 c14 k14
  have b14 := F14.binds (ps := ["self", "copy"]) fun _ _ _ _ _ _ us hl => match us, hl with | [_, _], _ => rfl
  have F15 := fun_mk (st := s_Copies_tell_bounds) l15 c15 k15
  have b15 := F15.binds (ps := ["self", "copy"]) fun _ _ _ _ _ _ us hl => match us, hl with | [_, _], _ => rfl
  have F16 : FunD K "tick_clock" "Copies.tick_clock" (defArgs s_Copies_tick_clock) (defBody s_Copies_tick_clock) (defScope s_Copies_tick_clock) [V.int 1] [] f16 (PySem.W.fnOf "tick_clock" "Copies.tick_clock" (defArgs s_Copies_tick_clock) (defBody s_Copies_tick_clock) (defScope s_Copies_tick_clock) (.ref T16) kV16 dc16 pm16 an16 cd16 ct16) := ⟨⟨_, _, _, _, _, _, _, _, _, _, rfl, l16, c16, .inr ⟨by simp, _, _, [Value.int 1 tT16_0], _, rfl, lT16, rfl, (.cons ⟨_, rfl⟩ .nil)⟩, .inl rfl⟩, k16⟩
  have b16 : Binds K (PySem.W.fnOf "tick_clock" "Copies.tick_clock" (defArgs s_Copies_tick_clock) (defBody s_Copies_tick_clock) (defScope s_Copies_tick_clock) (.ref T16) kV16 dc16 pm16 an16 cd16 ct16) ["self", "copy", "many"] [] := by
    obtain ⟨ds, v, b⟩ := F16.binds1 (ps := ["self", "copy", "many"]) 3 1 (by simp) rfl (fun T kV dc pm an cdv ct us its hu hi => match us, hu, its, hi with | [_, _, _], _, [_], _ => ⟨_, rfl, rfl⟩)
    cases v
    exact b
  have c'16 : ∃ ds, Vals [V.int 1] ds ∧ Binds K (PySem.W.fnOf "tick_clock" "Copies.tick_clock" (defArgs s_Copies_tick_clock) (defBody s_Copies_tick_clock) (defScope s_Copies_tick_clock) (.ref T16) kV16 dc16 pm16 an16 cd16 ct16) ["self", "copy", "many"] ds := F16.binds1 (ps := ["self", "copy", "many"]) 2 0 (by simp) rfl (fun T kV dc pm an cdv ct us its hu hi => match us, hu, its, hi with | [_, _], _, [_], _ => ⟨_, rfl, rfl⟩)
  have F17 := fun_mk (st := s_Copies___len__) l17 c17 k17
  have b17 := F17.binds (ps := ["self"]) fun _ _ _ _ _ _ us hl => match us, hl with | [_], _ => rfl
  have F18 := fun_mk (st := s_Copies_set_clock) l18 c18 k18
  have b18 := F18.binds (ps := ["self", "copy", "low", "high"]) fun _ _ _ _ _ _ us hl => match us, hl with | [_, _, _, _], _ => rfl
  have F19 := fun_mk (st := s_Copies_choose) l19 c19 k19
  have b19 := F19.binds (ps := ["self", "copy"]) fun _ _ _ _ _ _ us hl => match us, hl with | [_, _], _ => rfl
  have F20 := fun_mk (st := s_Copies_catch_up) l20 c20 k20
  have b20 := F20.binds (ps := ["self", "copy"]) fun _ _ _ _ _ _ us hl => match us, hl with | [_, _], _ => rfl
  have F21 : FunD K "book" "Copies.book" (defArgs s_Copies_book) (defBody s_Copies_book) (defScope s_Copies_book) [V.non] [] f21 (PySem.W.fnOf "book" "Copies.book" (defArgs s_Copies_book) (defBody s_Copies_book) (defScope s_Copies_book) (.ref T21) kV21 dc21 pm21 an21 cd21 ct21) := ⟨⟨_, _, _, _, _, _, _, _, _, _, rfl, l21, c21, .inr ⟨by simp, _, _, [Value.none], _, rfl, lT21, rfl, (.cons rfl .nil)⟩, .inl rfl⟩, k21⟩
  have b21 : Binds K (PySem.W.fnOf "book" "Copies.book" (defArgs s_Copies_book) (defBody s_Copies_book) (defScope s_Copies_book) (.ref T21) kV21 dc21 pm21 an21 cd21 ct21) ["self", "copy"] [] := by
    obtain ⟨ds, v, b⟩ := F21.binds1 (ps := ["self", "copy"]) 2 1 (by simp) rfl (fun T kV dc pm an cdv ct us its hu hi => match us, hu, its, hi with | [_, _], _, [_], _ => ⟨_, rfl, rfl⟩)
    cases v
    exact b
  have c'21 : ∃ ds, Vals [V.non] ds ∧ Binds K (PySem.W.fnOf "book" "Copies.book" (defArgs s_Copies_book) (defBody s_Copies_book) (defScope s_Copies_book) (.ref T21) kV21 dc21 pm21 an21 cd21 ct21) ["self", "copy"] ds := F21.binds1 (ps := ["self", "copy"]) 1 0 (by simp) rfl (fun T kV dc pm an cdv ct us its hu hi => match us, hu, its, hi with | [_], _, [_], _ => ⟨_, rfl, rfl⟩)
  have F22 : FunD K "__init__" "Copies.__init__" (defArgs s_Copies___init__) (defBody s_Copies___init__) (defScope s_Copies___init__) [V.int 3] [("drift", V.ref f46), ("lease", V.int 20)] f22 (PySem.W.fnOf "__init__" "Copies.__init__" (defArgs s_Copies___init__) (defBody s_Copies___init__) (defScope s_Copies___init__) (.ref T22) (.ref DK22) dc22 pm22 an22 cd22 ct22) := ⟨⟨_, _, _, _, _, _, _, _, _, _, rfl, l22, c22, .inr ⟨by simp, _, _, [Value.int 3 tT22_0], _, rfl, lT22, rfl, (.cons ⟨_, rfl⟩ .nil)⟩, .inr ⟨_, rfl, fun q hq => (List.mem_cons.mp hq).elim (fun e => by rw [e]; exact ⟨_, lK22_drift, rfl⟩) (fun hq => (List.mem_cons.mp hq).elim (fun e => by rw [e]; exact ⟨_, lK22_lease, ⟨_, rfl⟩⟩) (fun hq => nomatch hq))⟩⟩, k22⟩
  have d'22 : ∃ ds, Vals [V.ref f46, V.int 20] ds ∧ Binds K (PySem.W.fnOf "__init__" "Copies.__init__" (defArgs s_Copies___init__) (defBody s_Copies___init__) (defScope s_Copies___init__) (.ref T22) (.ref DK22) dc22 pm22 an22 cd22 ct22) ["self", "many", "drift", "lease"] ds := F22.binds (ps := ["self", "many", "drift", "lease"]) 2 1 (by simp) rfl (fun T D doc pm an cdv ct us its ks hu hi hk => match us, hu, its, hi, ks, hk with | [_, _], _, [_], _, [_, _], _ => ⟨_, rfl, _, _, _, _, _, _, rfl, rfl, _, _, _, _, _, _, rfl, rfl, rfl⟩) (by simp)
  have e'22 : ∃ ds, Vals [V.int 3, V.ref f46, V.int 20] ds ∧ Binds K (PySem.W.fnOf "__init__" "Copies.__init__" (defArgs s_Copies___init__) (defBody s_Copies___init__) (defScope s_Copies___init__) (.ref T22) (.ref DK22) dc22 pm22 an22 cd22 ct22) ["self", "many", "drift", "lease"] ds := F22.binds (ps := ["self", "many", "drift", "lease"]) 1 0 (by simp) rfl (fun T D doc pm an cdv ct us its ks hu hi hk => match us, hu, its, hi, ks, hk with | [_], _, [_], _, [_, _], _ => ⟨_, rfl, _, _, _, _, _, _, rfl, rfl, _, _, _, _, _, _, rfl, rfl, rfl⟩) (by simp)
  have f'22 : ∃ mv : List Value, KBn K (PySem.W.fnOf "__init__" "Copies.__init__" (defArgs s_Copies___init__) (defBody s_Copies___init__) (defScope s_Copies___init__) (.ref T22) (.ref DK22) dc22 pm22 an22 cd22 ct22) ["self", "many", "drift", "lease"] 2 ["lease"] (fun us ws => us ++ (mv ++ ws)) (fun vs zs => vs ++ ([V.ref f46] ++ zs)) := by
    obtain ⟨_, mv, b⟩ := F22.kbinds (ps := ["self", "many", "drift", "lease"]) 2 ["lease"] [("drift", V.ref f46)] (fun us _ mv ws => us ++ (mv ++ ws)) (by simp) (by simp) (fun q hq => by simp at hq ⊢; first | exact .inl hq | simp [hq]) (fun h1 _ h3 h4 => h1.append (h3.append h4)) (fun T D doc pm an cdv ct us its mv ws hu hi hm hw => match us, hu, its, hi, mv, hm, ws, hw with | [_, _], _, [_], _, [_], _, [_], _ => ⟨_, rfl, _, _, _, _, _, _, rfl, rfl, rfl⟩)
    exact ⟨mv, b⟩
  have k'22 : KBn K (PySem.W.fnOf "__init__" "Copies.__init__" (defArgs s_Copies___init__) (defBody s_Copies___init__) (defScope s_Copies___init__) (.ref T22) (.ref DK22) dc22 pm22 an22 cd22 ct22) ["self", "many", "drift", "lease"] 2 ["drift", "lease"] (fun us ws => us ++ ws) (fun vs zs => vs ++ zs) := by
    obtain ⟨_, b⟩ := F22.kbindsD (ps := ["self", "many", "drift", "lease"]) 2 ["drift", "lease"] (fun us _ ws => us ++ ws) (by simp) (fun h1 _ h3 => h1.append h3) (fun T kV dc pm an cdv ct us its ws hu hi hw => match us, hu, its, hi, ws, hw with | [_, _], _, [_], _, [_, _], _ => ⟨_, rfl, rfl⟩)
    exact b
  have F23 := fun_mk (st := s_Copies_is_up) l23 c23 k23
  have b23 := F23.binds (ps := ["self", "copy"]) fun _ _ _ _ _ _ us hl => match us, hl with | [_, _], _ => rfl
  have F24 := fun_mk (st := s_Copies_clock) l24 c24 k24
  have b24 := F24.binds (ps := ["self", "copy"]) fun _ _ _ _ _ _ us hl => match us, hl with | [_, _], _ => rfl
  have F25 := fun_mk (st := s_Copies_parts) l25 c25 k25
  have b25 := F25.binds (ps := ["self"]) fun _ _ _ _ _ _ us hl => match us, hl with | [_], _ => rfl
  have F26 := fun_mk (st := s_Copies_put_parts) l26 c26 k26
  have b26 := F26.binds (ps := ["self", "parts"]) fun _ _ _ _ _ _ us hl => match us, hl with | [_, _], _ => rfl
  have F27 := fun_mk (st := s_Copies_twin) l27 c27 k27
  have b27 := F27.binds (ps := ["self"]) fun _ _ _ _ _ _ us hl => match us, hl with | [_], _ => rfl
  have F28 : FunD K "__init__" "Clock.__init__" (defArgs s_Clock___init__) (defBody s_Clock___init__) (defScope s_Clock___init__) [V.ref f46] [] f28 (PySem.W.fnOf "__init__" "Clock.__init__" (defArgs s_Clock___init__) (defBody s_Clock___init__) (defScope s_Clock___init__) (.ref T28) kV28 dc28 pm28 an28 cd28 ct28) := ⟨⟨_, _, _, _, _, _, _, _, _, _, rfl, l28, c28, .inr ⟨by simp, _, _, [Value.ref f46], _, rfl, lT28, rfl, (.cons rfl .nil)⟩, .inl rfl⟩, k28⟩
  have b28 : Binds K (PySem.W.fnOf "__init__" "Clock.__init__" (defArgs s_Clock___init__) (defBody s_Clock___init__) (defScope s_Clock___init__) (.ref T28) kV28 dc28 pm28 an28 cd28 ct28) ["self", "drift"] [] := by
    obtain ⟨ds, v, b⟩ := F28.binds1 (ps := ["self", "drift"]) 2 1 (by simp) rfl (fun T kV dc pm an cdv ct us its hu hi => match us, hu, its, hi with | [_, _], _, [_], _ => ⟨_, rfl, rfl⟩)
    cases v
    exact b
  have c'28 : ∃ ds, Vals [V.ref f46] ds ∧ Binds K (PySem.W.fnOf "__init__" "Clock.__init__" (defArgs s_Clock___init__) (defBody s_Clock___init__) (defScope s_Clock___init__) (.ref T28) kV28 dc28 pm28 an28 cd28 ct28) ["self", "drift"] ds := F28.binds1 (ps := ["self", "drift"]) 1 0 (by simp) rfl (fun T kV dc pm an cdv ct us its hu hi => match us, hu, its, hi with | [_], _, [_], _ => ⟨_, rfl, rfl⟩)
  have F29 := fun_mk (st := s_Clock_is_set) l29 c29 k29
  have b29 := F29.binds (ps := ["self"]) fun _ _ _ _ _ _ us hl => match us, hl with | [_], _ => rfl
  have F30 := fun_mk (st := s_Clock_set_to) l30 c30 k30
  have b30 := F30.binds (ps := ["self", "low", "high"]) fun _ _ _ _ _ _ us hl => match us, hl with | [_, _, _], _ => rfl
  have F31 : FunD K "tick" "Clock.tick" (defArgs s_Clock_tick) (defBody s_Clock_tick) (defScope s_Clock_tick) [V.int 1] [] f31 (PySem.W.fnOf "tick" "Clock.tick" (defArgs s_Clock_tick) (defBody s_Clock_tick) (defScope s_Clock_tick) (.ref T31) kV31 dc31 pm31 an31 cd31 ct31) := ⟨⟨_, _, _, _, _, _, _, _, _, _, rfl, l31, c31, .inr ⟨by simp, _, _, [Value.int 1 tT31_0], _, rfl, lT31, rfl, (.cons ⟨_, rfl⟩ .nil)⟩, .inl rfl⟩, k31⟩
  have b31 : Binds K (PySem.W.fnOf "tick" "Clock.tick" (defArgs s_Clock_tick) (defBody s_Clock_tick) (defScope s_Clock_tick) (.ref T31) kV31 dc31 pm31 an31 cd31 ct31) ["self", "many"] [] := by
    obtain ⟨ds, v, b⟩ := F31.binds1 (ps := ["self", "many"]) 2 1 (by simp) rfl (fun T kV dc pm an cdv ct us its hu hi => match us, hu, its, hi with | [_, _], _, [_], _ => ⟨_, rfl, rfl⟩)
    cases v
    exact b
  have c'31 : ∃ ds, Vals [V.int 1] ds ∧ Binds K (PySem.W.fnOf "tick" "Clock.tick" (defArgs s_Clock_tick) (defBody s_Clock_tick) (defScope s_Clock_tick) (.ref T31) kV31 dc31 pm31 an31 cd31 ct31) ["self", "many"] ds := F31.binds1 (ps := ["self", "many"]) 1 0 (by simp) rfl (fun T kV dc pm an cdv ct us its hu hi => match us, hu, its, hi with | [_], _, [_], _ => ⟨_, rfl, rfl⟩)
  have F32 := fun_mk (st := s_Clock_bounds) l32 c32 k32
  have b32 := F32.binds (ps := ["self"]) fun _ _ _ _ _ _ us hl => match us, hl with | [_], _ => rfl
  have F33 := fun_mk (st := s_Clock___eq__) l33 c33 k33
  have b33 := F33.binds (ps := ["self", "other"]) fun _ _ _ _ _ _ us hl => match us, hl with | [_, _], _ => rfl
  have F34 := fun_mk (st := s_l_begun) l34 c34 k34
  have b34 := F34.binds (ps := ["_law_script", "_law_k"]) fun _ _ _ _ _ _ us hl => match us, hl with | [_, _], _ => rfl
  have F35 := fun_mk (st := s_l_take) l35 c35 k35
  have b35 := F35.binds (ps := ["_law_state", "_law_many"]) fun _ _ _ _ _ _ us hl => match us, hl with | [_, _], _ => rfl
  have F36 := fun_mk (st := s_l_said) l36 c36 k36
  have b36 := F36.binds (ps := ["_law_group", "_law_way", "_law_spot", "_law_some"]) fun _ _ _ _ _ _ us hl => match us, hl with | [_, _, _, _], _ => rfl
  have F37 := fun_mk (st := s_l_made) l37 c37 k37
  have b37 := F37.binds (ps := ["_law_many", "_law_span"]) fun _ _ _ _ _ _ us hl => match us, hl with | [_, _], _ => rfl
  have F38 := fun_mk (st := s_l_stands) l38 c38 k38
  have b38 := F38.binds (ps := ["_law_group", "_law_ups", "_law_clocks"]) fun _ _ _ _ _ _ us hl => match us, hl with | [_, _, _], _ => rfl
  have F39 := fun_mk (st := s_l_refuses) l39 c39 k39
  have b39 := F39.binds (ps := ["_law_group", "_law_clocks", "_law_ups"]) fun _ _ _ _ _ _ us hl => match us, hl with | [_, _, _], _ => rfl
  have F40 := fun_mk (st := s_l_due) l40 c40 k40
  have b40 := F40.binds (ps := ["_law_clocks", "_law_ups", "_law_way", "_law_spot", "_law_some"]) fun _ _ _ _ _ _ us hl => match us, hl with | [_, _, _, _, _], _ => rfl
  have F41 := fun_mk (st := s_law) l41 c41 k41
  have b41 := F41.binds (ps := ["_law_script"]) fun _ _ _ _ _ _ us hl => match us, hl with | [_], _ => rfl
  have FI150 := fun_mk (st := s_INoCopy) li150 cc150 kk150
  have bI150 := FI150.binds (ps := ["self", "copy"]) fun _ _ _ _ _ _ us hl => match us, hl with | [_, _], _ => rfl
  have FI151 := fun_mk (st := s_INoBounds) li151 cc151 kk151
  have bI151 := FI151.binds (ps := ["self", "low", "high"]) fun _ _ _ _ _ _ us hl => match us, hl with | [_, _, _], _ => rfl
  have FI152 : FunD K "__init__" "WaitError.__init__" (defArgs s_IWaitError) (defBody s_IWaitError) (defScope s_IWaitError) [V.str ""] [] i152 (PySem.W.fnOf "__init__" "WaitError.__init__" (defArgs s_IWaitError) (defBody s_IWaitError) (defScope s_IWaitError) (.ref T152) kV152 dc152 pm152 an152 cd152 ct152) := ⟨⟨_, _, _, _, _, _, _, _, _, _, rfl, li152, cc152, .inr ⟨by simp, _, _, [Value.str "" tkT152], _, rfl, lT152, rfl, (.cons ⟨_, rfl⟩ .nil)⟩, .inl rfl⟩, kk152⟩
  have bI152 : Binds K (PySem.W.fnOf "__init__" "WaitError.__init__" (defArgs s_IWaitError) (defBody s_IWaitError) (defScope s_IWaitError) (.ref T152) kV152 dc152 pm152 an152 cd152 ct152) ["self", "text"] [] := by
    obtain ⟨ds, v, b⟩ := FI152.binds1 (ps := ["self", "text"]) 2 1 (by simp) rfl (fun T kV dc pm an cdv ct us its hu hi => match us, hu, its, hi with | [_, _], _, [_], _ => ⟨_, rfl, rfl⟩)
    cases v
    exact b
  have FI153 := fun_mk (st := s_INoHead) li153 cc153 kk153
  have bI153 := FI153.binds (ps := ["self", "house"]) fun _ _ _ _ _ _ us hl => match us, hl with | [_, _], _ => rfl
  let a : Nat → Addr := fun i => match i with | 0 => f0 | 1 => f1 | 2 => f2 | 3 => f3 | 4 => f4 | 5 => f5 | 6 => f6 | 7 => f7 | 8 => f8 | 9 => f9 | 10 => f10 | 11 => f11 | 12 => f12 | 13 => f13 | 14 => f14 | 15 => f15 | 16 => f16 | 17 => f17 | 18 => f18 | 19 => f19 | 20 => f20 | 21 => f21 | 22 => f22 | 23 => f23 | 24 => f24 | 25 => f25 | 26 => f26 | 27 => f27 | 28 => f28 | 29 => f29 | 30 => f30 | 31 => f31 | 32 => f32 | 33 => f33 | 34 => f34 | 35 => f35 | 36 => f36 | 37 => f37 | 38 => f38 | 39 => f39 | 40 => f40 | 41 => fa | 100 => e100 | 101 => e101 | 102 => e102 | 103 => e103 | 104 => e104 | 150 => i150 | 151 => i151 | 152 => i152 | 153 => i153 | 60 => nC | 42 => fC | 43 => fC_Clock | 44 => f44 | 46 => f46 | _ => 0
  let d : Nat → FuncData := fun i => match i with | 0 => (PySem.W.fnOf "is_whole" "is_whole" (defArgs s_is_whole) (defBody s_is_whole) (defScope s_is_whole) .none kV0 dc0 pm0 an0 cd0 ct0) | 1 => (PySem.W.fnOf "is_count" "is_count" (defArgs s_is_count) (defBody s_is_count) (defScope s_is_count) .none kV1 dc1 pm1 an1 cd1 ct1) | 2 => (PySem.W.fnOf "is_from_to" "is_from_to" (defArgs s_is_from_to) (defBody s_is_from_to) (defScope s_is_from_to) .none kV2 dc2 pm2 an2 cd2 ct2) | 3 => (PySem.W.fnOf "common_divisor" "common_divisor" (defArgs s_common_divisor) (defBody s_common_divisor) (defScope s_common_divisor) .none kV3 dc3 pm3 an3 cd3 ct3) | 4 => (PySem.W.fnOf "is_share" "is_share" (defArgs s_is_share) (defBody s_is_share) (defScope s_is_share) .none kV4 dc4 pm4 an4 cd4 ct4) | 5 => (PySem.W.fnOf "is_drift" "is_drift" (defArgs s_is_drift) (defBody s_is_drift) (defScope s_is_drift) .none kV5 dc5 pm5 an5 cd5 ct5) | 6 => (PySem.W.fnOf "refuse_no_count" "refuse_no_count" (defArgs s_refuse_no_count) (defBody s_refuse_no_count) (defScope s_refuse_no_count) .none kV6 dc6 pm6 an6 cd6 ct6) | 7 => (PySem.W.fnOf "least_of" "least_of" (defArgs s_least_of) (defBody s_least_of) (defScope s_least_of) .none kV7 dc7 pm7 an7 cd7 ct7) | 8 => (PySem.W.fnOf "most_of" "most_of" (defArgs s_most_of) (defBody s_most_of) (defScope s_most_of) .none kV8 dc8 pm8 an8 cd8 ct8) | 9 => (PySem.W.fnOf "bounds_behind" "bounds_behind" (defArgs s_bounds_behind) (defBody s_bounds_behind) (defScope s_bounds_behind) .none kV9 dc9 pm9 an9 cd9 ct9) | 10 => (PySem.W.fnOf "set_between" "set_between" (defArgs s_set_between) (defBody s_set_between) (defScope s_set_between) .none kV10 dc10 pm10 an10 cd10 ct10) | 11 => (PySem.W.fnOf "changed_at" "changed_at" (defArgs s_changed_at) (defBody s_changed_at) (defScope s_changed_at) .none kV11 dc11 pm11 an11 cd11 ct11) | 12 => (PySem.W.fnOf "refuse_no_copy" "Copies.refuse_no_copy" (defArgs s_Copies_refuse_no_copy) (defBody s_Copies_refuse_no_copy) (defScope s_Copies_refuse_no_copy) .none kV12 dc12 pm12 an12 cd12 ct12) | 13 => (PySem.W.fnOf "back" "Copies.back" (defArgs s_Copies_back) (defBody s_Copies_back) (defScope s_Copies_back) .none kV13 dc13 pm13 an13 cd13 ct13) | 14 => (PySem.W.fnOf "stop" "Copies.stop" (defArgs s_Copies_stop) (defBody s_Copies_stop) (defScope s_Copies_stop) .none kV14 dc14 pm14 an14 cd14 ct14) | 15 => (PySem.W.fnOf "tell_bounds" "Copies.tell_bounds" (defArgs s_Copies_tell_bounds) (defBody s_Copies_tell_bounds) (defScope s_Copies_tell_bounds) .none kV15 dc15 pm15 an15 cd15 ct15) | 16 => (PySem.W.fnOf "tick_clock" "Copies.tick_clock" (defArgs s_Copies_tick_clock) (defBody s_Copies_tick_clock) (defScope s_Copies_tick_clock) (.ref T16) kV16 dc16 pm16 an16 cd16 ct16) | 17 => (PySem.W.fnOf "__len__" "Copies.__len__" (defArgs s_Copies___len__) (defBody s_Copies___len__) (defScope s_Copies___len__) .none kV17 dc17 pm17 an17 cd17 ct17) | 18 => (PySem.W.fnOf "set_clock" "Copies.set_clock" (defArgs s_Copies_set_clock) (defBody s_Copies_set_clock) (defScope s_Copies_set_clock) .none kV18 dc18 pm18 an18 cd18 ct18) | 19 => (PySem.W.fnOf "choose" "Copies.choose" (defArgs s_Copies_choose) (defBody s_Copies_choose) (defScope s_Copies_choose) .none kV19 dc19 pm19 an19 cd19 ct19) | 20 => (PySem.W.fnOf "catch_up" "Copies.catch_up" (defArgs s_Copies_catch_up) (defBody s_Copies_catch_up) (defScope s_Copies_catch_up) .none kV20 dc20 pm20 an20 cd20 ct20) | 21 => (PySem.W.fnOf "book" "Copies.book" (defArgs s_Copies_book) (defBody s_Copies_book) (defScope s_Copies_book) (.ref T21) kV21 dc21 pm21 an21 cd21 ct21) | 22 => (PySem.W.fnOf "__init__" "Copies.__init__" (defArgs s_Copies___init__) (defBody s_Copies___init__) (defScope s_Copies___init__) (.ref T22) (.ref DK22) dc22 pm22 an22 cd22 ct22) | 23 => (PySem.W.fnOf "is_up" "Copies.is_up" (defArgs s_Copies_is_up) (defBody s_Copies_is_up) (defScope s_Copies_is_up) .none kV23 dc23 pm23 an23 cd23 ct23) | 24 => (PySem.W.fnOf "clock" "Copies.clock" (defArgs s_Copies_clock) (defBody s_Copies_clock) (defScope s_Copies_clock) .none kV24 dc24 pm24 an24 cd24 ct24) | 25 => (PySem.W.fnOf "parts" "Copies.parts" (defArgs s_Copies_parts) (defBody s_Copies_parts) (defScope s_Copies_parts) .none kV25 dc25 pm25 an25 cd25 ct25) | 26 => (PySem.W.fnOf "put_parts" "Copies.put_parts" (defArgs s_Copies_put_parts) (defBody s_Copies_put_parts) (defScope s_Copies_put_parts) .none kV26 dc26 pm26 an26 cd26 ct26) | 27 => (PySem.W.fnOf "twin" "Copies.twin" (defArgs s_Copies_twin) (defBody s_Copies_twin) (defScope s_Copies_twin) .none kV27 dc27 pm27 an27 cd27 ct27) | 28 => (PySem.W.fnOf "__init__" "Clock.__init__" (defArgs s_Clock___init__) (defBody s_Clock___init__) (defScope s_Clock___init__) (.ref T28) kV28 dc28 pm28 an28 cd28 ct28) | 29 => (PySem.W.fnOf "is_set" "Clock.is_set" (defArgs s_Clock_is_set) (defBody s_Clock_is_set) (defScope s_Clock_is_set) .none kV29 dc29 pm29 an29 cd29 ct29) | 30 => (PySem.W.fnOf "set_to" "Clock.set_to" (defArgs s_Clock_set_to) (defBody s_Clock_set_to) (defScope s_Clock_set_to) .none kV30 dc30 pm30 an30 cd30 ct30) | 31 => (PySem.W.fnOf "tick" "Clock.tick" (defArgs s_Clock_tick) (defBody s_Clock_tick) (defScope s_Clock_tick) (.ref T31) kV31 dc31 pm31 an31 cd31 ct31) | 32 => (PySem.W.fnOf "bounds" "Clock.bounds" (defArgs s_Clock_bounds) (defBody s_Clock_bounds) (defScope s_Clock_bounds) .none kV32 dc32 pm32 an32 cd32 ct32) | 33 => (PySem.W.fnOf "__eq__" "Clock.__eq__" (defArgs s_Clock___eq__) (defBody s_Clock___eq__) (defScope s_Clock___eq__) .none kV33 dc33 pm33 an33 cd33 ct33) | 34 => (PySem.W.fnOf "_law_begun" "_law_begun" (defArgs s_l_begun) (defBody s_l_begun) (defScope s_l_begun) .none kV34 dc34 pm34 an34 cd34 ct34) | 35 => (PySem.W.fnOf "_law_take" "_law_take" (defArgs s_l_take) (defBody s_l_take) (defScope s_l_take) .none kV35 dc35 pm35 an35 cd35 ct35) | 36 => (PySem.W.fnOf "_law_said" "_law_said" (defArgs s_l_said) (defBody s_l_said) (defScope s_l_said) .none kV36 dc36 pm36 an36 cd36 ct36) | 37 => (PySem.W.fnOf "_law_made" "_law_made" (defArgs s_l_made) (defBody s_l_made) (defScope s_l_made) .none kV37 dc37 pm37 an37 cd37 ct37) | 38 => (PySem.W.fnOf "_law_stands" "_law_stands" (defArgs s_l_stands) (defBody s_l_stands) (defScope s_l_stands) .none kV38 dc38 pm38 an38 cd38 ct38) | 39 => (PySem.W.fnOf "_law_refuses" "_law_refuses" (defArgs s_l_refuses) (defBody s_l_refuses) (defScope s_l_refuses) .none kV39 dc39 pm39 an39 cd39 ct39) | 40 => (PySem.W.fnOf "_law_due" "_law_due" (defArgs s_l_due) (defBody s_l_due) (defScope s_l_due) .none kV40 dc40 pm40 an40 cd40 ct40) | 41 => (PySem.W.fnOf "law" "law" (defArgs s_law) (defBody s_law) (defScope s_law) .none kV41 dc41 pm41 an41 cd41 ct41) | 150 => (PySem.W.fnOf "__init__" "NoCopy.__init__" (defArgs s_INoCopy) (defBody s_INoCopy) (defScope s_INoCopy) .none kV150 dc150 pm150 an150 cd150 ct150) | 151 => (PySem.W.fnOf "__init__" "NoBounds.__init__" (defArgs s_INoBounds) (defBody s_INoBounds) (defScope s_INoBounds) .none kV151 dc151 pm151 an151 cd151 ct151) | 152 => (PySem.W.fnOf "__init__" "WaitError.__init__" (defArgs s_IWaitError) (defBody s_IWaitError) (defScope s_IWaitError) (.ref T152) kV152 dc152 pm152 an152 cd152 ct152) | 153 => (PySem.W.fnOf "__init__" "NoHead.__init__" (defArgs s_INoHead) (defBody s_INoHead) (defScope s_INoHead) .none kV153 dc153 pm153 an153 cd153 ct153) | _ => (PySem.W.fnOf "law" "law" (defArgs s_law) (defBody s_law) (defScope s_law) .none kV41 dc41 pm41 an41 cd41 ct41)
  have T : Txt K mg a d := ⟨PySem.W.mg_of X G a0, F0, b0, PySem.W.mg_of X G a1, F1, b1, PySem.W.mg_of X G a2, F2, b2, PySem.W.mg_of X G a3, F3, b3, PySem.W.mg_of X G a4, F4, b4, PySem.W.mg_of X G a5, F5, b5, PySem.W.mg_of X G a6, F6, b6, PySem.W.mg_of X G a7, F7, b7, PySem.W.mg_of X G a8, F8, b8, PySem.W.mg_of X G a9, F9, b9, PySem.W.mg_of X G a10, F10, b10, PySem.W.mg_of X G a11, F11, b11, F12, b12, ⟨a12, i12, k12⟩, F13, b13, ⟨a13, i13, k13⟩, F14, b14, ⟨a14, i14, k14⟩, F15, b15, ⟨a15, i15, k15⟩, F16, c'16, b16, ⟨a16, i16, k16⟩, F17, b17, ⟨a17, i17, k17⟩, F18, b18, ⟨a18, i18, k18⟩, F19, b19, ⟨a19, i19, k19⟩, F20, b20, ⟨a20, i20, k20⟩, F21, c'21, b21, ⟨a21, i21, k21⟩, F22, d'22, e'22, f'22, k'22, ⟨mk, a22, i22, kc⟩, F23, b23, ⟨a23, i23, k23⟩, F24, b24, ⟨a24, i24, k24⟩, F25, b25, ⟨a25, i25, k25⟩, F26, b26, ⟨a26, i26, k26⟩, F27, b27, ⟨a27, i27, k27⟩, F28, c'28, b28, ⟨mk_Clock, a28, i28, kc_Clock⟩, F29, b29, ⟨a29, i29, k29⟩, F30, b30, ⟨a30, i30, k30⟩, F31, c'31, b31, ⟨a31, i31, k31⟩, F32, b32, ⟨a32, i32, k32⟩, F33, b33, ⟨a33, i33, k33⟩, PySem.W.mg_of X G a34, F34, b34, PySem.W.mg_of X G a35, F35, b35, PySem.W.mg_of X G a36, F36, b36, PySem.W.mg_of X G a37, F37, b37, PySem.W.mg_of X G a38, F38, b38, PySem.W.mg_of X G a39, F39, b39, PySem.W.mg_of X G a40, F40, b40, PySem.W.mg_of X G a41, F41, b41, PySem.W.mg_of X G aC, ⟨pg, hd, po, sa⟩, nf_most_drift, nf_lease, nf_ups, nf_has, nf_stands, nf_counts, nf_spans, nf_promises, nf_promised_in, nf_rules_till, nf_entries, nf_lent, nf_loose, nf_reigns, nf_chosen, PySem.W.mg_of X G aC_Clock, ⟨pg_Clock, hd_Clock, po_Clock, sa_Clock⟩, nf_Clock_most_drift, nf_Clock_stands, nf_Clock_counted, PySem.W.mg_of X G g44, fun H => .inr ⟨_, _, _, l44, rfl, rfl, (by show 2 ≤ sizeLine; decide), (.cons ⟨_, rfl⟩ (.cons ⟨_, rfl⟩ .nil))⟩, ⟨_, PySem.W.mg_of X G g45⟩, PySem.W.mg_of X G g46, fun H => .inr ⟨_, _, _, l46, rfl, rfl, (by show 2 ≤ sizeLine; decide), (.cons ⟨_, rfl⟩ (.cons ⟨_, rfl⟩ .nil))⟩, ⟨_, PySem.W.mg_of X G g47⟩, ⟨_, PySem.W.mg_of X G g48⟩, ⟨_, PySem.W.mg_of X G g49⟩, PySem.W.mg_none_of X G z_max, PySem.W.mg_none_of X G z_min, PySem.W.mg_none_of X G z_len, PySem.W.mg_none_of X G z_int, PySem.W.mg_none_of X G z_range, PySem.W.mg_none_of X G z_isinstance, PySem.W.mg_none_of X G z_bool, PySem.W.mg_none_of X G z_tuple, PySem.W.mg_none_of X G z_list, PySem.W.mg_none_of X G z_repr, PySem.W.mg_none_of X G z_IndexError, PySem.W.mg_none_of X G z_ValueError, (PySem.W.mg_of X G aE100), (PySem.W.mg_of X G aE101), (PySem.W.mg_of X G aE102), (PySem.W.mg_of X G aE103), (PySem.W.mg_of X G aE104), (⟨XB.indexError, ⟨nm100, q100, N100, bs100, sn100, sub100, ab100, col100, dd100, x0100, x1100, x2100, x3100, x5100, x100⟩, sa100, xb100, ty100, kp100⟩), (in100), (n0_100), (⟨ga100, gg100, xb100, hd100⟩), (⟨ga100, gg100, xb100, hd100, jc100, j2, j3, jm100⟩), (⟨(XB.Facts.under XB.valueError), ⟨nm102, q102, N102, bs102, sn102, sub102, ab102, col102, dd102, x0102, x1102, x2102, x3102, x5102, x102⟩, sa102, xb102, ty102, kp102⟩), (in102), (n0_102), (n1_102), (⟨⟨nm102, q102, N102, bs102, _, sn102, sub102, ab102, col102, dd102, x0102, x1102, x2102, x3102, x5102, x102, rfl⟩, sa102, xb102, ty102, kp102⟩), (⟨ga102, gg102, xb102, hd102⟩), (⟨ga102, gg102, xb102, hd102, jc102, j2, j3, jm102⟩), (⟨(XB.Facts.under XB.valueError), ⟨nm103, q103, N103, bs103, sn103, sub103, ab103, col103, dd103, x0103, x1103, x2103, x3103, x5103, x103⟩, sa103, xb103, ty103, kp103⟩), (in103), (n0_103), (⟨ga103, gg103, xb103, hd103⟩), (⟨ga103, gg103, xb103, hd103, jc103, j2, j3, jm103⟩), (⟨XB.runtimeError, ⟨nm104, q104, N104, bs104, sn104, sub104, ab104, col104, dd104, x0104, x1104, x2104, x3104, x5104, x104⟩, sa104, xb104, ty104, kp104⟩), (in104), (n0_104), (⟨ga104, gg104, xb104, hd104⟩), (⟨ga104, gg104, xb104, hd104, jc104, j2, j3, jm104⟩), (ti150), (FI150), (bI150), (ti151), (FI151), (bI151), (ti152), (FI152), (bI152), (ti153), (FI153), (bI153), (exm_of tb100 tc100 tt100 su0), (exm_of tb100 tc100 tt100 su1), (exm_of tb102 tc102 tt102 su2), (exm_of tb100 tc100 tt100 su3), (exm_of tb102 tc102 tt102 su4), (exm_of tb103 tc103 tt103 su5), (kit_blt (by decide +kernel) su6), (kit_blt (by decide +kernel) su7), ⟨nmC, qC, bsC, hdC, snC, subC, abC, colC, ddC, y0, y1, y2, y3, y5, newC, xC⟩, nsok_of lN alN, eqC, neC, ⟨_, l33, tyE⟩, jk1, j2, j3, jk4, kit_self⟩
  exact ⟨(PySem.W.fnOf "law" "law" (defArgs s_law) (defBody s_law) (defScope s_law) .none kV41 dc41 pm41 an41 cd41 ct41), fun s v => .of_eq rfl, fun base _ _ => ok_law T⟩
theorem walk {l : PySem.W.OpenLaw} {q : Program} {loose : List Str} {XP : (Str → Option Value) → Heap → Prop} {YP : World → Heap → Prop} {d : DefRec} {K : Params → PySem.W.Frag} (hn : l.most = some 63) (hdf : d.params.defaults = [])
    (hY : ∀ (w : World) (h : Heap), YP w h → (K w.params).In h)
    (F : ∀ (w : World) (mg : Str → Option Value) (fa : Addr) (h : Heap), (K w.params).In h → h.Ns mainGlobals mg → mg d.name = some (.ref fa) →
      ∃ fd : FuncData, (∀ (s : Shared) (u : Value), BindsTo s fd ⟨[u], []⟩ [("_law_script", u)]) ∧ ∀ base : Heap, (K w.params).In base → base.Ns mainGlobals mg → FnG l.prog w (K w.params) mg base 11 fa fd ["_law_script"] (spLaw (K w.params))) :
    PySem.W.WalkO q loose XP YP l.row.toRowW d [] (fun f vs => PySem.call f vs) :=
  walkG (n := 63) (k := 11) (x := "_law_script") (sp := fun w => (spLaw (K w.params))) hn (by decide) hdf ⟨rfl, by decide, by decide⟩ hY F (fun _ _ a ns hl _ _ hS => ⟨a, ns, rfl, hS, hl, fun _ => rfl⟩)
end M

open PySem PySem.W PyProof.Rows in
set_option maxRecDepth 100000 in
set_option maxHeartbeats 0 in
theorem PySem.Challenge.cw_stampedwait_k26_copies_stopped_and_calle_holds : PySem.Challenge.rw_stampedwait_k26_copies_stopped_and_calle.Holds := by
  w_on; o_law; k_head; (case hw => w_witness2)
  k_fill
  refine M.walk (l := PySem.Challenge.rw_stampedwait_k26_copies_stopped_and_calle) rfl rfl (fun w h Y => PySem.W.kIn_of Y) ?F
  case F =>
    intro w mg fa h KX G hmg
    refine' M.all_mk KX G hmg ?g44 ?l44 ?g45 ?g46 ?l46 ?g47 ?g48 ?g49 ?aC ?pg ?hd ?po ?sa ?mk ?kc ?nf_most_drift ?nf_lease ?nf_ups ?nf_has ?nf_stands ?nf_counts ?nf_spans ?nf_promises ?nf_promised_in ?nf_rules_till ?nf_entries ?nf_lent ?nf_loose ?nf_reigns ?nf_chosen ?aC_Clock ?pg_Clock ?hd_Clock ?po_Clock ?sa_Clock ?mk_Clock ?kc_Clock ?nf_Clock_most_drift ?nf_Clock_stands ?nf_Clock_counted ?a0 ?l0 ?c0 ?k0 ?a1 ?l1 ?c1 ?k1 ?a2 ?l2 ?c2 ?k2 ?a3 ?l3 ?c3 ?k3 ?a4 ?l4 ?c4 ?k4 ?a5 ?l5 ?c5 ?k5 ?a6 ?l6 ?c6 ?k6 ?a7 ?l7 ?c7 ?k7 ?a8 ?l8 ?c8 ?k8 ?a9 ?l9 ?c9 ?k9 ?a10 ?l10 ?c10 ?k10 ?a11 ?l11 ?c11 ?k11 ?a12 ?i12 ?l12 ?c12 ?k12 ?a13 ?i13 ?l13 ?c13 ?k13 ?a14 ?i14 ?l14 ?c14 ?k14 ?a15 ?i15 ?l15 ?c15 ?k15 ?a16 ?i16 ?l16 ?c16 ?k16 ?lT16 ?a17 ?i17 ?l17 ?c17 ?k17 ?a18 ?i18 ?l18 ?c18 ?k18 ?a19 ?i19 ?l19 ?c19 ?k19 ?a20 ?i20 ?l20 ?c20 ?k20 ?a21 ?i21 ?l21 ?c21 ?k21 ?lT21 ?a22 ?i22 ?l22 ?c22 ?k22 ?lK22_drift ?lK22_lease ?lT22 ?a23 ?i23 ?l23 ?c23 ?k23 ?a24 ?i24 ?l24 ?c24 ?k24 ?a25 ?i25 ?l25 ?c25 ?k25 ?a26 ?i26 ?l26 ?c26 ?k26 ?a27 ?i27 ?l27 ?c27 ?k27 ?a28 ?i28 ?l28 ?c28 ?k28 ?lT28 ?a29 ?i29 ?l29 ?c29 ?k29 ?a30 ?i30 ?l30 ?c30 ?k30 ?a31 ?i31 ?l31 ?c31 ?k31 ?lT31 ?a32 ?i32 ?l32 ?c32 ?k32 ?a33 ?i33 ?l33 ?c33 ?k33 ?a34 ?l34 ?c34 ?k34 ?a35 ?l35 ?c35 ?k35 ?a36 ?l36 ?c36 ?k36 ?a37 ?l37 ?c37 ?k37 ?a38 ?l38 ?c38 ?k38 ?a39 ?l39 ?c39 ?k39 ?a40 ?l40 ?c40 ?k40 ?a41 ?l41 ?c41 ?k41 ?z_max ?z_min ?z_len ?z_int ?z_range ?z_isinstance ?z_bool ?z_tuple ?z_list ?z_repr ?z_IndexError ?z_ValueError ?aE100 ?aE101 ?aE102 ?aE103 ?aE104 ?tb100 ?tc100 ?tt100 ?ts100 ?tb102 ?tc102 ?tt102 ?ts102 ?tb103 ?tc103 ?tt103 ?ts103 ?j2 ?j3 ?x100 ?sa100 ?xb100 ?ty100 ?kp100 ?in100 ?ga100 ?gg100 ?hd100 ?jc100 ?jm100 ?n0_100 ?x102 ?sa102 ?xb102 ?ty102 ?kp102 ?in102 ?ga102 ?gg102 ?hd102 ?jc102 ?jm102 ?n0_102 ?n1_102 ?x103 ?sa103 ?xb103 ?ty103 ?kp103 ?in103 ?ga103 ?gg103 ?hd103 ?jc103 ?jm103 ?n0_103 ?x104 ?sa104 ?xb104 ?ty104 ?kp104 ?in104 ?ga104 ?gg104 ?hd104 ?jc104 ?jm104 ?n0_104 ?ti150 ?li150 ?cc150 ?kk150 ?ti151 ?li151 ?cc151 ?kk151 ?ti152 ?li152 ?cc152 ?kk152 ?lT152 ?ti153 ?li153 ?cc153 ?kk153 ?su0 ?su1 ?su2 ?su3 ?su4 ?su5 ?su6 ?su7 ?xC ?lN ?alN ?eqC ?neC ?tyE ?jk1 ?jk4
    (case g44 => k_is)
    (case l44 => k_is)
    (case g45 => k_is)
    (case g46 => k_is)
    (case l46 => k_is)
    (case g47 => k_is)
    (case g48 => k_is)
    (case g49 => k_is)
    (case aC => k_is)
    (case pg => k_is)
    (case hd => k_is)
    (case po => k_is)
    (case sa => k_is)
    (case mk => k_is)
    (case kc => k_is)
    (case nf_most_drift => k_is)
    (case nf_lease => k_is)
    (case nf_ups => k_is)
    (case nf_has => k_is)
    (case nf_stands => k_is)
    (case nf_counts => k_is)
    (case nf_spans => k_is)
    (case nf_promises => k_is)
    (case nf_promised_in => k_is)
    (case nf_rules_till => k_is)
    (case nf_entries => k_is)
    (case nf_lent => k_is)
    (case nf_loose => k_is)
    (case nf_reigns => k_is)
    (case nf_chosen => k_is)
    (case aC_Clock => k_is)
    (case pg_Clock => k_is)
    (case hd_Clock => k_is)
    (case po_Clock => k_is)
    (case sa_Clock => k_is)
    (case mk_Clock => k_is)
    (case kc_Clock => k_is)
    (case nf_Clock_most_drift => k_is)
    (case nf_Clock_stands => k_is)
    (case nf_Clock_counted => k_is)
    (case a0 => k_is)
    (case l0 => k_is)
    (case c0 => k_is)
    (case k0 => k_is)
    (case a1 => k_is)
    (case l1 => k_is)
    (case c1 => k_is)
    (case k1 => k_is)
    (case a2 => k_is)
    (case l2 => k_is)
    (case c2 => k_is)
    (case k2 => k_is)
    (case a3 => k_is)
    (case l3 => k_is)
    (case c3 => k_is)
    (case k3 => k_is)
    (case a4 => k_is)
    (case l4 => k_is)
    (case c4 => k_is)
    (case k4 => k_is)
    (case a5 => k_is)
    (case l5 => k_is)
    (case c5 => k_is)
    (case k5 => k_is)
    (case a6 => k_is)
    (case l6 => k_is)
    (case c6 => k_is)
    (case k6 => k_is)
    (case a7 => k_is)
    (case l7 => k_is)
    (case c7 => k_is)
    (case k7 => k_is)
    (case a8 => k_is)
    (case l8 => k_is)
    (case c8 => k_is)
    (case k8 => k_is)
    (case a9 => k_is)
    (case l9 => k_is)
    (case c9 => k_is)
    (case k9 => k_is)
    (case a10 => k_is)
    (case l10 => k_is)
    (case c10 => k_is)
    (case k10 => k_is)
    (case a11 => k_is)
    (case l11 => k_is)
    (case c11 => k_is)
    (case k11 => k_is)
    (case a12 => k_is)
    (case i12 => k_is)
    (case l12 => k_is)
    (case c12 => k_is)
    (case k12 => k_is)
    (case a13 => k_is)
    (case i13 => k_is)
    (case l13 => k_is)
    (case c13 => k_is)
    (case k13 => k_is)
    (case a14 => k_is)
    (case i14 => k_is)
    (case l14 => k_is)
    (case c14 => k_is)
    (case k14 => k_is)
    (case a15 => k_is)
    (case i15 => k_is)
    (case l15 => k_is)
    (case c15 => k_is)
    (case k15 => k_is)
    (case a16 => k_is)
    (case i16 => k_is)
    (case l16 => k_is)
    (case c16 => k_is)
    (case k16 => k_is)
    (case lT16 => k_is)
    (case a17 => k_is)
    (case i17 => k_is)
    (case l17 => k_is)
    (case c17 => k_is)
    (case k17 => k_is)
    (case a18 => k_is)
    (case i18 => k_is)
    (case l18 => k_is)
    (case c18 => k_is)
    (case k18 => k_is)
    (case a19 => k_is)
    (case i19 => k_is)
    (case l19 => k_is)
    (case c19 => k_is)
    (case k19 => k_is)
    (case a20 => k_is)
    (case i20 => k_is)
    (case l20 => k_is)
    (case c20 => k_is)
    (case k20 => k_is)
    (case a21 => k_is)
    (case i21 => k_is)
    (case l21 => k_is)
    (case c21 => k_is)
    (case k21 => k_is)
    (case lT21 => k_is)
    (case a22 => k_is)
    (case i22 => k_is)
    (case l22 => k_is)
    (case c22 => k_is)
    (case k22 => k_is)
    (case lK22_drift => k_is)
    (case lK22_lease => k_is)
    (case lT22 => k_is)
    (case a23 => k_is)
    (case i23 => k_is)
    (case l23 => k_is)
    (case c23 => k_is)
    (case k23 => k_is)
    (case a24 => k_is)
    (case i24 => k_is)
    (case l24 => k_is)
    (case c24 => k_is)
    (case k24 => k_is)
    (case a25 => k_is)
    (case i25 => k_is)
    (case l25 => k_is)
    (case c25 => k_is)
    (case k25 => k_is)
    (case a26 => k_is)
    (case i26 => k_is)
    (case l26 => k_is)
    (case c26 => k_is)
    (case k26 => k_is)
    (case a27 => k_is)
    (case i27 => k_is)
    (case l27 => k_is)
    (case c27 => k_is)
    (case k27 => k_is)
    (case a28 => k_is)
    (case i28 => k_is)
    (case l28 => k_is)
    (case c28 => k_is)
    (case k28 => k_is)
    (case lT28 => k_is)
    (case a29 => k_is)
    (case i29 => k_is)
    (case l29 => k_is)
    (case c29 => k_is)
    (case k29 => k_is)
    (case a30 => k_is)
    (case i30 => k_is)
    (case l30 => k_is)
    (case c30 => k_is)
    (case k30 => k_is)
    (case a31 => k_is)
    (case i31 => k_is)
    (case l31 => k_is)
    (case c31 => k_is)
    (case k31 => k_is)
    (case lT31 => k_is)
    (case a32 => k_is)
    (case i32 => k_is)
    (case l32 => k_is)
    (case c32 => k_is)
    (case k32 => k_is)
    (case a33 => k_is)
    (case i33 => k_is)
    (case l33 => k_is)
    (case c33 => k_is)
    (case k33 => k_is)
    (case a34 => k_is)
    (case l34 => k_is)
    (case c34 => k_is)
    (case k34 => k_is)
    (case a35 => k_is)
    (case l35 => k_is)
    (case c35 => k_is)
    (case k35 => k_is)
    (case a36 => k_is)
    (case l36 => k_is)
    (case c36 => k_is)
    (case k36 => k_is)
    (case a37 => k_is)
    (case l37 => k_is)
    (case c37 => k_is)
    (case k37 => k_is)
    (case a38 => k_is)
    (case l38 => k_is)
    (case c38 => k_is)
    (case k38 => k_is)
    (case a39 => k_is)
    (case l39 => k_is)
    (case c39 => k_is)
    (case k39 => k_is)
    (case a40 => k_is)
    (case l40 => k_is)
    (case c40 => k_is)
    (case k40 => k_is)
    (case a41 => k_is)
    (case l41 => k_is)
    (case c41 => k_is)
    (case k41 => k_is)
    (case z_max => k_is)
    (case z_min => k_is)
    (case z_len => k_is)
    (case z_int => k_is)
    (case z_range => k_is)
    (case z_isinstance => k_is)
    (case z_bool => k_is)
    (case z_tuple => k_is)
    (case z_list => k_is)
    (case z_repr => k_is)
    (case z_IndexError => k_is)
    (case z_ValueError => k_is)
    (case aE100 => k_is)
    (case aE101 => k_is)
    (case aE102 => k_is)
    (case aE103 => k_is)
    (case aE104 => k_is)
    (case tb100 => k_is)
    (case tc100 => k_is)
    (case tt100 => k_is)
    (case ts100 => first | rfl | k_is)
    (case tb102 => k_is)
    (case tc102 => k_is)
    (case tt102 => k_is)
    (case ts102 => first | rfl | k_is)
    (case tb103 => k_is)
    (case tc103 => k_is)
    (case tt103 => k_is)
    (case ts103 => first | rfl | k_is)
    (case j2 => k_is)
    (case j3 => k_is)
    (case x100 => k_is)
    (case sa100 => k_is)
    (case xb100 => k_is)
    (case ty100 => k_is)
    (case kp100 => k_is)
    (case in100 => k_is)
    (case ga100 => k_is)
    (case gg100 => k_is)
    (case hd100 => k_is)
    (case jc100 => k_is)
    (case jm100 => k_is)
    (case n0_100 => k_is)
    (case x102 => k_is)
    (case sa102 => k_is)
    (case xb102 => k_is)
    (case ty102 => k_is)
    (case kp102 => k_is)
    (case in102 => k_is)
    (case ga102 => k_is)
    (case gg102 => k_is)
    (case hd102 => k_is)
    (case jc102 => k_is)
    (case jm102 => k_is)
    (case n0_102 => k_is)
    (case n1_102 => k_is)
    (case x103 => k_is)
    (case sa103 => k_is)
    (case xb103 => k_is)
    (case ty103 => k_is)
    (case kp103 => k_is)
    (case in103 => k_is)
    (case ga103 => k_is)
    (case gg103 => k_is)
    (case hd103 => k_is)
    (case jc103 => k_is)
    (case jm103 => k_is)
    (case n0_103 => k_is)
    (case x104 => k_is)
    (case sa104 => k_is)
    (case xb104 => k_is)
    (case ty104 => k_is)
    (case kp104 => k_is)
    (case in104 => k_is)
    (case ga104 => k_is)
    (case gg104 => k_is)
    (case hd104 => k_is)
    (case jc104 => k_is)
    (case jm104 => k_is)
    (case n0_104 => k_is)
    (case ti150 => k_is)
    (case li150 => k_is)
    (case cc150 => k_is)
    (case kk150 => k_is)
    (case ti151 => k_is)
    (case li151 => k_is)
    (case cc151 => k_is)
    (case kk151 => k_is)
    (case ti152 => k_is)
    (case li152 => k_is)
    (case cc152 => k_is)
    (case kk152 => k_is)
    (case lT152 => k_is)
    (case ti153 => k_is)
    (case li153 => k_is)
    (case cc153 => k_is)
    (case kk153 => k_is)
    (case su0 => first | rfl | k_is)
    (case su1 => first | rfl | k_is)
    (case su2 => first | rfl | k_is)
    (case su3 => first | rfl | k_is)
    (case su4 => first | rfl | k_is)
    (case su5 => first | rfl | k_is)
    (case su6 => first | rfl | k_is)
    (case su7 => first | rfl | k_is)
    (case xC => k_is)
    (case lN => k_is)
    (case alN => first | rfl | simp)
    (case eqC => k_is)
    (case neC => k_is)
    (case tyE => rfl)
    (case jk1 => k_is)
    (case jk4 => k_is)
