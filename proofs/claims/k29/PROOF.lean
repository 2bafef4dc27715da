import PyProof.Rows.All
import Wide.All
import OpenK.AllK
import Wide.FinOn
import HandS.ForMost
import HandS.Wide
import HandS.IsInst
import HandS.Defaults
import HandS.MakeKwOnly
import HandS.Flow
import HandS.TupLe
import HandS.OwnEq
import HandS.More
import HandS.Small
import HandS.EndBits
import HandS.RaiseMore
import HandS.Walk
import HandS.Conv
import HandS.DictComp
import HandS.SortInts
import HandS.CallSlots
import HandS.Evl
import HandS.Steps
import PyProof.InstSpecial
import PyProof.ReprRoads
import PyProof.WalksMore
import PyProof.ReprLen
import HandS.DictTup
import HandS.ListItems
import HandS.Keys
import HandS.SetKeys
import HandS.ForExc
import HandS.ExcField
import HandS.ExcInit
import HandS.ExcOwn
import HandS.ExcIs
import KE.KExcIs
import PyProof.ExcBaseAll.LookupError
import PyProof.ExcBaseAll.RuntimeError
import PyProof.ExcBaseAll.IndexError
import PyProof.ExcBaseAll.ValueError
import HandS.MakeKw
import PySem.Challenge.RW_stampedwait_k29_copies_beside_twins
set_option Elab.async false
set_option linter.all false
set_option maxRecDepth 100000
set_option maxHeartbeats 4000000
namespace M
open PySem L2


section
open PySem PySem.Spec PyProof.Rows L2
variable {X : Cx} {ea eb ec ed : Expr} {ta tb tc td : TE} {pos : Pos}
/-- three comparisons in a row -/
def tChain3 (r r' r'' : R2) (ta tb tc td : TE) : TE := fun σ H Q => ta σ H fun x H1 => tb σ H1 fun y H2 => r x y H2 fun z H3 => ∃ k, z = .bl k ∧
  (if k = true then tc σ H3 fun u H4 => r' y u H4 fun z2 H5 => ∃ k2, z2 = .bl k2 ∧ (if k2 = true then td σ H5 fun v H6 => r'' u v H6 Q else Q (.bl false) H5) else Q (.bl false) H3)
theorem pt_chain3 {op op' op'' : CmpOp} {r r' r'' : R2} (ho : OpR X (compareOp op) r) (ho' : OpR X (compareOp op') r') (ho'' : OpR X (compareOp op'') r'') (ha : PE X ea ta) (hb : PE X eb tb) (hc : PE X ec tc) (hd : PE X ed td)
    (hm : lastMarks [op, op', op''] [eb, ec, ed] = false := by with_unfolding_all rfl) : PT X (.Compare ea [op, op', op''] [eb, ec, ed] pos) (tTest (tChain3 r r' r'' ta tb tc td)) := by
  refine ⟨fun pins s σ H Q I h => ?_⟩
  refine isTrue_chain (thn (ha.run pins s σ H _ I h) fun v s1 ⟨x, H1, I1, r1, q1⟩ => test_link (thn (hb.run pins s1 σ H1 _ I1 q1) fun u s2 ⟨y, H2, I2, r2, q2⟩ =>
    thn (ho pins s2 σ H2 x y v u _ I2 r1 r2 q2) fun d s3 ⟨z, H3, I3, r3, k, e, q3⟩ => ?_)) hm
  subst e
  cases r3
  refine wpAny_truthy_bool ?_
  cases k with
  | false =>
    obtain ⟨k', e', q'⟩ := q3
    cases e'
    exact ite_ff ⟨H3, I3, q'⟩
  | true =>
    refine ite_tt (test_link (thn (hc.run pins s3 σ H3 _ I3 q3) fun w' s4 ⟨z', H4, I4, r4, q4⟩ => thn (ho' pins s4 σ H4 y z' u w' _ I4 r2 r4 q4) fun d' s5 ⟨z2, H5, I5, r5, k2, e2, q5⟩ => ?_))
    subst e2
    cases r5
    refine wpAny_truthy_bool ?_
    cases k2 with
    | false =>
      obtain ⟨k', e', q'⟩ := q5
      cases e'
      exact ite_ff ⟨H5, I5, q'⟩
    | true =>
      refine ite_tt (test_last (thn (hd.run pins s5 σ H5 _ I5 q5) fun v' s6 ⟨z3, H6, I6, r6, q6⟩ => thn (ho'' pins s6 σ H6 z' z3 w' v' _ I6 r4 r6 q6) fun d'' s7 ⟨z4, H7, I7, r7, k3, e3, q7⟩ => ?_))
      subst e3
      cases r7
      exact wpAny_truthy_bool ⟨H7, I7, q7⟩
end

section
open PySem PySem.Spec PyProof.Rows L2
/-- the promise of a def that is only called where no object is being shown -/
structure FnG (P : Program) (w : World) (K : PySem.W.Frag) (mg : Str → Option Value) (base : Heap) (k : Nat) (f : Addr) (fd : FuncData) (ps : List Str) (sp : Sp) : Prop where
  size : ∀ vs H Q E, sp vs H Q E → vs.length = ps.length
  go : ∀ (A : Around) (outer : List Env) (s : Shared) (H : Hp) (us : List Value) (vs : List V) (Q : VK) (E : XK) (args : Args), A.guards = some [] → Room k A → Env0 P w K mg base A outer s H →
    BindsTo s fd args (ps.zip us) → Vals vs us → sp vs H Q E → codeAny (model P w) A (.call (.ref f) args) (CR CX0 outer P w H s Q E) s
theorem room66 {A : Around} {k : Nat} (hr : Room k A) : A.units + 66 < cLine := by
  have := hr.un
  omega
theorem guards_deeper (A : Around) (e : Env) : (A.deeper e).guards = A.guards := rfl
section
variable {P : Program} {w : World} {K : PySem.W.Frag} {mg : Str → Option Value} {base : Heap} {x qual : Str} {st : Stmt} {f : Addr} {fd : FuncData} {N ps : List Str} {k : Nat} {sp : Sp}
theorem fnG_mk (F : Fun K x qual st f fd) (S : FnScope N ps (defScope st)) (size : ∀ vs H Q E, sp vs H Q E → vs.length = ps.length)
    (body : ∀ (cdv : Value) (A : Around) (outer : List Env) (s : Shared) (H : Hp) (vs : List V) (Q : VK) (E : XK), (A.deeper (envOfC qual (defScope st) s.heap.objs.size f cdv)).guards = some [] →
      Room k (A.deeper (envOfC qual (defScope st) s.heap.objs.size f cdv)) → sp vs H Q E →
      ∃ t, PSs (cxOf CX0 P w K mg base N qual (defScope st) f cdv A outer s H E).nox (defBody st) t ∧ t { nx := fun _ H' => Q .non H', rt := Q } (start N vs) H) :
    FnG P w K mg base (k + 1) f fd ps sp := by
  obtain ⟨oc, od, kV, doc, pm, an, cdv, ct, osl, rfl, lk, hcd⟩ := F.ex
  refine ⟨size, ?_⟩
  intro A outer s H us vs Q E args gd hr e0 hb r hsp
  have old : ∀ b o, base.get? b = some o → s.heap.get? b = some o := fun b o z => (e0.bs b o z).1
  have kin := e0.mod.kin.keeps old
  have hkind : ∀ y ∈ ps.zip us, (defScope st).names.lookup y.1 = some .local ∨ ((defScope st).names.lookup y.1 = some .cell ∧ ((cellsFrom (s.heap.objs.size + 1) (defScope st).names []).lookup y.1).isSome = true) := by
    rintro ⟨n, v⟩ hy
    have := S.par n (List.of_mem_zip hy).1
    rcases this with z | z
    · exact .inl z
    · exact .inr ⟨z, PySem.W.cellsFrom_some _ _ _ (.inl z)⟩
  obtain ⟨t, ht, hq⟩ := body cdv A outer s H vs Q E gd (hr.deeper _) hsp
  refine codeAny_call_function hr.depth (kin _ _ lk) rfl S.co S.gen rfl (PySem.W.codeRec_of kin hcd) ?_
  refine hb _ _ _ _ (wpAny_newFunctionEnv_cells S.kind hkind ?_)
  rintro env rfl s1 y
  refine ⟨(e0.mod.nolimit.keeps old).keeps y.toInCall.keep, codeAny_func ?_⟩
  have I0 := inv_start (CX := CX0) (E := E) (cd := cdv) (f := f) (qual := qual) S hr.hd e0 (size _ _ _ _ hsp) r y
  refine wpAny_mono (ht.nox.run [] s1 _ H _ I0 hq) ?_ (fun _ _ z => z)
  intro fl s' hs
  cases fl with
  | ret u =>
    obtain ⟨v, σ', H', J, rv, z⟩ := hs
    exact ⟨v, H', J.os, J.bare, J.base, J.hok, rv, z⟩
  | next =>
    obtain ⟨σ', H', J, z⟩ := hs
    exact ⟨V.non, H', J.os, J.bare, J.base, J.hok, rfl, z⟩
  | brk => exact hs.elim fun _ h => h.elim fun _ h => h.2.elim
  | cont => exact hs.elim fun _ h => h.elim fun _ h => h.2.elim
end
section
variable {X : Cx} {k : Nat} {f : Addr} {fd : FuncData} {ps : List Str} {sp : Sp} {x : Str} {p pos : Pos} {e : Expr} {es : List Expr} {t : TA}
theorem pe_callG (F : FnG X.prog X.w X.K X.mg X.base k f fd ps sp) (gd : X.A.guards = some []) (hr : Room k X.A) (hg : Gl X x) (hm : X.mg x = some (.ref f)) (hk : PySem.W.keepIn X.K (.ref f) = true) (hb : Binds X.K fd ps [])
    (hx : Passes CX0 X E0) (ha : PA X (e :: es) t) (hdb : (x == ("__debug__" : Str)) = false := by decide) (he : starEach (e :: es) X.env = (false, eval e X.env) :: starEach es X.env := by rfl) (hpl : (backTo pos (starEach es X.env)).any (·.1) = false := by rfl) :
    PE X (.Call (.Name x p) (e :: es) [] pos) (tCall sp [] E0 t) := by
  constructor
  intro pins s σ H Q I h
  apply wpAny_Call_Name_kw
  refine ld_glob I hg hm ?_ hdb
  refine PySem.W.callWith_K (h₀ := X.base) I.ok.mod.kin hk (thn (ha.run pos pins s σ H _ I h) ?_) he hpl
  rintro us s1 ⟨vs, H1, I1, r, q⟩
  refine ⟨I1.kIn, ?_⟩
  rw [List.append_nil] at q
  have hl : us.length = ps.length := r.length.symm.trans (F.size _ _ _ _ q)
  have b := hb s1 us I1.kIn (by rw [List.append_nil]; exact hl)
  rw [List.append_nil] at b
  refine wpAny_call (codeAny_mono (F.go X.A X.stack s1 H1 us vs Q E0 ⟨us, []⟩ gd hr I1.env0 b r q) ?_)
  intro res s' hq
  cases res with
  | error e => exact hx pins σ H1 s1 e s' I1 hq
  | ok fl => cases fl <;> first | exact I1.after hq | exact False.elim hq
/-- repr of data -/
theorem call_reprD (gd : X.A.guards = some []) (hu : X.A.units + 66 < cLine) : CallR X (.builtin "repr") (fun xs H Q => ∃ (a : Addr) (d : PyData), xs = [.ref a] ∧ Dp X.K H (.ref a) d ∧ d.showable = true ∧ d.hasDict = false ∧ d.depth ≤ 64 ∧ d.shown.length ≤ sizeLine ∧ Q (.str d.shown) H) := by
  intro pins s σ H xs us Q I r h
  obtain ⟨a, d, rfl, hd, sh, nd, dp, sz, q⟩ := h
  cases r with
  | cons r1 r2 =>
    cases r2
    obtain ⟨as, rd⟩ := Dp.reads I d _ _ hd r1
    cases r1
    exact repr_of_reads' rd sh (fun z => by rw [nd] at z; cases z) gd (by omega) (fun _ _ z => z) (fun h' u tk z => ⟨.str d.shown, H, I.kept z, ⟨_, rfl⟩, q⟩) sz
end
/-- the law's call -/
theorem law_callG {P : Program} {w : World} {K : PySem.W.Frag} {mg mb : Str → Option Value} {k : Nat} {fa sa : Addr} {fd : FuncData} {x : Str} {sp : Sp} {s₁ : Shared} {vs : List Value} {ns : List Int}
    (KX : K.In s₁.heap) (hns : s₁.heap.Ns mainGlobals mg) (hb : s₁.heap.Ns builtinsNs mb) (hbb : ∀ x : Str, x ≠ "__name__" → mb x = bootBuiltins x) (hlim : s₁.heap.NoLimit) (hg : s₁.gens = #[])
    (ho : s₁.heap.get? sa = some { cls := .type "list", data := .seq vs.toArray }) (hi : IntsAre vs ns) (hl : ns.length ≤ sizeLine) (hr : Room k callerA)
    (F : ∀ base : Heap, K.In base → base.Ns mainGlobals mg → FnG P w K mg base k fa fd [x] sp) (hbind : ∀ (s : Shared) (u : Value), BindsTo s fd ⟨[u], []⟩ [(x, u)])
    (hsp : ∀ H : Hp, Only H → SqL K H sa (ns.map V.int) → sp [.ref sa] H (fun v _ => v = .bl true) fun _ _ _ => False) :
    codeAny (model P w) callerA (.call (.ref fa) ⟨[.ref sa], []⟩) (fun r s' => r = .ok (.ret (.bool true)) ∧ OldK s₁.heap s'.heap ∧ s'.os = s₁.os ∧ AllBare s'.gens) s₁ := by
  -- H tracks the script or nothing
  suffices main : ∀ H : Hp, Only H → SqL K H sa (ns.map V.int) → HOk P w H s₁.heap → (∀ b, H b ≠ none → b = sa) → (H sa ≠ none → K.lookup sa = none) →
      codeAny (model P w) callerA (.call (.ref fa) ⟨[.ref sa], []⟩) (fun r s' => r = .ok (.ret (.bool true)) ∧ OldK s₁.heap s'.heap ∧ s'.os = s₁.os ∧ AllBare s'.gens) s₁ by
    have rv := vals_ints hi
    cases hk : K.lookup sa with
    | none =>
      let H : Hp := fun b => if b = sa then some (.frz { cls := .type "list", data := .seq vs.toArray } (.lst (ns.map V.int))) else none
      have hH : H sa = some (.frz { cls := .type "list", data := .seq vs.toArray } (.lst (ns.map V.int))) := if_pos rfl
      have hN : ∀ b, b ≠ sa → H b = none := fun b z => if_neg z
      refine main H (fun b => ?_) (.inl (.inr ⟨_, hH⟩)) (fun b u z => ?_) (fun b z => ?_) fun _ => hk
      · by_cases c : b = sa
        · exact .inr ⟨_, _, by rw [c]; exact hH⟩
        · exact .inl (hN b c)
      · by_cases c : b = sa
        · subst c
          rw [hH] at z
          cases z
          exact ⟨ho, by rw [List.length_map]; exact hl, vs, _, rv, ho⟩
        · rw [hN b c] at z
          cases z
      · by_cases c : b = sa
        · exact c
        · exact absurd (hN b c) z
    | some o =>
      have z := KX sa o hk
      rw [ho] at z
      cases z
      exact main (fun _ => none) (fun _ => .inl rfl) (.inr ⟨_, vs.toArray, _, hk, rfl, rfl, rfl, by rw [List.size_toArray, hi.length]; exact hl, by simpa using rv⟩) (fun b u y => by cases y) (fun b y => absurd rfl y) fun y => absurd rfl y
  intro H hO hS hok hA hK
  have free : ∀ {b : Addr}, b ≠ sa → H b = none := fun {b} c => by
    cases z : H b with
    | none => rfl
    | some u => exact absurd (hA b (by rw [z]; simp)) c
  have dictFree : ∀ {b : Addr} {o : Obj} {es : Array DictEntry} {ep : Nat}, s₁.heap.get? b = some o → o.data = .dict es ep → H b = none := fun {b o es ep} e d => free fun c => by
    subst c
    rw [ho] at e
    cases e
    cases d
  have ns2 : ∀ {b : Addr} {m : Str → Option Value}, s₁.heap.Ns b m → (hidT s₁.heap H).Ns b m := by
    rintro b m ⟨o, es, ep, e, d, r⟩
    exact ⟨o, es, ep, hidT_get e (dictFree e d), d, r⟩
  have kin2 : K.In (hidT s₁.heap H) := by
    intro b o e
    refine hidT_get (KX b o e) ?_
    by_cases c : b = sa
    · subst c
      cases z : H b with
      | none => rfl
      | some u =>
        rw [hK (by rw [z]; simp)] at e
        cases e
    · exact free c
  have lim2 : (hidT s₁.heap H).NoLimit := by
    obtain ⟨mc, h1, h2⟩ := hlim
    exact ⟨mc, ns2 h1, h2⟩
  have env : Env0 P w K mg (hidT s₁.heap H) callerA [] s₁ H :=
    { frames := rfl, mod := ⟨kin2, ns2 hns, ⟨mb, ns2 hb, hbb⟩, lim2⟩, bs := fun b o e => of_hidT e, bsz := Nat.le_of_eq (hidT_size _ _), funs := trivial, frf := fun b z => by simp [frs] at z, hok := hok, bare := .of_eq hg }
  refine codeAny_mono ((F _ kin2 (ns2 hns)).go callerA [] s₁ H [.ref sa] [.ref sa] _ _ ⟨[.ref sa], []⟩ rfl hr env (hbind s₁ (.ref sa)) (.cons rfl .nil) (hsp H hO hS)) ?_
  intro res s' hres
  cases res with
  | error e => exact hres.elim
  | ok fl =>
    cases fl with
    | ret u =>
      obtain ⟨v, H', os, bare, un, hok', rv, qv⟩ := hres
      cases (show v = .bl true from qv)
      cases (show u = Value.bool true from rv)
      refine ⟨rfl, OldK.of_keep fun b o e => ?_, os, bare⟩
      rcases hO b with z | ⟨ob, xs, z⟩
      · exact un.keep b o e z (by simp [frs]) (by simp)
      · have z2 := un.frzs b ob _ z
        have e1 := (hok b _ z).1
        have e2 := (hok' b _ z2).1
        rw [e] at e1
        cases e1
        exact e2
    | next => exact hres.elim
    | brk => exact hres.elim
    | cont => exact hres.elim
theorem walkG {l : PySem.W.OpenLaw} {n k : Nat} {q : Program} {loose : List Str} {XP : (Str → Option Value) → Heap → Prop} {YP : World → Heap → Prop} {d : DefRec} {K : Params → PySem.W.Frag} {sp : World → Sp} {x : Str}
    (hn : l.most = some n) (hn2 : n ≤ sizeLine) (hdf : d.params.defaults = []) (hr : Room k callerA) (hY : ∀ (w : World) (h : Heap), YP w h → (K w.params).In h)
    (F : ∀ (w : World) (mg : Str → Option Value) (fa : Addr) (h : Heap), (K w.params).In h → h.Ns mainGlobals mg → mg d.name = some (.ref fa) →
      ∃ fd : FuncData, (∀ (s : Shared) (u : Value), BindsTo s fd ⟨[u], []⟩ [(x, u)]) ∧ ∀ base : Heap, (K w.params).In base → base.Ns mainGlobals mg → FnG l.prog w (K w.params) mg base k fa fd [x] (sp w))
    (hsp : ∀ (w : World) (H : Hp) (a : Addr) (ns : List Int), ns.length ≤ n → (∀ z ∈ ns, Builtin.Int.intBits z ≤ 1048576) → Only H → SqL (K w.params) H a (ns.map V.int) → sp w [.ref a] H (fun v _ => v = .bl true) fun _ _ _ => False) :
    PySem.W.WalkO q loose XP YP l.row.toRowW d [] (fun f vs => PySem.call f vs) := by
  apply Att.attach_callB hn hdf
  intro w s₀ s₁ mg mb fa o pm cd doc sa vs ns G Y ho hd hcd hmg hobj hints hlen hbits hg
  obtain ⟨fd, hb, hF⟩ := F w mg fa _ (hY w _ Y) G.T.g hmg
  exact law_callG (hY w _ Y) G.T.g G.T.b G.T.builtins G.T.nolimit hg hobj hints (Nat.le_trans hlen hn2) hr hF hb (fun H hO hS => hsp w H sa ns hlen hbits hO hS)
end

section
open PySem PySem.Spec PyProof.Rows L2
/-- data, or an empty dict -/
inductive An (K : PySem.W.Frag) (H : Hp) : V → PyData → Prop
  | dp {v : V} {d : PyData} (h : Dp K H v d) : An K H v d
  | dict {p : Addr} (e : H p = some (.dK [])) : An K H (.ref p) (.dict [])
mutual
theorem dp_up {K : PySem.W.Frag} {H H' : Hp} (k : Same H H') : ∀ {v : V} {d : PyData}, Dp K H v d → Dp K H' v d
  | _, _, .non => .non
  | _, _, .bl b => .bl b
  | _, _, .int i => .int i
  | _, _, .str x => .str x
  | _, _, .lst h hs => .lst (k.seq h) (dpall_up k hs)
  | _, _, .tup h hs => .tup (by
      rcases h with (h | ⟨u, h⟩) | h
      · exact .inl (.inl (k _ _ h))
      · exact .inl (.inr ⟨u, k _ _ h⟩)
      · exact .inr h) (dpall_up k hs)
theorem dpall_up {K : PySem.W.Frag} {H H' : Hp} (k : Same H H') : ∀ {vs : List V} {ds : List PyData}, DpAll K H vs ds → DpAll K H' vs ds
  | _, _, .nil => .nil
  | _, _, .cons h hs => .cons (dp_up k h) (dpall_up k hs)
end
mutual
theorem dp_nodict {K : PySem.W.Frag} {H : Hp} : ∀ {v : V} {d : PyData}, Dp K H v d → d.hasDict = false
  | _, _, .non => rfl
  | _, _, .bl b => rfl
  | _, _, .int i => rfl
  | _, _, .str x => rfl
  | _, _, .lst _ hs => by simp only [PyData.hasDict]; exact dpall_nodict hs
  | _, _, .tup _ hs => by simp only [PyData.hasDict]; exact dpall_nodict hs
theorem dpall_nodict {K : PySem.W.Frag} {H : Hp} : ∀ {vs : List V} {ds : List PyData}, DpAll K H vs ds → PyData.hasDictAll ds = false
  | _, _, .nil => rfl
  | _, _, .cons h hs => by simp only [PyData.hasDictAll, dp_nodict h, dpall_nodict hs, Bool.or_self]
end
theorem dpall_len {K : PySem.W.Frag} {H : Hp} : ∀ {vs : List V} {ds : List PyData}, DpAll K H vs ds → vs.length = ds.length
  | _, _, .nil => rfl
  | _, _, .cons _ hs => congrArg Nat.succ (dpall_len hs)
theorem dpall_get {K : PySem.W.Frag} {H : Hp} : ∀ {vs : List V} {ds : List PyData}, DpAll K H vs ds → ∀ {i : Nat} {v : V}, vs[i]? = some v → ∃ d, ds[i]? = some d ∧ Dp K H v d
  | _, _, .nil, i, v, e => by simp at e
  | _, _, .cons h hs, 0, v, e => by
    simp at e
    subst e
    exact ⟨_, rfl, h⟩
  | _, _, .cons h hs, i + 1, v, e => dpall_get hs (i := i) (by simpa using e)
theorem An.up {K : PySem.W.Frag} {H H' : Hp} (k : Same H H') {v : V} {d : PyData} (h : An K H v d) : An K H' v d := by
  cases h with
  | dp h => exact .dp (dp_up k h)
  | dict e => exact .dict (k _ _ e)
def wholeD : PyData → Bool
  | .int _ => true
  | _ => false
def isTup : PyData → Bool
  | .tuple _ => true
  | _ => false
theorem sql_ty {K : PySem.W.Frag} {H : Hp} {p : Addr} {xs : List V} (h : SqL K H p xs) : TyX K H (.ref p) (.type "list") := by
  rcases h with (h | ⟨u, h⟩) | ⟨o, its, n, h1, h2, _⟩
  · exact .base (.lst h)
  · exact .base (.frz h)
  · exact .kList h1 h2
theorem sqt_tyA {K : PySem.W.Frag} {H : Hp} {p : Addr} {xs : List V} (h : SqT K H p xs) : TyX K H (.ref p) (.type "tuple") := by
  rcases h with (h | ⟨u, h⟩) | ⟨o, its, n, h1, h2, _⟩
  · exact .base (.tup h)
  · exact .fTuple h
  · exact .kTuple h1 h2
/-- what isinstance says -/
theorem An.is {K : PySem.W.Frag} {H : Hp} {v : V} {d : PyData} (h : An K H v d) : ∃ (t : Value) (i b c : Bool), TyX K H v t ∧ PySem.W.kitOne K t (.type "int") = some i ∧ PySem.W.kitOne K t (.type "bool") = some b ∧ PySem.W.kitOne K t (.type "tuple") = some c ∧ (i && !b) = wholeD d ∧ c = isTup d := by
  cases h with
  | dict e => exact ⟨_, false, false, false, .base (.dK e), kit_ty (by decide +kernel), kit_ty (by decide +kernel), kit_ty (by decide +kernel), rfl, rfl⟩
  | dp h =>
    cases h with
    | non => exact ⟨_, false, false, false, .base .non, kit_ty (by decide +kernel), kit_ty (by decide +kernel), kit_ty (by decide +kernel), rfl, rfl⟩
    | bl b => exact ⟨_, true, true, false, .base (.bl b), kit_ty (by decide +kernel), kit_ty (by decide +kernel), kit_ty (by decide +kernel), rfl, rfl⟩
    | int i => exact ⟨_, true, false, false, .base (.int i), kit_ty (by decide +kernel), kit_ty (by decide +kernel), kit_ty (by decide +kernel), rfl, rfl⟩
    | str x => exact ⟨_, false, false, false, .base (.str x), kit_ty (by decide +kernel), kit_ty (by decide +kernel), kit_ty (by decide +kernel), rfl, rfl⟩
    | lst h _ => exact ⟨_, false, false, false, sql_ty h, kit_ty (by decide +kernel), kit_ty (by decide +kernel), kit_ty (by decide +kernel), rfl, rfl⟩
    | tup h _ => exact ⟨_, false, false, true, sqt_tyA h, kit_ty (by decide +kernel), kit_ty (by decide +kernel), kit_ty (by decide +kernel), rfl, rfl⟩
/-- a tuple of data -/
theorem An.tup {K : PySem.W.Frag} {H : Hp} {v : V} {ds : List PyData} (h : An K H v (.tuple ds)) : ∃ p xs, v = .ref p ∧ SqT K H p xs ∧ DpAll K H xs ds := by
  cases h with
  | dp h =>
    cases h with
    | tup h hs => exact ⟨_, _, rfl, h, hs⟩
section
variable {X : Cx}
/-- repr of any of these -/
theorem call_reprA (gd : X.A.guards = some []) (hu : X.A.units + 66 < cLine) : CallR X (.builtin "repr") (fun xs H Q => ∃ (x : V) (d : PyData), xs = [x] ∧ An X.K H x d ∧ d.showable = true ∧ d.depth ≤ 64 ∧ d.shown.length ≤ sizeLine ∧ Q (.str d.shown) H) := by
  intro pins s σ H xs us Q I r h
  obtain ⟨x, d, rfl, ha, sh, dp, sz, q⟩ := h
  cases r with
  | cons r1 r2 =>
    cases r2
    cases ha with
    | dict e =>
      cases r1
      obtain ⟨hz, hS, vs, r, o, es, ep, h1, h2, h3, h4⟩ := (show ObjOk X.prog X.w H s.heap _ (.dK []) from I.hok _ _ e)
      cases r
      have hes : es.toList = [] := by
        have z := h4.2.1
        generalize es.toList = l at z
        cases z
        rfl
      have rd : Reads s.heap (.ref _) (.dict []) (_ :: [] ++ []) := Reads.dict (kvs := []) (as := []) (bs := []) h1 h2.1 h3 (by rw [hes]; exact .nil) (by rw [hes]; exact .nil)
      refine repr_of_reads' rd rfl (fun _ z => ?_) gd (by show X.A.units + (1 + 1) < cLine; omega) (fun _ _ z => z) (fun h' u tk z => ⟨.str _, H, I.kept z, ⟨_, rfl⟩, q⟩) sz
      simp at z
      simp [z] at hS
    | dp hd =>
      cases hd with
      | non =>
        cases r1
        exact PySem.P.repr_of_none ⟨.str _, H, I.tok _, ⟨_, rfl⟩, q⟩
      | bl b =>
        cases r1
        exact PySem.P.repr_of_bool ⟨.str _, H, I.tok _, ⟨_, rfl⟩, q⟩
      | int i =>
        obtain ⟨t, rfl⟩ := r1
        exact PySem.P.repr_of_int (of_decide_eq_true sh) ⟨.str _, H, I.tok _, ⟨_, rfl⟩, q⟩
      | str z =>
        obtain ⟨t, rfl⟩ := r1
        exact PySem.P.repr_of_str ⟨.str _, H, I.tok _, ⟨_, rfl⟩, q⟩ sz
      | lst h hs =>
        obtain ⟨as, rd⟩ := Dp.reads I _ _ _ (.lst h hs) r1
        cases r1
        exact repr_of_reads' rd sh (fun z => by rw [dp_nodict (.lst h hs)] at z; cases z) gd (by omega) (fun _ _ z => z) (fun h' u tk z => ⟨.str _, H, I.kept z, ⟨_, rfl⟩, q⟩) sz
      | tup h hs =>
        obtain ⟨as, rd⟩ := Dp.reads I _ _ _ (.tup h hs) r1
        cases r1
        exact repr_of_reads' rd sh (fun z => by rw [dp_nodict (.tup h hs)] at z; cases z) gd (by omega) (fun _ _ z => z) (fun h' u tk z => ⟨.str _, H, I.kept z, ⟨_, rfl⟩, q⟩) sz
/-- min of a tuple of ints -/
theorem cr_minT (hc : X.calm = true) : CallR X (.builtin "min") (fun vs H Q => ∃ (a : Addr) (ns : List Int), vs = [V.ref a] ∧ SqT X.K H a (ns.map V.int) ∧ 0 < ns.length ∧ ∀ m, m ∈ ns → (∀ y, y ∈ ns → m ≤ y) → Q (.int m) H) := by
  intro pins s σ H vs us Q I r h
  obtain ⟨a, ns, rfl, hs, hne, q⟩ := h
  obtain ⟨its, rv, ht, _⟩ := I.tuple hs
  rw [Vals.ref1 r]
  have hi : IntsAre its ns := rv.ints
  obtain ⟨xs, e⟩ := hi.allInts.items
  have hn : numsOf (intItems xs).toList = ns := by rw [← e]; exact hi.numsOf
  rw [nums_intItems] at hn
  subst hn
  rw [e] at ht
  have hsz : 0 < xs.size := by simpa using hne
  have ht' : s.heap.IsTuple a (intItems xs) := ht
  have hlt : a < s.heap.objs.size := by
    obtain ⟨_, z, _⟩ := ht'
    exact Heap.lt_size z
  have hsz1 : ∀ o, (s.heap.push o).objs.size = s.heap.objs.size + 1 := fun o => Heap.size_push ..
  refine call_min_walk (wpAny_pyIter_tuple ht' ⟨_, _, _, _, _, _, _, rfl, Walks.tuple (A := X.A.in1) (I.ok.hd hc) _ a (Nat.ne_of_lt hlt) (intItems xs), ⟨⟨_, Heap.get?_push_size _ rfl, rfl, rfl⟩, ?_⟩, ?_, by simpa [intItems] using hsz, CmpOf.ints_lt (numAt xs) (fun _ _ => intItems_at), ?_⟩)
  · obtain ⟨o, z1, z2⟩ := ht'
    exact ⟨o, Heap.get?_push_of_some _ z1, z2⟩
  · intro b hb
    show b < (s.heap.push _).objs.size
    rw [hsz1]
    rcases List.mem_cons.mp hb with rfl | hb
    · exact Nat.lt_succ_self _
    · rcases List.mem_cons.mp hb with rfl | hb
      · exact Nat.lt_succ_of_lt hlt
      · cases hb
  · intro v h' tk hP hk
    have hv : (intItems xs)[argBest (fun i j => decide (numAt xs i < numAt xs j)) (xs.size - 1)]? = some v := by simpa [intItems] using hP
    obtain ⟨t, rfl⟩ := intItems_at hv
    obtain ⟨h1, h2⟩ := argBest_lt (numAt xs) (xs.size - 1)
    have kept : ∀ b o, s.heap.get? b = some o → h'.get? b = some o := fun b o z => hk b o (by simpa using Nat.ne_of_lt (Heap.lt_size z)) (Heap.get?_push_of_some _ z)
    refine ⟨.int _, H, I.kept kept, ⟨_, rfl⟩, q _ ?_ ?_⟩
    · rw [numAt_eq]; exact PySem.getD_mem (by rw [List.length_map, Array.length_toList]; omega)
    · intro z hz
      obtain ⟨j, hj, rfl⟩ := mem_getD hz
      rw [List.length_map, Array.length_toList] at hj
      rw [← numAt_eq]; exact h2 j (by omega)
end
end
section
open PySem PySem.Spec PyProof.Rows L2
/-- a caught exception that is kept: of the class cls, its dict d -/
def ExK (cls : Value) (d : Option Addr) (a : Addr) : HO := .ext fun h => ∃ (oe : Obj) (vs : Array Value), h.get? a = some oe ∧ Zc cls d oe ∧ oe.data = .fields vs
theorem exK_ok {P : Program} {w : World} {H : Hp} {h : Heap} {a : Addr} {cls : Value} {d : Option Addr} {oe : Obj} {vs : Array Value} (e : h.get? a = some oe) (z : Zc cls d oe) (hd : oe.data = .fields vs) : ObjOk P w H h a (ExK cls d a) :=
  ⟨⟨oe, vs, e, z, hd⟩, ⟨oe, e⟩, fun h1 h2 ⟨o, vs, e, z, hd⟩ k => ⟨o, vs, k _ e, z, hd⟩⟩
theorem exK_at {P : Program} {w : World} {H : Hp} {h : Heap} {a : Addr} {cls : Value} {d : Option Addr} (hok : HOk P w H h) (e : H a = some (ExK cls d a)) : ∃ (oe : Obj) (vs : Array Value), h.get? a = some oe ∧ Zc cls d oe ∧ oe.data = .fields vs := by
  obtain ⟨x, _⟩ := hok a _ e
  exact x
section
variable {X : Cx} {pins : List (Addr × Obj)} {σ : L2.St} {H : Hp} {s sI : Shared} {B : Heap}
/-- an exception that has landed, tracked -/
theorem inv_track {a : Addr} {o : HO} (J : Inv X pins σ H sI) (I : Inv X pins σ H s) (nI : sI.heap.get? a = none) (na : H a = none) (nL : a ≠ X.env.locals) (new : ObjOk X.prog X.w (upd H a o) s.heap a o) : Inv X pins σ (upd H a o) s := by
  refine ⟨I.ok, I.os, I.bare, ⟨I.base.keep, I.base.slot, fun b ob e n hx => ?_, I.base.there, fun b xs e => ?_, fun b ob u e => ?_, fun b ps e => ?_⟩, I.loc, I.cell, ?_, fun y c e => ?_, fun p hp => ?_, fun b u e => ?_, I.len⟩
  · rw [upd_ne (fun z => by
      subst z
      obtain ⟨o', e'⟩ := J.base.there _ _ e hx
      rw [nI] at e'; cases e')]
    exact I.base.free b ob e n hx
  · have z := I.base.tups b xs e
    rw [upd_ne (ne_of_none z na)]; exact z
  · have z := I.base.frzs b ob u e
    rw [upd_ne (ne_of_none z na)]; exact z
  · obtain ⟨m, z⟩ := I.base.tbls b ps e
    exact ⟨m, by rw [upd_ne (ne_of_none z na)]; exact z⟩
  · rw [upd_ne (fun z => nL z.symm)]; exact I.free
  · obtain ⟨v, z⟩ := J.cell y c e
    rw [upd_ne (fun q => by
      subst q
      obtain ⟨o', e', _⟩ := z
      rw [nI] at e'; cases e')]
    exact I.freeC y c e
  · obtain ⟨e1, e2, e3, e4, e5⟩ := I.pin p hp
    refine ⟨e1, ?_, e3, e4, e5⟩
    rw [upd_ne (fun q => by
      have z := (J.pin p hp).1
      rw [q, nI] at z; cases z)]
    exact e2
  · by_cases hb : b = a
    · subst hb
      rw [upd_same] at e
      cases e
      exact new
    · rw [upd_ne hb] at e
      exact (I.hok b u e).stay (fun c v _ q => q) (fun c q => by rw [upd_ne (ne_of_none q na)]; exact q) fun c xs q => by rw [upd_ne (ne_of_none q na)]; exact q
theorem inv_suiteK (I : Inv X pins σ H s) (a : Addr) : Inv (X.suite a (X.pn ++ pins)) [] σ H s where
  ok := I.ok.suite _ _
  os := I.os
  bare := I.bare
  base := I.base
  loc := I.loc
  cell := I.cell
  free := I.free
  freeC := I.freeC
  pin := fun p hp => I.pin p (by simpa using hp)
  hok := I.hok
  len := I.len
theorem inv_unsuiteK {a : Addr} {pn' : List (Addr × Obj)} (I : Inv (X.suite a (X.pn ++ pins)) pn' σ H s) (ok : X.Ok) : Inv X pins σ H s where
  ok := ok
  os := I.os
  bare := I.bare
  base := I.base
  loc := I.loc
  cell := I.cell
  free := I.free
  freeC := I.freeC
  pin := fun p hp => I.pin p (List.mem_append.mpr (.inl hp))
  hok := I.hok
  len := I.len
end
/-- an exception that came down from a try's body: B its ground, sI the state ahead of it, t the state now -/
structure Down (X : Cx) (pins : List (Addr × Obj)) (σ : L2.St) (H : Hp) (cls : Value) (d : Option Addr) (a : Addr) (B : Heap) (sI t : Shared) : Prop where
  inv : Inv X pins σ H sI
  gr : ∀ b o, sI.heap.get? b = some o → b ∉ frs X.stack → B.get? b = some o
  up : sI.heap.UpToSlots t.heap
  fl : HandSPX.FlyingZ B (X.env :: X.outer) a (Zc cls d) t.heap
  na : H a = none
  so : t.os = sI.os
  ag : AllBare t.gens
section
variable {X : Cx} {pins : List (Addr × Obj)} {σ : L2.St} {H : Hp} {cls : Value} {d : Option Addr} {a : Addr} {B : Heap} {sI t : Shared}
theorem Down.here (z : Down X pins σ H cls d a B sI t) : Inv X pins σ H t := z.inv.landed z.gr z.fl.1 z.up z.so z.ag
theorem Down.again (z : Down X pins σ H cls d a B sI t) {h : Heap} (f : HandSPX.FlyingZ B (X.env :: X.outer) a (Zc cls d) h) (u : t.heap.UpToSlots h) : Down X pins σ H cls d a B sI { t with heap := h } :=
  ⟨z.inv, z.gr, z.up.trans u, f, z.na, z.so, z.ag⟩
theorem Down.apart (z : Down X pins σ H cls d a B sI t) : a ∉ frs (X.env :: X.outer) := fun hm => by
  obtain ⟨oe, vs, he, _, hd⟩ := z.fl.there
  obtain ⟨_, o2, e2, no⟩ := z.fl.2.2.1.mem hm
  exact no vs (by rw [he] at e2; cases e2; exact hd)
theorem Down.nloc (z : Down X pins σ H cls d a B sI t) (hf : X.env.frame = some X.env.locals) : a ≠ X.env.locals := fun q => by
  refine z.apart ?_
  rw [q]
  exact List.mem_filterMap.mpr ⟨X.env, .head _, hf⟩
theorem Down.new (z : Down X pins σ H cls d a B sI t) (hs : X.stack = X.env :: X.outer) : sI.heap.get? a = none := by
  have n := z.apart
  rw [← hs] at n
  have nB : B.get? a = none := z.fl.2.1
  by_cases q : sI.heap.get? a = none
  · exact q
  · obtain ⟨o, e⟩ := Option.ne_none_iff_exists'.mp q
    rw [z.gr a o e n] at nB
    cases nB
theorem Down.kept (z : Down X pins σ H cls d a B sI t) (hs : X.stack = X.env :: X.outer) (hf : X.env.frame = some X.env.locals) : Inv X pins σ (upd H a (ExK cls d a)) t := by
  obtain ⟨oe, vs, he, hz, hd⟩ := z.fl.there
  exact inv_track z.inv z.here (z.new hs) z.na (z.nloc hf) (exK_ok he hz hd)
/-- the class of a clause, asked of it -/
theorem Down.asks {x : Str} {c : Value} {b : Bool} {np : Pos} {Q : Bool → Shared → Prop} {E : Value → Shared → Prop} (z : Down X pins σ H cls d a B sI t) (hc : Names X x c) (hb : PySem.W.exmOne X.K cls c = some b) (q : Q b t) :
    wpAny (model X.prog X.w) (X.A.mark (some (.ref a))) (eval (.Name x np) X.env) (fun v s1 => wpAny (model X.prog X.w) (X.A.mark (some (.ref a))) (excMatches (.ref a) v) Q E s1) E t := by
  obtain ⟨oe, vs, he, hz, hd⟩ := z.fl.there
  have ty : PySem.W.Looks (model X.prog X.w) t.heap (typeOf (.ref a)) cls := by
    intro A Q E s k q
    exact wpAny_typeOf_ref (k _ _ he) (hz.1 ▸ q)
  have m := (PySem.W.exm_one (M := model X.prog X.w) z.here.kIn ty hb).here (A := X.A.mark (some (.ref a))) (E := E) q
  have S := inv_suiteK z.here a
  obtain ⟨g, nd, h | ⟨h, v, nn⟩⟩ := hc
  · exact ld_glob S g h m nd
  · exact ld_blt S g h v m nn nd
end
/-- where a suite ends, its name gone -/
def offAt (i : Nat) (D : Ends) : Ends where
  nx := fun σ H => D.nx (σ.set i none) H
  rt := D.rt
  bk := fun σ H => D.bk (σ.set i none) H
  ct := fun σ H => D.ct (σ.set i none) H
/-- the clauses of a try: except x as n (its slot), or except x -/
inductive HK (X : Cx) : List ExceptHandler → List (Value × Option Nat × (Addr → Value → Option Addr → TS)) → Prop
  | nil : HK X [] []
  | named {x n : Str} {c : Value} {i : Nat} {ts : Addr → Value → Option Addr → TS} {b0 : Stmt} {suite : List Stmt} {np pos : Pos} {hds : List ExceptHandler} {l : List (Value × Option Nat × (Addr → Value → Option Addr → TS))}
      (hc : Names X x c) (hi : X.N[i]? = some n) (hk : X.env.kindOf n = some .local) (su : ∀ (a : Addr) (cls : Value) (d : Option Addr) (pn : List (Addr × Obj)), PSs (X.suite a pn) (b0 :: suite) (ts a cls d)) (r : HK X hds l) :
      HK X (.ExceptHandler (some (.Name x np)) (some n) (b0 :: suite) pos :: hds) ((c, some i, ts) :: l)
  | bare {x : Str} {c : Value} {ts : Addr → Value → Option Addr → TS} {b0 : Stmt} {suite : List Stmt} {np pos : Pos} {hds : List ExceptHandler} {l : List (Value × Option Nat × (Addr → Value → Option Addr → TS))}
      (hc : Names X x c) (su : ∀ (a : Addr) (cls : Value) (d : Option Addr) (pn : List (Addr × Obj)), PSs (X.suite a pn) (b0 :: suite) (ts a cls d)) (r : HK X hds l) :
      HK X (.ExceptHandler (some (.Name x np)) none (b0 :: suite) pos :: hds) ((c, none, ts) :: l)
/-- what the clauses wish of an exception of the body -/
def wHK (K : PySem.W.Frag) (W : WX) (D : Ends) : List (Value × Option Nat × (Addr → Value → Option Addr → TS)) → WX
  | [] => W
  | (c, some i, ts) :: l => fun cls d σ H => ∃ b, PySem.W.exmOne K cls c = some b ∧ (b = true → ∀ a, H a = none → ts a cls d (offAt i D) (σ.set i (some (.ref a))) (upd H a (ExK cls d a))) ∧ (b = false → wHK K W D l cls d σ H)
  | (c, none, ts) :: l => fun cls d σ H => ∃ b, PySem.W.exmOne K cls c = some b ∧ (b = true → ∀ a, H a = none → ts a cls d D σ (upd H a (ExK cls d a))) ∧ (b = false → wHK K W D l cls d σ H)
section
variable {X : Cx} {W : WX} {D : Ends} {hds : List ExceptHandler} {l : List (Value × Option Nat × (Addr → Value → Option Addr → TS))}
theorem handledK (hs : X.stack = X.env :: X.outer) (hf : X.env.frame = some X.env.locals) (hN : X.N.Nodup) (tk : Takes X W) (hh : HK X hds l) :
    ∀ {pins : List (Addr × Obj)} {σ : L2.St} {H : Hp} {cls : Value} {d : Option Addr} {a : Addr} {B : Heap} {sI t : Shared}, Down X pins σ H cls d a B sI t → wHK X.K W D l cls d σ H →
      wpAny (model X.prog X.w) X.A (handleBy (.ref a) X.env hds) (SP X pins D) X.xe t := by
  induction hh with
  | nil =>
    intro pins σ H cls d a B sI t z w
    have go : wpAny (model X.prog X.w) X.A (setFlight (.ref a) X.env.frame) (fun _ s4 => wpAny (model X.prog X.w) X.A (throw (.ref a) : Sem Flow) (SP X pins D) X.xe s4) X.xe t := by
      rw [hf]
      refine HandSPX.setFlight_upZ z.fl fun h hh u => ?_
      refine wpAny_throw (tk _ _ ?_)
      exact ⟨a, B, sI, pins, σ, H, cls, d, rfl, z.inv, z.gr, z.up.trans u, .inr (.inr (hs ▸ hh)), z.na, z.so, z.ag, w⟩
    obtain ⟨_, _, _, oe, vs, T, _, _, he, _, hd, h1, _⟩ := id z.fl
    apply wpAny_handleBy_nil
    unfold PySem.passOn
    apply wpAny_bind
    apply wpAny_field he hd h1
    rw [if_neg (by simp)]
    first
      | exact wpAny_bind (wpAny_pure (wpAny_bind go))
      | exact wpAny_bind go
  | @named x n c i ts b0 suite np pos hds l hc hi hk su r ih =>
    intro pins σ H cls d a B sI t z w
    obtain ⟨b, hb, yes, no⟩ := w
    refine wpAny_handleBy_cons (codeAny_handlers_test (z.asks hc hb ?_)) fun q => by cases q
    cases b with
    | false => exact ih z (no rfl)
    | true =>
      refine codeAny_handlers_suite_as (HandSPX.lands_againZ z.fl fun h f u => ?_)
      have S := inv_suiteK ((z.again f u).kept hs hf) a
      refine store_ok (X := X.suite a (X.pn ++ pins)) (v := .ref a) S hN hi (.inl hk) rfl (fun s5 S5 => ?_) (.inr hk)
      refine wpAny_mono ((su a cls d (X.pn ++ pins)).run [] s5 _ _ _ S5 (yes rfl a z.na)) (fun fl s6 e6 => ?_) fun _ _ q => q.elim
      cases fl with
      | next => obtain ⟨σ6, H6, S6, q6⟩ := e6; exact gone_ok (inv_unsuiteK S6 z.inv.ok) hN hi hk fun s7 J7 => ⟨_, _, J7, q6⟩
      | brk => obtain ⟨σ6, H6, S6, q6⟩ := e6; exact gone_ok (inv_unsuiteK S6 z.inv.ok) hN hi hk fun s7 J7 => ⟨_, _, J7, q6⟩
      | cont => obtain ⟨σ6, H6, S6, q6⟩ := e6; exact gone_ok (inv_unsuiteK S6 z.inv.ok) hN hi hk fun s7 J7 => ⟨_, _, J7, q6⟩
      | ret u => obtain ⟨v6, σ6, H6, S6, r6, q6⟩ := e6; exact gone_ok (inv_unsuiteK S6 z.inv.ok) hN hi hk fun s7 J7 => ⟨_, _, _, J7, r6, q6⟩
  | @bare x c ts b0 suite np pos hds l hc su r ih =>
    intro pins σ H cls d a B sI t z w
    obtain ⟨b, hb, yes, no⟩ := w
    refine wpAny_handleBy_cons (codeAny_handlers_test (z.asks hc hb ?_)) fun q => by cases q
    cases b with
    | false => exact ih z (no rfl)
    | true =>
      refine codeAny_handlers_suite (HandSPX.lands_againZ z.fl fun h f u => ?_)
      have S := inv_suiteK ((z.again f u).kept hs hf) a
      refine wpAny_mono ((su a cls d (X.pn ++ pins)).run [] _ _ _ _ S (yes rfl a z.na)) (fun fl s6 e6 => ?_) fun _ _ q => q.elim
      cases fl with
      | next => obtain ⟨σ6, H6, S6, q6⟩ := e6; exact ⟨_, _, inv_unsuiteK S6 z.inv.ok, q6⟩
      | brk => obtain ⟨σ6, H6, S6, q6⟩ := e6; exact ⟨_, _, inv_unsuiteK S6 z.inv.ok, q6⟩
      | cont => obtain ⟨σ6, H6, S6, q6⟩ := e6; exact ⟨_, _, inv_unsuiteK S6 z.inv.ok, q6⟩
      | ret u => obtain ⟨v6, σ6, H6, S6, r6, q6⟩ := e6; exact ⟨_, _, _, inv_unsuiteK S6 z.inv.ok, r6, q6⟩
/-- try: body, any clauses; what is caught stays known behind the suite -/
theorem ps_tryK {body : List Stmt} {h0 : ExceptHandler} {pos : Pos} {tb : WX → TS} (hs : X.stack = X.env :: X.outer) (hf : X.env.frame = some X.env.locals) (hN : X.N.Nodup) (tk : Takes X W) (hh : HK X (h0 :: hds) l)
    (hb : ∀ (V : WX) (pn : List (Addr × Obj)) (xe : Value → Shared → Prop), Takes (X.tr pn xe) V → PassesOwn (model X.prog X.w) X.A X.env xe → PSs (X.tr pn xe) body (tb V)) :
    PS X (.Try body (h0 :: hds) [] [] pos) (fun D σ H => tb (wHK X.K W D l) D σ H) := by
  constructor
  intro pins s σ H D I h
  have fr : X.A.frames = some (X.env :: X.outer) := hs ▸ I.ok.frames
  apply wpAny_Try_except
  let xe : Value → Shared → Prop := fun e s1 => wpAny (model X.prog X.w) X.A (noteFrame e X.env) (fun _ s2 => wpAny (model X.prog X.w) X.A (setFlight e none) (fun _ s3 =>
    wpAny (model X.prog X.w) X.A (handleBy e X.env (h0 :: hds)) (SP X pins D) X.xe s3) X.xe s2) X.xe s1
  have T : Takes (X.tr (X.pn ++ pins) xe) (wHK X.K W D l) := fun u t y => by
    obtain ⟨a, B, sI, _, σ1, H1, cls, d, rfl, J, gr, up, sky, na, so, ag, w⟩ := y
    have sky1 : Sky B (X.env :: X.outer) a (Zc cls d) X.env.locals t.heap := hs ▸ sky
    exact Sky.land Zc.steady fr hf sky1 fun h3 f3 u3 => handledK hs hf hN tk hh ⟨J.ofTry I.ok, gr, up.trans u3, f3, na, so, ag⟩ w
  refine wpAny_mono ((hb (wHK X.K W D l) (X.pn ++ pins) xe T PassesOwn.looking).run [] s σ H D (I.toTry _) h) (fun f s1 e => ?_) fun _ _ q => q
  cases f with
  | next => obtain ⟨σ1, H1, J, q⟩ := e; exact wpAny_execs_nil ⟨σ1, H1, J.ofTry I.ok, q⟩
  | brk => obtain ⟨σ1, H1, J, q⟩ := e; exact ⟨σ1, H1, J.ofTry I.ok, q⟩
  | cont => obtain ⟨σ1, H1, J, q⟩ := e; exact ⟨σ1, H1, J.ofTry I.ok, q⟩
  | ret u => obtain ⟨v, σ1, H1, J, r, q⟩ := e; exact ⟨v, σ1, H1, J.ofTry I.ok, r, q⟩
end
/-- e.f of a kept exception -/
def tXk (C : Addr) (f : Str) (te : TE) : TE := fun σ H Q => te σ H fun x H1 => ∃ (a dd : Addr) (fs : List (Str × V)) (v : V), x = .ref a ∧ H1 a = some (ExK (.ref C) (some dd) a) ∧ H1 dd = some (.xd fs) ∧ fs.lookup f = some v ∧ Q v H1
theorem pe_xk {X : Cx} {C : Addr} {e : Expr} {te : TE} {pos : Pos} {n : Str} (T : XfC X.K C) (hno : PySem.W.findIn X.K (.ref C) n = some none) (he : PE X e te) (hb : attributeBase e n X.env (eval e X.env) = eval e X.env := by rfl) :
    PE X (.Attribute e n pos) (tXk C n te) := by
  constructor
  intro pins s σ H Q I h
  apply attr_of hb
  refine thn (he.run pins s σ H _ I h) ?_
  rintro u s1 ⟨x, H1, I1, rx, a, dd, fs, v, rfl, ek, ea, l, q⟩
  cases rx
  obtain ⟨oe, vs, there, ⟨zc, zd⟩, fv⟩ := exK_at I1.hok ek
  obtain ⟨mA, ns, rel⟩ : ∃ mA, s1.heap.Ns1 dd mA ∧ ∀ g, RelO (fs.lookup g) (mA g) := I1.hok dd _ ea
  obtain ⟨od, look, found⟩ := lookIn_ns ns
  have rv := rel n
  rw [l] at rv
  obtain ⟨u, mu, ru⟩ := RelO.some_of rv
  have no : PySem.W.notCls oe = true := by unfold PySem.W.notCls; rw [fv] <;> rfl
  have at_ : PySem.W.InstAt s1.heap a oe C (some od) := ⟨there, zc, no, by rw [zd]; exact look⟩
  have own := PySem.W.findObj_own (K := X.K) (C := C) (od := od) (name := n) (v := u) T.hdC hno rfl ((found n).trans (congrArg some mu))
  exact HandSPX.exc_get I1.kIn at_ T.ga T.gg T.exC own (handed_of ru) ⟨v, H1, I1.tok _, ru, q⟩
/-- a method called where an exception of it is awaited, by the slots as they stand -/
def tMethS (C : Addr) (m : Str) (sp : Sp) (E : L2.St → XK) (ta : TE) (t : TA) : TE := fun σ H Q => ta σ H fun x H1 => ∃ a dx fs, x = .ref a ∧ H1 a = some (.ins C dx fs) ∧ fs.lookup m = none ∧ t σ H1 fun vs H2 => sp (.ref a :: vs) H2 Q (E σ)
theorem pe_methS {X : Cx} {CX : CXT} {k : Nat} {f C : Addr} {fd : FuncData} {ps : List Str} {sp : Sp} {E : L2.St → XK} {m : Str} {pos apos : Pos} {e o : Expr} {es : List Expr} {ta : TE} {t : TA} {pl : Sem Bool} (he : PE X o ta) (c : Cls X.K C) (hm : Meth X.K C m f)
    (F : FnOk X.prog X.w X.K X.mg X.base CX k f fd ps sp) (hr : Room k X.A) (hb : Binds X.K fd ps []) (hx : ∀ σ, PassesAt CX X σ (E σ)) (ha : PA X (e :: es) t) (hst : starEach (e :: es) X.env = (false, eval e X.env) :: starEach es X.env := by rfl)
    (hpl : (backTo pos (starEach es X.env)).any (·.1) = false := by rfl)
    (ht : eval (.Call (.Attribute o m apos) (e :: es) [] pos) X.env = (do let ov ← eval o X.env; standAt apos.atName; let (f, first) ← holding [ov] (getMethod ov m pl); callWith pos f first (backTo pos (starEach (e :: es) X.env)) (backToKw pos (keywordEach [] X.env))) := by rfl) :
    PE X (.Call (.Attribute o m apos) (e :: es) [] pos) (tMethS C m sp E ta t) := by
  constructor
  intro pins s σ H Q I h
  refine PySem.W.methodCall_KW (pl := pl) (thn (he.run pins s σ H _ I h) ?_) ht
  rintro u s1 ⟨x, H1, I1, rx, a, dx, fs, rfl, ea, l, q⟩
  cases rx
  apply getmeth_ok I1 ea c hm l
  refine PySem.W.callWith_K (first := [.ref a]) (h₀ := X.base) I.ok.mod.kin hm.kp (thn (ha.run pos pins s1 σ H1 _ I1 q) ?_) hst hpl
  rintro us s2 ⟨vs, H2, I2, r, q2⟩
  exact ⟨I2.kIn, run_fnS (us := .ref a :: us) (vs := .ref a :: vs) F hr hb (hx σ) I2 (.cons rfl r) q2⟩
end
section
open PySem PySem.Spec PyProof.Rows L2
/-- isinstance(e, c), e a kept exception of an own class D with a dict -/
def rIsK (K : PySem.W.Frag) : List V → Hp → VK → Prop := fun xs H Q => ∃ (x D dd : Addr) (fs : List (Str × V)) (c : V) (cv : Value) (b : Bool), xs = [.ref x, c] ∧ ExcC K D ∧ H x = some (ExK (.ref D) (some dd) x) ∧ H dd = some (.xd fs) ∧ (∀ u, RelV c u → u = cv) ∧ PySem.W.kitOne K (.ref D) cv = some b ∧ Q (.bl b) H
theorem call_isK {X : Cx} : CallR X (.builtin "isinstance") (rIsK X.K) := by
  intro pins s σ H xs us Q I r h
  obtain ⟨x, D, dd, fs, c, cv, b, rfl, Z, ek, ed, hcv, e, q⟩ := h
  obtain ⟨oe, vs, there, ⟨zc, zd⟩, fv⟩ := exK_at I.hok ek
  obtain ⟨mA, ns, _⟩ : ∃ mA, s.heap.Ns1 dd mA ∧ ∀ g, RelO (fs.lookup g) (mA g) := I.hok dd _ ed
  obtain ⟨od, look, _⟩ := lookIn_ns ns
  have no : PySem.W.notCls oe = true := by unfold PySem.W.notCls; rw [fv] <;> rfl
  have at_ : PySem.W.InstAt s.heap x oe D (some od) := ⟨there, zc, no, by rw [zd]; exact look⟩
  have hcl : (PySem.W.clsIn X.K D).isSome = true := by
    obtain ⟨cd, hc, _⟩ := PySem.W.any_some Z.hd
    rw [hc]; rfl
  match us, r with
  | [_, u], .cons rx (.cons rc .nil) =>
    cases rx
    cases hcv _ rc
    exact PySem.W.kia_one (PySem.W.kitx_exc hcl Z.hg Z.hk Z.hs Z.ha Z.hn Z.ht Z.hm) I.kIn at_ e (fun z => nomatch z) fun tk => ⟨.bl b, H, I.kept (t' := tk) fun _ _ z => z, rfl, q⟩
end
namespace XB
open PySem PySem.Spec PyProof.Rows PySem.Builtin PySem.Builtin.ObjectAttr
/-- what is asked of a built-in error class that own ones stand under: B the one whose __new__ makes them, bm the line of the one they stand under -/
structure Facts (B newId initId : String) (bm : List Value) : Prop where
  base : ∃ bmB, ExcBaseFacts B newId initId bmB
  hB : bm.contains (.type B) = true
  hA : bm.contains (.type "AttributeError") = false
  hN : bm.contains (.type "NameError") = false
  free : ∀ self : Value, refuseLoop self "__setattr__" bm = pure ()
  thing : bm.contains (.type "object") = true
theorem lookupError : Facts "LookupError" "LookupError.__new__" "LookupError.__init__" [.type "LookupError", .type "Exception", .type "BaseException", .type "object"] := ⟨⟨_, PySem.F.excBase_LookupError⟩, by decide +kernel, by decide +kernel, by decide +kernel, fun _ => by kernel_rfl, by decide +kernel⟩
theorem runtimeError : Facts "RuntimeError" "RuntimeError.__new__" "RuntimeError.__init__" [.type "RuntimeError", .type "Exception", .type "BaseException", .type "object"] := ⟨⟨_, PySem.F.excBase_RuntimeError⟩, by decide +kernel, by decide +kernel, by decide +kernel, fun _ => by kernel_rfl, by decide +kernel⟩
theorem indexError : Facts "IndexError" "IndexError.__new__" "IndexError.__init__" [.type "IndexError", .type "LookupError", .type "Exception", .type "BaseException", .type "object"] := ⟨⟨_, PySem.F.excBase_IndexError⟩, by decide +kernel, by decide +kernel, by decide +kernel, fun _ => by kernel_rfl, by decide +kernel⟩
theorem valueError : Facts "ValueError" "ValueError.__new__" "ValueError.__init__" [.type "ValueError", .type "Exception", .type "BaseException", .type "object"] := ⟨⟨_, PySem.F.excBase_ValueError⟩, by decide +kernel, by decide +kernel, by decide +kernel, fun _ => by kernel_rfl, by decide +kernel⟩
/-- under an own class that stands there -/
theorem Facts.under {W : Addr} {B newId initId : String} {bm : List Value} (T : Facts B newId initId bm) : Facts B newId initId (.ref W :: bm) :=
  ⟨T.base, by rw [List.contains_cons, T.hB, Bool.or_true], by rw [List.contains_cons, T.hA]; rfl, by rw [List.contains_cons, T.hN]; rfl, fun self => by rw [refuseLoop_ref]; exact T.free self, by rw [List.contains_cons, T.thing, Bool.or_true]⟩
/-- a KeyError has no __new__ of its own -/
theorem keyError : Facts "LookupError" "LookupError.__new__" "LookupError.__init__" [.type "KeyError", .type "LookupError", .type "Exception", .type "BaseException", .type "object"] := ⟨⟨_, PySem.F.excBase_LookupError⟩, by decide +kernel, by decide +kernel, by decide +kernel, fun _ => by kernel_rfl, by decide +kernel⟩
section
variable {prog : Program} {w : World} {A : Around} {E : Value → Shared → Prop} {R : Result → Shared → Prop} {h : Heap} {g : Array GenState} {d : Drawn} {t : Nat} {os : OsState}
variable {nm q : Str} {C N : Addr} {bs bm : List Value} {hdct : Bool} {sn : List Str} {sub : List Value} {ab : Bool} {col : Option Bool} {dd : Option Addr} {k0 k1 k2 k3 k5 : Option Value} {B newId initId : String}
/-- the new one is laid by __new__ -/
theorem mk_new (T : Facts B newId initId bm) {rest : List Value} (hC : h.get? C = some (excClassObj nm q C N bs bm hdct sn sub ab col dd k0 k1 k2 k3 k5 newId)) (few : rest.length ≤ sizeLine)
    (go : R (.ok (.ret (.ref (h.objs.size + 1)))) ⟨(h.push (W.kdv_tup rest)).push (PySem.HandSPX.excO C h.objs.size), g, d, t, os⟩) : codeAny (model prog w) A (.builtin newId ⟨.ref C :: rest, []⟩) R ⟨h, g, d, t, os⟩ := by
  obtain ⟨bmB, F⟩ := T.base
  have e1 : (Value.ref C :: bm).contains (.type B) = true := by rw [List.contains_cons, T.hB, Bool.or_true]
  have e2 : (Value.ref C :: bm).contains (.type "AttributeError") = false := by rw [List.contains_cons, T.hA]; rfl
  have e3 : (Value.ref C :: bm).contains (.type "NameError") = false := by rw [List.contains_cons, T.hN]; rfl
  have e4 := F.ends
  refine codeAny_builtinAt F.entry ?_
  unfold Builtin.«BaseException.__new__»
  refine PySem.wpAt_bind (?_ : PySem.wpAt _ _ _ (stack >>= _) _ _ _)
  refine PySem.wpAt_bind (PySem.wpAt_stack fun _ _ => PySem.wpAt_of_wpAny ?_)
  wp_walk
  refine PySem.wpAt_of_wpAny (?_)
  rw [F.owner]
  repeat (first | (with_reducible refine wpAny_madeHere_exc F.canon hC ?_) | (with_reducible refine wpAny_loadPart_at hC ?_) | (with_reducible refine wpAny_isSubtype_exc hC ?_; (first | rw [e1] | rw [e2] | rw [e3])) | wp_step)
  show R _ _
  rw [Heap.size_push]
  exact go
theorem chk_new (T : Facts B newId initId bm) {rest : List Value} {Q : Unit → Shared → Prop} (hC : h.get? C = some (excClassObj nm q C N bs bm hdct sn sub ab col dd k0 k1 k2 k3 k5 newId)) (go : Q () ⟨h, g, d, t, os⟩) :
    wpAny (model prog w) A (checkBuiltinCall newId ⟨.ref C :: rest, []⟩) Q E ⟨h, g, d, t, os⟩ := by
  obtain ⟨bmB, F⟩ := T.base
  have e1 : (Value.ref C :: bm).contains (.type B) = true := by rw [List.contains_cons, T.hB, Bool.or_true]
  have e4 := F.noStar
  simp only [checkBuiltinCall, F.newRow, F.newSplit, F.newKind]
  repeat (first | refine wpAny_loadPart_at hC ?_ | (refine wpAny_isSubtype_exc hC ?_; (rw [e1])) | refine wpAny_madeBy_exc hC ?_ | refine wpAny_staticBase_exc hC ?_ | (simp only [bne_self_eq_false, Bool.false_eq_true, if_false]) | wp_step)
  exact go
theorem call_typ (T : Facts B newId initId bm) {rest : List Value} {fI : Addr} {Q : Fin → Shared → Prop} (hC : h.get? C = some (excClassObj nm q C N bs bm hdct sn sub ab col dd k0 k1 k2 k3 k5 newId)) (few : rest.length ≤ sizeLine)
    (hi : W.Looks (model prog w) h (typeLookup (.ref C) "__init__") (some (.ref fI))) (hb : ∀ self, W.Looks (model prog w) h (bindSpecial (.ref fI) self) (.ref fI, [self]))
    (go : codeAny (model prog w) A (.call (.ref fI) ⟨.ref (h.objs.size + 1) :: rest, []⟩) (fun r s' => match r with | .ok (.ret v) => v = .none ∧ Q (.done (.ret (.ref (h.objs.size + 1)))) s' | .ok _ => False | .error e => E e s') ⟨(h.push (W.kdv_tup rest)).push (PySem.HandSPX.excO C h.objs.size), g, d, t, os⟩) :
    wpAny (model prog w) A (Builtin.«type.__call__» ⟨.ref C :: rest, []⟩) Q E ⟨h, g, d, t, os⟩ := by
  obtain ⟨bmB, F⟩ := T.base
  repeat (first | (with_reducible refine wpAny_loadPart_at hC ?_) | (with_reducible refine wpAny_madeBy_exc hC ?_) | wp_step)
  refine codeAny_call_builtin_code (Code.quiet_builtin _ F.quiet) (chk_new T hC (mk_new T hC few ?_))
  show wpAny _ _ _ _ _ _
  have up : ∀ b o, h.get? b = some o → ((h.push (W.kdv_tup rest)).push (PySem.HandSPX.excO C h.objs.size)).get? b = some o := fun _ _ z => Heap.get?_push_of_some _ (Heap.get?_push_of_some _ z)
  have hC1 := up _ _ hC
  have at1 : ((h.push (W.kdv_tup rest)).push (PySem.HandSPX.excO C h.objs.size)).get? (h.objs.size + 1) = some (PySem.HandSPX.excO C h.objs.size) := by heap_get
  have e1 : (Value.ref C :: bm).contains (.ref C) = true := by simp
  have i1 := hi.keeps up
  have b1 := (hb (.ref (h.objs.size + 1))).keeps up
  unfold isInstance
  repeat (first | (with_reducible refine wpAny_loadPart_at at1 ?_) | (with_reducible refine wpAny_isSubtype_exc hC1 ?_; (rw [e1])) | wp_step)
  refine (i1.at ?_ : wpAny _ _ (typeLookup (.ref C) _) _ _ _)
  refine wpAny_holding (wpAny_bind (b1.at (wpAny_bind (wpAny_call (codeAny_mono go fun r s' z => ?_)))))
  rcases r with e | (v | _ | _ | _) <;> first | exact z.elim | exact z | skip
  obtain ⟨rfl, z⟩ := z
  first | exact wpAny_pure (wpAny_pure z) | (wp_walk; exact z)
theorem call_cls (T : Facts B newId initId bm) {rest : List Value} {fI : Addr} (hC : h.get? C = some (excClassObj nm q C N bs bm hdct sn sub ab col dd k0 k1 k2 k3 k5 newId))
    (hi : W.Looks (model prog w) h (typeLookup (.ref C) "__init__") (some (.ref fI))) (hb : ∀ self, W.Looks (model prog w) h (bindSpecial (.ref fI) self) (.ref fI, [self])) (few : rest.length ≤ sizeLine)
    (go : codeAny (model prog w) (A.under (.builtin "type.__call__" ⟨.ref C :: rest, []⟩)) (.call (.ref fI) ⟨.ref (h.objs.size + 1) :: rest, []⟩) (W.InitBack (h.objs.size + 1) R) ⟨(h.push (W.kdv_tup rest)).push (PySem.HandSPX.excO C h.objs.size), g, d, t, os⟩) :
    codeAny (model prog w) A (.call (.ref C) ⟨rest, []⟩) R ⟨h, g, d, t, os⟩ := by
  have z1 := tc_lookup
  have z2 := tc_bind (.ref C)
  have z3 : (⟨h, g, d, t, os⟩ : Shared).TypeIs (.ref C) "type" := ⟨_, hC, rfl⟩
  refine codeAny_of_tree (?_ : wpAny _ _ (callAny (.ref C) _) _ _ _)
  repeat (any_goals (first | assumption | (with_reducible refine wpAny_loadPart_at hC ?_) | wp_step))
  refine ⟨rfl, codeAny_call_builtin_at (Code.quiet_builtin _ (by decide +kernel)) entry_typeCall (wpAny_check_type_call_sub hC (call_typ T hC few hi hb ?_))⟩
  refine codeAny_mono go fun r s' z => ?_
  rcases r with e | (v | _ | _ | _) <;> exact z
end
/-- the first field of a new error, whatever built-in class its own class stands under -/
theorem first_field {prog : Program} {w : World} {A : Around} {R : Result → Shared → Prop} {h : Heap} {g : Array GenState} {d : Drawn} {t : Nat} {os : OsState} {K : W.Frag} {name : Str} {tk : Tok} {v : Value} {x C : Addr} {fv : Array Value} {cd : ClassData}
    (X : K.In h) (hx : h.get? x = some { cls := .ref C, data := .fields fv }) (hcd : W.clsIn K C = some cd) (some_ : cd.mro.isEmpty = false) (thing : cd.mro.contains (.type "object") = true) (free : ∀ self : Value, refuseLoop self "__setattr__" cd.mro = pure ())
    (own : cd.hasDict = true) (no : W.findIn K (.ref C) name = some none)
    (q : ∀ h' tk' dx, (∀ b o, b ≠ x → h.get? b = some o → h'.get? b = some o) → h.objs.size ≤ dx → dx ≠ x → h'.get? x = some { cls := .ref C, dict := some dx, data := .fields fv } → h'.Ns1 dx (fun y => if y = name then some v else none) → R (.ok (.ret .none)) ⟨h', g, d, tk', os⟩) :
    codeAny (model prog w) A (.call (.builtin "object.__setattr__") ⟨[.ref x, .str name tk, v], []⟩) R ⟨h, g, d, t, os⟩ := by
  have at_ : W.InstAt h x { cls := .ref C, data := .fields fv } C none := ⟨hx, rfl, rfl, trivial⟩
  have apart : x ≠ h.objs.size := Nat.ne_of_lt (Heap.lt_size hx)
  have class_ : W.Looks (model prog w) h (classData C) cd := W.looks_clsIn X hcd
  have line_ : W.Looks (model prog w) h (mroOf (.ref C)) cd.mro := class_.andThen .now
  have under : W.Looks (model prog w) h (isInstance (.ref x) (.type "object")) true := at_.type.andThen (W.looks_mroIn X (by unfold W.mroIn; rw [hcd, Option.bind_some, if_neg (by rw [some_]; decide), thing]))
  have st := PySem.F.store_object
  refine codeAny_call_builtin st.slot.plain st.entry (@W.check_slot (model prog w) _ _ ⟨h, g, d, t, os⟩ "object.__setattr__" "object" "__setattr__" (.ref x) [.str name tk, v] [] _ st.kind st.split under (st.args (.ref x) (.str name tk) v) ?_)
  have none_ : W.Looks (model prog w) h (storeTaker? none) none := .now
  rw [W.osa_eq, refuse_eq]
  refine wpAny_bind (wpAny_bind (at_.type.at (wpAny_bind (line_.at ?_))))
  rw [free]
  refine wpAny_pure ?_
  refine wpAny_bind (at_.type.at (wpAny_bind ((W.looks_findIn X no).at (wpAny_bind (none_.at ?_)))))
  show wpAny _ _ (storeInOwnDict (.ref x) (.ref C) (.str name tk) name v false) _ _ _
  cases cd
  cases own
  unfold storeInOwnDict ownDictForStores
  repeat (first | with_reducible refine PySem.HandSPX.store_in_new ?_ ?_ | with_reducible refine wpAny_loadPart_at hx ?_ | with_reducible refine class_.at ?_ | wp_step)
  · exact ⟨_, #[], _, (Heap.get?_update_ne _ _ _ _ apart.symm).trans (Heap.get?_push_at rfl rfl), rfl, fun e he => absurd he (by simp), fun _ => rfl⟩
  · intro h' tk' new only
    have hx1 : (h.push { cls := .type "dict", data := .dict #[] }).get? x = some { cls := .ref C, data := .fields fv } := Heap.get?_push_of_some _ hx
    exact q h' tk' h.objs.size (fun b o nb ob => (only.2 b (Nat.ne_of_lt (Heap.lt_size ob))).trans ((Heap.get?_update_ne _ _ _ _ nb).trans (Heap.get?_push_of_some _ ob))) (Nat.le_refl _) apart.symm ((only.2 x apart).trans (Heap.get?_update_self _ hx1 rfl)) new

open L2
/-- what the written part says of an own error class that stands straight under a built-in one -/
structure Own (K : PySem.W.Frag) (C : Addr) (B newId initId : String) (bm : List Value) : Prop where
  fx : Facts B newId initId bm
  cls : ∃ nm q N bs sn sub ab col dd k0 k1 k2 k3 k5, K.lookup C = some (excClassObj nm q C N bs bm true sn sub ab col dd k0 k1 k2 k3 k5 newId)
  sa : PySem.W.findIn K (.ref C) "__setattr__" = some (some (.builtin "object.__setattr__"))
  exC : PySem.W.subIn K (.ref C) (.type "BaseException") = some true
  tyC : PySem.W.typeIn K (.ref C) = some (.type "type")
  kC : PySem.W.keepIn K (.ref C) = true
section
variable {X : Cx} {pins : List (Addr × Obj)} {σ : L2.St} {H : Hp} {s : Shared} {a C : Addr} {f : Str} {y : V} {u : Value} {Q : Unit → Shared → Prop} {E : Value → Shared → Prop} {A : Around} {B newId initId : String} {bm : List Value}
/-- self.f = y of a new error that has no field yet -/
theorem put_first (T : Own X.K C B newId initId bm) (I : Inv X pins σ H s) (e : H a = some (exo a C none)) (no : PySem.W.findIn X.K (.ref C) f = some none) (ry : RelV y u)
    (q : ∀ dx s', H dx = none → dx ≠ a → Inv X pins σ (upd (upd H dx (exd dx [(f, y)])) a (exo a C (some dx))) s' → Q () s') : wpAny (model X.prog X.w) A (setAttr (.ref a) f u) Q E s := by
  obtain ⟨nm, qn, N, bs, sn, sub, ab, col, dd, k0, k1, k2, k3, k5, hC⟩ := T.cls
  have cl : PySem.W.clsIn X.K C = some { name := nm, bases := bs, mro := .ref C :: bm, ns := N, qualname := qn, hasDict := true, slotNames := sn, subclasses := sub, abstract := ab, collection := col, hasDel := false } := by
    unfold PySem.W.clsIn
    rw [hC] <;> rfl
  obtain ⟨t1, there⟩ := exo_at I.hok e
  obtain ⟨h, g, d, t, os⟩ := s
  refine PySem.W.set_plain I.kIn (ox := { cls := .ref C, dict := none, data := .fields #[.ref t1, .none, .none, .none, .bool false, .none] }) (od := none) ⟨there, rfl, rfl, trivial⟩ T.sa ?_
  refine first_field I.kIn there cl rfl (by show (Value.ref C :: bm).contains _ = true; rw [List.contains_cons, T.fx.thing, Bool.or_true]) (fun self => by show refuseLoop self _ (.ref C :: bm) = _; rw [refuseLoop_ref]; exact T.fx.free self) rfl no ?_
  intro h' tk' dx keep new na here ns
  have fresh : H dx = none := I.hok.fresh new
  have off : ∀ {b : Addr} {o : Obj}, h.get? b = some o → b ≠ dx := fun z => Nat.ne_of_lt (Nat.lt_of_lt_of_le (Heap.lt_size z) new)
  have other : ∀ {b : Addr}, H b = none → b ≠ a := fun n z => by
    rw [z, e] at n
    cases n
  have two : ∀ {b : Addr}, b ≠ a → b ≠ dx → (upd (upd H dx (exd dx [(f, y)])) a (exo a C (some dx))) b = H b := fun n1 n2 => by rw [upd_ne n1, upd_ne n2]
  refine q dx _ fresh na (I.un (t' := tk') ⟨fun b o z n _ _ => keep b o (other n) z, fun b o z n _ _ => ⟨o.slots, keep b o (other n) z⟩, fun b o z n _ => by rw [two (other n) (off z)]; exact n, fun b o z _ => ?_,
    fun b xs z => by rw [two (at_ne e z exo_tup) (ne_of_none z fresh)]; exact z, fun b o v z => by rw [two (at_ne e z exo_frz) (ne_of_none z fresh)]; exact z, fun b ps z => ⟨#[], by rw [two (at_ne e z exo_tbl) (ne_of_none z fresh), z]; simp⟩⟩ fun b o z => ?_)
  · by_cases c : b = a
    · exact ⟨_, by rw [c]; exact here⟩
    · exact ⟨o, keep b o c z⟩
  · by_cases c : b = a
    · subst c
      rw [upd_same] at z
      cases z
      exact exo_ok here
    · by_cases c2 : b = dx
      · subst c2
        rw [upd_ne c, upd_same] at z
        cases z
        exact exd_ok ns (relO_put (fs := []) ry fun g => True.intro)
      · rw [two c c2] at z
        refine (I.hok b o z).stay (fun b' v hb z' => keep b' v ?_ z') (fun b' hb => by rw [two (at_ne e hb exo_own) (ne_of_none hb fresh)]; exact hb) (fun b' xs hb => by rw [two (at_ne e hb exo_tup) (ne_of_none hb fresh)]; exact hb)
        rcases hb with hb | hb
        · rw [hb]
          exact c
        · exact at_ne e hb exo_own
end
/-- self.f = e in the own __init__, the first one -/
def tPut (K : PySem.W.Frag) (C : Addr) (f : Str) (to te : TE) : TS := fun D σ H => te σ H fun y H1 => to σ H1 fun x H2 => ∃ a : Addr, x = .ref a ∧ H2 a = some (exo a C none) ∧ ∀ dx, H2 dx = none → dx ≠ a → D.nx σ (upd (upd H2 dx (exd dx [(f, y)])) a (exo a C (some dx)))
section
variable {X : Cx} {C : Addr} {B newId initId : String} {bm : List Value} {o e : Expr} {es : List Expr} {to te : TE} {ta : TA} {f : Str} {p p' pos : Pos}
theorem ps_put (T : Own X.K C B newId initId bm) (no : PySem.W.findIn X.K (.ref C) f = some none) (ho : PE X o to) (he : PE X e te) (hs : swapsWith e (some (.Attribute o f p')) pos.line X.env = pure false := by rfl) : PS X (.Assign [.Attribute o f p'] e pos) (tPut X.K C f to te) := by
  constructor
  intro pins s σ H D I h
  refine plainObj_wpAny_Assign_Attribute (thn (he.run pins s σ H _ I h) ?_) hs
  rintro v s1 ⟨y, H1, I1, r1, q1⟩
  refine thn (ho.run pins s1 σ H1 _ I1 q1) ?_
  rintro u s2 ⟨x, H2, I2, r2, a, rfl, ea, q⟩
  cases r2
  exact put_first T I2 ea no r1 fun dx s' n ne J => ⟨σ, _, J, q dx n ne⟩
/-- C(e, ..) of such a class, to be raised -/
theorem pmk {CX : CXT} {x : Str} {fI : Addr} {k : Nat} {fd : FuncData} {ps : List Str} {sp : Sp} (T : Own X.K C B newId initId bm) (iC : PySem.W.findIn X.K (.ref C) "__init__" = some (some (.ref fI))) (tI : PySem.W.typeIn X.K (.ref fI) = some (.type "function"))
    (F1 : FnOk X.prog X.w X.K X.mg X.base CX k fI fd ps sp) (hr : Room (k + 1) X.A) (hb : Binds X.K fd ps []) (hx : Passes CX X (fun _ _ _ => False)) (hg : Gl X x) (hm : X.mg x = some (.ref C)) (ha : PA X (e :: es) ta)
    (hdb : (x == ("__debug__" : Str)) = false := by decide) (he : starEach (e :: es) X.env = (false, eval e X.env) :: starEach es X.env := by rfl) (hpl : (backTo pos (starEach es X.env)).any (·.1) = false := by rfl) :
    PMk X (.Call (.Name x p) (e :: es) [] pos) (tMkO C sp [] ta) := by
  intro pins s σ H Q I h
  obtain ⟨nm, qn, N, bs, sn, sub, ab, col, dd, k0, k1, k2, k3, k5, hC⟩ := T.cls
  refine wpAny_Call_Name_kw (ld_glob I hg hm ?_ hdb)
  refine PySem.W.callWith_K (h₀ := X.base) I.ok.mod.kin T.kC (thn (ha.run pos pins s σ H _ I h) ?_) he hpl
  rintro us ⟨hp, g, dr, tk, os⟩ ⟨vs, H1, I1, r1, hz, q1⟩
  refine ⟨I1.kIn, ?_⟩
  have new : hp.objs.size ≤ hp.objs.size + 1 := Nat.le_succ _
  have hq := q1 (hp.objs.size + 1) (I1.hok.fresh new)
  have grow : ∀ b o, hp.get? b = some o → ((hp.push (PySem.W.kdv_tup us)).push (PySem.HandSPX.excO C hp.objs.size)).get? b = some o := fun b o z => Heap.get?_push_of_some _ (Heap.get?_push_of_some _ z)
  have there : ((hp.push (PySem.W.kdv_tup us)).push (PySem.HandSPX.excO C hp.objs.size)).get? (hp.objs.size + 1) = some (PySem.HandSPX.excO C hp.objs.size) := by heap_get
  have I2 := I1.laid (t' := tk) (a := hp.objs.size + 1) (o := exo (hp.objs.size + 1) C none) (h' := (hp.push (PySem.W.kdv_tup us)).push (PySem.HandSPX.excO C hp.objs.size)) grow new (exo_ok there)
  rw [List.append_nil] at hq
  have r2 : Vals (V.ref (hp.objs.size + 1) :: vs) (Value.ref (hp.objs.size + 1) :: us) := .cons rfl r1
  have len : (Value.ref (hp.objs.size + 1) :: us ++ []).length = ps.length := by
    have z := r2.length
    rw [F1.len _ _ _ _ hq] at z
    rw [List.append_nil]
    exact z.symm
  have few : us.length ≤ sizeLine := by
    rw [← Paired.length r1, sizeLine_eq]
    omega
  have bd := hb _ (Value.ref (hp.objs.size + 1) :: us) I2.kIn len
  rw [List.append_nil] at bd
  refine wpAny_call (call_cls T.fx (I1.kIn _ _ hC) (PySem.W.looks_findIn I1.kIn iC) (fun self => PySem.W.bind_fn I1.kIn self tI) few
    (codeAny_mono (F1.run _ X.stack _ _ ⟨Value.ref (hp.objs.size + 1) :: us, []⟩ (Value.ref (hp.objs.size + 1) :: us) _ _ (fun _ _ _ => False) (hr.make C us []) (I2.env0.make C us []) bd r2 hq) fun r s' z => ?_))
  cases r with
  | error er => exact hx pins σ _ _ er s' I2 z
  | ok fl =>
    cases fl with
    | ret u =>
      obtain ⟨v, H2, os2, bare2, un2, hok2, rv, ev, d, fs, ea, ed, hd1, q2⟩ := z
      cases ev
      obtain ⟨h2, g2, d2, t2, os'⟩ := s'
      exact ⟨rv, mk_end (raises_own T.exC T.tyC) I1 new grow un2 hok2 os2 bare2 ea ed hd1 q2⟩
    | next => exact z.elim
    | brk => exact z.elim
    | cont => exact z.elim
end
end XB
section
open PySem PySem.Spec PyProof.Rows L2
theorem run_fnNS {X : Cx} {CX : CXT} {k n : Nat} {f : Addr} {fd : FuncData} {ps ks : List Str} {sp : Sp} {E : XK} {g : List Value → List Value → List Value} {gV : List V → List V → List V} {pins : List (Addr × Obj)} {σ : L2.St} {H : Hp} {s : Shared} {Q : VK} {us ws : List Value} {vs zs : List V} (F : FnOk X.prog X.w X.K X.mg X.base CX k f fd ps sp) (hr : Room k X.A) (hb : KBn X.K fd ps n ks g gV) (hx : PassesAt CX X σ E)
    (I : Inv X pins σ H s) (r : Vals vs us) (rz : Vals zs ws) (l1 : vs.length = n) (l2 : zs.length = ks.length) (h : sp (gV vs zs) H Q E) : wpAny (model X.prog X.w) X.A (call (.ref f) us (ks.zip ws)) (EP X pins σ Q) X.xe s := by
  have r2 := hb.rel r rz
  refine wpAny_call (codeAny_mono (F.run X.A X.stack s H ⟨us, ks.zip ws⟩ (g us ws) (gV vs zs) Q E hr I.env0 (hb.to s us ws I.kIn (r.length.symm.trans l1) (rz.length.symm.trans l2)) r2 h) fun r s' hq => ?_)
  cases r with
  | error e => exact hx pins H s e s' I hq
  | ok fl =>
    cases fl with
    | ret u => exact I.after hq
    | next => exact False.elim hq
    | brk => exact False.elim hq
    | cont => exact False.elim hq
/-- o.m(e, .., k = v, ..) where an exception of it is awaited -/
def tMethNS (C : Addr) (m : Str) (n c : Nat) (sp : Sp) (gV : List V → List V → List V) (E : L2.St → XK) (ta : TE) (t tk : TA) : TE := fun σ H Q => ta σ H fun x H1 => ∃ a dx fs, x = .ref a ∧ H1 a = some (.ins C dx fs) ∧ fs.lookup m = none ∧
  t σ H1 fun vs H2 => tk σ H2 fun zs H3 => vs.length + 1 = n ∧ zs.length = c ∧ sp (gV (.ref a :: vs) zs) H3 Q (E σ)
theorem pe_methNS {X : Cx} {CX : CXT} {k n : Nat} {f C : Addr} {fd : FuncData} {ps ks : List Str} {sp : Sp} {E : L2.St → XK} {m : Str} {pos apos : Pos} {e o : Expr} {es : List Expr} {kws : List Keyword} {ta : TE} {t tk : TA} {pl : Sem Bool} {g : List Value → List Value → List Value} {gV : List V → List V → List V}
    (he : PE X o ta) (c : Cls X.K C) (hm : Meth X.K C m f) (F : FnOk X.prog X.w X.K X.mg X.base CX k f fd ps sp) (hr : Room k X.A) (hb : KBn X.K fd ps n ks g gV) (hx : ∀ σ, PassesAt CX X σ (E σ)) (ha : PA X (e :: es) t) (hkw : PK X kws tk)
    (hall : (backToKw pos (keywordEach kws X.env)).all (·.1.isSome) = true := by rfl) (hks : (backToKw pos (keywordEach kws X.env)).filterMap (·.1) = ks := by rfl) (hst : starEach (e :: es) X.env = (false, eval e X.env) :: starEach es X.env := by rfl)
    (hpl : ((backTo pos (starEach (e :: es) X.env)).any (·.1) || (backToKw pos (keywordEach kws X.env)).any (·.1.isNone)) = false := by rfl)
    (ht : eval (.Call (.Attribute o m apos) (e :: es) kws pos) X.env = (do let ov ← eval o X.env; standAt apos.atName; let (f, first) ← holding [ov] (getMethod ov m pl); callWith pos f first (backTo pos (starEach (e :: es) X.env)) (backToKw pos (keywordEach kws X.env))) := by rfl) :
    PE X (.Call (.Attribute o m apos) (e :: es) kws pos) (tMethNS C m n ks.length sp gV E ta t tk) := by
  constructor
  intro pins s σ H Q I h
  refine PySem.W.methodCall_KW (pl := pl) (thn (he.run pins s σ H _ I h) ?_) ht
  rintro u s1 ⟨x, H1, I1, rx, a, dx, fs, rfl, ea, l, q⟩
  cases rx
  apply getmeth_ok I1 ea c hm l
  refine PySem.W.callWith_KW (first := [.ref a]) (h₀ := X.base) I.ok.mod.kin hm.kp hall (thn (ha.run pos pins s1 σ H1 _ I1 q) ?_) hpl hst
  rintro us s2 ⟨vs, H2, I2, r, q2⟩
  refine thn (hkw.run pos pins s2 σ H2 _ I2 q2) ?_
  rintro ws s3 ⟨zs, H3, I3, rz, l1, l2, q3⟩
  refine ⟨I3.kIn, ?_⟩
  rw [hks]
  exact run_fnNS (us := .ref a :: us) (vs := .ref a :: vs) F hr hb (hx σ) I3 (.cons rfl r) rz l1 l2 q3
/-- an own error made and kept, not raised -/
def tMkx (t : L2.St → Hp → XK → Prop) : TE := fun σ H Q => t σ H fun cls d H' => ∀ a, H' a = none → Q (.ref a) (upd H' a (ExK cls d a))
theorem pe_mkx {X : Cx} {e : Expr} {t : L2.St → Hp → XK → Prop} (he : PMk X e t) : PE X e (tMkx t) := by
  constructor
  intro pins s σ H Q I h
  refine wpAny_mono (he pins s σ H _ I h) (fun u s1 hu => ?_) fun _ _ x => x
  obtain ⟨a, oe, vs, sI, H', cls, d, rfl, J, k, hne, ha, hz, hd, h1, na, os, ag, r, q⟩ := hu
  have J1 := J.kept (h' := s1.heap) (t' := s1.toks) k
  have J2 : Inv X pins σ H' s1 := ⟨J1.ok, os.trans J.os, ag, J1.base, J1.loc, J1.cell, J1.free, J1.freeC, J1.pin, J1.hok, J1.len⟩
  have nL : a ≠ X.env.locals := fun z => by
    obtain ⟨m, hn, _⟩ := J.loc
    obtain ⟨o, _, _, e, _⟩ := hn
    rw [← z, hne] at e
    cases e
  exact ⟨.ref a, _, inv_track J J2 hne na nL (exK_ok ha hz hd), rfl, q a na⟩
end
section
open PySem PySem.Spec PyProof.Rows L2
variable {X : Cx} {CX : CXT} {k : Nat} {f C : Addr} {fd : FuncData} {ps : List Str} {sp : Sp} {E : L2.St → XK} {x m : Str} {p pos apos : Pos} {e o : Expr} {es : List Expr} {ta : TE} {t : TA}
/-- C(..) whose __init__ may raise, where a clause of a try reads slots -/
def tMakeS (C : Addr) (sp : Sp) (E : L2.St → XK) (t : TA) : TE := fun σ H Q => t σ H fun vs H1 => ∀ x dx, H1 x = none → H1 dx = none → dx ≠ x → sp (.ref x :: vs) (upd (upd H1 dx (.own x)) x (.ins C dx [])) (fun v H2 => v = .non ∧ Q (.ref x) H2) (E σ)
theorem run_makeS {pins : List (Addr × Obj)} {σ : L2.St} {H : Hp} {s : Shared} {Q : VK} {us : List Value} {vs : List V} {E : XK} (mq : Mk X.K C f) (F : FnOk X.prog X.w X.K X.mg X.base CX k f fd ps sp) (hr : Room (k + 1) X.A) (hb : Binds X.K fd ps []) (hx : PassesAt CX X σ E) (I : Inv X pins σ H s) (r : Vals vs us)
    (h : ∀ x dx, H x = none → H dx = none → dx ≠ x → sp (.ref x :: vs) (upd (upd H dx (.own x)) x (.ins C dx [])) (fun v H2 => v = .non ∧ Q (.ref x) H2) E) : wpAny (model X.prog X.w) X.A (call (.ref C) us) (EP X pins σ Q) X.xe s := by
  have hq := h (s.heap.objs.size + 1) s.heap.objs.size (I.hok.fresh (Nat.le_succ _)) (I.hok.fresh (Nat.le_refl _)) (Nat.ne_of_lt (Nat.lt_succ_self _))
  have J := Inv.made (C := C) I
  have r2 : Vals (V.ref (s.heap.objs.size + 1) :: vs) (Value.ref (s.heap.objs.size + 1) :: us) := .cons rfl r
  have hl : (Value.ref (s.heap.objs.size + 1) :: us ++ []).length = ps.length := by rw [List.append_nil, ← r2.length]; exact F.len _ _ _ _ hq
  have b := hb _ (Value.ref (s.heap.objs.size + 1) :: us) J.kIn hl
  rw [List.append_nil] at b
  refine wpAny_call (make_map (f := f) I.kIn mq.makes mq.init (beq_iff_eq.mp mq.fn) (codeAny_mono (F.run _ X.stack _ _ ⟨Value.ref (s.heap.objs.size + 1) :: us, []⟩ _ _ _ E (hr.make C us []) (J.env0.make C us []) b r2 hq) fun res s' z => ?_))
  cases res with
  | error er => exact hx pins _ _ er s' J z
  | ok fl =>
    cases fl with
    | ret u =>
      obtain ⟨v, H', I3, rv, rfl, q3⟩ := J.after z
      exact ⟨rv, V.ref (s.heap.objs.size + 1), H', I3, rfl, q3⟩
    | _ => exact z.elim
theorem pe_makeS (mq : Mk X.K C f) (F : FnOk X.prog X.w X.K X.mg X.base CX k f fd ps sp) (hr : Room (k + 1) X.A) (hg : Gl X x) (hm : X.mg x = some (.ref C)) (hb : Binds X.K fd ps []) (hx : ∀ σ, PassesAt CX X σ (E σ)) (ha : PA X (e :: es) t)
    (hdb : (x == ("__debug__" : Str)) = false := by decide) (he : starEach (e :: es) X.env = (false, eval e X.env) :: starEach es X.env := by rfl) (hpl : (backTo pos (starEach es X.env)).any (·.1) = false := by rfl) : PE X (.Call (.Name x p) (e :: es) [] pos) (tMakeS C sp E t) := by
  constructor
  intro pins s σ H Q I h
  refine wpAny_Call_Name_kw (ld_glob I hg hm (PySem.W.callWith_K (h₀ := X.base) I.ok.mod.kin mq.kp (thn (ha.run pos pins s σ H _ I h) ?_) he hpl) hdb)
  rintro us s1 ⟨vs, H1, I1, r, q⟩
  exact ⟨I1.kIn, run_makeS mq F hr hb (hx σ) I1 r q⟩
/-- o.m() that may raise, likewise -/
theorem pe_methS0 {pl : Sem Bool} (he : PE X o ta) (c : Cls X.K C) (hm : Meth X.K C m f) (F : FnOk X.prog X.w X.K X.mg X.base CX k f fd ps sp) (hr : Room k X.A) (hb : Binds X.K fd ps []) (hx : ∀ σ, PassesAt CX X σ (E σ))
    (ht : eval (.Call (.Attribute o m apos) [] [] pos) X.env = (do let ov ← eval o X.env; standAt apos.atName; let (f, first) ← holding [ov] (getMethod ov m pl); callWith pos f first (backTo pos (starEach [] X.env)) (backToKw pos (keywordEach [] X.env))) := by rfl) :
    PE X (.Call (.Attribute o m apos) [] [] pos) (tMethS C m sp E ta tNil) := by
  constructor
  intro pins s σ H Q I h
  refine PySem.W.methodCall_KW (pl := pl) (thn (he.run pins s σ H _ I h) ?_) ht
  rintro u s1 ⟨x, H1, I1, rx, a, dx, fs, rfl, ea, l, q⟩
  cases rx
  refine getmeth_ok I1 ea c hm l (PySem.W.callWith_K0 (first := [.ref a]) I1.kIn hm.kp ?_)
  exact run_fnS (us := [.ref a]) (vs := [.ref a]) F hr hb (hx σ) I1 (.cons rfl .nil) q
end
section
open PySem PySem.Spec PyProof.Rows L2
/-- t > u, t >= u of tuples of ints -/
def rCmpT (K : PySem.W.Frag) (r : Int → Int → Bool) (z : Nat → Nat → Bool) : R2 := fun x y H Q => ∃ (a b : Addr) (ns ms : List Int), x = .ref a ∧ y = .ref b ∧ SqT K H a (ns.map V.int) ∧ SqT K H b (ms.map V.int) ∧
  Q (.bl (Ob.lexAt (fun j => decide (ns.getD j 0 = ms.getD j 0)) (fun j => r (ns.getD j 0) (ms.getD j 0)) (z ns.length ms.length) 0 (min ns.length ms.length))) H
theorem vals_at : ∀ {ns : List Int} {us : List Value}, Vals (ns.map V.int) us → ns.length = us.length ∧ ∀ j (h : j < us.length), ∃ t, us[j] = .int (ns.getD j 0) t
  | [], _, .nil => ⟨rfl, fun j h => absurd h (Nat.not_lt_zero j)⟩
  | n :: r, _, .cons ⟨t, e⟩ q => by
    obtain ⟨l, f⟩ := vals_at (ns := r) q
    refine ⟨congrArg Nat.succ l, fun j h => ?_⟩
    cases j with
    | zero => exact ⟨t, e⟩
    | succ j => exact f j (Nat.lt_of_succ_lt_succ h)
/-- an order of tuples of ints out of the order of their items: tup lifts it, one is that of two ints -/
theorem op_cmpT {X : Cx} {op : CmpOp} {rr : Int → Int → Bool} {zz : Nat → Nat → Bool} (rich : ∀ v u, compareOp op v u = richCompare op v u)
    (tup : ∀ {s : Shared} {l b : Addr} {is js : Array Value} {e r : Nat → Bool}, s.heap.IsTuple l is → s.heap.IsTuple b js → (∀ j (h1 : j < is.size) (h2 : j < js.size), SeqAt.EqAt X.A.in1 s is[j] js[j] (e j)) →
      (∀ j (h1 : j < is.size) (h2 : j < js.size), e j = false → Ob.RcOp op X.A.in1 s is[j] js[j] (r j)) → Ob.RcOp op X.A s (.ref l) (.ref b) (Ob.lexAt e r (zz is.size js.size) 0 (min is.size js.size)))
    (one : ∀ {s : Shared} (a b : Int) (t u : Tok), Ob.RcOp op X.A.in1 s (.int a t) (.int b u) (rr a b)) : OpR X (compareOp op) (rCmpT X.K rr zz) := by
  rintro pins s σ H x y v u Q I rx ry ⟨a, b, ns, ms, rfl, rfl, ha, hb, q⟩
  cases rx
  cases ry
  obtain ⟨us, ru, tu, _⟩ := I.tuple ha
  obtain ⟨ws, rw', tw, _⟩ := I.tuple hb
  obtain ⟨lu, fu⟩ := vals_at ru
  obtain ⟨lw, fw⟩ := vals_at rw'
  have go := tup (e := fun j => decide (ns.getD j 0 = ms.getD j 0)) (r := fun j => rr (ns.getD j 0) (ms.getD j 0)) tu tw
    (fun j h1 h2 => by
      obtain ⟨t, et⟩ := fu j (by simpa using h1)
      obtain ⟨t', et'⟩ := fw j (by simpa using h2)
      have key : SeqAt.EqAt X.A.in1 s (.int (ns.getD j 0) t) (.int (ms.getD j 0) t') (ns.getD j 0 == ms.getD j 0) := SeqAt.EqAt.int_int _ _ _ _
      have same : (ns.getD j 0 == ms.getD j 0) = decide (ns.getD j 0 = ms.getD j 0) := rfl
      rw [same, ← et, ← et'] at key
      exact key)
    (fun j h1 h2 _ => by
      obtain ⟨t, et⟩ := fu j (by simpa using h1)
      obtain ⟨t', et'⟩ := fw j (by simpa using h2)
      have key := one (s := s) (ns.getD j 0) (ms.getD j 0) t t'
      rw [← et, ← et'] at key
      exact key)
  rw [List.size_toArray, List.size_toArray, ← lu, ← lw] at go
  rw [rich]
  exact go X.prog X.w X.xe _ ⟨.bl _, H, I, rfl, q⟩
theorem op_gtT {X : Cx} (hu : X.A.units < cLine) : OpR X (compareOp .Gt) (rCmpT X.K (fun a b => decide (b < a)) (fun n m => decide (n > m))) :=
  op_cmpT (fun _ _ => rfl) (fun h1 h2 he hr => Ob.RcOp.tuples_gt h1 h2 hu he hr) (fun a b t u => Ob.RcOp.gt_int a b t u)
theorem op_geT {X : Cx} (hu : X.A.units < cLine) : OpR X (compareOp .GtE) (rCmpT X.K (fun a b => decide (b ≤ a)) (fun n m => decide (n ≥ m))) :=
  op_cmpT (fun _ _ => rfl) (fun h1 h2 he hr => Ob.RcOp.tuples_ge h1 h2 hu he hr) (fun a b t u => Ob.RcOp.ge_int a b t u)
/-- len(x) by an own __len__, the built-in's own body -/
theorem len_body {P : Program} {w : World} {A : Around} {E : Value → Shared → Prop} {s : Shared} {K : PySem.W.Frag} {x C f : Addr} {ox : Obj} {od : Option Obj} {Q : Value → Shared → Prop} (X : K.In s.heap) (I : PySem.W.InstAt s.heap x ox C od)
    (hs : PySem.W.findIn K (.ref C) "__len__" = some (some (.ref f))) (hf : PySem.W.isFn K (.ref f) = true)
    (hcall : wpAny (model P w) A (call (.ref f) [.ref x]) (fun r s' => ∃ n u, r = .int n u ∧ 0 ≤ n ∧ n < 2 ^ 63 ∧ Q (.int n s'.toks) { s' with toks := s'.toks + 1 }) E s) :
    wpAny (model P w) A (Builtin.«len» ⟨[.ref x], []⟩) (fun fin s' => ∃ r, fin = .done (.ret r) ∧ Q r s') E s := by
  unfold Builtin.«len»
  refine wpAny_bind (m := oneArg "len" _) (wpAny_pure ?_)
  refine wpAny_bind (m := callSpecial? (.ref x) (Str.ofString "__len__")) (PySem.W.special_fn X I hs (beq_iff_eq.mp hf) (wpAny_mono hcall (fun r s' hr => ?_) fun _ _ y => y))
  obtain ⟨n, u, rfl, h0, h1, hq⟩ := hr
  refine wpAny_bind (wpAny_holding (wpAny_pure ?_))
  refine wpAny_bind (wpAny_letGo ?_)
  show wpAny _ _ (if n < 0 then _ else _) _ _ _
  rw [if_neg (by omega)]
  show wpAny _ _ (if n ≥ 2 ^ 63 then _ else _) _ _ _
  rw [if_neg (by omega)]
  exact wpAny_bind (wpAny_mkInt (wpAny_pure ⟨_, rfl, hq⟩))
/-- the truth of x by an own __len__ -/
theorem truthy_len {P : Program} {w : World} {A : Around} {E : Value → Shared → Prop} {s : Shared} {K : PySem.W.Frag} {x C f : Addr} {ox : Obj} {od : Option Obj} {Q : Bool → Shared → Prop} (X : K.In s.heap) (I : PySem.W.InstAt s.heap x ox C od)
    (hb : PySem.W.findIn K (.ref C) "__bool__" = some none) (hs : PySem.W.findIn K (.ref C) "__len__" = some (some (.ref f))) (hf : PySem.W.isFn K (.ref f) = true)
    (hcall : wpAny (model P w) A.in1 (call (.ref f) [.ref x]) (fun r s' => ∃ n u, r = .int n u ∧ 0 ≤ n ∧ n < 2 ^ 63 ∧ Q (n != 0) { s' with toks := s'.toks + 1 }) E s) :
    wpAny (model P w) A (truthy (.ref x)) Q E s := by
  have key : wpAny (model P w) A (runValue (.builtin "len" ⟨[.ref x], []⟩)) (fun r s' => ∃ n u, r = .int n u ∧ Q (n != 0) s') E s := by
    refine wpAny_runValue (codeAny_builtin entry_len ?_)
    rw [Around.under_plainId plain_len _]
    exact wpAny_mono (len_body (Q := fun r s' => ∃ n u, r = .int n u ∧ Q (n != 0) s') X I hs hf (wpAny_mono hcall (fun r s' hr => by
      obtain ⟨n, u, rfl, h0, h1, q⟩ := hr
      exact ⟨n, u, rfl, h0, h1, n, _, rfl, q⟩) fun _ _ e => e))
      (fun fin s' h' => by obtain ⟨r, rfl, hq⟩ := h'; exact hq) fun _ _ e => e
  unfold truthy
  refine wpAny_bind (m := callSpecial? (.ref x) (Str.ofString "__bool__")) (wpAny_bind (wpAny_bind (I.type.here ((PySem.W.looks_findIn X hb).here (wpAny_pure ?_)))))
  refine wpAny_bind (wpAny_bind (I.type.here ((PySem.W.looks_findIn X hs).here ?_)))
  exact wpAny_bind (wpAny_mono key (fun r s' h' => by obtain ⟨n, u, rfl, hq⟩ := h'; exact wpAny_pure hq) fun _ _ e => e)
section
variable {X : Cx} {CX : CXT} {n : Nat} {C f : Addr} {fd : FuncData} {ps : List Str} {sp : Sp} {E : XK}
/-- what the own __len__ must give -/
def lenQ (Q : Nat → Hp → Prop) : VK := fun v H' => ∃ k : Nat, v = .int k ∧ k < 1000000 ∧ Q k H'
theorem len_run (F : FnOk X.prog X.w X.K X.mg X.base CX n f fd ps sp) (hb : Binds X.K fd ps []) (hx : Passes CX X E) {A : Around} {pins : List (Addr × Obj)} {s : Shared} {σ : L2.St} {H : Hp} {a : Addr} {Q : Nat → Hp → Prop} {R : Value → Shared → Prop} (hA : Room n A) (fr : A.frames = X.A.frames) (I : Inv X pins σ H s)
    (hsp : sp [.ref a] H (lenQ Q) E) (hq : ∀ (k : Nat) (u : Tok) (s' : Shared) (H' : Hp), k < 1000000 → Inv X pins σ H' s' → Q k H' → R (.int k u) s') : wpAny (model X.prog X.w) A (call (.ref f) [.ref a]) R X.xe s := by
  have hl := F.len _ _ _ _ hsp
  have e0 : Env0 X.prog X.w X.K X.mg X.base A X.stack s H := by
    have e := I.env0
    exact ⟨by rw [fr]; exact e.frames, e.mod, e.bs, e.bsz, e.funs, e.frf, e.hok, e.bare⟩
  have bd := hb s [.ref a] I.kIn (by simpa using hl)
  rw [List.append_nil] at bd
  refine wpAny_call (codeAny_mono (F.run A X.stack s H ⟨[.ref a], []⟩ [.ref a] [.ref a] _ E hA e0 bd (.cons rfl .nil) hsp) ?_)
  intro r s' z
  cases r with
  | error e => exact hx pins σ H s e s' I z
  | ok fl =>
    cases fl with
    | ret u =>
      obtain ⟨v, H', I', rv, k, rfl, hk, q⟩ := I.after z
      obtain ⟨t, rfl⟩ := rv
      exact hq k t s' H' hk I' q
    | next => exact False.elim z
    | brk => exact False.elim z
    | cont => exact False.elim z
theorem call_lenOwn (F : FnOk X.prog X.w X.K X.mg X.base CX n f fd ps sp) (hr : Room n X.A.in1) (hs : PySem.W.findIn X.K (.ref C) "__len__" = some (some (.ref f))) (hf : PySem.W.isFn X.K (.ref f) = true) (hb : Binds X.K fd ps []) (hx : Passes CX X E) :
    CallR X (.builtin "len") (fun xs H Q => ∃ (a dx : Addr) (fs : List (Str × V)), xs = [.ref a] ∧ H a = some (.ins C dx fs) ∧ sp [.ref a] H (lenQ fun k H' => Q (.int k) H') E) := by
  intro pins s σ H xs us Q I r h
  obtain ⟨a, dx, fs, rfl, ha, hsp⟩ := h
  rw [Vals.ref1 r]
  obtain ⟨mA, J, _⟩ := ins_get I.hok ha
  obtain ⟨od, J, _⟩ := J.look
  refine Calls.call_function_entry kind_len plain_len entry_len (args_len1 _) ?_
  refine wpAny_mono (len_body (Q := fun v s' => EP X pins σ Q v s') I.kIn J hs hf (len_run F hb hx hr rfl I hsp fun k u s' H' hk I' q => ⟨k, u, rfl, by omega, by omega, .int k, H', I'.tok _, ⟨_, rfl⟩, q⟩)) (fun fin s' z => ?_) fun _ _ z => z
  obtain ⟨v, rfl, q⟩ := z
  exact ⟨v, rfl, q⟩
theorem tru_lenA (F : FnOk X.prog X.w X.K X.mg X.base CX n f fd ps sp) {A : Around} (hr : Room n A.in1) (fr : A.in1.frames = X.A.frames) (hn : PySem.W.findIn X.K (.ref C) "__bool__" = some none) (hs : PySem.W.findIn X.K (.ref C) "__len__" = some (some (.ref f))) (hf : PySem.W.isFn X.K (.ref f) = true) (hb : Binds X.K fd ps []) (hx : Passes CX X E)
    {pins : List (Addr × Obj)} {s : Shared} {σ : L2.St} {H : Hp} {a dx : Addr} {fs : List (Str × V)} {Q : Bool → Hp → Prop} (I : Inv X pins σ H s) (ha : H a = some (.ins C dx fs)) (hsp : sp [.ref a] H (lenQ fun k H' => Q (decide (k ≠ 0)) H') E) :
    wpAny (model X.prog X.w) A (truthy (.ref a)) (TP X pins σ Q) X.xe s := by
  obtain ⟨mA, J, _⟩ := ins_get I.hok ha
  obtain ⟨od, J, _⟩ := J.look
  refine truthy_len I.kIn J hn hs hf (len_run F hb hx hr fr I hsp fun k u s' H' hk I' q => ⟨k, u, rfl, by omega, by omega, H', I'.tok _, ?_⟩)
  have e : ((k : Int) != 0) = decide (k ≠ 0) := by
    by_cases z : k = 0
    · subst z; rfl
    · rw [decide_eq_true z]
      exact bne_iff_ne.mpr (by omega)
  rw [e]
  exact q
theorem tru_len (F : FnOk X.prog X.w X.K X.mg X.base CX n f fd ps sp) (hr : Room n X.A.in1) (hn : PySem.W.findIn X.K (.ref C) "__bool__" = some none) (hs : PySem.W.findIn X.K (.ref C) "__len__" = some (some (.ref f))) (hf : PySem.W.isFn X.K (.ref f) = true) (hb : Binds X.K fd ps []) (hx : Passes CX X E) :
    TruR X (fun x H Q => ∃ (a dx : Addr) (fs : List (Str × V)), x = .ref a ∧ H a = some (.ins C dx fs) ∧ sp [.ref a] H (lenQ fun k H' => Q (decide (k ≠ 0)) H') E) := by
  intro pins s σ H x v Q I rx h
  obtain ⟨a, dx, fs, rfl, ha, hsp⟩ := h
  cases rx
  exact tru_lenA F hr rfl hn hs hf hb hx I ha hsp
theorem meets_bool_own {prog : Program} {w : World} (x : Addr) : MeetsIn prog w (Builtin.«bool.__new__» ⟨[.type "bool", .ref x], []⟩) (fun A R s => wpAny (model prog w) A.in1 (truthy (.ref x)) (fun b s' => R (.ok (.ret (.bool b))) s') (fun e s' => R (.error e) s') s) := by
  intro A R s hs
  obtain ⟨hp, g, d, tk, os⟩ := s
  have f1 := PySem.F.conv_sub_bool
  repeat (any_goals (first | assumption | (with_reducible refine wpAny_mono hs (fun b s' z => ?_) (fun _ _ z => z)) | wp_step))
/-- bool(o) -/
theorem call_boolLen (F : FnOk X.prog X.w X.K X.mg X.base CX n f fd ps sp) (hr : Room n X.A.in1.in1.in1) (hn : PySem.W.findIn X.K (.ref C) "__bool__" = some none) (hs : PySem.W.findIn X.K (.ref C) "__len__" = some (some (.ref f))) (hf : PySem.W.isFn X.K (.ref f) = true) (hb : Binds X.K fd ps []) (hx : Passes CX X E) :
    CallR X (.type "bool") (fun xs H Q => ∃ (a dx : Addr) (fs : List (Str × V)), xs = [.ref a] ∧ H a = some (.ins C dx fs) ∧ sp [.ref a] H (lenQ fun k H' => Q (.bl (decide (k ≠ 0))) H') E) := by
  intro pins s σ H xs us Q I r h
  obtain ⟨a, dx, fs, rfl, ha, hsp⟩ := h
  rw [Vals.ref1 r]
  refine callType_newIn PySem.F.called_bool PySem.F.newNe_bool (PySem.F.typeCall_bool_1 _) (PySem.F.newCall_bool_1 _) (fun obj => PySem.F.args_object_init_2 obj _) PySem.F.entry_bool_new (meets_bool_own a) ?_
  refine wpAny_mono (tru_lenA F hr rfl hn hs hf hb hx (Q := fun b H' => Q (.bl b) H') I ha hsp) (fun b s' z => ?_) fun _ _ z => z
  obtain ⟨H', I', q⟩ := z
  exact ⟨rfl, .bl b, H', I', rfl, q⟩
/-- not o -/
theorem pe_notLen {a : Expr} {ta : TE} {pos : Pos} {r : V → Hp → (Bool → Hp → Prop) → Prop} (tr : TruR X r) (ha : PE X a ta) : PE X (.UnaryOp .Not a pos) (fun σ H Q => ta σ H fun x H1 => r x H1 fun k H2 => Q (.bl (!k)) H2) := by
  refine ⟨fun pins s σ H Q I h => ?_⟩
  refine UnaryOp_ (thn (ha.run pins s σ H _ I h) fun v s1 ⟨x, H1, I1, r1, q1⟩ => ?_)
  exact not_of (thn (tr pins s1 σ H1 x v (fun c H2 => Q (.bl (!c)) H2) I1 r1 q1) fun c s2 ⟨H2, I2, q2⟩ => ⟨.bl (!c), H2, I2, rfl, q2⟩)
end
end
section
open PySem PySem.Spec PyProof.Rows L2
theorem pt_never {X : Cx} {e : Expr} : PT X e (fun _ _ _ => False) := ⟨fun _ _ _ _ _ _ h => h.elim⟩
theorem pe_never {X : Cx} {e : Expr} : PE X e (fun _ _ _ => False) := ⟨fun _ _ _ _ _ _ h => h.elim⟩
/-- xs[i] by values, i from 0 on -/
def rGetL (K : PySem.W.Frag) : V → V → Hp → VK → Prop := fun o y H Q => ∃ (p : Addr) (xs : List V) (i : Nat) (v : V), o = .ref p ∧ y = .int (i : Int) ∧ SqL K H p xs ∧ xs[i]? = some v ∧ Q v H
theorem get_list {X : Cx} : PGet X (rGetL X.K) := by
  intro pins s σ H o y ov iv Q I ro ry h
  obtain ⟨p, xs, i, v, rfl, rfl, hq, he, q⟩ := h
  cases ro
  obtain ⟨t, rfl⟩ := ry
  obtain ⟨its, r, pl, hz⟩ := I.list hq
  obtain ⟨w, ew, rw'⟩ := r.get he
  have hl := r.length
  have hi : i < xs.length := (List.getElem?_eq_some_iff.mp he).1
  have hn := line63
  exact wpAny_getItem_list pl.isList (by omega) (by omega) (by simpa using ew) ⟨v, H, I, rw', q⟩
/-- nothing is let out -/
theorem passF {X : Cx} {P : Program} {w : World} : Passes (L2.CX P w) X E0 := fun _ _ _ _ _ _ _ h => by
  obtain ⟨_, _, _, _, _, _, _, _, _, _, _, _, z⟩ := h
  exact z.elim
end

section
open PySem PySem.Spec PyProof.Rows L2
/-- o.f = .. as one of several targets -/
def gFld (K : PySem.W.Frag) (to : TE) (f : Str) : TG := fun v σ H Q => to σ H fun x H1 => ∃ a C dx fs, x = .ref a ∧ H1 a = some (.ins C dx fs) ∧ Cls K C ∧ NoAttr K C f ∧ fs.length < 1000 ∧ Q σ (upd H1 a (.ins C dx (putF f v fs)))
theorem pg_fld {X : Cx} {o : Expr} {f : Str} {pos : Pos} {to : TE} (ho : PE X o to) : PG X (.Attribute o f pos) (gFld X.K to f) := by
  refine ⟨fun pins s σ H v u Q I r h => ?_⟩
  rw [PySem.assign_Attribute]
  refine wpAny_bind (wpAny_holding (thn (ho.run pins s σ H _ I h) fun ov s1 ⟨x, H1, I1, rx, a, C, dx, fs, ex, ea, c, n, l, q⟩ => ?_))
  subst ex
  obtain rfl : ov = Value.ref a := rx
  refine wpAny_bind (wpAny_standAt (wpAny_bind (wpAny_holding (setattr_ok I1 ea c n l r fun s2 I2 => ?_))))
  exact wpAny_release ⟨σ, _, I2, q⟩
end
abbrev s_INoHead : Stmt := inClass (PySem.Challenge.pw_stampedwait_k29_copies_beside_twins.main.body.getD 7 (.Pass ⟨0, 0, 0, 0⟩)) 0
theorem sc_INoHead : FnScope ["self", "house"] ["self", "house"] (defScope s_INoHead) := ⟨rfl, rfl, rfl, by decide +kernel, rfl, by decide +kernel, by decide +kernel⟩

def top (i : Nat) : Stmt := PySem.Challenge.pw_stampedwait_k29_copies_beside_twins.main.body.getD i (.Pass ⟨0, 0, 0, 0⟩)
abbrev s_is_whole : Stmt := top 12
abbrev s_is_count : Stmt := top 13
abbrev s_is_from_to : Stmt := top 14
abbrev s_common_divisor : Stmt := top 15
abbrev s_is_share : Stmt := top 16
abbrev s_is_drift : Stmt := top 17
abbrev s_refuse_no_count : Stmt := top 18
abbrev s_least_of : Stmt := top 19
abbrev s_most_of : Stmt := top 20
abbrev s_bounds_behind : Stmt := top 23
abbrev s_set_between : Stmt := top 24
abbrev s_changed_at : Stmt := top 29
abbrev s_Copies_refuse_no_copy : Stmt := inClass (top 35) 1
abbrev s_Copies_back : Stmt := inClass (top 35) 8
abbrev s_Copies_stop : Stmt := inClass (top 35) 7
abbrev s_Copies_tell_bounds : Stmt := inClass (top 35) 5
abbrev s_Copies_tick_clock : Stmt := inClass (top 35) 4
abbrev s_Copies_is_most : Stmt := inClass (top 35) 9
abbrev s_Copies_till_of : Stmt := inClass (top 35) 10
abbrev s_Copies_can_promise : Stmt := inClass (top 35) 11
abbrev s_Copies_may_rule : Stmt := inClass (top 35) 26
abbrev s_Copies___len__ : Stmt := inClass (top 35) 34
abbrev s_Copies_set_clock : Stmt := inClass (top 35) 2
abbrev s_Copies_heads : Stmt := inClass (top 35) 27
abbrev s_Copies_head : Stmt := inClass (top 35) 28
abbrev s_Copies_writers : Stmt := inClass (top 35) 19
abbrev s_Copies_can_write : Stmt := inClass (top 35) 20
abbrev s_Copies_need_head : Stmt := inClass (top 35) 15
abbrev s_Copies_greatest_promise : Stmt := inClass (top 35) 12
abbrev s_Copies_promise : Stmt := inClass (top 35) 13
abbrev s_Copies_choose : Stmt := inClass (top 35) 14
abbrev s_is_fixed : Stmt := top 28
abbrev s_Copies_write : Stmt := inClass (top 35) 21
abbrev s_Copies_book : Stmt := inClass (top 35) 30
abbrev s_Copies___init__ : Stmt := inClass (top 35) 0
abbrev s_Copies_may_renew : Stmt := inClass (top 35) 17
abbrev s_Copies_renew : Stmt := inClass (top 35) 16
abbrev s_Copies_is_up : Stmt := inClass (top 35) 24
abbrev s_Copies_reign : Stmt := inClass (top 35) 25
abbrev s_Copies_clock : Stmt := inClass (top 35) 22
abbrev s_Copies_parts : Stmt := inClass (top 35) 31
abbrev s_Copies_put_parts : Stmt := inClass (top 35) 32
abbrev s_Copies_twin : Stmt := inClass (top 35) 33
abbrev s_Clock___init__ : Stmt := inClass (top 25) 0
abbrev s_Clock_bounds : Stmt := inClass (top 25) 5
abbrev s_l_begun : Stmt := top 37
abbrev s_l_take : Stmt := top 38
abbrev s_l_group : Stmt := top 39
abbrev s_l_bounds : Stmt := top 40
abbrev s_l_heads : Stmt := top 41
abbrev s_l_is_free : Stmt := top 42
abbrev s_l_choose : Stmt := top 43
abbrev s_l_renewed : Stmt := top 44
abbrev s_l_written : Stmt := top 45
abbrev s_l_stands : Stmt := top 47
abbrev s_l_tick : Stmt := top 48
abbrev s_l_begin_clocks : Stmt := top 50
abbrev s_l_copied : Stmt := top 51
abbrev s_l_said : Stmt := top 52
abbrev s_l_deed : Stmt := top 53
abbrev s_law : Stmt := top 54
theorem sc_is_whole : FnScope ["thing"] ["thing"] (defScope s_is_whole) := ⟨rfl, rfl, rfl, by decide +kernel, rfl, by decide +kernel, by decide +kernel⟩
theorem sc_is_count : FnScope ["thing"] ["thing"] (defScope s_is_count) := ⟨rfl, rfl, rfl, by decide +kernel, rfl, by decide +kernel, by decide +kernel⟩
theorem sc_is_from_to : FnScope ["thing", "least", "most"] ["thing", "least", "most"] (defScope s_is_from_to) := ⟨rfl, rfl, rfl, by decide +kernel, rfl, by decide +kernel, by decide +kernel⟩
theorem sc_common_divisor : FnScope ["first", "second"] ["first", "second"] (defScope s_common_divisor) := ⟨rfl, rfl, rfl, by decide +kernel, rfl, by decide +kernel, by decide +kernel⟩
theorem sc_is_share : FnScope ["thing", "top", "bottom"] ["thing"] (defScope s_is_share) := ⟨rfl, rfl, rfl, by decide +kernel, rfl, by decide +kernel, by decide +kernel⟩
theorem sc_is_drift : FnScope ["thing"] ["thing"] (defScope s_is_drift) := ⟨rfl, rfl, rfl, by decide +kernel, rfl, by decide +kernel, by decide +kernel⟩
theorem sc_refuse_no_count : FnScope ["thing"] ["thing"] (defScope s_refuse_no_count) := ⟨rfl, rfl, rfl, by decide +kernel, rfl, by decide +kernel, by decide +kernel⟩
theorem sc_least_of : FnScope ["ticks", "drift", "top", "bottom"] ["ticks", "drift"] (defScope s_least_of) := ⟨rfl, rfl, rfl, by decide +kernel, rfl, by decide +kernel, by decide +kernel⟩
theorem sc_most_of : FnScope ["ticks", "drift", "top", "bottom"] ["ticks", "drift"] (defScope s_most_of) := ⟨rfl, rfl, rfl, by decide +kernel, rfl, by decide +kernel, by decide +kernel⟩
theorem sc_bounds_behind : FnScope ["stands", "counted", "drift"] ["stands", "counted", "drift"] (defScope s_bounds_behind) := ⟨rfl, rfl, rfl, by decide +kernel, rfl, by decide +kernel, by decide +kernel⟩
theorem sc_set_between : FnScope ["told", "low", "high", "least", "most"] ["told", "low", "high"] (defScope s_set_between) := ⟨rfl, rfl, rfl, by decide +kernel, rfl, by decide +kernel, by decide +kernel⟩
theorem sc_changed_at : FnScope ["row", "at", "thing", "new"] ["row", "at", "thing"] (defScope s_changed_at) := ⟨rfl, rfl, rfl, by decide +kernel, rfl, by decide +kernel, by decide +kernel⟩
theorem sc_Copies_refuse_no_copy : FnScope ["self", "copy"] ["self", "copy"] (defScope s_Copies_refuse_no_copy) := ⟨rfl, rfl, rfl, by decide +kernel, rfl, by decide +kernel, by decide +kernel⟩
theorem sc_Copies_back : FnScope ["self", "copy"] ["self", "copy"] (defScope s_Copies_back) := ⟨rfl, rfl, rfl, by decide +kernel, rfl, by decide +kernel, by decide +kernel⟩
theorem sc_Copies_stop : FnScope ["self", "copy"] ["self", "copy"] (defScope s_Copies_stop) := ⟨rfl, rfl, rfl, by decide +kernel, rfl, by decide +kernel, by decide +kernel⟩
theorem sc_Copies_tell_bounds : FnScope ["self", "copy", "bounds"] ["self", "copy"] (defScope s_Copies_tell_bounds) := ⟨rfl, rfl, rfl, by decide +kernel, rfl, by decide +kernel, by decide +kernel⟩
theorem sc_Copies_tick_clock : FnScope ["self", "copy", "many"] ["self", "copy", "many"] (defScope s_Copies_tick_clock) := ⟨rfl, rfl, rfl, by decide +kernel, rfl, by decide +kernel, by decide +kernel⟩
theorem sc_Copies_is_most : FnScope ["self", "some"] ["self", "some"] (defScope s_Copies_is_most) := ⟨rfl, rfl, rfl, by decide +kernel, rfl, by decide +kernel, by decide +kernel⟩
theorem sc_Copies_till_of : FnScope ["self", "copy"] ["self", "copy"] (defScope s_Copies_till_of) := ⟨rfl, rfl, rfl, by decide +kernel, rfl, by decide +kernel, by decide +kernel⟩
theorem sc_Copies_can_promise : FnScope ["self", "copy", "promised"] ["self", "copy"] (defScope s_Copies_can_promise) := ⟨rfl, rfl, rfl, by decide +kernel, rfl, by decide +kernel, by decide +kernel⟩
theorem sc_Copies_may_rule : FnScope ["self", "copy", "till"] ["self", "copy"] (defScope s_Copies_may_rule) := ⟨rfl, rfl, rfl, by decide +kernel, rfl, by decide +kernel, by decide +kernel⟩
theorem sc_Copies___len__ : FnScope ["self"] ["self"] (defScope s_Copies___len__) := ⟨rfl, rfl, rfl, by decide +kernel, rfl, by decide +kernel, by decide +kernel⟩
theorem sc_Copies_set_clock : FnScope ["self", "copy", "low", "high"] ["self", "copy", "low", "high"] (defScope s_Copies_set_clock) := ⟨rfl, rfl, rfl, by decide +kernel, rfl, by decide +kernel, by decide +kernel⟩
theorem sc_Copies_heads : FnScope ["self", "copy"] ["self"] (defScope s_Copies_heads) := ⟨rfl, rfl, rfl, by decide +kernel, rfl, by decide +kernel, by decide +kernel⟩
theorem sc_Copies_head : FnScope ["self", "chosen"] ["self"] (defScope s_Copies_head) := ⟨rfl, rfl, rfl, by decide +kernel, rfl, by decide +kernel, by decide +kernel⟩
theorem sc_Copies_writers : FnScope ["self", "many", "copy", "has"] ["self"] (defScope s_Copies_writers) := ⟨rfl, rfl, rfl, by decide +kernel, rfl, by decide +kernel, by decide +kernel⟩
theorem sc_Copies_can_write : FnScope ["self"] ["self"] (defScope s_Copies_can_write) := ⟨rfl, rfl, rfl, by decide +kernel, rfl, by decide +kernel, by decide +kernel⟩
theorem sc_Copies_need_head : FnScope ["self", "head"] ["self"] (defScope s_Copies_need_head) := ⟨rfl, rfl, rfl, by decide +kernel, rfl, by decide +kernel, by decide +kernel⟩
theorem sc_Copies_greatest_promise : FnScope ["self", "some", "promises", "copy", "promised"] ["self", "some"] (defScope s_Copies_greatest_promise) := ⟨rfl, rfl, rfl, by decide +kernel, rfl, by decide +kernel, by decide +kernel⟩
theorem sc_Copies_promise : FnScope ["self", "some", "till", "copy"] ["self", "some", "till"] (defScope s_Copies_promise) := ⟨rfl, rfl, rfl, by decide +kernel, rfl, by decide +kernel, by decide +kernel⟩
theorem sc_Copies_choose : FnScope ["self", "copy", "some", "floor", "till", "other"] ["self", "copy"] (defScope s_Copies_choose) := ⟨rfl, rfl, rfl, by decide +kernel, rfl, by decide +kernel, by decide +kernel⟩
theorem sc_is_fixed : FnScope ["thing", "part"] ["thing"] (defScope s_is_fixed) := ⟨rfl, rfl, rfl, by decide +kernel, rfl, by decide +kernel, by decide +kernel⟩
theorem sc_Copies_write : FnScope ["self", "entry", "has", "copy"] ["self", "entry"] (defScope s_Copies_write) := ⟨rfl, rfl, rfl, by decide +kernel, rfl, by decide +kernel, by decide +kernel⟩
theorem sc_Copies_book : FnScope ["self", "copy", "many", "some"] ["self", "copy"] (defScope s_Copies_book) := ⟨rfl, rfl, rfl, by decide +kernel, rfl, by decide +kernel, by decide +kernel⟩
theorem sc_Copies___init__ : FnScope ["self", "many", "drift", "lease"] ["self", "many", "drift", "lease"] (defScope s_Copies___init__) := ⟨rfl, rfl, rfl, by decide +kernel, rfl, by decide +kernel, by decide +kernel⟩
theorem sc_Copies_may_renew : FnScope ["self", "copy"] ["self", "copy"] (defScope s_Copies_may_renew) := ⟨rfl, rfl, rfl, by decide +kernel, rfl, by decide +kernel, by decide +kernel⟩
theorem sc_Copies_renew : FnScope ["self", "head", "some", "till", "copy"] ["self"] (defScope s_Copies_renew) := ⟨rfl, rfl, rfl, by decide +kernel, rfl, by decide +kernel, by decide +kernel⟩
theorem sc_Copies_is_up : FnScope ["self", "copy"] ["self", "copy"] (defScope s_Copies_is_up) := ⟨rfl, rfl, rfl, by decide +kernel, rfl, by decide +kernel, by decide +kernel⟩
theorem sc_Copies_reign : FnScope ["self"] ["self"] (defScope s_Copies_reign) := ⟨rfl, rfl, rfl, by decide +kernel, rfl, by decide +kernel, by decide +kernel⟩
theorem sc_Copies_clock : FnScope ["self", "copy", "clock"] ["self", "copy"] (defScope s_Copies_clock) := ⟨rfl, rfl, rfl, by decide +kernel, rfl, by decide +kernel, by decide +kernel⟩
theorem sc_Copies_parts : FnScope ["self"] ["self"] (defScope s_Copies_parts) := ⟨rfl, rfl, rfl, by decide +kernel, rfl, by decide +kernel, by decide +kernel⟩
theorem sc_Copies_put_parts : FnScope ["self", "parts"] ["self", "parts"] (defScope s_Copies_put_parts) := ⟨rfl, rfl, rfl, by decide +kernel, rfl, by decide +kernel, by decide +kernel⟩
theorem sc_Copies_twin : FnScope ["self", "other"] ["self"] (defScope s_Copies_twin) := ⟨rfl, rfl, rfl, by decide +kernel, rfl, by decide +kernel, by decide +kernel⟩
theorem sc_Clock___init__ : FnScope ["self", "drift"] ["self", "drift"] (defScope s_Clock___init__) := ⟨rfl, rfl, rfl, by decide +kernel, rfl, by decide +kernel, by decide +kernel⟩
theorem sc_Clock_bounds : FnScope ["self"] ["self"] (defScope s_Clock_bounds) := ⟨rfl, rfl, rfl, by decide +kernel, rfl, by decide +kernel, by decide +kernel⟩
theorem sc_l_begun : FnScope ["_law_script", "_law_k", "_law_cell", "_law_number", "_law_mixed"] ["_law_script", "_law_k"] (defScope s_l_begun) := ⟨rfl, rfl, rfl, by decide +kernel, rfl, by decide +kernel, by decide +kernel⟩
theorem sc_l_take : FnScope ["_law_state", "_law_many", "_law_digit", "_law_made", "_law_turn"] ["_law_state", "_law_many"] (defScope s_l_take) := ⟨rfl, rfl, rfl, by decide +kernel, rfl, by decide +kernel, by decide +kernel⟩
theorem sc_l_group : FnScope ["_law_many", "_law_model"] ["_law_many"] (defScope s_l_group) := ⟨rfl, rfl, rfl, by decide +kernel, rfl, by decide +kernel, by decide +kernel⟩
theorem sc_l_bounds : FnScope ["_law_group_here", "_law_spot"] ["_law_group_here", "_law_spot"] (defScope s_l_bounds) := ⟨rfl, rfl, rfl, by decide +kernel, rfl, by decide +kernel, by decide +kernel⟩
theorem sc_l_heads : FnScope ["_law_model", "_law_group_here", "_law_some", "_law_spot"] ["_law_model", "_law_group_here"] (defScope s_l_heads) := ⟨rfl, rfl, rfl, by decide +kernel, rfl, by decide +kernel, by decide +kernel⟩
theorem sc_l_is_free : FnScope ["_law_model", "_law_group_here", "_law_spot"] ["_law_model", "_law_group_here", "_law_spot"] (defScope s_l_is_free) := ⟨rfl, rfl, rfl, by decide +kernel, rfl, by decide +kernel, by decide +kernel⟩
theorem sc_l_choose : FnScope ["_law_model", "_law_group_here", "_law_spot", "_law_span", "_law_some", "_law_floor", "_law_one"] ["_law_model", "_law_group_here", "_law_spot", "_law_span"] (defScope s_l_choose) := ⟨rfl, rfl, rfl, by decide +kernel, rfl, by decide +kernel, by decide +kernel⟩
theorem sc_l_renewed : FnScope ["_law_model", "_law_group_here", "_law_span", "_law_head", "_law_some", "_law_one"] ["_law_model", "_law_group_here", "_law_span"] (defScope s_l_renewed) := ⟨rfl, rfl, rfl, by decide +kernel, rfl, by decide +kernel, by decide +kernel⟩
theorem sc_l_written : FnScope ["_law_model", "_law_group_here", "_law_entry", "_law_sizes", "_law_some", "_law_one"] ["_law_model", "_law_group_here", "_law_entry"] (defScope s_l_written) := ⟨rfl, rfl, rfl, by decide +kernel, rfl, by decide +kernel, by decide +kernel⟩
theorem sc_l_stands : FnScope ["_law_model", "_law_group_here", "_law_heads_here", "_law_spot"] ["_law_model", "_law_group_here"] (defScope s_l_stands) := ⟨rfl, rfl, rfl, by decide +kernel, rfl, by decide +kernel, by decide +kernel⟩
theorem sc_l_tick : FnScope ["_law_state", "_law_group_here", "_law_now", "_law_rests", "_law_many", "_law_spot", "_law_whole"] ["_law_state", "_law_group_here", "_law_now", "_law_rests"] (defScope s_l_tick) := ⟨rfl, rfl, rfl, by decide +kernel, rfl, by decide +kernel, by decide +kernel⟩
theorem sc_l_begin_clocks : FnScope ["_law_state", "_law_group_here", "_law_rests", "_law_spot"] ["_law_state", "_law_group_here"] (defScope s_l_begin_clocks) := ⟨rfl, rfl, rfl, by decide +kernel, rfl, by decide +kernel, by decide +kernel⟩
theorem sc_l_copied : FnScope ["_law_model", "_law_found", "_law_word"] ["_law_model"] (defScope s_l_copied) := ⟨rfl, rfl, rfl, by decide +kernel, rfl, by decide +kernel, by decide +kernel⟩
theorem sc_l_said : FnScope ["_law_group_here", "_law_way", "_law_thing"] ["_law_group_here", "_law_way", "_law_thing"] (defScope s_l_said) := ⟨rfl, rfl, rfl, by decide +kernel, rfl, by decide +kernel, by decide +kernel⟩
theorem sc_l_deed : FnScope ["_law_state", "_law_model", "_law_group_here", "_law_number", "_law_way", "_law_spot", "_law_due"] ["_law_state", "_law_model", "_law_group_here", "_law_number"] (defScope s_l_deed) := ⟨rfl, rfl, rfl, by decide +kernel, rfl, by decide +kernel, by decide +kernel⟩
theorem sc_law : FnScope ["_law_script", "_law_state", "_law_groups", "_law_models", "_law_rests", "_law_times", "_law_k", "_law_at", "_law_one"] ["_law_script"] (defScope s_law) := ⟨rfl, rfl, rfl, by decide +kernel, rfl, by decide +kernel, by decide +kernel⟩
/-- what the top has written -/
structure Txt (K : PySem.W.Frag) (mg : Str → Option Value) (a : Nat → Addr) (d : Nat → FuncData) : Prop where
  g_is_whole : mg "is_whole" = some (.ref (a 0))
  F_is_whole : Fun K "is_whole" "is_whole" s_is_whole (a 0) (d 0)
  b_is_whole : Binds K (d 0) ["thing"] []
  g_is_count : mg "is_count" = some (.ref (a 1))
  F_is_count : Fun K "is_count" "is_count" s_is_count (a 1) (d 1)
  b_is_count : Binds K (d 1) ["thing"] []
  g_is_from_to : mg "is_from_to" = some (.ref (a 2))
  F_is_from_to : Fun K "is_from_to" "is_from_to" s_is_from_to (a 2) (d 2)
  b_is_from_to : Binds K (d 2) ["thing", "least", "most"] []
  g_common_divisor : mg "common_divisor" = some (.ref (a 3))
  F_common_divisor : Fun K "common_divisor" "common_divisor" s_common_divisor (a 3) (d 3)
  b_common_divisor : Binds K (d 3) ["first", "second"] []
  g_is_share : mg "is_share" = some (.ref (a 4))
  F_is_share : Fun K "is_share" "is_share" s_is_share (a 4) (d 4)
  b_is_share : Binds K (d 4) ["thing"] []
  g_is_drift : mg "is_drift" = some (.ref (a 5))
  F_is_drift : Fun K "is_drift" "is_drift" s_is_drift (a 5) (d 5)
  b_is_drift : Binds K (d 5) ["thing"] []
  g_refuse_no_count : mg "refuse_no_count" = some (.ref (a 6))
  F_refuse_no_count : Fun K "refuse_no_count" "refuse_no_count" s_refuse_no_count (a 6) (d 6)
  b_refuse_no_count : Binds K (d 6) ["thing"] []
  g_least_of : mg "least_of" = some (.ref (a 7))
  F_least_of : Fun K "least_of" "least_of" s_least_of (a 7) (d 7)
  b_least_of : Binds K (d 7) ["ticks", "drift"] []
  g_most_of : mg "most_of" = some (.ref (a 8))
  F_most_of : Fun K "most_of" "most_of" s_most_of (a 8) (d 8)
  b_most_of : Binds K (d 8) ["ticks", "drift"] []
  g_bounds_behind : mg "bounds_behind" = some (.ref (a 9))
  F_bounds_behind : Fun K "bounds_behind" "bounds_behind" s_bounds_behind (a 9) (d 9)
  b_bounds_behind : Binds K (d 9) ["stands", "counted", "drift"] []
  g_set_between : mg "set_between" = some (.ref (a 10))
  F_set_between : Fun K "set_between" "set_between" s_set_between (a 10) (d 10)
  b_set_between : Binds K (d 10) ["told", "low", "high"] []
  g_changed_at : mg "changed_at" = some (.ref (a 11))
  F_changed_at : Fun K "changed_at" "changed_at" s_changed_at (a 11) (d 11)
  b_changed_at : Binds K (d 11) ["row", "at", "thing"] []
  F_Copies_refuse_no_copy : Fun K "refuse_no_copy" "Copies.refuse_no_copy" s_Copies_refuse_no_copy (a 12) (d 12)
  b_Copies_refuse_no_copy : Binds K (d 12) ["self", "copy"] []
  m_Copies_refuse_no_copy : Meth K (a 61) "refuse_no_copy" (a 12)
  F_Copies_back : Fun K "back" "Copies.back" s_Copies_back (a 13) (d 13)
  b_Copies_back : Binds K (d 13) ["self", "copy"] []
  m_Copies_back : Meth K (a 61) "back" (a 13)
  F_Copies_stop : Fun K "stop" "Copies.stop" s_Copies_stop (a 14) (d 14)
  b_Copies_stop : Binds K (d 14) ["self", "copy"] []
  m_Copies_stop : Meth K (a 61) "stop" (a 14)
  F_Copies_tell_bounds : Fun K "tell_bounds" "Copies.tell_bounds" s_Copies_tell_bounds (a 15) (d 15)
  b_Copies_tell_bounds : Binds K (d 15) ["self", "copy"] []
  m_Copies_tell_bounds : Meth K (a 61) "tell_bounds" (a 15)
  F_Copies_tick_clock : FunD K "tick_clock" "Copies.tick_clock" (defArgs s_Copies_tick_clock) (defBody s_Copies_tick_clock) (defScope s_Copies_tick_clock) [.int 1] [] (a 16) (d 16)
  c_Copies_tick_clock : ∃ ds, Vals [.int 1] ds ∧ Binds K (d 16) ["self", "copy", "many"] ds
  b_Copies_tick_clock : Binds K (d 16) ["self", "copy", "many"] []
  m_Copies_tick_clock : Meth K (a 61) "tick_clock" (a 16)
  F_Copies_is_most : Fun K "is_most" "Copies.is_most" s_Copies_is_most (a 17) (d 17)
  b_Copies_is_most : Binds K (d 17) ["self", "some"] []
  m_Copies_is_most : Meth K (a 61) "is_most" (a 17)
  F_Copies_till_of : Fun K "till_of" "Copies.till_of" s_Copies_till_of (a 18) (d 18)
  b_Copies_till_of : Binds K (d 18) ["self", "copy"] []
  m_Copies_till_of : Meth K (a 61) "till_of" (a 18)
  F_Copies_can_promise : Fun K "can_promise" "Copies.can_promise" s_Copies_can_promise (a 19) (d 19)
  b_Copies_can_promise : Binds K (d 19) ["self", "copy"] []
  m_Copies_can_promise : Meth K (a 61) "can_promise" (a 19)
  F_Copies_may_rule : Fun K "may_rule" "Copies.may_rule" s_Copies_may_rule (a 20) (d 20)
  b_Copies_may_rule : Binds K (d 20) ["self", "copy"] []
  m_Copies_may_rule : Meth K (a 61) "may_rule" (a 20)
  F_Copies___len__ : Fun K "__len__" "Copies.__len__" s_Copies___len__ (a 21) (d 21)
  b_Copies___len__ : Binds K (d 21) ["self"] []
  m_Copies___len__ : Meth K (a 61) "__len__" (a 21)
  F_Copies_set_clock : Fun K "set_clock" "Copies.set_clock" s_Copies_set_clock (a 22) (d 22)
  b_Copies_set_clock : Binds K (d 22) ["self", "copy", "low", "high"] []
  m_Copies_set_clock : Meth K (a 61) "set_clock" (a 22)
  F_Copies_heads : Fun K "heads" "Copies.heads" s_Copies_heads (a 23) (d 23)
  b_Copies_heads : Binds K (d 23) ["self"] []
  m_Copies_heads : Meth K (a 61) "heads" (a 23)
  F_Copies_head : Fun K "head" "Copies.head" s_Copies_head (a 24) (d 24)
  b_Copies_head : Binds K (d 24) ["self"] []
  m_Copies_head : Meth K (a 61) "head" (a 24)
  F_Copies_writers : Fun K "writers" "Copies.writers" s_Copies_writers (a 25) (d 25)
  b_Copies_writers : Binds K (d 25) ["self"] []
  m_Copies_writers : Meth K (a 61) "writers" (a 25)
  F_Copies_can_write : Fun K "can_write" "Copies.can_write" s_Copies_can_write (a 26) (d 26)
  b_Copies_can_write : Binds K (d 26) ["self"] []
  m_Copies_can_write : Meth K (a 61) "can_write" (a 26)
  F_Copies_need_head : Fun K "need_head" "Copies.need_head" s_Copies_need_head (a 27) (d 27)
  b_Copies_need_head : Binds K (d 27) ["self"] []
  m_Copies_need_head : Meth K (a 61) "need_head" (a 27)
  F_Copies_greatest_promise : Fun K "greatest_promise" "Copies.greatest_promise" s_Copies_greatest_promise (a 28) (d 28)
  b_Copies_greatest_promise : Binds K (d 28) ["self", "some"] []
  m_Copies_greatest_promise : Meth K (a 61) "greatest_promise" (a 28)
  F_Copies_promise : Fun K "promise" "Copies.promise" s_Copies_promise (a 29) (d 29)
  b_Copies_promise : Binds K (d 29) ["self", "some", "till"] []
  m_Copies_promise : Meth K (a 61) "promise" (a 29)
  F_Copies_choose : Fun K "choose" "Copies.choose" s_Copies_choose (a 30) (d 30)
  b_Copies_choose : Binds K (d 30) ["self", "copy"] []
  m_Copies_choose : Meth K (a 61) "choose" (a 30)
  g_is_fixed : mg "is_fixed" = some (.ref (a 31))
  F_is_fixed : Fun K "is_fixed" "is_fixed" s_is_fixed (a 31) (d 31)
  b_is_fixed : Binds K (d 31) ["thing"] []
  F_Copies_write : Fun K "write" "Copies.write" s_Copies_write (a 32) (d 32)
  b_Copies_write : Binds K (d 32) ["self", "entry"] []
  m_Copies_write : Meth K (a 61) "write" (a 32)
  F_Copies_book : FunD K "book" "Copies.book" (defArgs s_Copies_book) (defBody s_Copies_book) (defScope s_Copies_book) [.non] [] (a 33) (d 33)
  c_Copies_book : ∃ ds, Vals [.non] ds ∧ Binds K (d 33) ["self", "copy"] ds
  b_Copies_book : Binds K (d 33) ["self", "copy"] []
  m_Copies_book : Meth K (a 61) "book" (a 33)
  F_Copies___init__ : FunD K "__init__" "Copies.__init__" (defArgs s_Copies___init__) (defBody s_Copies___init__) (defScope s_Copies___init__) [.int 3] [] (a 34) (d 34)
  k_Copies___init__ : KBn K (d 34) ["self", "many", "drift", "lease"] 2 ["drift", "lease"] (fun us ws => us ++ ws) (fun vs zs => vs ++ zs)
  m_Copies___init__ : Mk K (a 61) (a 34)
  F_Copies_may_renew : Fun K "may_renew" "Copies.may_renew" s_Copies_may_renew (a 35) (d 35)
  b_Copies_may_renew : Binds K (d 35) ["self", "copy"] []
  m_Copies_may_renew : Meth K (a 61) "may_renew" (a 35)
  F_Copies_renew : Fun K "renew" "Copies.renew" s_Copies_renew (a 36) (d 36)
  b_Copies_renew : Binds K (d 36) ["self"] []
  m_Copies_renew : Meth K (a 61) "renew" (a 36)
  F_Copies_is_up : Fun K "is_up" "Copies.is_up" s_Copies_is_up (a 37) (d 37)
  b_Copies_is_up : Binds K (d 37) ["self", "copy"] []
  m_Copies_is_up : Meth K (a 61) "is_up" (a 37)
  F_Copies_reign : Fun K "reign" "Copies.reign" s_Copies_reign (a 38) (d 38)
  b_Copies_reign : Binds K (d 38) ["self"] []
  m_Copies_reign : Meth K (a 61) "reign" (a 38)
  F_Copies_clock : Fun K "clock" "Copies.clock" s_Copies_clock (a 39) (d 39)
  b_Copies_clock : Binds K (d 39) ["self", "copy"] []
  m_Copies_clock : Meth K (a 61) "clock" (a 39)
  F_Copies_parts : Fun K "parts" "Copies.parts" s_Copies_parts (a 40) (d 40)
  b_Copies_parts : Binds K (d 40) ["self"] []
  m_Copies_parts : Meth K (a 61) "parts" (a 40)
  F_Copies_put_parts : Fun K "put_parts" "Copies.put_parts" s_Copies_put_parts (a 41) (d 41)
  b_Copies_put_parts : Binds K (d 41) ["self", "parts"] []
  m_Copies_put_parts : Meth K (a 61) "put_parts" (a 41)
  F_Copies_twin : Fun K "twin" "Copies.twin" s_Copies_twin (a 42) (d 42)
  b_Copies_twin : Binds K (d 42) ["self"] []
  m_Copies_twin : Meth K (a 61) "twin" (a 42)
  F_Clock___init__ : FunD K "__init__" "Clock.__init__" (defArgs s_Clock___init__) (defBody s_Clock___init__) (defScope s_Clock___init__) [.ref (a 65)] [] (a 43) (d 43)
  c_Clock___init__ : ∃ ds, Vals [.ref (a 65)] ds ∧ Binds K (d 43) ["self", "drift"] ds
  b_Clock___init__ : Binds K (d 43) ["self", "drift"] []
  m_Clock___init__ : Mk K (a 62) (a 43)
  F_Clock_bounds : Fun K "bounds" "Clock.bounds" s_Clock_bounds (a 44) (d 44)
  b_Clock_bounds : Binds K (d 44) ["self"] []
  m_Clock_bounds : Meth K (a 62) "bounds" (a 44)
  g_l_begun : mg "_law_begun" = some (.ref (a 45))
  F_l_begun : Fun K "_law_begun" "_law_begun" s_l_begun (a 45) (d 45)
  b_l_begun : Binds K (d 45) ["_law_script", "_law_k"] []
  g_l_take : mg "_law_take" = some (.ref (a 46))
  F_l_take : Fun K "_law_take" "_law_take" s_l_take (a 46) (d 46)
  b_l_take : Binds K (d 46) ["_law_state", "_law_many"] []
  g_l_group : mg "_law_group" = some (.ref (a 47))
  F_l_group : Fun K "_law_group" "_law_group" s_l_group (a 47) (d 47)
  b_l_group : Binds K (d 47) ["_law_many"] []
  g_l_bounds : mg "_law_bounds" = some (.ref (a 48))
  F_l_bounds : Fun K "_law_bounds" "_law_bounds" s_l_bounds (a 48) (d 48)
  b_l_bounds : Binds K (d 48) ["_law_group_here", "_law_spot"] []
  g_l_heads : mg "_law_heads" = some (.ref (a 49))
  F_l_heads : Fun K "_law_heads" "_law_heads" s_l_heads (a 49) (d 49)
  b_l_heads : Binds K (d 49) ["_law_model", "_law_group_here"] []
  g_l_is_free : mg "_law_is_free" = some (.ref (a 50))
  F_l_is_free : Fun K "_law_is_free" "_law_is_free" s_l_is_free (a 50) (d 50)
  b_l_is_free : Binds K (d 50) ["_law_model", "_law_group_here", "_law_spot"] []
  g_l_choose : mg "_law_choose" = some (.ref (a 51))
  F_l_choose : Fun K "_law_choose" "_law_choose" s_l_choose (a 51) (d 51)
  b_l_choose : Binds K (d 51) ["_law_model", "_law_group_here", "_law_spot", "_law_span"] []
  g_l_renewed : mg "_law_renewed" = some (.ref (a 52))
  F_l_renewed : Fun K "_law_renewed" "_law_renewed" s_l_renewed (a 52) (d 52)
  b_l_renewed : Binds K (d 52) ["_law_model", "_law_group_here", "_law_span"] []
  g_l_written : mg "_law_written" = some (.ref (a 53))
  F_l_written : Fun K "_law_written" "_law_written" s_l_written (a 53) (d 53)
  b_l_written : Binds K (d 53) ["_law_model", "_law_group_here", "_law_entry"] []
  g_l_stands : mg "_law_stands" = some (.ref (a 54))
  F_l_stands : Fun K "_law_stands" "_law_stands" s_l_stands (a 54) (d 54)
  b_l_stands : Binds K (d 54) ["_law_model", "_law_group_here"] []
  g_l_tick : mg "_law_tick" = some (.ref (a 55))
  F_l_tick : Fun K "_law_tick" "_law_tick" s_l_tick (a 55) (d 55)
  b_l_tick : Binds K (d 55) ["_law_state", "_law_group_here", "_law_now", "_law_rests"] []
  g_l_begin_clocks : mg "_law_begin_clocks" = some (.ref (a 56))
  F_l_begin_clocks : Fun K "_law_begin_clocks" "_law_begin_clocks" s_l_begin_clocks (a 56) (d 56)
  b_l_begin_clocks : Binds K (d 56) ["_law_state", "_law_group_here"] []
  g_l_copied : mg "_law_copied" = some (.ref (a 57))
  F_l_copied : Fun K "_law_copied" "_law_copied" s_l_copied (a 57) (d 57)
  b_l_copied : Binds K (d 57) ["_law_model"] []
  g_l_said : mg "_law_said" = some (.ref (a 58))
  F_l_said : Fun K "_law_said" "_law_said" s_l_said (a 58) (d 58)
  b_l_said : Binds K (d 58) ["_law_group_here", "_law_way", "_law_thing"] []
  g_l_deed : mg "_law_deed" = some (.ref (a 59))
  F_l_deed : Fun K "_law_deed" "_law_deed" s_l_deed (a 59) (d 59)
  b_l_deed : Binds K (d 59) ["_law_state", "_law_model", "_law_group_here", "_law_number"] []
  g_law : mg "law" = some (.ref (a 60))
  F_law : Fun K "law" "law" s_law (a 60) (d 60)
  b_law : Binds K (d 60) ["_law_script"] []
  g_Copies : mg "Copies" = some (.ref (a 61))
  cl : Cls K (a 61)
  n_most_drift : NoAttr K (a 61) "most_drift"
  n_lease : NoAttr K (a 61) "lease"
  n_ups : NoAttr K (a 61) "ups"
  n_has : NoAttr K (a 61) "has"
  n_stands : NoAttr K (a 61) "stands"
  n_counts : NoAttr K (a 61) "counts"
  n_spans : NoAttr K (a 61) "spans"
  n_promises : NoAttr K (a 61) "promises"
  n_promised_in : NoAttr K (a 61) "promised_in"
  n_rules_till : NoAttr K (a 61) "rules_till"
  n_entries : NoAttr K (a 61) "entries"
  n_lent : NoAttr K (a 61) "lent"
  n_loose : NoAttr K (a 61) "loose"
  n_reigns : NoAttr K (a 61) "reigns"
  n_chosen : NoAttr K (a 61) "chosen"
  g_Clock : mg "Clock" = some (.ref (a 62))
  cl_Clock : Cls K (a 62)
  n_Clock_most_drift : NoAttr K (a 62) "most_drift"
  n_Clock_stands : NoAttr K (a 62) "stands"
  n_Clock_counted : NoAttr K (a 62) "counted"
  g_WHOLE : mg "WHOLE" = some (.ref (a 63))
  k_WHOLE : ∀ H : Hp, SqT K H (a 63) [V.int 1, V.int 1]
  g_MOST_BOTTOM : ∃ t, mg "MOST_BOTTOM" = some (.int (1000) t)
  g_DRIFT : mg "DRIFT" = some (.ref (a 65))
  k_DRIFT : ∀ H : Hp, SqT K H (a 65) [V.int 1, V.int 100]
  g_LEASE : ∃ t, mg "LEASE" = some (.int (20) t)
  g_LONGEST_LEASE : ∃ t, mg "LONGEST_LEASE" = some (.int (1000) t)
  g_MOST_COPIES : ∃ t, mg "MOST_COPIES" = some (.int (5) t)
  g_NOTHING_PROMISED : ∃ t, mg "NOTHING_PROMISED" = some (.int (-1) t)
  z_max : mg "max" = none
  z_min : mg "min" = none
  z_len : mg "len" = none
  z_int : mg "int" = none
  z_range : mg "range" = none
  z_isinstance : mg "isinstance" = none
  z_bool : mg "bool" = none
  z_tuple : mg "tuple" = none
  z_list : mg "list" = none
  z_dict : mg "dict" = none
  z_enumerate : mg "enumerate" = none
  z_repr : mg "repr" = none
  gE_NoHead : mg "NoHead" = some (.ref (a 100))
  xo_NoHead : XB.Own K (a 100) "RuntimeError" "RuntimeError.__new__" "RuntimeError.__init__" [.type "RuntimeError", .type "Exception", .type "BaseException", .type "object"]
  ie_NoHead : PySem.W.findIn K (.ref (a 100)) "__init__" = some (some (.ref (a 150)))
  ne_NoHead_house : PySem.W.findIn K (.ref (a 100)) "house" = some none
  xf_NoHead : XfC K (a 100)
  xc_NoHead : ExcC K (a 100)
  te_NoHead : PySem.W.typeIn K (.ref (a 150)) = some (.type "function")
  F_INoHead : Fun K "__init__" "NoHead.__init__" s_INoHead (a 150) (d 150)
  b_INoHead : Binds K (d 150) ["self", "house"] []
  ex_NoHead_NoHead : PySem.W.exmOne K (.ref (a 100)) (.ref (a 100)) = some true

theorem bl_of {Q : VK} {H : Hp} {c : Prop} [Decidable c] (h : c) (q : Q (.bl true) H) : Q (.bl (decide c)) H := by
  rw [decide_eq_true h]
  exact q
theorem bl_no {Q : VK} {H : Hp} {c : Prop} [Decidable c] (h : ¬ c) (q : Q (.bl false) H) : Q (.bl (decide c)) H := by
  rw [decide_eq_false h]
  exact q
theorem iteDT {c A B : Prop} [Decidable c] (h : c) (a : A) : if decide c = true then A else B := by
  rw [if_pos (decide_eq_true h)]
  exact a
theorem iteDF {c A B : Prop} [Decidable c] (h : ¬ c) (b : B) : if decide c = true then A else B := by
  rw [decide_eq_false h]
  exact iteF b
theorem iteND {c A B : Prop} [Decidable c] (h : ¬ c) (a : A) : if (!decide c) = true then A else B := by
  rw [decide_eq_false h]
  exact iteT a
theorem iteBT {c : Bool} {A B : Prop} (h : c = true) (a : A) : if c = true then A else B := by
  rw [if_pos h]
  exact a
theorem iteBF {c : Bool} {A B : Prop} (h : c = false) (b : B) : if c = true then A else B := by
  rw [h]
  exact iteF b
theorem len3 : 3 ≤ sizeLine := by decide
theorem len2 : 2 ≤ sizeLine := by decide
theorem len1 : 1 ≤ sizeLine := by decide
theorem m64 {i : Int} (a : -18446744073709551616 < i) (b : i < 18446744073709551616) : -(2 ^ 64) < i ∧ i < 2 ^ 64 := by
  have e : (2 : Int) ^ 64 = 18446744073709551616 := by decide
  rw [e]
  exact ⟨a, b⟩
theorem divW {i j : Int} (h : 0 < j) (hb : j ≤ 1000000000000000000000000000000) : CDivW i j := wide_div (b := 200) h (by
  have e : (j.natAbs : Int) = j := by omega
  have q : (j.natAbs : Int) < ((2 ^ 200 : Nat) : Int) := by rw [e]; exact Int.lt_of_le_of_lt hb (by decide)
  exact Int.ofNat_lt.mp q) (by decide) (by decide)
/-! ### heaps -/
/-- all that was tracked but x stands -/
def Fr (x : Addr) (H H' : Hp) : Prop := ∀ b o, b ≠ x → H b = some o → H' b = some o
theorem Fr.refl (x : Addr) (H : Hp) : Fr x H H := fun _ _ _ e => e
theorem Fr.trans {x : Addr} {H H1 H2 : Hp} (a : Fr x H H1) (b : Fr x H1 H2) : Fr x H H2 := fun c o n e => b c o n (a c o n e)
theorem fr_same {x : Addr} {H H' : Hp} (s : Same H H') : Fr x H H' := fun b o _ e => s b o e
theorem Fr.new {x p : Addr} {H H1 : Hp} {o : HO} (k : Fr x H H1) (hp : H1 p = none) : Fr x H (upd H1 p o) := fun b u n e => by
  rw [upd_ne (ne_of_none (k b u n e) hp)]
  exact k b u n e
theorem Fr.put {x : Addr} {H H1 : Hp} {o : HO} (k : Fr x H H1) : Fr x H (upd H1 x o) := fun b u n e => by
  rw [upd_ne n]
  exact k b u n e
theorem Fr.over {x : Addr} {H0 H H1 : Hp} (a : Same H0 H) (hx : H0 x = none) (k : Fr x H H1) : Same H0 H1 := fun b o e => k b o (ne_of_none e hx) (a b o e)
theorem same_new {H0 H : Hp} {p : Addr} {o : HO} (a : Same H0 H) (hp : H p = none) : Same H0 (upd H p o) := fun b u e => by
  rw [upd_ne (ne_of_none (a b u e) hp)]
  exact a b u e
/-- a thing that may be changed -/
def Mut : HO → Prop
  | .lst _ => True
  | .ins _ _ _ => True
  | _ => False
theorem Fr.tup {x p : Addr} {H H' : Hp} {o : HO} {xs : List V} (k : Fr x H H') (hx : H x = some o) (m : Mut o) (hp : H p = some (.tup xs)) : H' p = some (.tup xs) :=
  k p _ (ne_of hp hx (by intro e; subst e; exact m)) hp
theorem Fr.sqt {K : PySem.W.Frag} {x p : Addr} {H H' : Hp} {o : HO} {xs : List V} (k : Fr x H H') (hx : H x = some o) (m : Mut o) (h : SqT K H p xs) : SqT K H' p xs := by
  rcases h with (h | ⟨u, h⟩) | h
  · exact .inl (.inl (k p _ (ne_of h hx (by intro e; subst e; exact m)) h))
  · exact .inl (.inr ⟨u, k p _ (ne_of h hx (by intro e; subst e; exact m)) h⟩)
  · exact .inr h
theorem same_sqt {K : PySem.W.Frag} {p : Addr} {H H' : Hp} {xs : List V} (k : Same H H') (h : SqT K H p xs) : SqT K H' p xs := by
  rcases h with (h | ⟨u, h⟩) | h
  · exact .inl (.inl (k p _ h))
  · exact .inl (.inr ⟨u, k p _ h⟩)
  · exact .inr h
theorem sqt_ty {K : PySem.W.Frag} {H : Hp} {p : Addr} {xs : List V} (h : SqT K H p xs) : TyX K H (.ref p) (.type "tuple") := by
  rcases h with (h | ⟨u, h⟩) | ⟨o, its, n, h1, h2, _⟩
  · exact .base (.tup h)
  · exact .fTuple h
  · exact .kTuple h1 h2
/-! ### draws -/
def BagAt (H : Hp) (s : Addr) : Prop := ∃ a b : Int, H s = some (.lst [.int a, .int b]) ∧ 0 ≤ b ∧ b < 2147483647
theorem BagAt.ex {H : Hp} {s : Addr} (h : BagAt H s) : ∃ o, H s = some o ∧ Mut o := by
  obtain ⟨a, b, e, _⟩ := h
  exact ⟨_, e, trivial⟩
theorem BagAt.same {H H' : Hp} {s : Addr} (h : BagAt H s) (k : Same H H') : BagAt H' s := by
  obtain ⟨a, b, e, r⟩ := h
  exact ⟨a, b, k _ _ e, r⟩
theorem BagAt.new {H : Hp} {s p : Addr} {o : HO} (h : BagAt H s) (hp : H p = none) : BagAt (upd H p o) s := h.same (same_new (Same.refl H) hp)
theorem BagAt.ne_new {H : Hp} {s p : Addr} (h : BagAt H s) (hp : H p = none) : p ≠ s := by
  obtain ⟨a, b, e, _⟩ := h
  exact (ne_of_none e hp).symm
theorem BagAt.fr {H H' : Hp} {s x : Addr} (h : BagAt H s) (k : Fr x H H') (ne : s ≠ x) : BagAt H' s := by
  obtain ⟨a, b, e, r⟩ := h
  exact ⟨a, b, k _ _ ne e, r⟩
theorem BagAt.some_ {H : Hp} {s : Addr} (h : BagAt H s) : ∃ o, H s = some o := by
  obtain ⟨a, b, e, _⟩ := h
  exact ⟨_, e⟩
theorem BagAt.ne_none {H : Hp} {s p : Addr} (h : BagAt H s) (hp : H p = none) : s ≠ p := (h.ne_new hp).symm
theorem same_make {H : Hp} {x dx : Addr} {o1 o2 : HO} (nx : H x = none) (ndx : H dx = none) : Same H (upd (upd H dx o1) x o2) := fun b o e => by
  rw [upd_ne (ne_of_none e nx), upd_ne (ne_of_none e ndx)]
  exact e
def spBag (K : PySem.W.Frag) : Sp := fun vs H Q _ => ∃ (l : Addr) (ns : List Int) (k : Int), vs = [.ref l, .int k] ∧ SqL K H l (ns.map V.int) ∧ 0 ≤ k ∧ k ≤ 100 ∧ ∀ (p : Addr) (H' : Hp), H p = none → Same H H' → BagAt H' p → Q (.ref p) H'
def spOut : Sp := fun vs H Q _ => ∃ (s : Addr) (m : Int), vs = [.ref s, .int m] ∧ BagAt H s ∧ 0 < m ∧ m ≤ 1000000000000000000000000000000 ∧ ∀ (r : Int) (H' : Hp), 0 ≤ r → r < m → Fr s H H' → BagAt H' s → Q (.int r) H'
def DrOk (K : PySem.W.Frag) (H : Hp) (p : Addr) (t b : Int) : Prop := SqT K H p [.int t, .int b] ∧ 0 ≤ t ∧ t < b ∧ b ≤ 1000 ∧ Int.gcd t b = 1
theorem DrOk.same {K : PySem.W.Frag} {H H' : Hp} {p : Addr} {t b : Int} (h : DrOk K H p t b) (k : Same H H') : DrOk K H' p t b := ⟨same_sqt k h.1, h.2⟩
theorem DrOk.fr {K : PySem.W.Frag} {H H' : Hp} {p x : Addr} {o : HO} {t b : Int} (h : DrOk K H p t b) (k : Fr x H H') (hx : H x = some o) (m : Mut o) : DrOk K H' p t b := ⟨k.sqt hx m h.1, h.2⟩
theorem DrOk.bag {K : PySem.W.Frag} {H H' : Hp} {p s : Addr} {t b : Int} (h : DrOk K H p t b) (k : Fr s H H') (bs : BagAt H s) : DrOk K H' p t b := by
  obtain ⟨o, e, m⟩ := bs.ex
  exact h.fr k e m
def spLDrift (K : PySem.W.Frag) : Sp := fun vs H Q _ => ∃ s : Addr, vs = [.ref s] ∧ BagAt H s ∧ ∀ (t b : Int) (p : Addr) (H' : Hp), Fr s H H' → BagAt H' s → DrOk K H' p t b → H' p = some (.tup [.int t, .int b]) → Q (.ref p) H'
/-! ### numbers -/
theorem pos_of_mul {g x l : Int} (hg : 0 < g) (hl : 0 < l) (e : l = g * x) : 0 < x := by
  rcases Int.lt_or_le 0 x with h | h
  · exact h
  · have := Int.mul_nonpos_of_nonneg_of_nonpos (Int.le_of_lt hg) h
    omega
theorem nn_of_mul {g x l : Int} (hg : 0 < g) (hl : 0 ≤ l) (e : l = g * x) : 0 ≤ x := by
  rcases Int.lt_or_le x 0 with h | h
  · have := Int.mul_neg_of_pos_of_neg hg h
    omega
  · exact h
theorem le_of_gmul {g x l : Int} (hg : 0 < g) (hx : 0 ≤ x) (e : l = g * x) : x ≤ l := by
  have := Int.mul_le_mul_of_nonneg_right (show 1 ≤ g by omega) hx
  omega
theorem le_cancel {g x y : Int} (hg : 0 < g) (h : g * x ≤ g * y) : x ≤ y := Int.le_of_mul_le_mul_left h hg
theorem lt_cancel {g x y : Int} (hg : 0 < g) (h : g * x < g * y) : x < y := Int.lt_of_mul_lt_mul_left h (Int.le_of_lt hg)
theorem gcd_turn {h t : Int} (h0 : 0 ≤ h) (t0 : 0 < t) : Int.gcd t (h % t) = Int.gcd h t := by
  obtain ⟨a, rfl⟩ := Int.eq_ofNat_of_zero_le h0
  obtain ⟨b, rfl⟩ := Int.eq_ofNat_of_zero_le (Int.le_of_lt t0)
  show Nat.gcd b (a % b) = Nat.gcd a b
  rw [Nat.gcd_comm a b, Nat.gcd_rec b a, Nat.gcd_comm]
theorem low_end {u l h : Int} (u0 : 0 ≤ u) (l0 : 0 < l) (h0 : 0 ≤ h) (e : Int.gcd h 0 = Int.gcd u l) : 0 < h ∧ u = h * (u / h) ∧ l = h * (l / h) ∧ Int.gcd (u / h) (l / h) = 1 ∧ h ≤ l := by
  have e1 : (h : Int) = (Int.gcd u l : Nat) := by
    have : Int.gcd h 0 = h.natAbs := Int.gcd_zero_right h
    rw [this] at e
    omega
  have hp : 0 < Int.gcd u l := Int.gcd_pos_of_ne_zero_right u (by omega)
  have d1 : h ∣ u := by rw [e1]; exact Int.gcd_dvd_left u l
  have d2 : h ∣ l := by rw [e1]; exact Int.gcd_dvd_right u l
  have hp' : 0 < h := by omega
  refine ⟨hp', (Int.mul_ediv_cancel' d1).symm, (Int.mul_ediv_cancel' d2).symm, ?_, Int.le_of_dvd l0 d2⟩
  rw [e1]
  exact Int.gcd_ediv_gcd_ediv_gcd hp
def leastP (n t b : Int) : Int := -(-n * b / (b + t))
def mostP (n t b : Int) : Int := ((n + 1) * b - 1) / (b - t)
theorem least_le {n t b p : Int} (t0 : 0 ≤ t) (tb : t < b) (h : n * b ≤ p * (b + t)) : leastP n t b ≤ p := by
  unfold leastP
  have q4 : -p ≤ -n * b / (b + t) := (Int.le_ediv_iff_mul_le (by omega)).mpr (by
    have z1 : -p * (b + t) = -(p * (b + t)) := by grind
    have z2 : -n * b = -(n * b) := by grind
    rw [z1, z2]
    omega)
  omega
theorem least_ge {n t b : Int} (t0 : 0 ≤ t) (tb : t < b) : n * b ≤ leastP n t b * (b + t) := by
  unfold leastP
  have q := Int.ediv_mul_le (-n * b) (show b + t ≠ 0 by omega)
  have z2 : -n * b = -(n * b) := by grind
  have z3 : -(-n * b / (b + t)) * (b + t) = -(-n * b / (b + t) * (b + t)) := by grind
  rw [z3]
  omega
theorem le_most {n t b p : Int} (t0 : 0 ≤ t) (tb : t < b) (h : p * (b - t) < (n + 1) * b) : p ≤ mostP n t b := by
  unfold mostP
  exact (Int.le_ediv_iff_mul_le (by omega)).mpr (by omega)
theorem most_lt {n t b : Int} (t0 : 0 ≤ t) (tb : t < b) : mostP n t b * (b - t) < (n + 1) * b := by
  unfold mostP
  have q := Int.ediv_mul_le ((n + 1) * b - 1) (show b - t ≠ 0 by omega)
  omega
theorem least_mono {n m t b : Int} (t0 : 0 ≤ t) (tb : t < b) (h : n ≤ m) : leastP n t b ≤ leastP m t b :=
  least_le t0 tb (Int.le_trans (Int.mul_le_mul_of_nonneg_right h (by omega)) (least_ge t0 tb))
theorem most_mono {n m t b : Int} (t0 : 0 ≤ t) (tb : t < b) (h : n ≤ m) : mostP n t b ≤ mostP m t b :=
  le_most t0 tb (Int.lt_of_lt_of_le (most_lt t0 tb) (Int.mul_le_mul_of_nonneg_right (by omega) (by omega)))
theorem least_nn {n t b : Int} (t0 : 0 ≤ t) (tb : t < b) (h : 0 ≤ n) : 0 ≤ leastP n t b := by
  have q := least_ge (n := n) t0 tb
  have z : 0 ≤ n * b := Int.mul_nonneg h (by omega)
  rcases Int.lt_or_le (leastP n t b) 0 with c | c
  · have := Int.mul_neg_of_neg_of_pos c (show 0 < b + t by omega)
    omega
  · exact c
theorem least_zero {t b : Int} (t0 : 0 ≤ t) (tb : t < b) : leastP 0 t b = 0 := by
  have h1 := least_le (n := 0) (p := 0) t0 tb (by simp)
  have h2 := least_nn (n := 0) t0 tb (by decide)
  omega
theorem most_nn {n t b : Int} (t0 : 0 ≤ t) (tb : t < b) (h : 0 ≤ n) : n ≤ mostP n t b :=
  le_most t0 tb (by
    have z1 : n * (b - t) ≤ n * b := Int.mul_le_mul_of_nonneg_left (by omega) h
    have z2 : (n + 1) * b = n * b + b := by grind
    omega)
theorem least_le_n {n t b : Int} (t0 : 0 ≤ t) (tb : t < b) (h : 0 ≤ n) : leastP n t b ≤ n :=
  least_le t0 tb (Int.mul_le_mul_of_nonneg_left (by omega) h)
/-! ### promises of times -/
def spWhole : Sp := fun vs H Q _ => ∃ n : Int, vs = [.int n] ∧ Q (.bl true) H
def spCount : Sp := fun vs H Q _ => ∃ n : Int, vs = [.int n] ∧ 0 ≤ n ∧ Q (.bl true) H
def spRef : Sp := fun vs H Q _ => ∃ n : Int, vs = [.int n] ∧ 0 ≤ n ∧ Q .non H
def spLeast (K : PySem.W.Frag) : Sp := fun vs H Q _ => ∃ (n t b : Int) (p : Addr), vs = [.int n, .ref p] ∧ 0 ≤ n ∧ DrOk K H p t b ∧ Q (.int (leastP n t b)) H
def spMost (K : PySem.W.Frag) : Sp := fun vs H Q _ => ∃ (n t b : Int) (p : Addr), vs = [.int n, .ref p] ∧ 0 ≤ n ∧ DrOk K H p t b ∧ Q (.int (mostP n t b)) H
def spRow (K : PySem.W.Frag) : Sp := fun vs H Q _ => ∃ (p : Addr) (t b : Int), vs = [.ref p, .int 2, .int 2] ∧ SqT K H p [.int t, .int b] ∧ ∀ H', Same H H' → Q (.bl true) H'
def spFromTo : Sp := fun vs H Q _ => ∃ n lo hi : Int, vs = [.int n, .int lo, .int hi] ∧ lo ≤ n ∧ n ≤ hi ∧ Q (.bl true) H
def spCd : Sp := fun vs H Q _ => ∃ (x y : Int), vs = [.int x, .int y] ∧ 0 ≤ x ∧ 0 ≤ y ∧ Q (.int (Int.gcd x y)) H
def spShare (K : PySem.W.Frag) : Sp := fun vs H Q _ => ∃ (p : Addr) (t b : Int), vs = [.ref p] ∧ DrOk K H p t b ∧ ∀ H', Same H H' → Q (.bl true) H'
theorem two_at {t b : Int} {i : Nat} {x : V} (h : [V.int t, V.int b][i]? = some x) : ∃ n : Int, x = .int n := by
  match i, h with
  | 0, h => exact ⟨t, (Option.some.inj h).symm⟩
  | 1, h => exact ⟨b, (Option.some.inj h).symm⟩
  | n + 2, h => simp at h
/-! ### a clock -/
theorem ne_cs : ¬ (("counted" : Str) = "stands") := by decide +kernel
theorem ne_cm : ¬ (("counted" : Str) = "most_drift") := by decide +kernel
theorem ne_sc : ¬ (("stands" : Str) = "counted") := by decide +kernel
theorem ne_sm : ¬ (("stands" : Str) = "most_drift") := by decide +kernel
theorem ne_mc : ¬ (("most_drift" : Str) = "counted") := by decide +kernel
theorem ne_ms : ¬ (("most_drift" : Str) = "stands") := by decide +kernel
def cf (dr : V) (sv : V) (n : Int) : List (Str × V) := putF "counted" (.int n) (putF "stands" sv (putF "most_drift" dr []))
theorem cf_eq (dr sv : V) (n : Int) : cf dr sv n = ([("most_drift", dr), ("stands", sv), ("counted", V.int n)] : List (Str × V)) := by
  unfold cf
  simp only [putF, if_neg ne_ms, if_neg ne_mc, if_neg ne_sc]
theorem cf_len (dr sv : V) (n : Int) : (cf dr sv n).length < 1000 := by
  rw [cf_eq]
  show 3 < 1000
  decide
theorem cf_m (dr sv : V) (n : Int) : (cf dr sv n).lookup ("most_drift" : Str) = some dr := by
  unfold cf
  rw [lookup_putF, if_neg ne_mc, lookup_putF, if_neg ne_ms, lookup_putF, if_pos rfl]
theorem cf_s (dr sv : V) (n : Int) : (cf dr sv n).lookup ("stands" : Str) = some sv := by
  unfold cf
  rw [lookup_putF, if_neg ne_sc, lookup_putF, if_pos rfl]
theorem cf_c (dr sv : V) (n : Int) : (cf dr sv n).lookup ("counted" : Str) = some (.int n) := by
  unfold cf
  rw [lookup_putF, if_pos rfl]
theorem cf_no (dr sv : V) (n : Int) {m : Str} (h1 : ¬ m = "counted") (h2 : ¬ m = "stands") (h3 : ¬ m = "most_drift") : (cf dr sv n).lookup m = none := by
  unfold cf
  rw [lookup_putF, if_neg h1, lookup_putF, if_neg h2, lookup_putF, if_neg h3]
  all_goals rfl
theorem cf_put_s (dr sv sv' : V) (n : Int) : putF "stands" sv' (cf dr sv n) = cf dr sv' n := by
  rw [cf_eq, cf_eq]
  simp only [putF, if_neg ne_ms, if_pos]
theorem cf_put_c (dr sv : V) (n n' : Int) : putF "counted" (.int n') (cf dr sv n) = cf dr sv n' := by
  rw [cf_eq, cf_eq]
  simp only [putF, if_neg ne_mc, if_neg ne_sc, if_pos]
def SvAt (K : PySem.W.Frag) (H : Hp) (sv : V) : Option (Int × Int) → Prop
  | none => sv = .non
  | some z => ∃ p, sv = .ref p ∧ SqT K H p [.int z.1, .int z.2]
/-- a clock at c: its drift's tuple at dr, what it stands set to, its count -/
structure CkAt (K : PySem.W.Frag) (C : Addr) (H : Hp) (c dr : Addr) (t b : Int) (st : Option (Int × Int)) (n : Int) : Prop where
  at_ : ∃ (dx : Addr) (sv : V), H c = some (.ins C dx (cf (.ref dr) sv n)) ∧ SvAt K H sv st
  dr_ : DrOk K H dr t b
  nn : 0 ≤ n
theorem CkAt.ex {K : PySem.W.Frag} {C : Addr} {H : Hp} {c dr : Addr} {t b : Int} {st : Option (Int × Int)} {n : Int} (h : CkAt K C H c dr t b st n) : ∃ o, H c = some o ∧ Mut o := by
  obtain ⟨dx, sv, e, _⟩ := h.at_
  exact ⟨_, e, trivial⟩
theorem SvAt.fr {K : PySem.W.Frag} {H H' : Hp} {x : Addr} {o : HO} {sv : V} {st : Option (Int × Int)} (h : SvAt K H sv st) (k : Fr x H H') (hx : H x = some o) (m : Mut o) : SvAt K H' sv st := by
  cases st with
  | none => exact h
  | some z =>
    obtain ⟨p, e, q⟩ := h
    exact ⟨p, e, k.sqt hx m q⟩
/-- a clock stays where another changeable thing is changed -/
theorem CkAt.fr {K : PySem.W.Frag} {C : Addr} {H H' : Hp} {c dr x : Addr} {o : HO} {t b : Int} {st : Option (Int × Int)} {n : Int} (h : CkAt K C H c dr t b st n) (k : Fr x H H') (hx : H x = some o) (m : Mut o) (ne : c ≠ x) : CkAt K C H' c dr t b st n := by
  obtain ⟨⟨dx, sv, e, q⟩, d, nn⟩ := h
  exact ⟨⟨dx, sv, k _ _ ne e, q.fr k hx m⟩, d.fr k hx m, nn⟩
theorem CkAt.same {K : PySem.W.Frag} {C : Addr} {H H' : Hp} {c dr : Addr} {t b : Int} {st : Option (Int × Int)} {n : Int} (h : CkAt K C H c dr t b st n) (k : Same H H') : CkAt K C H' c dr t b st n := by
  obtain ⟨⟨dx, sv, e, q⟩, d, nn⟩ := h
  refine ⟨⟨dx, sv, k _ _ e, ?_⟩, d.same k, nn⟩
  cases st with
  | none => exact q
  | some z =>
    obtain ⟨p, e, q⟩ := q
    exact ⟨p, e, same_sqt k q⟩
theorem CkAt.bag {K : PySem.W.Frag} {C : Addr} {H H' : Hp} {c dr s : Addr} {t b : Int} {st : Option (Int × Int)} {n : Int} (h : CkAt K C H c dr t b st n) (k : Fr s H H') (bs : BagAt H s) : CkAt K C H' c dr t b st n := by
  obtain ⟨dx, sv, e, _⟩ := h.at_
  obtain ⟨x, y, e2, _⟩ := bs
  exact h.fr k e2 trivial (ne_of e e2 (by intro z; cases z))
theorem BagAt.ck {K : PySem.W.Frag} {C : Addr} {H H' : Hp} {c dr s : Addr} {t b : Int} {st : Option (Int × Int)} {n : Int} (bs : BagAt H s) (k : Fr c H H') (h : CkAt K C H c dr t b st n) : BagAt H' s := by
  obtain ⟨dx, sv, e, _⟩ := h.at_
  obtain ⟨x, y, e2, r⟩ := bs
  exact ⟨x, y, k _ _ (ne_of e2 e (by intro z; cases z)) e2, r⟩
theorem CkAt.ne_bag {K : PySem.W.Frag} {C : Addr} {H : Hp} {c dr s : Addr} {t b : Int} {st : Option (Int × Int)} {n : Int} (h : CkAt K C H c dr t b st n) (bs : BagAt H s) : c ≠ s := by
  obtain ⟨dx, sv, e, _⟩ := h.at_
  obtain ⟨x, y, e2, _⟩ := bs
  exact ne_of e e2 (by intro z; cases z)
/-! ### promises of Clock -/
/-- what bounds_behind tells -/
def bbQ (H : Hp) (Q : VK) (n t b : Int) : Option (Int × Int) → Prop
  | none => Q .non H
  | some z => ∀ p, H p = none → Q (.ref p) (upd H p (.tup [.int (z.1 + leastP n t b), .int (z.2 + mostP n t b)]))
def spBB (K : PySem.W.Frag) : Sp := fun vs H Q _ => ∃ (sv : V) (st : Option (Int × Int)) (n : Int) (dr : Addr) (t b : Int), vs = [sv, .int n, .ref dr] ∧ SvAt K H sv st ∧ 0 ≤ n ∧ DrOk K H dr t b ∧ bbQ H Q n t b st
def btwL (low : Int) : Option (Int × Int) → Int
  | none => low
  | some z => if z.1 > low then z.1 else low
def btwH (high : Int) : Option (Int × Int) → Int
  | none => high
  | some z => if z.2 < high then z.2 else high
def spSB (K : PySem.W.Frag) : Sp := fun vs H Q _ => ∃ (tv : V) (st : Option (Int × Int)) (low high : Int), vs = [tv, .int low, .int high] ∧ SvAt K H tv st ∧ low ≤ high ∧ btwL low st ≤ btwH high st ∧ ∀ p, H p = none → Q (.ref p) (upd H p (.tup [.int (btwL low st), .int (btwH high st)]))
def spInit (K : PySem.W.Frag) (C : Addr) : Sp := fun vs H Q _ => ∃ (x dr dx : Addr) (t b : Int), vs = [.ref x, .ref dr] ∧ H x = some (.ins C dx []) ∧ DrOk K H dr t b ∧ ∀ H', Fr x H H' → CkAt K C H' x dr t b none 0 → Q .non H'
def spIsSet (K : PySem.W.Frag) (C : Addr) : Sp := fun vs H Q _ => ∃ (c dr : Addr) (t b : Int) (st : Option (Int × Int)) (n : Int), vs = [.ref c] ∧ CkAt K C H c dr t b st n ∧ Q (.bl st.isSome) H
def spBounds (K : PySem.W.Frag) (C : Addr) : Sp := fun vs H Q _ => ∃ (c dr : Addr) (t b lo hi n : Int), vs = [.ref c] ∧ CkAt K C H c dr t b (some (lo, hi)) n ∧ ∀ p, H p = none → Q (.ref p) (upd H p (.tup [.int (lo + leastP n t b), .int (hi + mostP n t b)]))
def spTick (K : PySem.W.Frag) (C : Addr) : Sp := fun vs H Q _ => ∃ (c dr : Addr) (t b : Int) (st : Option (Int × Int)) (n m : Int), vs = [.ref c, .int m] ∧ CkAt K C H c dr t b st n ∧ 0 ≤ m ∧ ∀ H', Fr c H H' → CkAt K C H' c dr t b st (n + m) → Q .non H'
def setLow (low : Int) (st : Option (Int × Int)) (t b n : Int) : Int := match st with
  | none => low
  | some z => if z.1 + leastP n t b > low then z.1 + leastP n t b else low
def setHigh (high : Int) (st : Option (Int × Int)) (t b n : Int) : Int := match st with
  | none => high
  | some z => if z.2 + mostP n t b < high then z.2 + mostP n t b else high
def spSet (K : PySem.W.Frag) (C : Addr) : Sp := fun vs H Q _ => ∃ (c dr : Addr) (t b : Int) (st : Option (Int × Int)) (n low high : Int), vs = [.ref c, .int low, .int high] ∧ CkAt K C H c dr t b st n ∧ low ≤ high ∧ setLow low st t b n ≤ setHigh high st t b n ∧
  ∀ H', Fr c H H' → CkAt K C H' c dr t b (some (setLow low st t b n, setHigh high st t b n)) 0 → Q .non H'
def spPast (K : PySem.W.Frag) (C : Addr) : Sp := fun vs H Q _ => ∃ (c dr : Addr) (t b lo hi n m : Int), vs = [.ref c, .int m] ∧ CkAt K C H c dr t b (some (lo, hi)) n ∧ ∀ H', Same H H' → Q (.bl (decide (m < lo + leastP n t b))) H'
def spAhead (K : PySem.W.Frag) (C : Addr) : Sp := fun vs H Q _ => ∃ (c dr : Addr) (t b lo hi n m : Int), vs = [.ref c, .int m] ∧ CkAt K C H c dr t b (some (lo, hi)) n ∧ ∀ H', Same H H' → Q (.bl (decide (hi + mostP n t b < m))) H'
def spLaw (K : PySem.W.Frag) : Sp := fun vs H Q _ => ∃ (a : Addr) (ns : List Int), vs = [.ref a] ∧ SqL K H a (ns.map V.int) ∧ ns.length ≤ 63 ∧ ∀ H', Q (.bl true) H'

/-! ### errors -/
theorem exm_of {K : PySem.W.Frag} {S D : Addr} {b : Bool} (h1 : PySem.W.subIn K (.ref D) (.type "BaseException") = some true) (h2 : PySem.W.isClsIn K D = true) (h3 : PySem.W.typeIn K (.ref D) = some (.type "type")) (h4 : PySem.W.subIn K (.ref S) (.ref D) = some b) : PySem.W.exmOne K (.ref S) (.ref D) = some b := by
  have h5 : (PySem.W.clsIn K D).isSome = true := h2
  unfold PySem.W.exmOne PySem.W.kitCls
  simp [h1, h3, h4, h5]
theorem kit_of {K : PySem.W.Frag} {S D : Addr} {b : Bool} (h0 : PySem.W.subIn K (.ref D) (.ref D) = some true) (h2 : PySem.W.isClsIn K D = true) (h3 : PySem.W.typeIn K (.ref D) = some (.type "type")) (h4 : PySem.W.subIn K (.ref S) (.ref D) = some b) : PySem.W.kitOne K (.ref S) (.ref D) = some b := by
  have h5 : (PySem.W.clsIn K D).isSome = true := h2
  unfold PySem.W.kitOne PySem.W.kitCls
  by_cases e : S = D
  · subst e
    rw [h0] at h4
    cases h4
    simp
  · have e2 : ((Value.ref S) == (Value.ref D)) = false := by
      rw [beq_eq_false_iff_ne]
      intro z
      exact e (Value.ref.inj z)
    simp [e2, h3, h4, h5]
theorem kit_blt {K : PySem.W.Frag} {S : Addr} {T : String} {b : Bool} (h1 : PySem.W.kitMeta T = true) (h4 : PySem.W.subIn K (.ref S) (.type T) = some b) : PySem.W.kitOne K (.ref S) (.type T) = some b := by
  unfold PySem.W.kitOne PySem.W.kitCls
  simp [h1, h4]
theorem same_err3 {H H2 : Hp} {x dx : Addr} {o1 o4 : HO} (hx : H x = none) (hd : H dx = none) (k : ∀ b, b ≠ x → b ≠ dx → H2 b = upd H x o1 b) : Same H (upd (del H2 x) dx o4) := fun b o e => by
  have n1 : b ≠ x := ne_of_none e hx
  have n2 : b ≠ dx := ne_of_none e hd
  rw [upd_ne n2, del_ne n1, k b n1 n2, upd_ne n1]
  exact e
/-- an own __init__ of one field -/
def spI1 (C : Addr) (f : Str) : Sp := fun vs H Q _ => ∃ (x : Addr) (y : V), vs = [.ref x, y] ∧ H x = some (exo x C none) ∧ ∀ (dx : Addr) (H' : Hp), H dx = none → dx ≠ x → H' x = some (exo x C (some dx)) → H' dx = some (exd dx [(f, y)]) → (∀ b, b ≠ x → b ≠ dx → H' b = H b) → Q .non H'
/-- an own __init__ of two fields -/
def spI2 (C : Addr) (f g : Str) : Sp := fun vs H Q _ => ∃ (x : Addr) (y z : V), vs = [.ref x, y, z] ∧ H x = some (exo x C none) ∧ ∀ (dx : Addr) (H' : Hp), H dx = none → dx ≠ x → H' x = some (exo x C (some dx)) → H' dx = some (exd dx [(g, z), (f, y)]) → (∀ b, b ≠ x → b ≠ dx → H' b = H b) → Q .non H'
def Out2 (E : XK) (C : Addr) (f g : Str) (y z : V) (H : Hp) : Prop := ∀ (dx : Addr) (H' : Hp), Same H H' → H' dx = some (.xd [(g, z), (f, y)]) → E (.ref C) (some dx) H'
theorem xd_one (f : Str) (y : V) : ([(f, y)] : List (Str × V)).lookup f = some y := by
  have e2 : (f == f) = true := by simp
  simp [List.lookup, e2]
/-- an error is let out: of the class C, its one field f the value y -/
def Out (E : XK) (C : Addr) (f : Str) (y : V) (H : Hp) : Prop := ∀ (dx : Addr) (H' : Hp), Same H H' → H' dx = some (.xd [(f, y)]) → E (.ref C) (some dx) H'
theorem Out.up {E : XK} {C : Addr} {f : Str} {y : V} {H H1 : Hp} (h : Out E C f y H) (k : Same H H1) : Out E C f y H1 := fun dx H' s e => h dx H' (k.trans s) e
/-- two promises of one def: one that lets nothing out, and one that may -/
theorem fn_or {P : Program} {w : World} {K : PySem.W.Frag} {mg : Str → Option Value} {base : Heap} {CX : CXT} {k : Nat} {f : Addr} {fd : FuncData} {ps : List Str} {s1 s2 : Sp} (F1 : FnOk P w K mg base CX0 k f fd ps s1) (F2 : FnOk P w K mg base CX k f fd ps s2) :
    FnOk P w K mg base CX k f fd ps (fun vs H Q E => s1 vs H Q E ∨ s2 vs H Q E) := by
  refine ⟨fun vs H Q E h => ?_, fun A outer s H args us vs Q E hr he hb hv hs => ?_⟩
  · rcases h with h | h
    · exact F1.len _ _ _ _ h
    · exact F2.len _ _ _ _ h
  · rcases hs with h | h
    · refine PySem.codeAny_mono (F1.run A outer s H args us vs Q E hr he hb hv h) fun r s' z => ?_
      cases r with
      | error e => exact z.elim
      | ok fl => cases fl <;> exact z
    · exact F2.run A outer s H args us vs Q E hr he hb hv h
theorem fn_up {P : Program} {w : World} {K : PySem.W.Frag} {mg : Str → Option Value} {base : Heap} {CX : CXT} {k j : Nat} {f : Addr} {fd : FuncData} {ps : List Str} {s1 : Sp} (F1 : FnOk P w K mg base CX k f fd ps s1) (h : k ≤ j) : FnOk P w K mg base CX j f fd ps s1 :=
  ⟨F1.len, fun A outer s H args us vs Q E hr he hb hv hs => F1.run A outer s H args us vs Q E (hr.mono h) he hb hv hs⟩
theorem fn_weak {P : Program} {w : World} {K : PySem.W.Frag} {mg : Str → Option Value} {base : Heap} {CX : CXT} {k : Nat} {f : Addr} {fd : FuncData} {ps : List Str} {s1 s2 : Sp} (F1 : FnOk P w K mg base CX k f fd ps s1) (h : ∀ vs H Q E, s2 vs H Q E → s1 vs H Q E) : FnOk P w K mg base CX k f fd ps s2 :=
  ⟨fun vs H Q E z => F1.len _ _ _ _ (h _ _ _ _ z), fun A outer s H args us vs Q E hr he hb hv hs => F1.run A outer s H args us vs Q E hr he hb hv (h _ _ _ _ hs)⟩

theorem ok_INoHead {P : Program} {w : World} {K : PySem.W.Frag} {mg : Str → Option Value} {base : Heap} {a : Nat → Addr} {d : Nat → FuncData} (T : Txt K mg a d) {C : Addr} {B newId initId : String} {bm : List Value} (xo : XB.Own K C B newId initId bm) (no : PySem.W.findIn K (.ref C) "house" = some none) : FnOk P w K mg base CX0 1 (a 150) (d 150) ["self", "house"] (spI1 C "house") := by
  refine T.F_INoHead.ok sc_INoHead (fun vs H Q E h => ?_) (fun cdv A outer s0 H vs Q E hr h => ?_)
  · obtain ⟨x, y, rfl, _⟩ := h
    rfl
  · obtain ⟨x, y, rfl, hx, q⟩ := h
    refine ⟨_, (pss_one (XB.ps_put xo no (pv 0) (pv 1))), ?_⟩
    refine ⟨_, rfl, _, rfl, x, rfl, hx, fun dx n ne => ?_⟩
    exact q dx _ n ne upd_same (by rw [upd_ne ne]; exact upd_same) fun b n1 n2 => by rw [upd_ne n1, upd_ne n2]

theorem ok_is_whole {P : Program} {w : World} {K : PySem.W.Frag} {mg : Str → Option Value} {base : Heap} {a : Nat → Addr} {d : Nat → FuncData} (T : Txt K mg a d) : FnOk P w K mg base CX0 1 (a 0) (d 0) ["thing"] spWhole := by
  refine T.F_is_whole.ok sc_is_whole (fun vs H Q E h => ?_) (fun cdv A outer s0 H vs Q E hr h => ?_)
  · obtain ⟨n, rfl, q⟩ := h
    rfl
  · obtain ⟨n, rfl, q⟩ := h
    refine ⟨_, (pss_one (ps_ret (pe_and (pe_callB call_isi (by rfl) T.z_isinstance (by decide +kernel) (pa_cons (pv 0) (pa_cons (pe_bltn (v := .ty "int") (by rfl) T.z_int (by decide +kernel) rfl) pa_nil))) (pe_one (pe_not (pe_callB call_isi (by rfl) T.z_isinstance (by decide +kernel) (pa_cons (pv 0) (pa_cons (pe_bltn (v := .ty "bool") (by rfl) T.z_bool (by decide +kernel) rfl) pa_nil)))))))), ?_⟩
    refine ⟨_, rfl, _, _, .type "int", .type "int", true, rfl, .ty "int", .base (.int n), kit_ty (by decide +kernel), true, rfl, iteT ?_⟩
    refine ⟨_, rfl, _, _, .type "int", .type "bool", false, rfl, .ty "bool", .base (.int n), kit_ty (by decide +kernel), false, rfl, ?_⟩
    exact q

theorem ok_is_count {P : Program} {w : World} {K : PySem.W.Frag} {mg : Str → Option Value} {base : Heap} {a : Nat → Addr} {d : Nat → FuncData} (T : Txt K mg a d) : FnOk P w K mg base CX0 2 (a 1) (d 1) ["thing"] spCount := by
  refine T.F_is_count.ok sc_is_count (fun vs H Q E h => ?_) (fun cdv A outer s0 H vs Q E hr h => ?_)
  · obtain ⟨n, rfl, n0, q⟩ := h
    rfl
  · obtain ⟨n, rfl, n0, q⟩ := h
    refine ⟨_, (pss_one (ps_ret (pe_and (pe_call (ok_is_whole T) (hr.mono (by decide)) (by rfl) T.g_is_whole T.F_is_whole.kp T.b_is_whole .nil pass0 (pa_cons (pv 0) pa_nil)) (pe_one (pe_cmpR op_ge (pv 0) pe_int (nomark _)))))), ?_⟩
    refine ⟨_, rfl, n, rfl, true, rfl, iteT ?_⟩
    exact ⟨_, rfl, n, 0, rfl, rfl, bl_of (Q := Q) n0 q⟩

theorem ok_is_from_to {P : Program} {w : World} {K : PySem.W.Frag} {mg : Str → Option Value} {base : Heap} {a : Nat → Addr} {d : Nat → FuncData} (T : Txt K mg a d) : FnOk P w K mg base CX0 1 (a 2) (d 2) ["thing", "least", "most"] spFromTo := by
  refine T.F_is_from_to.ok sc_is_from_to (fun vs H Q E h => ?_) (fun cdv A outer s0 H vs Q E hr h => ?_)
  · obtain ⟨n, lo, hi, rfl, h1, h2, q⟩ := h
    rfl
  · obtain ⟨n, lo, hi, rfl, h1, h2, q⟩ := h
    refine ⟨_, (pss_one (ps_ret (pe_and (pe_callB call_isi (by rfl) T.z_isinstance (by decide +kernel) (pa_cons (pv 0) (pa_cons (pe_bltn (v := .ty "int") (by rfl) T.z_int (by decide +kernel) rfl) pa_nil))) (pe_and (pe_not (pe_callB call_isi (by rfl) T.z_isinstance (by decide +kernel) (pa_cons (pv 0) (pa_cons (pe_bltn (v := .ty "bool") (by rfl) T.z_bool (by decide +kernel) rfl) pa_nil)))) (pe_one (pe_chain op_le op_le (pv 1) (pv 0) (pv 2))))))), ?_⟩
    refine ⟨_, rfl, _, _, .type "int", .type "int", true, rfl, .ty "int", .base (.int n), kit_ty (by decide +kernel), true, rfl, iteT ?_⟩
    refine ⟨_, rfl, _, _, .type "int", .type "bool", false, rfl, .ty "bool", .base (.int n), kit_ty (by decide +kernel), false, rfl, true, rfl, iteT ?_⟩
    refine ⟨_, rfl, _, rfl, lo, n, rfl, rfl, _, rfl, iteDT h1 ?_⟩
    exact ⟨_, rfl, n, hi, rfl, rfl, bl_of (Q := Q) h2 q⟩

theorem ok_common_divisor {P : Program} {w : World} {K : PySem.W.Frag} {mg : Str → Option Value} {base : Heap} {a : Nat → Addr} {d : Nat → FuncData} (T : Txt K mg a d) : FnOk P w K mg base CX0 1 (a 3) (d 3) ["first", "second"] spCd := by
  refine T.F_common_divisor.ok sc_common_divisor (fun vs H Q E h => ?_) (fun cdv A outer s0 H vs Q E hr h => ?_)
  · obtain ⟨x, y, rfl, x0, y0, q⟩ := h
    rfl
  · obtain ⟨x, y, rfl, x0, y0, q⟩ := h
    refine ⟨_, (pss_cons (ps_while PassesOwn.never (pt_truth (pv 1) (by intro _; rfl)) (pss_one (ps_par (i := 0) (j := 1) (by rfl) sc_common_divisor.nd rfl rfl (by decide) rfl rfl (pa_cons (pv 1) (pa_cons (pe_op op_mod (pv 0) (pv 1)) pa_nil)) (by rfl)))) (pss_one (ps_ret (pv 0)))), ?_⟩
    refine ⟨fun m σ H' => H' = H ∧ ∃ h t : Int, σ = [some (.int h), some (.int t)] ∧ m = t.toNat ∧ 0 ≤ h ∧ 0 ≤ t ∧ Int.gcd h t = Int.gcd x y, ⟨_, rfl, x, y, rfl, rfl, x0, y0, rfl⟩, ?_⟩
    rintro m σ H' ⟨rfl, h, t, rfl, rfl, h0, t0, eg⟩
    refine ⟨_, rfl, _, rfl, ?_⟩
    by_cases hz : t = 0
    · subst hz
      refine iteBF rfl ?_
      have e1 : (Int.gcd x y : Int) = h := by
        rw [← eg, Int.gcd_zero_right]
        omega
      refine ⟨_, rfl, ?_⟩
      rw [e1] at q
      exact q
    · have tp : 0 < t := by omega
      refine iteBT (by simpa using hz) ?_
      refine ⟨_, fun _ _ z => z, ?_⟩
      refine ⟨_, rfl, _, rfl, _, rfl, h, t, rfl, rfl, tp, _, _, rfl, ?_⟩
      have e0 := Int.emod_nonneg h (show t ≠ 0 by omega)
      have e1 := Int.emod_lt_of_pos h tp
      exact ⟨(h % t).toNat, by omega, rfl, t, h % t, rfl, rfl, t0, e0, (gcd_turn h0 tp).trans eg⟩

theorem ok_is_share {P : Program} {w : World} {K : PySem.W.Frag} {mg : Str → Option Value} {base : Heap} {a : Nat → Addr} {d : Nat → FuncData} (T : Txt K mg a d) : FnOk P w K mg base CX0 3 (a 4) (d 4) ["thing"] (spShare K) := by
  refine T.F_is_share.ok sc_is_share (fun vs H Q E h => ?_) (fun cdv A outer s0 H vs Q E hr h => ?_)
  · obtain ⟨p, t, b, rfl, hd, q⟩ := h
    rfl
  · obtain ⟨p, t, b, rfl, hd, q⟩ := h
    refine ⟨_, (pss_cons (ps_if (PW.pt (pw_or (pt_not (pt_truth (pe_callB call_isi (by rfl) T.z_isinstance (by decide +kernel) (pa_cons (pv 0) (pa_cons (pe_bltn (v := .ty "tuple") (by rfl) T.z_tuple (by decide +kernel) rfl) pa_nil))) (by intro _; rfl))) (pw_or1 (pt_cmpR op_ne (pe_callB call_len_seq (by rfl) T.z_len PySem.boot_len (pa_cons (pv 0) pa_nil)) pe_int (nomark _))))) (pss_one (ps_ret pe_bl)) pss_nil) (pss_cons (ps_asg (pv 0) (pg_tup (by rfl) (pgs_cons (pg_name (i := 1) sc_is_share.nd rfl (.inl rfl)) (pgs_cons (pg_name (i := 2) sc_is_share.nd rfl (.inl rfl)) pgs_nil)))) (pss_cons (ps_if (PW.pt (pw_or (pt_not (pt_truth (pe_call (ok_is_from_to T) (hr.mono (by decide)) (by rfl) T.g_is_from_to T.F_is_from_to.kp T.b_is_from_to .nil pass0 (pa_cons (pv 2) (pa_cons pe_int (pa_cons (pe_glob (v := .int (1000)) (by rfl) (Exists.choose_spec T.g_MOST_BOTTOM) ⟨_, rfl⟩) pa_nil)))) (by intro _; rfl))) (pw_or1 (pt_not (pt_truth (pe_call (ok_is_from_to T) (hr.mono (by decide)) (by rfl) T.g_is_from_to T.F_is_from_to.kp T.b_is_from_to .nil pass0 (pa_cons (pv 1) (pa_cons pe_int (pa_cons (pv 2) pa_nil)))) (by intro _; rfl)))))) (pss_one (ps_ret pe_bl)) pss_nil) (pss_one (ps_ret (pe_or (pe_cmpR op_eq (pv 1) pe_int (nomark _)) (pe_one (pe_cmpR op_eq (pe_call (ok_common_divisor T) (hr.mono (by decide)) (by rfl) T.g_common_divisor T.F_common_divisor.kp T.b_common_divisor .nil pass0 (pa_cons (pv 1) (pa_cons (pv 2) pa_nil))) pe_int (nomark _))))))))), ?_⟩
    obtain ⟨hS, t0, tb, b1, hg⟩ := hd
    refine ⟨_, rfl, _, _, .type "tuple", .type "tuple", true, rfl, .ty "tuple", sqt_ty hS, kit_ty (by decide +kernel), true, rfl, iteF ?_⟩
    refine ⟨_, rfl, p, _, rfl, .inr hS, rfl, _, rfl, iteNS rfl ?_⟩
    refine ⟨_, rfl, p, _, rfl, hS, rfl, _, _, rfl, _, _, rfl, rfl, ?_⟩
    refine ⟨_, rfl, b, 1, 1000, rfl, by omega, by omega, true, rfl, iteF ?_⟩
    refine ⟨_, rfl, _, rfl, t, 0, b, rfl, by omega, by omega, true, rfl, iteF ?_⟩
    refine ⟨_, rfl, rfl, _, rfl, ?_⟩
    refine ite2 (fun h => ?_) (fun h => ?_)
    · exact q H (Same.refl H)
    refine ⟨_, rfl, _, rfl, t, b, rfl, t0, by omega, rfl, ?_⟩
    have e : (V.int (Int.gcd t b : Nat) = V.int 1) := by rw [hg]; rfl
    exact bl_of (Q := Q) e (q H (Same.refl H))

theorem ok_is_drift {P : Program} {w : World} {K : PySem.W.Frag} {mg : Str → Option Value} {base : Heap} {a : Nat → Addr} {d : Nat → FuncData} (T : Txt K mg a d) : FnOk P w K mg base CX0 4 (a 5) (d 5) ["thing"] (spShare K) := by
  refine T.F_is_drift.ok sc_is_drift (fun vs H Q E h => ?_) (fun cdv A outer s0 H vs Q E hr h => ?_)
  · obtain ⟨p, t, b, rfl, hd, q⟩ := h
    rfl
  · obtain ⟨p, t, b, rfl, hd, q⟩ := h
    refine ⟨_, (pss_one (ps_ret (pe_and (pe_call (ok_is_share T) (hr.mono (by decide)) (by rfl) T.g_is_share T.F_is_share.kp T.b_is_share .nil pass0 (pa_cons (pv 0) pa_nil)) (pe_one (pe_cmpR (op_neD hr.units) (pv 0) (pe_glob (v := .ref (a 63)) (by rfl) T.g_WHOLE rfl) (nomark _)))))), ?_⟩
    refine ⟨_, rfl, p, t, b, rfl, hd, fun H1 s1 => ⟨true, rfl, iteT ?_⟩⟩
    have hS1 := same_sqt s1 hd.1
    refine ⟨_, rfl, .tuple [.int t, .int b], .tuple [.int 1, .int 1], .tup hS1 (.cons (.int _) (.cons (.int _) .nil)), .tup (T.k_WHOLE _) (.cons (.int _) (.cons (.int _) .nil)), rfl, rfl, ?_⟩
    have e : PyData.eqv (.tuple [.int t, .int b]) (.tuple [.int 1, .int 1]) = false := by
      have := hd.2.2.1
      by_cases ht : t = 1
      · have hb : b ≠ 1 := by omega
        simp [PyData.eqv, PyData.eqvAll, hb]
      · simp [PyData.eqv, PyData.eqvAll, ht]
    show Q (V.bl (!PyData.eqv (.tuple [.int t, .int b]) (.tuple [.int 1, .int 1]))) H1
    rw [e]
    exact q H1 s1

theorem ok_refuse_no_count {P : Program} {w : World} {K : PySem.W.Frag} {mg : Str → Option Value} {base : Heap} {a : Nat → Addr} {d : Nat → FuncData} (T : Txt K mg a d) : FnOk P w K mg base CX0 3 (a 6) (d 6) ["thing"] spRef := by
  refine T.F_refuse_no_count.ok sc_refuse_no_count (fun vs H Q E h => ?_) (fun cdv A outer s0 H vs Q E hr h => ?_)
  · obtain ⟨n, rfl, n0, q⟩ := h
    rfl
  · obtain ⟨n, rfl, n0, q⟩ := h
    refine ⟨_, (pss_one (ps_if (pt_not (pt_truth (pe_call (ok_is_count T) (hr.mono (by decide)) (by rfl) T.g_is_count T.F_is_count.kp T.b_is_count .nil pass0 (pa_cons (pv 0) pa_nil)) (by intro _; rfl))) (pss_one ps_never) pss_nil)), ?_⟩
    refine ⟨_, rfl, n, rfl, n0, true, rfl, iteF ?_⟩
    exact q

theorem ok_least_of {P : Program} {w : World} {K : PySem.W.Frag} {mg : Str → Option Value} {base : Heap} {a : Nat → Addr} {d : Nat → FuncData} (T : Txt K mg a d) : FnOk P w K mg base CX0 1 (a 7) (d 7) ["ticks", "drift"] (spLeast K) := by
  refine T.F_least_of.ok sc_least_of (fun vs H Q E h => ?_) (fun cdv A outer s0 H vs Q E hr h => ?_)
  · obtain ⟨n, t, b, p, rfl, n0, ⟨hd, t0, tb, b1, _⟩, q⟩ := h
    rfl
  · obtain ⟨n, t, b, p, rfl, n0, ⟨hd, t0, tb, b1, _⟩, q⟩ := h
    refine ⟨_, (pss_cons (ps_asg (pv 1) (pg_tup (by rfl) (pgs_cons (pg_name (i := 2) sc_least_of.nd rfl (.inl rfl)) (pgs_cons (pg_name (i := 3) sc_least_of.nd rfl (.inl rfl)) pgs_nil)))) (pss_one (ps_ret (pe_un un_neg (pe_op op_fdivW (pe_op op_mul (pe_un un_neg (pv 0)) (pv 3)) (pe_op op_add (pv 3) (pv 2))))))), ?_⟩
    refine ⟨_, rfl, p, _, rfl, hd, rfl, _, _, rfl, _, _, rfl, rfl, ?_⟩
    refine ⟨_, rfl, n, rfl, _, rfl, -n, b, rfl, rfl, .inr (m64 (by omega) (by omega)), _, rfl, _, rfl, b, t, rfl, rfl, _, _, rfl, rfl, divW (by omega) (by omega), _, rfl, ?_⟩
    exact q

theorem ok_most_of {P : Program} {w : World} {K : PySem.W.Frag} {mg : Str → Option Value} {base : Heap} {a : Nat → Addr} {d : Nat → FuncData} (T : Txt K mg a d) : FnOk P w K mg base CX0 1 (a 8) (d 8) ["ticks", "drift"] (spMost K) := by
  refine T.F_most_of.ok sc_most_of (fun vs H Q E h => ?_) (fun cdv A outer s0 H vs Q E hr h => ?_)
  · obtain ⟨n, t, b, p, rfl, n0, ⟨hd, t0, tb, b1, _⟩, q⟩ := h
    rfl
  · obtain ⟨n, t, b, p, rfl, n0, ⟨hd, t0, tb, b1, _⟩, q⟩ := h
    refine ⟨_, (pss_cons (ps_asg (pv 1) (pg_tup (by rfl) (pgs_cons (pg_name (i := 2) sc_most_of.nd rfl (.inl rfl)) (pgs_cons (pg_name (i := 3) sc_most_of.nd rfl (.inl rfl)) pgs_nil)))) (pss_one (ps_ret (pe_op op_fdivW (pe_op op_sub (pe_op op_mul (pe_op op_add (pv 0) pe_int) (pv 3)) pe_int) (pe_op op_sub (pv 3) (pv 2)))))), ?_⟩
    refine ⟨_, rfl, p, _, rfl, hd, rfl, _, _, rfl, _, _, rfl, rfl, ?_⟩
    refine ⟨_, rfl, n, 1, rfl, rfl, _, rfl, _, b, rfl, rfl, .inr (m64 (by omega) (by omega)), _, 1, rfl, rfl, _, rfl, _, rfl, b, t, rfl, rfl, _, _, rfl, rfl, divW (by omega) (by omega), ?_⟩
    exact q

theorem ok_bounds_behind {P : Program} {w : World} {K : PySem.W.Frag} {mg : Str → Option Value} {base : Heap} {a : Nat → Addr} {d : Nat → FuncData} (T : Txt K mg a d) : FnOk P w K mg base CX0 2 (a 9) (d 9) ["stands", "counted", "drift"] (spBB K) := by
  refine T.F_bounds_behind.ok sc_bounds_behind (fun vs H Q E h => ?_) (fun cdv A outer s0 H vs Q E hr h => ?_)
  · obtain ⟨sv, st, n, dr, t, b, rfl, hs, n0, hd, q⟩ := h
    rfl
  · obtain ⟨sv, st, n, dr, t, b, rfl, hs, n0, hd, q⟩ := h
    refine ⟨_, (pss_cons (ps_if (pt_cmpR op_isN (pv 0) pe_non (nomark _)) (pss_one (ps_ret pe_non)) pss_nil) (pss_one (ps_ret (pe_tup (pa_cons (pe_op op_add (pe_ix ix_tup (pv 0) pe_int (fun _ _ => rfl)) (pe_call (ok_least_of T) (hr.mono (by decide)) (by rfl) T.g_least_of T.F_least_of.kp T.b_least_of .nil pass0 (pa_cons (pv 1) (pa_cons (pv 2) pa_nil)))) (pa_cons (pe_op op_add (pe_ix ix_tup (pv 0) pe_int (fun _ _ => rfl)) (pe_call (ok_most_of T) (hr.mono (by decide)) (by rfl) T.g_most_of T.F_most_of.kp T.b_most_of .nil pass0 (pa_cons (pv 1) (pa_cons (pv 2) pa_nil)))) pa_nil)))))), ?_⟩
    cases st with
    | none =>
      have e : sv = V.non := hs
      subst e
      refine ⟨_, rfl, rfl, _, rfl, iteT ?_⟩
      exact q
    | some z =>
      obtain ⟨sp, e, hs⟩ := hs
      subst e
      refine ⟨_, rfl, rfl, _, rfl, iteF ?_⟩
      refine ⟨_, rfl, sp, _, 0, _, rfl, rfl, hs, rfl, _, rfl, _, rfl, n, t, b, dr, rfl, n0, hd, _, _, rfl, rfl, ?_⟩
      refine ⟨_, rfl, sp, _, 1, _, rfl, rfl, hs, rfl, _, rfl, _, rfl, n, t, b, dr, rfl, n0, hd, _, _, rfl, rfl, len2, fun p np => ?_⟩
      exact q p np

theorem ok_set_between {P : Program} {w : World} {K : PySem.W.Frag} {mg : Str → Option Value} {base : Heap} {a : Nat → Addr} {d : Nat → FuncData} (T : Txt K mg a d) : FnOk P w K mg base CX0 2 (a 10) (d 10) ["told", "low", "high"] (spSB K) := by
  refine T.F_set_between.ok sc_set_between (fun vs H Q E h => ?_) (fun cdv A outer s0 H vs Q E hr h => ?_)
  · obtain ⟨tv, st, low, high, rfl, hs, hlh, hle, q⟩ := h
    rfl
  · obtain ⟨tv, st, low, high, rfl, hs, hlh, hle, q⟩ := h
    refine ⟨_, (pss_cons (ps_if (PW.pt (pw_or (pt_not (pt_truth (pe_call (ok_is_whole T) (hr.mono (by decide)) (by rfl) T.g_is_whole T.F_is_whole.kp T.b_is_whole .nil pass0 (pa_cons (pv 1) pa_nil)) (by intro _; rfl))) (pw_or (pt_not (pt_truth (pe_call (ok_is_whole T) (hr.mono (by decide)) (by rfl) T.g_is_whole T.F_is_whole.kp T.b_is_whole .nil pass0 (pa_cons (pv 2) pa_nil)) (by intro _; rfl))) (pw_or1 (pt_cmpR op_gt (pv 1) (pv 2) (nomark _)))))) (pss_one ps_never) pss_nil) (pss_cons (ps_if (pt_cmpR op_isN (pv 0) pe_non (nomark _)) (pss_one (ps_ret (pe_tup (pa_cons (pv 1) (pa_cons (pv 2) pa_nil))))) pss_nil) (pss_cons (ps_set (i := 3) sc_set_between.nd rfl (Or.inl rfl) (pe_callB (call_max2 rfl) (by rfl) T.z_max (by decide +kernel) (pa_cons (pv 1) (pa_cons (pe_ix ix_tup (pv 0) pe_int (fun _ _ => rfl)) pa_nil)))) (pss_cons (ps_set (i := 4) sc_set_between.nd rfl (Or.inl rfl) (pe_callB (call_min2 rfl) (by rfl) T.z_min (by decide +kernel) (pa_cons (pv 2) (pa_cons (pe_ix ix_tup (pv 0) pe_int (fun _ _ => rfl)) pa_nil)))) (pss_cons (ps_if (pt_cmpR op_gt (pv 3) (pv 4) (nomark _)) (pss_one ps_never) pss_nil) (pss_one (ps_ret (pe_tup (pa_cons (pv 3) (pa_cons (pv 4) pa_nil)))))))))), ?_⟩
    refine ⟨_, rfl, low, rfl, true, rfl, iteF ?_⟩
    refine ⟨_, rfl, high, rfl, true, rfl, iteF ?_⟩
    refine ⟨_, rfl, _, rfl, low, high, rfl, rfl, _, rfl, iteDF (by omega) ?_⟩
    cases st with
    | none =>
      have e : tv = V.non := hs
      subst e
      refine ⟨_, rfl, rfl, _, rfl, iteT ?_⟩
      exact ⟨_, rfl, _, rfl, len2, fun p np => q p np⟩
    | some z =>
      obtain ⟨sp, e, hs⟩ := hs
      subst e
      refine ⟨_, rfl, rfl, _, rfl, iteF ?_⟩
      refine ⟨_, rfl, _, rfl, sp, _, 0, _, rfl, rfl, hs, rfl, low, _, rfl, ?_⟩
      refine ⟨_, rfl, _, rfl, sp, _, 1, _, rfl, rfl, hs, rfl, high, _, rfl, ?_⟩
      refine ⟨_, rfl, _, rfl, _, _, rfl, rfl, _, rfl, iteDF (Int.not_lt.mpr hle) ?_⟩
      exact ⟨_, rfl, _, rfl, len2, fun p np => q p np⟩

theorem ok_Clock___init__ {P : Program} {w : World} {K : PySem.W.Frag} {mg : Str → Option Value} {base : Heap} {a : Nat → Addr} {d : Nat → FuncData} (T : Txt K mg a d) : FnOk P w K mg base CX0 5 (a 43) (d 43) ["self", "drift"] (spInit K (a 62)) := by
  refine T.F_Clock___init__.ok (CX := CX0) sc_Clock___init__ (fun vs H Q E h => ?_) (fun cdv A outer s0 H vs Q E hr h => ?_)
  · obtain ⟨x, dr, dx, t, b, rfl, hx, hd, q⟩ := h
    rfl
  · obtain ⟨x, dr, dx, t, b, rfl, hx, hd, q⟩ := h
    refine ⟨_, PSs.nox (pss_cons (ps_if (pt_not (pt_truth (pe_call (ok_is_drift T) (hr.mono (by decide)) (by rfl) T.g_is_drift T.F_is_drift.kp T.b_is_drift .nil pass0 (pa_cons (pv 1) pa_nil)) (by intro _; rfl))) (pss_one ps_never) pss_nil) (pss_cons (ps_fld (pv 0) (pv 1) rfl) (pss_cons (ps_fld (pv 0) pe_non rfl) (pss_one (ps_fld (pv 0) pe_int rfl))))), ?_⟩
    refine ⟨_, rfl, dr, t, b, rfl, hd, fun H1 s1 => ⟨true, rfl, iteF ?_⟩⟩
    refine ⟨_, rfl, _, rfl, x, _, dx, _, rfl, s1 _ _ hx, T.cl_Clock, T.n_Clock_most_drift, (by decide), ?_⟩
    refine ⟨_, rfl, x, _, dx, _, rfl, upd_same, T.cl_Clock, T.n_Clock_stands, (by show 1 < 1000; decide), ?_⟩
    refine ⟨_, rfl, x, _, dx, _, rfl, upd_same, T.cl_Clock, T.n_Clock_counted, (by simp only [putF, if_neg ne_ms]; show 2 < 1000; decide), ?_⟩
    have f1 : ∀ o1 o2 o3, Fr x H (upd (upd (upd H1 x o1) x o2) x o3) := fun _ _ _ => (((fr_same s1).put).put).put
    exact q _ (f1 _ _ _) ⟨⟨dx, .non, upd_same, rfl⟩, hd.fr (f1 _ _ _) hx trivial, Int.le_refl 0⟩

theorem ok_Clock_bounds {P : Program} {w : World} {K : PySem.W.Frag} {mg : Str → Option Value} {base : Heap} {a : Nat → Addr} {d : Nat → FuncData} (T : Txt K mg a d) : FnOk P w K mg base CX0 5 (a 44) (d 44) ["self"] (spBounds K (a 62)) := by
  refine T.F_Clock_bounds.ok sc_Clock_bounds (fun vs H Q E h => ?_) (fun cdv A outer s0 H vs Q E hr h => ?_)
  · obtain ⟨c, dr, t, b, lo, hi, n, rfl, hk, q⟩ := h
    rfl
  · obtain ⟨c, dr, t, b, lo, hi, n, rfl, hk, q⟩ := h
    obtain ⟨⟨dx, sv, hc, hs⟩, hd, nn⟩ := id hk
    obtain ⟨sp, rfl, hs'⟩ := id hs
    refine ⟨_, (pss_cons (ps_if (pt_cmpR op_isN (pe_fld (pv 0) rfl) pe_non (nomark _)) (pss_one ps_never) pss_nil) (pss_one (ps_ret (pe_call (ok_bounds_behind T) (hr.mono (by decide)) (by rfl) T.g_bounds_behind T.F_bounds_behind.kp T.b_bounds_behind .nil pass0 (pa_cons (pe_fld (pv 0) rfl) (pa_cons (pe_fld (pv 0) rfl) (pa_cons (pe_fld (pv 0) rfl) pa_nil))))))), ?_⟩
    refine ⟨_, rfl, c, _, dx, _, _, rfl, hc, T.cl_Clock, T.n_Clock_stands, cf_s _ _ _, rfl, _, rfl, iteF ?_⟩
    refine ⟨_, rfl, c, _, dx, _, _, rfl, hc, T.cl_Clock, T.n_Clock_stands, cf_s _ _ _, _, rfl, c, _, dx, _, _, rfl, hc, T.cl_Clock, T.n_Clock_counted, cf_c _ _ _, _, rfl, c, _, dx, _, _, rfl, hc, T.cl_Clock, T.n_Clock_most_drift, cf_m _ _ _, ?_⟩
    exact ⟨_, some (lo, hi), n, dr, t, b, rfl, hs, nn, hd, fun p np => q p np⟩


theorem upd_app (H : Hp) (a : Addr) (o : HO) (b : Addr) : upd H a o b = if b = a then some o else H b := by
  by_cases e : b = a
  · subst e; rw [upd_same, if_pos rfl]
  · rw [upd_ne e, if_neg e]
theorem upd_twice {H : Hp} {p : Addr} {o o' : HO} : upd (upd H p o) p o' = upd H p o' := by
  funext b
  rw [upd_app, upd_app, upd_app]
  by_cases e : b = p
  · rw [if_pos e, if_pos e]
  · rw [if_neg e, if_neg e, if_neg e]
theorem iteNDF {c A B : Prop} [Decidable c] (h : c) (b : B) : if (!decide c) = true then A else B := by
  rw [decide_eq_true h]
  exact iteF b
theorem lk_hit {k : Str} {v : V} {r : List (Str × V)} : ((k, v) :: r).lookup k = some v := by simp [List.lookup]
theorem lk_skip {k k' : Str} {v : V} {r : List (Str × V)} (h : ¬ k = k') : ((k', v) :: r).lookup k = r.lookup k := by
  have e : (k == k') = false := by simpa using h
  simp [List.lookup, e]
theorem pf_hit {k : Str} {v w : V} {r : List (Str × V)} : putF k v ((k, w) :: r) = (k, v) :: r := by simp [putF]
theorem pf_skip {k k' : Str} {v w : V} {r : List (Str × V)} (h : ¬ k' = k) : putF k v ((k', w) :: r) = (k', w) :: putF k v r := by simp [putF, h]
theorem putF_le (f : Str) (v : V) : ∀ l : List (Str × V), (putF f v l).length ≤ l.length + 1
  | [] => by simp [putF]
  | (k, w) :: r => by
    by_cases e : k = f
    · subst e
      rw [pf_hit]
      simp
    · rw [pf_skip e]
      have := putF_le f v r
      simp only [List.length_cons]
      omega
theorem few0 : ([] : List (Str × V)).length ≤ 0 := by simp
theorem few_up {l : List (Str × V)} {n : Nat} (h : l.length ≤ n) (f : Str) (v : V) : (putF f v l).length ≤ n + 1 := Nat.le_trans (putF_le f v l) (by omega)
def oV : Option Int → V
  | none => .non
  | some i => .int i
section
variable {K : PySem.W.Frag} {H H' : Hp}
theorem sql_fr {p y C dx : Addr} {fs : List (Str × V)} {xs : List V} (h : SqL K H p xs) (k : Fr y H H') (hy : H y = some (.ins C dx fs)) : SqL K H' p xs := by
  rcases h with (h | ⟨u, h⟩) | h
  · exact .inl (.inl (k p _ (ne_of h hy (by intro e; cases e)) h))
  · exact .inl (.inr ⟨u, k p _ (ne_of h hy (by intro e; cases e)) h⟩)
  · exact .inr h
mutual
theorem dp_fr {v : V} {d : PyData} {y C dx : Addr} {fs : List (Str × V)} (h : Dp K H v d) (k : Fr y H H') (hy : H y = some (.ins C dx fs)) : Dp K H' v d := by
  cases h with
  | non => exact .non
  | bl x => exact .bl x
  | int i => exact .int i
  | str x => exact .str x
  | lst hq hs => exact .lst (sql_fr hq k hy) (dpall_fr hs k hy)
  | tup hq hs => exact .tup (k.sqt hy trivial hq) (dpall_fr hs k hy)
theorem dpall_fr {vs : List V} {ds : List PyData} {y C dx : Addr} {fs : List (Str × V)} (h : DpAll K H vs ds) (k : Fr y H H') (hy : H y = some (.ins C dx fs)) : DpAll K H' vs ds := by
  cases h with
  | nil => exact .nil
  | cons a r => exact .cons (dp_fr a k hy) (dpall_fr r k hy)
end
theorem sql_same {p : Addr} {xs : List V} (h : SqL K H p xs) (k : Same H H') : SqL K H' p xs := by
  rcases h with (h | ⟨u, h⟩) | h
  · exact .inl (.inl (k p _ h))
  · exact .inl (.inr ⟨u, k p _ h⟩)
  · exact .inr h
mutual
theorem dp_same {v : V} {d : PyData} (h : Dp K H v d) (k : Same H H') : Dp K H' v d := by
  cases h with
  | non => exact .non
  | bl x => exact .bl x
  | int i => exact .int i
  | str x => exact .str x
  | lst hq hs => exact .lst (sql_same hq k) (dpall_same hs k)
  | tup hq hs => exact .tup (same_sqt k hq) (dpall_same hs k)
theorem dpall_same {vs : List V} {ds : List PyData} (h : DpAll K H vs ds) (k : Same H H') : DpAll K H' vs ds := by
  cases h with
  | nil => exact .nil
  | cons a r => exact .cons (dp_same a k) (dpall_same r k)
end
theorem svat_same {v : V} {s : Option (Int × Int)} (h : SvAt K H v s) (k : Same H H') : SvAt K H' v s := by
  cases s with
  | none => exact h
  | some z =>
    obtain ⟨p, e, q⟩ := h
    exact ⟨p, e, same_sqt k q⟩
/-- values of bounds, or None -/
structure SvL (K : PySem.W.Frag) (H : Hp) (vs : List V) (ss : List (Option (Int × Int))) : Prop where
  len : vs.length = ss.length
  at_ : ∀ (i : Nat) (v : V) (s : Option (Int × Int)), vs[i]? = some v → ss[i]? = some s → SvAt K H v s
theorem SvL.same {vs : List V} {ss : List (Option (Int × Int))} (h : SvL K H vs ss) (k : Same H H') : SvL K H' vs ss := ⟨h.len, fun i v s e1 e2 => svat_same (h.at_ i v s e1 e2) k⟩
theorem SvL.fr {vs : List V} {ss : List (Option (Int × Int))} {y C dx : Addr} {fs : List (Str × V)} (h : SvL K H vs ss) (k : Fr y H H') (hy : H y = some (.ins C dx fs)) : SvL K H' vs ss := ⟨h.len, fun i v s e1 e2 => (h.at_ i v s e1 e2).fr k hy trivial⟩
theorem SvL.set {vs : List V} {ss : List (Option (Int × Int))} {i : Nat} {v : V} {s : Option (Int × Int)} (h : SvL K H vs ss) (hv : SvAt K H v s) : SvL K H (vs.set i v) (ss.set i s) := by
  refine ⟨by rw [List.length_set, List.length_set]; exact h.len, fun j u r e1 e2 => ?_⟩
  rw [List.getElem?_set] at e1 e2
  by_cases c : i = j
  · subst c
    rw [if_pos rfl] at e1 e2
    by_cases l1 : i < vs.length
    · rw [if_pos l1] at e1
      rw [if_pos (by rw [← h.len]; exact l1)] at e2
      cases e1
      cases e2
      exact hv
    · rw [if_neg l1] at e1
      cases e1
  · rw [if_neg c] at e1 e2
    exact h.at_ j u r e1 e2
theorem SvL.get {vs : List V} {ss : List (Option (Int × Int))} {i : Nat} {s : Option (Int × Int)} (h : SvL K H vs ss) (e : ss[i]? = some s) : ∃ v, vs[i]? = some v ∧ SvAt K H v s := by
  have hi : i < vs.length := by rw [h.len]; exact (List.getElem?_eq_some_iff.mp e).1
  exact ⟨vs[i], List.getElem?_eq_getElem hi, h.at_ i _ s (List.getElem?_eq_getElem hi) e⟩
end
/-- a copy's state -/
structure MS where
  up : Bool
  has : Int
  st : Option (Int × Int)
  n : Int
  sp : Option (Int × Int)
  pr : Option Int
  pin : Int
  rt : Option Int
def MS.new : MS := ⟨true, 0, none, 0, none, none, 0, none⟩
structure GA where
  dr : Addr
  ups : Addr
  has : Addr
  sts : Addr
  cts : Addr
  sps : Addr
  prs : Addr
  pins : Addr
  rts : Addr
  el : Addr
def GA.all (A : GA) : List Addr := [A.ups, A.has, A.sts, A.cts, A.sps, A.prs, A.pins, A.rts, A.el]
structure GS where
  ms : List MS
  le : Int
  rg : Int
  ch : Option Int
  ds : List PyData
  lent : Bool
  loose : Bool
theorem map_same {α : Type} {ms : List MS} {i : Nat} {s s' : MS} {f : MS → α} (hs : ms[i]? = some s) (e : f s' = f s) : (ms.set i s').map f = ms.map f := by
  rw [List.map_set, e]
  have h2 : (ms.map f)[i]? = some (f s) := by rw [List.getElem?_map, hs]; rfl
  apply List.ext_getElem?
  intro j
  rw [List.getElem?_set]
  by_cases c : i = j
  · subst c
    rw [if_pos rfl, if_pos (List.getElem?_eq_some_iff.mp h2).1, h2]
  · rw [if_neg c]
def gf (A : GA) (g : GS) : List (Str × V) := [("most_drift", .ref A.dr), ("lease", .int g.le), ("ups", .ref A.ups), ("has", .ref A.has), ("stands", .ref A.sts), ("counts", .ref A.cts), ("spans", .ref A.sps), ("promises", .ref A.prs), ("promised_in", .ref A.pins), ("rules_till", .ref A.rts), ("entries", .ref A.el), ("lent", .bl g.lent), ("loose", .bl g.loose), ("reigns", .int g.rg), ("chosen", oV g.ch)]
theorem gf_len (A : GA) (g : GS) : (gf A g).length < 1000 := by show 15 < 1000; decide
theorem gf_most_drift (A : GA) (g : GS) : (gf A g).lookup ("most_drift" : Str) = some (.ref A.dr) := by unfold gf; rw [lk_hit]
theorem gf_lease (A : GA) (g : GS) : (gf A g).lookup ("lease" : Str) = some (.int g.le) := by unfold gf; rw [lk_skip (by decide +kernel), lk_hit]
theorem gf_ups (A : GA) (g : GS) : (gf A g).lookup ("ups" : Str) = some (.ref A.ups) := by unfold gf; rw [lk_skip (by decide +kernel), lk_skip (by decide +kernel), lk_hit]
theorem gf_has (A : GA) (g : GS) : (gf A g).lookup ("has" : Str) = some (.ref A.has) := by unfold gf; rw [lk_skip (by decide +kernel), lk_skip (by decide +kernel), lk_skip (by decide +kernel), lk_hit]
theorem gf_stands (A : GA) (g : GS) : (gf A g).lookup ("stands" : Str) = some (.ref A.sts) := by unfold gf; rw [lk_skip (by decide +kernel), lk_skip (by decide +kernel), lk_skip (by decide +kernel), lk_skip (by decide +kernel), lk_hit]
theorem gf_counts (A : GA) (g : GS) : (gf A g).lookup ("counts" : Str) = some (.ref A.cts) := by unfold gf; rw [lk_skip (by decide +kernel), lk_skip (by decide +kernel), lk_skip (by decide +kernel), lk_skip (by decide +kernel), lk_skip (by decide +kernel), lk_hit]
theorem gf_spans (A : GA) (g : GS) : (gf A g).lookup ("spans" : Str) = some (.ref A.sps) := by unfold gf; rw [lk_skip (by decide +kernel), lk_skip (by decide +kernel), lk_skip (by decide +kernel), lk_skip (by decide +kernel), lk_skip (by decide +kernel), lk_skip (by decide +kernel), lk_hit]
theorem gf_promises (A : GA) (g : GS) : (gf A g).lookup ("promises" : Str) = some (.ref A.prs) := by unfold gf; rw [lk_skip (by decide +kernel), lk_skip (by decide +kernel), lk_skip (by decide +kernel), lk_skip (by decide +kernel), lk_skip (by decide +kernel), lk_skip (by decide +kernel), lk_skip (by decide +kernel), lk_hit]
theorem gf_promised_in (A : GA) (g : GS) : (gf A g).lookup ("promised_in" : Str) = some (.ref A.pins) := by unfold gf; rw [lk_skip (by decide +kernel), lk_skip (by decide +kernel), lk_skip (by decide +kernel), lk_skip (by decide +kernel), lk_skip (by decide +kernel), lk_skip (by decide +kernel), lk_skip (by decide +kernel), lk_skip (by decide +kernel), lk_hit]
theorem gf_rules_till (A : GA) (g : GS) : (gf A g).lookup ("rules_till" : Str) = some (.ref A.rts) := by unfold gf; rw [lk_skip (by decide +kernel), lk_skip (by decide +kernel), lk_skip (by decide +kernel), lk_skip (by decide +kernel), lk_skip (by decide +kernel), lk_skip (by decide +kernel), lk_skip (by decide +kernel), lk_skip (by decide +kernel), lk_skip (by decide +kernel), lk_hit]
theorem gf_entries (A : GA) (g : GS) : (gf A g).lookup ("entries" : Str) = some (.ref A.el) := by unfold gf; rw [lk_skip (by decide +kernel), lk_skip (by decide +kernel), lk_skip (by decide +kernel), lk_skip (by decide +kernel), lk_skip (by decide +kernel), lk_skip (by decide +kernel), lk_skip (by decide +kernel), lk_skip (by decide +kernel), lk_skip (by decide +kernel), lk_skip (by decide +kernel), lk_hit]
theorem gf_lent (A : GA) (g : GS) : (gf A g).lookup ("lent" : Str) = some (.bl g.lent) := by unfold gf; rw [lk_skip (by decide +kernel), lk_skip (by decide +kernel), lk_skip (by decide +kernel), lk_skip (by decide +kernel), lk_skip (by decide +kernel), lk_skip (by decide +kernel), lk_skip (by decide +kernel), lk_skip (by decide +kernel), lk_skip (by decide +kernel), lk_skip (by decide +kernel), lk_skip (by decide +kernel), lk_hit]
theorem gf_loose (A : GA) (g : GS) : (gf A g).lookup ("loose" : Str) = some (.bl g.loose) := by unfold gf; rw [lk_skip (by decide +kernel), lk_skip (by decide +kernel), lk_skip (by decide +kernel), lk_skip (by decide +kernel), lk_skip (by decide +kernel), lk_skip (by decide +kernel), lk_skip (by decide +kernel), lk_skip (by decide +kernel), lk_skip (by decide +kernel), lk_skip (by decide +kernel), lk_skip (by decide +kernel), lk_skip (by decide +kernel), lk_hit]
theorem gf_reigns (A : GA) (g : GS) : (gf A g).lookup ("reigns" : Str) = some (.int g.rg) := by unfold gf; rw [lk_skip (by decide +kernel), lk_skip (by decide +kernel), lk_skip (by decide +kernel), lk_skip (by decide +kernel), lk_skip (by decide +kernel), lk_skip (by decide +kernel), lk_skip (by decide +kernel), lk_skip (by decide +kernel), lk_skip (by decide +kernel), lk_skip (by decide +kernel), lk_skip (by decide +kernel), lk_skip (by decide +kernel), lk_skip (by decide +kernel), lk_hit]
theorem gf_chosen (A : GA) (g : GS) : (gf A g).lookup ("chosen" : Str) = some (oV g.ch) := by unfold gf; rw [lk_skip (by decide +kernel), lk_skip (by decide +kernel), lk_skip (by decide +kernel), lk_skip (by decide +kernel), lk_skip (by decide +kernel), lk_skip (by decide +kernel), lk_skip (by decide +kernel), lk_skip (by decide +kernel), lk_skip (by decide +kernel), lk_skip (by decide +kernel), lk_skip (by decide +kernel), lk_skip (by decide +kernel), lk_skip (by decide +kernel), lk_skip (by decide +kernel), lk_hit]
theorem gf_no (A : GA) (g : GS) {m : Str} (h0 : ¬ m = "most_drift") (h1 : ¬ m = "lease") (h2 : ¬ m = "ups") (h3 : ¬ m = "has") (h4 : ¬ m = "stands") (h5 : ¬ m = "counts") (h6 : ¬ m = "spans") (h7 : ¬ m = "promises") (h8 : ¬ m = "promised_in") (h9 : ¬ m = "rules_till") (h10 : ¬ m = "entries") (h11 : ¬ m = "lent") (h12 : ¬ m = "loose") (h13 : ¬ m = "reigns") (h14 : ¬ m = "chosen") : (gf A g).lookup m = none := by unfold gf; rw [lk_skip h0, lk_skip h1, lk_skip h2, lk_skip h3, lk_skip h4, lk_skip h5, lk_skip h6, lk_skip h7, lk_skip h8, lk_skip h9, lk_skip h10, lk_skip h11, lk_skip h12, lk_skip h13, lk_skip h14]; rfl
theorem gp_ups (A : GA) (g : GS) (p : Addr) : putF "ups" (.ref p) (gf A g) = gf { A with ups := p } g := by unfold gf; rw [pf_skip (by decide +kernel), pf_skip (by decide +kernel), pf_hit]
theorem gp_has (A : GA) (g : GS) (p : Addr) : putF "has" (.ref p) (gf A g) = gf { A with has := p } g := by unfold gf; rw [pf_skip (by decide +kernel), pf_skip (by decide +kernel), pf_skip (by decide +kernel), pf_hit]
theorem gp_stands (A : GA) (g : GS) (p : Addr) : putF "stands" (.ref p) (gf A g) = gf { A with sts := p } g := by unfold gf; rw [pf_skip (by decide +kernel), pf_skip (by decide +kernel), pf_skip (by decide +kernel), pf_skip (by decide +kernel), pf_hit]
theorem gp_counts (A : GA) (g : GS) (p : Addr) : putF "counts" (.ref p) (gf A g) = gf { A with cts := p } g := by unfold gf; rw [pf_skip (by decide +kernel), pf_skip (by decide +kernel), pf_skip (by decide +kernel), pf_skip (by decide +kernel), pf_skip (by decide +kernel), pf_hit]
theorem gp_spans (A : GA) (g : GS) (p : Addr) : putF "spans" (.ref p) (gf A g) = gf { A with sps := p } g := by unfold gf; rw [pf_skip (by decide +kernel), pf_skip (by decide +kernel), pf_skip (by decide +kernel), pf_skip (by decide +kernel), pf_skip (by decide +kernel), pf_skip (by decide +kernel), pf_hit]
theorem gp_promises (A : GA) (g : GS) (p : Addr) : putF "promises" (.ref p) (gf A g) = gf { A with prs := p } g := by unfold gf; rw [pf_skip (by decide +kernel), pf_skip (by decide +kernel), pf_skip (by decide +kernel), pf_skip (by decide +kernel), pf_skip (by decide +kernel), pf_skip (by decide +kernel), pf_skip (by decide +kernel), pf_hit]
theorem gp_promised_in (A : GA) (g : GS) (p : Addr) : putF "promised_in" (.ref p) (gf A g) = gf { A with pins := p } g := by unfold gf; rw [pf_skip (by decide +kernel), pf_skip (by decide +kernel), pf_skip (by decide +kernel), pf_skip (by decide +kernel), pf_skip (by decide +kernel), pf_skip (by decide +kernel), pf_skip (by decide +kernel), pf_skip (by decide +kernel), pf_hit]
theorem gp_rules_till (A : GA) (g : GS) (p : Addr) : putF "rules_till" (.ref p) (gf A g) = gf { A with rts := p } g := by unfold gf; rw [pf_skip (by decide +kernel), pf_skip (by decide +kernel), pf_skip (by decide +kernel), pf_skip (by decide +kernel), pf_skip (by decide +kernel), pf_skip (by decide +kernel), pf_skip (by decide +kernel), pf_skip (by decide +kernel), pf_skip (by decide +kernel), pf_hit]
theorem gp_entries (A : GA) (g : GS) (p : Addr) : putF "entries" (.ref p) (gf A g) = gf { A with el := p } g := by unfold gf; rw [pf_skip (by decide +kernel), pf_skip (by decide +kernel), pf_skip (by decide +kernel), pf_skip (by decide +kernel), pf_skip (by decide +kernel), pf_skip (by decide +kernel), pf_skip (by decide +kernel), pf_skip (by decide +kernel), pf_skip (by decide +kernel), pf_skip (by decide +kernel), pf_hit]
theorem gp_reigns (A : GA) (g : GS) (n : Int) : putF "reigns" (.int n) (gf A g) = gf A { g with rg := n } := by unfold gf; rw [pf_skip (by decide +kernel), pf_skip (by decide +kernel), pf_skip (by decide +kernel), pf_skip (by decide +kernel), pf_skip (by decide +kernel), pf_skip (by decide +kernel), pf_skip (by decide +kernel), pf_skip (by decide +kernel), pf_skip (by decide +kernel), pf_skip (by decide +kernel), pf_skip (by decide +kernel), pf_skip (by decide +kernel), pf_skip (by decide +kernel), pf_hit]
theorem gp_chosen (A : GA) (g : GS) (c : Option Int) : putF "chosen" (oV c) (gf A g) = gf A { g with ch := c } := by unfold gf; rw [pf_skip (by decide +kernel), pf_skip (by decide +kernel), pf_skip (by decide +kernel), pf_skip (by decide +kernel), pf_skip (by decide +kernel), pf_skip (by decide +kernel), pf_skip (by decide +kernel), pf_skip (by decide +kernel), pf_skip (by decide +kernel), pf_skip (by decide +kernel), pf_skip (by decide +kernel), pf_skip (by decide +kernel), pf_skip (by decide +kernel), pf_skip (by decide +kernel), pf_hit]
theorem gp_loose (A : GA) (g : GS) (c : Bool) : putF "loose" (.bl c) (gf A g) = gf A { g with loose := c } := by unfold gf; rw [pf_skip (by decide +kernel), pf_skip (by decide +kernel), pf_skip (by decide +kernel), pf_skip (by decide +kernel), pf_skip (by decide +kernel), pf_skip (by decide +kernel), pf_skip (by decide +kernel), pf_skip (by decide +kernel), pf_skip (by decide +kernel), pf_skip (by decide +kernel), pf_skip (by decide +kernel), pf_skip (by decide +kernel), pf_hit]
theorem gf_new (A : GA) (le : Int) (ms : List MS) : putF "chosen" (.non) (putF "reigns" (.int 0) (putF "loose" (.bl false) (putF "lent" (.bl false) (putF "entries" (.ref A.el) (putF "rules_till" (.ref A.rts) (putF "promised_in" (.ref A.pins) (putF "promises" (.ref A.prs) (putF "spans" (.ref A.sps) (putF "counts" (.ref A.cts) (putF "stands" (.ref A.sts) (putF "has" (.ref A.has) (putF "ups" (.ref A.ups) (putF "lease" (.int le) (putF "most_drift" (.ref A.dr) ([]))))))))))))))) = gf A ⟨ms, le, 0, none, [], false, false⟩ := by
  have z : ∀ (k : Str) (v : V), putF k v [] = [(k, v)] := fun _ _ => rfl
  rw [z]
  repeat (first | rw [pf_skip (by decide +kernel)] | rw [z])
  rfl
structure Lists (K : PySem.W.Frag) (H : Hp) (A : GA) (t b : Int) (g : GS) : Prop where
  dr : DrOk K H A.dr t b
  ups : H A.ups = some (.lst (g.ms.map fun s => V.bl s.up))
  has : H A.has = some (.lst (g.ms.map fun s => V.int s.has))
  cts : H A.cts = some (.lst (g.ms.map fun s => V.int s.n))
  prs : H A.prs = some (.lst (g.ms.map fun s => oV s.pr))
  pins : H A.pins = some (.lst (g.ms.map fun s => V.int s.pin))
  rts : H A.rts = some (.lst (g.ms.map fun s => oV s.rt))
  sts : ∃ vs, H A.sts = some (.lst vs) ∧ SvL K H vs (g.ms.map fun s => s.st)
  sps : ∃ vs, H A.sps = some (.lst vs) ∧ SvL K H vs (g.ms.map fun s => s.sp)
  el : ∃ vs, H A.el = some (.lst vs) ∧ DpAll K H vs g.ds
  e_ups : A.el ≠ A.ups
  e_has : A.el ≠ A.has
  e_cts : A.el ≠ A.cts
  e_prs : A.el ≠ A.prs
  e_pins : A.el ≠ A.pins
  e_rts : A.el ≠ A.rts
  e_sts : A.el ≠ A.sts
  e_sps : A.el ≠ A.sps
  n5 : g.ms.length ≤ 5
  n1 : 0 < g.ms.length
  nn : ∀ s ∈ g.ms, 0 ≤ s.n
  dl : g.ds.length ≤ 1000
section
variable {K : PySem.W.Frag} {CG : Addr} {H H' : Hp} {x : Addr} {A : GA} {t b : Int} {g : GS}
theorem Lists.same (l : Lists K H A t b g) (k : Same H H') : Lists K H' A t b g := ⟨l.dr.same k, k _ _ l.ups, k _ _ l.has, k _ _ l.cts, k _ _ l.prs, k _ _ l.pins, k _ _ l.rts, (by obtain ⟨vs, e, q⟩ := l.sts; exact ⟨vs, k _ _ e, q.same k⟩), (by obtain ⟨vs, e, q⟩ := l.sps; exact ⟨vs, k _ _ e, q.same k⟩), (by obtain ⟨vs, e, q⟩ := l.el; exact ⟨vs, k _ _ e, dpall_same q k⟩), l.e_ups, l.e_has, l.e_cts, l.e_prs, l.e_pins, l.e_rts, l.e_sts, l.e_sps, l.n5, l.n1, l.nn, l.dl⟩
theorem Lists.fr (l : Lists K H A t b g) {y C dx : Addr} {fs : List (Str × V)} (k : Fr y H H') (hy : H y = some (.ins C dx fs)) : Lists K H' A t b g := ⟨l.dr.fr k hy trivial, k _ _ (ne_of l.ups hy (by intro z; cases z)) l.ups, k _ _ (ne_of l.has hy (by intro z; cases z)) l.has, k _ _ (ne_of l.cts hy (by intro z; cases z)) l.cts, k _ _ (ne_of l.prs hy (by intro z; cases z)) l.prs, k _ _ (ne_of l.pins hy (by intro z; cases z)) l.pins, k _ _ (ne_of l.rts hy (by intro z; cases z)) l.rts, (by obtain ⟨vs, e, q⟩ := l.sts; exact ⟨vs, k _ _ (ne_of e hy (by intro z; cases z)) e, q.fr k hy⟩), (by obtain ⟨vs, e, q⟩ := l.sps; exact ⟨vs, k _ _ (ne_of e hy (by intro z; cases z)) e, q.fr k hy⟩), (by obtain ⟨vs, e, q⟩ := l.el; exact ⟨vs, k _ _ (ne_of e hy (by intro z; cases z)) e, dpall_fr q k hy⟩), l.e_ups, l.e_has, l.e_cts, l.e_prs, l.e_pins, l.e_rts, l.e_sts, l.e_sps, l.n5, l.n1, l.nn, l.dl⟩
theorem Lists.set_ups (l : Lists K H A t b g) {i : Nat} {s : MS} {p : Addr} {u : Bool} (hs : g.ms[i]? = some s) (hp : H p = some (.lst ((g.ms.map fun s => V.bl s.up).set i (V.bl u)))) (hel : A.el ≠ p) : Lists K H { A with ups := p } t b { g with ms := g.ms.set i { s with up := u } } := ⟨l.dr, (by rw [List.map_set]; exact hp), (by rw [map_same (s' := { s with up := u }) hs rfl]; exact l.has), (by rw [map_same (s' := { s with up := u }) hs rfl]; exact l.cts), (by rw [map_same (s' := { s with up := u }) hs rfl]; exact l.prs), (by rw [map_same (s' := { s with up := u }) hs rfl]; exact l.pins), (by rw [map_same (s' := { s with up := u }) hs rfl]; exact l.rts), (by obtain ⟨vs, e, q⟩ := l.sts; exact ⟨vs, e, by rw [map_same (s' := { s with up := u }) hs rfl]; exact q⟩), (by obtain ⟨vs, e, q⟩ := l.sps; exact ⟨vs, e, by rw [map_same (s' := { s with up := u }) hs rfl]; exact q⟩), l.el, hel, l.e_has, l.e_cts, l.e_prs, l.e_pins, l.e_rts, l.e_sts, l.e_sps, (by rw [List.length_set]; exact l.n5), (by rw [List.length_set]; exact l.n1), (fun s' h' => (List.mem_or_eq_of_mem_set h').elim (fun z => l.nn s' z) (fun z => by subst z; exact l.nn s (List.mem_of_getElem? hs))), l.dl⟩
theorem Lists.set_has (l : Lists K H A t b g) {i : Nat} {s : MS} {p : Addr} {u : Int} (hs : g.ms[i]? = some s) (hp : H p = some (.lst ((g.ms.map fun s => V.int s.has).set i (V.int u)))) (hel : A.el ≠ p) : Lists K H { A with has := p } t b { g with ms := g.ms.set i { s with has := u } } := ⟨l.dr, (by rw [map_same (s' := { s with has := u }) hs rfl]; exact l.ups), (by rw [List.map_set]; exact hp), (by rw [map_same (s' := { s with has := u }) hs rfl]; exact l.cts), (by rw [map_same (s' := { s with has := u }) hs rfl]; exact l.prs), (by rw [map_same (s' := { s with has := u }) hs rfl]; exact l.pins), (by rw [map_same (s' := { s with has := u }) hs rfl]; exact l.rts), (by obtain ⟨vs, e, q⟩ := l.sts; exact ⟨vs, e, by rw [map_same (s' := { s with has := u }) hs rfl]; exact q⟩), (by obtain ⟨vs, e, q⟩ := l.sps; exact ⟨vs, e, by rw [map_same (s' := { s with has := u }) hs rfl]; exact q⟩), l.el, l.e_ups, hel, l.e_cts, l.e_prs, l.e_pins, l.e_rts, l.e_sts, l.e_sps, (by rw [List.length_set]; exact l.n5), (by rw [List.length_set]; exact l.n1), (fun s' h' => (List.mem_or_eq_of_mem_set h').elim (fun z => l.nn s' z) (fun z => by subst z; exact l.nn s (List.mem_of_getElem? hs))), l.dl⟩
theorem Lists.set_cts (l : Lists K H A t b g) {i : Nat} {s : MS} {p : Addr} {u : Int} (hs : g.ms[i]? = some s) (hp : H p = some (.lst ((g.ms.map fun s => V.int s.n).set i (V.int u)))) (hel : A.el ≠ p) (hu : 0 ≤ u) : Lists K H { A with cts := p } t b { g with ms := g.ms.set i { s with n := u } } := ⟨l.dr, (by rw [map_same (s' := { s with n := u }) hs rfl]; exact l.ups), (by rw [map_same (s' := { s with n := u }) hs rfl]; exact l.has), (by rw [List.map_set]; exact hp), (by rw [map_same (s' := { s with n := u }) hs rfl]; exact l.prs), (by rw [map_same (s' := { s with n := u }) hs rfl]; exact l.pins), (by rw [map_same (s' := { s with n := u }) hs rfl]; exact l.rts), (by obtain ⟨vs, e, q⟩ := l.sts; exact ⟨vs, e, by rw [map_same (s' := { s with n := u }) hs rfl]; exact q⟩), (by obtain ⟨vs, e, q⟩ := l.sps; exact ⟨vs, e, by rw [map_same (s' := { s with n := u }) hs rfl]; exact q⟩), l.el, l.e_ups, l.e_has, hel, l.e_prs, l.e_pins, l.e_rts, l.e_sts, l.e_sps, (by rw [List.length_set]; exact l.n5), (by rw [List.length_set]; exact l.n1), (fun s' h' => (List.mem_or_eq_of_mem_set h').elim (fun z => l.nn s' z) (fun z => by subst z; exact hu)), l.dl⟩
theorem Lists.set_prs (l : Lists K H A t b g) {i : Nat} {s : MS} {p : Addr} {u : Option Int} (hs : g.ms[i]? = some s) (hp : H p = some (.lst ((g.ms.map fun s => oV s.pr).set i (oV u)))) (hel : A.el ≠ p) : Lists K H { A with prs := p } t b { g with ms := g.ms.set i { s with pr := u } } := ⟨l.dr, (by rw [map_same (s' := { s with pr := u }) hs rfl]; exact l.ups), (by rw [map_same (s' := { s with pr := u }) hs rfl]; exact l.has), (by rw [map_same (s' := { s with pr := u }) hs rfl]; exact l.cts), (by rw [List.map_set]; exact hp), (by rw [map_same (s' := { s with pr := u }) hs rfl]; exact l.pins), (by rw [map_same (s' := { s with pr := u }) hs rfl]; exact l.rts), (by obtain ⟨vs, e, q⟩ := l.sts; exact ⟨vs, e, by rw [map_same (s' := { s with pr := u }) hs rfl]; exact q⟩), (by obtain ⟨vs, e, q⟩ := l.sps; exact ⟨vs, e, by rw [map_same (s' := { s with pr := u }) hs rfl]; exact q⟩), l.el, l.e_ups, l.e_has, l.e_cts, hel, l.e_pins, l.e_rts, l.e_sts, l.e_sps, (by rw [List.length_set]; exact l.n5), (by rw [List.length_set]; exact l.n1), (fun s' h' => (List.mem_or_eq_of_mem_set h').elim (fun z => l.nn s' z) (fun z => by subst z; exact l.nn s (List.mem_of_getElem? hs))), l.dl⟩
theorem Lists.set_pins (l : Lists K H A t b g) {i : Nat} {s : MS} {p : Addr} {u : Int} (hs : g.ms[i]? = some s) (hp : H p = some (.lst ((g.ms.map fun s => V.int s.pin).set i (V.int u)))) (hel : A.el ≠ p) : Lists K H { A with pins := p } t b { g with ms := g.ms.set i { s with pin := u } } := ⟨l.dr, (by rw [map_same (s' := { s with pin := u }) hs rfl]; exact l.ups), (by rw [map_same (s' := { s with pin := u }) hs rfl]; exact l.has), (by rw [map_same (s' := { s with pin := u }) hs rfl]; exact l.cts), (by rw [map_same (s' := { s with pin := u }) hs rfl]; exact l.prs), (by rw [List.map_set]; exact hp), (by rw [map_same (s' := { s with pin := u }) hs rfl]; exact l.rts), (by obtain ⟨vs, e, q⟩ := l.sts; exact ⟨vs, e, by rw [map_same (s' := { s with pin := u }) hs rfl]; exact q⟩), (by obtain ⟨vs, e, q⟩ := l.sps; exact ⟨vs, e, by rw [map_same (s' := { s with pin := u }) hs rfl]; exact q⟩), l.el, l.e_ups, l.e_has, l.e_cts, l.e_prs, hel, l.e_rts, l.e_sts, l.e_sps, (by rw [List.length_set]; exact l.n5), (by rw [List.length_set]; exact l.n1), (fun s' h' => (List.mem_or_eq_of_mem_set h').elim (fun z => l.nn s' z) (fun z => by subst z; exact l.nn s (List.mem_of_getElem? hs))), l.dl⟩
theorem Lists.set_rts (l : Lists K H A t b g) {i : Nat} {s : MS} {p : Addr} {u : Option Int} (hs : g.ms[i]? = some s) (hp : H p = some (.lst ((g.ms.map fun s => oV s.rt).set i (oV u)))) (hel : A.el ≠ p) : Lists K H { A with rts := p } t b { g with ms := g.ms.set i { s with rt := u } } := ⟨l.dr, (by rw [map_same (s' := { s with rt := u }) hs rfl]; exact l.ups), (by rw [map_same (s' := { s with rt := u }) hs rfl]; exact l.has), (by rw [map_same (s' := { s with rt := u }) hs rfl]; exact l.cts), (by rw [map_same (s' := { s with rt := u }) hs rfl]; exact l.prs), (by rw [map_same (s' := { s with rt := u }) hs rfl]; exact l.pins), (by rw [List.map_set]; exact hp), (by obtain ⟨vs, e, q⟩ := l.sts; exact ⟨vs, e, by rw [map_same (s' := { s with rt := u }) hs rfl]; exact q⟩), (by obtain ⟨vs, e, q⟩ := l.sps; exact ⟨vs, e, by rw [map_same (s' := { s with rt := u }) hs rfl]; exact q⟩), l.el, l.e_ups, l.e_has, l.e_cts, l.e_prs, l.e_pins, hel, l.e_sts, l.e_sps, (by rw [List.length_set]; exact l.n5), (by rw [List.length_set]; exact l.n1), (fun s' h' => (List.mem_or_eq_of_mem_set h').elim (fun z => l.nn s' z) (fun z => by subst z; exact l.nn s (List.mem_of_getElem? hs))), l.dl⟩
theorem Lists.set_sts (l : Lists K H A t b g) {i : Nat} {s : MS} {p : Addr} {u : Option (Int × Int)} {vs : List V} (hs : g.ms[i]? = some s) (hp : H p = some (.lst vs)) (hq : SvL K H vs ((g.ms.map fun s => s.st).set i u)) (hel : A.el ≠ p) : Lists K H { A with sts := p } t b { g with ms := g.ms.set i { s with st := u } } := ⟨l.dr, (by rw [map_same (s' := { s with st := u }) hs rfl]; exact l.ups), (by rw [map_same (s' := { s with st := u }) hs rfl]; exact l.has), (by rw [map_same (s' := { s with st := u }) hs rfl]; exact l.cts), (by rw [map_same (s' := { s with st := u }) hs rfl]; exact l.prs), (by rw [map_same (s' := { s with st := u }) hs rfl]; exact l.pins), (by rw [map_same (s' := { s with st := u }) hs rfl]; exact l.rts), ⟨_, hp, by rw [List.map_set]; exact hq⟩, (by obtain ⟨vs, e, q⟩ := l.sps; exact ⟨vs, e, by rw [map_same (s' := { s with st := u }) hs rfl]; exact q⟩), l.el, l.e_ups, l.e_has, l.e_cts, l.e_prs, l.e_pins, l.e_rts, hel, l.e_sps, (by rw [List.length_set]; exact l.n5), (by rw [List.length_set]; exact l.n1), (fun s' h' => (List.mem_or_eq_of_mem_set h').elim (fun z => l.nn s' z) (fun z => by subst z; exact l.nn s (List.mem_of_getElem? hs))), l.dl⟩
theorem Lists.set_sps (l : Lists K H A t b g) {i : Nat} {s : MS} {p : Addr} {u : Option (Int × Int)} {vs : List V} (hs : g.ms[i]? = some s) (hp : H p = some (.lst vs)) (hq : SvL K H vs ((g.ms.map fun s => s.sp).set i u)) (hel : A.el ≠ p) : Lists K H { A with sps := p } t b { g with ms := g.ms.set i { s with sp := u } } := ⟨l.dr, (by rw [map_same (s' := { s with sp := u }) hs rfl]; exact l.ups), (by rw [map_same (s' := { s with sp := u }) hs rfl]; exact l.has), (by rw [map_same (s' := { s with sp := u }) hs rfl]; exact l.cts), (by rw [map_same (s' := { s with sp := u }) hs rfl]; exact l.prs), (by rw [map_same (s' := { s with sp := u }) hs rfl]; exact l.pins), (by rw [map_same (s' := { s with sp := u }) hs rfl]; exact l.rts), (by obtain ⟨vs, e, q⟩ := l.sts; exact ⟨vs, e, by rw [map_same (s' := { s with sp := u }) hs rfl]; exact q⟩), ⟨_, hp, by rw [List.map_set]; exact hq⟩, l.el, l.e_ups, l.e_has, l.e_cts, l.e_prs, l.e_pins, l.e_rts, l.e_sts, hel, (by rw [List.length_set]; exact l.n5), (by rw [List.length_set]; exact l.n1), (fun s' h' => (List.mem_or_eq_of_mem_set h').elim (fun z => l.nn s' z) (fun z => by subst z; exact l.nn s (List.mem_of_getElem? hs))), l.dl⟩
structure GroupAt (K : PySem.W.Frag) (CG : Addr) (H : Hp) (x : Addr) (A : GA) (t b : Int) (g : GS) : Prop where
  at_ : ∃ dx, H x = some (.ins CG dx (gf A g))
  ls : Lists K H A t b g
theorem GroupAt.same (h : GroupAt K CG H x A t b g) (k : Same H H') : GroupAt K CG H' x A t b g := by
  obtain ⟨⟨dx, e⟩, l⟩ := h
  exact ⟨⟨dx, k _ _ e⟩, l.same k⟩
/-- behind a step: all else that was tracked stands -/
structure Gx (K : PySem.W.Frag) (CG : Addr) (H : Hp) (x : Addr) (A : GA) (t b : Int) (H' : Hp) (A' : GA) (g' : GS) : Prop where
  ee : A'.el = A.el
  fr : Fr x H H'
  at_ : GroupAt K CG H' x A' t b g'
  ow : ∀ c, c ∈ A'.all → c ∈ A.all ∨ H c = none
theorem fr_free {o : HO} {c : Addr} (k : Fr x H H') (hx : H' x = some o) (n : H' c = none) : H c = none := by
  cases e : H c with
  | none => rfl
  | some u =>
    by_cases z : c = x
    · rw [z, hx] at n
      cases n
    · rw [k c u z e] at n
      cases n
theorem Gx.refl (h : GroupAt K CG H x A t b g) : Gx K CG H x A t b H A g := ⟨rfl, Fr.refl x H, h, fun _ z => .inl z⟩
theorem Gx.trans {H2 : Hp} {A1 A2 : GA} {g1 g2 : GS} (a : Gx K CG H x A t b H' A1 g1) (c : Gx K CG H' x A1 t b H2 A2 g2) : Gx K CG H x A t b H2 A2 g2 := ⟨c.ee.trans a.ee, a.fr.trans c.fr, c.at_, fun d z => by
  obtain ⟨dx, hx⟩ := a.at_.at_
  rcases c.ow d z with y | y
  · exact a.ow d y
  · exact .inr (fr_free a.fr hx y)⟩
theorem Gx.same {H2 : Hp} {A1 : GA} {g1 : GS} (a : Gx K CG H x A t b H' A1 g1) (k : Same H' H2) : Gx K CG H x A t b H2 A1 g1 := ⟨a.ee, a.fr.trans (fr_same k), a.at_.same k, a.ow⟩
theorem Gx.pre {H2 : Hp} {A1 : GA} {g1 : GS} (a : Gx K CG H' x A t b H2 A1 g1) (k : Same H H') : Gx K CG H x A t b H2 A1 g1 := ⟨a.ee, (fr_same k).trans a.fr, a.at_, fun c z => (a.ow c z).imp id fun y => k.free y⟩
theorem GroupAt.put_ups (h : GroupAt K CG H x A t b g) {dx : Addr} (hx : H x = some (.ins CG dx (gf A g))) {i : Nat} {s : MS} {p : Addr} {u : Bool} (hs : g.ms[i]? = some s) (np : H p = none) :
    ∃ A', Gx K CG H x A t b (upd (upd H p (.lst ((g.ms.map fun s => V.bl s.up).set i (V.bl u)))) x (.ins CG dx (putF "ups" (.ref p) (gf A g)))) A' { g with ms := g.ms.set i { s with up := u } } := by
  have l1 := h.ls.same (same_new (o := .lst ((g.ms.map fun s => V.bl s.up).set i (V.bl u))) (Same.refl H) np)
  obtain ⟨vs, hel, _⟩ := h.ls.el
  have l2 := l1.set_ups hs upd_same (ne_of_none hel np)
  have hx1 : (upd H p (.lst ((g.ms.map fun s => V.bl s.up).set i (V.bl u)))) x = some (.ins CG dx (gf A g)) := by rw [upd_ne (ne_of_none hx np)]; exact hx
  exact ⟨{ A with ups := p }, rfl, ((Fr.refl x H).new np).put, ⟨⟨dx, by rw [upd_same, gp_ups]; rfl⟩, l2.fr ((Fr.refl x _).put) hx1⟩, fun c z => by simp only [GA.all, List.mem_cons, List.not_mem_nil, or_false] at z ⊢; rcases z with z | z | z | z | z | z | z | z | z <;> first | (subst z; exact .inr np) | simp [z]⟩
theorem GroupAt.put_has (h : GroupAt K CG H x A t b g) {dx : Addr} (hx : H x = some (.ins CG dx (gf A g))) {i : Nat} {s : MS} {p : Addr} {u : Int} (hs : g.ms[i]? = some s) (np : H p = none) :
    ∃ A', Gx K CG H x A t b (upd (upd H p (.lst ((g.ms.map fun s => V.int s.has).set i (V.int u)))) x (.ins CG dx (putF "has" (.ref p) (gf A g)))) A' { g with ms := g.ms.set i { s with has := u } } := by
  have l1 := h.ls.same (same_new (o := .lst ((g.ms.map fun s => V.int s.has).set i (V.int u))) (Same.refl H) np)
  obtain ⟨vs, hel, _⟩ := h.ls.el
  have l2 := l1.set_has hs upd_same (ne_of_none hel np)
  have hx1 : (upd H p (.lst ((g.ms.map fun s => V.int s.has).set i (V.int u)))) x = some (.ins CG dx (gf A g)) := by rw [upd_ne (ne_of_none hx np)]; exact hx
  exact ⟨{ A with has := p }, rfl, ((Fr.refl x H).new np).put, ⟨⟨dx, by rw [upd_same, gp_has]; rfl⟩, l2.fr ((Fr.refl x _).put) hx1⟩, fun c z => by simp only [GA.all, List.mem_cons, List.not_mem_nil, or_false] at z ⊢; rcases z with z | z | z | z | z | z | z | z | z <;> first | (subst z; exact .inr np) | simp [z]⟩
theorem GroupAt.put_cts (h : GroupAt K CG H x A t b g) {dx : Addr} (hx : H x = some (.ins CG dx (gf A g))) {i : Nat} {s : MS} {p : Addr} {u : Int} (hs : g.ms[i]? = some s) (np : H p = none) (hu : 0 ≤ u) :
    ∃ A', Gx K CG H x A t b (upd (upd H p (.lst ((g.ms.map fun s => V.int s.n).set i (V.int u)))) x (.ins CG dx (putF "counts" (.ref p) (gf A g)))) A' { g with ms := g.ms.set i { s with n := u } } := by
  have l1 := h.ls.same (same_new (o := .lst ((g.ms.map fun s => V.int s.n).set i (V.int u))) (Same.refl H) np)
  obtain ⟨vs, hel, _⟩ := h.ls.el
  have l2 := l1.set_cts hs upd_same (ne_of_none hel np) hu
  have hx1 : (upd H p (.lst ((g.ms.map fun s => V.int s.n).set i (V.int u)))) x = some (.ins CG dx (gf A g)) := by rw [upd_ne (ne_of_none hx np)]; exact hx
  exact ⟨{ A with cts := p }, rfl, ((Fr.refl x H).new np).put, ⟨⟨dx, by rw [upd_same, gp_counts]; rfl⟩, l2.fr ((Fr.refl x _).put) hx1⟩, fun c z => by simp only [GA.all, List.mem_cons, List.not_mem_nil, or_false] at z ⊢; rcases z with z | z | z | z | z | z | z | z | z <;> first | (subst z; exact .inr np) | simp [z]⟩
theorem GroupAt.put_prs (h : GroupAt K CG H x A t b g) {dx : Addr} (hx : H x = some (.ins CG dx (gf A g))) {i : Nat} {s : MS} {p : Addr} {u : Option Int} (hs : g.ms[i]? = some s) (np : H p = none) :
    ∃ A', Gx K CG H x A t b (upd (upd H p (.lst ((g.ms.map fun s => oV s.pr).set i (oV u)))) x (.ins CG dx (putF "promises" (.ref p) (gf A g)))) A' { g with ms := g.ms.set i { s with pr := u } } := by
  have l1 := h.ls.same (same_new (o := .lst ((g.ms.map fun s => oV s.pr).set i (oV u))) (Same.refl H) np)
  obtain ⟨vs, hel, _⟩ := h.ls.el
  have l2 := l1.set_prs hs upd_same (ne_of_none hel np)
  have hx1 : (upd H p (.lst ((g.ms.map fun s => oV s.pr).set i (oV u)))) x = some (.ins CG dx (gf A g)) := by rw [upd_ne (ne_of_none hx np)]; exact hx
  exact ⟨{ A with prs := p }, rfl, ((Fr.refl x H).new np).put, ⟨⟨dx, by rw [upd_same, gp_promises]; rfl⟩, l2.fr ((Fr.refl x _).put) hx1⟩, fun c z => by simp only [GA.all, List.mem_cons, List.not_mem_nil, or_false] at z ⊢; rcases z with z | z | z | z | z | z | z | z | z <;> first | (subst z; exact .inr np) | simp [z]⟩
theorem GroupAt.put_pins (h : GroupAt K CG H x A t b g) {dx : Addr} (hx : H x = some (.ins CG dx (gf A g))) {i : Nat} {s : MS} {p : Addr} {u : Int} (hs : g.ms[i]? = some s) (np : H p = none) :
    ∃ A', Gx K CG H x A t b (upd (upd H p (.lst ((g.ms.map fun s => V.int s.pin).set i (V.int u)))) x (.ins CG dx (putF "promised_in" (.ref p) (gf A g)))) A' { g with ms := g.ms.set i { s with pin := u } } := by
  have l1 := h.ls.same (same_new (o := .lst ((g.ms.map fun s => V.int s.pin).set i (V.int u))) (Same.refl H) np)
  obtain ⟨vs, hel, _⟩ := h.ls.el
  have l2 := l1.set_pins hs upd_same (ne_of_none hel np)
  have hx1 : (upd H p (.lst ((g.ms.map fun s => V.int s.pin).set i (V.int u)))) x = some (.ins CG dx (gf A g)) := by rw [upd_ne (ne_of_none hx np)]; exact hx
  exact ⟨{ A with pins := p }, rfl, ((Fr.refl x H).new np).put, ⟨⟨dx, by rw [upd_same, gp_promised_in]; rfl⟩, l2.fr ((Fr.refl x _).put) hx1⟩, fun c z => by simp only [GA.all, List.mem_cons, List.not_mem_nil, or_false] at z ⊢; rcases z with z | z | z | z | z | z | z | z | z <;> first | (subst z; exact .inr np) | simp [z]⟩
theorem GroupAt.put_rts (h : GroupAt K CG H x A t b g) {dx : Addr} (hx : H x = some (.ins CG dx (gf A g))) {i : Nat} {s : MS} {p : Addr} {u : Option Int} (hs : g.ms[i]? = some s) (np : H p = none) :
    ∃ A', Gx K CG H x A t b (upd (upd H p (.lst ((g.ms.map fun s => oV s.rt).set i (oV u)))) x (.ins CG dx (putF "rules_till" (.ref p) (gf A g)))) A' { g with ms := g.ms.set i { s with rt := u } } := by
  have l1 := h.ls.same (same_new (o := .lst ((g.ms.map fun s => oV s.rt).set i (oV u))) (Same.refl H) np)
  obtain ⟨vs, hel, _⟩ := h.ls.el
  have l2 := l1.set_rts hs upd_same (ne_of_none hel np)
  have hx1 : (upd H p (.lst ((g.ms.map fun s => oV s.rt).set i (oV u)))) x = some (.ins CG dx (gf A g)) := by rw [upd_ne (ne_of_none hx np)]; exact hx
  exact ⟨{ A with rts := p }, rfl, ((Fr.refl x H).new np).put, ⟨⟨dx, by rw [upd_same, gp_rules_till]; rfl⟩, l2.fr ((Fr.refl x _).put) hx1⟩, fun c z => by simp only [GA.all, List.mem_cons, List.not_mem_nil, or_false] at z ⊢; rcases z with z | z | z | z | z | z | z | z | z <;> first | (subst z; exact .inr np) | simp [z]⟩
theorem GroupAt.put_sts (h : GroupAt K CG H x A t b g) {dx : Addr} (hx : H x = some (.ins CG dx (gf A g))) {i : Nat} {s : MS} {p : Addr} {u : Option (Int × Int)} {v : V} {vs : List V} (hs : g.ms[i]? = some s) (np : H p = none) (hv : SvAt K H v u) (hvs : SvL K H vs (g.ms.map fun s => s.st)) :
    ∃ A', Gx K CG H x A t b (upd (upd H p (.lst (vs.set i v))) x (.ins CG dx (putF "stands" (.ref p) (gf A g)))) A' { g with ms := g.ms.set i { s with st := u } } := by
  have k := same_new (o := .lst (vs.set i v)) (Same.refl H) np
  have l1 := h.ls.same k
  obtain ⟨es, hel, _⟩ := h.ls.el
  have l2 := l1.set_sts hs upd_same ((hvs.same k).set (svat_same hv k)) (ne_of_none hel np)
  have hx1 : (upd H p (.lst (vs.set i v))) x = some (.ins CG dx (gf A g)) := k _ _ hx
  exact ⟨{ A with sts := p }, rfl, ((Fr.refl x H).new np).put, ⟨⟨dx, by rw [upd_same, gp_stands]; rfl⟩, l2.fr ((Fr.refl x _).put) hx1⟩, fun c z => by simp only [GA.all, List.mem_cons, List.not_mem_nil, or_false] at z ⊢; rcases z with z | z | z | z | z | z | z | z | z <;> first | (subst z; exact .inr np) | simp [z]⟩
theorem GroupAt.put_sps (h : GroupAt K CG H x A t b g) {dx : Addr} (hx : H x = some (.ins CG dx (gf A g))) {i : Nat} {s : MS} {p : Addr} {u : Option (Int × Int)} {v : V} {vs : List V} (hs : g.ms[i]? = some s) (np : H p = none) (hv : SvAt K H v u) (hvs : SvL K H vs (g.ms.map fun s => s.sp)) :
    ∃ A', Gx K CG H x A t b (upd (upd H p (.lst (vs.set i v))) x (.ins CG dx (putF "spans" (.ref p) (gf A g)))) A' { g with ms := g.ms.set i { s with sp := u } } := by
  have k := same_new (o := .lst (vs.set i v)) (Same.refl H) np
  have l1 := h.ls.same k
  obtain ⟨es, hel, _⟩ := h.ls.el
  have l2 := l1.set_sps hs upd_same ((hvs.same k).set (svat_same hv k)) (ne_of_none hel np)
  have hx1 : (upd H p (.lst (vs.set i v))) x = some (.ins CG dx (gf A g)) := k _ _ hx
  exact ⟨{ A with sps := p }, rfl, ((Fr.refl x H).new np).put, ⟨⟨dx, by rw [upd_same, gp_spans]; rfl⟩, l2.fr ((Fr.refl x _).put) hx1⟩, fun c z => by simp only [GA.all, List.mem_cons, List.not_mem_nil, or_false] at z ⊢; rcases z with z | z | z | z | z | z | z | z | z <;> first | (subst z; exact .inr np) | simp [z]⟩
theorem GroupAt.put_rg (h : GroupAt K CG H x A t b g) {dx : Addr} (hx : H x = some (.ins CG dx (gf A g))) (n : Int) : Gx K CG H x A t b (upd H x (.ins CG dx (putF "reigns" (.int n) (gf A g)))) A { g with rg := n } := by
  have l2 := h.ls.fr ((Fr.refl x H).put (o := .ins CG dx (putF "reigns" (.int n) (gf A g)))) hx
  exact ⟨rfl, (Fr.refl x H).put, ⟨⟨dx, by rw [upd_same, gp_reigns]⟩, ⟨l2.dr, l2.ups, l2.has, l2.cts, l2.prs, l2.pins, l2.rts, l2.sts, l2.sps, l2.el, l2.e_ups, l2.e_has, l2.e_cts, l2.e_prs, l2.e_pins, l2.e_rts, l2.e_sts, l2.e_sps, l2.n5, l2.n1, l2.nn, l2.dl⟩⟩, fun _ z => .inl z⟩
theorem GroupAt.put_ch (h : GroupAt K CG H x A t b g) {dx : Addr} (hx : H x = some (.ins CG dx (gf A g))) (c : Option Int) : Gx K CG H x A t b (upd H x (.ins CG dx (putF "chosen" (oV c) (gf A g)))) A { g with ch := c } := by
  have l2 := h.ls.fr ((Fr.refl x H).put (o := .ins CG dx (putF "chosen" (oV c) (gf A g)))) hx
  exact ⟨rfl, (Fr.refl x H).put, ⟨⟨dx, by rw [upd_same, gp_chosen]⟩, ⟨l2.dr, l2.ups, l2.has, l2.cts, l2.prs, l2.pins, l2.rts, l2.sts, l2.sps, l2.el, l2.e_ups, l2.e_has, l2.e_cts, l2.e_prs, l2.e_pins, l2.e_rts, l2.e_sts, l2.e_sps, l2.n5, l2.n1, l2.nn, l2.dl⟩⟩, fun _ z => .inl z⟩
end

def spOf (t b : Int) (s : MS) : Option (Int × Int) := s.st.map fun z => (z.1 + leastP s.n t b, z.2 + mostP s.n t b)
def canP (s : MS) : Bool := s.up && (match s.sp with
  | none => false
  | some z => match s.pr with
    | none => true
    | some m => decide (m < z.1))
def mayR (s : MS) : Bool := match s.rt with
  | none => false
  | some m => match s.sp with
    | none => false
    | some z => decide (z.2 < m)
/-- who has rules_till has bounds; the chosen one is one of them -/
structure GOk (g : GS) : Prop where
  rt : ∀ (i : Nat) (s : MS), g.ms[i]? = some s → s.rt.isSome = true → s.sp.isSome = true
  ch : ∀ c, g.ch = some c → 0 ≤ c ∧ c < g.ms.length
def atG (f : MS → Bool) (g : GS) (i : Nat) : Bool := match g.ms[i]? with
  | none => false
  | some s => f s
def pickG (f : MS → Bool) (g : GS) : List Nat := (List.range g.ms.length).filter (atG f g)
def headOf (g : GS) : Option Int := match g.ch with
  | none => none
  | some c => if atG mayR g c.toNat = true then some c else none
def isWr (g : GS) (s : MS) : Bool := decide (s.has = (g.ds.length : Int)) && s.up
def nV (i : Nat) : V := .int (i : Int)
section
variable (K : PySem.W.Frag) (CG : Addr)
def spCA : Sp := fun vs H Q _ => ∃ (r : Addr) (xs : List V) (i : Nat) (v : V), vs = [.ref r, .int (i : Int), v] ∧ H r = some (.lst xs) ∧ i < xs.length ∧ ∀ p, H p = none → Q (.ref p) (upd H p (.lst (xs.set i v)))
def spRefuse : Sp := fun vs H Q _ => ∃ (x : Addr) (A : GA) (t b : Int) (g : GS) (i : Nat), vs = [.ref x, .int (i : Int)] ∧ GroupAt K CG H x A t b g ∧ i < g.ms.length ∧ Q .non H
/-- one copy's state is changed -/
def spSetM (f : MS → MS) : Sp := fun vs H Q _ => ∃ (x : Addr) (A : GA) (t b : Int) (g : GS) (i : Nat) (s : MS), vs = [.ref x, .int (i : Int)] ∧ GroupAt K CG H x A t b g ∧ g.ms[i]? = some s ∧ ∀ A' H', Gx K CG H x A t b H' A' { g with ms := g.ms.set i (f s) } → Q .non H'
def spTell : Sp := fun vs H Q _ => ∃ (x : Addr) (A : GA) (t b : Int) (g : GS) (i : Nat) (s : MS), vs = [.ref x, .int (i : Int)] ∧ GroupAt K CG H x A t b g ∧ g.ms[i]? = some s ∧ ∀ A' H', Gx K CG H x A t b H' A' { g with ms := g.ms.set i { s with sp := spOf t b s } } → Q .non H'
def MS.ticked (t b m : Int) (s : MS) : MS := { s with n := s.n + m, sp := spOf t b { s with n := s.n + m } }
def MS.setTo (t b : Int) (z : Int × Int) (s : MS) : MS := { s with st := some z, n := 0, sp := spOf t b { s with st := some z, n := 0 } }
def spTickC : Sp := fun vs H Q _ => ∃ (x : Addr) (A : GA) (t b m : Int) (g : GS) (i : Nat) (s : MS), vs = [.ref x, .int (i : Int), .int m] ∧ 0 ≤ m ∧ GroupAt K CG H x A t b g ∧ g.ms[i]? = some s ∧ ∀ A' H', Gx K CG H x A t b H' A' { g with ms := g.ms.set i (s.ticked t b m) } → Q .non H'
def spSetC : Sp := fun vs H Q _ => ∃ (x : Addr) (A : GA) (t b low high : Int) (g : GS) (i : Nat) (s : MS), vs = [.ref x, .int (i : Int), .int low, .int high] ∧ low ≤ high ∧ btwL low s.sp ≤ btwH high s.sp ∧ GroupAt K CG H x A t b g ∧ g.ms[i]? = some s ∧ ∀ A' H', Gx K CG H x A t b H' A' { g with ms := g.ms.set i (s.setTo t b (btwL low s.sp, btwH high s.sp)) } → Q .non H'
def spIsMost : Sp := fun vs H Q _ => ∃ (x : Addr) (A : GA) (t b : Int) (g : GS) (l : Addr) (xs : List V), vs = [.ref x, .ref l] ∧ GroupAt K CG H x A t b g ∧ H l = some (.lst xs) ∧ Q (.bl (decide (g.ms.length < 2 * xs.length))) H
def spTill : Sp := fun vs H Q _ => ∃ (x : Addr) (A : GA) (t b : Int) (g : GS) (i : Nat) (s : MS) (z : Int × Int), vs = [.ref x, .int (i : Int)] ∧ GroupAt K CG H x A t b g ∧ g.ms[i]? = some s ∧ s.sp = some z ∧ Q (.int (z.2 + g.le)) H
def spCan : Sp := fun vs H Q _ => ∃ (x : Addr) (A : GA) (t b : Int) (g : GS) (i : Nat) (s : MS), vs = [.ref x, .int (i : Int)] ∧ GroupAt K CG H x A t b g ∧ g.ms[i]? = some s ∧ Q (.bl (canP s)) H
def spRule : Sp := fun vs H Q _ => ∃ (x : Addr) (A : GA) (t b : Int) (g : GS) (i : Nat) (s : MS), vs = [.ref x, .int (i : Int)] ∧ GroupAt K CG H x A t b g ∧ g.ms[i]? = some s ∧ (s.rt.isSome = true → s.sp.isSome = true) ∧ Q (.bl (mayR s)) H
def spHeads : Sp := fun vs H Q _ => ∃ (x : Addr) (A : GA) (t b : Int) (g : GS), vs = [.ref x] ∧ GroupAt K CG H x A t b g ∧ GOk g ∧ ∀ p H', H p = none → Same H H' → H' p = some (.lst ((pickG mayR g).map nV)) → Q (.ref p) H'
def spHead : Sp := fun vs H Q _ => ∃ (x : Addr) (A : GA) (t b : Int) (g : GS), vs = [.ref x] ∧ GroupAt K CG H x A t b g ∧ GOk g ∧ Q (oV (headOf g)) H
def spWriters : Sp := fun vs H Q _ => ∃ (x : Addr) (A : GA) (t b : Int) (g : GS), vs = [.ref x] ∧ GroupAt K CG H x A t b g ∧ ∀ p H', H p = none → Same H H' → H' p = some (.lst ((pickG (isWr g) g).map nV)) → Q (.ref p) H'
def canW (g : GS) : Bool := (headOf g).isSome && decide (g.ms.length < 2 * (pickG (isWr g) g).length)
def spCanW : Sp := fun vs H Q _ => ∃ (x : Addr) (A : GA) (t b : Int) (g : GS), vs = [.ref x] ∧ GroupAt K CG H x A t b g ∧ GOk g ∧ ∀ H', Same H H' → Q (.bl (canW g)) H'
/-- all that promise -/
def promL (ms : List MS) (is : List Nat) (till rg : Int) : List MS := ms.mapIdx fun j s => if j ∈ is then { s with pr := some till, pin := rg } else s
def spProm : Sp := fun vs H Q _ => ∃ (x : Addr) (A : GA) (t b : Int) (g : GS) (l : Addr) (is : List Nat) (till : Int), vs = [.ref x, .ref l, .int till] ∧ GroupAt K CG H x A t b g ∧ H l = some (.lst (is.map nV)) ∧ (∀ i ∈ is, i < g.ms.length) ∧ ∀ A' H', Gx K CG H x A t b H' A' { g with ms := promL g.ms is till g.rg } → Q .non H'
def prO (g : GS) (i : Nat) : Option Int := (g.ms[i]?).bind fun s => s.pr
def prG (g : GS) (i : Nat) : Int := match g.ms[i]? with
  | none => -1
  | some s => s.pr.getD (-1)
def hasG (g : GS) (i : Nat) : Int := match g.ms[i]? with
  | none => 0
  | some s => s.has
def IsMax (f : Nat → Int) (is : List Nat) (m : Int) : Prop := (∃ i ∈ is, m = f i) ∧ ∀ i ∈ is, f i ≤ m
def spGreat : Sp := fun vs H Q _ => ∃ (x : Addr) (A : GA) (t b : Int) (g : GS) (l : Addr) (is : List Nat), vs = [.ref x, .ref l] ∧ GroupAt K CG H x A t b g ∧ H l = some (.lst (is.map nV)) ∧ (∀ i ∈ is, i < g.ms.length) ∧ is ≠ [] ∧ is.length ≤ 5 ∧ ∀ m H', IsMax (prG g) is m → Same H H' → Q (.int m) H'
def spNeed (NH : Addr) : Sp := fun vs H Q E => ∃ (x : Addr) (A : GA) (t b : Int) (g : GS), vs = [.ref x] ∧ GroupAt K CG H x A t b g ∧ GOk g ∧ (∀ c, headOf g = some c → Q (.int c) H) ∧ (headOf g = none → Out E NH "house" .non H)
def spCatch (NH : Addr) : Sp := fun vs H Q E => ∃ (x : Addr) (A : GA) (t b : Int) (g : GS) (i : Nat) (s : MS), vs = [.ref x, .int (i : Int)] ∧ GroupAt K CG H x A t b g ∧ GOk g ∧ g.ms[i]? = some s ∧
  (∀ c sh A' H', headOf g = some c → s.up = true → g.ms[c.toNat]? = some sh → Gx K CG H x A t b H' A' { g with ms := g.ms.set i { s with has := sh.has } } → Q .non H') ∧ (headOf g = none ∨ s.up = false → Out E NH "house" .non H)
def canC (g : GS) (i : Nat) : Bool := atG canP g i && decide (g.ms.length < 2 * (pickG canP g).length)
def choG (g : GS) (i : Nat) (s : MS) (mh till : Int) : GS := { g with rg := g.rg + 1, ch := some (i : Int), ms := promL (g.ms.set i { s with has := mh, rt := some till }) (pickG canP g) till (g.rg + 1) }
def spChoose (NH : Addr) : Sp := fun vs H Q E => ∃ (x : Addr) (A : GA) (t b : Int) (g : GS) (i : Nat) (s : MS), vs = [.ref x, .int (i : Int)] ∧ GroupAt K CG H x A t b g ∧ g.ms[i]? = some s ∧
  (canC g i = true → ∀ (fl mh : Int) (z : Int × Int) A' H', IsMax (prG g) (pickG canP g) fl → IsMax (hasG g) (pickG canP g) mh → s.sp = some z → Gx K CG H x A t b H' A' (choG g i s mh (z.2 + g.le)) → Q (.int fl) H') ∧ (canC g i = false → Out E NH "house" .non H)
def wroteG (g : GS) (d : PyData) : GS := { g with ms := g.ms.map fun s => if isWr g s = true then { s with has := s.has + 1 } else s, ds := g.ds ++ [d] }
def spLenC : Sp := fun vs H Q _ => ∃ (x : Addr) (A : GA) (t b : Int) (g : GS), vs = [.ref x] ∧ GroupAt K CG H x A t b g ∧ Q (.int (g.ms.length : Int)) H
end
theorem atG_of {f : MS → Bool} {g : GS} {i : Nat} {s : MS} (h : g.ms[i]? = some s) : atG f g i = f s := by
  unfold atG
  rw [h]
theorem getM {ms : List MS} {i : Nat} (h : i < ms.length) : ∃ s, ms[i]? = some s := ⟨_, List.getElem?_eq_getElem h⟩
theorem atI_map {ms : List MS} {i : Nat} {s : MS} (f : MS → V) (h : ms[i]? = some s) : atI (ms.map f) (i : Int) = some (f s) := atI_nat (by rw [List.getElem?_map, h]; rfl)
theorem range_take (n i : Nat) (p : Nat → Bool) (h : i < n) : ((List.range n).take (i + 1)).filter p = ((List.range n).take i).filter p ++ (if p i = true then [i] else []) := by
  rw [List.take_add_one, List.filter_append]
  have e : (List.range n)[i]? = some i := by simp [h]
  rw [e]
  show _ ++ List.filter p [i] = _
  cases h2 : p i with
  | true =>
    rw [List.filter_cons, if_pos h2]
    rfl
  | false =>
    rw [List.filter_cons, if_neg (by rw [h2]; decide)]
    rfl

theorem ok_changed_at {P : Program} {w : World} {K : PySem.W.Frag} {mg : Str → Option Value} {base : Heap} {a : Nat → Addr} {d : Nat → FuncData} (T : Txt K mg a d) : FnOk P w K mg base CX0 1 (a 11) (d 11) ["row", "at", "thing"] spCA := by
  refine T.F_changed_at.ok sc_changed_at (fun vs H Q E h => ?_) (fun cdv A outer s0 H vs Q E hr h => ?_)
  · obtain ⟨r, xs, i, v, rfl, hr', hi, q⟩ := h
    rfl
  · obtain ⟨r, xs, i, v, rfl, hr', hi, q⟩ := h
    refine ⟨_, (pss_cons (ps_set (i := 3) sc_changed_at.nd rfl (Or.inl rfl) (pe_callTy call_list_of (by rfl) T.z_list (by decide +kernel) (pa_cons (pv 0) pa_nil))) (pss_cons (ps_asg (pv 2) (pg_sub (pv 3) (pv 1) set_list)) (pss_one (ps_ret (pv 3))))), ?_⟩
    refine ⟨_, rfl, r, xs, rfl, .inl (SqL.of hr'), fun p np => ?_⟩
    refine ⟨_, rfl, _, rfl, _, rfl, p, xs, (i : Int), i, rfl, rfl, upd_same, ?_, ?_⟩
    · unfold ixN
      rw [if_pos (by omega), if_pos (by omega)]
      simp
    · rw [upd_twice]
      exact ⟨_, rfl, q p np⟩

theorem ok_Copies_refuse_no_copy {P : Program} {w : World} {K : PySem.W.Frag} {mg : Str → Option Value} {base : Heap} {a : Nat → Addr} {d : Nat → FuncData} (T : Txt K mg a d) : FnOk P w K mg base CX0 2 (a 12) (d 12) ["self", "copy"] (spRefuse K (a 61)) := by
  refine T.F_Copies_refuse_no_copy.ok sc_Copies_refuse_no_copy (fun vs H Q E h => ?_) (fun cdv A outer s0 H vs Q E hr h => ?_)
  · obtain ⟨x, A, t, b, g, i, rfl, hg, hi, q⟩ := h
    rfl
  · obtain ⟨x, A, t, b, g, i, rfl, hg, hi, q⟩ := h
    obtain ⟨dx, hx⟩ := hg.at_
    refine ⟨_, (pss_one (ps_if (pt_not (pt_truth (pe_call (ok_is_from_to T) (hr.mono (by decide)) (by rfl) T.g_is_from_to T.F_is_from_to.kp T.b_is_from_to .nil pass0 (pa_cons (pv 1) (pa_cons pe_int (pa_cons (pe_op op_sub (pe_callB call_len_seq (by rfl) T.z_len PySem.boot_len (pa_cons (pe_fld (pv 0) rfl) pa_nil)) pe_int) pa_nil)))) (by intro _; rfl))) (pss_one ps_never) pss_nil)), ?_⟩
    refine ⟨_, rfl, _, rfl, x, _, dx, _, _, rfl, hx, T.cl, T.n_ups, gf_ups _ _, A.ups, _, rfl, .inl (SqL.of hg.ls.ups), _, 1, rfl, rfl, (i : Int), 0, _, rfl, by omega, ?_, true, rfl, iteF q⟩
    rw [List.length_map]
    omega

theorem ok_Copies_back {P : Program} {w : World} {K : PySem.W.Frag} {mg : Str → Option Value} {base : Heap} {a : Nat → Addr} {d : Nat → FuncData} (T : Txt K mg a d) : FnOk P w K mg base CX0 3 (a 13) (d 13) ["self", "copy"] (spSetM K (a 61) fun s => { s with up := true }) := by
  refine T.F_Copies_back.ok sc_Copies_back (fun vs H Q E h => ?_) (fun cdv A outer s0 H vs Q E hr h => ?_)
  · obtain ⟨x, A, t, b, g, i, s, rfl, hg, hs, q⟩ := h
    rfl
  · obtain ⟨x, A, t, b, g, i, s, rfl, hg, hs, q⟩ := h
    obtain ⟨dx, hx⟩ := hg.at_
    have hi : i < g.ms.length := (List.getElem?_eq_some_iff.mp hs).1
    refine ⟨_, (pss_cons (ps_expr (pe_meth (pv 0) T.cl T.m_Copies_refuse_no_copy (ok_Copies_refuse_no_copy T) (hr.mono (by decide)) T.b_Copies_refuse_no_copy .nil pass0 (pa_cons (pv 1) pa_nil))) (pss_one (ps_fld (pv 0) (pe_call (ok_changed_at T) (hr.mono (by decide)) (by rfl) T.g_changed_at T.F_changed_at.kp T.b_changed_at .nil pass0 (pa_cons (pe_fld (pv 0) rfl) (pa_cons (pv 1) (pa_cons pe_bl pa_nil)))) rfl))), ?_⟩
    refine ⟨_, rfl, x, dx, _, rfl, hx, gf_no _ _ (by decide +kernel) (by decide +kernel) (by decide +kernel) (by decide +kernel) (by decide +kernel) (by decide +kernel) (by decide +kernel) (by decide +kernel) (by decide +kernel) (by decide +kernel) (by decide +kernel) (by decide +kernel) (by decide +kernel) (by decide +kernel) (by decide +kernel), _, rfl, x, A, t, b, g, i, rfl, hg, hi, ?_⟩
    refine ⟨_, rfl, x, _, dx, _, _, rfl, hx, T.cl, T.n_ups, gf_ups _ _, _, rfl, A.ups, _, i, .bl true, rfl, hg.ls.ups, (by rw [List.length_map]; exact hi), fun p1 np1 => ?_⟩
    refine ⟨_, rfl, x, _, dx, _, rfl, (by rw [upd_ne (ne_of_none hx np1)]; exact hx), T.cl, T.n_ups, gf_len _ _, ?_⟩
    have n1 := hg.put_ups (p := p1) (u := true) hx hs np1
    generalize (upd (upd H p1 (.lst ((g.ms.map fun s => V.bl s.up).set i (.bl true)))) x (.ins (a 61) dx (putF "ups" (.ref p1) (gf A g)))) = H1 at n1 ⊢
    obtain ⟨A1, n1⟩ := n1
    obtain ⟨dx1, hx1⟩ := n1.at_.at_
    exact q A1 H1 n1

theorem ok_Copies_stop {P : Program} {w : World} {K : PySem.W.Frag} {mg : Str → Option Value} {base : Heap} {a : Nat → Addr} {d : Nat → FuncData} (T : Txt K mg a d) : FnOk P w K mg base CX0 3 (a 14) (d 14) ["self", "copy"] (spSetM K (a 61) fun s => { s with up := false, rt := none }) := by
  refine T.F_Copies_stop.ok sc_Copies_stop (fun vs H Q E h => ?_) (fun cdv A outer s0 H vs Q E hr h => ?_)
  · obtain ⟨x, A, t, b, g, i, s, rfl, hg, hs, q⟩ := h
    rfl
  · obtain ⟨x, A, t, b, g, i, s, rfl, hg, hs, q⟩ := h
    obtain ⟨dx, hx⟩ := hg.at_
    have hi : i < g.ms.length := (List.getElem?_eq_some_iff.mp hs).1
    refine ⟨_, (pss_cons (ps_expr (pe_meth (pv 0) T.cl T.m_Copies_refuse_no_copy (ok_Copies_refuse_no_copy T) (hr.mono (by decide)) T.b_Copies_refuse_no_copy .nil pass0 (pa_cons (pv 1) pa_nil))) (pss_cons (ps_fld (pv 0) (pe_call (ok_changed_at T) (hr.mono (by decide)) (by rfl) T.g_changed_at T.F_changed_at.kp T.b_changed_at .nil pass0 (pa_cons (pe_fld (pv 0) rfl) (pa_cons (pv 1) (pa_cons pe_bl pa_nil)))) rfl) (pss_one (ps_fld (pv 0) (pe_call (ok_changed_at T) (hr.mono (by decide)) (by rfl) T.g_changed_at T.F_changed_at.kp T.b_changed_at .nil pass0 (pa_cons (pe_fld (pv 0) rfl) (pa_cons (pv 1) (pa_cons pe_non pa_nil)))) rfl)))), ?_⟩
    refine ⟨_, rfl, x, dx, _, rfl, hx, gf_no _ _ (by decide +kernel) (by decide +kernel) (by decide +kernel) (by decide +kernel) (by decide +kernel) (by decide +kernel) (by decide +kernel) (by decide +kernel) (by decide +kernel) (by decide +kernel) (by decide +kernel) (by decide +kernel) (by decide +kernel) (by decide +kernel) (by decide +kernel), _, rfl, x, A, t, b, g, i, rfl, hg, hi, ?_⟩
    refine ⟨_, rfl, x, _, dx, _, _, rfl, hx, T.cl, T.n_ups, gf_ups _ _, _, rfl, A.ups, _, i, .bl false, rfl, hg.ls.ups, (by rw [List.length_map]; exact hi), fun p1 np1 => ?_⟩
    refine ⟨_, rfl, x, _, dx, _, rfl, (by rw [upd_ne (ne_of_none hx np1)]; exact hx), T.cl, T.n_ups, gf_len _ _, ?_⟩
    have n1 := hg.put_ups (p := p1) (u := false) hx hs np1
    generalize (upd (upd H p1 (.lst ((g.ms.map fun s => V.bl s.up).set i (.bl false)))) x (.ins (a 61) dx (putF "ups" (.ref p1) (gf A g)))) = H1 at n1 ⊢
    obtain ⟨A1, n1⟩ := n1
    obtain ⟨dx1, hx1⟩ := n1.at_.at_
    have hs1 : ({ g with ms := g.ms.set i { s with up := false } } : GS).ms[i]? = some { s with up := false } := List.getElem?_set_self hi
    refine ⟨_, rfl, x, _, dx1, _, _, rfl, hx1, T.cl, T.n_rules_till, gf_rules_till _ _, _, rfl, A1.rts, _, i, .non, rfl, n1.at_.ls.rts, (by rw [List.length_map, List.length_set]; exact hi), fun p2 np2 => ?_⟩
    refine ⟨_, rfl, x, _, dx1, _, rfl, (by rw [upd_ne (ne_of_none hx1 np2)]; exact hx1), T.cl, T.n_rules_till, gf_len _ _, ?_⟩
    obtain ⟨A2, n2⟩ := n1.at_.put_rts (p := p2) (u := none) hx1 hs1 np2
    have z := n1.trans n2
    simp only [List.set_set] at z
    exact q A2 _ z

theorem ok_Copies_tell_bounds {P : Program} {w : World} {K : PySem.W.Frag} {mg : Str → Option Value} {base : Heap} {a : Nat → Addr} {d : Nat → FuncData} (T : Txt K mg a d) : FnOk P w K mg base CX0 3 (a 15) (d 15) ["self", "copy"] (spTell K (a 61)) := by
  refine T.F_Copies_tell_bounds.ok sc_Copies_tell_bounds (fun vs H Q E h => ?_) (fun cdv A outer s0 H vs Q E hr h => ?_)
  · obtain ⟨x, A, t, b, g, i, s, rfl, hg, hs, q⟩ := h
    rfl
  · obtain ⟨x, A, t, b, g, i, s, rfl, hg, hs, q⟩ := h
    obtain ⟨dx, hx⟩ := hg.at_
    have hi : i < g.ms.length := (List.getElem?_eq_some_iff.mp hs).1
    obtain ⟨vst, est, qst⟩ := hg.ls.sts
    obtain ⟨vsp, esp, qsp⟩ := hg.ls.sps
    obtain ⟨sv, e1, e2⟩ := qst.get (i := i) (s := s.st) (by rw [List.getElem?_map, hs]; rfl)
    refine ⟨_, (pss_cons (ps_set (i := 2) sc_Copies_tell_bounds.nd rfl (Or.inl rfl) (pe_call (ok_bounds_behind T) (hr.mono (by decide)) (by rfl) T.g_bounds_behind T.F_bounds_behind.kp T.b_bounds_behind .nil pass0 (pa_cons (pe_ix ix_list (pe_fld (pv 0) rfl) (pv 1) (fun _ _ => rfl)) (pa_cons (pe_ix ix_list (pe_fld (pv 0) rfl) (pv 1) (fun _ _ => rfl)) (pa_cons (pe_fld (pv 0) rfl) pa_nil))))) (pss_one (ps_fld (pv 0) (pe_call (ok_changed_at T) (hr.mono (by decide)) (by rfl) T.g_changed_at T.F_changed_at.kp T.b_changed_at .nil pass0 (pa_cons (pe_fld (pv 0) rfl) (pa_cons (pv 1) (pa_cons (pv 2) pa_nil)))) rfl))), ?_⟩
    refine ⟨_, rfl, x, _, dx, _, _, rfl, hx, T.cl, T.n_stands, gf_stands _ _, _, rfl, A.sts, _, (i : Int), _, rfl, rfl, SqL.of est, atI_nat e1, _, rfl, x, _, dx, _, _, rfl, hx, T.cl, T.n_counts, gf_counts _ _, _, rfl, A.cts, _, (i : Int), _, rfl, rfl, SqL.of hg.ls.cts, atI_map _ hs, _, rfl, x, _, dx, _, _, rfl, hx, T.cl, T.n_most_drift, gf_most_drift _ _, ?_⟩
    refine ⟨sv, s.st, s.n, A.dr, t, b, rfl, e2, hg.ls.nn s (List.mem_of_getElem? hs), hg.ls.dr, ?_⟩
    cases c : s.st with
    | none =>
      refine ⟨_, rfl, x, _, dx, _, _, rfl, hx, T.cl, T.n_spans, gf_spans _ _, _, rfl, _, rfl, A.sps, _, i, .non, rfl, esp, (by rw [qsp.len, List.length_map]; exact hi), fun p1 np1 => ?_⟩
      refine ⟨_, rfl, x, _, dx, _, rfl, (by rw [upd_ne (ne_of_none hx np1)]; exact hx), T.cl, T.n_spans, gf_len _ _, ?_⟩
      obtain ⟨A1, n1⟩ := hg.put_sps (p := p1) (u := none) (v := .non) hx hs np1 rfl qsp
      refine q A1 _ ?_
      have z : spOf t b s = none := by unfold spOf; rw [c]; rfl
      rw [z]
      exact n1
    | some z =>
      intro p0 np0
      have s0 : Same H (upd H p0 (.tup [.int (z.1 + leastP s.n t b), .int (z.2 + mostP s.n t b)])) := same_new (Same.refl H) np0
      have hv : SvAt K (upd H p0 (.tup [.int (z.1 + leastP s.n t b), .int (z.2 + mostP s.n t b)])) (.ref p0) (some (z.1 + leastP s.n t b, z.2 + mostP s.n t b)) := ⟨p0, rfl, SqT.of upd_same⟩
      generalize (upd H p0 (.tup [.int (z.1 + leastP s.n t b), .int (z.2 + mostP s.n t b)])) = H0 at s0 hv ⊢
      have hx0 := s0 _ _ hx
      refine ⟨_, rfl, x, _, dx, _, _, rfl, hx0, T.cl, T.n_spans, gf_spans _ _, _, rfl, _, rfl, A.sps, _, i, .ref p0, rfl, s0 _ _ esp, (by rw [qsp.len, List.length_map]; exact hi), fun p1 np1 => ?_⟩
      refine ⟨_, rfl, x, _, dx, _, rfl, (by rw [upd_ne (ne_of_none hx0 np1)]; exact hx0), T.cl, T.n_spans, gf_len _ _, ?_⟩
      obtain ⟨A1, n1⟩ := (hg.same s0).put_sps (p := p1) hx0 hs np1 hv (qsp.same s0)
      refine q A1 _ ?_
      have z : spOf t b s = some (z.1 + leastP s.n t b, z.2 + mostP s.n t b) := by unfold spOf; rw [c]; rfl
      rw [z]
      exact n1.pre s0

theorem ok_Copies_tick_clock {P : Program} {w : World} {K : PySem.W.Frag} {mg : Str → Option Value} {base : Heap} {a : Nat → Addr} {d : Nat → FuncData} (T : Txt K mg a d) : FnOk P w K mg base CX0 4 (a 16) (d 16) ["self", "copy", "many"] (spTickC K (a 61)) := by
  refine T.F_Copies_tick_clock.ok (CX := CX0) sc_Copies_tick_clock (fun vs H Q E h => ?_) (fun cdv A outer s0 H vs Q E hr h => ?_)
  · obtain ⟨x, A, t, b, m, g, i, s, rfl, m0, hg, hs, q⟩ := h
    rfl
  · obtain ⟨x, A, t, b, m, g, i, s, rfl, m0, hg, hs, q⟩ := h
    obtain ⟨dx, hx⟩ := hg.at_
    have hi : i < g.ms.length := (List.getElem?_eq_some_iff.mp hs).1
    refine ⟨_, PSs.nox (pss_cons (ps_expr (pe_meth (pv 0) T.cl T.m_Copies_refuse_no_copy (ok_Copies_refuse_no_copy T) (hr.mono (by decide)) T.b_Copies_refuse_no_copy .nil pass0 (pa_cons (pv 1) pa_nil))) (pss_cons (ps_expr (pe_call (ok_refuse_no_count T) (hr.mono (by decide)) (by rfl) T.g_refuse_no_count T.F_refuse_no_count.kp T.b_refuse_no_count .nil pass0 (pa_cons (pv 2) pa_nil))) (pss_cons (ps_fld (pv 0) (pe_call (ok_changed_at T) (hr.mono (by decide)) (by rfl) T.g_changed_at T.F_changed_at.kp T.b_changed_at .nil pass0 (pa_cons (pe_fld (pv 0) rfl) (pa_cons (pv 1) (pa_cons (pe_op op_add (pe_ix ix_list (pe_fld (pv 0) rfl) (pv 1) (fun _ _ => rfl)) (pv 2)) pa_nil)))) rfl) (pss_one (ps_expr (pe_meth (pv 0) T.cl T.m_Copies_tell_bounds (ok_Copies_tell_bounds T) (hr.mono (by decide)) T.b_Copies_tell_bounds .nil pass0 (pa_cons (pv 1) pa_nil))))))), ?_⟩
    refine ⟨_, rfl, x, dx, _, rfl, hx, gf_no _ _ (by decide +kernel) (by decide +kernel) (by decide +kernel) (by decide +kernel) (by decide +kernel) (by decide +kernel) (by decide +kernel) (by decide +kernel) (by decide +kernel) (by decide +kernel) (by decide +kernel) (by decide +kernel) (by decide +kernel) (by decide +kernel) (by decide +kernel), _, rfl, x, A, t, b, g, i, rfl, hg, hi, ?_⟩
    refine ⟨_, rfl, m, rfl, m0, ?_⟩
    refine ⟨_, rfl, x, _, dx, _, _, rfl, hx, T.cl, T.n_counts, gf_counts _ _, _, rfl, _, rfl, x, _, dx, _, _, rfl, hx, T.cl, T.n_counts, gf_counts _ _, _, rfl, A.cts, _, (i : Int), _, rfl, rfl, SqL.of hg.ls.cts, atI_map _ hs, _, rfl, s.n, m, rfl, rfl, A.cts, _, i, .int (s.n + m), rfl, hg.ls.cts, (by rw [List.length_map]; exact hi), fun p1 np1 => ?_⟩
    refine ⟨_, rfl, x, _, dx, _, rfl, (by rw [upd_ne (ne_of_none hx np1)]; exact hx), T.cl, T.n_counts, gf_len _ _, ?_⟩
    have sn := hg.ls.nn s (List.mem_of_getElem? hs)
    have n1 := hg.put_cts (p := p1) (u := s.n + m) hx hs np1 (by omega)
    generalize (upd (upd H p1 (.lst ((g.ms.map fun s => V.int s.n).set i (.int (s.n + m))))) x (.ins (a 61) dx (putF "counts" (.ref p1) (gf A g)))) = H1 at n1 ⊢
    obtain ⟨A1, n1⟩ := n1
    obtain ⟨dx1, hx1⟩ := n1.at_.at_
    have hs1 : ({ g with ms := g.ms.set i { s with n := s.n + m } } : GS).ms[i]? = some { s with n := s.n + m } := List.getElem?_set_self hi
    refine ⟨_, rfl, x, dx1, _, rfl, hx1, gf_no _ _ (by decide +kernel) (by decide +kernel) (by decide +kernel) (by decide +kernel) (by decide +kernel) (by decide +kernel) (by decide +kernel) (by decide +kernel) (by decide +kernel) (by decide +kernel) (by decide +kernel) (by decide +kernel) (by decide +kernel) (by decide +kernel) (by decide +kernel), _, rfl, x, A1, t, b, _, i, _, rfl, n1.at_, hs1, fun A2 H2 n2 => ?_⟩
    have z := n1.trans n2
    simp only [List.set_set] at z
    exact q A2 H2 z

theorem ok_Copies_is_most {P : Program} {w : World} {K : PySem.W.Frag} {mg : Str → Option Value} {base : Heap} {a : Nat → Addr} {d : Nat → FuncData} (T : Txt K mg a d) : FnOk P w K mg base CX0 1 (a 17) (d 17) ["self", "some"] (spIsMost K (a 61)) := by
  refine T.F_Copies_is_most.ok sc_Copies_is_most (fun vs H Q E h => ?_) (fun cdv A outer s0 H vs Q E hr h => ?_)
  · obtain ⟨x, A, t, b, g, l, xs, rfl, hg, hl, q⟩ := h
    rfl
  · obtain ⟨x, A, t, b, g, l, xs, rfl, hg, hl, q⟩ := h
    obtain ⟨dx, hx⟩ := hg.at_
    refine ⟨_, (pss_one (ps_ret (pe_cmpR op_gt (pe_op op_mul pe_int (pe_callB call_len_seq (by rfl) T.z_len PySem.boot_len (pa_cons (pv 1) pa_nil))) (pe_callB call_len_seq (by rfl) T.z_len PySem.boot_len (pa_cons (pe_fld (pv 0) rfl) pa_nil)) (nomark _)))), ?_⟩
    refine ⟨_, rfl, l, _, rfl, .inl (SqL.of hl), 2, _, rfl, rfl, .inl (m64 (by omega) (by omega)), _, rfl, x, _, dx, _, _, rfl, hx, T.cl, T.n_ups, gf_ups _ _, A.ups, _, rfl, .inl (SqL.of hg.ls.ups), _, _, rfl, rfl, ?_⟩
    rw [List.length_map]
    have e : decide ((g.ms.length : Int) < 2 * (xs.length : Int)) = decide (g.ms.length < 2 * xs.length) := decide_eq_decide.mpr (by omega)
    show Q (V.bl (decide ((g.ms.length : Int) < 2 * (xs.length : Int)))) H
    rw [e]
    exact q

theorem ok_Copies_till_of {P : Program} {w : World} {K : PySem.W.Frag} {mg : Str → Option Value} {base : Heap} {a : Nat → Addr} {d : Nat → FuncData} (T : Txt K mg a d) : FnOk P w K mg base CX0 1 (a 18) (d 18) ["self", "copy"] (spTill K (a 61)) := by
  refine T.F_Copies_till_of.ok sc_Copies_till_of (fun vs H Q E h => ?_) (fun cdv A outer s0 H vs Q E hr h => ?_)
  · obtain ⟨x, A, t, b, g, i, s, z, rfl, hg, hs, hz, q⟩ := h
    rfl
  · obtain ⟨x, A, t, b, g, i, s, z, rfl, hg, hs, hz, q⟩ := h
    obtain ⟨dx, hx⟩ := hg.at_
    have hi : i < g.ms.length := (List.getElem?_eq_some_iff.mp hs).1
    obtain ⟨vsp, esp, qsp⟩ := hg.ls.sps
    obtain ⟨sv, e1, e2⟩ := qsp.get (i := i) (s := s.sp) (by rw [List.getElem?_map, hs]; rfl)
    rw [hz] at e2
    obtain ⟨sp, rfl, hsp⟩ := e2
    refine ⟨_, (pss_one (ps_ret (pe_op op_add (pe_ix ix_tup (pe_ix ix_list (pe_fld (pv 0) rfl) (pv 1) (fun _ _ => rfl)) pe_int (fun _ _ => rfl)) (pe_fld (pv 0) rfl)))), ?_⟩
    refine ⟨_, rfl, x, _, dx, _, _, rfl, hx, T.cl, T.n_spans, gf_spans _ _, _, rfl, A.sps, _, (i : Int), _, rfl, rfl, SqL.of esp, atI_nat e1, sp, _, 1, _, rfl, rfl, hsp, rfl, _, rfl, x, _, dx, _, _, rfl, hx, T.cl, T.n_lease, gf_lease _ _, z.2, g.le, rfl, rfl, q⟩

theorem ok_Copies_can_promise {P : Program} {w : World} {K : PySem.W.Frag} {mg : Str → Option Value} {base : Heap} {a : Nat → Addr} {d : Nat → FuncData} (T : Txt K mg a d) : FnOk P w K mg base CX0 1 (a 19) (d 19) ["self", "copy"] (spCan K (a 61)) := by
  refine T.F_Copies_can_promise.ok sc_Copies_can_promise (fun vs H Q E h => ?_) (fun cdv A outer s0 H vs Q E hr h => ?_)
  · obtain ⟨x, A, t, b, g, i, s, rfl, hg, hs, q⟩ := h
    rfl
  · obtain ⟨x, A, t, b, g, i, s, rfl, hg, hs, q⟩ := h
    obtain ⟨dx, hx⟩ := hg.at_
    have hi : i < g.ms.length := (List.getElem?_eq_some_iff.mp hs).1
    obtain ⟨vsp, esp, qsp⟩ := hg.ls.sps
    obtain ⟨sv, e1, e2⟩ := qsp.get (i := i) (s := s.sp) (by rw [List.getElem?_map, hs]; rfl)
    refine ⟨_, (pss_cons (ps_if (PW.pt (pw_or (pt_not (pt_truth (pe_ix ix_list (pe_fld (pv 0) rfl) (pv 1) (fun _ _ => rfl)) (by intro _; rfl))) (pw_or1 (pt_cmpR op_isN (pe_ix ix_list (pe_fld (pv 0) rfl) (pv 1) (fun _ _ => rfl)) pe_non (nomark _))))) (pss_one (ps_ret pe_bl)) pss_nil) (pss_cons (ps_set (i := 2) sc_Copies_can_promise.nd rfl (Or.inl rfl) (pe_ix ix_list (pe_fld (pv 0) rfl) (pv 1) (fun _ _ => rfl))) (pss_one (ps_ret (pe_or (pe_cmpR op_isN (pv 2) pe_non (nomark _)) (pe_one (pe_cmpR op_gt (pe_ix ix_tup (pe_ix ix_list (pe_fld (pv 0) rfl) (pv 1) (fun _ _ => rfl)) pe_int (fun _ _ => rfl)) (pv 2) (nomark _)))))))), ?_⟩
    refine ⟨_, rfl, x, _, dx, _, _, rfl, hx, T.cl, T.n_ups, gf_ups _ _, _, rfl, A.ups, _, (i : Int), _, rfl, rfl, SqL.of hg.ls.ups, atI_map _ hs, s.up, rfl, ?_⟩
    unfold canP at q
    cases eu : s.up with
    | false =>
      rw [eu] at q
      exact iteT q
    | true =>
      rw [eu] at q
      refine iteF ⟨_, rfl, x, _, dx, _, _, rfl, hx, T.cl, T.n_spans, gf_spans _ _, _, rfl, A.sps, _, (i : Int), _, rfl, rfl, SqL.of esp, atI_nat e1, rfl, _, rfl, ?_⟩
      cases c : s.sp with
      | none =>
        rw [c] at q e2
        have e : sv = V.non := e2
        subst e
        exact iteDT rfl q
      | some z =>
        rw [c] at q e2
        obtain ⟨sp, rfl, hsp⟩ := e2
        refine iteDF (by intro y; cases y) ?_
        refine ⟨_, rfl, x, _, dx, _, _, rfl, hx, T.cl, T.n_promises, gf_promises _ _, _, rfl, A.prs, _, (i : Int), _, rfl, rfl, SqL.of hg.ls.prs, atI_map _ hs, ?_⟩
        cases cp : s.pr with
        | none =>
          rw [cp] at q
          exact ⟨_, rfl, rfl, _, rfl, iteDT rfl q⟩
        | some m =>
          rw [cp] at q
          refine ⟨_, rfl, rfl, _, rfl, iteDF (by intro y; cases y) ?_⟩
          exact ⟨_, rfl, x, _, dx, _, _, rfl, hx, T.cl, T.n_spans, gf_spans _ _, _, rfl, A.sps, _, (i : Int), _, rfl, rfl, SqL.of esp, atI_nat e1, sp, _, 0, _, rfl, rfl, hsp, rfl, _, rfl, z.1, m, rfl, rfl, q⟩

theorem ok_Copies_may_rule {P : Program} {w : World} {K : PySem.W.Frag} {mg : Str → Option Value} {base : Heap} {a : Nat → Addr} {d : Nat → FuncData} (T : Txt K mg a d) : FnOk P w K mg base CX0 1 (a 20) (d 20) ["self", "copy"] (spRule K (a 61)) := by
  refine T.F_Copies_may_rule.ok sc_Copies_may_rule (fun vs H Q E h => ?_) (fun cdv A outer s0 H vs Q E hr h => ?_)
  · obtain ⟨x, A, t, b, g, i, s, rfl, hg, hs, ok, q⟩ := h
    rfl
  · obtain ⟨x, A, t, b, g, i, s, rfl, hg, hs, ok, q⟩ := h
    obtain ⟨dx, hx⟩ := hg.at_
    have hi : i < g.ms.length := (List.getElem?_eq_some_iff.mp hs).1
    obtain ⟨vsp, esp, qsp⟩ := hg.ls.sps
    obtain ⟨sv, e1, e2⟩ := qsp.get (i := i) (s := s.sp) (by rw [List.getElem?_map, hs]; rfl)
    refine ⟨_, (pss_cons (ps_set (i := 2) sc_Copies_may_rule.nd rfl (Or.inl rfl) (pe_ix ix_list (pe_fld (pv 0) rfl) (pv 1) (fun _ _ => rfl))) (pss_one (ps_ret (pe_and (pe_cmpR op_notN (pv 2) pe_non (nomark _)) (pe_one (pe_cmpR op_lt (pe_ix ix_tup (pe_ix ix_list (pe_fld (pv 0) rfl) (pv 1) (fun _ _ => rfl)) pe_int (fun _ _ => rfl)) (pv 2) (nomark _))))))), ?_⟩
    refine ⟨_, rfl, x, _, dx, _, _, rfl, hx, T.cl, T.n_rules_till, gf_rules_till _ _, _, rfl, A.rts, _, (i : Int), _, rfl, rfl, SqL.of hg.ls.rts, atI_map _ hs, ?_⟩
    unfold mayR at q
    cases c : s.rt with
    | none =>
      rw [c] at q
      exact ⟨_, rfl, rfl, _, rfl, iteNDF rfl q⟩
    | some m =>
      rw [c] at q ok
      obtain ⟨z, hz⟩ := Option.isSome_iff_exists.mp (ok rfl)
      rw [hz] at q e2
      obtain ⟨sp, rfl, hsp⟩ := e2
      refine ⟨_, rfl, rfl, _, rfl, iteND (by intro y; cases y) ?_⟩
      exact ⟨_, rfl, x, _, dx, _, _, rfl, hx, T.cl, T.n_spans, gf_spans _ _, _, rfl, A.sps, _, (i : Int), _, rfl, rfl, SqL.of esp, atI_nat e1, sp, _, 1, _, rfl, rfl, hsp, rfl, _, rfl, z.2, m, rfl, rfl, q⟩

theorem ok_Copies___len__ {P : Program} {w : World} {K : PySem.W.Frag} {mg : Str → Option Value} {base : Heap} {a : Nat → Addr} {d : Nat → FuncData} (T : Txt K mg a d) : FnOk P w K mg base CX0 1 (a 21) (d 21) ["self"] (spLenC K (a 61)) := by
  refine T.F_Copies___len__.ok sc_Copies___len__ (fun vs H Q E h => ?_) (fun cdv A outer s0 H vs Q E hr h => ?_)
  · obtain ⟨x, A, t, b, g, rfl, hg, q⟩ := h
    rfl
  · obtain ⟨x, A, t, b, g, rfl, hg, q⟩ := h
    obtain ⟨dx, hx⟩ := hg.at_
    refine ⟨_, (pss_one (ps_ret (pe_callB call_len_seq (by rfl) T.z_len PySem.boot_len (pa_cons (pe_fld (pv 0) rfl) pa_nil)))), ?_⟩
    refine ⟨_, rfl, x, _, dx, _, _, rfl, hx, T.cl, T.n_ups, gf_ups _ _, A.ups, _, rfl, .inl (SqL.of hg.ls.ups), ?_⟩
    rw [List.length_map]
    exact q

theorem ok_Copies_set_clock {P : Program} {w : World} {K : PySem.W.Frag} {mg : Str → Option Value} {base : Heap} {a : Nat → Addr} {d : Nat → FuncData} (T : Txt K mg a d) : FnOk P w K mg base CX0 5 (a 22) (d 22) ["self", "copy", "low", "high"] (spSetC K (a 61)) := by
  refine T.F_Copies_set_clock.ok sc_Copies_set_clock (fun vs H Q E h => ?_) (fun cdv A outer s0 H vs Q E hr h => ?_)
  · obtain ⟨x, A, t, b, low, high, g, i, s, rfl, lh, le, hg, hs, q⟩ := h
    rfl
  · obtain ⟨x, A, t, b, low, high, g, i, s, rfl, lh, le, hg, hs, q⟩ := h
    obtain ⟨dx, hx⟩ := hg.at_
    have hi : i < g.ms.length := (List.getElem?_eq_some_iff.mp hs).1
    obtain ⟨vst, est, qst⟩ := hg.ls.sts
    obtain ⟨vsp, esp, qsp⟩ := hg.ls.sps
    obtain ⟨sv, e1, e2⟩ := qsp.get (i := i) (s := s.sp) (by rw [List.getElem?_map, hs]; rfl)
    refine ⟨_, (pss_cons (ps_expr (pe_meth (pv 0) T.cl T.m_Copies_refuse_no_copy (ok_Copies_refuse_no_copy T) (hr.mono (by decide)) T.b_Copies_refuse_no_copy .nil pass0 (pa_cons (pv 1) pa_nil))) (pss_cons (ps_fld (pv 0) (pe_call (ok_changed_at T) (hr.mono (by decide)) (by rfl) T.g_changed_at T.F_changed_at.kp T.b_changed_at .nil pass0 (pa_cons (pe_fld (pv 0) rfl) (pa_cons (pv 1) (pa_cons (pe_call (ok_set_between T) (hr.mono (by decide)) (by rfl) T.g_set_between T.F_set_between.kp T.b_set_between .nil pass0 (pa_cons (pe_ix ix_list (pe_fld (pv 0) rfl) (pv 1) (fun _ _ => rfl)) (pa_cons (pv 2) (pa_cons (pv 3) pa_nil)))) pa_nil)))) rfl) (pss_cons (ps_fld (pv 0) (pe_call (ok_changed_at T) (hr.mono (by decide)) (by rfl) T.g_changed_at T.F_changed_at.kp T.b_changed_at .nil pass0 (pa_cons (pe_fld (pv 0) rfl) (pa_cons (pv 1) (pa_cons pe_int pa_nil)))) rfl) (pss_one (ps_expr (pe_meth (pv 0) T.cl T.m_Copies_tell_bounds (ok_Copies_tell_bounds T) (hr.mono (by decide)) T.b_Copies_tell_bounds .nil pass0 (pa_cons (pv 1) pa_nil))))))), ?_⟩
    refine ⟨_, rfl, x, dx, _, rfl, hx, gf_no _ _ (by decide +kernel) (by decide +kernel) (by decide +kernel) (by decide +kernel) (by decide +kernel) (by decide +kernel) (by decide +kernel) (by decide +kernel) (by decide +kernel) (by decide +kernel) (by decide +kernel) (by decide +kernel) (by decide +kernel) (by decide +kernel) (by decide +kernel), _, rfl, x, A, t, b, g, i, rfl, hg, hi, ?_⟩
    refine ⟨_, rfl, x, _, dx, _, _, rfl, hx, T.cl, T.n_stands, gf_stands _ _, _, rfl, _, rfl, x, _, dx, _, _, rfl, hx, T.cl, T.n_spans, gf_spans _ _, _, rfl, A.sps, _, (i : Int), _, rfl, rfl, SqL.of esp, atI_nat e1, _, rfl, _, rfl, sv, s.sp, low, high, rfl, e2, lh, le, fun p0 np0 => ?_⟩
    have s0 : Same H (upd H p0 (.tup [.int (btwL low s.sp), .int (btwH high s.sp)])) := same_new (Same.refl H) np0
    have hv : SvAt K (upd H p0 (.tup [.int (btwL low s.sp), .int (btwH high s.sp)])) (.ref p0) (some (btwL low s.sp, btwH high s.sp)) := ⟨p0, rfl, SqT.of upd_same⟩
    generalize (upd H p0 (.tup [.int (btwL low s.sp), .int (btwH high s.sp)])) = H0 at s0 hv ⊢
    have hx0 := s0 _ _ hx
    refine ⟨A.sts, _, i, .ref p0, rfl, s0 _ _ est, (by rw [qst.len, List.length_map]; exact hi), fun p1 np1 => ?_⟩
    refine ⟨_, rfl, x, _, dx, _, rfl, (by rw [upd_ne (ne_of_none hx0 np1)]; exact hx0), T.cl, T.n_stands, gf_len _ _, ?_⟩
    have n1 := (hg.same s0).put_sts (p := p1) hx0 hs np1 hv (qst.same s0)
    generalize (upd (upd H0 p1 (.lst (vst.set i (.ref p0)))) x (.ins (a 61) dx (putF "stands" (.ref p1) (gf A g)))) = H1 at n1 ⊢
    obtain ⟨A1, n1⟩ := n1
    obtain ⟨dx1, hx1⟩ := n1.at_.at_
    have hs1 : ({ g with ms := g.ms.set i { s with st := some (btwL low s.sp, btwH high s.sp) } } : GS).ms[i]? = some { s with st := some (btwL low s.sp, btwH high s.sp) } := List.getElem?_set_self hi
    refine ⟨_, rfl, x, _, dx1, _, _, rfl, hx1, T.cl, T.n_counts, gf_counts _ _, _, rfl, A1.cts, _, i, .int 0, rfl, n1.at_.ls.cts, (by rw [List.length_map, List.length_set]; exact hi), fun p2 np2 => ?_⟩
    refine ⟨_, rfl, x, _, dx1, _, rfl, (by rw [upd_ne (ne_of_none hx1 np2)]; exact hx1), T.cl, T.n_counts, gf_len _ _, ?_⟩
    have n2 := n1.at_.put_cts (p := p2) (u := 0) hx1 hs1 np2 (Int.le_refl 0)
    generalize (upd (upd H1 p2 (.lst ((List.map (fun s => V.int s.n) ({ g with ms := g.ms.set i { s with st := some (btwL low s.sp, btwH high s.sp) } } : GS).ms).set i (.int 0)))) x (.ins (a 61) dx1 (putF "counts" (.ref p2) (gf A1 { g with ms := g.ms.set i { s with st := some (btwL low s.sp, btwH high s.sp) } })))) = H2 at n2 ⊢
    obtain ⟨A2, n2⟩ := n2
    obtain ⟨dx2, hx2⟩ := n2.at_.at_
    have n12 : Gx K (a 61) H x A t b H2 A2 { g with ms := g.ms.set i { s with st := some (btwL low s.sp, btwH high s.sp), n := 0 } } := by
      have z := (n1.pre s0).trans n2
      simp only [List.set_set] at z
      exact z
    have hs2 : ({ g with ms := g.ms.set i { s with st := some (btwL low s.sp, btwH high s.sp), n := 0 } } : GS).ms[i]? = some { s with st := some (btwL low s.sp, btwH high s.sp), n := 0 } := List.getElem?_set_self hi
    refine ⟨_, rfl, x, dx2, _, rfl, hx2, gf_no _ _ (by decide +kernel) (by decide +kernel) (by decide +kernel) (by decide +kernel) (by decide +kernel) (by decide +kernel) (by decide +kernel) (by decide +kernel) (by decide +kernel) (by decide +kernel) (by decide +kernel) (by decide +kernel) (by decide +kernel) (by decide +kernel) (by decide +kernel), _, rfl, x, A2, t, b, _, i, _, rfl, n12.at_, hs2, fun A3 H3 n3 => ?_⟩
    have z := n12.trans n3
    simp only [List.set_set] at z
    exact q A3 H3 z

theorem ok_Copies_heads {P : Program} {w : World} {K : PySem.W.Frag} {mg : Str → Option Value} {base : Heap} {a : Nat → Addr} {d : Nat → FuncData} (T : Txt K mg a d) : FnOk P w K mg base CX0 2 (a 23) (d 23) ["self"] (spHeads K (a 61)) := by
  refine T.F_Copies_heads.ok sc_Copies_heads (fun vs H Q E h => ?_) (fun cdv A outer s0 H vs Q E hr h => ?_)
  · obtain ⟨x, A, t, b, g, rfl, hg, ok, q⟩ := h
    rfl
  · obtain ⟨x, A, t, b, g, rfl, hg, ok, q⟩ := h
    obtain ⟨dx, hx⟩ := hg.at_
    refine ⟨_, (pss_one (ps_ret (pe_lc (own := [("copy", 1)]) (g := gName 1) (te := (tVar 1)) (tt := (tTru K (tMeth (a 61) "may_rule" (spRule K (a 61)) [] E0 (tVar 0) (tCons (tVar 1) tNil)))) (by rfl) sc_Copies_heads.nd (pi_range1 (by rfl) T.z_range (pa_cons (pe_callB call_len_seq (by rfl) T.z_len PySem.boot_len (pa_cons (pe_fld (pv 0) rfl) pa_nil)) pa_nil)) (blkOk_by (own := [("copy", 1)]) (N := ["self", "copy"]) (sc := defScope s_Copies_heads) (by decide +kernel)) (fun _ _ _ _ _ => (pg_name (i := 1) sc_Copies_heads.nd rfl (.inl rfl))) (fun _ _ _ _ _ => (pts_one (pt_truth (pe_meth (pv 0) T.cl T.m_Copies_may_rule (ok_Copies_may_rule T) (hr.mono (by decide)) T.b_Copies_may_rule .nil pass0 (pa_cons (pv 1) pa_nil)) (by intro _; rfl)))) (fun _ _ _ _ _ => (pv 1))))), ?_⟩
    refine ⟨_, rfl, x, _, dx, _, _, rfl, hx, T.cl, T.n_ups, gf_ups _ _, A.ups, _, rfl, .inl (SqL.of hg.ls.ups), g.ms.length, by rw [List.length_map], by have := hg.ls.n5; omega, by have := hg.ls.n5; omega, fun D nD => ?_⟩
    refine lc_range (lo := 0) (n := g.ms.length) (fun i H' => Same H H' ∧ H' D = some (.lst ((((List.range g.ms.length).take i).filter (atG mayR g)).map nV))) ⟨same_new (Same.refl H) nD, by rw [List.take_zero]; exact upd_same⟩ ?_ ?_
    · rintro i H1 hi ⟨s1, hD⟩
      obtain ⟨s, hs⟩ := getM hi
      have hx1 := s1 _ _ hx
      refine ⟨rfl, _, rfl, x, dx, _, rfl, hx1, gf_no _ _ (by decide +kernel) (by decide +kernel) (by decide +kernel) (by decide +kernel) (by decide +kernel) (by decide +kernel) (by decide +kernel) (by decide +kernel) (by decide +kernel) (by decide +kernel) (by decide +kernel) (by decide +kernel) (by decide +kernel) (by decide +kernel) (by decide +kernel), _, rfl, x, A, t, b, g, i, s, by rw [Int.zero_add]; rfl, hg.same s1, hs, ok.rt i s hs, _, rfl, ?_⟩
      have nxt := range_take g.ms.length i (atG mayR g) hi
      rw [atG_of hs] at nxt
      cases c : mayR s with
      | true =>
        refine iteT ⟨_, rfl, _, hD, ?_, fun b' u e => ?_, ?_⟩
        · rw [List.length_map]
          have := List.length_filter_le (atG mayR g) ((List.range g.ms.length).take i)
          have := List.length_take_le i (List.range g.ms.length)
          have := hg.ls.n5
          exact Nat.lt_of_lt_of_le (show _ < 100 by omega) (by decide)
        · rw [upd_ne (ne_of_none e nD)]
          exact s1 _ _ e
        · rw [upd_same, nxt, c, if_pos rfl, List.map_append, Int.zero_add]
          rfl
      | false =>
        refine iteF ⟨s1, ?_⟩
        rw [nxt, c, if_neg (by decide), List.append_nil]
        exact hD
    · rintro H1 ⟨s1, hD⟩
      have e : (List.range g.ms.length).take g.ms.length = List.range g.ms.length := by rw [List.take_of_length_le (by rw [List.length_range]; exact Nat.le_refl _)]
      rw [e] at hD
      exact q D H1 nD s1 hD

theorem ok_Copies_head {P : Program} {w : World} {K : PySem.W.Frag} {mg : Str → Option Value} {base : Heap} {a : Nat → Addr} {d : Nat → FuncData} (T : Txt K mg a d) : FnOk P w K mg base CX0 2 (a 24) (d 24) ["self"] (spHead K (a 61)) := by
  refine T.F_Copies_head.ok sc_Copies_head (fun vs H Q E h => ?_) (fun cdv A outer s0 H vs Q E hr h => ?_)
  · obtain ⟨x, A, t, b, g, rfl, hg, ok, q⟩ := h
    rfl
  · obtain ⟨x, A, t, b, g, rfl, hg, ok, q⟩ := h
    obtain ⟨dx, hx⟩ := hg.at_
    refine ⟨_, (pss_cons (ps_set (i := 1) sc_Copies_head.nd rfl (Or.inl rfl) (pe_fld (pv 0) rfl)) (pss_one (ps_ret (pe_ifExp (PW.pt (pw_and (pt_cmpR op_notN (pv 1) pe_non (nomark _)) (pw_and1 (pt_truth (pe_meth (pv 0) T.cl T.m_Copies_may_rule (ok_Copies_may_rule T) (hr.mono (by decide)) T.b_Copies_may_rule .nil pass0 (pa_cons (pv 1) pa_nil)) (by intro _; rfl))))) (pv 1) pe_non)))), ?_⟩
    refine ⟨_, rfl, x, _, dx, _, _, rfl, hx, T.cl, T.n_chosen, gf_chosen _ _, ?_⟩
    unfold headOf at q
    cases c : g.ch with
    | none =>
      rw [c] at q
      exact ⟨_, rfl, rfl, _, rfl, iteNDF rfl (iteF q)⟩
    | some k =>
      rw [c] at q
      obtain ⟨k0, k1⟩ := ok.ch k c
      obtain ⟨i, rfl⟩ := Int.eq_ofNat_of_zero_le k0
      obtain ⟨s, hs⟩ := getM (ms := g.ms) (i := i) (by omega)
      have q : Q (oV (if atG mayR g i = true then some (i : Int) else none)) H := q
      rw [atG_of hs] at q
      refine ⟨_, rfl, rfl, _, rfl, iteND (by intro y; cases y) ⟨_, rfl, x, dx, _, rfl, hx, gf_no _ _ (by decide +kernel) (by decide +kernel) (by decide +kernel) (by decide +kernel) (by decide +kernel) (by decide +kernel) (by decide +kernel) (by decide +kernel) (by decide +kernel) (by decide +kernel) (by decide +kernel) (by decide +kernel) (by decide +kernel) (by decide +kernel) (by decide +kernel), _, rfl, x, A, t, b, g, i, s, rfl, hg, hs, ok.rt i s hs, _, rfl, ?_⟩⟩
      cases e : mayR s with
      | true =>
        rw [e, if_pos rfl] at q
        exact iteT ⟨_, rfl, q⟩
      | false =>
        rw [e, if_neg (by decide)] at q
        exact iteF q


theorem Lists.setPP {K : PySem.W.Frag} {H : Hp} {A : GA} {t b : Int} {g : GS} (l : Lists K H A t b g) {p1 p2 : Addr} {is : List Nat} {till rg : Int} (h1 : H p1 = some (.lst ((promL g.ms is till rg).map fun s => oV s.pr))) (h2 : H p2 = some (.lst ((promL g.ms is till rg).map fun s => V.int s.pin))) (e1 : A.el ≠ p1) (e2 : A.el ≠ p2) :
    Lists K H { A with prs := p1, pins := p2 } t b { g with ms := promL g.ms is till rg } := by
  have pm : ∀ {α : Type} {f : MS → α}, (∀ s : MS, f { s with pr := some till, pin := rg } = f s) → (promL g.ms is till rg).map f = g.ms.map f := fun {α} {f} hf => by
    apply List.ext_getElem?
    intro j
    unfold promL
    rw [List.getElem?_map, List.getElem?_map, List.getElem?_mapIdx]
    cases g.ms[j]? with
    | none => rfl
    | some s =>
      show some (f (if j ∈ is then { s with pr := some till, pin := rg } else s)) = some (f s)
      by_cases c : j ∈ is
      · rw [if_pos c, hf]
      · rw [if_neg c]
  have ln : (promL g.ms is till rg).length = g.ms.length := by unfold promL; rw [List.length_mapIdx]
  refine ⟨l.dr, (by rw [pm fun _ => rfl]; exact l.ups), (by rw [pm fun _ => rfl]; exact l.has), (by rw [pm fun _ => rfl]; exact l.cts), h1, h2, (by rw [pm fun _ => rfl]; exact l.rts), (by obtain ⟨vs, e, q⟩ := l.sts; exact ⟨vs, e, by rw [pm fun _ => rfl]; exact q⟩), (by obtain ⟨vs, e, q⟩ := l.sps; exact ⟨vs, e, by rw [pm fun _ => rfl]; exact q⟩), l.el, l.e_ups, l.e_has, l.e_cts, e1, e2, l.e_rts, l.e_sts, l.e_sps, (by rw [ln]; exact l.n5), (by rw [ln]; exact l.n1), fun s hs => ?_, l.dl⟩
  obtain ⟨j, hj⟩ := List.getElem?_of_mem hs
  have hj : (promL g.ms is till rg)[j]? = some s := hj
  unfold promL at hj
  rw [List.getElem?_mapIdx] at hj
  cases c : g.ms[j]? with
  | none => rw [c] at hj; cases hj
  | some s0 =>
    rw [c] at hj
    have z := l.nn s0 (List.mem_of_getElem? c)
    have e : s = if j ∈ is then { s0 with pr := some till, pin := rg } else s0 := (Option.some.inj hj).symm
    rw [e]
    by_cases c2 : j ∈ is
    · rw [if_pos c2]; exact z
    · rw [if_neg c2]; exact z
theorem promL_nil (ms : List MS) (till rg : Int) : promL ms [] till rg = ms := by
  apply List.ext_getElem?
  intro j
  unfold promL
  rw [List.getElem?_mapIdx]
  cases ms[j]? <;> simp
theorem promL_len (ms : List MS) (is : List Nat) (till rg : Int) : (promL ms is till rg).length = ms.length := by unfold promL; rw [List.length_mapIdx]
theorem promL_step {ms : List MS} {is : List Nat} {till rg : Int} {i : Nat} {α : Type} (f : MS → α) (v : α) (hi : i < ms.length) (hf : ∀ s : MS, f { s with pr := some till, pin := rg } = v) : ((promL ms is till rg).map f).set i v = (promL ms (is ++ [i]) till rg).map f := by
  apply List.ext_getElem?
  intro j
  rw [List.getElem?_set, List.getElem?_map, List.getElem?_map]
  unfold promL
  rw [List.getElem?_mapIdx, List.getElem?_mapIdx, List.length_map, List.length_mapIdx]
  by_cases c : i = j
  · subst c
    rw [if_pos rfl, if_pos hi, List.getElem?_eq_getElem hi]
    show some v = some (f (if i ∈ is ++ [i] then _ else _))
    rw [if_pos (by simp), hf]
  · rw [if_neg c]
    cases ms[j]? with
    | none => rfl
    | some s =>
      show some (f (if j ∈ is then _ else _)) = some (f (if j ∈ is ++ [i] then _ else _))
      by_cases c2 : j ∈ is
      · rw [if_pos c2, if_pos (List.mem_append_left _ c2)]
      · rw [if_neg c2, if_neg (fun z => (List.mem_append.mp z).elim c2 fun y => c (List.mem_singleton.mp y).symm)]
theorem oV_ne {i : Int} : ¬ (oV (some i) = V.non) := by intro z; cases z
theorem is_len {g : GS} {f : MS → Bool} : (pickG f g).length ≤ g.ms.length := by
  unfold pickG
  have := List.length_filter_le (atG f g) (List.range g.ms.length)
  rw [List.length_range] at this
  exact this
theorem is_lt {g : GS} {f : MS → Bool} : ∀ i ∈ pickG f g, i < g.ms.length := fun i h => by
  unfold pickG at h
  exact List.mem_range.mp (List.mem_filter.mp h).1
theorem in_ints (d : Int) (ns : List Int) : inV (.int d) (ns.map V.int) = decide (d ∈ ns) := by
  unfold inV
  rw [List.any_map]
  by_cases c : d ∈ ns
  · rw [decide_eq_true c, List.any_eq_true]
    exact ⟨d, c, by simp [eqV]⟩
  · rw [decide_eq_false c, List.any_eq_false]
    intro x hx
    simp only [Function.comp, eqV, beq_iff_eq]
    intro e
    exact c (e ▸ hx)
theorem in_nats (d : Nat) (ns : List Nat) : inV (.int (d : Int)) (ns.map nV) = decide (d ∈ ns) := by
  have e : ns.map nV = (ns.map fun n : Nat => (n : Int)).map V.int := by rw [List.map_map]; rfl
  rw [e, in_ints]
  refine decide_eq_decide.mpr ⟨fun h => ?_, fun h => List.mem_map.mpr ⟨d, h, rfl⟩⟩
  obtain ⟨n, hn, en⟩ := List.mem_map.mp h
  have : n = d := by omega
  exact this ▸ hn
theorem nats_flat (ns : List Nat) : (ns.map nV).all flatV = true := by
  rw [List.all_eq_true]
  intro v hv
  obtain ⟨n, _, rfl⟩ := List.mem_map.mp hv
  rfl
theorem pick_mem {g : GS} {f : MS → Bool} {i : Nat} (hi : i < g.ms.length) : decide (i ∈ pickG f g) = atG f g i := by
  unfold pickG
  cases c : atG f g i with
  | true => exact decide_eq_true (List.mem_filter.mpr ⟨List.mem_range.mpr hi, c⟩)
  | false => exact decide_eq_false fun z => by rw [(List.mem_filter.mp z).2] at c; cases c

theorem ok_Copies_writers {P : Program} {w : World} {K : PySem.W.Frag} {mg : Str → Option Value} {base : Heap} {a : Nat → Addr} {d : Nat → FuncData} (T : Txt K mg a d) : FnOk P w K mg base CX0 1 (a 25) (d 25) ["self"] (spWriters K (a 61)) := by
  refine T.F_Copies_writers.ok sc_Copies_writers (fun vs H Q E h => ?_) (fun cdv A outer s0 H vs Q E hr h => ?_)
  · obtain ⟨x, A, t, b, g, rfl, hg, q⟩ := h
    rfl
  · obtain ⟨x, A, t, b, g, rfl, hg, q⟩ := h
    obtain ⟨dx, hx⟩ := hg.at_
    obtain ⟨vs, hel, hed⟩ := hg.ls.el
    refine ⟨_, (pss_cons (ps_set (i := 1) sc_Copies_writers.nd rfl (Or.inr rfl) (pe_callB call_len_seq (by rfl) T.z_len PySem.boot_len (pa_cons (pe_fld (pv 0) rfl) pa_nil))) (pss_one (ps_ret (pe_lc (own := [("copy", 2), ("has", 3)]) (g := (gTup K 2 (gCons (gName 2) (gCons (gName 3) gNil)))) (te := (tVar 2)) (tt := (tAnd (tTest (tOp rEq (tVar 3) (tVar 1))) (tTru K (tOp (rIxL K) (tFld K (tVar 0) "ups") (tVar 2))))) (by rfl) sc_Copies_writers.nd (pi_enum (by rfl) T.z_enumerate (pa_cons (pe_fld (pv 0) rfl) pa_nil)) (blkOk_by (own := [("copy", 2), ("has", 3)]) (N := ["self", "many", "copy", "has"]) (sc := defScope s_Copies_writers) (by decide +kernel)) (fun _ _ _ _ _ => (pg_tup (by rfl) (pgs_cons (pg_name (i := 2) sc_Copies_writers.nd rfl (.inl rfl)) (pgs_cons (pg_name (i := 3) sc_Copies_writers.nd rfl (.inl rfl)) pgs_nil)))) (fun _ _ _ _ _ => (pts_one (PW.pt (pw_and (pt_cmpR op_eq (pv 3) (pv 1) (nomark _)) (pw_and1 (pt_truth (pe_ix ix_list (pe_fld (pv 0) rfl) (pv 2) (fun _ _ => rfl)) (by intro _; rfl))))))) (fun _ _ _ _ _ => (pv 2)))))), ?_⟩
    refine ⟨_, rfl, x, _, dx, _, _, rfl, hx, T.cl, T.n_entries, gf_entries _ _, A.el, vs, rfl, .inl (SqL.of hel), ?_⟩
    refine ⟨_, rfl, x, _, dx, _, _, rfl, hx, T.cl, T.n_has, gf_has _ _, A.has, _, rfl, SqL.of hg.ls.has, fun D nD => ?_⟩
    refine lc_it (walk_enum (xs := g.ms.map fun s => V.int s.has)) (fun i H' => Same H H' ∧ H' D = some (.lst ((((List.range g.ms.length).take i).filter (atG (isWr g) g)).map nV))) ⟨same_new (Same.refl H) nD, by rw [List.take_zero]; exact upd_same⟩ (fun i H' _ z => SqL.of (z.1 _ _ hg.ls.has)) ?_ ?_
    · rintro i xv H1 H1' hi ⟨s1, hD⟩ ⟨Tp, x0, y0, rfl, nT, rfl, e1, e2⟩
      rw [List.length_map] at hi
      obtain ⟨s, hs⟩ := getM hi
      cases e1
      have e2 : (g.ms.map fun s => V.int s.has)[i]? = some y0 := e2
      rw [List.getElem?_map, hs] at e2
      cases e2
      have s2 : Same H (upd H1 Tp (.tup [.int (i : Int), .int s.has])) := s1.trans (same_new (Same.refl H1) nT)
      have hT : (upd H1 Tp (.tup [.int (i : Int), .int s.has])) Tp = some (.tup [.int (i : Int), .int s.has]) := upd_same
      have hD2 : (upd H1 Tp (.tup [.int (i : Int), .int s.has])) D = some (.lst ((((List.range g.ms.length).take i).filter (atG (isWr g) g)).map nV)) := by rw [upd_ne (ne_of_none hD nT)]; exact hD
      generalize (upd H1 Tp (.tup [.int (i : Int), .int s.has])) = H2 at s2 hT hD2 ⊢
      have hx2 := s2 _ _ hx
      have nxt := range_take g.ms.length i (atG (isWr g) g) hi
      rw [atG_of hs] at nxt
      have lv : (vs.length : Int) = (g.ds.length : Int) := by rw [dpall_len hed]
      refine ⟨Tp, _, rfl, SqT.of hT, rfl, _, _, rfl, _, _, rfl, rfl, rfl, _, rfl, _, rfl, rfl, _, rfl, ?_⟩
      by_cases c1 : s.has = (g.ds.length : Int)
      · refine iteDT (by rw [lv, c1]) ⟨_, rfl, x, _, dx, _, _, rfl, hx2, T.cl, T.n_ups, gf_ups _ _, _, rfl, A.ups, _, (i : Int), _, rfl, rfl, SqL.of (s2 _ _ hg.ls.ups), atI_map _ hs, s.up, rfl, ?_⟩
        have ew : isWr g s = s.up := by unfold isWr; rw [decide_eq_true c1]; rfl
        cases c2 : s.up with
        | true =>
          refine iteT ⟨_, rfl, _, hD2, ?_, fun b' u e => ?_, ?_⟩
          · rw [List.length_map]
            have := List.length_filter_le (atG (isWr g) g) ((List.range g.ms.length).take i)
            have := List.length_take_le i (List.range g.ms.length)
            have := hg.ls.n5
            exact Nat.lt_of_lt_of_le (show _ < 100 by omega) (by decide)
          · rw [upd_ne (ne_of_none e nD)]
            exact s2 _ _ e
          · rw [upd_same, nxt, ew, c2, if_pos rfl, List.map_append]
            rfl
        | false =>
          refine iteF ⟨s2, ?_⟩
          rw [nxt, ew, c2, if_neg (by decide), List.append_nil]
          exact hD2
      · refine iteDF (fun z => c1 (by have := V.int.inj z; omega)) (iteF ⟨s2, ?_⟩)
        have ew : isWr g s = false := by unfold isWr; rw [decide_eq_false c1]; rfl
        rw [nxt, ew, if_neg (by decide), List.append_nil]
        exact hD2
    · rintro H1 ⟨s1, hD⟩
      have e : (List.range g.ms.length).take (g.ms.map fun s => V.int s.has).length = List.range g.ms.length := by rw [List.length_map, List.take_of_length_le (by rw [List.length_range]; exact Nat.le_refl _)]
      rw [e] at hD
      exact q D H1 nD s1 hD

theorem ok_Copies_can_write {P : Program} {w : World} {K : PySem.W.Frag} {mg : Str → Option Value} {base : Heap} {a : Nat → Addr} {d : Nat → FuncData} (T : Txt K mg a d) : FnOk P w K mg base CX0 3 (a 26) (d 26) ["self"] (spCanW K (a 61)) := by
  refine T.F_Copies_can_write.ok sc_Copies_can_write (fun vs H Q E h => ?_) (fun cdv A outer s0 H vs Q E hr h => ?_)
  · obtain ⟨x, A, t, b, g, rfl, hg, ok, q⟩ := h
    rfl
  · obtain ⟨x, A, t, b, g, rfl, hg, ok, q⟩ := h
    obtain ⟨dx, hx⟩ := hg.at_
    refine ⟨_, (pss_one (ps_ret (pe_and (pe_cmpR op_notN (pe_meth0 (pv 0) T.cl T.m_Copies_head (ok_Copies_head T) (hr.mono (by decide)) T.b_Copies_head .nil pass0) pe_non (nomark _)) (pe_one (pe_meth (pv 0) T.cl T.m_Copies_is_most (ok_Copies_is_most T) (hr.mono (by decide)) T.b_Copies_is_most .nil pass0 (pa_cons (pe_meth0 (pv 0) T.cl T.m_Copies_writers (ok_Copies_writers T) (hr.mono (by decide)) T.b_Copies_writers .nil pass0) pa_nil)))))), ?_⟩
    refine ⟨_, rfl, x, dx, _, rfl, hx, gf_no _ _ (by decide +kernel) (by decide +kernel) (by decide +kernel) (by decide +kernel) (by decide +kernel) (by decide +kernel) (by decide +kernel) (by decide +kernel) (by decide +kernel) (by decide +kernel) (by decide +kernel) (by decide +kernel) (by decide +kernel) (by decide +kernel) (by decide +kernel), x, A, t, b, g, rfl, hg, ok, rfl, _, rfl, ?_⟩
    unfold canW at q
    cases eh : headOf g with
    | none =>
      rw [eh] at q
      exact iteNDF rfl (q H (Same.refl H))
    | some c =>
      rw [eh] at q
      refine iteND oV_ne ⟨_, rfl, x, dx, _, rfl, hx, gf_no _ _ (by decide +kernel) (by decide +kernel) (by decide +kernel) (by decide +kernel) (by decide +kernel) (by decide +kernel) (by decide +kernel) (by decide +kernel) (by decide +kernel) (by decide +kernel) (by decide +kernel) (by decide +kernel) (by decide +kernel) (by decide +kernel) (by decide +kernel), _, rfl, x, dx, _, rfl, hx, gf_no _ _ (by decide +kernel) (by decide +kernel) (by decide +kernel) (by decide +kernel) (by decide +kernel) (by decide +kernel) (by decide +kernel) (by decide +kernel) (by decide +kernel) (by decide +kernel) (by decide +kernel) (by decide +kernel) (by decide +kernel) (by decide +kernel) (by decide +kernel), x, A, t, b, g, rfl, hg, fun p H1 np s1 hp => ?_⟩
      refine ⟨x, A, t, b, g, p, _, rfl, hg.same s1, hp, ?_⟩
      rw [List.length_map]
      exact q H1 s1

theorem ok_Copies_need_head {P : Program} {w : World} {K : PySem.W.Frag} {mg : Str → Option Value} {base : Heap} {a : Nat → Addr} {d : Nat → FuncData} (T : Txt K mg a d) : FnOk P w K mg base (L2.CX P w) 4 (a 27) (d 27) ["self"] (spNeed K (a 61) (a 100)) := by
  refine T.F_Copies_need_head.okX sc_Copies_need_head (fun vs H Q E h => ?_) (fun cdv A outer s0 H vs Q E hr h => ?_)
  · obtain ⟨x, A, t, b, g, rfl, hg, ok, q, qx⟩ := h
    rfl
  · obtain ⟨x, A, t, b, g, rfl, hg, ok, q, qx⟩ := h
    obtain ⟨dx, hx⟩ := hg.at_
    refine ⟨_, (pss_cons (ps_set (i := 1) sc_Copies_need_head.nd rfl (Or.inl rfl) (pe_meth0 (pv 0) T.cl T.m_Copies_head (ok_Copies_head T) (hr.mono (by decide)) T.b_Copies_head .nil pass0)) (pss_cons (ps_if (pt_cmpR op_isN (pv 1) pe_non (nomark _)) (pss_one (ps_raise rfl (takes_of rfl rfl rfl rfl) (XB.pmk T.xo_NoHead T.ie_NoHead T.te_NoHead (ok_INoHead T T.xo_NoHead T.ne_NoHead_house) (hr.mono (by decide)) T.b_INoHead pass0 (by rfl) T.gE_NoHead (pa_cons pe_non pa_nil)))) pss_nil) (pss_one (ps_ret (pv 1))))), ?_⟩
    refine ⟨_, rfl, x, dx, _, rfl, hx, gf_no _ _ (by decide +kernel) (by decide +kernel) (by decide +kernel) (by decide +kernel) (by decide +kernel) (by decide +kernel) (by decide +kernel) (by decide +kernel) (by decide +kernel) (by decide +kernel) (by decide +kernel) (by decide +kernel) (by decide +kernel) (by decide +kernel) (by decide +kernel), x, A, t, b, g, rfl, hg, ok, ?_⟩
    cases eh : headOf g with
    | none =>
      refine ⟨_, rfl, rfl, _, rfl, iteDT rfl ?_⟩
      refine ⟨(by show 1 ≤ 1000; decide), fun y ny => ⟨y, _, rfl, upd_same, fun dx' H' ndx ne e1 e2 k => ?_⟩⟩
      have nd := ndx
      rw [upd_ne ne] at nd
      exact ⟨rfl, dx', _, e1, e2, nd, qx eh dx' _ (same_err3 ny nd k) upd_same⟩
    | some c => exact ⟨_, rfl, rfl, _, rfl, iteDF oV_ne ⟨_, rfl, q c eh⟩⟩

theorem ok_Copies_greatest_promise {P : Program} {w : World} {K : PySem.W.Frag} {mg : Str → Option Value} {base : Heap} {a : Nat → Addr} {d : Nat → FuncData} (T : Txt K mg a d) : FnOk P w K mg base CX0 1 (a 28) (d 28) ["self", "some"] (spGreat K (a 61)) := by
  refine T.F_Copies_greatest_promise.ok sc_Copies_greatest_promise (fun vs H Q E h => ?_) (fun cdv A outer s0 H vs Q E hr h => ?_)
  · obtain ⟨x, A, t, b, g, l, is, rfl, hg, hl, hlt, hne, h5, q⟩ := h
    rfl
  · obtain ⟨x, A, t, b, g, l, is, rfl, hg, hl, hlt, hne, h5, q⟩ := h
    obtain ⟨dx, hx⟩ := hg.at_
    refine ⟨_, (pss_cons (ps_setLc (i := 2) (own := [("copy", 3)]) (g := gName 3) (te := (tOp (rIxL K) (tFld K (tVar 0) "promises") (tVar 3))) (by rfl) sc_Copies_greatest_promise.nd rfl rfl (sw_true rfl rfl rfl (by decide +kernel)) (pi_list (pv 1)) (blkOk_by (own := [("copy", 3)]) (N := ["self", "some", "promises", "copy", "promised"]) (sc := defScope s_Copies_greatest_promise) (by decide +kernel)) (fun _ _ _ _ _ => (pg_name (i := 3) sc_Copies_greatest_promise.nd rfl (.inl rfl))) (fun _ _ _ _ _ => pts_nil) (fun _ _ _ _ _ => (pe_ix ix_list (pe_fld (pv 0) rfl) (pv 3) (fun _ _ => rfl)))) (pss_one (ps_ret (pe_callB (cr_max rfl) (by rfl) T.z_max (by decide +kernel) (pa_cons (pe_lc (own := [("promised", 4)]) (g := gName 4) (te := (tIf (tTest (tOp rIsN (tVar 4) (tC .non))) (tC (.int (-1))) (tVar 4))) (by rfl) sc_Copies_greatest_promise.nd (pi_list (pv 2)) (blkOk_by (own := [("promised", 4)]) (N := ["self", "some", "promises", "copy", "promised"]) (sc := defScope s_Copies_greatest_promise) (by decide +kernel)) (fun _ _ _ _ _ => (pg_name (i := 4) sc_Copies_greatest_promise.nd rfl (.inl rfl))) (fun _ _ _ _ _ => pts_nil) (fun _ _ _ _ _ => (pe_ifExp (pt_cmpR op_isN (pv 4) pe_non (nomark _)) (pe_glob (v := .int (-1)) (by rfl) (Exists.choose_spec T.g_NOTHING_PROMISED) ⟨_, rfl⟩) (pv 4)))) pa_nil))))), ?_⟩
    refine ⟨_, rfl, l, rfl, ⟨_, SqL.of hl⟩, fun D nD => ?_⟩
    have sz : ∀ i, (is.take i).length < sizeLine := fun i => Nat.lt_of_le_of_lt (Nat.le_trans (List.length_take_le' ..) h5) (by decide)
    refine lc_it (walk_list (xs := is.map nV)) (fun i H' => Same H H' ∧ H' D = some (.lst ((is.take i).map fun k => oV (prO g k)))) ⟨same_new (Same.refl H) nD, by rw [List.take_zero]; exact upd_same⟩ (fun i H' _ z => SqL.of (z.1 _ _ hl)) ?_ ?_
    · rintro i xv H1 H1' hi ⟨s1, hD⟩ ⟨rfl, e1⟩
      rw [List.getElem?_map] at e1
      obtain ⟨k, hk, rfl⟩ := Option.map_eq_some_iff.mp e1
      obtain ⟨s, hs⟩ := getM (hlt k (List.mem_of_getElem? hk))
      refine ⟨rfl, _, rfl, x, _, dx, _, _, rfl, s1 _ _ hx, T.cl, T.n_promises, gf_promises _ _, _, rfl, A.prs, _, (k : Int), _, rfl, rfl, SqL.of (s1 _ _ hg.ls.prs), atI_map _ hs, _, hD, (by rw [List.length_map]; exact sz i), fun b' u e => ?_, ?_⟩
      · rw [upd_ne (ne_of_none e nD)]
        exact s1 _ _ e
      · have e2 : prO g k = s.pr := by unfold prO; rw [hs]; rfl
        rw [upd_same, List.take_add_one, hk, List.map_append]
        show _ = some (HO.lst (_ ++ [oV (prO g k)]))
        rw [e2]
    · rintro H1 ⟨s1, hD⟩
      rw [List.length_map, List.take_length] at hD
      refine ⟨_, rfl, D, rfl, ⟨_, SqL.of hD⟩, fun D2 nD2 => ?_⟩
      refine lc_it (walk_list (xs := is.map fun k => oV (prO g k))) (fun i H' => Same H1 H' ∧ H' D2 = some (.lst ((is.take i).map fun k => V.int (prG g k)))) ⟨same_new (Same.refl H1) nD2, by rw [List.take_zero]; exact upd_same⟩ (fun i H' _ z => SqL.of (z.1 _ _ hD)) ?_ ?_
      · rintro i xv H2 H2' hi ⟨s2, hD2⟩ ⟨rfl, e1⟩
        rw [List.getElem?_map] at e1
        obtain ⟨k, hk, rfl⟩ := Option.map_eq_some_iff.mp e1
        have fin : ∀ v : Int, v = prG g k → ∃ acc, H2' D2 = some (.lst acc) ∧ acc.length < sizeLine ∧ Same H1 (upd H2' D2 (.lst (acc ++ [.int v]))) ∧ (upd H2' D2 (.lst (acc ++ [.int v]))) D2 = some (.lst ((is.take (i + 1)).map fun k => V.int (prG g k))) := fun v ev => by
          refine ⟨_, hD2, (by rw [List.length_map]; exact sz i), fun b' u e => ?_, ?_⟩
          · rw [upd_ne (ne_of_none e nD2)]
            exact s2 _ _ e
          · rw [upd_same, List.take_add_one, hk, List.map_append, ev]
            rfl
        have e3 : prG g k = (prO g k).getD (-1) := by
          unfold prG prO
          cases g.ms[k]? <;> rfl
        refine ⟨rfl, _, rfl, rfl, _, rfl, ?_⟩
        cases c : prO g k with
        | none => exact iteDT rfl (fin (-1) (by rw [e3, c]; rfl))
        | some m => exact iteDF oV_ne ⟨_, rfl, fin m (by rw [e3, c]; rfl)⟩
      · rintro H2 ⟨s2, hD2⟩
        rw [List.length_map, List.take_length] at hD2
        have e4 : (is.map fun k => V.int (prG g k)) = (is.map (prG g)).map V.int := by rw [List.map_map]; rfl
        rw [e4] at hD2
        refine ⟨D2, is.map (prG g), rfl, SqL.of hD2, (by rw [List.length_map]; exact List.length_pos_iff.mpr hne), fun m hm hmx => ?_⟩
        obtain ⟨k, hk, rfl⟩ := List.mem_map.mp hm
        exact q _ H2 ⟨⟨k, hk, rfl⟩, fun j hj => hmx _ (List.mem_map.mpr ⟨j, hj, rfl⟩)⟩ (s1.trans s2)

theorem ok_Copies_promise {P : Program} {w : World} {K : PySem.W.Frag} {mg : Str → Option Value} {base : Heap} {a : Nat → Addr} {d : Nat → FuncData} (T : Txt K mg a d) : FnOk P w K mg base CX0 1 (a 29) (d 29) ["self", "some", "till"] (spProm K (a 61)) := by
  refine T.F_Copies_promise.ok sc_Copies_promise (fun vs H Q E h => ?_) (fun cdv A outer s0 H vs Q E hr h => ?_)
  · obtain ⟨x, A, t, b, g, l, is, till, rfl, hg, hl, hlt, q⟩ := h
    rfl
  · obtain ⟨x, A, t, b, g, l, is, till, rfl, hg, hl, hlt, q⟩ := h
    obtain ⟨dx, hx⟩ := hg.at_
    obtain ⟨vse, hel, _⟩ := hg.ls.el
    refine ⟨_, (pss_cons (ps_fld (pv 0) (pe_callTy call_list_of (by rfl) T.z_list (by decide +kernel) (pa_cons (pe_fld (pv 0) rfl) pa_nil)) rfl) (pss_cons (ps_fld (pv 0) (pe_callTy call_list_of (by rfl) T.z_list (by decide +kernel) (pa_cons (pe_fld (pv 0) rfl) pa_nil)) rfl) (pss_one (ps_for PassesOwn.never rfl (pi_list (pv 1)) (pg_name (i := 3) sc_Copies_promise.nd rfl (.inl rfl)) (pss_cons (ps_asg (pv 2) (pg_sub (pe_fld (pv 0) rfl) (pv 3) set_list)) (pss_one (ps_asg (pe_fld (pv 0) rfl) (pg_sub (pe_fld (pv 0) rfl) (pv 3) set_list)))))))), ?_⟩
    refine ⟨_, rfl, x, _, dx, _, _, rfl, hx, T.cl, T.n_promises, gf_promises _ _, A.prs, _, rfl, .inl (SqL.of hg.ls.prs), fun p1 np1 => ?_⟩
    refine ⟨_, rfl, x, _, dx, _, rfl, (by rw [upd_ne (ne_of_none hx np1)]; exact hx), T.cl, T.n_promises, gf_len _ _, ?_⟩
    rw [gp_promises]
    have f1 : Fr x H (upd (upd H p1 (.lst (g.ms.map fun s => oV s.pr))) x (.ins (a 61) dx (gf { A with prs := p1 } g))) := ((Fr.refl x H).new np1).put
    have hx1 : (upd (upd H p1 (.lst (g.ms.map fun s => oV s.pr))) x (.ins (a 61) dx (gf { A with prs := p1 } g))) x = some (.ins (a 61) dx (gf { A with prs := p1 } g)) := upd_same
    have xp1 : x ≠ p1 := ne_of_none hx np1
    have hp1 : (upd (upd H p1 (.lst (g.ms.map fun s => oV s.pr))) x (.ins (a 61) dx (gf { A with prs := p1 } g))) p1 = some (.lst (g.ms.map fun s => oV s.pr)) := by rw [upd_ne xp1.symm]; exact upd_same
    generalize (upd (upd H p1 (.lst (g.ms.map fun s => oV s.pr))) x (.ins (a 61) dx (gf { A with prs := p1 } g))) = H1 at f1 hx1 hp1 ⊢
    have l1 := hg.ls.fr f1 hx
    refine ⟨_, rfl, x, _, dx, _, _, rfl, hx1, T.cl, T.n_promised_in, gf_promised_in _ _, A.pins, _, rfl, .inl (SqL.of l1.pins), fun p2 np2 => ?_⟩
    refine ⟨_, rfl, x, _, dx, _, rfl, (by rw [upd_ne (ne_of_none hx1 np2)]; exact hx1), T.cl, T.n_promised_in, gf_len _ _, ?_⟩
    rw [gp_promised_in]
    have p12 : p1 ≠ p2 := ne_of_none hp1 np2
    have xp2 : x ≠ p2 := ne_of_none hx1 np2
    have f2 : Fr x H (upd (upd H1 p2 (.lst (g.ms.map fun s => V.int s.pin))) x (.ins (a 61) dx (gf { A with prs := p1, pins := p2 } g))) := f1.trans ((Fr.refl x H1).new np2).put
    have hx2 : (upd (upd H1 p2 (.lst (g.ms.map fun s => V.int s.pin))) x (.ins (a 61) dx (gf { A with prs := p1, pins := p2 } g))) x = some (.ins (a 61) dx (gf { A with prs := p1, pins := p2 } g)) := upd_same
    have hp12 : (upd (upd H1 p2 (.lst (g.ms.map fun s => V.int s.pin))) x (.ins (a 61) dx (gf { A with prs := p1, pins := p2 } g))) p1 = some (.lst (g.ms.map fun s => oV s.pr)) := by rw [upd_ne xp1.symm, upd_ne p12]; exact hp1
    have hp22 : (upd (upd H1 p2 (.lst (g.ms.map fun s => V.int s.pin))) x (.ins (a 61) dx (gf { A with prs := p1, pins := p2 } g))) p2 = some (.lst (g.ms.map fun s => V.int s.pin)) := by rw [upd_ne xp2.symm]; exact upd_same
    have n2 : H p2 = none := by
      cases e : H p2 with
      | none => rfl
      | some o =>
        have y := f1 _ _ xp2.symm e
        rw [np2] at y
        cases y
    generalize (upd (upd H1 p2 (.lst (g.ms.map fun s => V.int s.pin))) x (.ins (a 61) dx (gf { A with prs := p1, pins := p2 } g))) = H2 at f2 hx2 hp12 hp22 ⊢
    have lx : l ≠ x := ne_of hl hx (by intro z; cases z)
    have lp1 : l ≠ p1 := ne_of_none hl np1
    have lp2 : l ≠ p2 := ne_of_none hl n2
    have e0 := promL_nil g.ms till g.rg
    refine ⟨_, rfl, l, rfl, ⟨_, SqL.of (f2 _ _ lx hl)⟩, ?_⟩
    refine for_list (K := K) (a := l) (xs := is.map nV) (fun j σ H' => (∃ v : Option V, σ = [some (.ref x), some (.ref l), some (.int till), v]) ∧ Fr x H H' ∧ H' x = some (.ins (a 61) dx (gf { A with prs := p1, pins := p2 } g)) ∧ H' p1 = some (.lst ((promL g.ms (is.take j) till g.rg).map fun s => oV s.pr)) ∧ H' p2 = some (.lst ((promL g.ms (is.take j) till g.rg).map fun s => V.int s.pin)))
      ⟨⟨none, rfl⟩, f2, hx2, (by rw [List.take_zero, e0]; exact hp12), (by rw [List.take_zero, e0]; exact hp22)⟩ (fun j σ H' _ z => SqL.of (z.2.1 _ _ lx hl)) ?_ ?_
    · rintro j kv σ H3 hj ⟨⟨v, rfl⟩, f3, hx3, h31, h32⟩
      rw [List.getElem?_map] at hj
      obtain ⟨k, hk, rfl⟩ := Option.map_eq_some_iff.mp hj
      have kl := hlt k (List.mem_of_getElem? hk)
      have tk : is.take (j + 1) = is.take j ++ [k] := by rw [List.take_add_one, hk]; rfl
      have ix : ∀ n : Nat, k < n → ixN n (k : Int) = some k := fun n h => by
        unfold ixN
        rw [if_pos (by omega), if_pos (by omega)]
        simp
      show ∃ v, _
      refine ⟨_, rfl, _, rfl, x, _, dx, _, _, rfl, hx3, T.cl, T.n_promises, gf_promises _ _, _, rfl, p1, _, (k : Int), k, rfl, rfl, h31, ix _ (by rw [List.length_map, promL_len]; exact kl), ?_⟩
      have s1 := promL_step (is := is.take j) (rg := g.rg) (fun s => oV s.pr) (.int till) kl (fun _ => rfl)
      have s2 := promL_step (is := is.take j) (till := till) (fun s => V.int s.pin) (.int g.rg) kl (fun _ => rfl)
      rw [s1]
      have hx4 : (upd H3 p1 (.lst ((promL g.ms (is.take j ++ [k]) till g.rg).map fun s => oV s.pr))) x = some (.ins (a 61) dx (gf { A with prs := p1, pins := p2 } g)) := by rw [upd_ne xp1]; exact hx3
      refine ⟨_, rfl, x, _, dx, _, _, rfl, hx4, T.cl, T.n_reigns, gf_reigns _ _, _, rfl, x, _, dx, _, _, rfl, hx4, T.cl, T.n_promised_in, gf_promised_in _ _, _, rfl, p2, _, (k : Int), k, rfl, rfl, (by rw [upd_ne p12.symm]; exact h32), ix _ (by rw [List.length_map, promL_len]; exact kl), ?_⟩
      rw [s2, tk]
      refine ⟨⟨_, rfl⟩, fun b' o nb e => ?_, (by rw [upd_ne xp2]; exact hx4), (by rw [upd_ne p12]; exact upd_same), upd_same⟩
      rw [upd_ne (ne_of_none e n2), upd_ne (ne_of_none e np1)]
      exact f3 _ _ nb e
    · rintro σ H3 ⟨⟨v, rfl⟩, f3, hx3, h31, h32⟩
      rw [List.length_map, List.take_length] at h31 h32
      refine q { A with prs := p1, pins := p2 } H3 ⟨rfl, f3, ⟨⟨dx, hx3⟩, (hg.ls.fr f3 hx).setPP h31 h32 (ne_of_none hel np1) (ne_of_none hel n2)⟩, fun c z => by simp only [GA.all, List.mem_cons, List.not_mem_nil, or_false] at z ⊢; rcases z with z | z | z | z | z | z | z | z | z <;> first | (subst z; exact .inr np1) | (subst z; exact .inr n2) | simp [z]⟩

theorem ok_Copies_choose {P : Program} {w : World} {K : PySem.W.Frag} {mg : Str → Option Value} {base : Heap} {a : Nat → Addr} {d : Nat → FuncData} (T : Txt K mg a d) : FnOk P w K mg base (L2.CX P w) 4 (a 30) (d 30) ["self", "copy"] (spChoose K (a 61) (a 100)) := by
  refine T.F_Copies_choose.okX sc_Copies_choose (fun vs H Q E h => ?_) (fun cdv A outer s0 H vs Q E hr h => ?_)
  · obtain ⟨x, A, t, b, g, i, s, rfl, hg, hs, q, qx⟩ := h
    rfl
  · obtain ⟨x, A, t, b, g, i, s, rfl, hg, hs, q, qx⟩ := h
    obtain ⟨dx, hx⟩ := hg.at_
    have hi : i < g.ms.length := (List.getElem?_eq_some_iff.mp hs).1
    refine ⟨_, (pss_cons (ps_expr (pe_meth (pv 0) T.cl T.m_Copies_refuse_no_copy (ok_Copies_refuse_no_copy T) (hr.mono (by decide)) T.b_Copies_refuse_no_copy .nil pass0 (pa_cons (pv 1) pa_nil))) (pss_cons (ps_setLc (i := 2) (own := [("other", 5)]) (g := gName 5) (te := (tVar 5)) (tt := (tTru K (tMeth (a 61) "can_promise" (spCan K (a 61)) [] E0 (tVar 0) (tCons (tVar 5) tNil)))) (by rfl) sc_Copies_choose.nd rfl rfl (sw_true rfl rfl rfl (by decide +kernel)) (pi_range1 (by rfl) T.z_range (pa_cons (pe_callB call_len_seq (by rfl) T.z_len PySem.boot_len (pa_cons (pe_fld (pv 0) rfl) pa_nil)) pa_nil)) (blkOk_by (own := [("other", 5)]) (N := ["self", "copy", "some", "floor", "till", "other"]) (sc := defScope s_Copies_choose) (by decide +kernel)) (fun _ _ _ _ _ => (pg_name (i := 5) sc_Copies_choose.nd rfl (.inl rfl))) (fun _ _ _ _ _ => (pts_one (pt_truth (pe_meth (pv 0) T.cl T.m_Copies_can_promise (ok_Copies_can_promise T) (hr.mono (by decide)) T.b_Copies_can_promise .nil pass0 (pa_cons (pv 5) pa_nil)) (by intro _; rfl)))) (fun _ _ _ _ _ => (pv 5))) (pss_cons (ps_if (PW.pt (pw_or (pt_cmpR op_notIn_seq (pv 1) (pv 2) (by rfl)) (pw_or1 (pt_not (pt_truth (pe_meth (pv 0) T.cl T.m_Copies_is_most (ok_Copies_is_most T) (hr.mono (by decide)) T.b_Copies_is_most .nil pass0 (pa_cons (pv 2) pa_nil)) (by intro _; rfl)))))) (pss_one (ps_raise rfl (takes_of rfl rfl rfl rfl) (XB.pmk T.xo_NoHead T.ie_NoHead T.te_NoHead (ok_INoHead T T.xo_NoHead T.ne_NoHead_house) (hr.mono (by decide)) T.b_INoHead pass0 (by rfl) T.gE_NoHead (pa_cons pe_non pa_nil)))) pss_nil) (pss_cons (ps_set (i := 3) sc_Copies_choose.nd rfl (Or.inl rfl) (pe_meth (pv 0) T.cl T.m_Copies_greatest_promise (ok_Copies_greatest_promise T) (hr.mono (by decide)) T.b_Copies_greatest_promise .nil pass0 (pa_cons (pv 2) pa_nil))) (pss_cons (ps_fldaug (pv 0) pe_int in_add) (pss_cons (ps_fld (pv 0) (pv 1) rfl) (pss_cons (ps_fld (pv 0) (pe_call (ok_changed_at T) (hr.mono (by decide)) (by rfl) T.g_changed_at T.F_changed_at.kp T.b_changed_at .nil pass0 (pa_cons (pe_fld (pv 0) rfl) (pa_cons (pv 1) (pa_cons (pe_callB (cr_max rfl) (by rfl) T.z_max (by decide +kernel) (pa_cons (pe_lc (own := [("other", 5)]) (g := gName 5) (te := (tOp (rIxL K) (tFld K (tVar 0) "has") (tVar 5))) (by rfl) sc_Copies_choose.nd (pi_list (pv 2)) (blkOk_by (own := [("other", 5)]) (N := ["self", "copy", "some", "floor", "till", "other"]) (sc := defScope s_Copies_choose) (by decide +kernel)) (fun _ _ _ _ _ => (pg_name (i := 5) sc_Copies_choose.nd rfl (.inl rfl))) (fun _ _ _ _ _ => pts_nil) (fun _ _ _ _ _ => (pe_ix ix_list (pe_fld (pv 0) rfl) (pv 5) (fun _ _ => rfl)))) pa_nil)) pa_nil)))) rfl) (pss_cons (ps_set (i := 4) sc_Copies_choose.nd rfl (Or.inl rfl) (pe_meth (pv 0) T.cl T.m_Copies_till_of (ok_Copies_till_of T) (hr.mono (by decide)) T.b_Copies_till_of .nil pass0 (pa_cons (pv 1) pa_nil))) (pss_cons (ps_fld (pv 0) (pe_call (ok_changed_at T) (hr.mono (by decide)) (by rfl) T.g_changed_at T.F_changed_at.kp T.b_changed_at .nil pass0 (pa_cons (pe_fld (pv 0) rfl) (pa_cons (pv 1) (pa_cons (pv 4) pa_nil)))) rfl) (pss_cons (ps_expr (pe_meth (pv 0) T.cl T.m_Copies_promise (ok_Copies_promise T) (hr.mono (by decide)) T.b_Copies_promise .nil pass0 (pa_cons (pv 2) (pa_cons (pv 4) pa_nil)))) (pss_one (ps_ret (pv 3))))))))))))), ?_⟩
    refine ⟨_, rfl, x, dx, _, rfl, hx, gf_no _ _ (by decide +kernel) (by decide +kernel) (by decide +kernel) (by decide +kernel) (by decide +kernel) (by decide +kernel) (by decide +kernel) (by decide +kernel) (by decide +kernel) (by decide +kernel) (by decide +kernel) (by decide +kernel) (by decide +kernel) (by decide +kernel) (by decide +kernel), _, rfl, x, A, t, b, g, i, rfl, hg, hi, ?_⟩
    refine ⟨_, rfl, x, _, dx, _, _, rfl, hx, T.cl, T.n_ups, gf_ups _ _, A.ups, _, rfl, .inl (SqL.of hg.ls.ups), g.ms.length, by rw [List.length_map], by have := hg.ls.n5; omega, by have := hg.ls.n5; omega, fun D nD => ?_⟩
    refine lc_range (lo := 0) (n := g.ms.length) (fun i H' => Same H H' ∧ H' D = some (.lst ((((List.range g.ms.length).take i).filter (atG canP g)).map nV))) ⟨same_new (Same.refl H) nD, by rw [List.take_zero]; exact upd_same⟩ ?_ ?_
    · rintro i H1 hi ⟨s1, hD⟩
      obtain ⟨s, hs⟩ := getM hi
      have hx1 := s1 _ _ hx
      refine ⟨rfl, _, rfl, x, dx, _, rfl, hx1, gf_no _ _ (by decide +kernel) (by decide +kernel) (by decide +kernel) (by decide +kernel) (by decide +kernel) (by decide +kernel) (by decide +kernel) (by decide +kernel) (by decide +kernel) (by decide +kernel) (by decide +kernel) (by decide +kernel) (by decide +kernel) (by decide +kernel) (by decide +kernel), _, rfl, x, A, t, b, g, i, s, by rw [Int.zero_add]; rfl, hg.same s1, hs, _, rfl, ?_⟩
      have nxt := range_take g.ms.length i (atG canP g) hi
      rw [atG_of hs] at nxt
      cases c : canP s with
      | true =>
        refine iteT ⟨_, rfl, _, hD, ?_, fun b' u e => ?_, ?_⟩
        · rw [List.length_map]
          have := List.length_filter_le (atG canP g) ((List.range g.ms.length).take i)
          have := List.length_take_le i (List.range g.ms.length)
          have := hg.ls.n5
          exact Nat.lt_of_lt_of_le (show _ < 100 by omega) (by decide)
        · rw [upd_ne (ne_of_none e nD)]
          exact s1 _ _ e
        · rw [upd_same, nxt, c, if_pos rfl, List.map_append, Int.zero_add]
          rfl
      | false =>
        refine iteF ⟨s1, ?_⟩
        rw [nxt, c, if_neg (by decide), List.append_nil]
        exact hD
    rintro H1 ⟨s1, hD⟩
    have e : (List.range g.ms.length).take g.ms.length = List.range g.ms.length := by rw [List.take_of_length_le (by rw [List.length_range]; exact Nat.le_refl _)]
    rw [e] at hD
    have hD : H1 D = some (.lst ((pickG canP g).map nV)) := hD
    have hx1 := s1 _ _ hx
    have hg1 := hg.same s1
    have h5 : (pickG canP g).length ≤ 5 := Nat.le_trans is_len hg.ls.n5
    refine ⟨_, rfl, _, rfl, D, _, rfl, .inl (SqL.of hD), rfl, nats_flat _, _, rfl, ?_⟩
    rw [in_nats, pick_mem hi]
    unfold canC at q qx
    cases c1 : atG canP g i with
    | false =>
      rw [c1] at qx
      refine iteT ?_
      refine ⟨(by show 1 ≤ 1000; decide), fun y ny => ⟨y, _, rfl, upd_same, fun dx' H' ndx ne e1 e2 k => ?_⟩⟩
      have nd := ndx
      rw [upd_ne ne] at nd
      exact ⟨rfl, dx', _, e1, e2, nd, (qx rfl).up s1 dx' _ (same_err3 ny nd k) upd_same⟩
    | true =>
      rw [c1] at q qx
      refine iteF ⟨_, rfl, x, dx, _, rfl, hx1, gf_no _ _ (by decide +kernel) (by decide +kernel) (by decide +kernel) (by decide +kernel) (by decide +kernel) (by decide +kernel) (by decide +kernel) (by decide +kernel) (by decide +kernel) (by decide +kernel) (by decide +kernel) (by decide +kernel) (by decide +kernel) (by decide +kernel) (by decide +kernel), _, rfl, x, A, t, b, g, D, _, rfl, hg1, hD, _, rfl, ?_⟩
      rw [List.length_map]
      cases c2 : decide (g.ms.length < 2 * (pickG canP g).length) with
      | false =>
        rw [c2] at qx
        refine iteT ?_
        refine ⟨(by show 1 ≤ 1000; decide), fun y ny => ⟨y, _, rfl, upd_same, fun dx' H' ndx ne e1 e2 k => ?_⟩⟩
        have nd := ndx
        rw [upd_ne ne] at nd
        exact ⟨rfl, dx', _, e1, e2, nd, (qx rfl).up s1 dx' _ (same_err3 ny nd k) upd_same⟩
      | true =>
        rw [c2] at q
        refine iteF ?_
        have q := q rfl
        have ii : i ∈ pickG canP g := of_decide_eq_true ((pick_mem hi).trans c1)
        have hne : pickG canP g ≠ [] := fun z => by rw [z] at ii; cases ii
        have cp : canP s = true := by rw [← atG_of (f := canP) hs]; exact c1
        obtain ⟨z, hz⟩ : ∃ z, s.sp = some z := by
          unfold canP at cp
          cases c3 : s.sp with
          | none => rw [c3, Bool.and_false] at cp; cases cp
          | some z => exact ⟨z, rfl⟩
        refine ⟨_, rfl, x, dx, _, rfl, hx1, gf_no _ _ (by decide +kernel) (by decide +kernel) (by decide +kernel) (by decide +kernel) (by decide +kernel) (by decide +kernel) (by decide +kernel) (by decide +kernel) (by decide +kernel) (by decide +kernel) (by decide +kernel) (by decide +kernel) (by decide +kernel) (by decide +kernel) (by decide +kernel), _, rfl, x, A, t, b, g, D, pickG canP g, rfl, hg1, hD, is_lt, hne, h5, fun fl H2 hfl s2 => ?_⟩
        have s12 := s1.trans s2
        have hx2 := s12 _ _ hx
        have hg2 := hg.same s12
        have hD2 := s2 _ _ hD
        refine ⟨_, rfl, x, _, dx, _, _, rfl, hx2, T.cl, T.n_reigns, gf_reigns _ _, g.rg, 1, rfl, rfl, dx, _, hx2, gf_len _ _, ?_⟩
        have n3 := hg2.put_rg hx2 (g.rg + 1)
        generalize (upd H2 x (.ins (a 61) dx (putF "reigns" (.int (g.rg + 1)) (gf A g)))) = H3 at n3 ⊢
        obtain ⟨dx3, hx3⟩ := n3.at_.at_
        refine ⟨oV (some (i : Int)), rfl, _, rfl, x, _, dx3, _, rfl, hx3, T.cl, T.n_chosen, gf_len _ _, ?_⟩
        have n4 := n3.at_.put_ch hx3 (some (i : Int))
        generalize (upd H3 x (.ins (a 61) dx3 (putF "chosen" (oV (some (i : Int))) (gf A { g with rg := g.rg + 1 })))) = H4 at n4 ⊢
        obtain ⟨dx4, hx4⟩ := n4.at_.at_
        have Dx : D ≠ x := ne_of hD (s1 _ _ hx) (by intro z; cases z)
        have hD4 := n4.fr _ _ Dx (n3.fr _ _ Dx hD2)
        have l4 := n4.at_.ls
        have sz : ∀ j, ((pickG canP g).take j).length < sizeLine := fun j => Nat.lt_of_le_of_lt (Nat.le_trans (List.length_take_le' ..) h5) (by decide)
        refine ⟨_, rfl, x, _, dx4, _, _, rfl, hx4, T.cl, T.n_has, gf_has _ _, _, rfl, _, rfl, D, rfl, ⟨_, SqL.of hD4⟩, fun D5 nD5 => ?_⟩
        refine lc_it (walk_list (xs := (pickG canP g).map nV)) (fun j H' => Same H4 H' ∧ H' D5 = some (.lst (((pickG canP g).take j).map fun k => V.int (hasG g k)))) ⟨same_new (Same.refl H4) nD5, by rw [List.take_zero]; exact upd_same⟩ (fun j H' _ z => SqL.of (z.1 _ _ hD4)) ?_ ?_
        · rintro j xv H5 H5' hj ⟨s5, hD5⟩ ⟨rfl, e1⟩
          rw [List.getElem?_map] at e1
          obtain ⟨k, hk, rfl⟩ := Option.map_eq_some_iff.mp e1
          obtain ⟨sk, hsk⟩ := getM (is_lt k (List.mem_of_getElem? hk))
          refine ⟨rfl, _, rfl, x, _, dx4, _, _, rfl, s5 _ _ hx4, T.cl, T.n_has, gf_has _ _, _, rfl, A.has, _, (k : Int), _, rfl, rfl, SqL.of (s5 _ _ l4.has), atI_map _ hsk, _, hD5, (by rw [List.length_map]; exact sz j), fun b' u e => ?_, ?_⟩
          · rw [upd_ne (ne_of_none e nD5)]
            exact s5 _ _ e
          · have e2 : hasG g k = sk.has := by unfold hasG; rw [hsk]
            rw [upd_same, List.take_add_one, hk, List.map_append]
            show _ = some (HO.lst (_ ++ [V.int (hasG g k)]))
            rw [e2]
        · rintro H5 ⟨s5, hD5⟩
          rw [List.length_map, List.take_length] at hD5
          have e4 : ((pickG canP g).map fun k => V.int (hasG g k)) = ((pickG canP g).map (hasG g)).map V.int := by rw [List.map_map]; rfl
          rw [e4] at hD5
          refine ⟨D5, (pickG canP g).map (hasG g), rfl, SqL.of hD5, (by rw [List.length_map]; exact List.length_pos_iff.mpr hne), fun mh hm hmx => ?_⟩
          have hmh : IsMax (hasG g) (pickG canP g) mh := by
            obtain ⟨k, hk, rfl⟩ := List.mem_map.mp hm
            exact ⟨⟨k, hk, rfl⟩, fun j hj => hmx _ (List.mem_map.mpr ⟨j, hj, rfl⟩)⟩
          have hx5 := s5 _ _ hx4
          refine ⟨A.has, _, i, .int mh, rfl, s5 _ _ l4.has, (by rw [List.length_map]; exact hi), fun p1 np1 => ?_⟩
          refine ⟨_, rfl, x, _, dx4, _, rfl, (by rw [upd_ne (ne_of_none hx5 np1)]; exact hx5), T.cl, T.n_has, gf_len _ _, ?_⟩
          have n6 := (n4.at_.same s5).put_has (p := p1) (u := mh) hx5 hs np1
          generalize (upd (upd H5 p1 (.lst ((({ g with rg := g.rg + 1, ch := some (i : Int) } : GS).ms.map fun s => V.int s.has).set i (.int mh)))) x (.ins (a 61) dx4 (putF "has" (.ref p1) (gf A { g with rg := g.rg + 1, ch := some (i : Int) })))) = H6 at n6 ⊢
          obtain ⟨A6, n6⟩ := n6
          obtain ⟨dx6, hx6⟩ := n6.at_.at_
          have hs6 : (({ g with rg := g.rg + 1, ch := some (i : Int), ms := g.ms.set i { s with has := mh } } : GS)).ms[i]? = some { s with has := mh } := List.getElem?_set_self hi
          refine ⟨_, rfl, x, dx6, _, rfl, hx6, gf_no _ _ (by decide +kernel) (by decide +kernel) (by decide +kernel) (by decide +kernel) (by decide +kernel) (by decide +kernel) (by decide +kernel) (by decide +kernel) (by decide +kernel) (by decide +kernel) (by decide +kernel) (by decide +kernel) (by decide +kernel) (by decide +kernel) (by decide +kernel), _, rfl, x, A6, t, b, _, i, { s with has := mh }, z, rfl, n6.at_, hs6, hz, ?_⟩
          refine ⟨_, rfl, x, _, dx6, _, _, rfl, hx6, T.cl, T.n_rules_till, gf_rules_till _ _, _, rfl, _, rfl, A6.rts, _, i, oV (some (z.2 + g.le)), rfl, n6.at_.ls.rts, (by rw [List.length_map, List.length_set]; exact hi), fun p2 np2 => ?_⟩
          refine ⟨_, rfl, x, _, dx6, _, rfl, (by rw [upd_ne (ne_of_none hx6 np2)]; exact hx6), T.cl, T.n_rules_till, gf_len _ _, ?_⟩
          have n7 := n6.at_.put_rts (p := p2) (u := some (z.2 + g.le)) hx6 hs6 np2
          generalize (upd (upd H6 p2 (.lst ((({ g with rg := g.rg + 1, ch := some (i : Int), ms := g.ms.set i { s with has := mh } } : GS).ms.map fun s => oV s.rt).set i (oV (some (z.2 + g.le)))))) x (.ins (a 61) dx6 (putF "rules_till" (.ref p2) (gf A6 { g with rg := g.rg + 1, ch := some (i : Int), ms := g.ms.set i { s with has := mh } })))) = H7 at n7 ⊢
          obtain ⟨A7, n7⟩ := n7
          have n7 : Gx K (a 61) H6 x A6 t b H7 A7 { g with rg := g.rg + 1, ch := some (i : Int), ms := g.ms.set i { s with has := mh, rt := some (z.2 + g.le) } } := by
            have y := n7
            simp only [List.set_set] at y
            exact y
          obtain ⟨dx7, hx7⟩ := n7.at_.at_
          have hD7 := n7.fr _ _ Dx (n6.fr _ _ Dx (s5 _ _ hD4))
          refine ⟨_, rfl, x, dx7, _, rfl, hx7, gf_no _ _ (by decide +kernel) (by decide +kernel) (by decide +kernel) (by decide +kernel) (by decide +kernel) (by decide +kernel) (by decide +kernel) (by decide +kernel) (by decide +kernel) (by decide +kernel) (by decide +kernel) (by decide +kernel) (by decide +kernel) (by decide +kernel) (by decide +kernel), _, rfl, _, rfl, x, A7, t, b, _, D, pickG canP g, z.2 + g.le, rfl, n7.at_, hD7, (fun k hk => by rw [List.length_set]; exact is_lt k hk), fun A8 H8 n8 => ?_⟩
          exact ⟨_, rfl, q fl mh z A8 H8 hfl hmh hz ((((n3.trans n4).same s5).trans (n6.trans (n7.trans n8))).pre s12)⟩


def leafD : PyData → Bool
  | .none => true
  | .bool _ => true
  | .int _ => true
  | .str _ => true
  | _ => false
def flatT : PyData → Bool
  | .tuple ds => ds.all leafD
  | d => leafD d
theorem leaf_up {K : PySem.W.Frag} {H H' : Hp} {v : V} {d : PyData} (h : Dp K H v d) (l : leafD d = true) : Dp K H' v d := by
  cases h with
  | non => exact .non
  | bl x => exact .bl x
  | int i => exact .int i
  | str x => exact .str x
  | lst hq hs => cases l
  | tup hq hs => cases l
theorem leaves_up {K : PySem.W.Frag} {H H' : Hp} : ∀ {vs : List V} {ds : List PyData}, DpAll K H vs ds → ds.all leafD = true → DpAll K H' vs ds
  | _, _, .nil, _ => .nil
  | _, _, .cons a r, l => by
    rw [List.all_cons, Bool.and_eq_true] at l
    exact .cons (leaf_up a l.1) (leaves_up r l.2)
theorem flat_up {K : PySem.W.Frag} {H H' : Hp} {v : V} {d : PyData} {y : Addr} {o : HO} (h : Dp K H v d) (l : flatT d = true) (k : Fr y H H') (hy : H y = some o) (m : Mut o) : Dp K H' v d := by
  cases h with
  | non => exact .non
  | bl x => exact .bl x
  | int i => exact .int i
  | str x => exact .str x
  | lst hq hs => cases l
  | tup hq hs => exact .tup (k.sqt hy m hq) (leaves_up hs l)
theorem flats_up {K : PySem.W.Frag} {H H' : Hp} {y : Addr} {o : HO} (k : Fr y H H') (hy : H y = some o) (m : Mut o) : ∀ {vs : List V} {ds : List PyData}, DpAll K H vs ds → (∀ d ∈ ds, flatT d = true) → DpAll K H' vs ds
  | _, _, .nil, _ => .nil
  | _, _, .cons a r, l => .cons (flat_up a (l _ (List.mem_cons_self ..)) k hy m) (flats_up k hy m r fun d hd => l d (List.mem_cons_of_mem _ hd))
theorem dpall_snoc {K : PySem.W.Frag} {H : Hp} {v : V} {d : PyData} (hv : Dp K H v d) : ∀ {vs : List V} {ds : List PyData}, DpAll K H vs ds → DpAll K H (vs ++ [v]) (ds ++ [d])
  | _, _, .nil => .cons hv .nil
  | _, _, .cons a r => .cons a (dpall_snoc hv r)
theorem dpall_take {K : PySem.W.Frag} {H : Hp} : ∀ {vs : List V} {ds : List PyData} (n : Nat), DpAll K H vs ds → DpAll K H (vs.take n) (ds.take n)
  | _, _, 0, _ => by rw [List.take_zero, List.take_zero]; exact .nil
  | _, _, n + 1, .nil => by rw [List.take_nil, List.take_nil]; exact .nil
  | _, _, n + 1, .cons a r => by rw [List.take_succ_cons, List.take_succ_cons]; exact .cons a (dpall_take n r)
theorem cut_take (xs : List V) {k : Int} (h0 : 0 ≤ k) (h1 : k ≤ xs.length) : cutV xs none (some k) = xs.take k.toNat := by
  obtain ⟨n, rfl⟩ := Int.eq_ofNat_of_zero_le h0
  have hn : n ≤ xs.length := by omega
  have e : HT.sIx xs.length xs.length (some (n : Int)) = n := by
    have z := HT.clip_eq (n : Int) xs.length xs.length
    rw [if_neg (by omega)] at z
    omega
  unfold cutV
  rw [e]
  show (xs.drop 0).take (n - 0) = _
  rw [List.drop_zero, Nat.sub_zero]
  rfl
def hasL (g : GS) (is : List Nat) : List V := g.ms.mapIdx fun i s => V.int (if i ∈ is then s.has + 1 else s.has)
theorem hasL_nil (g : GS) : hasL g [] = g.ms.map fun s => V.int s.has := by
  apply List.ext_getElem?
  intro j
  unfold hasL
  rw [List.getElem?_mapIdx, List.getElem?_map]
  cases g.ms[j]? <;> simp
theorem hasL_len (g : GS) (is : List Nat) : (hasL g is).length = g.ms.length := by unfold hasL; rw [List.length_mapIdx]
theorem hasL_get {g : GS} {is : List Nat} {k : Nat} {s : MS} (hs : g.ms[k]? = some s) (n : ¬ k ∈ is) : (hasL g is)[k]? = some (.int s.has) := by
  unfold hasL
  rw [List.getElem?_mapIdx, hs]
  show some (V.int (if k ∈ is then _ else _)) = _
  rw [if_neg n]
theorem hasL_step {g : GS} {is : List Nat} {k : Nat} {s : MS} (hs : g.ms[k]? = some s) : (hasL g is).set k (.int (s.has + 1)) = hasL g (is ++ [k]) := by
  apply List.ext_getElem?
  intro j
  rw [List.getElem?_set, hasL_len]
  by_cases c : k = j
  · subst c
    rw [if_pos rfl, if_pos (List.getElem?_eq_some_iff.mp hs).1]
    unfold hasL
    rw [List.getElem?_mapIdx, hs]
    show _ = some (V.int (if k ∈ is ++ [k] then _ else _))
    rw [if_pos (by simp)]
  · rw [if_neg c]
    unfold hasL
    rw [List.getElem?_mapIdx, List.getElem?_mapIdx]
    cases g.ms[j]? with
    | none => rfl
    | some u =>
      show some (V.int (if j ∈ is then _ else _)) = some (V.int (if j ∈ is ++ [k] then _ else _))
      by_cases c2 : j ∈ is
      · rw [if_pos c2, if_pos (List.mem_append_left _ c2)]
      · rw [if_neg c2, if_neg (fun z => (List.mem_append.mp z).elim c2 fun y => c (List.mem_singleton.mp y).symm)]
theorem hasL_all (g : GS) (d : PyData) : hasL g (pickG (isWr g) g) = (wroteG g d).ms.map fun s => V.int s.has := by
  apply List.ext_getElem?
  intro j
  unfold hasL wroteG
  rw [List.getElem?_mapIdx, List.getElem?_map, List.getElem?_map]
  cases c : g.ms[j]? with
  | none => rfl
  | some s =>
    have hj := (List.getElem?_eq_some_iff.mp c).1
    have e : decide (j ∈ pickG (isWr g) g) = isWr g s := (pick_mem hj).trans (atG_of c)
    show some (V.int (if j ∈ pickG (isWr g) g then s.has + 1 else s.has)) = some (V.int (if isWr g s = true then ({ s with has := s.has + 1 } : MS) else s).has)
    cases c2 : isWr g s with
    | true => rw [if_pos (of_decide_eq_true (e.trans c2)), if_pos rfl]
    | false => rw [if_neg (of_decide_eq_false (e.trans c2)), if_neg (by decide)]
theorem wrote_map {α : Type} {f : MS → α} (g : GS) (d : PyData) (hf : ∀ (s : MS) (n : Int), f { s with has := n } = f s) : (wroteG g d).ms.map f = g.ms.map f := by
  unfold wroteG
  rw [List.map_map]
  refine List.map_congr_left fun s _ => ?_
  show f (if isWr g s = true then { s with has := s.has + 1 } else s) = f s
  cases isWr g s with
  | true => rw [if_pos rfl, hf]
  | false => rw [if_neg (by decide)]
theorem pick_nodup (g : GS) (f : MS → Bool) : (pickG f g).Nodup := (List.filter_sublist (l := List.range g.ms.length)).nodup List.nodup_range
theorem take_notin {α : Type} : ∀ {l : List α} {i : Nat} {x : α}, l.Nodup → l[i]? = some x → ¬ x ∈ l.take i
  | [], i, x, _, h => by simp at h
  | a :: r, 0, x, _, h => by simp
  | a :: r, i + 1, x, n, h => by
    rw [List.nodup_cons] at n
    have h' : r[i]? = some x := by simpa using h
    rw [List.take_succ_cons]
    intro z
    rcases List.mem_cons.mp z with rfl | z
    · exact n.1 (List.mem_of_getElem? h')
    · exact take_notin n.2 h' z
/-- an entry is written: el grows in place, the new list of 'has' stands at p -/
theorem Lists.wrote {K : PySem.W.Frag} {H : Hp} {A : GA} {t b : Int} {g : GS} (l : Lists K H A t b g) {p : Addr} {vs : List V} {v : V} {d : PyData} (hp : H p = some (.lst (hasL g (pickG (isWr g) g)))) (hel : H A.el = some (.lst vs)) (hd : DpAll K H vs g.ds) (hv : Dp K H v d) (fl : ∀ e ∈ g.ds, flatT e = true) (fd : flatT d = true) (ne : A.el ≠ p) (dl : g.ds.length < 1000) :
    Lists K (upd H A.el (.lst (vs ++ [v]))) { A with has := p } t b (wroteG g d) := by
  have k : Fr A.el H (upd H A.el (.lst (vs ++ [v]))) := (Fr.refl _ H).put
  have up : ∀ {q : Addr} {o : HO}, A.el ≠ q → H q = some o → (upd H A.el (.lst (vs ++ [v]))) q = some o := fun n e => k _ _ n.symm e
  have ln : (wroteG g d).ms.length = g.ms.length := by unfold wroteG; rw [List.length_map]
  have sv : ∀ {vs' : List V} {ss : List (Option (Int × Int))}, SvL K H vs' ss → SvL K (upd H A.el (.lst (vs ++ [v]))) vs' ss := fun q => ⟨q.len, fun i v s e1 e2 => (q.at_ i v s e1 e2).fr k hel trivial⟩
  refine ⟨l.dr.fr k hel trivial, (by rw [wrote_map g d fun _ _ => rfl]; exact up l.e_ups l.ups), (by rw [← hasL_all]; exact up ne hp), (by rw [wrote_map g d fun _ _ => rfl]; exact up l.e_cts l.cts), (by rw [wrote_map g d fun _ _ => rfl]; exact up l.e_prs l.prs), (by rw [wrote_map g d fun _ _ => rfl]; exact up l.e_pins l.pins), (by rw [wrote_map g d fun _ _ => rfl]; exact up l.e_rts l.rts),
    (by obtain ⟨us, e, q⟩ := l.sts; exact ⟨us, up l.e_sts e, by rw [wrote_map g d fun _ _ => rfl]; exact sv q⟩), (by obtain ⟨us, e, q⟩ := l.sps; exact ⟨us, up l.e_sps e, by rw [wrote_map g d fun _ _ => rfl]; exact sv q⟩),
    ⟨_, upd_same, dpall_snoc (flat_up hv fd k hel trivial) (flats_up k hel trivial hd fl)⟩, l.e_ups, ne, l.e_cts, l.e_prs, l.e_pins, l.e_rts, l.e_sts, l.e_sps, (by rw [ln]; exact l.n5), (by rw [ln]; exact l.n1), fun s hs => ?_, ?_⟩
  · unfold wroteG at hs
    obtain ⟨s0, h0, rfl⟩ := List.mem_map.mp hs
    have z := l.nn s0 h0
    cases c : isWr g s0 with
    | true => rw [if_pos rfl]; exact z
    | false => rw [if_neg (by decide)]; exact z
  · show (g.ds ++ [d]).length ≤ 1000
    rw [List.length_append]
    exact dl
/-- a list that is none of the group's is changed -/
theorem Lists.frl {K : PySem.W.Frag} {H H' : Hp} {A : GA} {t b : Int} {g : GS} (l : Lists K H A t b g) {y : Addr} {ys : List V} (k : Fr y H H') (hy : H y = some (.lst ys)) (ny : ¬ y ∈ A.all) (fl : ∀ d ∈ g.ds, flatT d = true) : Lists K H' A t b g := by
  have no : ∀ c, c ∈ A.all → c ≠ y := fun c hc e => ny (e ▸ hc)
  exact ⟨l.dr.fr k hy trivial, k _ _ (no A.ups (by simp [GA.all])) l.ups, k _ _ (no A.has (by simp [GA.all])) l.has, k _ _ (no A.cts (by simp [GA.all])) l.cts, k _ _ (no A.prs (by simp [GA.all])) l.prs, k _ _ (no A.pins (by simp [GA.all])) l.pins, k _ _ (no A.rts (by simp [GA.all])) l.rts, (by obtain ⟨vs, e, q⟩ := l.sts; exact ⟨vs, k _ _ (no A.sts (by simp [GA.all])) e, ⟨q.len, fun i v s e1 e2 => (q.at_ i v s e1 e2).fr k hy trivial⟩⟩), (by obtain ⟨vs, e, q⟩ := l.sps; exact ⟨vs, k _ _ (no A.sps (by simp [GA.all])) e, ⟨q.len, fun i v s e1 e2 => (q.at_ i v s e1 e2).fr k hy trivial⟩⟩), (by obtain ⟨vs, e, q⟩ := l.el; exact ⟨vs, k _ _ (no A.el (by simp [GA.all])) e, flats_up k hy trivial q fl⟩), l.e_ups, l.e_has, l.e_cts, l.e_prs, l.e_pins, l.e_rts, l.e_sts, l.e_sps, l.n5, l.n1, l.nn, l.dl⟩
theorem Lists.some_ {K : PySem.W.Frag} {H : Hp} {A : GA} {t b : Int} {g : GS} (l : Lists K H A t b g) : ∀ c ∈ A.all, ∃ o, H c = some o := fun c hc => by
  obtain ⟨_, e1, _⟩ := l.sts
  obtain ⟨_, e2, _⟩ := l.sps
  obtain ⟨_, e3, _⟩ := l.el
  simp only [GA.all, List.mem_cons, List.not_mem_nil, or_false] at hc
  rcases hc with rfl | rfl | rfl | rfl | rfl | rfl | rfl | rfl | rfl
  · exact ⟨_, l.ups⟩
  · exact ⟨_, l.has⟩
  · exact ⟨_, e1⟩
  · exact ⟨_, l.cts⟩
  · exact ⟨_, e2⟩
  · exact ⟨_, l.prs⟩
  · exact ⟨_, l.pins⟩
  · exact ⟨_, l.rts⟩
  · exact ⟨_, e3⟩
def LeafV (v : V) : Prop := v = .non ∨ (∃ b, v = .bl b) ∨ (∃ i, v = .int i) ∨ ∃ z, v = .str z
theorem LeafV.ty {K : PySem.W.Frag} {H : Hp} {v : V} (h : LeafV v) : ∃ t : Value, TyX K H v t ∧ PySem.W.kitAny K t [.type "tuple", .type "list", .type "dict"] = some false := by
  have go : ∀ {T : String}, kitB T "tuple" = some false → kitB T "list" = some false → kitB T "dict" = some false → PySem.W.kitAny K (.type T) [.type "tuple", .type "list", .type "dict"] = some false := fun a b c =>
    kitAny_cons (kit_ty a) (fun _ => kitAny_cons (kit_ty b) (fun _ => kitAny_cons (kit_ty c) (fun _ => rfl) (fun z => by cases z)) (fun z => by cases z)) (fun z => by cases z)
  rcases h with rfl | ⟨b, rfl⟩ | ⟨i, rfl⟩ | ⟨z, rfl⟩
  · exact ⟨_, .base .non, go (by decide +kernel) (by decide +kernel) (by decide +kernel)⟩
  · exact ⟨_, .base (.bl b), go (by decide +kernel) (by decide +kernel) (by decide +kernel)⟩
  · exact ⟨_, .base (.int i), go (by decide +kernel) (by decide +kernel) (by decide +kernel)⟩
  · exact ⟨_, .base (.str z), go (by decide +kernel) (by decide +kernel) (by decide +kernel)⟩
def spFixed : Sp := fun vs H Q _ => ∃ (p : Addr) (xs : List V), vs = [.ref p] ∧ H p = some (.tup xs) ∧ (∀ v ∈ xs, LeafV v) ∧ ∀ H', Same H H' → Q (.bl true) H'
section
variable (K : PySem.W.Frag) (CG : Addr)
def spWrite (NH : Addr) : Sp := fun vs H Q E => ∃ (x : Addr) (A : GA) (t b : Int) (g : GS) (p : Addr) (xs : List V) (ds : List PyData), vs = [.ref x, .ref p] ∧ GroupAt K CG H x A t b g ∧ GOk g ∧ g.lent = false ∧ g.loose = false ∧ H p = some (.tup xs) ∧ DpAll K H xs ds ∧ ds.all leafD = true ∧ (∀ v ∈ xs, LeafV v) ∧ g.ds.length < 1000 ∧ (∀ d ∈ g.ds, flatT d = true) ∧
  (canW g = true → ∀ A' H', A'.el = A.el → (∀ c, c ∈ A'.all → c ∈ A.all ∨ H c = none) → (∀ b o, b ≠ x → b ≠ A.el → H b = some o → H' b = some o) → GroupAt K CG H' x A' t b (wroteG g (.tuple ds)) → Q .non H') ∧ (canW g = false → Out E NH "house" .non H)
def spBook : Sp := fun vs H Q _ => ∃ (x : Addr) (A : GA) (t b : Int) (g : GS) (cv : V) (k : Nat), vs = [.ref x, cv] ∧ GroupAt K CG H x A t b g ∧ g.loose = false ∧ k ≤ g.ds.length ∧ ((cv = .non ∧ k = g.ds.length) ∨ ∃ (i : Nat) (s : MS), cv = .int (i : Int) ∧ g.ms[i]? = some s ∧ s.has = (k : Int)) ∧
  ∀ p us H', H p = none → Same H H' → H' p = some (.lst us) → DpAll K H' us (g.ds.take k) → Q (.ref p) H'
def newG (n : Nat) (le : Int) : GS := ⟨List.replicate n MS.new, le, 0, none, [], false, false⟩
def spInitC : Sp := fun vs H Q _ => ∃ (x dx : Addr) (n : Nat) (dr : Addr) (le t b : Int), vs = [.ref x, .int (n : Int), .ref dr, .int le] ∧ H x = some (.ins CG dx []) ∧ 1 ≤ n ∧ n ≤ 5 ∧ 1 ≤ le ∧ le ≤ 1000 ∧ DrOk K H dr t b ∧ ∀ A H', (∀ c ∈ A.all, H c = none) → A.el ≠ x → Fr x H H' → GroupAt K CG H' x A t b (newG n le) → Q .non H'
end
theorem rep_flat {v : V} : ∀ n : Nat, (List.replicate n [v]).flatten = List.replicate n v
  | 0 => rfl
  | n + 1 => by rw [List.replicate_succ, List.flatten_cons, rep_flat n, List.replicate_succ]; rfl
theorem rep_map {α : Type} (f : MS → α) (n : Nat) : (List.replicate n MS.new).map f = List.replicate n (f MS.new) := by rw [List.map_replicate]
theorem rep_sv {K : PySem.W.Frag} {H : Hp} (n : Nat) : SvL K H (List.replicate n .non) (List.replicate n none) := by
  refine ⟨by rw [List.length_replicate, List.length_replicate], fun i v s e1 e2 => ?_⟩
  rw [List.getElem?_replicate] at e1 e2
  by_cases c : i < n
  · rw [if_pos c] at e1 e2
    cases e1
    cases e2
    rfl
  · rw [if_neg c] at e1
    cases e1

theorem ok_is_fixed {P : Program} {w : World} {K : PySem.W.Frag} {mg : Str → Option Value} {base : Heap} {a : Nat → Addr} {d : Nat → FuncData} (T : Txt K mg a d) : FnOk P w K mg base CX0 1 (a 31) (d 31) ["thing"] spFixed := by
  refine T.F_is_fixed.ok sc_is_fixed (fun vs H Q E h => ?_) (fun cdv A outer s0 H vs Q E hr h => ?_)
  · obtain ⟨p, xs, rfl, hp, hl, q⟩ := h
    rfl
  · obtain ⟨p, xs, rfl, hp, hl, q⟩ := h
    refine ⟨_, (pss_cons (ps_if (pt_not (pt_truth (pe_callB call_isi (by rfl) T.z_isinstance (by decide +kernel) (pa_cons (pv 0) (pa_cons (pe_bltn (v := .ty "tuple") (by rfl) T.z_tuple (by decide +kernel) rfl) pa_nil))) (by intro _; rfl))) (pss_one (ps_ret (pe_not (pe_callB call_isiT (by rfl) T.z_isinstance (by decide +kernel) (pa_cons (pv 0) (pa_cons (pe_tup (pa_cons (pe_bltn (v := .ty "list") (by rfl) T.z_list (by decide +kernel) rfl) (pa_cons (pe_bltn (v := .ty "dict") (by rfl) T.z_dict (by decide +kernel) rfl) pa_nil))) pa_nil)))))) pss_nil) (pss_cons (ps_for PassesOwn.never rfl (pi_tup (pv 0)) (pg_name (i := 1) sc_is_fixed.nd rfl (.inl rfl)) (pss_one (ps_if (PW.pt (pw_and (pt_truth (pe_callB call_isiT (by rfl) T.z_isinstance (by decide +kernel) (pa_cons (pv 1) (pa_cons (pe_tup (pa_cons (pe_bltn (v := .ty "tuple") (by rfl) T.z_tuple (by decide +kernel) rfl) (pa_cons (pe_bltn (v := .ty "list") (by rfl) T.z_list (by decide +kernel) rfl) (pa_cons (pe_bltn (v := .ty "dict") (by rfl) T.z_dict (by decide +kernel) rfl) pa_nil)))) pa_nil))) (by intro _; rfl)) (pw_and1 pt_never))) (pss_one (ps_ret pe_bl)) pss_nil))) (pss_one (ps_ret pe_bl)))), ?_⟩
    refine ⟨_, rfl, _, _, .type "tuple", .type "tuple", true, rfl, .ty "tuple", sqt_ty (SqT.of hp), kit_ty (by decide +kernel), true, rfl, iteF ?_⟩
    refine ⟨_, rfl, p, rfl, ⟨_, SqT.of hp⟩, ?_⟩
    refine for_tup (K := K) (a := p) (xs := xs) (fun j σ H' => (∃ v : Option V, σ = [some (.ref p), v]) ∧ Same H H') ⟨⟨none, rfl⟩, Same.refl H⟩ (fun j σ H' _ z => SqT.of (z.2 _ _ hp)) ?_ ?_
    · rintro j v σ H1 hj ⟨⟨v0, rfl⟩, s1⟩
      show ∃ v, _
      refine ⟨_, rfl, len3, fun tp ntp => ?_⟩
      obtain ⟨ty, h1, h2⟩ := (hl v (List.mem_of_getElem? hj)).ty (K := K) (H := upd H1 tp (.tup [.ty "tuple", .ty "list", .ty "dict"]))
      exact ⟨v, tp, _, ty, _, false, rfl, upd_same, .cons (.ty _) (.cons (.ty _) (.cons (.ty _) .nil)), h1, h2, false, rfl, iteF (iteF ⟨⟨_, rfl⟩, s1.trans (same_new (Same.refl H1) ntp)⟩)⟩
    · rintro σ H1 ⟨⟨v0, rfl⟩, s1⟩
      exact q H1 s1

theorem ok_Copies_book {P : Program} {w : World} {K : PySem.W.Frag} {mg : Str → Option Value} {base : Heap} {a : Nat → Addr} {d : Nat → FuncData} (T : Txt K mg a d) : FnOk P w K mg base CX0 3 (a 33) (d 33) ["self", "copy"] (spBook K (a 61)) := by
  refine T.F_Copies_book.ok (CX := CX0) sc_Copies_book (fun vs H Q E h => ?_) (fun cdv A outer s0 H vs Q E hr h => ?_)
  · obtain ⟨x, A, t, b, g, cv, k, rfl, hg, hlo, hk, hc, q⟩ := h
    rfl
  · obtain ⟨x, A, t, b, g, cv, k, rfl, hg, hlo, hk, hc, q⟩ := h
    obtain ⟨dx, hx⟩ := hg.at_
    obtain ⟨vs, hel, hed⟩ := hg.ls.el
    have lv := dpall_len hed
    refine ⟨_, PSs.nox (pss_cons (ps_set (i := 2) sc_Copies_book.nd rfl (Or.inl rfl) (pe_callB call_len_seq (by rfl) T.z_len PySem.boot_len (pa_cons (pe_fld (pv 0) rfl) pa_nil))) (pss_cons (ps_if (pt_cmpR op_notN (pv 1) pe_non (nomark _)) (pss_cons (ps_expr (pe_meth (pv 0) T.cl T.m_Copies_refuse_no_copy (ok_Copies_refuse_no_copy T) (hr.mono (by decide)) T.b_Copies_refuse_no_copy .nil pass0 (pa_cons (pv 1) pa_nil))) (pss_one (ps_set (i := 2) sc_Copies_book.nd rfl (Or.inl rfl) (pe_ix ix_list (pe_fld (pv 0) rfl) (pv 1) (fun _ _ => rfl))))) pss_nil) (pss_cons (ps_set (i := 3) sc_Copies_book.nd rfl (Or.inl rfl) (pe_slice sl_list (pe_fld (pv 0) rfl) po_none (po_some (pv 2)))) (pss_one (ps_ret (pe_ifExp (pt_truth (pe_fld (pv 0) rfl) (by intro _; rfl)) pe_never (pv 3))))))), ?_⟩
    have fin : ∀ (m : Int), m = (k : Int) → ∀ p, H p = none → Q (.ref p) (upd H p (.lst (cutV vs none (some m)))) := fun m em p np => by
      rw [em, cut_take vs (by omega) (by omega)]
      exact q p _ _ np (same_new (Same.refl H) np) upd_same (dpall_take k (dpall_same hed (same_new (Same.refl H) np)))
    refine ⟨_, rfl, x, _, dx, _, _, rfl, hx, T.cl, T.n_entries, gf_entries _ _, A.el, vs, rfl, .inl (SqL.of hel), ?_⟩
    rcases hc with ⟨rfl, ek⟩ | ⟨i, s, rfl, hs, eh⟩
    · refine ⟨_, rfl, rfl, _, rfl, iteNDF rfl ?_⟩
      refine ⟨_, rfl, x, _, dx, _, _, rfl, hx, T.cl, T.n_entries, gf_entries _ _, _, rfl, (vs.length : Int), rfl, A.el, vs, rfl, SqL.of hel, fun p np => ?_⟩
      refine ⟨_, rfl, x, _, dx, _, _, rfl, (by rw [upd_ne (ne_of_none hx np)]; exact hx), T.cl, T.n_loose, gf_loose _ _, false, (by rw [hlo] <;> rfl), iteF ⟨_, rfl, fin _ (by omega) p np⟩⟩
    · have hi := (List.getElem?_eq_some_iff.mp hs).1
      refine ⟨_, rfl, rfl, _, rfl, iteND (by intro y; cases y) ?_⟩
      refine ⟨_, rfl, x, dx, _, rfl, hx, gf_no _ _ (by decide +kernel) (by decide +kernel) (by decide +kernel) (by decide +kernel) (by decide +kernel) (by decide +kernel) (by decide +kernel) (by decide +kernel) (by decide +kernel) (by decide +kernel) (by decide +kernel) (by decide +kernel) (by decide +kernel) (by decide +kernel) (by decide +kernel), _, rfl, x, A, t, b, g, i, rfl, hg, hi, ?_⟩
      refine ⟨_, rfl, x, _, dx, _, _, rfl, hx, T.cl, T.n_has, gf_has _ _, _, rfl, A.has, _, (i : Int), _, rfl, rfl, SqL.of hg.ls.has, atI_map _ hs, ?_⟩
      refine ⟨_, rfl, x, _, dx, _, _, rfl, hx, T.cl, T.n_entries, gf_entries _ _, _, rfl, s.has, rfl, A.el, vs, rfl, SqL.of hel, fun p np => ?_⟩
      refine ⟨_, rfl, x, _, dx, _, _, rfl, (by rw [upd_ne (ne_of_none hx np)]; exact hx), T.cl, T.n_loose, gf_loose _ _, false, (by rw [hlo] <;> rfl), iteF ⟨_, rfl, fin _ eh p np⟩⟩

theorem ok_Copies___init__ {P : Program} {w : World} {K : PySem.W.Frag} {mg : Str → Option Value} {base : Heap} {a : Nat → Addr} {d : Nat → FuncData} (T : Txt K mg a d) : FnOk P w K mg base CX0 5 (a 34) (d 34) ["self", "many", "drift", "lease"] (spInitC K (a 61)) := by
  refine T.F_Copies___init__.ok (CX := CX0) sc_Copies___init__ (fun vs H Q E h => ?_) (fun cdv A outer s0 H vs Q E hr h => ?_)
  · obtain ⟨x, dx, n, dr, le, t, b, rfl, hx, hn1, hn5, hl1, hl2, hd, q⟩ := h
    rfl
  · obtain ⟨x, dx, n, dr, le, t, b, rfl, hx, hn1, hn5, hl1, hl2, hd, q⟩ := h
    refine ⟨_, PSs.nox (pss_cons (ps_if (pt_not (pt_truth (pe_call (ok_is_from_to T) (hr.mono (by decide)) (by rfl) T.g_is_from_to T.F_is_from_to.kp T.b_is_from_to .nil pass0 (pa_cons (pv 1) (pa_cons pe_int (pa_cons (pe_glob (v := .int (5)) (by rfl) (Exists.choose_spec T.g_MOST_COPIES) ⟨_, rfl⟩) pa_nil)))) (by intro _; rfl))) (pss_one ps_never) pss_nil) (pss_cons (ps_if (pt_not (pt_truth (pe_call (ok_is_from_to T) (hr.mono (by decide)) (by rfl) T.g_is_from_to T.F_is_from_to.kp T.b_is_from_to .nil pass0 (pa_cons (pv 3) (pa_cons pe_int (pa_cons (pe_glob (v := .int (1000)) (by rfl) (Exists.choose_spec T.g_LONGEST_LEASE) ⟨_, rfl⟩) pa_nil)))) (by intro _; rfl))) (pss_one ps_never) pss_nil) (pss_cons (ps_if (pt_not (pt_truth (pe_call (ok_is_drift T) (hr.mono (by decide)) (by rfl) T.g_is_drift T.F_is_drift.kp T.b_is_drift .nil pass0 (pa_cons (pv 2) pa_nil)) (by intro _; rfl))) (pss_one ps_never) pss_nil) (pss_cons (ps_fld (pv 0) (pv 2) rfl) (pss_cons (ps_fld (pv 0) (pv 3) rfl) (pss_cons (ps_fld (pv 0) (pe_op op_rep (pe_lst (pa_cons pe_bl pa_nil)) (pv 1)) rfl) (pss_cons (ps_fld (pv 0) (pe_op op_rep (pe_lst (pa_cons pe_int pa_nil)) (pv 1)) rfl) (pss_cons (ps_fld (pv 0) (pe_op op_rep (pe_lst (pa_cons pe_non pa_nil)) (pv 1)) rfl) (pss_cons (ps_fld (pv 0) (pe_op op_rep (pe_lst (pa_cons pe_int pa_nil)) (pv 1)) rfl) (pss_cons (ps_fld (pv 0) (pe_op op_rep (pe_lst (pa_cons pe_non pa_nil)) (pv 1)) rfl) (pss_cons (ps_fld (pv 0) (pe_op op_rep (pe_lst (pa_cons pe_non pa_nil)) (pv 1)) rfl) (pss_cons (ps_fld (pv 0) (pe_op op_rep (pe_lst (pa_cons pe_int pa_nil)) (pv 1)) rfl) (pss_cons (ps_fld (pv 0) (pe_op op_rep (pe_lst (pa_cons pe_non pa_nil)) (pv 1)) rfl) (pss_cons (ps_fld (pv 0) (pe_lst pa_nil) rfl) (pss_cons (ps_fld (pv 0) pe_bl rfl) (pss_cons (ps_fld (pv 0) pe_bl rfl) (pss_cons (ps_fld (pv 0) pe_int rfl) (pss_one (ps_fld (pv 0) pe_non rfl))))))))))))))))))), ?_⟩
    refine ⟨_, rfl, (n : Int), 1, 5, rfl, by omega, by omega, true, rfl, iteF ?_⟩
    refine ⟨_, rfl, le, 1, 1000, rfl, by omega, by omega, true, rfl, iteF ?_⟩
    refine ⟨_, rfl, dr, t, b, rfl, hd, fun H0 s0 => ⟨true, rfl, iteF ?_⟩⟩
    have f0 : Fr x H H0 := fr_same s0
    have hx0 : H0 x = some (.ins (a 61) dx []) := s0 _ _ hx
    refine ⟨_, rfl, _, rfl, x, _, dx, _, rfl, hx0, T.cl, T.n_most_drift, Nat.lt_of_le_of_lt (few0) (by decide), ?_⟩
    have f1 : Fr x H (upd H0 x (.ins (a 61) dx (putF "most_drift" (.ref dr) ([])))) := f0.put
    have hx1 : (upd H0 x (.ins (a 61) dx (putF "most_drift" (.ref dr) ([])))) x = some (.ins (a 61) dx (putF "most_drift" (.ref dr) ([]))) := upd_same
    generalize (upd H0 x (.ins (a 61) dx (putF "most_drift" (.ref dr) ([])))) = H1 at f1 hx1 ⊢
    refine ⟨_, rfl, _, rfl, x, _, dx, _, rfl, hx1, T.cl, T.n_lease, Nat.lt_of_le_of_lt (few_up (few0) _ _) (by decide), ?_⟩
    have f2 : Fr x H (upd H1 x (.ins (a 61) dx (putF "lease" (.int le) (putF "most_drift" (.ref dr) ([]))))) := f1.put
    have hx2 : (upd H1 x (.ins (a 61) dx (putF "lease" (.int le) (putF "most_drift" (.ref dr) ([]))))) x = some (.ins (a 61) dx (putF "lease" (.int le) (putF "most_drift" (.ref dr) ([])))) := upd_same
    generalize (upd H1 x (.ins (a 61) dx (putF "lease" (.int le) (putF "most_drift" (.ref dr) ([]))))) = H2 at f2 hx2 ⊢
    refine ⟨len1, fun tups n_tups => ?_⟩
    have f3 : Fr x H (upd H2 tups (.lst ([.bl true]))) := f2.new n_tups
    have hx3 : (upd H2 tups (.lst ([.bl true]))) x = some (.ins (a 61) dx (putF "lease" (.int le) (putF "most_drift" (.ref dr) ([])))) := by rw [upd_ne (ne_of_none hx2 n_tups)]; exact hx2
    have htups_3 : (upd H2 tups (.lst ([.bl true]))) tups = some (.lst ([.bl true])) := upd_same
    have x_tups : tups ≠ x := (ne_of_none hx2 n_tups).symm
    generalize (upd H2 tups (.lst ([.bl true]))) = H3 at f3 hx3 htups_3 ⊢
    refine ⟨_, rfl, tups, (n : Int), _, rfl, rfl, htups_3, by omega, by omega, Nat.le_trans (show _ ≤ 5 by simpa using hn5) (by decide), fun pups n_pups => ?_⟩
    rw [show (n : Int).toNat = n from Int.toNat_natCast n, rep_flat]
    have fr_pups : H pups = none := fr_free f3 hx3 n_pups
    have f4 : Fr x H (upd H3 pups (.lst (List.replicate n (.bl true)))) := f3.new n_pups
    have hx4 : (upd H3 pups (.lst (List.replicate n (.bl true)))) x = some (.ins (a 61) dx (putF "lease" (.int le) (putF "most_drift" (.ref dr) ([])))) := by rw [upd_ne (ne_of_none hx3 n_pups)]; exact hx3
    have hpups_4 : (upd H3 pups (.lst (List.replicate n (.bl true)))) pups = some (.lst (List.replicate n (.bl true))) := upd_same
    have x_pups : pups ≠ x := (ne_of_none hx3 n_pups).symm
    generalize (upd H3 pups (.lst (List.replicate n (.bl true)))) = H4 at f4 hx4 hpups_4 ⊢
    refine ⟨_, rfl, x, _, dx, _, rfl, hx4, T.cl, T.n_ups, Nat.lt_of_le_of_lt (few_up (few_up (few0) _ _) _ _) (by decide), ?_⟩
    have f5 : Fr x H (upd H4 x (.ins (a 61) dx (putF "ups" (.ref pups) (putF "lease" (.int le) (putF "most_drift" (.ref dr) ([])))))) := f4.put
    have hx5 : (upd H4 x (.ins (a 61) dx (putF "ups" (.ref pups) (putF "lease" (.int le) (putF "most_drift" (.ref dr) ([])))))) x = some (.ins (a 61) dx (putF "ups" (.ref pups) (putF "lease" (.int le) (putF "most_drift" (.ref dr) ([]))))) := upd_same
    have hpups_5 : (upd H4 x (.ins (a 61) dx (putF "ups" (.ref pups) (putF "lease" (.int le) (putF "most_drift" (.ref dr) ([])))))) pups = some (.lst (List.replicate n (.bl true))) := by rw [upd_ne x_pups]; exact hpups_4
    generalize (upd H4 x (.ins (a 61) dx (putF "ups" (.ref pups) (putF "lease" (.int le) (putF "most_drift" (.ref dr) ([])))))) = H5 at f5 hx5 hpups_5 ⊢
    refine ⟨len1, fun thas n_thas => ?_⟩
    have f6 : Fr x H (upd H5 thas (.lst ([.int 0]))) := f5.new n_thas
    have hx6 : (upd H5 thas (.lst ([.int 0]))) x = some (.ins (a 61) dx (putF "ups" (.ref pups) (putF "lease" (.int le) (putF "most_drift" (.ref dr) ([]))))) := by rw [upd_ne (ne_of_none hx5 n_thas)]; exact hx5
    have hthas_6 : (upd H5 thas (.lst ([.int 0]))) thas = some (.lst ([.int 0])) := upd_same
    have x_thas : thas ≠ x := (ne_of_none hx5 n_thas).symm
    have hpups_6 : (upd H5 thas (.lst ([.int 0]))) pups = some (.lst (List.replicate n (.bl true))) := by rw [upd_ne (ne_of_none hpups_5 n_thas)]; exact hpups_5
    generalize (upd H5 thas (.lst ([.int 0]))) = H6 at f6 hx6 hthas_6 hpups_6 ⊢
    refine ⟨_, rfl, thas, (n : Int), _, rfl, rfl, hthas_6, by omega, by omega, Nat.le_trans (show _ ≤ 5 by simpa using hn5) (by decide), fun phas n_phas => ?_⟩
    rw [show (n : Int).toNat = n from Int.toNat_natCast n, rep_flat]
    have fr_phas : H phas = none := fr_free f6 hx6 n_phas
    have f7 : Fr x H (upd H6 phas (.lst (List.replicate n (.int 0)))) := f6.new n_phas
    have hx7 : (upd H6 phas (.lst (List.replicate n (.int 0)))) x = some (.ins (a 61) dx (putF "ups" (.ref pups) (putF "lease" (.int le) (putF "most_drift" (.ref dr) ([]))))) := by rw [upd_ne (ne_of_none hx6 n_phas)]; exact hx6
    have hphas_7 : (upd H6 phas (.lst (List.replicate n (.int 0)))) phas = some (.lst (List.replicate n (.int 0))) := upd_same
    have x_phas : phas ≠ x := (ne_of_none hx6 n_phas).symm
    have hpups_7 : (upd H6 phas (.lst (List.replicate n (.int 0)))) pups = some (.lst (List.replicate n (.bl true))) := by rw [upd_ne (ne_of_none hpups_6 n_phas)]; exact hpups_6
    generalize (upd H6 phas (.lst (List.replicate n (.int 0)))) = H7 at f7 hx7 hphas_7 hpups_7 ⊢
    refine ⟨_, rfl, x, _, dx, _, rfl, hx7, T.cl, T.n_has, Nat.lt_of_le_of_lt (few_up (few_up (few_up (few0) _ _) _ _) _ _) (by decide), ?_⟩
    have f8 : Fr x H (upd H7 x (.ins (a 61) dx (putF "has" (.ref phas) (putF "ups" (.ref pups) (putF "lease" (.int le) (putF "most_drift" (.ref dr) ([]))))))) := f7.put
    have hx8 : (upd H7 x (.ins (a 61) dx (putF "has" (.ref phas) (putF "ups" (.ref pups) (putF "lease" (.int le) (putF "most_drift" (.ref dr) ([]))))))) x = some (.ins (a 61) dx (putF "has" (.ref phas) (putF "ups" (.ref pups) (putF "lease" (.int le) (putF "most_drift" (.ref dr) ([])))))) := upd_same
    have hpups_8 : (upd H7 x (.ins (a 61) dx (putF "has" (.ref phas) (putF "ups" (.ref pups) (putF "lease" (.int le) (putF "most_drift" (.ref dr) ([]))))))) pups = some (.lst (List.replicate n (.bl true))) := by rw [upd_ne x_pups]; exact hpups_7
    have hphas_8 : (upd H7 x (.ins (a 61) dx (putF "has" (.ref phas) (putF "ups" (.ref pups) (putF "lease" (.int le) (putF "most_drift" (.ref dr) ([]))))))) phas = some (.lst (List.replicate n (.int 0))) := by rw [upd_ne x_phas]; exact hphas_7
    generalize (upd H7 x (.ins (a 61) dx (putF "has" (.ref phas) (putF "ups" (.ref pups) (putF "lease" (.int le) (putF "most_drift" (.ref dr) ([]))))))) = H8 at f8 hx8 hpups_8 hphas_8 ⊢
    refine ⟨len1, fun tsts n_tsts => ?_⟩
    have f9 : Fr x H (upd H8 tsts (.lst ([.non]))) := f8.new n_tsts
    have hx9 : (upd H8 tsts (.lst ([.non]))) x = some (.ins (a 61) dx (putF "has" (.ref phas) (putF "ups" (.ref pups) (putF "lease" (.int le) (putF "most_drift" (.ref dr) ([])))))) := by rw [upd_ne (ne_of_none hx8 n_tsts)]; exact hx8
    have htsts_9 : (upd H8 tsts (.lst ([.non]))) tsts = some (.lst ([.non])) := upd_same
    have x_tsts : tsts ≠ x := (ne_of_none hx8 n_tsts).symm
    have hpups_9 : (upd H8 tsts (.lst ([.non]))) pups = some (.lst (List.replicate n (.bl true))) := by rw [upd_ne (ne_of_none hpups_8 n_tsts)]; exact hpups_8
    have hphas_9 : (upd H8 tsts (.lst ([.non]))) phas = some (.lst (List.replicate n (.int 0))) := by rw [upd_ne (ne_of_none hphas_8 n_tsts)]; exact hphas_8
    generalize (upd H8 tsts (.lst ([.non]))) = H9 at f9 hx9 htsts_9 hpups_9 hphas_9 ⊢
    refine ⟨_, rfl, tsts, (n : Int), _, rfl, rfl, htsts_9, by omega, by omega, Nat.le_trans (show _ ≤ 5 by simpa using hn5) (by decide), fun psts n_psts => ?_⟩
    rw [show (n : Int).toNat = n from Int.toNat_natCast n, rep_flat]
    have fr_psts : H psts = none := fr_free f9 hx9 n_psts
    have f10 : Fr x H (upd H9 psts (.lst (List.replicate n (.non)))) := f9.new n_psts
    have hx10 : (upd H9 psts (.lst (List.replicate n (.non)))) x = some (.ins (a 61) dx (putF "has" (.ref phas) (putF "ups" (.ref pups) (putF "lease" (.int le) (putF "most_drift" (.ref dr) ([])))))) := by rw [upd_ne (ne_of_none hx9 n_psts)]; exact hx9
    have hpsts_10 : (upd H9 psts (.lst (List.replicate n (.non)))) psts = some (.lst (List.replicate n (.non))) := upd_same
    have x_psts : psts ≠ x := (ne_of_none hx9 n_psts).symm
    have hpups_10 : (upd H9 psts (.lst (List.replicate n (.non)))) pups = some (.lst (List.replicate n (.bl true))) := by rw [upd_ne (ne_of_none hpups_9 n_psts)]; exact hpups_9
    have hphas_10 : (upd H9 psts (.lst (List.replicate n (.non)))) phas = some (.lst (List.replicate n (.int 0))) := by rw [upd_ne (ne_of_none hphas_9 n_psts)]; exact hphas_9
    generalize (upd H9 psts (.lst (List.replicate n (.non)))) = H10 at f10 hx10 hpsts_10 hpups_10 hphas_10 ⊢
    refine ⟨_, rfl, x, _, dx, _, rfl, hx10, T.cl, T.n_stands, Nat.lt_of_le_of_lt (few_up (few_up (few_up (few_up (few0) _ _) _ _) _ _) _ _) (by decide), ?_⟩
    have f11 : Fr x H (upd H10 x (.ins (a 61) dx (putF "stands" (.ref psts) (putF "has" (.ref phas) (putF "ups" (.ref pups) (putF "lease" (.int le) (putF "most_drift" (.ref dr) ([])))))))) := f10.put
    have hx11 : (upd H10 x (.ins (a 61) dx (putF "stands" (.ref psts) (putF "has" (.ref phas) (putF "ups" (.ref pups) (putF "lease" (.int le) (putF "most_drift" (.ref dr) ([])))))))) x = some (.ins (a 61) dx (putF "stands" (.ref psts) (putF "has" (.ref phas) (putF "ups" (.ref pups) (putF "lease" (.int le) (putF "most_drift" (.ref dr) ([]))))))) := upd_same
    have hpups_11 : (upd H10 x (.ins (a 61) dx (putF "stands" (.ref psts) (putF "has" (.ref phas) (putF "ups" (.ref pups) (putF "lease" (.int le) (putF "most_drift" (.ref dr) ([])))))))) pups = some (.lst (List.replicate n (.bl true))) := by rw [upd_ne x_pups]; exact hpups_10
    have hphas_11 : (upd H10 x (.ins (a 61) dx (putF "stands" (.ref psts) (putF "has" (.ref phas) (putF "ups" (.ref pups) (putF "lease" (.int le) (putF "most_drift" (.ref dr) ([])))))))) phas = some (.lst (List.replicate n (.int 0))) := by rw [upd_ne x_phas]; exact hphas_10
    have hpsts_11 : (upd H10 x (.ins (a 61) dx (putF "stands" (.ref psts) (putF "has" (.ref phas) (putF "ups" (.ref pups) (putF "lease" (.int le) (putF "most_drift" (.ref dr) ([])))))))) psts = some (.lst (List.replicate n (.non))) := by rw [upd_ne x_psts]; exact hpsts_10
    generalize (upd H10 x (.ins (a 61) dx (putF "stands" (.ref psts) (putF "has" (.ref phas) (putF "ups" (.ref pups) (putF "lease" (.int le) (putF "most_drift" (.ref dr) ([])))))))) = H11 at f11 hx11 hpups_11 hphas_11 hpsts_11 ⊢
    refine ⟨len1, fun tcts n_tcts => ?_⟩
    have f12 : Fr x H (upd H11 tcts (.lst ([.int 0]))) := f11.new n_tcts
    have hx12 : (upd H11 tcts (.lst ([.int 0]))) x = some (.ins (a 61) dx (putF "stands" (.ref psts) (putF "has" (.ref phas) (putF "ups" (.ref pups) (putF "lease" (.int le) (putF "most_drift" (.ref dr) ([]))))))) := by rw [upd_ne (ne_of_none hx11 n_tcts)]; exact hx11
    have htcts_12 : (upd H11 tcts (.lst ([.int 0]))) tcts = some (.lst ([.int 0])) := upd_same
    have x_tcts : tcts ≠ x := (ne_of_none hx11 n_tcts).symm
    have hpups_12 : (upd H11 tcts (.lst ([.int 0]))) pups = some (.lst (List.replicate n (.bl true))) := by rw [upd_ne (ne_of_none hpups_11 n_tcts)]; exact hpups_11
    have hphas_12 : (upd H11 tcts (.lst ([.int 0]))) phas = some (.lst (List.replicate n (.int 0))) := by rw [upd_ne (ne_of_none hphas_11 n_tcts)]; exact hphas_11
    have hpsts_12 : (upd H11 tcts (.lst ([.int 0]))) psts = some (.lst (List.replicate n (.non))) := by rw [upd_ne (ne_of_none hpsts_11 n_tcts)]; exact hpsts_11
    generalize (upd H11 tcts (.lst ([.int 0]))) = H12 at f12 hx12 htcts_12 hpups_12 hphas_12 hpsts_12 ⊢
    refine ⟨_, rfl, tcts, (n : Int), _, rfl, rfl, htcts_12, by omega, by omega, Nat.le_trans (show _ ≤ 5 by simpa using hn5) (by decide), fun pcts n_pcts => ?_⟩
    rw [show (n : Int).toNat = n from Int.toNat_natCast n, rep_flat]
    have fr_pcts : H pcts = none := fr_free f12 hx12 n_pcts
    have f13 : Fr x H (upd H12 pcts (.lst (List.replicate n (.int 0)))) := f12.new n_pcts
    have hx13 : (upd H12 pcts (.lst (List.replicate n (.int 0)))) x = some (.ins (a 61) dx (putF "stands" (.ref psts) (putF "has" (.ref phas) (putF "ups" (.ref pups) (putF "lease" (.int le) (putF "most_drift" (.ref dr) ([]))))))) := by rw [upd_ne (ne_of_none hx12 n_pcts)]; exact hx12
    have hpcts_13 : (upd H12 pcts (.lst (List.replicate n (.int 0)))) pcts = some (.lst (List.replicate n (.int 0))) := upd_same
    have x_pcts : pcts ≠ x := (ne_of_none hx12 n_pcts).symm
    have hpups_13 : (upd H12 pcts (.lst (List.replicate n (.int 0)))) pups = some (.lst (List.replicate n (.bl true))) := by rw [upd_ne (ne_of_none hpups_12 n_pcts)]; exact hpups_12
    have hphas_13 : (upd H12 pcts (.lst (List.replicate n (.int 0)))) phas = some (.lst (List.replicate n (.int 0))) := by rw [upd_ne (ne_of_none hphas_12 n_pcts)]; exact hphas_12
    have hpsts_13 : (upd H12 pcts (.lst (List.replicate n (.int 0)))) psts = some (.lst (List.replicate n (.non))) := by rw [upd_ne (ne_of_none hpsts_12 n_pcts)]; exact hpsts_12
    generalize (upd H12 pcts (.lst (List.replicate n (.int 0)))) = H13 at f13 hx13 hpcts_13 hpups_13 hphas_13 hpsts_13 ⊢
    refine ⟨_, rfl, x, _, dx, _, rfl, hx13, T.cl, T.n_counts, Nat.lt_of_le_of_lt (few_up (few_up (few_up (few_up (few_up (few0) _ _) _ _) _ _) _ _) _ _) (by decide), ?_⟩
    have f14 : Fr x H (upd H13 x (.ins (a 61) dx (putF "counts" (.ref pcts) (putF "stands" (.ref psts) (putF "has" (.ref phas) (putF "ups" (.ref pups) (putF "lease" (.int le) (putF "most_drift" (.ref dr) ([]))))))))) := f13.put
    have hx14 : (upd H13 x (.ins (a 61) dx (putF "counts" (.ref pcts) (putF "stands" (.ref psts) (putF "has" (.ref phas) (putF "ups" (.ref pups) (putF "lease" (.int le) (putF "most_drift" (.ref dr) ([]))))))))) x = some (.ins (a 61) dx (putF "counts" (.ref pcts) (putF "stands" (.ref psts) (putF "has" (.ref phas) (putF "ups" (.ref pups) (putF "lease" (.int le) (putF "most_drift" (.ref dr) ([])))))))) := upd_same
    have hpups_14 : (upd H13 x (.ins (a 61) dx (putF "counts" (.ref pcts) (putF "stands" (.ref psts) (putF "has" (.ref phas) (putF "ups" (.ref pups) (putF "lease" (.int le) (putF "most_drift" (.ref dr) ([]))))))))) pups = some (.lst (List.replicate n (.bl true))) := by rw [upd_ne x_pups]; exact hpups_13
    have hphas_14 : (upd H13 x (.ins (a 61) dx (putF "counts" (.ref pcts) (putF "stands" (.ref psts) (putF "has" (.ref phas) (putF "ups" (.ref pups) (putF "lease" (.int le) (putF "most_drift" (.ref dr) ([]))))))))) phas = some (.lst (List.replicate n (.int 0))) := by rw [upd_ne x_phas]; exact hphas_13
    have hpsts_14 : (upd H13 x (.ins (a 61) dx (putF "counts" (.ref pcts) (putF "stands" (.ref psts) (putF "has" (.ref phas) (putF "ups" (.ref pups) (putF "lease" (.int le) (putF "most_drift" (.ref dr) ([]))))))))) psts = some (.lst (List.replicate n (.non))) := by rw [upd_ne x_psts]; exact hpsts_13
    have hpcts_14 : (upd H13 x (.ins (a 61) dx (putF "counts" (.ref pcts) (putF "stands" (.ref psts) (putF "has" (.ref phas) (putF "ups" (.ref pups) (putF "lease" (.int le) (putF "most_drift" (.ref dr) ([]))))))))) pcts = some (.lst (List.replicate n (.int 0))) := by rw [upd_ne x_pcts]; exact hpcts_13
    generalize (upd H13 x (.ins (a 61) dx (putF "counts" (.ref pcts) (putF "stands" (.ref psts) (putF "has" (.ref phas) (putF "ups" (.ref pups) (putF "lease" (.int le) (putF "most_drift" (.ref dr) ([]))))))))) = H14 at f14 hx14 hpups_14 hphas_14 hpsts_14 hpcts_14 ⊢
    refine ⟨len1, fun tsps n_tsps => ?_⟩
    have f15 : Fr x H (upd H14 tsps (.lst ([.non]))) := f14.new n_tsps
    have hx15 : (upd H14 tsps (.lst ([.non]))) x = some (.ins (a 61) dx (putF "counts" (.ref pcts) (putF "stands" (.ref psts) (putF "has" (.ref phas) (putF "ups" (.ref pups) (putF "lease" (.int le) (putF "most_drift" (.ref dr) ([])))))))) := by rw [upd_ne (ne_of_none hx14 n_tsps)]; exact hx14
    have htsps_15 : (upd H14 tsps (.lst ([.non]))) tsps = some (.lst ([.non])) := upd_same
    have x_tsps : tsps ≠ x := (ne_of_none hx14 n_tsps).symm
    have hpups_15 : (upd H14 tsps (.lst ([.non]))) pups = some (.lst (List.replicate n (.bl true))) := by rw [upd_ne (ne_of_none hpups_14 n_tsps)]; exact hpups_14
    have hphas_15 : (upd H14 tsps (.lst ([.non]))) phas = some (.lst (List.replicate n (.int 0))) := by rw [upd_ne (ne_of_none hphas_14 n_tsps)]; exact hphas_14
    have hpsts_15 : (upd H14 tsps (.lst ([.non]))) psts = some (.lst (List.replicate n (.non))) := by rw [upd_ne (ne_of_none hpsts_14 n_tsps)]; exact hpsts_14
    have hpcts_15 : (upd H14 tsps (.lst ([.non]))) pcts = some (.lst (List.replicate n (.int 0))) := by rw [upd_ne (ne_of_none hpcts_14 n_tsps)]; exact hpcts_14
    generalize (upd H14 tsps (.lst ([.non]))) = H15 at f15 hx15 htsps_15 hpups_15 hphas_15 hpsts_15 hpcts_15 ⊢
    refine ⟨_, rfl, tsps, (n : Int), _, rfl, rfl, htsps_15, by omega, by omega, Nat.le_trans (show _ ≤ 5 by simpa using hn5) (by decide), fun psps n_psps => ?_⟩
    rw [show (n : Int).toNat = n from Int.toNat_natCast n, rep_flat]
    have fr_psps : H psps = none := fr_free f15 hx15 n_psps
    have f16 : Fr x H (upd H15 psps (.lst (List.replicate n (.non)))) := f15.new n_psps
    have hx16 : (upd H15 psps (.lst (List.replicate n (.non)))) x = some (.ins (a 61) dx (putF "counts" (.ref pcts) (putF "stands" (.ref psts) (putF "has" (.ref phas) (putF "ups" (.ref pups) (putF "lease" (.int le) (putF "most_drift" (.ref dr) ([])))))))) := by rw [upd_ne (ne_of_none hx15 n_psps)]; exact hx15
    have hpsps_16 : (upd H15 psps (.lst (List.replicate n (.non)))) psps = some (.lst (List.replicate n (.non))) := upd_same
    have x_psps : psps ≠ x := (ne_of_none hx15 n_psps).symm
    have hpups_16 : (upd H15 psps (.lst (List.replicate n (.non)))) pups = some (.lst (List.replicate n (.bl true))) := by rw [upd_ne (ne_of_none hpups_15 n_psps)]; exact hpups_15
    have hphas_16 : (upd H15 psps (.lst (List.replicate n (.non)))) phas = some (.lst (List.replicate n (.int 0))) := by rw [upd_ne (ne_of_none hphas_15 n_psps)]; exact hphas_15
    have hpsts_16 : (upd H15 psps (.lst (List.replicate n (.non)))) psts = some (.lst (List.replicate n (.non))) := by rw [upd_ne (ne_of_none hpsts_15 n_psps)]; exact hpsts_15
    have hpcts_16 : (upd H15 psps (.lst (List.replicate n (.non)))) pcts = some (.lst (List.replicate n (.int 0))) := by rw [upd_ne (ne_of_none hpcts_15 n_psps)]; exact hpcts_15
    generalize (upd H15 psps (.lst (List.replicate n (.non)))) = H16 at f16 hx16 hpsps_16 hpups_16 hphas_16 hpsts_16 hpcts_16 ⊢
    refine ⟨_, rfl, x, _, dx, _, rfl, hx16, T.cl, T.n_spans, Nat.lt_of_le_of_lt (few_up (few_up (few_up (few_up (few_up (few_up (few0) _ _) _ _) _ _) _ _) _ _) _ _) (by decide), ?_⟩
    have f17 : Fr x H (upd H16 x (.ins (a 61) dx (putF "spans" (.ref psps) (putF "counts" (.ref pcts) (putF "stands" (.ref psts) (putF "has" (.ref phas) (putF "ups" (.ref pups) (putF "lease" (.int le) (putF "most_drift" (.ref dr) ([])))))))))) := f16.put
    have hx17 : (upd H16 x (.ins (a 61) dx (putF "spans" (.ref psps) (putF "counts" (.ref pcts) (putF "stands" (.ref psts) (putF "has" (.ref phas) (putF "ups" (.ref pups) (putF "lease" (.int le) (putF "most_drift" (.ref dr) ([])))))))))) x = some (.ins (a 61) dx (putF "spans" (.ref psps) (putF "counts" (.ref pcts) (putF "stands" (.ref psts) (putF "has" (.ref phas) (putF "ups" (.ref pups) (putF "lease" (.int le) (putF "most_drift" (.ref dr) ([]))))))))) := upd_same
    have hpups_17 : (upd H16 x (.ins (a 61) dx (putF "spans" (.ref psps) (putF "counts" (.ref pcts) (putF "stands" (.ref psts) (putF "has" (.ref phas) (putF "ups" (.ref pups) (putF "lease" (.int le) (putF "most_drift" (.ref dr) ([])))))))))) pups = some (.lst (List.replicate n (.bl true))) := by rw [upd_ne x_pups]; exact hpups_16
    have hphas_17 : (upd H16 x (.ins (a 61) dx (putF "spans" (.ref psps) (putF "counts" (.ref pcts) (putF "stands" (.ref psts) (putF "has" (.ref phas) (putF "ups" (.ref pups) (putF "lease" (.int le) (putF "most_drift" (.ref dr) ([])))))))))) phas = some (.lst (List.replicate n (.int 0))) := by rw [upd_ne x_phas]; exact hphas_16
    have hpsts_17 : (upd H16 x (.ins (a 61) dx (putF "spans" (.ref psps) (putF "counts" (.ref pcts) (putF "stands" (.ref psts) (putF "has" (.ref phas) (putF "ups" (.ref pups) (putF "lease" (.int le) (putF "most_drift" (.ref dr) ([])))))))))) psts = some (.lst (List.replicate n (.non))) := by rw [upd_ne x_psts]; exact hpsts_16
    have hpcts_17 : (upd H16 x (.ins (a 61) dx (putF "spans" (.ref psps) (putF "counts" (.ref pcts) (putF "stands" (.ref psts) (putF "has" (.ref phas) (putF "ups" (.ref pups) (putF "lease" (.int le) (putF "most_drift" (.ref dr) ([])))))))))) pcts = some (.lst (List.replicate n (.int 0))) := by rw [upd_ne x_pcts]; exact hpcts_16
    have hpsps_17 : (upd H16 x (.ins (a 61) dx (putF "spans" (.ref psps) (putF "counts" (.ref pcts) (putF "stands" (.ref psts) (putF "has" (.ref phas) (putF "ups" (.ref pups) (putF "lease" (.int le) (putF "most_drift" (.ref dr) ([])))))))))) psps = some (.lst (List.replicate n (.non))) := by rw [upd_ne x_psps]; exact hpsps_16
    generalize (upd H16 x (.ins (a 61) dx (putF "spans" (.ref psps) (putF "counts" (.ref pcts) (putF "stands" (.ref psts) (putF "has" (.ref phas) (putF "ups" (.ref pups) (putF "lease" (.int le) (putF "most_drift" (.ref dr) ([])))))))))) = H17 at f17 hx17 hpups_17 hphas_17 hpsts_17 hpcts_17 hpsps_17 ⊢
    refine ⟨len1, fun tprs n_tprs => ?_⟩
    have f18 : Fr x H (upd H17 tprs (.lst ([.non]))) := f17.new n_tprs
    have hx18 : (upd H17 tprs (.lst ([.non]))) x = some (.ins (a 61) dx (putF "spans" (.ref psps) (putF "counts" (.ref pcts) (putF "stands" (.ref psts) (putF "has" (.ref phas) (putF "ups" (.ref pups) (putF "lease" (.int le) (putF "most_drift" (.ref dr) ([]))))))))) := by rw [upd_ne (ne_of_none hx17 n_tprs)]; exact hx17
    have htprs_18 : (upd H17 tprs (.lst ([.non]))) tprs = some (.lst ([.non])) := upd_same
    have x_tprs : tprs ≠ x := (ne_of_none hx17 n_tprs).symm
    have hpups_18 : (upd H17 tprs (.lst ([.non]))) pups = some (.lst (List.replicate n (.bl true))) := by rw [upd_ne (ne_of_none hpups_17 n_tprs)]; exact hpups_17
    have hphas_18 : (upd H17 tprs (.lst ([.non]))) phas = some (.lst (List.replicate n (.int 0))) := by rw [upd_ne (ne_of_none hphas_17 n_tprs)]; exact hphas_17
    have hpsts_18 : (upd H17 tprs (.lst ([.non]))) psts = some (.lst (List.replicate n (.non))) := by rw [upd_ne (ne_of_none hpsts_17 n_tprs)]; exact hpsts_17
    have hpcts_18 : (upd H17 tprs (.lst ([.non]))) pcts = some (.lst (List.replicate n (.int 0))) := by rw [upd_ne (ne_of_none hpcts_17 n_tprs)]; exact hpcts_17
    have hpsps_18 : (upd H17 tprs (.lst ([.non]))) psps = some (.lst (List.replicate n (.non))) := by rw [upd_ne (ne_of_none hpsps_17 n_tprs)]; exact hpsps_17
    generalize (upd H17 tprs (.lst ([.non]))) = H18 at f18 hx18 htprs_18 hpups_18 hphas_18 hpsts_18 hpcts_18 hpsps_18 ⊢
    refine ⟨_, rfl, tprs, (n : Int), _, rfl, rfl, htprs_18, by omega, by omega, Nat.le_trans (show _ ≤ 5 by simpa using hn5) (by decide), fun pprs n_pprs => ?_⟩
    rw [show (n : Int).toNat = n from Int.toNat_natCast n, rep_flat]
    have fr_pprs : H pprs = none := fr_free f18 hx18 n_pprs
    have f19 : Fr x H (upd H18 pprs (.lst (List.replicate n (.non)))) := f18.new n_pprs
    have hx19 : (upd H18 pprs (.lst (List.replicate n (.non)))) x = some (.ins (a 61) dx (putF "spans" (.ref psps) (putF "counts" (.ref pcts) (putF "stands" (.ref psts) (putF "has" (.ref phas) (putF "ups" (.ref pups) (putF "lease" (.int le) (putF "most_drift" (.ref dr) ([]))))))))) := by rw [upd_ne (ne_of_none hx18 n_pprs)]; exact hx18
    have hpprs_19 : (upd H18 pprs (.lst (List.replicate n (.non)))) pprs = some (.lst (List.replicate n (.non))) := upd_same
    have x_pprs : pprs ≠ x := (ne_of_none hx18 n_pprs).symm
    have hpups_19 : (upd H18 pprs (.lst (List.replicate n (.non)))) pups = some (.lst (List.replicate n (.bl true))) := by rw [upd_ne (ne_of_none hpups_18 n_pprs)]; exact hpups_18
    have hphas_19 : (upd H18 pprs (.lst (List.replicate n (.non)))) phas = some (.lst (List.replicate n (.int 0))) := by rw [upd_ne (ne_of_none hphas_18 n_pprs)]; exact hphas_18
    have hpsts_19 : (upd H18 pprs (.lst (List.replicate n (.non)))) psts = some (.lst (List.replicate n (.non))) := by rw [upd_ne (ne_of_none hpsts_18 n_pprs)]; exact hpsts_18
    have hpcts_19 : (upd H18 pprs (.lst (List.replicate n (.non)))) pcts = some (.lst (List.replicate n (.int 0))) := by rw [upd_ne (ne_of_none hpcts_18 n_pprs)]; exact hpcts_18
    have hpsps_19 : (upd H18 pprs (.lst (List.replicate n (.non)))) psps = some (.lst (List.replicate n (.non))) := by rw [upd_ne (ne_of_none hpsps_18 n_pprs)]; exact hpsps_18
    generalize (upd H18 pprs (.lst (List.replicate n (.non)))) = H19 at f19 hx19 hpprs_19 hpups_19 hphas_19 hpsts_19 hpcts_19 hpsps_19 ⊢
    refine ⟨_, rfl, x, _, dx, _, rfl, hx19, T.cl, T.n_promises, Nat.lt_of_le_of_lt (few_up (few_up (few_up (few_up (few_up (few_up (few_up (few0) _ _) _ _) _ _) _ _) _ _) _ _) _ _) (by decide), ?_⟩
    have f20 : Fr x H (upd H19 x (.ins (a 61) dx (putF "promises" (.ref pprs) (putF "spans" (.ref psps) (putF "counts" (.ref pcts) (putF "stands" (.ref psts) (putF "has" (.ref phas) (putF "ups" (.ref pups) (putF "lease" (.int le) (putF "most_drift" (.ref dr) ([]))))))))))) := f19.put
    have hx20 : (upd H19 x (.ins (a 61) dx (putF "promises" (.ref pprs) (putF "spans" (.ref psps) (putF "counts" (.ref pcts) (putF "stands" (.ref psts) (putF "has" (.ref phas) (putF "ups" (.ref pups) (putF "lease" (.int le) (putF "most_drift" (.ref dr) ([]))))))))))) x = some (.ins (a 61) dx (putF "promises" (.ref pprs) (putF "spans" (.ref psps) (putF "counts" (.ref pcts) (putF "stands" (.ref psts) (putF "has" (.ref phas) (putF "ups" (.ref pups) (putF "lease" (.int le) (putF "most_drift" (.ref dr) ([])))))))))) := upd_same
    have hpups_20 : (upd H19 x (.ins (a 61) dx (putF "promises" (.ref pprs) (putF "spans" (.ref psps) (putF "counts" (.ref pcts) (putF "stands" (.ref psts) (putF "has" (.ref phas) (putF "ups" (.ref pups) (putF "lease" (.int le) (putF "most_drift" (.ref dr) ([]))))))))))) pups = some (.lst (List.replicate n (.bl true))) := by rw [upd_ne x_pups]; exact hpups_19
    have hphas_20 : (upd H19 x (.ins (a 61) dx (putF "promises" (.ref pprs) (putF "spans" (.ref psps) (putF "counts" (.ref pcts) (putF "stands" (.ref psts) (putF "has" (.ref phas) (putF "ups" (.ref pups) (putF "lease" (.int le) (putF "most_drift" (.ref dr) ([]))))))))))) phas = some (.lst (List.replicate n (.int 0))) := by rw [upd_ne x_phas]; exact hphas_19
    have hpsts_20 : (upd H19 x (.ins (a 61) dx (putF "promises" (.ref pprs) (putF "spans" (.ref psps) (putF "counts" (.ref pcts) (putF "stands" (.ref psts) (putF "has" (.ref phas) (putF "ups" (.ref pups) (putF "lease" (.int le) (putF "most_drift" (.ref dr) ([]))))))))))) psts = some (.lst (List.replicate n (.non))) := by rw [upd_ne x_psts]; exact hpsts_19
    have hpcts_20 : (upd H19 x (.ins (a 61) dx (putF "promises" (.ref pprs) (putF "spans" (.ref psps) (putF "counts" (.ref pcts) (putF "stands" (.ref psts) (putF "has" (.ref phas) (putF "ups" (.ref pups) (putF "lease" (.int le) (putF "most_drift" (.ref dr) ([]))))))))))) pcts = some (.lst (List.replicate n (.int 0))) := by rw [upd_ne x_pcts]; exact hpcts_19
    have hpsps_20 : (upd H19 x (.ins (a 61) dx (putF "promises" (.ref pprs) (putF "spans" (.ref psps) (putF "counts" (.ref pcts) (putF "stands" (.ref psts) (putF "has" (.ref phas) (putF "ups" (.ref pups) (putF "lease" (.int le) (putF "most_drift" (.ref dr) ([]))))))))))) psps = some (.lst (List.replicate n (.non))) := by rw [upd_ne x_psps]; exact hpsps_19
    have hpprs_20 : (upd H19 x (.ins (a 61) dx (putF "promises" (.ref pprs) (putF "spans" (.ref psps) (putF "counts" (.ref pcts) (putF "stands" (.ref psts) (putF "has" (.ref phas) (putF "ups" (.ref pups) (putF "lease" (.int le) (putF "most_drift" (.ref dr) ([]))))))))))) pprs = some (.lst (List.replicate n (.non))) := by rw [upd_ne x_pprs]; exact hpprs_19
    generalize (upd H19 x (.ins (a 61) dx (putF "promises" (.ref pprs) (putF "spans" (.ref psps) (putF "counts" (.ref pcts) (putF "stands" (.ref psts) (putF "has" (.ref phas) (putF "ups" (.ref pups) (putF "lease" (.int le) (putF "most_drift" (.ref dr) ([]))))))))))) = H20 at f20 hx20 hpups_20 hphas_20 hpsts_20 hpcts_20 hpsps_20 hpprs_20 ⊢
    refine ⟨len1, fun tpins n_tpins => ?_⟩
    have f21 : Fr x H (upd H20 tpins (.lst ([.int 0]))) := f20.new n_tpins
    have hx21 : (upd H20 tpins (.lst ([.int 0]))) x = some (.ins (a 61) dx (putF "promises" (.ref pprs) (putF "spans" (.ref psps) (putF "counts" (.ref pcts) (putF "stands" (.ref psts) (putF "has" (.ref phas) (putF "ups" (.ref pups) (putF "lease" (.int le) (putF "most_drift" (.ref dr) ([])))))))))) := by rw [upd_ne (ne_of_none hx20 n_tpins)]; exact hx20
    have htpins_21 : (upd H20 tpins (.lst ([.int 0]))) tpins = some (.lst ([.int 0])) := upd_same
    have x_tpins : tpins ≠ x := (ne_of_none hx20 n_tpins).symm
    have hpups_21 : (upd H20 tpins (.lst ([.int 0]))) pups = some (.lst (List.replicate n (.bl true))) := by rw [upd_ne (ne_of_none hpups_20 n_tpins)]; exact hpups_20
    have hphas_21 : (upd H20 tpins (.lst ([.int 0]))) phas = some (.lst (List.replicate n (.int 0))) := by rw [upd_ne (ne_of_none hphas_20 n_tpins)]; exact hphas_20
    have hpsts_21 : (upd H20 tpins (.lst ([.int 0]))) psts = some (.lst (List.replicate n (.non))) := by rw [upd_ne (ne_of_none hpsts_20 n_tpins)]; exact hpsts_20
    have hpcts_21 : (upd H20 tpins (.lst ([.int 0]))) pcts = some (.lst (List.replicate n (.int 0))) := by rw [upd_ne (ne_of_none hpcts_20 n_tpins)]; exact hpcts_20
    have hpsps_21 : (upd H20 tpins (.lst ([.int 0]))) psps = some (.lst (List.replicate n (.non))) := by rw [upd_ne (ne_of_none hpsps_20 n_tpins)]; exact hpsps_20
    have hpprs_21 : (upd H20 tpins (.lst ([.int 0]))) pprs = some (.lst (List.replicate n (.non))) := by rw [upd_ne (ne_of_none hpprs_20 n_tpins)]; exact hpprs_20
    generalize (upd H20 tpins (.lst ([.int 0]))) = H21 at f21 hx21 htpins_21 hpups_21 hphas_21 hpsts_21 hpcts_21 hpsps_21 hpprs_21 ⊢
    refine ⟨_, rfl, tpins, (n : Int), _, rfl, rfl, htpins_21, by omega, by omega, Nat.le_trans (show _ ≤ 5 by simpa using hn5) (by decide), fun ppins n_ppins => ?_⟩
    rw [show (n : Int).toNat = n from Int.toNat_natCast n, rep_flat]
    have fr_ppins : H ppins = none := fr_free f21 hx21 n_ppins
    have f22 : Fr x H (upd H21 ppins (.lst (List.replicate n (.int 0)))) := f21.new n_ppins
    have hx22 : (upd H21 ppins (.lst (List.replicate n (.int 0)))) x = some (.ins (a 61) dx (putF "promises" (.ref pprs) (putF "spans" (.ref psps) (putF "counts" (.ref pcts) (putF "stands" (.ref psts) (putF "has" (.ref phas) (putF "ups" (.ref pups) (putF "lease" (.int le) (putF "most_drift" (.ref dr) ([])))))))))) := by rw [upd_ne (ne_of_none hx21 n_ppins)]; exact hx21
    have hppins_22 : (upd H21 ppins (.lst (List.replicate n (.int 0)))) ppins = some (.lst (List.replicate n (.int 0))) := upd_same
    have x_ppins : ppins ≠ x := (ne_of_none hx21 n_ppins).symm
    have hpups_22 : (upd H21 ppins (.lst (List.replicate n (.int 0)))) pups = some (.lst (List.replicate n (.bl true))) := by rw [upd_ne (ne_of_none hpups_21 n_ppins)]; exact hpups_21
    have hphas_22 : (upd H21 ppins (.lst (List.replicate n (.int 0)))) phas = some (.lst (List.replicate n (.int 0))) := by rw [upd_ne (ne_of_none hphas_21 n_ppins)]; exact hphas_21
    have hpsts_22 : (upd H21 ppins (.lst (List.replicate n (.int 0)))) psts = some (.lst (List.replicate n (.non))) := by rw [upd_ne (ne_of_none hpsts_21 n_ppins)]; exact hpsts_21
    have hpcts_22 : (upd H21 ppins (.lst (List.replicate n (.int 0)))) pcts = some (.lst (List.replicate n (.int 0))) := by rw [upd_ne (ne_of_none hpcts_21 n_ppins)]; exact hpcts_21
    have hpsps_22 : (upd H21 ppins (.lst (List.replicate n (.int 0)))) psps = some (.lst (List.replicate n (.non))) := by rw [upd_ne (ne_of_none hpsps_21 n_ppins)]; exact hpsps_21
    have hpprs_22 : (upd H21 ppins (.lst (List.replicate n (.int 0)))) pprs = some (.lst (List.replicate n (.non))) := by rw [upd_ne (ne_of_none hpprs_21 n_ppins)]; exact hpprs_21
    generalize (upd H21 ppins (.lst (List.replicate n (.int 0)))) = H22 at f22 hx22 hppins_22 hpups_22 hphas_22 hpsts_22 hpcts_22 hpsps_22 hpprs_22 ⊢
    refine ⟨_, rfl, x, _, dx, _, rfl, hx22, T.cl, T.n_promised_in, Nat.lt_of_le_of_lt (few_up (few_up (few_up (few_up (few_up (few_up (few_up (few_up (few0) _ _) _ _) _ _) _ _) _ _) _ _) _ _) _ _) (by decide), ?_⟩
    have f23 : Fr x H (upd H22 x (.ins (a 61) dx (putF "promised_in" (.ref ppins) (putF "promises" (.ref pprs) (putF "spans" (.ref psps) (putF "counts" (.ref pcts) (putF "stands" (.ref psts) (putF "has" (.ref phas) (putF "ups" (.ref pups) (putF "lease" (.int le) (putF "most_drift" (.ref dr) ([])))))))))))) := f22.put
    have hx23 : (upd H22 x (.ins (a 61) dx (putF "promised_in" (.ref ppins) (putF "promises" (.ref pprs) (putF "spans" (.ref psps) (putF "counts" (.ref pcts) (putF "stands" (.ref psts) (putF "has" (.ref phas) (putF "ups" (.ref pups) (putF "lease" (.int le) (putF "most_drift" (.ref dr) ([])))))))))))) x = some (.ins (a 61) dx (putF "promised_in" (.ref ppins) (putF "promises" (.ref pprs) (putF "spans" (.ref psps) (putF "counts" (.ref pcts) (putF "stands" (.ref psts) (putF "has" (.ref phas) (putF "ups" (.ref pups) (putF "lease" (.int le) (putF "most_drift" (.ref dr) ([]))))))))))) := upd_same
    have hpups_23 : (upd H22 x (.ins (a 61) dx (putF "promised_in" (.ref ppins) (putF "promises" (.ref pprs) (putF "spans" (.ref psps) (putF "counts" (.ref pcts) (putF "stands" (.ref psts) (putF "has" (.ref phas) (putF "ups" (.ref pups) (putF "lease" (.int le) (putF "most_drift" (.ref dr) ([])))))))))))) pups = some (.lst (List.replicate n (.bl true))) := by rw [upd_ne x_pups]; exact hpups_22
    have hphas_23 : (upd H22 x (.ins (a 61) dx (putF "promised_in" (.ref ppins) (putF "promises" (.ref pprs) (putF "spans" (.ref psps) (putF "counts" (.ref pcts) (putF "stands" (.ref psts) (putF "has" (.ref phas) (putF "ups" (.ref pups) (putF "lease" (.int le) (putF "most_drift" (.ref dr) ([])))))))))))) phas = some (.lst (List.replicate n (.int 0))) := by rw [upd_ne x_phas]; exact hphas_22
    have hpsts_23 : (upd H22 x (.ins (a 61) dx (putF "promised_in" (.ref ppins) (putF "promises" (.ref pprs) (putF "spans" (.ref psps) (putF "counts" (.ref pcts) (putF "stands" (.ref psts) (putF "has" (.ref phas) (putF "ups" (.ref pups) (putF "lease" (.int le) (putF "most_drift" (.ref dr) ([])))))))))))) psts = some (.lst (List.replicate n (.non))) := by rw [upd_ne x_psts]; exact hpsts_22
    have hpcts_23 : (upd H22 x (.ins (a 61) dx (putF "promised_in" (.ref ppins) (putF "promises" (.ref pprs) (putF "spans" (.ref psps) (putF "counts" (.ref pcts) (putF "stands" (.ref psts) (putF "has" (.ref phas) (putF "ups" (.ref pups) (putF "lease" (.int le) (putF "most_drift" (.ref dr) ([])))))))))))) pcts = some (.lst (List.replicate n (.int 0))) := by rw [upd_ne x_pcts]; exact hpcts_22
    have hpsps_23 : (upd H22 x (.ins (a 61) dx (putF "promised_in" (.ref ppins) (putF "promises" (.ref pprs) (putF "spans" (.ref psps) (putF "counts" (.ref pcts) (putF "stands" (.ref psts) (putF "has" (.ref phas) (putF "ups" (.ref pups) (putF "lease" (.int le) (putF "most_drift" (.ref dr) ([])))))))))))) psps = some (.lst (List.replicate n (.non))) := by rw [upd_ne x_psps]; exact hpsps_22
    have hpprs_23 : (upd H22 x (.ins (a 61) dx (putF "promised_in" (.ref ppins) (putF "promises" (.ref pprs) (putF "spans" (.ref psps) (putF "counts" (.ref pcts) (putF "stands" (.ref psts) (putF "has" (.ref phas) (putF "ups" (.ref pups) (putF "lease" (.int le) (putF "most_drift" (.ref dr) ([])))))))))))) pprs = some (.lst (List.replicate n (.non))) := by rw [upd_ne x_pprs]; exact hpprs_22
    have hppins_23 : (upd H22 x (.ins (a 61) dx (putF "promised_in" (.ref ppins) (putF "promises" (.ref pprs) (putF "spans" (.ref psps) (putF "counts" (.ref pcts) (putF "stands" (.ref psts) (putF "has" (.ref phas) (putF "ups" (.ref pups) (putF "lease" (.int le) (putF "most_drift" (.ref dr) ([])))))))))))) ppins = some (.lst (List.replicate n (.int 0))) := by rw [upd_ne x_ppins]; exact hppins_22
    generalize (upd H22 x (.ins (a 61) dx (putF "promised_in" (.ref ppins) (putF "promises" (.ref pprs) (putF "spans" (.ref psps) (putF "counts" (.ref pcts) (putF "stands" (.ref psts) (putF "has" (.ref phas) (putF "ups" (.ref pups) (putF "lease" (.int le) (putF "most_drift" (.ref dr) ([])))))))))))) = H23 at f23 hx23 hpups_23 hphas_23 hpsts_23 hpcts_23 hpsps_23 hpprs_23 hppins_23 ⊢
    refine ⟨len1, fun trts n_trts => ?_⟩
    have f24 : Fr x H (upd H23 trts (.lst ([.non]))) := f23.new n_trts
    have hx24 : (upd H23 trts (.lst ([.non]))) x = some (.ins (a 61) dx (putF "promised_in" (.ref ppins) (putF "promises" (.ref pprs) (putF "spans" (.ref psps) (putF "counts" (.ref pcts) (putF "stands" (.ref psts) (putF "has" (.ref phas) (putF "ups" (.ref pups) (putF "lease" (.int le) (putF "most_drift" (.ref dr) ([]))))))))))) := by rw [upd_ne (ne_of_none hx23 n_trts)]; exact hx23
    have htrts_24 : (upd H23 trts (.lst ([.non]))) trts = some (.lst ([.non])) := upd_same
    have x_trts : trts ≠ x := (ne_of_none hx23 n_trts).symm
    have hpups_24 : (upd H23 trts (.lst ([.non]))) pups = some (.lst (List.replicate n (.bl true))) := by rw [upd_ne (ne_of_none hpups_23 n_trts)]; exact hpups_23
    have hphas_24 : (upd H23 trts (.lst ([.non]))) phas = some (.lst (List.replicate n (.int 0))) := by rw [upd_ne (ne_of_none hphas_23 n_trts)]; exact hphas_23
    have hpsts_24 : (upd H23 trts (.lst ([.non]))) psts = some (.lst (List.replicate n (.non))) := by rw [upd_ne (ne_of_none hpsts_23 n_trts)]; exact hpsts_23
    have hpcts_24 : (upd H23 trts (.lst ([.non]))) pcts = some (.lst (List.replicate n (.int 0))) := by rw [upd_ne (ne_of_none hpcts_23 n_trts)]; exact hpcts_23
    have hpsps_24 : (upd H23 trts (.lst ([.non]))) psps = some (.lst (List.replicate n (.non))) := by rw [upd_ne (ne_of_none hpsps_23 n_trts)]; exact hpsps_23
    have hpprs_24 : (upd H23 trts (.lst ([.non]))) pprs = some (.lst (List.replicate n (.non))) := by rw [upd_ne (ne_of_none hpprs_23 n_trts)]; exact hpprs_23
    have hppins_24 : (upd H23 trts (.lst ([.non]))) ppins = some (.lst (List.replicate n (.int 0))) := by rw [upd_ne (ne_of_none hppins_23 n_trts)]; exact hppins_23
    generalize (upd H23 trts (.lst ([.non]))) = H24 at f24 hx24 htrts_24 hpups_24 hphas_24 hpsts_24 hpcts_24 hpsps_24 hpprs_24 hppins_24 ⊢
    refine ⟨_, rfl, trts, (n : Int), _, rfl, rfl, htrts_24, by omega, by omega, Nat.le_trans (show _ ≤ 5 by simpa using hn5) (by decide), fun prts n_prts => ?_⟩
    rw [show (n : Int).toNat = n from Int.toNat_natCast n, rep_flat]
    have fr_prts : H prts = none := fr_free f24 hx24 n_prts
    have f25 : Fr x H (upd H24 prts (.lst (List.replicate n (.non)))) := f24.new n_prts
    have hx25 : (upd H24 prts (.lst (List.replicate n (.non)))) x = some (.ins (a 61) dx (putF "promised_in" (.ref ppins) (putF "promises" (.ref pprs) (putF "spans" (.ref psps) (putF "counts" (.ref pcts) (putF "stands" (.ref psts) (putF "has" (.ref phas) (putF "ups" (.ref pups) (putF "lease" (.int le) (putF "most_drift" (.ref dr) ([]))))))))))) := by rw [upd_ne (ne_of_none hx24 n_prts)]; exact hx24
    have hprts_25 : (upd H24 prts (.lst (List.replicate n (.non)))) prts = some (.lst (List.replicate n (.non))) := upd_same
    have x_prts : prts ≠ x := (ne_of_none hx24 n_prts).symm
    have hpups_25 : (upd H24 prts (.lst (List.replicate n (.non)))) pups = some (.lst (List.replicate n (.bl true))) := by rw [upd_ne (ne_of_none hpups_24 n_prts)]; exact hpups_24
    have hphas_25 : (upd H24 prts (.lst (List.replicate n (.non)))) phas = some (.lst (List.replicate n (.int 0))) := by rw [upd_ne (ne_of_none hphas_24 n_prts)]; exact hphas_24
    have hpsts_25 : (upd H24 prts (.lst (List.replicate n (.non)))) psts = some (.lst (List.replicate n (.non))) := by rw [upd_ne (ne_of_none hpsts_24 n_prts)]; exact hpsts_24
    have hpcts_25 : (upd H24 prts (.lst (List.replicate n (.non)))) pcts = some (.lst (List.replicate n (.int 0))) := by rw [upd_ne (ne_of_none hpcts_24 n_prts)]; exact hpcts_24
    have hpsps_25 : (upd H24 prts (.lst (List.replicate n (.non)))) psps = some (.lst (List.replicate n (.non))) := by rw [upd_ne (ne_of_none hpsps_24 n_prts)]; exact hpsps_24
    have hpprs_25 : (upd H24 prts (.lst (List.replicate n (.non)))) pprs = some (.lst (List.replicate n (.non))) := by rw [upd_ne (ne_of_none hpprs_24 n_prts)]; exact hpprs_24
    have hppins_25 : (upd H24 prts (.lst (List.replicate n (.non)))) ppins = some (.lst (List.replicate n (.int 0))) := by rw [upd_ne (ne_of_none hppins_24 n_prts)]; exact hppins_24
    generalize (upd H24 prts (.lst (List.replicate n (.non)))) = H25 at f25 hx25 hprts_25 hpups_25 hphas_25 hpsts_25 hpcts_25 hpsps_25 hpprs_25 hppins_25 ⊢
    refine ⟨_, rfl, x, _, dx, _, rfl, hx25, T.cl, T.n_rules_till, Nat.lt_of_le_of_lt (few_up (few_up (few_up (few_up (few_up (few_up (few_up (few_up (few_up (few0) _ _) _ _) _ _) _ _) _ _) _ _) _ _) _ _) _ _) (by decide), ?_⟩
    have f26 : Fr x H (upd H25 x (.ins (a 61) dx (putF "rules_till" (.ref prts) (putF "promised_in" (.ref ppins) (putF "promises" (.ref pprs) (putF "spans" (.ref psps) (putF "counts" (.ref pcts) (putF "stands" (.ref psts) (putF "has" (.ref phas) (putF "ups" (.ref pups) (putF "lease" (.int le) (putF "most_drift" (.ref dr) ([]))))))))))))) := f25.put
    have hx26 : (upd H25 x (.ins (a 61) dx (putF "rules_till" (.ref prts) (putF "promised_in" (.ref ppins) (putF "promises" (.ref pprs) (putF "spans" (.ref psps) (putF "counts" (.ref pcts) (putF "stands" (.ref psts) (putF "has" (.ref phas) (putF "ups" (.ref pups) (putF "lease" (.int le) (putF "most_drift" (.ref dr) ([]))))))))))))) x = some (.ins (a 61) dx (putF "rules_till" (.ref prts) (putF "promised_in" (.ref ppins) (putF "promises" (.ref pprs) (putF "spans" (.ref psps) (putF "counts" (.ref pcts) (putF "stands" (.ref psts) (putF "has" (.ref phas) (putF "ups" (.ref pups) (putF "lease" (.int le) (putF "most_drift" (.ref dr) ([])))))))))))) := upd_same
    have hpups_26 : (upd H25 x (.ins (a 61) dx (putF "rules_till" (.ref prts) (putF "promised_in" (.ref ppins) (putF "promises" (.ref pprs) (putF "spans" (.ref psps) (putF "counts" (.ref pcts) (putF "stands" (.ref psts) (putF "has" (.ref phas) (putF "ups" (.ref pups) (putF "lease" (.int le) (putF "most_drift" (.ref dr) ([]))))))))))))) pups = some (.lst (List.replicate n (.bl true))) := by rw [upd_ne x_pups]; exact hpups_25
    have hphas_26 : (upd H25 x (.ins (a 61) dx (putF "rules_till" (.ref prts) (putF "promised_in" (.ref ppins) (putF "promises" (.ref pprs) (putF "spans" (.ref psps) (putF "counts" (.ref pcts) (putF "stands" (.ref psts) (putF "has" (.ref phas) (putF "ups" (.ref pups) (putF "lease" (.int le) (putF "most_drift" (.ref dr) ([]))))))))))))) phas = some (.lst (List.replicate n (.int 0))) := by rw [upd_ne x_phas]; exact hphas_25
    have hpsts_26 : (upd H25 x (.ins (a 61) dx (putF "rules_till" (.ref prts) (putF "promised_in" (.ref ppins) (putF "promises" (.ref pprs) (putF "spans" (.ref psps) (putF "counts" (.ref pcts) (putF "stands" (.ref psts) (putF "has" (.ref phas) (putF "ups" (.ref pups) (putF "lease" (.int le) (putF "most_drift" (.ref dr) ([]))))))))))))) psts = some (.lst (List.replicate n (.non))) := by rw [upd_ne x_psts]; exact hpsts_25
    have hpcts_26 : (upd H25 x (.ins (a 61) dx (putF "rules_till" (.ref prts) (putF "promised_in" (.ref ppins) (putF "promises" (.ref pprs) (putF "spans" (.ref psps) (putF "counts" (.ref pcts) (putF "stands" (.ref psts) (putF "has" (.ref phas) (putF "ups" (.ref pups) (putF "lease" (.int le) (putF "most_drift" (.ref dr) ([]))))))))))))) pcts = some (.lst (List.replicate n (.int 0))) := by rw [upd_ne x_pcts]; exact hpcts_25
    have hpsps_26 : (upd H25 x (.ins (a 61) dx (putF "rules_till" (.ref prts) (putF "promised_in" (.ref ppins) (putF "promises" (.ref pprs) (putF "spans" (.ref psps) (putF "counts" (.ref pcts) (putF "stands" (.ref psts) (putF "has" (.ref phas) (putF "ups" (.ref pups) (putF "lease" (.int le) (putF "most_drift" (.ref dr) ([]))))))))))))) psps = some (.lst (List.replicate n (.non))) := by rw [upd_ne x_psps]; exact hpsps_25
    have hpprs_26 : (upd H25 x (.ins (a 61) dx (putF "rules_till" (.ref prts) (putF "promised_in" (.ref ppins) (putF "promises" (.ref pprs) (putF "spans" (.ref psps) (putF "counts" (.ref pcts) (putF "stands" (.ref psts) (putF "has" (.ref phas) (putF "ups" (.ref pups) (putF "lease" (.int le) (putF "most_drift" (.ref dr) ([]))))))))))))) pprs = some (.lst (List.replicate n (.non))) := by rw [upd_ne x_pprs]; exact hpprs_25
    have hppins_26 : (upd H25 x (.ins (a 61) dx (putF "rules_till" (.ref prts) (putF "promised_in" (.ref ppins) (putF "promises" (.ref pprs) (putF "spans" (.ref psps) (putF "counts" (.ref pcts) (putF "stands" (.ref psts) (putF "has" (.ref phas) (putF "ups" (.ref pups) (putF "lease" (.int le) (putF "most_drift" (.ref dr) ([]))))))))))))) ppins = some (.lst (List.replicate n (.int 0))) := by rw [upd_ne x_ppins]; exact hppins_25
    have hprts_26 : (upd H25 x (.ins (a 61) dx (putF "rules_till" (.ref prts) (putF "promised_in" (.ref ppins) (putF "promises" (.ref pprs) (putF "spans" (.ref psps) (putF "counts" (.ref pcts) (putF "stands" (.ref psts) (putF "has" (.ref phas) (putF "ups" (.ref pups) (putF "lease" (.int le) (putF "most_drift" (.ref dr) ([]))))))))))))) prts = some (.lst (List.replicate n (.non))) := by rw [upd_ne x_prts]; exact hprts_25
    generalize (upd H25 x (.ins (a 61) dx (putF "rules_till" (.ref prts) (putF "promised_in" (.ref ppins) (putF "promises" (.ref pprs) (putF "spans" (.ref psps) (putF "counts" (.ref pcts) (putF "stands" (.ref psts) (putF "has" (.ref phas) (putF "ups" (.ref pups) (putF "lease" (.int le) (putF "most_drift" (.ref dr) ([]))))))))))))) = H26 at f26 hx26 hpups_26 hphas_26 hpsts_26 hpcts_26 hpsps_26 hpprs_26 hppins_26 hprts_26 ⊢
    refine ⟨Nat.zero_le _, fun pel n_pel => ?_⟩
    have z_ups : pel ≠ pups := (ne_of_none hpups_26 n_pel).symm
    have z_has : pel ≠ phas := (ne_of_none hphas_26 n_pel).symm
    have z_cts : pel ≠ pcts := (ne_of_none hpcts_26 n_pel).symm
    have z_prs : pel ≠ pprs := (ne_of_none hpprs_26 n_pel).symm
    have z_pins : pel ≠ ppins := (ne_of_none hppins_26 n_pel).symm
    have z_rts : pel ≠ prts := (ne_of_none hprts_26 n_pel).symm
    have z_sts : pel ≠ psts := (ne_of_none hpsts_26 n_pel).symm
    have z_sps : pel ≠ psps := (ne_of_none hpsps_26 n_pel).symm
    have fel : H pel = none := by
      cases e : H pel with
      | none => rfl
      | some o =>
        have y := f26 pel o (ne_of_none hx26 n_pel).symm e
        rw [n_pel] at y
        cases y
    have f27 : Fr x H (upd H26 pel (.lst ([]))) := f26.new n_pel
    have hx27 : (upd H26 pel (.lst ([]))) x = some (.ins (a 61) dx (putF "rules_till" (.ref prts) (putF "promised_in" (.ref ppins) (putF "promises" (.ref pprs) (putF "spans" (.ref psps) (putF "counts" (.ref pcts) (putF "stands" (.ref psts) (putF "has" (.ref phas) (putF "ups" (.ref pups) (putF "lease" (.int le) (putF "most_drift" (.ref dr) ([])))))))))))) := by rw [upd_ne (ne_of_none hx26 n_pel)]; exact hx26
    have hpel_27 : (upd H26 pel (.lst ([]))) pel = some (.lst ([])) := upd_same
    have x_pel : pel ≠ x := (ne_of_none hx26 n_pel).symm
    have hpups_27 : (upd H26 pel (.lst ([]))) pups = some (.lst (List.replicate n (.bl true))) := by rw [upd_ne (ne_of_none hpups_26 n_pel)]; exact hpups_26
    have hphas_27 : (upd H26 pel (.lst ([]))) phas = some (.lst (List.replicate n (.int 0))) := by rw [upd_ne (ne_of_none hphas_26 n_pel)]; exact hphas_26
    have hpsts_27 : (upd H26 pel (.lst ([]))) psts = some (.lst (List.replicate n (.non))) := by rw [upd_ne (ne_of_none hpsts_26 n_pel)]; exact hpsts_26
    have hpcts_27 : (upd H26 pel (.lst ([]))) pcts = some (.lst (List.replicate n (.int 0))) := by rw [upd_ne (ne_of_none hpcts_26 n_pel)]; exact hpcts_26
    have hpsps_27 : (upd H26 pel (.lst ([]))) psps = some (.lst (List.replicate n (.non))) := by rw [upd_ne (ne_of_none hpsps_26 n_pel)]; exact hpsps_26
    have hpprs_27 : (upd H26 pel (.lst ([]))) pprs = some (.lst (List.replicate n (.non))) := by rw [upd_ne (ne_of_none hpprs_26 n_pel)]; exact hpprs_26
    have hppins_27 : (upd H26 pel (.lst ([]))) ppins = some (.lst (List.replicate n (.int 0))) := by rw [upd_ne (ne_of_none hppins_26 n_pel)]; exact hppins_26
    have hprts_27 : (upd H26 pel (.lst ([]))) prts = some (.lst (List.replicate n (.non))) := by rw [upd_ne (ne_of_none hprts_26 n_pel)]; exact hprts_26
    generalize (upd H26 pel (.lst ([]))) = H27 at f27 hx27 hpel_27 hpups_27 hphas_27 hpsts_27 hpcts_27 hpsps_27 hpprs_27 hppins_27 hprts_27 ⊢
    refine ⟨_, rfl, x, _, dx, _, rfl, hx27, T.cl, T.n_entries, Nat.lt_of_le_of_lt (few_up (few_up (few_up (few_up (few_up (few_up (few_up (few_up (few_up (few_up (few0) _ _) _ _) _ _) _ _) _ _) _ _) _ _) _ _) _ _) _ _) (by decide), ?_⟩
    have f28 : Fr x H (upd H27 x (.ins (a 61) dx (putF "entries" (.ref pel) (putF "rules_till" (.ref prts) (putF "promised_in" (.ref ppins) (putF "promises" (.ref pprs) (putF "spans" (.ref psps) (putF "counts" (.ref pcts) (putF "stands" (.ref psts) (putF "has" (.ref phas) (putF "ups" (.ref pups) (putF "lease" (.int le) (putF "most_drift" (.ref dr) ([])))))))))))))) := f27.put
    have hx28 : (upd H27 x (.ins (a 61) dx (putF "entries" (.ref pel) (putF "rules_till" (.ref prts) (putF "promised_in" (.ref ppins) (putF "promises" (.ref pprs) (putF "spans" (.ref psps) (putF "counts" (.ref pcts) (putF "stands" (.ref psts) (putF "has" (.ref phas) (putF "ups" (.ref pups) (putF "lease" (.int le) (putF "most_drift" (.ref dr) ([])))))))))))))) x = some (.ins (a 61) dx (putF "entries" (.ref pel) (putF "rules_till" (.ref prts) (putF "promised_in" (.ref ppins) (putF "promises" (.ref pprs) (putF "spans" (.ref psps) (putF "counts" (.ref pcts) (putF "stands" (.ref psts) (putF "has" (.ref phas) (putF "ups" (.ref pups) (putF "lease" (.int le) (putF "most_drift" (.ref dr) ([]))))))))))))) := upd_same
    have hpups_28 : (upd H27 x (.ins (a 61) dx (putF "entries" (.ref pel) (putF "rules_till" (.ref prts) (putF "promised_in" (.ref ppins) (putF "promises" (.ref pprs) (putF "spans" (.ref psps) (putF "counts" (.ref pcts) (putF "stands" (.ref psts) (putF "has" (.ref phas) (putF "ups" (.ref pups) (putF "lease" (.int le) (putF "most_drift" (.ref dr) ([])))))))))))))) pups = some (.lst (List.replicate n (.bl true))) := by rw [upd_ne x_pups]; exact hpups_27
    have hphas_28 : (upd H27 x (.ins (a 61) dx (putF "entries" (.ref pel) (putF "rules_till" (.ref prts) (putF "promised_in" (.ref ppins) (putF "promises" (.ref pprs) (putF "spans" (.ref psps) (putF "counts" (.ref pcts) (putF "stands" (.ref psts) (putF "has" (.ref phas) (putF "ups" (.ref pups) (putF "lease" (.int le) (putF "most_drift" (.ref dr) ([])))))))))))))) phas = some (.lst (List.replicate n (.int 0))) := by rw [upd_ne x_phas]; exact hphas_27
    have hpsts_28 : (upd H27 x (.ins (a 61) dx (putF "entries" (.ref pel) (putF "rules_till" (.ref prts) (putF "promised_in" (.ref ppins) (putF "promises" (.ref pprs) (putF "spans" (.ref psps) (putF "counts" (.ref pcts) (putF "stands" (.ref psts) (putF "has" (.ref phas) (putF "ups" (.ref pups) (putF "lease" (.int le) (putF "most_drift" (.ref dr) ([])))))))))))))) psts = some (.lst (List.replicate n (.non))) := by rw [upd_ne x_psts]; exact hpsts_27
    have hpcts_28 : (upd H27 x (.ins (a 61) dx (putF "entries" (.ref pel) (putF "rules_till" (.ref prts) (putF "promised_in" (.ref ppins) (putF "promises" (.ref pprs) (putF "spans" (.ref psps) (putF "counts" (.ref pcts) (putF "stands" (.ref psts) (putF "has" (.ref phas) (putF "ups" (.ref pups) (putF "lease" (.int le) (putF "most_drift" (.ref dr) ([])))))))))))))) pcts = some (.lst (List.replicate n (.int 0))) := by rw [upd_ne x_pcts]; exact hpcts_27
    have hpsps_28 : (upd H27 x (.ins (a 61) dx (putF "entries" (.ref pel) (putF "rules_till" (.ref prts) (putF "promised_in" (.ref ppins) (putF "promises" (.ref pprs) (putF "spans" (.ref psps) (putF "counts" (.ref pcts) (putF "stands" (.ref psts) (putF "has" (.ref phas) (putF "ups" (.ref pups) (putF "lease" (.int le) (putF "most_drift" (.ref dr) ([])))))))))))))) psps = some (.lst (List.replicate n (.non))) := by rw [upd_ne x_psps]; exact hpsps_27
    have hpprs_28 : (upd H27 x (.ins (a 61) dx (putF "entries" (.ref pel) (putF "rules_till" (.ref prts) (putF "promised_in" (.ref ppins) (putF "promises" (.ref pprs) (putF "spans" (.ref psps) (putF "counts" (.ref pcts) (putF "stands" (.ref psts) (putF "has" (.ref phas) (putF "ups" (.ref pups) (putF "lease" (.int le) (putF "most_drift" (.ref dr) ([])))))))))))))) pprs = some (.lst (List.replicate n (.non))) := by rw [upd_ne x_pprs]; exact hpprs_27
    have hppins_28 : (upd H27 x (.ins (a 61) dx (putF "entries" (.ref pel) (putF "rules_till" (.ref prts) (putF "promised_in" (.ref ppins) (putF "promises" (.ref pprs) (putF "spans" (.ref psps) (putF "counts" (.ref pcts) (putF "stands" (.ref psts) (putF "has" (.ref phas) (putF "ups" (.ref pups) (putF "lease" (.int le) (putF "most_drift" (.ref dr) ([])))))))))))))) ppins = some (.lst (List.replicate n (.int 0))) := by rw [upd_ne x_ppins]; exact hppins_27
    have hprts_28 : (upd H27 x (.ins (a 61) dx (putF "entries" (.ref pel) (putF "rules_till" (.ref prts) (putF "promised_in" (.ref ppins) (putF "promises" (.ref pprs) (putF "spans" (.ref psps) (putF "counts" (.ref pcts) (putF "stands" (.ref psts) (putF "has" (.ref phas) (putF "ups" (.ref pups) (putF "lease" (.int le) (putF "most_drift" (.ref dr) ([])))))))))))))) prts = some (.lst (List.replicate n (.non))) := by rw [upd_ne x_prts]; exact hprts_27
    have hpel_28 : (upd H27 x (.ins (a 61) dx (putF "entries" (.ref pel) (putF "rules_till" (.ref prts) (putF "promised_in" (.ref ppins) (putF "promises" (.ref pprs) (putF "spans" (.ref psps) (putF "counts" (.ref pcts) (putF "stands" (.ref psts) (putF "has" (.ref phas) (putF "ups" (.ref pups) (putF "lease" (.int le) (putF "most_drift" (.ref dr) ([])))))))))))))) pel = some (.lst ([])) := by rw [upd_ne x_pel]; exact hpel_27
    generalize (upd H27 x (.ins (a 61) dx (putF "entries" (.ref pel) (putF "rules_till" (.ref prts) (putF "promised_in" (.ref ppins) (putF "promises" (.ref pprs) (putF "spans" (.ref psps) (putF "counts" (.ref pcts) (putF "stands" (.ref psts) (putF "has" (.ref phas) (putF "ups" (.ref pups) (putF "lease" (.int le) (putF "most_drift" (.ref dr) ([])))))))))))))) = H28 at f28 hx28 hpups_28 hphas_28 hpsts_28 hpcts_28 hpsps_28 hpprs_28 hppins_28 hprts_28 hpel_28 ⊢
    refine ⟨_, rfl, x, _, dx, _, rfl, hx28, T.cl, T.n_lent, Nat.lt_of_le_of_lt (few_up (few_up (few_up (few_up (few_up (few_up (few_up (few_up (few_up (few_up (few_up (few0) _ _) _ _) _ _) _ _) _ _) _ _) _ _) _ _) _ _) _ _) _ _) (by decide), ?_⟩
    have f29 : Fr x H (upd H28 x (.ins (a 61) dx (putF "lent" (.bl false) (putF "entries" (.ref pel) (putF "rules_till" (.ref prts) (putF "promised_in" (.ref ppins) (putF "promises" (.ref pprs) (putF "spans" (.ref psps) (putF "counts" (.ref pcts) (putF "stands" (.ref psts) (putF "has" (.ref phas) (putF "ups" (.ref pups) (putF "lease" (.int le) (putF "most_drift" (.ref dr) ([]))))))))))))))) := f28.put
    have hx29 : (upd H28 x (.ins (a 61) dx (putF "lent" (.bl false) (putF "entries" (.ref pel) (putF "rules_till" (.ref prts) (putF "promised_in" (.ref ppins) (putF "promises" (.ref pprs) (putF "spans" (.ref psps) (putF "counts" (.ref pcts) (putF "stands" (.ref psts) (putF "has" (.ref phas) (putF "ups" (.ref pups) (putF "lease" (.int le) (putF "most_drift" (.ref dr) ([]))))))))))))))) x = some (.ins (a 61) dx (putF "lent" (.bl false) (putF "entries" (.ref pel) (putF "rules_till" (.ref prts) (putF "promised_in" (.ref ppins) (putF "promises" (.ref pprs) (putF "spans" (.ref psps) (putF "counts" (.ref pcts) (putF "stands" (.ref psts) (putF "has" (.ref phas) (putF "ups" (.ref pups) (putF "lease" (.int le) (putF "most_drift" (.ref dr) ([])))))))))))))) := upd_same
    have hpups_29 : (upd H28 x (.ins (a 61) dx (putF "lent" (.bl false) (putF "entries" (.ref pel) (putF "rules_till" (.ref prts) (putF "promised_in" (.ref ppins) (putF "promises" (.ref pprs) (putF "spans" (.ref psps) (putF "counts" (.ref pcts) (putF "stands" (.ref psts) (putF "has" (.ref phas) (putF "ups" (.ref pups) (putF "lease" (.int le) (putF "most_drift" (.ref dr) ([]))))))))))))))) pups = some (.lst (List.replicate n (.bl true))) := by rw [upd_ne x_pups]; exact hpups_28
    have hphas_29 : (upd H28 x (.ins (a 61) dx (putF "lent" (.bl false) (putF "entries" (.ref pel) (putF "rules_till" (.ref prts) (putF "promised_in" (.ref ppins) (putF "promises" (.ref pprs) (putF "spans" (.ref psps) (putF "counts" (.ref pcts) (putF "stands" (.ref psts) (putF "has" (.ref phas) (putF "ups" (.ref pups) (putF "lease" (.int le) (putF "most_drift" (.ref dr) ([]))))))))))))))) phas = some (.lst (List.replicate n (.int 0))) := by rw [upd_ne x_phas]; exact hphas_28
    have hpsts_29 : (upd H28 x (.ins (a 61) dx (putF "lent" (.bl false) (putF "entries" (.ref pel) (putF "rules_till" (.ref prts) (putF "promised_in" (.ref ppins) (putF "promises" (.ref pprs) (putF "spans" (.ref psps) (putF "counts" (.ref pcts) (putF "stands" (.ref psts) (putF "has" (.ref phas) (putF "ups" (.ref pups) (putF "lease" (.int le) (putF "most_drift" (.ref dr) ([]))))))))))))))) psts = some (.lst (List.replicate n (.non))) := by rw [upd_ne x_psts]; exact hpsts_28
    have hpcts_29 : (upd H28 x (.ins (a 61) dx (putF "lent" (.bl false) (putF "entries" (.ref pel) (putF "rules_till" (.ref prts) (putF "promised_in" (.ref ppins) (putF "promises" (.ref pprs) (putF "spans" (.ref psps) (putF "counts" (.ref pcts) (putF "stands" (.ref psts) (putF "has" (.ref phas) (putF "ups" (.ref pups) (putF "lease" (.int le) (putF "most_drift" (.ref dr) ([]))))))))))))))) pcts = some (.lst (List.replicate n (.int 0))) := by rw [upd_ne x_pcts]; exact hpcts_28
    have hpsps_29 : (upd H28 x (.ins (a 61) dx (putF "lent" (.bl false) (putF "entries" (.ref pel) (putF "rules_till" (.ref prts) (putF "promised_in" (.ref ppins) (putF "promises" (.ref pprs) (putF "spans" (.ref psps) (putF "counts" (.ref pcts) (putF "stands" (.ref psts) (putF "has" (.ref phas) (putF "ups" (.ref pups) (putF "lease" (.int le) (putF "most_drift" (.ref dr) ([]))))))))))))))) psps = some (.lst (List.replicate n (.non))) := by rw [upd_ne x_psps]; exact hpsps_28
    have hpprs_29 : (upd H28 x (.ins (a 61) dx (putF "lent" (.bl false) (putF "entries" (.ref pel) (putF "rules_till" (.ref prts) (putF "promised_in" (.ref ppins) (putF "promises" (.ref pprs) (putF "spans" (.ref psps) (putF "counts" (.ref pcts) (putF "stands" (.ref psts) (putF "has" (.ref phas) (putF "ups" (.ref pups) (putF "lease" (.int le) (putF "most_drift" (.ref dr) ([]))))))))))))))) pprs = some (.lst (List.replicate n (.non))) := by rw [upd_ne x_pprs]; exact hpprs_28
    have hppins_29 : (upd H28 x (.ins (a 61) dx (putF "lent" (.bl false) (putF "entries" (.ref pel) (putF "rules_till" (.ref prts) (putF "promised_in" (.ref ppins) (putF "promises" (.ref pprs) (putF "spans" (.ref psps) (putF "counts" (.ref pcts) (putF "stands" (.ref psts) (putF "has" (.ref phas) (putF "ups" (.ref pups) (putF "lease" (.int le) (putF "most_drift" (.ref dr) ([]))))))))))))))) ppins = some (.lst (List.replicate n (.int 0))) := by rw [upd_ne x_ppins]; exact hppins_28
    have hprts_29 : (upd H28 x (.ins (a 61) dx (putF "lent" (.bl false) (putF "entries" (.ref pel) (putF "rules_till" (.ref prts) (putF "promised_in" (.ref ppins) (putF "promises" (.ref pprs) (putF "spans" (.ref psps) (putF "counts" (.ref pcts) (putF "stands" (.ref psts) (putF "has" (.ref phas) (putF "ups" (.ref pups) (putF "lease" (.int le) (putF "most_drift" (.ref dr) ([]))))))))))))))) prts = some (.lst (List.replicate n (.non))) := by rw [upd_ne x_prts]; exact hprts_28
    have hpel_29 : (upd H28 x (.ins (a 61) dx (putF "lent" (.bl false) (putF "entries" (.ref pel) (putF "rules_till" (.ref prts) (putF "promised_in" (.ref ppins) (putF "promises" (.ref pprs) (putF "spans" (.ref psps) (putF "counts" (.ref pcts) (putF "stands" (.ref psts) (putF "has" (.ref phas) (putF "ups" (.ref pups) (putF "lease" (.int le) (putF "most_drift" (.ref dr) ([]))))))))))))))) pel = some (.lst ([])) := by rw [upd_ne x_pel]; exact hpel_28
    generalize (upd H28 x (.ins (a 61) dx (putF "lent" (.bl false) (putF "entries" (.ref pel) (putF "rules_till" (.ref prts) (putF "promised_in" (.ref ppins) (putF "promises" (.ref pprs) (putF "spans" (.ref psps) (putF "counts" (.ref pcts) (putF "stands" (.ref psts) (putF "has" (.ref phas) (putF "ups" (.ref pups) (putF "lease" (.int le) (putF "most_drift" (.ref dr) ([]))))))))))))))) = H29 at f29 hx29 hpups_29 hphas_29 hpsts_29 hpcts_29 hpsps_29 hpprs_29 hppins_29 hprts_29 hpel_29 ⊢
    refine ⟨_, rfl, x, _, dx, _, rfl, hx29, T.cl, T.n_loose, Nat.lt_of_le_of_lt (few_up (few_up (few_up (few_up (few_up (few_up (few_up (few_up (few_up (few_up (few_up (few_up (few0) _ _) _ _) _ _) _ _) _ _) _ _) _ _) _ _) _ _) _ _) _ _) _ _) (by decide), ?_⟩
    have f30 : Fr x H (upd H29 x (.ins (a 61) dx (putF "loose" (.bl false) (putF "lent" (.bl false) (putF "entries" (.ref pel) (putF "rules_till" (.ref prts) (putF "promised_in" (.ref ppins) (putF "promises" (.ref pprs) (putF "spans" (.ref psps) (putF "counts" (.ref pcts) (putF "stands" (.ref psts) (putF "has" (.ref phas) (putF "ups" (.ref pups) (putF "lease" (.int le) (putF "most_drift" (.ref dr) ([])))))))))))))))) := f29.put
    have hx30 : (upd H29 x (.ins (a 61) dx (putF "loose" (.bl false) (putF "lent" (.bl false) (putF "entries" (.ref pel) (putF "rules_till" (.ref prts) (putF "promised_in" (.ref ppins) (putF "promises" (.ref pprs) (putF "spans" (.ref psps) (putF "counts" (.ref pcts) (putF "stands" (.ref psts) (putF "has" (.ref phas) (putF "ups" (.ref pups) (putF "lease" (.int le) (putF "most_drift" (.ref dr) ([])))))))))))))))) x = some (.ins (a 61) dx (putF "loose" (.bl false) (putF "lent" (.bl false) (putF "entries" (.ref pel) (putF "rules_till" (.ref prts) (putF "promised_in" (.ref ppins) (putF "promises" (.ref pprs) (putF "spans" (.ref psps) (putF "counts" (.ref pcts) (putF "stands" (.ref psts) (putF "has" (.ref phas) (putF "ups" (.ref pups) (putF "lease" (.int le) (putF "most_drift" (.ref dr) ([]))))))))))))))) := upd_same
    have hpups_30 : (upd H29 x (.ins (a 61) dx (putF "loose" (.bl false) (putF "lent" (.bl false) (putF "entries" (.ref pel) (putF "rules_till" (.ref prts) (putF "promised_in" (.ref ppins) (putF "promises" (.ref pprs) (putF "spans" (.ref psps) (putF "counts" (.ref pcts) (putF "stands" (.ref psts) (putF "has" (.ref phas) (putF "ups" (.ref pups) (putF "lease" (.int le) (putF "most_drift" (.ref dr) ([])))))))))))))))) pups = some (.lst (List.replicate n (.bl true))) := by rw [upd_ne x_pups]; exact hpups_29
    have hphas_30 : (upd H29 x (.ins (a 61) dx (putF "loose" (.bl false) (putF "lent" (.bl false) (putF "entries" (.ref pel) (putF "rules_till" (.ref prts) (putF "promised_in" (.ref ppins) (putF "promises" (.ref pprs) (putF "spans" (.ref psps) (putF "counts" (.ref pcts) (putF "stands" (.ref psts) (putF "has" (.ref phas) (putF "ups" (.ref pups) (putF "lease" (.int le) (putF "most_drift" (.ref dr) ([])))))))))))))))) phas = some (.lst (List.replicate n (.int 0))) := by rw [upd_ne x_phas]; exact hphas_29
    have hpsts_30 : (upd H29 x (.ins (a 61) dx (putF "loose" (.bl false) (putF "lent" (.bl false) (putF "entries" (.ref pel) (putF "rules_till" (.ref prts) (putF "promised_in" (.ref ppins) (putF "promises" (.ref pprs) (putF "spans" (.ref psps) (putF "counts" (.ref pcts) (putF "stands" (.ref psts) (putF "has" (.ref phas) (putF "ups" (.ref pups) (putF "lease" (.int le) (putF "most_drift" (.ref dr) ([])))))))))))))))) psts = some (.lst (List.replicate n (.non))) := by rw [upd_ne x_psts]; exact hpsts_29
    have hpcts_30 : (upd H29 x (.ins (a 61) dx (putF "loose" (.bl false) (putF "lent" (.bl false) (putF "entries" (.ref pel) (putF "rules_till" (.ref prts) (putF "promised_in" (.ref ppins) (putF "promises" (.ref pprs) (putF "spans" (.ref psps) (putF "counts" (.ref pcts) (putF "stands" (.ref psts) (putF "has" (.ref phas) (putF "ups" (.ref pups) (putF "lease" (.int le) (putF "most_drift" (.ref dr) ([])))))))))))))))) pcts = some (.lst (List.replicate n (.int 0))) := by rw [upd_ne x_pcts]; exact hpcts_29
    have hpsps_30 : (upd H29 x (.ins (a 61) dx (putF "loose" (.bl false) (putF "lent" (.bl false) (putF "entries" (.ref pel) (putF "rules_till" (.ref prts) (putF "promised_in" (.ref ppins) (putF "promises" (.ref pprs) (putF "spans" (.ref psps) (putF "counts" (.ref pcts) (putF "stands" (.ref psts) (putF "has" (.ref phas) (putF "ups" (.ref pups) (putF "lease" (.int le) (putF "most_drift" (.ref dr) ([])))))))))))))))) psps = some (.lst (List.replicate n (.non))) := by rw [upd_ne x_psps]; exact hpsps_29
    have hpprs_30 : (upd H29 x (.ins (a 61) dx (putF "loose" (.bl false) (putF "lent" (.bl false) (putF "entries" (.ref pel) (putF "rules_till" (.ref prts) (putF "promised_in" (.ref ppins) (putF "promises" (.ref pprs) (putF "spans" (.ref psps) (putF "counts" (.ref pcts) (putF "stands" (.ref psts) (putF "has" (.ref phas) (putF "ups" (.ref pups) (putF "lease" (.int le) (putF "most_drift" (.ref dr) ([])))))))))))))))) pprs = some (.lst (List.replicate n (.non))) := by rw [upd_ne x_pprs]; exact hpprs_29
    have hppins_30 : (upd H29 x (.ins (a 61) dx (putF "loose" (.bl false) (putF "lent" (.bl false) (putF "entries" (.ref pel) (putF "rules_till" (.ref prts) (putF "promised_in" (.ref ppins) (putF "promises" (.ref pprs) (putF "spans" (.ref psps) (putF "counts" (.ref pcts) (putF "stands" (.ref psts) (putF "has" (.ref phas) (putF "ups" (.ref pups) (putF "lease" (.int le) (putF "most_drift" (.ref dr) ([])))))))))))))))) ppins = some (.lst (List.replicate n (.int 0))) := by rw [upd_ne x_ppins]; exact hppins_29
    have hprts_30 : (upd H29 x (.ins (a 61) dx (putF "loose" (.bl false) (putF "lent" (.bl false) (putF "entries" (.ref pel) (putF "rules_till" (.ref prts) (putF "promised_in" (.ref ppins) (putF "promises" (.ref pprs) (putF "spans" (.ref psps) (putF "counts" (.ref pcts) (putF "stands" (.ref psts) (putF "has" (.ref phas) (putF "ups" (.ref pups) (putF "lease" (.int le) (putF "most_drift" (.ref dr) ([])))))))))))))))) prts = some (.lst (List.replicate n (.non))) := by rw [upd_ne x_prts]; exact hprts_29
    have hpel_30 : (upd H29 x (.ins (a 61) dx (putF "loose" (.bl false) (putF "lent" (.bl false) (putF "entries" (.ref pel) (putF "rules_till" (.ref prts) (putF "promised_in" (.ref ppins) (putF "promises" (.ref pprs) (putF "spans" (.ref psps) (putF "counts" (.ref pcts) (putF "stands" (.ref psts) (putF "has" (.ref phas) (putF "ups" (.ref pups) (putF "lease" (.int le) (putF "most_drift" (.ref dr) ([])))))))))))))))) pel = some (.lst ([])) := by rw [upd_ne x_pel]; exact hpel_29
    generalize (upd H29 x (.ins (a 61) dx (putF "loose" (.bl false) (putF "lent" (.bl false) (putF "entries" (.ref pel) (putF "rules_till" (.ref prts) (putF "promised_in" (.ref ppins) (putF "promises" (.ref pprs) (putF "spans" (.ref psps) (putF "counts" (.ref pcts) (putF "stands" (.ref psts) (putF "has" (.ref phas) (putF "ups" (.ref pups) (putF "lease" (.int le) (putF "most_drift" (.ref dr) ([])))))))))))))))) = H30 at f30 hx30 hpups_30 hphas_30 hpsts_30 hpcts_30 hpsps_30 hpprs_30 hppins_30 hprts_30 hpel_30 ⊢
    refine ⟨_, rfl, x, _, dx, _, rfl, hx30, T.cl, T.n_reigns, Nat.lt_of_le_of_lt (few_up (few_up (few_up (few_up (few_up (few_up (few_up (few_up (few_up (few_up (few_up (few_up (few_up (few0) _ _) _ _) _ _) _ _) _ _) _ _) _ _) _ _) _ _) _ _) _ _) _ _) _ _) (by decide), ?_⟩
    have f31 : Fr x H (upd H30 x (.ins (a 61) dx (putF "reigns" (.int 0) (putF "loose" (.bl false) (putF "lent" (.bl false) (putF "entries" (.ref pel) (putF "rules_till" (.ref prts) (putF "promised_in" (.ref ppins) (putF "promises" (.ref pprs) (putF "spans" (.ref psps) (putF "counts" (.ref pcts) (putF "stands" (.ref psts) (putF "has" (.ref phas) (putF "ups" (.ref pups) (putF "lease" (.int le) (putF "most_drift" (.ref dr) ([]))))))))))))))))) := f30.put
    have hx31 : (upd H30 x (.ins (a 61) dx (putF "reigns" (.int 0) (putF "loose" (.bl false) (putF "lent" (.bl false) (putF "entries" (.ref pel) (putF "rules_till" (.ref prts) (putF "promised_in" (.ref ppins) (putF "promises" (.ref pprs) (putF "spans" (.ref psps) (putF "counts" (.ref pcts) (putF "stands" (.ref psts) (putF "has" (.ref phas) (putF "ups" (.ref pups) (putF "lease" (.int le) (putF "most_drift" (.ref dr) ([]))))))))))))))))) x = some (.ins (a 61) dx (putF "reigns" (.int 0) (putF "loose" (.bl false) (putF "lent" (.bl false) (putF "entries" (.ref pel) (putF "rules_till" (.ref prts) (putF "promised_in" (.ref ppins) (putF "promises" (.ref pprs) (putF "spans" (.ref psps) (putF "counts" (.ref pcts) (putF "stands" (.ref psts) (putF "has" (.ref phas) (putF "ups" (.ref pups) (putF "lease" (.int le) (putF "most_drift" (.ref dr) ([])))))))))))))))) := upd_same
    have hpups_31 : (upd H30 x (.ins (a 61) dx (putF "reigns" (.int 0) (putF "loose" (.bl false) (putF "lent" (.bl false) (putF "entries" (.ref pel) (putF "rules_till" (.ref prts) (putF "promised_in" (.ref ppins) (putF "promises" (.ref pprs) (putF "spans" (.ref psps) (putF "counts" (.ref pcts) (putF "stands" (.ref psts) (putF "has" (.ref phas) (putF "ups" (.ref pups) (putF "lease" (.int le) (putF "most_drift" (.ref dr) ([]))))))))))))))))) pups = some (.lst (List.replicate n (.bl true))) := by rw [upd_ne x_pups]; exact hpups_30
    have hphas_31 : (upd H30 x (.ins (a 61) dx (putF "reigns" (.int 0) (putF "loose" (.bl false) (putF "lent" (.bl false) (putF "entries" (.ref pel) (putF "rules_till" (.ref prts) (putF "promised_in" (.ref ppins) (putF "promises" (.ref pprs) (putF "spans" (.ref psps) (putF "counts" (.ref pcts) (putF "stands" (.ref psts) (putF "has" (.ref phas) (putF "ups" (.ref pups) (putF "lease" (.int le) (putF "most_drift" (.ref dr) ([]))))))))))))))))) phas = some (.lst (List.replicate n (.int 0))) := by rw [upd_ne x_phas]; exact hphas_30
    have hpsts_31 : (upd H30 x (.ins (a 61) dx (putF "reigns" (.int 0) (putF "loose" (.bl false) (putF "lent" (.bl false) (putF "entries" (.ref pel) (putF "rules_till" (.ref prts) (putF "promised_in" (.ref ppins) (putF "promises" (.ref pprs) (putF "spans" (.ref psps) (putF "counts" (.ref pcts) (putF "stands" (.ref psts) (putF "has" (.ref phas) (putF "ups" (.ref pups) (putF "lease" (.int le) (putF "most_drift" (.ref dr) ([]))))))))))))))))) psts = some (.lst (List.replicate n (.non))) := by rw [upd_ne x_psts]; exact hpsts_30
    have hpcts_31 : (upd H30 x (.ins (a 61) dx (putF "reigns" (.int 0) (putF "loose" (.bl false) (putF "lent" (.bl false) (putF "entries" (.ref pel) (putF "rules_till" (.ref prts) (putF "promised_in" (.ref ppins) (putF "promises" (.ref pprs) (putF "spans" (.ref psps) (putF "counts" (.ref pcts) (putF "stands" (.ref psts) (putF "has" (.ref phas) (putF "ups" (.ref pups) (putF "lease" (.int le) (putF "most_drift" (.ref dr) ([]))))))))))))))))) pcts = some (.lst (List.replicate n (.int 0))) := by rw [upd_ne x_pcts]; exact hpcts_30
    have hpsps_31 : (upd H30 x (.ins (a 61) dx (putF "reigns" (.int 0) (putF "loose" (.bl false) (putF "lent" (.bl false) (putF "entries" (.ref pel) (putF "rules_till" (.ref prts) (putF "promised_in" (.ref ppins) (putF "promises" (.ref pprs) (putF "spans" (.ref psps) (putF "counts" (.ref pcts) (putF "stands" (.ref psts) (putF "has" (.ref phas) (putF "ups" (.ref pups) (putF "lease" (.int le) (putF "most_drift" (.ref dr) ([]))))))))))))))))) psps = some (.lst (List.replicate n (.non))) := by rw [upd_ne x_psps]; exact hpsps_30
    have hpprs_31 : (upd H30 x (.ins (a 61) dx (putF "reigns" (.int 0) (putF "loose" (.bl false) (putF "lent" (.bl false) (putF "entries" (.ref pel) (putF "rules_till" (.ref prts) (putF "promised_in" (.ref ppins) (putF "promises" (.ref pprs) (putF "spans" (.ref psps) (putF "counts" (.ref pcts) (putF "stands" (.ref psts) (putF "has" (.ref phas) (putF "ups" (.ref pups) (putF "lease" (.int le) (putF "most_drift" (.ref dr) ([]))))))))))))))))) pprs = some (.lst (List.replicate n (.non))) := by rw [upd_ne x_pprs]; exact hpprs_30
    have hppins_31 : (upd H30 x (.ins (a 61) dx (putF "reigns" (.int 0) (putF "loose" (.bl false) (putF "lent" (.bl false) (putF "entries" (.ref pel) (putF "rules_till" (.ref prts) (putF "promised_in" (.ref ppins) (putF "promises" (.ref pprs) (putF "spans" (.ref psps) (putF "counts" (.ref pcts) (putF "stands" (.ref psts) (putF "has" (.ref phas) (putF "ups" (.ref pups) (putF "lease" (.int le) (putF "most_drift" (.ref dr) ([]))))))))))))))))) ppins = some (.lst (List.replicate n (.int 0))) := by rw [upd_ne x_ppins]; exact hppins_30
    have hprts_31 : (upd H30 x (.ins (a 61) dx (putF "reigns" (.int 0) (putF "loose" (.bl false) (putF "lent" (.bl false) (putF "entries" (.ref pel) (putF "rules_till" (.ref prts) (putF "promised_in" (.ref ppins) (putF "promises" (.ref pprs) (putF "spans" (.ref psps) (putF "counts" (.ref pcts) (putF "stands" (.ref psts) (putF "has" (.ref phas) (putF "ups" (.ref pups) (putF "lease" (.int le) (putF "most_drift" (.ref dr) ([]))))))))))))))))) prts = some (.lst (List.replicate n (.non))) := by rw [upd_ne x_prts]; exact hprts_30
    have hpel_31 : (upd H30 x (.ins (a 61) dx (putF "reigns" (.int 0) (putF "loose" (.bl false) (putF "lent" (.bl false) (putF "entries" (.ref pel) (putF "rules_till" (.ref prts) (putF "promised_in" (.ref ppins) (putF "promises" (.ref pprs) (putF "spans" (.ref psps) (putF "counts" (.ref pcts) (putF "stands" (.ref psts) (putF "has" (.ref phas) (putF "ups" (.ref pups) (putF "lease" (.int le) (putF "most_drift" (.ref dr) ([]))))))))))))))))) pel = some (.lst ([])) := by rw [upd_ne x_pel]; exact hpel_30
    generalize (upd H30 x (.ins (a 61) dx (putF "reigns" (.int 0) (putF "loose" (.bl false) (putF "lent" (.bl false) (putF "entries" (.ref pel) (putF "rules_till" (.ref prts) (putF "promised_in" (.ref ppins) (putF "promises" (.ref pprs) (putF "spans" (.ref psps) (putF "counts" (.ref pcts) (putF "stands" (.ref psts) (putF "has" (.ref phas) (putF "ups" (.ref pups) (putF "lease" (.int le) (putF "most_drift" (.ref dr) ([]))))))))))))))))) = H31 at f31 hx31 hpups_31 hphas_31 hpsts_31 hpcts_31 hpsps_31 hpprs_31 hppins_31 hprts_31 hpel_31 ⊢
    refine ⟨_, rfl, x, _, dx, _, rfl, hx31, T.cl, T.n_chosen, Nat.lt_of_le_of_lt (few_up (few_up (few_up (few_up (few_up (few_up (few_up (few_up (few_up (few_up (few_up (few_up (few_up (few_up (few0) _ _) _ _) _ _) _ _) _ _) _ _) _ _) _ _) _ _) _ _) _ _) _ _) _ _) _ _) (by decide), ?_⟩
    have f32 : Fr x H (upd H31 x (.ins (a 61) dx (putF "chosen" (.non) (putF "reigns" (.int 0) (putF "loose" (.bl false) (putF "lent" (.bl false) (putF "entries" (.ref pel) (putF "rules_till" (.ref prts) (putF "promised_in" (.ref ppins) (putF "promises" (.ref pprs) (putF "spans" (.ref psps) (putF "counts" (.ref pcts) (putF "stands" (.ref psts) (putF "has" (.ref phas) (putF "ups" (.ref pups) (putF "lease" (.int le) (putF "most_drift" (.ref dr) ([])))))))))))))))))) := f31.put
    have hx32 : (upd H31 x (.ins (a 61) dx (putF "chosen" (.non) (putF "reigns" (.int 0) (putF "loose" (.bl false) (putF "lent" (.bl false) (putF "entries" (.ref pel) (putF "rules_till" (.ref prts) (putF "promised_in" (.ref ppins) (putF "promises" (.ref pprs) (putF "spans" (.ref psps) (putF "counts" (.ref pcts) (putF "stands" (.ref psts) (putF "has" (.ref phas) (putF "ups" (.ref pups) (putF "lease" (.int le) (putF "most_drift" (.ref dr) ([])))))))))))))))))) x = some (.ins (a 61) dx (putF "chosen" (.non) (putF "reigns" (.int 0) (putF "loose" (.bl false) (putF "lent" (.bl false) (putF "entries" (.ref pel) (putF "rules_till" (.ref prts) (putF "promised_in" (.ref ppins) (putF "promises" (.ref pprs) (putF "spans" (.ref psps) (putF "counts" (.ref pcts) (putF "stands" (.ref psts) (putF "has" (.ref phas) (putF "ups" (.ref pups) (putF "lease" (.int le) (putF "most_drift" (.ref dr) ([]))))))))))))))))) := upd_same
    have hpups_32 : (upd H31 x (.ins (a 61) dx (putF "chosen" (.non) (putF "reigns" (.int 0) (putF "loose" (.bl false) (putF "lent" (.bl false) (putF "entries" (.ref pel) (putF "rules_till" (.ref prts) (putF "promised_in" (.ref ppins) (putF "promises" (.ref pprs) (putF "spans" (.ref psps) (putF "counts" (.ref pcts) (putF "stands" (.ref psts) (putF "has" (.ref phas) (putF "ups" (.ref pups) (putF "lease" (.int le) (putF "most_drift" (.ref dr) ([])))))))))))))))))) pups = some (.lst (List.replicate n (.bl true))) := by rw [upd_ne x_pups]; exact hpups_31
    have hphas_32 : (upd H31 x (.ins (a 61) dx (putF "chosen" (.non) (putF "reigns" (.int 0) (putF "loose" (.bl false) (putF "lent" (.bl false) (putF "entries" (.ref pel) (putF "rules_till" (.ref prts) (putF "promised_in" (.ref ppins) (putF "promises" (.ref pprs) (putF "spans" (.ref psps) (putF "counts" (.ref pcts) (putF "stands" (.ref psts) (putF "has" (.ref phas) (putF "ups" (.ref pups) (putF "lease" (.int le) (putF "most_drift" (.ref dr) ([])))))))))))))))))) phas = some (.lst (List.replicate n (.int 0))) := by rw [upd_ne x_phas]; exact hphas_31
    have hpsts_32 : (upd H31 x (.ins (a 61) dx (putF "chosen" (.non) (putF "reigns" (.int 0) (putF "loose" (.bl false) (putF "lent" (.bl false) (putF "entries" (.ref pel) (putF "rules_till" (.ref prts) (putF "promised_in" (.ref ppins) (putF "promises" (.ref pprs) (putF "spans" (.ref psps) (putF "counts" (.ref pcts) (putF "stands" (.ref psts) (putF "has" (.ref phas) (putF "ups" (.ref pups) (putF "lease" (.int le) (putF "most_drift" (.ref dr) ([])))))))))))))))))) psts = some (.lst (List.replicate n (.non))) := by rw [upd_ne x_psts]; exact hpsts_31
    have hpcts_32 : (upd H31 x (.ins (a 61) dx (putF "chosen" (.non) (putF "reigns" (.int 0) (putF "loose" (.bl false) (putF "lent" (.bl false) (putF "entries" (.ref pel) (putF "rules_till" (.ref prts) (putF "promised_in" (.ref ppins) (putF "promises" (.ref pprs) (putF "spans" (.ref psps) (putF "counts" (.ref pcts) (putF "stands" (.ref psts) (putF "has" (.ref phas) (putF "ups" (.ref pups) (putF "lease" (.int le) (putF "most_drift" (.ref dr) ([])))))))))))))))))) pcts = some (.lst (List.replicate n (.int 0))) := by rw [upd_ne x_pcts]; exact hpcts_31
    have hpsps_32 : (upd H31 x (.ins (a 61) dx (putF "chosen" (.non) (putF "reigns" (.int 0) (putF "loose" (.bl false) (putF "lent" (.bl false) (putF "entries" (.ref pel) (putF "rules_till" (.ref prts) (putF "promised_in" (.ref ppins) (putF "promises" (.ref pprs) (putF "spans" (.ref psps) (putF "counts" (.ref pcts) (putF "stands" (.ref psts) (putF "has" (.ref phas) (putF "ups" (.ref pups) (putF "lease" (.int le) (putF "most_drift" (.ref dr) ([])))))))))))))))))) psps = some (.lst (List.replicate n (.non))) := by rw [upd_ne x_psps]; exact hpsps_31
    have hpprs_32 : (upd H31 x (.ins (a 61) dx (putF "chosen" (.non) (putF "reigns" (.int 0) (putF "loose" (.bl false) (putF "lent" (.bl false) (putF "entries" (.ref pel) (putF "rules_till" (.ref prts) (putF "promised_in" (.ref ppins) (putF "promises" (.ref pprs) (putF "spans" (.ref psps) (putF "counts" (.ref pcts) (putF "stands" (.ref psts) (putF "has" (.ref phas) (putF "ups" (.ref pups) (putF "lease" (.int le) (putF "most_drift" (.ref dr) ([])))))))))))))))))) pprs = some (.lst (List.replicate n (.non))) := by rw [upd_ne x_pprs]; exact hpprs_31
    have hppins_32 : (upd H31 x (.ins (a 61) dx (putF "chosen" (.non) (putF "reigns" (.int 0) (putF "loose" (.bl false) (putF "lent" (.bl false) (putF "entries" (.ref pel) (putF "rules_till" (.ref prts) (putF "promised_in" (.ref ppins) (putF "promises" (.ref pprs) (putF "spans" (.ref psps) (putF "counts" (.ref pcts) (putF "stands" (.ref psts) (putF "has" (.ref phas) (putF "ups" (.ref pups) (putF "lease" (.int le) (putF "most_drift" (.ref dr) ([])))))))))))))))))) ppins = some (.lst (List.replicate n (.int 0))) := by rw [upd_ne x_ppins]; exact hppins_31
    have hprts_32 : (upd H31 x (.ins (a 61) dx (putF "chosen" (.non) (putF "reigns" (.int 0) (putF "loose" (.bl false) (putF "lent" (.bl false) (putF "entries" (.ref pel) (putF "rules_till" (.ref prts) (putF "promised_in" (.ref ppins) (putF "promises" (.ref pprs) (putF "spans" (.ref psps) (putF "counts" (.ref pcts) (putF "stands" (.ref psts) (putF "has" (.ref phas) (putF "ups" (.ref pups) (putF "lease" (.int le) (putF "most_drift" (.ref dr) ([])))))))))))))))))) prts = some (.lst (List.replicate n (.non))) := by rw [upd_ne x_prts]; exact hprts_31
    have hpel_32 : (upd H31 x (.ins (a 61) dx (putF "chosen" (.non) (putF "reigns" (.int 0) (putF "loose" (.bl false) (putF "lent" (.bl false) (putF "entries" (.ref pel) (putF "rules_till" (.ref prts) (putF "promised_in" (.ref ppins) (putF "promises" (.ref pprs) (putF "spans" (.ref psps) (putF "counts" (.ref pcts) (putF "stands" (.ref psts) (putF "has" (.ref phas) (putF "ups" (.ref pups) (putF "lease" (.int le) (putF "most_drift" (.ref dr) ([])))))))))))))))))) pel = some (.lst ([])) := by rw [upd_ne x_pel]; exact hpel_31
    generalize (upd H31 x (.ins (a 61) dx (putF "chosen" (.non) (putF "reigns" (.int 0) (putF "loose" (.bl false) (putF "lent" (.bl false) (putF "entries" (.ref pel) (putF "rules_till" (.ref prts) (putF "promised_in" (.ref ppins) (putF "promises" (.ref pprs) (putF "spans" (.ref psps) (putF "counts" (.ref pcts) (putF "stands" (.ref psts) (putF "has" (.ref phas) (putF "ups" (.ref pups) (putF "lease" (.int le) (putF "most_drift" (.ref dr) ([])))))))))))))))))) = H32 at f32 hx32 hpups_32 hphas_32 hpsts_32 hpcts_32 hpsps_32 hpprs_32 hppins_32 hprts_32 hpel_32 ⊢
    rw [gf_new ⟨dr, pups, phas, psts, pcts, psps, pprs, ppins, prts, pel⟩ le (List.replicate n MS.new)] at hx32
    have ld : DrOk K H32 dr t b := hd.fr f32 hx trivial
    refine q ⟨dr, pups, phas, psts, pcts, psps, pprs, ppins, prts, pel⟩ H32 (fun c z => by simp only [GA.all, List.mem_cons, List.not_mem_nil, or_false] at z; rcases z with rfl | rfl | rfl | rfl | rfl | rfl | rfl | rfl | rfl <;> assumption) x_pel f32 ⟨⟨dx, hx32⟩, ⟨ld, (by show _ = some (HO.lst ((List.replicate n MS.new).map _)); rw [rep_map]; exact hpups_32), (by show _ = some (HO.lst ((List.replicate n MS.new).map _)); rw [rep_map]; exact hphas_32), (by show _ = some (HO.lst ((List.replicate n MS.new).map _)); rw [rep_map]; exact hpcts_32), (by show _ = some (HO.lst ((List.replicate n MS.new).map _)); rw [rep_map]; exact hpprs_32), (by show _ = some (HO.lst ((List.replicate n MS.new).map _)); rw [rep_map]; exact hppins_32), (by show _ = some (HO.lst ((List.replicate n MS.new).map _)); rw [rep_map]; exact hprts_32), ⟨_, hpsts_32, by show SvL K H32 _ ((List.replicate n MS.new).map _); rw [rep_map]; exact rep_sv n⟩, ⟨_, hpsps_32, by show SvL K H32 _ ((List.replicate n MS.new).map _); rw [rep_map]; exact rep_sv n⟩, ⟨[], hpel_32, .nil⟩, z_ups, z_has, z_cts, z_prs, z_pins, z_rts, z_sts, z_sps, (by show (List.replicate n MS.new).length ≤ 5; rw [List.length_replicate]; exact hn5), (by show 0 < (List.replicate n MS.new).length; rw [List.length_replicate]; exact hn1), (fun s hs => by rw [List.eq_of_mem_replicate hs]; exact Int.le_refl 0), Nat.zero_le _⟩⟩

/-! ### k31: what stands behind each deed -/
structure P31 (g : GS) : Prop where
  hb : ∀ s ∈ g.ms, 0 ≤ s.has ∧ s.has ≤ (g.ds.length : Int)
  rt : ∀ s ∈ g.ms, s.rt.isSome = true → s.up = true ∧ s.has = (g.ds.length : Int)
  cl : ∀ s ∈ g.ms, s.st.isSome = true ∧ s.sp.isSome = true
  most : g.ms.length < 2 * ((g.ms.map fun s => s.has).filter fun h => decide (h = (g.ds.length : Int))).length
  ch : ∀ c, g.ch = some c → 0 ≤ c ∧ c < g.ms.length
  lo : g.loose = false
  fl : ∀ d ∈ g.ds, flatT d = true
theorem P31.ok {g : GS} (h : P31 g) : GOk g := ⟨fun i s hs _ => (h.cl s (List.mem_of_getElem? hs)).2, h.ch⟩
theorem mem_set {ms : List MS} {i : Nat} {s' u : MS} (h : u ∈ ms.set i s') : u ∈ ms ∨ u = s' := List.mem_or_eq_of_mem_set h
/-- a copy is changed in what this law doesn't look at -/
theorem P31.set {g : GS} (h : P31 g) {i : Nat} {s s' : MS} (hs : g.ms[i]? = some s) (eh : s'.has = s.has) (er : s'.rt.isSome = true → s.rt.isSome = true ∧ s'.up = s.up) (cl : s'.st.isSome = true ∧ s'.sp.isSome = true) : P31 { g with ms := g.ms.set i s' } := by
  have hm := List.mem_of_getElem? hs
  refine ⟨fun u hu => ?_, fun u hu r => ?_, fun u hu => ?_, ?_, fun c hc => ?_, h.lo, h.fl⟩
  · rcases mem_set hu with z | rfl
    · exact h.hb u z
    · rw [eh]; exact h.hb s hm
  · rcases mem_set hu with z | rfl
    · exact h.rt u z r
    · obtain ⟨a, b⟩ := er r
      rw [b, eh]
      exact h.rt s hm a
  · rcases mem_set hu with z | rfl
    · exact h.cl u z
    · exact cl
  · show (g.ms.set i s').length < 2 * (((g.ms.set i s').map fun s => s.has).filter _).length
    rw [List.length_set, map_same hs eh]
    exact h.most
  · show 0 ≤ c ∧ c < (g.ms.set i s').length
    rw [List.length_set]
    exact h.ch c hc
theorem P31.tick {g : GS} (h : P31 g) {i : Nat} {s : MS} {t b m : Int} (hs : g.ms[i]? = some s) : P31 { g with ms := g.ms.set i (s.ticked t b m) } := by
  have c := h.cl s (List.mem_of_getElem? hs)
  refine h.set hs rfl (fun r => ⟨r, rfl⟩) ⟨c.1, ?_⟩
  show (spOf t b { s with n := s.n + m }).isSome = true
  unfold spOf
  rw [Option.isSome_map]
  exact c.1
theorem P31.back {g : GS} (h : P31 g) {i : Nat} {s : MS} (hs : g.ms[i]? = some s) : P31 { g with ms := g.ms.set i { s with up := true } } := by
  have hm := List.mem_of_getElem? hs
  refine h.set hs rfl (fun r => ⟨r, ?_⟩) (h.cl s hm)
  exact (h.rt s hm r).1.symm
theorem P31.stop {g : GS} (h : P31 g) {i : Nat} {s : MS} (hs : g.ms[i]? = some s) : P31 { g with ms := g.ms.set i { s with up := false, rt := none } } :=
  h.set hs rfl (fun r => by cases r) (h.cl s (List.mem_of_getElem? hs))
theorem count_set {p : Int → Bool} {v : Int} (hv : p v = true) : ∀ (l : List Int) (i : Nat), (l.filter p).length ≤ ((l.set i v).filter p).length
  | [], _ => Nat.le_refl _
  | a :: r, 0 => by
    rw [List.set_cons_zero, List.filter_cons, List.filter_cons, if_pos hv]
    split <;> simp
  | a :: r, i + 1 => by
    rw [List.set_cons_succ, List.filter_cons, List.filter_cons]
    have := count_set hv r i
    split <;> simp <;> omega
/-- a copy has all of the book -/
theorem P31.all {g : GS} (h : P31 g) {i : Nat} {s s' : MS} (hs : g.ms[i]? = some s) (eh : s'.has = (g.ds.length : Int)) (eu : s'.rt.isSome = true → s'.up = true) (cl : s'.st = s.st ∧ s'.sp = s.sp) : P31 { g with ms := g.ms.set i s' } := by
  have hm := List.mem_of_getElem? hs
  refine ⟨fun u hu => ?_, fun u hu r => ?_, fun u hu => ?_, ?_, fun c hc => ?_, h.lo, h.fl⟩
  · rcases mem_set hu with z | rfl
    · exact h.hb u z
    · rw [eh]
      show 0 ≤ (g.ds.length : Int) ∧ (g.ds.length : Int) ≤ (g.ds.length : Int)
      omega
  · rcases mem_set hu with z | rfl
    · exact h.rt u z r
    · exact ⟨eu r, eh⟩
  · rcases mem_set hu with z | rfl
    · exact h.cl u z
    · rw [cl.1, cl.2]; exact h.cl s hm
  · show (g.ms.set i s').length < 2 * (((g.ms.set i s').map fun s => s.has).filter _).length
    rw [List.length_set, List.map_set, eh]
    have := count_set (p := fun h => decide (h = (g.ds.length : Int))) (v := (g.ds.length : Int)) (decide_eq_true rfl) (g.ms.map fun s => s.has) i
    have := h.most
    show g.ms.length < 2 * (((g.ms.map fun s => s.has).set i (g.ds.length : Int)).filter fun h => decide (h = (g.ds.length : Int))).length
    omega
  · show 0 ≤ c ∧ c < (g.ms.set i s').length
    rw [List.length_set]
    exact h.ch c hc
theorem head_rules {g : GS} (h : P31 g) {c : Int} {sh : MS} (e : headOf g = some c) (hs : g.ms[c.toNat]? = some sh) : sh.rt.isSome = true := by
  unfold headOf at e
  cases c2 : g.ch with
  | none => rw [c2] at e; cases e
  | some k =>
    rw [c2] at e
    have e : (if atG mayR g k.toNat = true then some k else none) = some c := e
    by_cases c3 : atG mayR g k.toNat = true
    · rw [if_pos c3] at e
      cases e
      rw [atG_of hs] at c3
      unfold mayR at c3
      cases c4 : sh.rt with
      | none => rw [c4] at c3; cases c3
      | some m => rfl
    · rw [if_neg c3] at e
      cases e
theorem P31.catch {g : GS} (h : P31 g) {i : Nat} {s sh : MS} {c : Int} (hs : g.ms[i]? = some s) (e : headOf g = some c) (hsh : g.ms[c.toNat]? = some sh) : P31 { g with ms := g.ms.set i { s with has := sh.has } } := by
  have r := head_rules h e hsh
  exact h.all hs (h.rt sh (List.mem_of_getElem? hsh) r).2 (fun z => (h.rt s (List.mem_of_getElem? hs) z).1) ⟨rfl, rfl⟩
theorem filter_two {α : Type} (p q : α → Bool) : ∀ l : List α, (l.filter p).length + (l.filter q).length ≤ l.length + (l.filter fun a => p a && q a).length
  | [] => Nat.le_refl _
  | a :: r => by
    have ih := filter_two p q r
    rw [List.filter_cons, List.filter_cons, List.filter_cons]
    cases p a <;> cases q a <;> simp <;> omega
theorem range_get (n j : Nat) : (List.range n)[j]? = if j < n then some j else none := by
  by_cases c : j < n
  · rw [if_pos c, List.getElem?_range c]
  · rw [if_neg c, List.getElem?_eq_none (by rw [List.length_range]; omega)]
theorem range_filter {g : GS} (p : Int → Bool) : ((g.ms.map fun s => s.has).filter p).length = ((List.range g.ms.length).filter fun i => p (hasG g i)).length := by
  have e : (g.ms.map fun s => s.has) = (List.range g.ms.length).map (hasG g) := by
    apply List.ext_getElem?
    intro j
    rw [List.getElem?_map, List.getElem?_map, range_get]
    by_cases c : j < g.ms.length
    · rw [if_pos c, List.getElem?_eq_getElem c]
      show some _ = some (hasG g j)
      unfold hasG
      rw [List.getElem?_eq_getElem c]
    · rw [if_neg c, List.getElem?_eq_none (by omega)]
      rfl
  rw [e, List.filter_map, List.length_map]
  rfl
/-- most promise, and most have all: one of them is both -/
theorem P31.max {g : GS} (h : P31 g) {mh : Int} (c : g.ms.length < 2 * (pickG canP g).length) (m : IsMax (hasG g) (pickG canP g) mh) : mh = (g.ds.length : Int) := by
  have h1 := h.most
  rw [range_filter] at h1
  have h2 := filter_two (atG canP g) (fun i => decide (hasG g i = (g.ds.length : Int))) (List.range g.ms.length)
  rw [List.length_range] at h2
  have h3 : 0 < ((List.range g.ms.length).filter fun a => atG canP g a && decide (hasG g a = (g.ds.length : Int))).length := by
    have e : (pickG canP g).length = ((List.range g.ms.length).filter (atG canP g)).length := rfl
    omega
  obtain ⟨k, hk⟩ := List.exists_mem_of_length_pos h3
  rw [List.mem_filter, Bool.and_eq_true, decide_eq_true_eq] at hk
  have kin : k ∈ pickG canP g := List.mem_filter.mpr ⟨hk.1, hk.2.1⟩
  have z := m.2 k kin
  obtain ⟨j, hj, ej⟩ := m.1
  obtain ⟨s, hs⟩ := getM (is_lt j hj)
  have y := (h.hb s (List.mem_of_getElem? hs)).2
  have e2 : hasG g j = s.has := by unfold hasG; rw [hs]
  have := hk.2.2
  omega
theorem P31.prom {g : GS} (h : P31 g) (is : List Nat) (till rg : Int) (r c : Int) (hc : 0 ≤ c ∧ c < g.ms.length) : P31 { g with rg := r, ch := some c, ms := promL g.ms is till rg } := by
  have mm : ∀ u ∈ promL g.ms is till rg, ∃ s ∈ g.ms, u.has = s.has ∧ u.rt = s.rt ∧ u.up = s.up ∧ u.st = s.st ∧ u.sp = s.sp := fun u hu => by
    obtain ⟨j, hj⟩ := List.getElem?_of_mem hu
    unfold promL at hj
    rw [List.getElem?_mapIdx] at hj
    cases e : g.ms[j]? with
    | none => rw [e] at hj; cases hj
    | some s =>
      rw [e] at hj
      have e2 : u = if j ∈ is then { s with pr := some till, pin := rg } else s := (Option.some.inj hj).symm
      refine ⟨s, List.mem_of_getElem? e, ?_⟩
      rw [e2]
      by_cases c2 : j ∈ is
      · rw [if_pos c2]; exact ⟨rfl, rfl, rfl, rfl, rfl⟩
      · rw [if_neg c2]; exact ⟨rfl, rfl, rfl, rfl, rfl⟩
  have hh : (promL g.ms is till rg).map (fun s => s.has) = g.ms.map fun s => s.has := by
    apply List.ext_getElem?
    intro j
    unfold promL
    rw [List.getElem?_map, List.getElem?_map, List.getElem?_mapIdx]
    cases g.ms[j]? with
    | none => rfl
    | some s =>
      show some (if j ∈ is then ({ s with pr := some till, pin := rg } : MS) else s).has = some s.has
      by_cases c2 : j ∈ is
      · rw [if_pos c2]
      · rw [if_neg c2]
  refine ⟨fun u hu => ?_, fun u hu r' => ?_, fun u hu => ?_, ?_, fun d hd => ?_, h.lo, h.fl⟩
  · obtain ⟨s, hs, a, _⟩ := mm u hu
    rw [a]; exact h.hb s hs
  · obtain ⟨s, hs, a, b', c', _⟩ := mm u hu
    rw [a, c']; exact h.rt s hs (b' ▸ r')
  · obtain ⟨s, hs, _, _, _, a, b'⟩ := mm u hu
    rw [a, b']; exact h.cl s hs
  · show (promL g.ms is till rg).length < 2 * (((promL g.ms is till rg).map fun s => s.has).filter _).length
    rw [promL_len, hh]
    exact h.most
  · show 0 ≤ d ∧ d < (promL g.ms is till rg).length
    rw [promL_len]
    have e : c = d := Option.some.inj hd
    subst e
    exact hc
theorem P31.choose {g : GS} (h : P31 g) {i : Nat} {s : MS} {mh till : Int} (hs : g.ms[i]? = some s) (c : canC g i = true) (m : IsMax (hasG g) (pickG canP g) mh) : P31 (choG g i s mh till) := by
  unfold canC at c
  rw [Bool.and_eq_true, decide_eq_true_eq, atG_of hs] at c
  have e := h.max c.2 m
  have up : s.up = true := by
    have := c.1
    unfold canP at this
    cases c2 : s.up with
    | true => rfl
    | false => rw [c2] at this; cases this
  have h1 := h.all (s' := { s with has := mh, rt := some till }) hs e (fun _ => up) ⟨rfl, rfl⟩
  have hi := (List.getElem?_eq_some_iff.mp hs).1
  exact h1.prom (pickG canP g) till (g.rg + 1) (g.rg + 1) i ⟨by omega, by
    show (i : Int) < (g.ms.set i _).length
    rw [List.length_set]
    omega⟩
theorem P31.write {g : GS} (h : P31 g) {ds : List PyData} (c : canW g = true) (hd : ds.all leafD = true) : P31 (wroteG g (.tuple ds)) := by
  have ln : (wroteG g (.tuple ds)).ms.length = g.ms.length := by unfold wroteG; rw [List.length_map]
  have dl : ((wroteG g (.tuple ds)).ds.length : Int) = (g.ds.length : Int) + 1 := by
    show ((g.ds ++ [PyData.tuple ds]).length : Int) = _
    rw [List.length_append]
    rfl
  have mm : ∀ u ∈ (wroteG g (.tuple ds)).ms, ∃ s ∈ g.ms, u.rt = s.rt ∧ u.up = s.up ∧ u.st = s.st ∧ u.sp = s.sp ∧ u.has = (if isWr g s = true then s.has + 1 else s.has) := fun u hu => by
    unfold wroteG at hu
    obtain ⟨s, hs, rfl⟩ := List.mem_map.mp hu
    refine ⟨s, hs, ?_⟩
    cases c2 : isWr g s with
    | true => rw [if_pos rfl, if_pos rfl]; exact ⟨rfl, rfl, rfl, rfl, rfl⟩
    | false => rw [if_neg (by decide), if_neg (by decide)]; exact ⟨rfl, rfl, rfl, rfl, rfl⟩
  have wr : ∀ s, isWr g s = true ↔ s.has = (g.ds.length : Int) ∧ s.up = true := fun s => by
    unfold isWr
    rw [Bool.and_eq_true, decide_eq_true_eq]
  refine ⟨fun u hu => ?_, fun u hu r => ?_, fun u hu => ?_, ?_, fun d hd' => ?_, h.lo, fun d hd' => ?_⟩
  · obtain ⟨s, hs, _, _, _, _, e⟩ := mm u hu
    have z := h.hb s hs
    rw [dl, e]
    cases c2 : isWr g s with
    | true =>
      have := (wr s).mp c2
      rw [if_pos rfl]
      omega
    | false =>
      rw [if_neg (by decide)]
      omega
  · obtain ⟨s, hs, a, b', _, _, e⟩ := mm u hu
    have z := h.rt s hs (a ▸ r)
    rw [dl, e, b', if_pos ((wr s).mpr ⟨z.2, z.1⟩)]
    exact ⟨z.1, by omega⟩
  · obtain ⟨s, hs, _, _, a, b', _⟩ := mm u hu
    rw [a, b']; exact h.cl s hs
  · rw [ln, dl]
    unfold canW at c
    rw [Bool.and_eq_true, decide_eq_true_eq] at c
    have e1 : ((wroteG g (.tuple ds)).ms.map fun s => s.has).filter (fun h => decide (h = (g.ds.length : Int) + 1)) = ((g.ms.filter (isWr g)).map fun s => s.has + 1) := by
      unfold wroteG
      show ((g.ms.map fun s => if isWr g s = true then ({ s with has := s.has + 1 } : MS) else s).map fun s => s.has).filter _ = _
      have go : ∀ l : List MS, (∀ s ∈ l, s.has ≤ (g.ds.length : Int)) → ((l.map fun s => if isWr g s = true then ({ s with has := s.has + 1 } : MS) else s).map fun s => s.has).filter (fun h => decide (h = (g.ds.length : Int) + 1)) = ((l.filter (isWr g)).map fun s => s.has + 1) := by
        intro l
        induction l with
        | nil => intro _; rfl
        | cons s r ih =>
          intro hl
          have ih := ih fun u hu => hl u (List.mem_cons_of_mem _ hu)
          have hs := hl s (List.mem_cons_self ..)
          rw [List.map_cons, List.map_cons, List.filter_cons, List.filter_cons, ih]
          cases c2 : isWr g s with
          | true =>
            have := (wr s).mp c2
            rw [if_pos rfl, if_pos (decide_eq_true (by show s.has + 1 = _; omega)), if_pos rfl, List.map_cons]
          | false =>
            have e5 : (if false = true then ({ s with has := s.has + 1 } : MS) else s) = s := if_neg (by decide)
            rw [e5, if_neg (by simp; omega), if_neg (by decide)]
      exact go g.ms fun s hs => (h.hb s hs).2
    rw [e1, List.length_map]
    have e2 : (g.ms.filter (isWr g)).length = (pickG (isWr g) g).length := by
      unfold pickG
      have e : g.ms.map (isWr g) = (List.range g.ms.length).map (atG (isWr g) g) := by
        apply List.ext_getElem?
        intro j
        rw [List.getElem?_map, List.getElem?_map, range_get]
        by_cases c : j < g.ms.length
        · rw [if_pos c, List.getElem?_eq_getElem c]
          show some _ = some (atG (isWr g) g j)
          rw [atG_of (List.getElem?_eq_getElem c)]
        · rw [if_neg c, List.getElem?_eq_none (by omega)]
          rfl
      have e3 : ∀ {α : Type} (l : List α) (f : α → Bool), (l.filter f).length = ((l.map f).filter id).length := fun l f => by
        rw [List.filter_map, List.length_map]
        rfl
      rw [e3, e3 (List.range g.ms.length), e]
    rw [e2]
    exact c.2
  · show 0 ≤ d ∧ d < (wroteG g (.tuple ds)).ms.length
    rw [ln]
    exact h.ch d hd'
  · have hd' : d ∈ g.ds ++ [PyData.tuple ds] := hd'
    rcases List.mem_append.mp hd' with z | z
    · exact h.fl d z
    · rw [List.mem_singleton.mp z]
      exact hd
/-! ### k30: who promised what -/
structure Cr where
  up : Bool
  pr : Option Int
  pin : Int
  rt : Option Int
def core (s : MS) : Cr := ⟨s.up, s.pr, s.pin, s.rt⟩
def geP (e : Int) (c : Cr) : Bool := match c.pr with
  | none => false
  | some p => decide (e ≤ p)
theorem geP_iff {e : Int} {c : Cr} : geP e c = true ↔ ∃ p, c.pr = some p ∧ e ≤ p := by
  unfold geP
  cases h : c.pr with
  | none => simp
  | some p => simp
def anyC (p : Cr → Bool) (cs : List Cr) (j : Nat) : Bool := match cs[j]? with
  | none => false
  | some c => p c
theorem anyC_of {p : Cr → Bool} {cs : List Cr} {j : Nat} {c : Cr} (h : cs[j]? = some c) : anyC p cs j = p c := by unfold anyC; rw [h]
theorem cntC (p : Cr → Bool) (cs : List Cr) : (cs.filter p).length = ((List.range cs.length).filter (anyC p cs)).length := by
  have e : cs.map p = (List.range cs.length).map (anyC p cs) := by
    apply List.ext_getElem?
    intro j
    rw [List.getElem?_map, List.getElem?_map, range_get]
    by_cases c : j < cs.length
    · rw [if_pos c, List.getElem?_eq_getElem c]
      show some _ = some (anyC p cs j)
      rw [anyC_of (List.getElem?_eq_getElem c)]
    · rw [if_neg c, List.getElem?_eq_none (by omega)]
      rfl
  have e3 : ∀ {α : Type} (l : List α) (f : α → Bool), (l.filter f).length = ((l.map f).filter id).length := fun l f => by
    rw [List.filter_map, List.length_map]
    rfl
  rw [e3, e3 (List.range cs.length), e]
theorem filter_mono {α : Type} {p q : α → Bool} : ∀ {l : List α}, (∀ a ∈ l, p a = true → q a = true) → (l.filter p).length ≤ (l.filter q).length
  | [], _ => Nat.le_refl _
  | a :: r, h => by
    have ih := filter_mono (l := r) fun b hb => h b (List.mem_cons_of_mem _ hb)
    have h0 := h a (List.mem_cons_self ..)
    rw [List.filter_cons, List.filter_cons]
    cases hp : p a with
    | false =>
      rw [if_neg (by decide)]
      split
      · rw [List.length_cons]; omega
      · exact ih
    | true =>
      rw [if_pos rfl, if_pos (h0 hp), List.length_cons, List.length_cons]
      omega
/-- more than half promised till e, or later -/
def Most (cs : List Cr) (e : Int) : Prop := cs.length < 2 * ((List.range cs.length).filter (anyC (geP e) cs)).length
/-- those of is, more than half, and those that promised e: one is both -/
theorem Most.meet {cs : List Cr} {e : Int} (h : Most cs e) {q : Nat → Bool} (hq : cs.length < 2 * ((List.range cs.length).filter q).length) : ∃ (k : Nat) (c : Cr) (p : Int), k < cs.length ∧ q k = true ∧ cs[k]? = some c ∧ c.pr = some p ∧ e ≤ p := by
  have h2 := filter_two q (anyC (geP e) cs) (List.range cs.length)
  rw [List.length_range] at h2
  have h3 : 0 < ((List.range cs.length).filter fun a => q a && anyC (geP e) cs a).length := by
    unfold Most at h
    omega
  obtain ⟨k, hk⟩ := List.exists_mem_of_length_pos h3
  rw [List.mem_filter, Bool.and_eq_true] at hk
  have kl := List.mem_range.mp hk.1
  have ek := List.getElem?_eq_getElem kl
  rw [anyC_of ek] at hk
  obtain ⟨p, a, b⟩ := geP_iff.mp hk.2.2
  exact ⟨k, _, p, kl, hk.2.1, ek, a, b⟩
theorem Most.mono {cs cs' : List Cr} {e : Int} (h : Most cs e) (hl : cs'.length = cs.length) (hm : ∀ (j : Nat) (c : Cr) (p : Int), cs[j]? = some c → c.pr = some p → e ≤ p → ∃ c' p', cs'[j]? = some c' ∧ c'.pr = some p' ∧ e ≤ p') : Most cs' e := by
  unfold Most at *
  rw [hl]
  refine Nat.lt_of_lt_of_le h (Nat.mul_le_mul_left 2 (filter_mono fun j hj hp => ?_))
  have jl := List.mem_range.mp hj
  have ej := List.getElem?_eq_getElem jl
  rw [anyC_of ej] at hp
  obtain ⟨p, a, b⟩ := geP_iff.mp hp
  obtain ⟨c', p', e1, e2, e3⟩ := hm j _ p ej a b
  rw [anyC_of e1]
  exact geP_iff.mpr ⟨p', e2, e3⟩
structure R30 (cs : List Cr) (rg : Int) (ch : Option Int) (now : Int) (fs : List Int) : Prop where
  up : ∀ c ∈ cs, c.rt.isSome = true → c.up = true
  oth : ∀ (i : Nat) (c : Cr), cs[i]? = some c → ch ≠ some (i : Int) → ∀ T, c.rt = some T → T ≤ now
  cho : ∀ (i : Nat) (c : Cr) (T : Int), ch = some (i : Int) → cs[i]? = some c → c.rt = some T → Most cs T
  pin : ∀ (i : Nat) (c : Cr) (T : Int), ch = some (i : Int) → cs[i]? = some c → c.rt = some T → ∀ m ∈ cs, m.pin = rg → ∀ p, m.pr = some p → p ≤ T
  pl : ∀ m ∈ cs, m.pin ≤ rg
  pb : ∀ m ∈ cs, ∀ p, m.pr = some p → p ≤ 2 * now + 1100
  p0 : ∀ m ∈ cs, ∀ p, m.pr = some p → 0 ≤ p
  rb : ∀ m ∈ cs, ∀ T, m.rt = some T → T ≤ 2 * now + 1100
  fs : ∀ e ∈ fs, e = -1 ∨ Most cs e
  chr : ∀ c, ch = some c → 0 ≤ c ∧ c < cs.length
theorem R30.tick {cs : List Cr} {rg now now' : Int} {ch : Option Int} {fs : List Int} (h : R30 cs rg ch now fs) (l : now ≤ now') : R30 cs rg ch now' fs :=
  ⟨h.up, fun i c a b T e => Int.le_trans (h.oth i c a b T e) l, h.cho, h.pin, h.pl, fun m hm p e => by have := h.pb m hm p e; omega, h.p0, fun m hm p e => by have := h.rb m hm p e; omega, h.fs, h.chr⟩
theorem cget {cs : List Cr} {i : Nat} {c' : Cr} {j : Nat} {u : Cr} (h : (cs.set i c')[j]? = some u) : (j = i ∧ u = c') ∨ (j ≠ i ∧ cs[j]? = some u) := by
  rw [List.getElem?_set] at h
  by_cases e : i = j
  · subst e
    rw [if_pos rfl] at h
    by_cases l : i < cs.length
    · rw [if_pos l] at h
      exact .inl ⟨rfl, (Option.some.inj h).symm⟩
    · rw [if_neg l] at h
      cases h
  · rw [if_neg e] at h
    exact .inr ⟨fun z => e z.symm, h⟩
/-- up or down, rules_till left as it is or cleared -/
theorem R30.set {cs : List Cr} {rg now : Int} {ch : Option Int} {fs : List Int} (h : R30 cs rg ch now fs) {i : Nat} {c c' : Cr} (hc : cs[i]? = some c) (ep : c'.pr = c.pr) (en : c'.pin = c.pin) (er : ∀ T, c'.rt = some T → c.rt = some T ∧ c'.up = true) : R30 (cs.set i c') rg ch now fs := by
  have hm := List.mem_of_getElem? hc
  have ms : ∀ u ∈ cs.set i c', ∃ v ∈ cs, u.pr = v.pr ∧ u.pin = v.pin ∧ (∀ T, u.rt = some T → v.rt = some T ∧ u.up = true) := fun u hu => by
    rcases List.mem_or_eq_of_mem_set hu with z | rfl
    · exact ⟨u, z, rfl, rfl, fun T e => ⟨e, h.up u z (by rw [e]; rfl)⟩⟩
    · exact ⟨c, hm, ep, en, er⟩
  have mo : ∀ {e : Int}, Most cs e → Most (cs.set i c') e := fun m => m.mono (List.length_set ..) fun j d p e1 e2 e3 => by
    by_cases z : i = j
    · subst z
      rw [hc] at e1
      cases e1
      exact ⟨c', p, List.getElem?_set_self (List.getElem?_eq_some_iff.mp hc).1, by rw [ep]; exact e2, e3⟩
    · exact ⟨d, p, by rw [List.getElem?_set_ne z]; exact e1, e2, e3⟩
  have at' : ∀ {j : Nat} {u : Cr} {T : Int}, (cs.set i c')[j]? = some u → u.rt = some T → ∃ v, cs[j]? = some v ∧ v.rt = some T := fun a b => by
    rcases cget a with ⟨rfl, rfl⟩ | ⟨_, z⟩
    · exact ⟨c, hc, (er _ b).1⟩
    · exact ⟨_, z, b⟩
  refine ⟨fun u hu r => ?_, fun j u a b T e => ?_, fun j u T a b e => ?_, fun j u T a b e m hm' ep' p e' => ?_, fun m hm' => ?_, fun m hm' p e => ?_, fun m hm' p e => ?_, fun m hm' T e => ?_, fun e he => (h.fs e he).imp id mo, fun d hd => by rw [List.length_set]; exact h.chr d hd⟩
  · obtain ⟨T, eT⟩ := Option.isSome_iff_exists.mp r
    obtain ⟨v, _, _, _, z⟩ := ms u hu
    exact (z T eT).2
  · obtain ⟨v, e1, e2⟩ := at' a e
    exact h.oth j v e1 b T e2
  · obtain ⟨v, e1, e2⟩ := at' b e
    exact mo (h.cho j v T a e1 e2)
  · obtain ⟨v, e1, e2⟩ := at' b e
    obtain ⟨w, hw, f1, f2, _⟩ := ms m hm'
    exact h.pin j v T a e1 e2 w hw (f2 ▸ ep') p (f1 ▸ e')
  · obtain ⟨w, hw, _, f2, _⟩ := ms m hm'
    rw [f2]; exact h.pl w hw
  · obtain ⟨w, hw, f1, _⟩ := ms m hm'
    exact h.pb w hw p (f1 ▸ e)
  · obtain ⟨w, hw, f1, _⟩ := ms m hm'
    exact h.p0 w hw p (f1 ▸ e)
  · obtain ⟨w, hw, _, _, f3⟩ := ms m hm'
    exact h.rb w hw T (f3 T e).1
/-- who rules by the true time is the chosen one -/
theorem R30.head {cs : List Cr} {rg now : Int} {ch : Option Int} {fs : List Int} (h : R30 cs rg ch now fs) {i : Nat} {c : Cr} {T : Int} (hc : cs[i]? = some c) (e : c.rt = some T) (l : now < T) : ch = some (i : Int) := by
  apply Classical.byContradiction
  intro z
  have := h.oth i c hc z T e
  omega
theorem R30.note {cs : List Cr} {rg now : Int} {ch : Option Int} {fs : List Int} (h : R30 cs rg ch now fs) {e : Int} (m : e = -1 ∨ Most cs e) : R30 cs rg ch now (fs ++ [e]) :=
  ⟨h.up, h.oth, h.cho, h.pin, h.pl, h.pb, h.p0, h.rb, fun a ha => (List.mem_append.mp ha).elim (h.fs a) fun z => by rw [List.mem_singleton.mp z]; exact m, h.chr⟩
def promC (cs : List Cr) (is : List Nat) (till rg : Int) : List Cr := cs.mapIdx fun j c => if j ∈ is then { c with pr := some till, pin := rg } else c
theorem promC_get {cs : List Cr} {is : List Nat} {till rg : Int} {j : Nat} {u : Cr} (h : (promC cs is till rg)[j]? = some u) : ∃ c, cs[j]? = some c ∧ u = if j ∈ is then { c with pr := some till, pin := rg } else c := by
  unfold promC at h
  rw [List.getElem?_mapIdx] at h
  cases e : cs[j]? with
  | none => rw [e] at h; cases h
  | some c =>
    rw [e] at h
    exact ⟨c, rfl, (Option.some.inj h).symm⟩
theorem promC_len (cs : List Cr) (is : List Nat) (till rg : Int) : (promC cs is till rg).length = cs.length := by unfold promC; rw [List.length_mapIdx]
theorem promC_at {cs : List Cr} {is : List Nat} {till rg : Int} {j : Nat} {c : Cr} (h : cs[j]? = some c) : (promC cs is till rg)[j]? = some (if j ∈ is then { c with pr := some till, pin := rg } else c) := by
  unfold promC
  rw [List.getElem?_mapIdx, h]
  rfl
/-- those of is promise till T to i, whose rules_till it becomes -/
theorem R30.prom {cs : List Cr} {rg rg' now : Int} {ch : Option Int} {fs : List Int} (n0 : 0 ≤ now) (h : R30 cs rg ch now fs) {i : Nat} {c : Cr} {T : Int} {q : Nat → Bool} (hc : cs[i]? = some c) (cu : c.up = true)
    (hq : cs.length < 2 * ((List.range cs.length).filter q).length) (lo : now < T) (hi : T ≤ 2 * now + 1100) (hr : rg ≤ rg')
    (up : ∀ (j : Nat) (d : Cr) (p : Int), q j = true → cs[j]? = some d → d.pr = some p → p ≤ T)
    (nc : ∀ (j : Nat) (d : Cr) (S : Int), cs[j]? = some d → j ≠ i → d.rt = some S → S ≤ now)
    (pn : ∀ (j : Nat) (d : Cr) (p : Int), cs[j]? = some d → d.pin = rg' → d.pr = some p → p ≤ T) :
    R30 (promC (cs.set i { c with rt := some T }) ((List.range cs.length).filter q) T rg') rg' (some (i : Int)) now fs := by
  have il := (List.getElem?_eq_some_iff.mp hc).1
  have inq : ∀ {j : Nat}, j ∈ (List.range cs.length).filter q ↔ j < cs.length ∧ q j = true := fun {j} => by rw [List.mem_filter, List.mem_range]
  have ln : (promC (cs.set i { c with rt := some T }) ((List.range cs.length).filter q) T rg').length = cs.length := by rw [promC_len, List.length_set]
  have get : ∀ {j : Nat} {u : Cr}, (promC (cs.set i { c with rt := some T }) ((List.range cs.length).filter q) T rg')[j]? = some u → ∃ d, cs[j]? = some d ∧ u.up = d.up ∧ (u.rt = if j = i then some T else d.rt) ∧ (q j = true → u.pr = some T ∧ u.pin = rg') ∧ (q j = false → u.pr = d.pr ∧ u.pin = d.pin) := fun {j u} hu => by
    obtain ⟨d', e1, e2⟩ := promC_get hu
    have base : ∃ d, cs[j]? = some d ∧ d'.up = d.up ∧ (d'.rt = if j = i then some T else d.rt) ∧ d'.pr = d.pr ∧ d'.pin = d.pin := by
      rcases cget e1 with ⟨rfl, rfl⟩ | ⟨nj, z⟩
      · exact ⟨c, hc, rfl, by rw [if_pos rfl], rfl, rfl⟩
      · exact ⟨d', z, rfl, by rw [if_neg nj], rfl, rfl⟩
    obtain ⟨d, f1, f2, f3, f4, f5⟩ := base
    have jl := (List.getElem?_eq_some_iff.mp f1).1
    refine ⟨d, f1, ?_⟩
    cases c2 : q j with
    | true =>
      rw [if_pos (inq.mpr ⟨jl, c2⟩)] at e2
      subst e2
      exact ⟨f2, f3, fun _ => ⟨rfl, rfl⟩, (fun z => by cases z)⟩
    | false =>
      rw [if_neg (fun z => by rw [(inq.mp z).2] at c2; cases c2)] at e2
      subst e2
      exact ⟨f2, f3, (fun z => by cases z), fun _ => ⟨f4, f5⟩⟩
  have gm : ∀ u ∈ promC (cs.set i { c with rt := some T }) ((List.range cs.length).filter q) T rg', ∃ j, (promC (cs.set i { c with rt := some T }) ((List.range cs.length).filter q) T rg')[j]? = some u := fun u hu => List.getElem?_of_mem hu
  have some_at : ∀ {j : Nat} {d : Cr}, cs[j]? = some d → ∃ u, (promC (cs.set i { c with rt := some T }) ((List.range cs.length).filter q) T rg')[j]? = some u := fun {j d} e => by
    have jl := (List.getElem?_eq_some_iff.mp e).1
    exact ⟨_, List.getElem?_eq_getElem (by rw [ln]; exact jl)⟩
  have mo : ∀ {e : Int}, Most cs e → Most (promC (cs.set i { c with rt := some T }) ((List.range cs.length).filter q) T rg') e := fun m => m.mono ln fun j d p e1 e2 e3 => by
    obtain ⟨u, hu⟩ := some_at e1
    obtain ⟨d', f1, _, _, f4, f5⟩ := get hu
    rw [e1] at f1
    cases f1
    cases c2 : q j with
    | true => exact ⟨u, T, hu, (f4 c2).1, Int.le_trans e3 (up j d p c2 e1 e2)⟩
    | false => exact ⟨u, p, hu, by rw [(f5 c2).1]; exact e2, e3⟩
  have mT : Most (promC (cs.set i { c with rt := some T }) ((List.range cs.length).filter q) T rg') T := by
    unfold Most
    rw [ln]
    refine Nat.lt_of_lt_of_le hq (Nat.mul_le_mul_left 2 (filter_mono fun j hj hp => ?_))
    have jl := List.mem_range.mp hj
    obtain ⟨u, hu⟩ := some_at (List.getElem?_eq_getElem jl)
    obtain ⟨d', _, _, _, f4, _⟩ := get hu
    rw [anyC_of hu]
    exact geP_iff.mpr ⟨T, (f4 hp).1, Int.le_refl T⟩
  have chI : ∀ {j : Nat}, (some (i : Int) : Option Int) = some (j : Int) → j = i := fun {j} e => by have := Option.some.inj e; omega
  refine ⟨fun u hu r => ?_, fun j u a b' S e => ?_, fun j u S a b' e => ?_, fun j u S a b' e m hm ep p e' => ?_, fun m hm => ?_, fun m hm p e => ?_, fun m hm p e => ?_, fun m hm S e => ?_, fun e he => (h.fs e he).imp id mo, fun d hd => ?_⟩
  · obtain ⟨j, hj⟩ := gm u hu
    obtain ⟨d, f1, f2, f3, _⟩ := get hj
    rw [f2]
    by_cases z : j = i
    · rw [z] at f1
      rw [hc] at f1
      cases f1
      exact cu
    · rw [if_neg z] at f3
      exact h.up d (List.mem_of_getElem? f1) (f3 ▸ r)
  · have nj : j ≠ i := fun z => b' (by rw [z])
    obtain ⟨d, f1, _, f3, _⟩ := get a
    rw [if_neg nj] at f3
    exact nc j d S f1 nj (f3 ▸ e)
  · obtain ⟨d, f1, _, f3, _⟩ := get b'
    rw [if_pos (chI a)] at f3
    rw [f3] at e
    cases e
    exact mT
  · obtain ⟨d, f1, _, f3, _⟩ := get b'
    rw [if_pos (chI a)] at f3
    rw [f3] at e
    cases e
    obtain ⟨k, hk⟩ := gm m hm
    obtain ⟨d2, g1, _, _, g4, g5⟩ := get hk
    cases c2 : q k with
    | true =>
      rw [(g4 c2).1] at e'
      cases e'
      exact Int.le_refl _
    | false =>
      obtain ⟨x1, x2⟩ := g5 c2
      exact pn k d2 p g1 (x2 ▸ ep) (x1 ▸ e')
  · obtain ⟨k, hk⟩ := gm m hm
    obtain ⟨d2, g1, _, _, g4, g5⟩ := get hk
    cases c2 : q k with
    | true => rw [(g4 c2).2]; exact Int.le_refl _
    | false =>
      have := h.pl d2 (List.mem_of_getElem? g1)
      rw [(g5 c2).2]
      omega
  · obtain ⟨k, hk⟩ := gm m hm
    obtain ⟨d2, g1, _, _, g4, g5⟩ := get hk
    cases c2 : q k with
    | true =>
      rw [(g4 c2).1] at e
      cases e
      exact hi
    | false => exact h.pb d2 (List.mem_of_getElem? g1) p ((g5 c2).1 ▸ e)
  · obtain ⟨k, hk⟩ := gm m hm
    obtain ⟨d2, g1, _, _, g4, g5⟩ := get hk
    cases c2 : q k with
    | true =>
      rw [(g4 c2).1] at e
      cases e
      omega
    | false => exact h.p0 d2 (List.mem_of_getElem? g1) p ((g5 c2).1 ▸ e)
  · obtain ⟨k, hk⟩ := gm m hm
    obtain ⟨d2, g1, _, f3, _⟩ := get hk
    by_cases z : k = i
    · rw [if_pos z] at f3
      rw [f3] at e
      cases e
      exact hi
    · rw [if_neg z] at f3
      exact h.rb d2 (List.mem_of_getElem? g1) S (f3 ▸ e)
  · have e := Option.some.inj hd
    rw [ln]
    omega
/-- a new one is chosen: those of q are free by the true time -/
theorem R30.choose {cs : List Cr} {rg now : Int} {ch : Option Int} {fs : List Int} (n0 : 0 ≤ now) (h : R30 cs rg ch now fs) {i : Nat} {c : Cr} {T : Int} {q : Nat → Bool} (hc : cs[i]? = some c) (cu : c.up = true)
    (hq : cs.length < 2 * ((List.range cs.length).filter q).length) (lo : now < T) (hi : T ≤ 2 * now + 1100) (free : ∀ (j : Nat) (d : Cr) (p : Int), q j = true → cs[j]? = some d → d.pr = some p → p < now) :
    R30 (promC (cs.set i { c with rt := some T }) ((List.range cs.length).filter q) T (rg + 1)) (rg + 1) (some (i : Int)) now fs := by
  refine R30.prom n0 h hc cu hq lo hi (by omega) (fun j d p a b e => by have := free j d p a b e; omega) (fun j d S a b e => ?_) (fun j d p a b e => by have := h.pl d (List.mem_of_getElem? a); omega)
  by_cases z : ch = some (j : Int)
  · obtain ⟨k, c', p, kl, k1, k2, k3, k4⟩ := (h.cho j d S z a e).meet hq
    have := free k c' p k1 k2 k3
    omega
  · exact h.oth j d a z S e
/-- the lease is made longer -/
theorem R30.renew {cs : List Cr} {rg now : Int} {fs : List Int} {i : Nat} {c : Cr} {T S : Int} {q : Nat → Bool} (n0 : 0 ≤ now) (h : R30 cs rg (some (i : Int)) now fs) (hc : cs[i]? = some c) (hS : c.rt = some S) (lS : S ≤ T)
    (hq : cs.length < 2 * ((List.range cs.length).filter q).length) (lo : now < T) (hi : T ≤ 2 * now + 1100) (free : ∀ (j : Nat) (d : Cr) (p : Int), q j = true → cs[j]? = some d → d.pr = some p → d.pin = rg ∨ p < now) :
    R30 (promC (cs.set i { c with rt := some T }) ((List.range cs.length).filter q) T rg) rg (some (i : Int)) now fs := by
  refine R30.prom n0 h hc (h.up c (List.mem_of_getElem? hc) (by rw [hS]; rfl)) hq lo hi (Int.le_refl rg) (fun j d p a b e => ?_) (fun j d S' a b e => ?_) (fun j d p a b e => ?_)
  · rcases free j d p a b e with z | z
    · have := h.pin i c S rfl hc hS d (List.mem_of_getElem? b) z p e
      omega
    · omega
  · exact h.oth j d a (fun z => b (by have := Option.some.inj z; omega)) S' e
  · have := h.pin i c S rfl hc hS d (List.mem_of_getElem? a) b p e
    omega
/-- what was noted is promised by one of those that promise now -/
theorem R30.floor {cs : List Cr} {rg now : Int} {ch : Option Int} {fs : List Int} (h : R30 cs rg ch now fs) {q : Nat → Bool} (hq : cs.length < 2 * ((List.range cs.length).filter q).length) {e : Int} (he : e ∈ fs) : e = -1 ∨ ∃ (k : Nat) (c : Cr) (p : Int), k < cs.length ∧ q k = true ∧ cs[k]? = some c ∧ c.pr = some p ∧ e ≤ p :=
  (h.fs e he).imp id fun m => m.meet hq
/-! ### clocks that hold the true time -/
/-- set at a time now - P, to bounds that held it; so much is over of its ticks -/
structure Ck30 (s : MS) (r now : Int) : Prop where
  ex : ∃ (z : Int × Int) (P : Int), s.st = some z ∧ 0 ≤ P ∧ P ≤ now ∧ z.1 ≤ now - P ∧ now - P ≤ z.2 ∧ z.2 ≤ now - P + 40 ∧ 90 * P ≤ 100 * s.n + r ∧ 100 * s.n + r ≤ 110 * P ∧ 0 ≤ r ∧ r < 100 ∧ -10 ≤ z.1
  sp : s.sp = spOf 1 10 s
theorem Ck30.span {s : MS} {r now : Int} (h : Ck30 s r now) (sn : 0 ≤ s.n) : ∃ z, s.sp = some z ∧ z.1 ≤ now ∧ now ≤ z.2 ∧ z.2 ≤ 2 * now + 50 := by
  obtain ⟨z, P, e, P0, P1, a, b, c, d1, d2, r0, r1, zl⟩ := h.ex
  have l1 : leastP s.n 1 10 ≤ P := least_le (by decide) (by decide) (by omega)
  have l2 : P ≤ mostP s.n 1 10 := le_most (by decide) (by decide) (by omega)
  have l3 := most_lt (n := s.n) (t := 1) (b := 10) (by decide) (by decide)
  refine ⟨(z.1 + leastP s.n 1 10, z.2 + mostP s.n 1 10), ?_, ?_, ?_, ?_⟩
  · rw [h.sp]
    unfold spOf
    rw [e]
    rfl
  · show z.1 + leastP s.n 1 10 ≤ now
    omega
  · show now ≤ z.2 + mostP s.n 1 10
    omega
  · show z.2 + mostP s.n 1 10 ≤ 2 * now + 50
    omega
theorem Ck30.tick {s : MS} {r now m pa : Int} (h : Ck30 s r now) (m0 : 0 ≤ m) (p0 : 0 ≤ pa) (p1 : pa ≤ 20) : Ck30 (s.ticked 1 10 ((r + m * (90 + pa)) / 100)) ((r + m * (90 + pa)) % 100) (now + m) := by
  obtain ⟨z, P, e, P0, P1, a, b, c, d1, d2, r0, r1, zl⟩ := h.ex
  have e1 : m * (90 + pa) = 90 * m + m * pa := by grind
  have e2 := Int.mul_nonneg m0 p0
  have e3 : m * pa ≤ m * 20 := Int.mul_le_mul_of_nonneg_left p1 m0
  have e4 := Int.mul_ediv_add_emod (r + m * (90 + pa)) 100
  have e5 := Int.emod_nonneg (r + m * (90 + pa)) (show (100 : Int) ≠ 0 by decide)
  have e6 := Int.emod_lt_of_pos (r + m * (90 + pa)) (show (0 : Int) < 100 by decide)
  refine ⟨⟨z, P + m, e, by omega, by omega, by omega, by omega, by omega, ?_, ?_, e5, e6, zl⟩, rfl⟩
  · show 90 * (P + m) ≤ 100 * (s.n + (r + m * (90 + pa)) / 100) + _
    omega
  · show 100 * (s.n + (r + m * (90 + pa)) / 100) + _ ≤ 110 * (P + m)
    omega
theorem Ck30.set {s : MS} {z : Int × Int} {now : Int} (n0 : 0 ≤ now) (a : z.1 ≤ now) (b : now ≤ z.2) (c : z.2 ≤ now + 40) (zl : -10 ≤ z.1) : Ck30 (s.setTo 1 10 z) 0 now :=
  ⟨⟨z, 0, rfl, Int.le_refl 0, n0, by omega, by omega, by omega, by show 90 * 0 ≤ 100 * 0 + 0; decide, by show 100 * 0 + 0 ≤ 110 * 0; decide, Int.le_refl 0, by decide, zl⟩, rfl⟩
/-! ### the group and its promises -/
def mayN (g : GS) (s : MS) : Bool := (s.up && decide (s.pin = g.rg)) || canP s
def renG (g : GS) (i : Nat) (s : MS) (till : Int) : GS := { g with ms := promL (g.ms.set i { s with rt := some till }) (pickG (mayN g) g) till g.rg }
structure W30 (K : PySem.W.Frag) (CG : Addr) (H : Hp) (x : Addr) (A : GA) (n : Nat) (g : GS) (rs : List Int) (now : Int) (fs : List Int) : Prop where
  at_ : GroupAt K CG H x A 1 10 g
  ck : ∀ (i : Nat) (s : MS) (r : Int), g.ms[i]? = some s → rs[i]? = some r → Ck30 s r now
  r : R30 (g.ms.map core) g.rg g.ch now fs
  n_ : g.ms.length = n
  rn : rs.length = n
  n0 : 0 ≤ now
  ds : ∀ d ∈ g.ds, flatT d = true
  le1 : 1 ≤ g.le
  le2 : g.le ≤ 1000
section
variable {K : PySem.W.Frag} {CG : Addr} {H H' : Hp} {x : Addr} {A : GA} {n : Nat} {g : GS} {rs : List Int} {now : Int} {fs : List Int}
theorem W30.span (h : W30 K CG H x A n g rs now fs) {i : Nat} {s : MS} (hs : g.ms[i]? = some s) : ∃ z, s.sp = some z ∧ z.1 ≤ now ∧ now ≤ z.2 ∧ z.2 ≤ 2 * now + 50 := by
  have il := (List.getElem?_eq_some_iff.mp hs).1
  have e := List.getElem?_eq_getElem (l := rs) (i := i) (by rw [h.rn, ← h.n_]; exact il)
  exact (h.ck i s _ hs e).span (h.at_.ls.nn s (List.mem_of_getElem? hs))
theorem W30.ok (h : W30 K CG H x A n g rs now fs) : GOk g := ⟨fun i s hs _ => by
  obtain ⟨z, e, _⟩ := h.span hs
  rw [e]; rfl, fun c hc => by
  have := h.r.chr c hc
  rw [List.length_map] at this
  exact this⟩
theorem W30.fl (h : W30 K CG H x A n g rs now fs) : ∀ d ∈ g.ds, flatT d = true := h.ds
theorem W30.same (h : W30 K CG H x A n g rs now fs) (k : Same H H') : W30 K CG H' x A n g rs now fs := ⟨h.at_.same k, h.ck, h.r, h.n_, h.rn, h.n0, h.ds, h.le1, h.le2⟩
theorem W30.own (h : W30 K CG H x A n g rs now fs) {s : Addr} {ys : List V} (hs : H s = some (.lst ys)) (k : Fr s H H') (sA : ¬ s ∈ A.all) : W30 K CG H' x A n g rs now fs := by
  obtain ⟨dx, hx⟩ := h.at_.at_
  exact ⟨⟨⟨dx, k _ _ (ne_of hx hs (by intro z; cases z)) hx⟩, h.at_.ls.frl k hs sA h.fl⟩, h.ck, h.r, h.n_, h.rn, h.n0, h.ds, h.le1, h.le2⟩
theorem core_at {ms : List MS} {i : Nat} {c : Cr} (h : (ms.map core)[i]? = some c) : ∃ s, ms[i]? = some s ∧ c = core s := by
  rw [List.getElem?_map] at h
  obtain ⟨s, a, b⟩ := Option.map_eq_some_iff.mp h
  exact ⟨s, a, b.symm⟩
theorem core_of {ms : List MS} {i : Nat} {s : MS} (h : ms[i]? = some s) : (ms.map core)[i]? = some (core s) := by rw [List.getElem?_map, h]; rfl
theorem pick_core (g : GS) (p : MS → Bool) : pickG p g = (List.range (g.ms.map core).length).filter (atG p g) := by
  unfold pickG
  rw [List.length_map]
theorem core_prom (ms : List MS) (is : List Nat) (till rg : Int) : (promL ms is till rg).map core = promC (ms.map core) is till rg := by
  apply List.ext_getElem?
  intro j
  unfold promL promC
  rw [List.getElem?_map, List.getElem?_mapIdx, List.getElem?_mapIdx, List.getElem?_map]
  cases ms[j]? with
  | none => rfl
  | some s =>
    show some (core (if j ∈ is then _ else s)) = some (if j ∈ is then _ else core s)
    by_cases c : j ∈ is
    · rw [if_pos c, if_pos c]; rfl
    · rw [if_neg c, if_neg c]
theorem prom_ck {ms : List MS} {is : List Nat} {till rg : Int} {j : Nat} {u : MS} (h : (promL ms is till rg)[j]? = some u) : ∃ s, ms[j]? = some s ∧ u.st = s.st ∧ u.n = s.n ∧ u.sp = s.sp ∧ u.rt = s.rt := by
  unfold promL at h
  rw [List.getElem?_mapIdx] at h
  cases e : ms[j]? with
  | none => rw [e] at h; cases h
  | some s =>
    rw [e] at h
    have e2 : u = if j ∈ is then { s with pr := some till, pin := rg } else s := (Option.some.inj h).symm
    refine ⟨s, rfl, ?_⟩
    rw [e2]
    by_cases c : j ∈ is
    · rw [if_pos c]; exact ⟨rfl, rfl, rfl, rfl⟩
    · rw [if_neg c]; exact ⟨rfl, rfl, rfl, rfl⟩
theorem Ck30.of {s u : MS} {r now : Int} (h : Ck30 s r now) (e1 : u.st = s.st) (e2 : u.n = s.n) (e3 : u.sp = s.sp) : Ck30 u r now := by
  refine ⟨by rw [e1, e2]; exact h.ex, ?_⟩
  rw [e3, h.sp]
  unfold spOf
  rw [e1, e2]
theorem can_free (h : W30 K CG H x A n g rs now fs) {j : Nat} {d : Cr} {p : Int} (hq : atG canP g j = true) (e : (g.ms.map core)[j]? = some d) (ep : d.pr = some p) : p < now ∧ d.up = true := by
  obtain ⟨s, hs, rfl⟩ := core_at e
  rw [atG_of hs] at hq
  obtain ⟨z, e1, e2, e3, _⟩ := h.span hs
  have ep : s.pr = some p := ep
  unfold canP at hq
  rw [e1, ep, Bool.and_eq_true] at hq
  have := of_decide_eq_true hq.2
  exact ⟨by omega, hq.1⟩
theorem can_up {s : MS} (h : canP s = true) : s.up = true := by
  unfold canP at h
  rw [Bool.and_eq_true] at h
  exact h.1
/-- one is chosen -/
theorem W30.choose (h : W30 K CG H x A n g rs now fs) {i : Nat} {s : MS} {mh : Int} {z : Int × Int} {A' : GA} (hs : g.ms[i]? = some s) (cc : canC g i = true) (hz : s.sp = some z) (hg : GroupAt K CG H' x A' 1 10 (choG g i s mh (z.2 + g.le))) : W30 K CG H' x A' n (choG g i s mh (z.2 + g.le)) rs now fs := by
  unfold canC at cc
  rw [Bool.and_eq_true, decide_eq_true_eq, atG_of hs] at cc
  obtain ⟨z', e1, e2, e3, e4⟩ := h.span hs
  rw [hz] at e1
  cases e1
  have hm := cc.2
  rw [pick_core] at hm
  have l1 := h.le1
  have l2 := h.le2
  have r' := R30.choose (T := z.2 + g.le) h.n0 h.r (core_of hs) (can_up cc.1) (by rw [List.length_map] at hm ⊢; exact hm) (by omega) (by omega) (fun j d p a b e => (can_free h a b e).1)
  refine ⟨hg, fun j u r hu hr => ?_, ?_, ?_, h.rn, h.n0, h.ds, h.le1, h.le2⟩
  · obtain ⟨s', e1, f1, f2, f3, _⟩ := prom_ck (show (promL (g.ms.set i { s with has := mh, rt := some (z.2 + g.le) }) (pickG canP g) (z.2 + g.le) (g.rg + 1))[j]? = some u from hu)
    rw [List.getElem?_set] at e1
    by_cases c : i = j
    · subst c
      rw [if_pos rfl, if_pos (List.getElem?_eq_some_iff.mp hs).1] at e1
      cases e1
      exact (h.ck i s r hs hr).of f1 f2 f3
    · rw [if_neg c] at e1
      exact (h.ck j s' r e1 hr).of f1 f2 f3
  · show R30 ((promL (g.ms.set i { s with has := mh, rt := some (z.2 + g.le) }) (pickG canP g) (z.2 + g.le) (g.rg + 1)).map core) (g.rg + 1) (some (i : Int)) now fs
    rw [core_prom, List.map_set, pick_core]
    exact r'
  · show (promL (g.ms.set i _) _ _ _).length = n
    rw [promL_len, List.length_set]
    exact h.n_
/-- the lease is made longer -/
theorem W30.renew (h : W30 K CG H x A n g rs now fs) {i : Nat} {s : MS} {z : Int × Int} {S till : Int} {A' : GA} (hs : g.ms[i]? = some s) (ec : g.ch = some (i : Int)) (hz : s.sp = some z) (hS : s.rt = some S) (et : till = if z.2 + g.le > S then z.2 + g.le else S) (hm : g.ms.length < 2 * (pickG (mayN g) g).length) (hg : GroupAt K CG H' x A' 1 10 (renG g i s till)) : W30 K CG H' x A' n (renG g i s till) rs now fs := by
  obtain ⟨z', e1, e2, e3, e4⟩ := h.span hs
  rw [hz] at e1
  cases e1
  rw [pick_core] at hm
  have l1 := h.le1
  have l2 := h.le2
  have rb := h.r.rb (core s) (List.mem_of_getElem? (core_of hs)) S hS
  have t1 : S ≤ till ∧ now < till ∧ till ≤ 2 * now + 1100 := by
    rw [et]
    split <;> omega
  have hr := h.r
  rw [ec] at hr
  have r' := R30.renew (T := till) h.n0 hr (core_of hs) hS t1.1 (by rw [List.length_map] at hm ⊢; exact hm) t1.2.1 t1.2.2 (fun j d p a b e => by
    obtain ⟨u, hu, rfl⟩ := core_at b
    have a' : mayN g u = true := by rw [← atG_of (f := mayN g) hu]; exact a
    unfold mayN at a'
    rw [Bool.or_eq_true] at a'
    rcases a' with y | y
    · rw [Bool.and_eq_true] at y
      exact .inl (of_decide_eq_true y.2)
    · exact .inr (can_free h (by rw [atG_of hu]; exact y) b e).1)
  refine ⟨hg, fun j u r hu hr => ?_, ?_, ?_, h.rn, h.n0, h.ds, h.le1, h.le2⟩
  · obtain ⟨s', e1, f1, f2, f3, _⟩ := prom_ck (show (promL (g.ms.set i { s with rt := some till }) (pickG (mayN g) g) till g.rg)[j]? = some u from hu)
    rw [List.getElem?_set] at e1
    by_cases c : i = j
    · subst c
      rw [if_pos rfl, if_pos (List.getElem?_eq_some_iff.mp hs).1] at e1
      cases e1
      exact (h.ck i s r hs hr).of f1 f2 f3
    · rw [if_neg c] at e1
      exact (h.ck j s' r e1 hr).of f1 f2 f3
  · show R30 ((promL (g.ms.set i { s with rt := some till }) (pickG (mayN g) g) till g.rg).map core) g.rg g.ch now fs
    rw [core_prom, List.map_set, pick_core, ec]
    exact r'
  · show (promL (g.ms.set i _) _ _ _).length = n
    rw [promL_len, List.length_set]
    exact h.n_
/-- up, down: the clocks stay -/
theorem W30.set (h : W30 K CG H x A n g rs now fs) {i : Nat} {s s' : MS} {A' : GA} (hs : g.ms[i]? = some s) (e1 : s'.st = s.st) (e2 : s'.n = s.n) (e3 : s'.sp = s.sp) (e4 : s'.pr = s.pr) (e5 : s'.pin = s.pin) (er : ∀ T, s'.rt = some T → s.rt = some T ∧ s'.up = true) (hg : GroupAt K CG H' x A' 1 10 { g with ms := g.ms.set i s' }) : W30 K CG H' x A' n { g with ms := g.ms.set i s' } rs now fs := by
  refine ⟨hg, fun j u r hu hr => ?_, ?_, (by show (g.ms.set i s').length = n; rw [List.length_set]; exact h.n_), h.rn, h.n0, h.ds, h.le1, h.le2⟩
  · have hu : (g.ms.set i s')[j]? = some u := hu
    rw [List.getElem?_set] at hu
    by_cases c : i = j
    · subst c
      rw [if_pos rfl, if_pos (List.getElem?_eq_some_iff.mp hs).1] at hu
      cases hu
      exact (h.ck i s r hs hr).of e1 e2 e3
    · rw [if_neg c] at hu
      exact h.ck j u r hu hr
  · show R30 ((g.ms.set i s').map core) g.rg g.ch now fs
    rw [List.map_set]
    exact h.r.set (core_of hs) e4 e5 er
end

theorem gp_lent (A : GA) (g : GS) (c : Bool) : putF "lent" (.bl c) (gf A g) = gf A { g with lent := c } := by unfold gf; rw [pf_skip (by decide +kernel), pf_skip (by decide +kernel), pf_skip (by decide +kernel), pf_skip (by decide +kernel), pf_skip (by decide +kernel), pf_skip (by decide +kernel), pf_skip (by decide +kernel), pf_skip (by decide +kernel), pf_skip (by decide +kernel), pf_skip (by decide +kernel), pf_skip (by decide +kernel), pf_hit]
def partsV (A : GA) (g : GS) : List V := [.ref A.ups, .ref A.has, .ref A.sts, .ref A.cts, .ref A.sps, .ref A.prs, .ref A.pins, .ref A.rts, .ref A.el, .bl g.loose, .int g.rg, oV g.ch]

theorem GroupAt.put_lent {K : PySem.W.Frag} {CG : Addr} {H : Hp} {x : Addr} {A : GA} {t b : Int} {g : GS} (h : GroupAt K CG H x A t b g) {dx : Addr} (hx : H x = some (.ins CG dx (gf A g))) (c : Bool) : Gx K CG H x A t b (upd H x (.ins CG dx (gf A { g with lent := c }))) A { g with lent := c } := by
  have l2 := h.ls.fr ((Fr.refl x H).put (o := .ins CG dx (gf A { g with lent := c }))) hx
  exact ⟨rfl, (Fr.refl x H).put, ⟨⟨dx, upd_same⟩, ⟨l2.dr, l2.ups, l2.has, l2.cts, l2.prs, l2.pins, l2.rts, l2.sts, l2.sps, l2.el, l2.e_ups, l2.e_has, l2.e_cts, l2.e_prs, l2.e_pins, l2.e_rts, l2.e_sts, l2.e_sps, l2.n5, l2.n1, l2.nn, l2.dl⟩⟩, fun _ z => .inl z⟩
section
variable (K : PySem.W.Frag) (CG : Addr)
def spParts : Sp := fun vs H Q _ => ∃ (x : Addr) (A : GA) (t b : Int) (g : GS), vs = [.ref x] ∧ GroupAt K CG H x A t b g ∧ ∀ p H', H p = none → Fr x H H' → GroupAt K CG H' x A t b { g with lent := true } → H' p = some (.tup (partsV A g)) → Q (.ref p) H'
def spPutParts : Sp := fun vs H Q _ => ∃ (y p dy : Addr) (A0 A : GA) (g0 g : GS), vs = [.ref y, .ref p] ∧ H y = some (.ins CG dy (gf A0 g0)) ∧ H p = some (.tup (partsV A g)) ∧ ∀ H', Fr y H H' → H' y = some (.ins CG dy (gf { A with dr := A0.dr } { g with le := g0.le, lent := true })) → Q .non H'
def spTwin : Sp := fun vs H Q _ => ∃ (x : Addr) (A : GA) (t b : Int) (g : GS), vs = [.ref x] ∧ GroupAt K CG H x A t b g ∧ 1 ≤ g.le ∧ g.le ≤ 1000 ∧ ∀ y A2 H', H y = none → y ≠ x → Fr x H H' → GroupAt K CG H' x A t b { g with lent := true } → GroupAt K CG H' y A2 t b { g with lent := true } → A2.all = A.all → A2.el = A.el → Q (.ref y) H'
end

theorem ok_Copies_parts {P : Program} {w : World} {K : PySem.W.Frag} {mg : Str → Option Value} {base : Heap} {a : Nat → Addr} {d : Nat → FuncData} (T : Txt K mg a d) : FnOk P w K mg base CX0 1 (a 40) (d 40) ["self"] (spParts K (a 61)) := by
  refine T.F_Copies_parts.ok sc_Copies_parts (fun vs H Q E h => ?_) (fun cdv A outer s0 H vs Q E hr h => ?_)
  · obtain ⟨x, A, t, b, g, rfl, hg, q⟩ := h
    rfl
  · obtain ⟨x, A, t, b, g, rfl, hg, q⟩ := h
    obtain ⟨dx, hx⟩ := hg.at_
    refine ⟨_, (pss_cons (ps_fld (pv 0) pe_bl rfl) (pss_one (ps_ret (pe_tup (pa_cons (pe_fld (pv 0) rfl) (pa_cons (pe_fld (pv 0) rfl) (pa_cons (pe_fld (pv 0) rfl) (pa_cons (pe_fld (pv 0) rfl) (pa_cons (pe_fld (pv 0) rfl) (pa_cons (pe_fld (pv 0) rfl) (pa_cons (pe_fld (pv 0) rfl) (pa_cons (pe_fld (pv 0) rfl) (pa_cons (pe_fld (pv 0) rfl) (pa_cons (pe_fld (pv 0) rfl) (pa_cons (pe_fld (pv 0) rfl) (pa_cons (pe_fld (pv 0) rfl) pa_nil)))))))))))))))), ?_⟩
    refine ⟨_, rfl, x, _, dx, _, rfl, hx, T.cl, T.n_lent, gf_len _ _, ?_⟩
    rw [gp_lent]
    have n1 := hg.put_lent hx true
    have hx1 : (upd H x (.ins (a 61) dx (gf A { g with lent := true }))) x = some (.ins (a 61) dx (gf A { g with lent := true })) := upd_same
    generalize (upd H x (.ins (a 61) dx (gf A { g with lent := true }))) = H1 at n1 hx1 ⊢
    refine ⟨_, rfl, x, _, dx, _, _, rfl, hx1, T.cl, T.n_ups, gf_ups _ _, _, rfl, x, _, dx, _, _, rfl, hx1, T.cl, T.n_has, gf_has _ _, _, rfl, x, _, dx, _, _, rfl, hx1, T.cl, T.n_stands, gf_stands _ _, _, rfl, x, _, dx, _, _, rfl, hx1, T.cl, T.n_counts, gf_counts _ _, _, rfl, x, _, dx, _, _, rfl, hx1, T.cl, T.n_spans, gf_spans _ _, _, rfl, x, _, dx, _, _, rfl, hx1, T.cl, T.n_promises, gf_promises _ _, _, rfl, x, _, dx, _, _, rfl, hx1, T.cl, T.n_promised_in, gf_promised_in _ _, _, rfl, x, _, dx, _, _, rfl, hx1, T.cl, T.n_rules_till, gf_rules_till _ _, _, rfl, x, _, dx, _, _, rfl, hx1, T.cl, T.n_entries, gf_entries _ _, _, rfl, x, _, dx, _, _, rfl, hx1, T.cl, T.n_loose, gf_loose _ _, _, rfl, x, _, dx, _, _, rfl, hx1, T.cl, T.n_reigns, gf_reigns _ _, _, rfl, x, _, dx, _, _, rfl, hx1, T.cl, T.n_chosen, gf_chosen _ _, (by decide : 12 ≤ sizeLine), fun p np => ?_⟩
    have s2 := same_new (o := .tup (partsV A g)) (Same.refl H1) np
    exact q p _ (fr_free n1.fr hx1 np) (n1.fr.trans (fr_same s2)) (n1.at_.same s2) upd_same

theorem ok_Copies_put_parts {P : Program} {w : World} {K : PySem.W.Frag} {mg : Str → Option Value} {base : Heap} {a : Nat → Addr} {d : Nat → FuncData} (T : Txt K mg a d) : FnOk P w K mg base CX0 1 (a 41) (d 41) ["self", "parts"] (spPutParts (a 61)) := by
  refine T.F_Copies_put_parts.ok sc_Copies_put_parts (fun vs H Q E h => ?_) (fun cdv A outer s0 H vs Q E hr h => ?_)
  · obtain ⟨y, p, dy, A0, A, g0, g, rfl, hy, hp, q⟩ := h
    rfl
  · obtain ⟨y, p, dy, A0, A, g0, g, rfl, hy, hp, q⟩ := h
    refine ⟨_, (pss_cons (ps_asg (pv 1) (pg_tup (by rfl) (pgs_cons (pg_fld (pv 0)) (pgs_cons (pg_fld (pv 0)) (pgs_cons (pg_fld (pv 0)) (pgs_cons (pg_fld (pv 0)) (pgs_cons (pg_fld (pv 0)) (pgs_cons (pg_fld (pv 0)) (pgs_cons (pg_fld (pv 0)) (pgs_cons (pg_fld (pv 0)) (pgs_cons (pg_fld (pv 0)) (pgs_cons (pg_fld (pv 0)) (pgs_cons (pg_fld (pv 0)) (pgs_cons (pg_fld (pv 0)) pgs_nil)))))))))))))) (pss_one (ps_fld (pv 0) pe_bl rfl))), ?_⟩
    refine ⟨_, rfl, p, _, rfl, SqT.of hp, rfl, ?_⟩
    refine ⟨_, _, rfl, _, rfl, y, _, dy, _, rfl, hy, T.cl, T.n_ups, gf_len _ _, ?_⟩
    rw [gp_ups]
    refine ⟨_, _, rfl, _, rfl, y, _, dy, _, rfl, upd_same, T.cl, T.n_has, gf_len _ _, ?_⟩
    rw [upd_twice, gp_has]
    refine ⟨_, _, rfl, _, rfl, y, _, dy, _, rfl, upd_same, T.cl, T.n_stands, gf_len _ _, ?_⟩
    rw [upd_twice, gp_stands]
    refine ⟨_, _, rfl, _, rfl, y, _, dy, _, rfl, upd_same, T.cl, T.n_counts, gf_len _ _, ?_⟩
    rw [upd_twice, gp_counts]
    refine ⟨_, _, rfl, _, rfl, y, _, dy, _, rfl, upd_same, T.cl, T.n_spans, gf_len _ _, ?_⟩
    rw [upd_twice, gp_spans]
    refine ⟨_, _, rfl, _, rfl, y, _, dy, _, rfl, upd_same, T.cl, T.n_promises, gf_len _ _, ?_⟩
    rw [upd_twice, gp_promises]
    refine ⟨_, _, rfl, _, rfl, y, _, dy, _, rfl, upd_same, T.cl, T.n_promised_in, gf_len _ _, ?_⟩
    rw [upd_twice, gp_promised_in]
    refine ⟨_, _, rfl, _, rfl, y, _, dy, _, rfl, upd_same, T.cl, T.n_rules_till, gf_len _ _, ?_⟩
    rw [upd_twice, gp_rules_till]
    refine ⟨_, _, rfl, _, rfl, y, _, dy, _, rfl, upd_same, T.cl, T.n_entries, gf_len _ _, ?_⟩
    rw [upd_twice, gp_entries]
    refine ⟨_, _, rfl, _, rfl, y, _, dy, _, rfl, upd_same, T.cl, T.n_loose, gf_len _ _, ?_⟩
    rw [upd_twice, gp_loose]
    refine ⟨_, _, rfl, _, rfl, y, _, dy, _, rfl, upd_same, T.cl, T.n_reigns, gf_len _ _, ?_⟩
    rw [upd_twice, gp_reigns]
    refine ⟨_, _, rfl, _, rfl, y, _, dy, _, rfl, upd_same, T.cl, T.n_chosen, gf_len _ _, ?_⟩
    rw [upd_twice, gp_chosen]
    refine ⟨rfl, _, rfl, y, _, dy, _, rfl, upd_same, T.cl, T.n_lent, gf_len _ _, ?_⟩
    rw [upd_twice, gp_lent]
    exact q _ ((Fr.refl y H).put) upd_same

theorem ok_Copies_twin {P : Program} {w : World} {K : PySem.W.Frag} {mg : Str → Option Value} {base : Heap} {a : Nat → Addr} {d : Nat → FuncData} (T : Txt K mg a d) : FnOk P w K mg base CX0 7 (a 42) (d 42) ["self"] (spTwin K (a 61)) := by
  refine T.F_Copies_twin.ok sc_Copies_twin (fun vs H Q E h => ?_) (fun cdv A outer s0 H vs Q E hr h => ?_)
  · obtain ⟨x, A, t, b, g, rfl, hg, le1, le2, q⟩ := h
    rfl
  · obtain ⟨x, A, t, b, g, rfl, hg, le1, le2, q⟩ := h
    obtain ⟨dx, hx⟩ := hg.at_
    refine ⟨_, (pss_cons (ps_set (i := 1) sc_Copies_twin.nd rfl (Or.inl rfl) (pe_makeN T.m_Copies___init__ (ok_Copies___init__ T) (hr.mono (by decide)) (by rfl) T.g_Copies T.k_Copies___init__ pass0 (pa_cons (pe_callB call_len_seq (by rfl) T.z_len PySem.boot_len (pa_cons (pe_fld (pv 0) rfl) pa_nil)) pa_nil) (pk_cons (pe_fld (pv 0) rfl) (pk_cons (pe_fld (pv 0) rfl) pk_nil)))) (pss_cons (ps_expr (pe_meth (pv 1) T.cl T.m_Copies_put_parts (ok_Copies_put_parts T) (hr.mono (by decide)) T.b_Copies_put_parts .nil pass0 (pa_cons (pe_meth0 (pv 0) T.cl T.m_Copies_parts (ok_Copies_parts T) (hr.mono (by decide)) T.b_Copies_parts .nil pass0) pa_nil))) (pss_one (ps_ret (pv 1))))), ?_⟩
    refine ⟨_, rfl, x, _, dx, _, _, rfl, hx, T.cl, T.n_ups, gf_ups _ _, A.ups, _, rfl, .inl (SqL.of hg.ls.ups), _, rfl, x, _, dx, _, _, rfl, hx, T.cl, T.n_most_drift, gf_most_drift _ _, _, rfl, x, _, dx, _, _, rfl, hx, T.cl, T.n_lease, gf_lease _ _, rfl, rfl, fun y dy ny ndy ney => ?_⟩
    have sm := same_make (o1 := .own y) (o2 := .ins (a 61) dy []) ny ndy
    have hy1 : (upd (upd H dy (.own y)) y (.ins (a 61) dy [])) y = some (.ins (a 61) dy []) := upd_same
    generalize (upd (upd H dy (.own y)) y (.ins (a 61) dy [])) = H1 at sm hy1 ⊢
    have yx : y ≠ x := (ne_of_none hx ny).symm
    refine ⟨y, dy, g.ms.length, A.dr, g.le, t, b, (by rw [List.length_map]; rfl), hy1, hg.ls.n1, hg.ls.n5, le1, le2, hg.ls.dr.same sm, fun A0 H2 fA eA F2 hg2 => ⟨rfl, ?_⟩⟩
    have S2 : Same H H2 := fun c o e => F2 _ _ (ne_of_none e ny) (sm _ _ e)
    obtain ⟨dy2, hy2⟩ := hg2.at_
    have hgx := hg.same S2
    obtain ⟨dx2, hx2⟩ := hgx.at_
    refine ⟨_, rfl, y, dy2, _, rfl, hy2, gf_no _ _ (by decide +kernel) (by decide +kernel) (by decide +kernel) (by decide +kernel) (by decide +kernel) (by decide +kernel) (by decide +kernel) (by decide +kernel) (by decide +kernel) (by decide +kernel) (by decide +kernel) (by decide +kernel) (by decide +kernel) (by decide +kernel) (by decide +kernel), _, rfl, x, dx2, _, rfl, hx2, gf_no _ _ (by decide +kernel) (by decide +kernel) (by decide +kernel) (by decide +kernel) (by decide +kernel) (by decide +kernel) (by decide +kernel) (by decide +kernel) (by decide +kernel) (by decide +kernel) (by decide +kernel) (by decide +kernel) (by decide +kernel) (by decide +kernel) (by decide +kernel), x, A, t, b, g, rfl, hgx, fun p H3 np F3 hg3 hp3 => ?_⟩
    have hy3 := F3 _ _ yx hy2
    refine ⟨y, p, dy2, A0, A, _, g, rfl, hy3, hp3, fun H4 F4 hy4 => ?_⟩
    have hg4 : GroupAt K (a 61) H4 x A t b { g with lent := true } := by
      obtain ⟨⟨dx3, hx3⟩, l3⟩ := hg3
      exact ⟨⟨dx3, F4 _ _ yx.symm hx3⟩, l3.fr F4 hy3⟩
    have l0 := (hg2.ls.fr F3 hx2).fr F4 hy3
    have l4 := hg4.ls
    exact ⟨_, rfl, q y { A with dr := A0.dr } H4 ny yx (fun c o nc e => F4 c o (ne_of_none e ny) (F3 c o nc (S2 c o e))) hg4 ⟨⟨dy2, hy4⟩, ⟨l0.dr, l4.ups, l4.has, l4.cts, l4.prs, l4.pins, l4.rts, l4.sts, l4.sps, l4.el, l4.e_ups, l4.e_has, l4.e_cts, l4.e_prs, l4.e_pins, l4.e_rts, l4.e_sts, l4.e_sps, l4.n5, l4.n1, l4.nn, l4.dl⟩⟩ rfl rfl⟩


theorem Lists.unlent {K : PySem.W.Frag} {H : Hp} {A : GA} {t b : Int} {g : GS} (l : Lists K H A t b g) : Lists K H A t b { g with lent := false } := ⟨l.dr, l.ups, l.has, l.cts, l.prs, l.pins, l.rts, l.sts, l.sps, l.el, l.e_ups, l.e_has, l.e_cts, l.e_prs, l.e_pins, l.e_rts, l.e_sts, l.e_sps, l.n5, l.n1, l.nn, l.dl⟩
theorem Lists.newEl {K : PySem.W.Frag} {H : Hp} {A : GA} {t b : Int} {g : GS} (l : Lists K H A t b g) {e : Addr} {vs : List V} (he : H e = some (.lst vs)) (hd : DpAll K H vs g.ds) (n : ∀ c ∈ A.all, c ≠ A.el → e ≠ c) : Lists K H { A with el := e } t b g :=
  ⟨l.dr, l.ups, l.has, l.cts, l.prs, l.pins, l.rts, l.sts, l.sps, ⟨vs, he, hd⟩, n _ (by simp [GA.all]) l.e_ups.symm, n _ (by simp [GA.all]) l.e_has.symm, n _ (by simp [GA.all]) l.e_cts.symm, n _ (by simp [GA.all]) l.e_prs.symm, n _ (by simp [GA.all]) l.e_pins.symm, n _ (by simp [GA.all]) l.e_rts.symm, n _ (by simp [GA.all]) l.e_sts.symm, n _ (by simp [GA.all]) l.e_sps.symm, l.n5, l.n1, l.nn, l.dl⟩
section
variable (K : PySem.W.Frag) (CG : Addr)
def spWriteL (NH : Addr) : Sp := fun vs H Q E => ∃ (x : Addr) (A : GA) (t b : Int) (g : GS) (p : Addr) (xs : List V) (ds : List PyData), vs = [.ref x, .ref p] ∧ GroupAt K CG H x A t b g ∧ GOk g ∧ g.loose = false ∧ H p = some (.tup xs) ∧ DpAll K H xs ds ∧ ds.all leafD = true ∧ (∀ v ∈ xs, LeafV v) ∧ g.ds.length < 1000 ∧ (∀ d ∈ g.ds, flatT d = true) ∧
  (canW g = true → ∀ A' H', (∀ c, c ∈ A'.all → c ∈ A.all ∨ H c = none) → (∀ b o, b ≠ x → (g.lent = false → b ≠ A.el) → H b = some o → H' b = some o) → ((g.lent = false ∧ A'.el = A.el) ∨ (g.lent = true ∧ H A'.el = none)) → GroupAt K CG H' x A' t b { wroteG g (.tuple ds) with lent := false } → Q .non H') ∧ (canW g = false → Out E NH "house" .non H)
end

theorem ok_Copies_write {P : Program} {w : World} {K : PySem.W.Frag} {mg : Str → Option Value} {base : Heap} {a : Nat → Addr} {d : Nat → FuncData} (T : Txt K mg a d) : FnOk P w K mg base (L2.CX P w) 5 (a 32) (d 32) ["self", "entry"] (spWriteL K (a 61) (a 100)) := by
  refine T.F_Copies_write.okX sc_Copies_write (fun vs H Q E h => ?_) (fun cdv A outer s0 H vs Q E hr h => ?_)
  · obtain ⟨x, A, t, b, g, p, xs, ds, rfl, hg, ok, hlo, hp, hxs, hleaf, hlv, dl, fl, q, qx⟩ := h
    rfl
  · obtain ⟨x, A, t, b, g, p, xs, ds, rfl, hg, ok, hlo, hp, hxs, hleaf, hlv, dl, fl, q, qx⟩ := h
    obtain ⟨dx, hx⟩ := hg.at_
    obtain ⟨vs, hel, hed⟩ := hg.ls.el
    refine ⟨_, (pss_cons (ps_if (pt_not (pt_truth (pe_meth0 (pv 0) T.cl T.m_Copies_can_write (ok_Copies_can_write T) (hr.mono (by decide)) T.b_Copies_can_write .nil pass0) (by intro _; rfl))) (pss_one (ps_raise rfl (takes_of rfl rfl rfl rfl) (XB.pmk T.xo_NoHead T.ie_NoHead T.te_NoHead (ok_INoHead T T.xo_NoHead T.ne_NoHead_house) (hr.mono (by decide)) T.b_INoHead pass0 (by rfl) T.gE_NoHead (pa_cons pe_non pa_nil)))) pss_nil) (pss_cons (ps_set (i := 2) sc_Copies_write.nd rfl (Or.inl rfl) (pe_callTy call_list_of (by rfl) T.z_list (by decide +kernel) (pa_cons (pe_fld (pv 0) rfl) pa_nil))) (pss_cons (ps_for (passes_of rfl) rfl (pi_list (pe_meth0 (pv 0) T.cl T.m_Copies_writers (ok_Copies_writers T) (hr.mono (by decide)) T.b_Copies_writers .nil pass0)) (pg_name (i := 3) sc_Copies_write.nd rfl (.inl rfl)) (pss_one (ps_augS (pv 2) (pv 3) get_list pe_int ip_add set_list))) (pss_cons (ps_fld (pv 0) (pv 2) rfl) (Evl.pss_cut (ps_if (pt_truth (pe_fld (pv 0) rfl) (by intro _; rfl)) (pss_cons (ps_fld (pv 0) (pe_callTy call_list_of (by rfl) T.z_list (by decide +kernel) (pa_cons (pe_fld (pv 0) rfl) pa_nil)) rfl) (pss_one (ps_fld (pv 0) pe_bl rfl))) pss_nil) (pss_cons (ps_fld (pv 0) (pe_or (pe_fld (pv 0) rfl) (pe_one (pe_not (pe_call (ok_is_fixed T) (hr.mono (by decide)) (by rfl) T.g_is_fixed T.F_is_fixed.kp T.b_is_fixed .nil pass0 (pa_cons (pv 1) pa_nil))))) rfl) (pss_one (ps_expr (pe_bm PySem.F.plainAttrs_list PySem.F.slot_list_append PySem.F.type_list_append mt_append (pe_fld (pv 0) rfl) (pa_cons (pe_ifExp (pt_truth (pe_fld (pv 0) rfl) (by intro _; rfl)) pe_never (pv 1)) pa_nil)))))))))), ?_⟩
    refine ⟨_, rfl, x, dx, _, rfl, hx, gf_no _ _ (by decide +kernel) (by decide +kernel) (by decide +kernel) (by decide +kernel) (by decide +kernel) (by decide +kernel) (by decide +kernel) (by decide +kernel) (by decide +kernel) (by decide +kernel) (by decide +kernel) (by decide +kernel) (by decide +kernel) (by decide +kernel) (by decide +kernel), x, A, t, b, g, rfl, hg, ok, fun H1 s1 => ⟨_, rfl, ?_⟩⟩
    cases cw : canW g with
    | false =>
      refine iteT ?_
      refine ⟨(by show 1 ≤ 1000; decide), fun y ny => ⟨y, _, rfl, upd_same, fun dx' H' ndx ne e1 e2 k => ?_⟩⟩
      have nd := ndx
      rw [upd_ne ne] at nd
      exact ⟨rfl, dx', _, e1, e2, nd, (qx cw).up s1 dx' _ (same_err3 ny nd k) upd_same⟩
    | true =>
      refine iteF ?_
      have q := q cw
      have hg1 := hg.same s1
      have hx1 := s1 _ _ hx
      refine ⟨_, rfl, x, _, dx, _, _, rfl, hx1, T.cl, T.n_has, gf_has _ _, A.has, _, rfl, .inl (SqL.of hg1.ls.has), fun p1 np1 => ?_⟩
      have s2 : Same H (upd H1 p1 (.lst (g.ms.map fun s => V.int s.has))) := s1.trans (same_new (Same.refl H1) np1)
      have f1 : H p1 = none := s1.free np1
      have hp1 : (upd H1 p1 (.lst (g.ms.map fun s => V.int s.has))) p1 = some (.lst (g.ms.map fun s => V.int s.has)) := upd_same
      generalize (upd H1 p1 (.lst (g.ms.map fun s => V.int s.has))) = H2 at s2 hp1 ⊢
      have hx2 := s2 _ _ hx
      refine ⟨_, rfl, x, dx, _, rfl, hx2, gf_no _ _ (by decide +kernel) (by decide +kernel) (by decide +kernel) (by decide +kernel) (by decide +kernel) (by decide +kernel) (by decide +kernel) (by decide +kernel) (by decide +kernel) (by decide +kernel) (by decide +kernel) (by decide +kernel) (by decide +kernel) (by decide +kernel) (by decide +kernel), x, A, t, b, g, rfl, hg.same s2, fun l H3 nl s3 hl => ?_⟩
      have s23 := s2.trans s3
      have lp : l ≠ p1 := fun z => by rw [z, hp1] at nl; cases nl
      refine ⟨l, rfl, ⟨_, SqL.of hl⟩, ?_⟩
      refine for_list (K := K) (a := l) (xs := (pickG (isWr g) g).map nV) (fun j σ H' => (∃ v : Option V, σ = [some (.ref x), some (.ref p), some (.ref p1), v]) ∧ (∀ b o, b ≠ p1 → H3 b = some o → H' b = some o) ∧ H' p1 = some (.lst (hasL g ((pickG (isWr g) g).take j))))
        ⟨⟨none, rfl⟩, fun _ _ _ e => e, (by rw [List.take_zero, hasL_nil]; exact s3 _ _ hp1)⟩ (fun j σ H' _ z => SqL.of (z.2.1 _ _ lp hl)) ?_ ?_
      · rintro j kv σ H4 hj ⟨⟨v, rfl⟩, f4, h4⟩
        rw [List.getElem?_map] at hj
        obtain ⟨k, hk, rfl⟩ := Option.map_eq_some_iff.mp hj
        have kl := is_lt k (List.mem_of_getElem? hk)
        obtain ⟨s, hs⟩ := getM kl
        have tk : (pickG (isWr g) g).take (j + 1) = (pickG (isWr g) g).take j ++ [k] := by rw [List.take_add_one, hk]; rfl
        show ∃ v, _
        refine ⟨_, rfl, _, rfl, p1, _, k, _, rfl, rfl, SqL.of h4, hasL_get hs (take_notin (pick_nodup g _) hk), s.has, 1, rfl, rfl, p1, _, (k : Int), k, rfl, rfl, h4, ?_, ?_⟩
        · unfold ixN
          rw [if_pos (by omega), if_pos (by rw [hasL_len]; omega)]
          simp
        · rw [hasL_step hs, tk]
          exact ⟨⟨_, rfl⟩, fun b' o n e => by rw [upd_ne n]; exact f4 b' o n e, upd_same⟩
      · rintro σ H4 ⟨⟨v, rfl⟩, f4, h4⟩
        rw [List.length_map, List.take_length] at h4
        have s4 : Same H H4 := fun b' o e => f4 b' o (ne_of_none e f1) (s23 _ _ e)
        have hx4 := s4 _ _ hx
        refine ⟨_, rfl, _, rfl, x, _, dx, _, rfl, hx4, T.cl, T.n_has, gf_len _ _, ?_⟩
        rw [gp_has]
        have F5 : Fr x H (upd H4 x (.ins (a 61) dx (gf { A with has := p1 } g))) := (fr_same s4).put
        have hx5 : (upd H4 x (.ins (a 61) dx (gf { A with has := p1 } g))) x = some (.ins (a 61) dx (gf { A with has := p1 } g)) := upd_same
        have xp1 : x ≠ p1 := ne_of_none hx f1
        have h5 : (upd H4 x (.ins (a 61) dx (gf { A with has := p1 } g))) p1 = some (.lst (hasL g (pickG (isWr g) g))) := by rw [upd_ne xp1.symm]; exact h4
        generalize (upd H4 x (.ins (a 61) dx (gf { A with has := p1 } g))) = H5 at F5 hx5 h5 ⊢
        have hel5 := F5 _ _ (ne_of hel hx (by intro z; cases z)) hel
        refine ⟨fun σ' H' => (∃ v : Option V, σ' = [some (.ref x), some (.ref p), some (.ref p1), v]) ∧ ∃ e1 : Addr, Fr x H H' ∧ H' x = some (.ins (a 61) dx (gf { A with has := p1, el := e1 } { g with lent := false })) ∧ H' p1 = some (.lst (hasL g (pickG (isWr g) g))) ∧ H' e1 = some (.lst vs) ∧ e1 ≠ p1 ∧ ((g.lent = false ∧ e1 = A.el) ∨ (g.lent = true ∧ H e1 = none)), ?_, ?_⟩
        · cases hln : g.lent with
          | false =>
            have eg : ({ g with lent := false } : GS) = g := by rw [← hln]
            refine ⟨_, rfl, x, _, dx, _, _, rfl, hx5, T.cl, T.n_lent, gf_lent _ _, false, (by rw [hln] <;> rfl), iteF ?_⟩
            exact ⟨⟨_, rfl⟩, A.el, F5, by rw [eg]; exact hx5, h5, hel5, ne_of_none hel f1, .inl ⟨rfl, rfl⟩⟩
          | true =>
            refine ⟨_, rfl, x, _, dx, _, _, rfl, hx5, T.cl, T.n_lent, gf_lent _ _, true, (by rw [hln] <;> rfl), iteT ?_⟩
            refine ⟨_, rfl, x, _, dx, _, _, rfl, hx5, T.cl, T.n_entries, gf_entries _ _, A.el, vs, rfl, .inl (SqL.of hel5), fun e1 ne1 => ?_⟩
            have xe : x ≠ e1 := ne_of_none hx5 ne1
            refine ⟨_, rfl, x, _, dx, _, rfl, (by rw [upd_ne xe]; exact hx5), T.cl, T.n_entries, gf_len _ _, ?_⟩
            rw [gp_entries]
            have fe : H e1 = none := fr_free F5 hx5 ne1
            have p1e : p1 ≠ e1 := ne_of_none h5 ne1
            refine ⟨_, rfl, x, _, dx, _, rfl, upd_same, T.cl, T.n_lent, gf_len _ _, ?_⟩
            rw [upd_twice, gp_lent]
            refine ⟨⟨_, rfl⟩, e1, ((F5.new ne1).put), upd_same, ?_, ?_, p1e.symm, .inr ⟨rfl, fe⟩⟩
            · rw [upd_ne xp1.symm, upd_ne p1e]; exact h5
            · rw [upd_ne xe.symm]; exact upd_same
        clear F5 hx5 h5 hel5
        generalize hH5 : H5 = H5'
        rintro σ5 H5 ⟨⟨v5, rfl⟩, e1, F5, hx5, h5, hel5, ne15, he1⟩
        clear hH5
        have px : p ≠ x := ne_of hp hx (by intro z; cases z)
        refine ⟨_, rfl, x, _, dx, _, _, rfl, hx5, T.cl, T.n_loose, gf_loose _ _, false, (by rw [hlo] <;> rfl), iteF ⟨_, rfl, p, xs, rfl, F5 _ _ px hp, hlv, fun H6 s6 => ?_⟩⟩
        have hx6 := s6 _ _ hx5
        refine ⟨true, rfl, _, rfl, x, _, dx, _, rfl, hx6, T.cl, T.n_loose, gf_len _ _, ?_⟩
        rw [show V.bl (!true) = V.bl false from rfl, gp_loose]
        have eg : ({ g with lent := false, loose := false } : GS) = { g with lent := false } := by rw [← hlo]
        rw [eg]
        have F7 : Fr x H (upd H6 x (.ins (a 61) dx (gf { A with has := p1, el := e1 } { g with lent := false }))) := (F5.trans (fr_same s6)).put
        have hx7 : (upd H6 x (.ins (a 61) dx (gf { A with has := p1, el := e1 } { g with lent := false }))) x = some (.ins (a 61) dx (gf { A with has := p1, el := e1 } { g with lent := false })) := upd_same
        have h7 : (upd H6 x (.ins (a 61) dx (gf { A with has := p1, el := e1 } { g with lent := false }))) p1 = some (.lst (hasL g (pickG (isWr g) g))) := by rw [upd_ne xp1.symm]; exact s6 _ _ h5
        generalize hH7 : (upd H6 x (.ins (a 61) dx (gf { A with has := p1, el := e1 } { g with lent := false }))) = H7 at F7 hx7 h7 ⊢
        have ex : e1 ≠ x := ne_of hel5 hx5 (by intro z; cases z)
        have hel6 := s6 _ _ hel5
        have hel7 : H7 e1 = some (.lst vs) := by rw [← hH7, upd_ne ex]; exact hel6
        have hd7 := flats_up F7 hx trivial hed fl
        have l7 : Lists K H7 { A with el := e1 } t b { g with lent := false } := (hg.ls.fr F7 hx).unlent.newEl hel7 hd7 (fun c hc nc => by
          rcases he1 with ⟨_, rfl⟩ | ⟨_, fe⟩
          · exact nc.symm
          · obtain ⟨o, eo⟩ := hg.ls.some_ c hc
            exact (ne_of_none eo fe).symm)
        have hv7 : Dp K H7 (.ref p) (.tuple ds) := .tup (SqT.of (F7 _ _ px hp)) (leaves_up hxs hleaf)
        refine ⟨_, rfl, x, _, dx, _, _, rfl, hx7, T.cl, T.n_entries, gf_entries _ _, .inl ⟨rfl, _, SqL.of hel7⟩, ?_⟩
        refine ⟨_, rfl, x, _, dx, _, _, rfl, hx7, T.cl, T.n_loose, gf_loose _ _, false, (by rw [hlo] <;> rfl), iteF ⟨_, rfl, e1, vs, _, rfl, rfl, hel7, ?_, ?_⟩⟩
        · rw [dpall_len hed]
          exact Nat.lt_of_lt_of_le dl (by decide)
        · refine q { A with has := p1, el := e1 } _ (fun c z => ?_) (fun b' o n1 n2 e => ?_) (he1.imp (fun y => ⟨y.1, y.2⟩) fun y => ⟨y.1, y.2⟩) ⟨⟨dx, by rw [upd_ne (Ne.symm ex)]; exact hx7⟩, l7.wrote h7 hel7 hd7 hv7 fl hleaf ne15 dl⟩
          · have ze : e1 ∈ A.all ∨ H e1 = none := he1.imp (fun y => by rw [y.2]; simp [GA.all]) fun y => y.2
            simp only [GA.all, List.mem_cons, List.not_mem_nil, or_false] at z ⊢
            rcases z with z | z | z | z | z | z | z | z | z <;> first | (subst z; exact .inr f1) | (subst z; simpa [GA.all] using ze) | simp [z]
          · rw [upd_ne (fun z => by
              rcases he1 with ⟨l0, rfl⟩ | ⟨_, fe⟩
              · exact n2 l0 z
              · rw [z, fe] at e; cases e)]
            exact F7 _ _ n1 e


section
variable (K : PySem.W.Frag) (CG : Addr)
def spMayN : Sp := fun vs H Q _ => ∃ (x : Addr) (A : GA) (t b : Int) (g : GS) (i : Nat) (s : MS), vs = [.ref x, .int (i : Int)] ∧ GroupAt K CG H x A t b g ∧ g.ms[i]? = some s ∧ Q (.bl (mayN g s)) H
def spRenew (NH : Addr) : Sp := fun vs H Q E => ∃ (x : Addr) (A : GA) (t b : Int) (g : GS), vs = [.ref x] ∧ GroupAt K CG H x A t b g ∧ GOk g ∧
  (∀ (i : Nat) (s : MS) (z : Int × Int) (S : Int), headOf g = some (i : Int) → g.ms[i]? = some s → s.sp = some z → s.rt = some S → g.ms.length < 2 * (pickG (mayN g) g).length → ∀ A' H', Gx K CG H x A t b H' A' (renG g i s (if z.2 + g.le > S then z.2 + g.le else S)) → Q .non H') ∧ (headOf g = none ∨ ¬ g.ms.length < 2 * (pickG (mayN g) g).length → Out E NH "house" .non H)
def spIsUp : Sp := fun vs H Q _ => ∃ (x : Addr) (A : GA) (t b : Int) (g : GS) (i : Nat) (s : MS), vs = [.ref x, .int (i : Int)] ∧ GroupAt K CG H x A t b g ∧ g.ms[i]? = some s ∧ Q (.bl s.up) H
def spClock (CC : Addr) : Sp := fun vs H Q _ => ∃ (x : Addr) (A : GA) (t b : Int) (g : GS) (i : Nat) (s : MS), vs = [.ref x, .int (i : Int)] ∧ GroupAt K CG H x A t b g ∧ g.ms[i]? = some s ∧ ∀ c H', H c = none → Same H H' → CkAt K CC H' c A.dr t b s.st s.n → Q (.ref c) H'
end
theorem head_at {g : GS} {c : Int} (ok : GOk g) (e : headOf g = some c) : ∃ (i : Nat) (s : MS) (T : Int), c = (i : Int) ∧ g.ch = some (i : Int) ∧ g.ms[i]? = some s ∧ s.rt = some T ∧ mayR s = true := by
  unfold headOf at e
  cases c2 : g.ch with
  | none => rw [c2] at e; cases e
  | some k =>
    rw [c2] at e
    have e : (if atG mayR g k.toNat = true then some k else none) = some c := e
    obtain ⟨k0, k1⟩ := ok.ch k c2
    obtain ⟨i, rfl⟩ := Int.eq_ofNat_of_zero_le k0
    by_cases c3 : atG mayR g i = true
    · have e : (if atG mayR g i = true then some (i : Int) else none) = some c := e
      rw [if_pos c3] at e
      cases e
      obtain ⟨s, hs⟩ := getM (ms := g.ms) (i := i) (by omega)
      rw [atG_of hs] at c3
      have c4 := c3
      unfold mayR at c3
      cases c5 : s.rt with
      | none => rw [c5] at c3; cases c3
      | some T => exact ⟨i, s, T, rfl, rfl, hs, c5, c4⟩
    · have e : (if atG mayR g i = true then some (i : Int) else none) = some c := e
      rw [if_neg c3] at e
      cases e

theorem ok_Copies_is_up {P : Program} {w : World} {K : PySem.W.Frag} {mg : Str → Option Value} {base : Heap} {a : Nat → Addr} {d : Nat → FuncData} (T : Txt K mg a d) : FnOk P w K mg base CX0 3 (a 37) (d 37) ["self", "copy"] (spIsUp K (a 61)) := by
  refine T.F_Copies_is_up.ok sc_Copies_is_up (fun vs H Q E h => ?_) (fun cdv A outer s0 H vs Q E hr h => ?_)
  · obtain ⟨x, A, t, b, g, i, s, rfl, hg, hs, q⟩ := h
    rfl
  · obtain ⟨x, A, t, b, g, i, s, rfl, hg, hs, q⟩ := h
    obtain ⟨dx, hx⟩ := hg.at_
    have hi : i < g.ms.length := (List.getElem?_eq_some_iff.mp hs).1
    refine ⟨_, (pss_cons (ps_expr (pe_meth (pv 0) T.cl T.m_Copies_refuse_no_copy (ok_Copies_refuse_no_copy T) (hr.mono (by decide)) T.b_Copies_refuse_no_copy .nil pass0 (pa_cons (pv 1) pa_nil))) (pss_one (ps_ret (pe_ix ix_list (pe_fld (pv 0) rfl) (pv 1) (fun _ _ => rfl))))), ?_⟩
    refine ⟨_, rfl, x, dx, _, rfl, hx, gf_no _ _ (by decide +kernel) (by decide +kernel) (by decide +kernel) (by decide +kernel) (by decide +kernel) (by decide +kernel) (by decide +kernel) (by decide +kernel) (by decide +kernel) (by decide +kernel) (by decide +kernel) (by decide +kernel) (by decide +kernel) (by decide +kernel) (by decide +kernel), _, rfl, x, A, t, b, g, i, rfl, hg, hi, ?_⟩
    exact ⟨_, rfl, x, _, dx, _, _, rfl, hx, T.cl, T.n_ups, gf_ups _ _, _, rfl, A.ups, _, (i : Int), _, rfl, rfl, SqL.of hg.ls.ups, atI_map _ hs, q⟩

theorem ok_Copies_may_renew {P : Program} {w : World} {K : PySem.W.Frag} {mg : Str → Option Value} {base : Heap} {a : Nat → Addr} {d : Nat → FuncData} (T : Txt K mg a d) : FnOk P w K mg base CX0 2 (a 35) (d 35) ["self", "copy"] (spMayN K (a 61)) := by
  refine T.F_Copies_may_renew.ok sc_Copies_may_renew (fun vs H Q E h => ?_) (fun cdv A outer s0 H vs Q E hr h => ?_)
  · obtain ⟨x, A, t, b, g, i, s, rfl, hg, hs, q⟩ := h
    rfl
  · obtain ⟨x, A, t, b, g, i, s, rfl, hg, hs, q⟩ := h
    obtain ⟨dx, hx⟩ := hg.at_
    have hi : i < g.ms.length := (List.getElem?_eq_some_iff.mp hs).1
    refine ⟨_, (pss_one (ps_ret (pe_or (pe_and (pe_ix ix_list (pe_fld (pv 0) rfl) (pv 1) (fun _ _ => rfl)) (pe_one (pe_cmpR op_eq (pe_ix ix_list (pe_fld (pv 0) rfl) (pv 1) (fun _ _ => rfl)) (pe_fld (pv 0) rfl) (nomark _)))) (pe_one (pe_meth (pv 0) T.cl T.m_Copies_can_promise (ok_Copies_can_promise T) (hr.mono (by decide)) T.b_Copies_can_promise .nil pass0 (pa_cons (pv 1) pa_nil)))))), ?_⟩
    unfold mayN at q
    cases eu : s.up with
    | false =>
      rw [eu] at q
      refine ⟨_, rfl, x, _, dx, _, _, rfl, hx, T.cl, T.n_ups, gf_ups _ _, _, rfl, A.ups, _, (i : Int), _, rfl, rfl, SqL.of hg.ls.ups, atI_map _ hs, s.up, rfl, ?_⟩
      rw [eu]
      refine iteF ⟨false, rfl, iteF ?_⟩
      exact ⟨_, rfl, x, dx, _, rfl, hx, gf_no _ _ (by decide +kernel) (by decide +kernel) (by decide +kernel) (by decide +kernel) (by decide +kernel) (by decide +kernel) (by decide +kernel) (by decide +kernel) (by decide +kernel) (by decide +kernel) (by decide +kernel) (by decide +kernel) (by decide +kernel) (by decide +kernel) (by decide +kernel), _, rfl, x, A, t, b, g, i, s, rfl, hg, hs, q⟩
    | true =>
      rw [eu] at q
      refine ⟨_, rfl, x, _, dx, _, _, rfl, hx, T.cl, T.n_ups, gf_ups _ _, _, rfl, A.ups, _, (i : Int), _, rfl, rfl, SqL.of hg.ls.ups, atI_map _ hs, s.up, rfl, ?_⟩
      rw [eu]
      refine iteT ⟨_, rfl, x, _, dx, _, _, rfl, hx, T.cl, T.n_promised_in, gf_promised_in _ _, _, rfl, A.pins, _, (i : Int), _, rfl, rfl, SqL.of hg.ls.pins, atI_map _ hs, _, rfl, x, _, dx, _, _, rfl, hx, T.cl, T.n_reigns, gf_reigns _ _, rfl, ?_⟩
      have e0 : decide (V.int s.pin = V.int g.rg) = decide (s.pin = g.rg) := decide_eq_decide.mpr ⟨fun z => V.int.inj z, fun z => by rw [z]⟩
      refine ⟨_, rfl, ?_⟩
      rw [e0]
      cases c : decide (s.pin = g.rg) with
      | true =>
        rw [c] at q
        exact iteT q
      | false =>
        rw [c] at q
        exact iteF ⟨_, rfl, x, dx, _, rfl, hx, gf_no _ _ (by decide +kernel) (by decide +kernel) (by decide +kernel) (by decide +kernel) (by decide +kernel) (by decide +kernel) (by decide +kernel) (by decide +kernel) (by decide +kernel) (by decide +kernel) (by decide +kernel) (by decide +kernel) (by decide +kernel) (by decide +kernel) (by decide +kernel), _, rfl, x, A, t, b, g, i, s, rfl, hg, hs, q⟩

theorem ok_Copies_renew {P : Program} {w : World} {K : PySem.W.Frag} {mg : Str → Option Value} {base : Heap} {a : Nat → Addr} {d : Nat → FuncData} (T : Txt K mg a d) : FnOk P w K mg base (L2.CX P w) 6 (a 36) (d 36) ["self"] (spRenew K (a 61) (a 100)) := by
  refine T.F_Copies_renew.okX sc_Copies_renew (fun vs H Q E h => ?_) (fun cdv A outer s0 H vs Q E hr h => ?_)
  · obtain ⟨x, A, t, b, g, rfl, hg, ok, q, qx⟩ := h
    rfl
  · obtain ⟨x, A, t, b, g, rfl, hg, ok, q, qx⟩ := h
    obtain ⟨dx, hx⟩ := hg.at_
    refine ⟨_, (pss_cons (ps_set (i := 1) sc_Copies_renew.nd rfl (Or.inl rfl) (pe_methS0 (pv 0) T.cl T.m_Copies_need_head (ok_Copies_need_head T) (hr.mono (by decide)) T.b_Copies_need_head (fun σ => passAt (takes_of rfl rfl rfl rfl) σ))) (pss_cons (ps_setLc (i := 2) (own := [("copy", 4)]) (g := gName 4) (te := (tVar 4)) (tt := (tTru K (tMeth (a 61) "may_renew" (spMayN K (a 61)) [] E0 (tVar 0) (tCons (tVar 4) tNil)))) (by rfl) sc_Copies_renew.nd rfl rfl (sw_true rfl rfl rfl (by decide +kernel)) (pi_range1 (by rfl) T.z_range (pa_cons (pe_callB call_len_seq (by rfl) T.z_len PySem.boot_len (pa_cons (pe_fld (pv 0) rfl) pa_nil)) pa_nil)) (blkOk_by (own := [("copy", 4)]) (N := ["self", "head", "some", "till", "copy"]) (sc := defScope s_Copies_renew) (by decide +kernel)) (fun _ _ _ _ _ => (pg_name (i := 4) sc_Copies_renew.nd rfl (.inl rfl))) (fun _ _ _ _ _ => (pts_one (pt_truth (pe_meth (pv 0) T.cl T.m_Copies_may_renew (ok_Copies_may_renew T) (hr.mono (by decide)) T.b_Copies_may_renew .nil pass0 (pa_cons (pv 4) pa_nil)) (by intro _; rfl)))) (fun _ _ _ _ _ => (pv 4))) (pss_cons (ps_if (pt_not (pt_truth (pe_meth (pv 0) T.cl T.m_Copies_is_most (ok_Copies_is_most T) (hr.mono (by decide)) T.b_Copies_is_most .nil pass0 (pa_cons (pv 2) pa_nil)) (by intro _; rfl))) (pss_one (ps_raise rfl (takes_of rfl rfl rfl rfl) (XB.pmk T.xo_NoHead T.ie_NoHead T.te_NoHead (ok_INoHead T T.xo_NoHead T.ne_NoHead_house) (hr.mono (by decide)) T.b_INoHead pass0 (by rfl) T.gE_NoHead (pa_cons pe_non pa_nil)))) pss_nil) (pss_cons (ps_set (i := 3) sc_Copies_renew.nd rfl (Or.inl rfl) (pe_callB (call_max2 rfl) (by rfl) T.z_max (by decide +kernel) (pa_cons (pe_ix ix_list (pe_fld (pv 0) rfl) (pv 1) (fun _ _ => rfl)) (pa_cons (pe_meth (pv 0) T.cl T.m_Copies_till_of (ok_Copies_till_of T) (hr.mono (by decide)) T.b_Copies_till_of .nil pass0 (pa_cons (pv 1) pa_nil)) pa_nil)))) (pss_cons (ps_fld (pv 0) (pe_call (ok_changed_at T) (hr.mono (by decide)) (by rfl) T.g_changed_at T.F_changed_at.kp T.b_changed_at .nil pass0 (pa_cons (pe_fld (pv 0) rfl) (pa_cons (pv 1) (pa_cons (pv 3) pa_nil)))) rfl) (pss_one (ps_expr (pe_meth (pv 0) T.cl T.m_Copies_promise (ok_Copies_promise T) (hr.mono (by decide)) T.b_Copies_promise .nil pass0 (pa_cons (pv 2) (pa_cons (pv 3) pa_nil)))))))))), ?_⟩
    refine ⟨_, rfl, x, dx, _, rfl, hx, gf_no _ _ (by decide +kernel) (by decide +kernel) (by decide +kernel) (by decide +kernel) (by decide +kernel) (by decide +kernel) (by decide +kernel) (by decide +kernel) (by decide +kernel) (by decide +kernel) (by decide +kernel) (by decide +kernel) (by decide +kernel) (by decide +kernel) (by decide +kernel), x, A, t, b, g, rfl, hg, ok, fun c eh => ?_, fun eh => qx (.inl eh)⟩
    obtain ⟨i, s, S, rfl, ec, hs, hS, hm⟩ := head_at ok eh
    have hi := (List.getElem?_eq_some_iff.mp hs).1
    obtain ⟨z, hz⟩ := Option.isSome_iff_exists.mp (ok.rt i s hs (by rw [hS]; rfl))
    refine ⟨_, rfl, x, _, dx, _, _, rfl, hx, T.cl, T.n_ups, gf_ups _ _, A.ups, _, rfl, .inl (SqL.of hg.ls.ups), g.ms.length, by rw [List.length_map], by have := hg.ls.n5; omega, by have := hg.ls.n5; omega, fun D nD => ?_⟩
    refine lc_range (lo := 0) (n := g.ms.length) (fun i H' => Same H H' ∧ H' D = some (.lst ((((List.range g.ms.length).take i).filter (atG (mayN g) g)).map nV))) ⟨same_new (Same.refl H) nD, by rw [List.take_zero]; exact upd_same⟩ ?_ ?_
    · rintro i H1 hi ⟨s1, hD⟩
      obtain ⟨s, hs⟩ := getM hi
      have hx1 := s1 _ _ hx
      refine ⟨rfl, _, rfl, x, dx, _, rfl, hx1, gf_no _ _ (by decide +kernel) (by decide +kernel) (by decide +kernel) (by decide +kernel) (by decide +kernel) (by decide +kernel) (by decide +kernel) (by decide +kernel) (by decide +kernel) (by decide +kernel) (by decide +kernel) (by decide +kernel) (by decide +kernel) (by decide +kernel) (by decide +kernel), _, rfl, x, A, t, b, g, i, s, by rw [Int.zero_add]; rfl, hg.same s1, hs, _, rfl, ?_⟩
      have nxt := range_take g.ms.length i (atG (mayN g) g) hi
      rw [atG_of hs] at nxt
      cases c : mayN g s with
      | true =>
        refine iteT ⟨_, rfl, _, hD, ?_, fun b' u e => ?_, ?_⟩
        · rw [List.length_map]
          have := List.length_filter_le (atG (mayN g) g) ((List.range g.ms.length).take i)
          have := List.length_take_le i (List.range g.ms.length)
          have := hg.ls.n5
          exact Nat.lt_of_lt_of_le (show _ < 100 by omega) (by decide)
        · rw [upd_ne (ne_of_none e nD)]
          exact s1 _ _ e
        · rw [upd_same, nxt, c, if_pos rfl, List.map_append, Int.zero_add]
          rfl
      | false =>
        refine iteF ⟨s1, ?_⟩
        rw [nxt, c, if_neg (by decide), List.append_nil]
        exact hD
    rintro H1 ⟨s1, hD⟩
    have e : (List.range g.ms.length).take g.ms.length = List.range g.ms.length := by rw [List.take_of_length_le (by rw [List.length_range]; exact Nat.le_refl _)]
    rw [e] at hD
    have hD : H1 D = some (.lst ((pickG (mayN g) g).map nV)) := hD
    have hx1 := s1 _ _ hx
    have hg1 := hg.same s1
    refine ⟨_, rfl, x, dx, _, rfl, hx1, gf_no _ _ (by decide +kernel) (by decide +kernel) (by decide +kernel) (by decide +kernel) (by decide +kernel) (by decide +kernel) (by decide +kernel) (by decide +kernel) (by decide +kernel) (by decide +kernel) (by decide +kernel) (by decide +kernel) (by decide +kernel) (by decide +kernel) (by decide +kernel), _, rfl, x, A, t, b, g, D, _, rfl, hg1, hD, _, rfl, ?_⟩
    rw [List.length_map]
    cases c2 : decide (g.ms.length < 2 * (pickG (mayN g) g).length) with
    | false =>
      refine iteT ?_
      refine ⟨(by show 1 ≤ 1000; decide), fun y ny => ⟨y, _, rfl, upd_same, fun dx' H' ndx ne e1 e2 k => ?_⟩⟩
      have nd := ndx
      rw [upd_ne ne] at nd
      exact ⟨rfl, dx', _, e1, e2, nd, (qx (.inr (of_decide_eq_false c2))).up s1 dx' _ (same_err3 ny nd k) upd_same⟩
    | true =>
      refine iteF ?_
      have hmost := of_decide_eq_true c2
      refine ⟨_, rfl, x, _, dx, _, _, rfl, hx1, T.cl, T.n_rules_till, gf_rules_till _ _, _, rfl, A.rts, _, (i : Int), _, rfl, rfl, SqL.of hg1.ls.rts, atI_map _ hs, _, rfl, x, dx, _, rfl, hx1, gf_no _ _ (by decide +kernel) (by decide +kernel) (by decide +kernel) (by decide +kernel) (by decide +kernel) (by decide +kernel) (by decide +kernel) (by decide +kernel) (by decide +kernel) (by decide +kernel) (by decide +kernel) (by decide +kernel) (by decide +kernel) (by decide +kernel) (by decide +kernel), _, rfl, x, A, t, b, g, i, s, z, rfl, hg1, hs, hz, S, _, (by rw [hS]; rfl), ?_⟩
      have q := q i s z S eh hs hz hS hmost
      generalize (if z.2 + g.le > S then z.2 + g.le else S) = till at q ⊢
      refine ⟨_, rfl, x, _, dx, _, _, rfl, hx1, T.cl, T.n_rules_till, gf_rules_till _ _, _, rfl, _, rfl, A.rts, _, i, oV (some till), rfl, hg1.ls.rts, (by rw [List.length_map]; exact hi), fun p2 np2 => ?_⟩
      refine ⟨_, rfl, x, _, dx, _, rfl, (by rw [upd_ne (ne_of_none hx1 np2)]; exact hx1), T.cl, T.n_rules_till, gf_len _ _, ?_⟩
      have n7 := hg1.put_rts (p := p2) (u := some till) hx1 hs np2
      generalize (upd (upd H1 p2 (.lst ((g.ms.map fun s => oV s.rt).set i (oV (some till))))) x (.ins (a 61) dx (putF "rules_till" (.ref p2) (gf A g)))) = H7 at n7 ⊢
      obtain ⟨A7, n7⟩ := n7
      obtain ⟨dx7, hx7⟩ := n7.at_.at_
      have Dx : D ≠ x := ne_of hD (s1 _ _ hx) (by intro z; cases z)
      have hD7 := n7.fr _ _ Dx hD
      refine ⟨_, rfl, x, dx7, _, rfl, hx7, gf_no _ _ (by decide +kernel) (by decide +kernel) (by decide +kernel) (by decide +kernel) (by decide +kernel) (by decide +kernel) (by decide +kernel) (by decide +kernel) (by decide +kernel) (by decide +kernel) (by decide +kernel) (by decide +kernel) (by decide +kernel) (by decide +kernel) (by decide +kernel), _, rfl, _, rfl, x, A7, t, b, _, D, pickG (mayN g) g, till, rfl, n7.at_, hD7, (fun k hk => by rw [List.length_set]; exact is_lt k hk), fun A8 H8 n8 => ?_⟩
      exact q A8 H8 ((n7.trans n8).pre s1)

theorem ok_Copies_clock {P : Program} {w : World} {K : PySem.W.Frag} {mg : Str → Option Value} {base : Heap} {a : Nat → Addr} {d : Nat → FuncData} (T : Txt K mg a d) : FnOk P w K mg base CX0 7 (a 39) (d 39) ["self", "copy"] (spClock K (a 61) (a 62)) := by
  refine T.F_Copies_clock.ok sc_Copies_clock (fun vs H Q E h => ?_) (fun cdv A outer s0 H vs Q E hr h => ?_)
  · obtain ⟨x, A, t, b, g, i, s, rfl, hg, hs, q⟩ := h
    rfl
  · obtain ⟨x, A, t, b, g, i, s, rfl, hg, hs, q⟩ := h
    obtain ⟨dx, hx⟩ := hg.at_
    have hi : i < g.ms.length := (List.getElem?_eq_some_iff.mp hs).1
    obtain ⟨vst, est, qst⟩ := hg.ls.sts
    obtain ⟨sv, e1, e2⟩ := qst.get (i := i) (s := s.st) (by rw [List.getElem?_map, hs]; rfl)
    refine ⟨_, (pss_cons (ps_expr (pe_meth (pv 0) T.cl T.m_Copies_refuse_no_copy (ok_Copies_refuse_no_copy T) (hr.mono (by decide)) T.b_Copies_refuse_no_copy .nil pass0 (pa_cons (pv 1) pa_nil))) (pss_cons (ps_set (i := 2) sc_Copies_clock.nd rfl (Or.inl rfl) (pe_make T.m_Clock___init__ (ok_Clock___init__ T) (hr.mono (by decide)) (by rfl) T.g_Clock T.b_Clock___init__ .nil pass0 (pa_cons (pe_fld (pv 0) rfl) pa_nil))) (pss_cons (ps_fld (pv 2) (pe_ix ix_list (pe_fld (pv 0) rfl) (pv 1) (fun _ _ => rfl)) rfl) (pss_cons (ps_fld (pv 2) (pe_ix ix_list (pe_fld (pv 0) rfl) (pv 1) (fun _ _ => rfl)) rfl) (pss_one (ps_ret (pv 2))))))), ?_⟩
    refine ⟨_, rfl, x, dx, _, rfl, hx, gf_no _ _ (by decide +kernel) (by decide +kernel) (by decide +kernel) (by decide +kernel) (by decide +kernel) (by decide +kernel) (by decide +kernel) (by decide +kernel) (by decide +kernel) (by decide +kernel) (by decide +kernel) (by decide +kernel) (by decide +kernel) (by decide +kernel) (by decide +kernel), _, rfl, x, A, t, b, g, i, rfl, hg, hi, ?_⟩
    refine ⟨_, rfl, x, _, dx, _, _, rfl, hx, T.cl, T.n_most_drift, gf_most_drift _ _, fun c dc nc ndc nec => ?_⟩
    have sm := same_make (o1 := .own c) (o2 := .ins (a 62) dc []) nc ndc
    refine ⟨c, A.dr, dc, t, b, rfl, upd_same, hg.ls.dr.same sm, fun H1 f1 hk => ⟨rfl, ?_⟩⟩
    have S1 : Same H H1 := f1.over sm nc
    obtain ⟨⟨dc1, sv1, hc1, _⟩, hdr1, _⟩ := id hk
    have hx1 := S1 _ _ hx
    have ncx : x ≠ c := ne_of_none hx nc
    refine ⟨_, rfl, x, _, dx, _, _, rfl, hx1, T.cl, T.n_stands, gf_stands _ _, _, rfl, A.sts, _, (i : Int), _, rfl, rfl, SqL.of (S1 _ _ est), atI_nat e1, _, rfl, c, _, dc1, _, rfl, hc1, T.cl_Clock, T.n_Clock_stands, cf_len _ _ _, ?_⟩
    rw [cf_put_s]
    refine ⟨_, rfl, x, _, dx, _, _, rfl, (by rw [upd_ne ncx]; exact hx1), T.cl, T.n_counts, gf_counts _ _, _, rfl, A.cts, _, (i : Int), _, rfl, rfl, SqL.of (by rw [upd_ne (ne_of (S1 _ _ hg.ls.cts) hc1 (by intro z; cases z))]; exact S1 _ _ hg.ls.cts), atI_map _ hs, _, rfl, c, _, dc1, _, rfl, upd_same, T.cl_Clock, T.n_Clock_counted, cf_len _ _ _, ?_⟩
    rw [cf_put_c]
    have f2 : ∀ o1 o2, Fr c H1 (upd (upd H1 c o1) c o2) := fun _ _ => ((Fr.refl c H1).put).put
    have S2 : ∀ o1 o2, Same H (upd (upd H1 c o1) c o2) := fun o1 o2 d o e => f2 o1 o2 d o (ne_of_none e nc) (S1 _ _ e)
    exact ⟨_, rfl, q c _ nc (S2 _ _) ⟨⟨dc1, sv, upd_same, svat_same e2 (S2 _ _)⟩, hg.ls.dr.same (S2 _ _), hg.ls.nn s (List.mem_of_getElem? hs)⟩⟩


section
variable (K : PySem.W.Frag) (CG : Addr)
def spReign : Sp := fun vs H Q _ => ∃ (x : Addr) (A : GA) (t b : Int) (g : GS), vs = [.ref x] ∧ GroupAt K CG H x A t b g ∧ Q (.int g.rg) H
end

theorem ok_Copies_reign {P : Program} {w : World} {K : PySem.W.Frag} {mg : Str → Option Value} {base : Heap} {a : Nat → Addr} {d : Nat → FuncData} (T : Txt K mg a d) : FnOk P w K mg base CX0 1 (a 38) (d 38) ["self"] (spReign K (a 61)) := by
  refine T.F_Copies_reign.ok sc_Copies_reign (fun vs H Q E h => ?_) (fun cdv A outer s0 H vs Q E hr h => ?_)
  · obtain ⟨x, A, t, b, g, rfl, hg, q⟩ := h
    rfl
  · obtain ⟨x, A, t, b, g, rfl, hg, q⟩ := h
    obtain ⟨dx, hx⟩ := hg.at_
    refine ⟨_, (pss_one (ps_ret (pe_fld (pv 0) rfl))), ?_⟩
    exact ⟨_, rfl, x, _, dx, _, _, rfl, hx, T.cl, T.n_reigns, gf_reigns _ _, q⟩

/-! ### sets of things that may be changed -/
def MutD : HO → Prop
  | .lst _ => True
  | .ins _ _ _ => True
  | .dK _ => True
  | _ => False
def FrS (S : List Addr) (H H' : Hp) : Prop := ∀ c o, ¬ c ∈ S → H c = some o → H' c = some o
def MutS (S : List Addr) (H : Hp) : Prop := ∀ c ∈ S, ∃ o, H c = some o ∧ MutD o
structure Nx (S : List Addr) (H : Hp) (S' : List Addr) (H' : Hp) : Prop where
  fr : FrS S H H'
  ow : ∀ c ∈ S', c ∈ S ∨ H c = none
theorem Nx.refl (S : List Addr) (H : Hp) : Nx S H S H := ⟨fun _ _ _ e => e, fun _ z => .inl z⟩
theorem Nx.trans {S S1 S2 : List Addr} {H H1 H2 : Hp} (a : Nx S H S1 H1) (b : Nx S1 H1 S2 H2) : Nx S H S2 H2 := by
  refine ⟨fun c o n e => b.fr c o (fun z => ?_) (a.fr c o n e), fun c z => ?_⟩
  · rcases a.ow c z with y | y
    · exact n y
    · rw [e] at y; cases y
  · rcases b.ow c z with y | y
    · exact a.ow c y
    · cases e : H c with
      | none => exact .inr rfl
      | some o =>
        by_cases n : c ∈ S
        · exact .inl n
        · rw [a.fr c o n e] at y; cases y
theorem Nx.same {S S1 : List Addr} {H H1 H2 : Hp} (a : Nx S H S1 H1) (k : Same H1 H2) : Nx S H S1 H2 := ⟨fun c o n e => k c o (a.fr c o n e), a.ow⟩
theorem Nx.pre {S S1 : List Addr} {H H1 H2 : Hp} (a : Nx S H1 S1 H2) (k : Same H H1) : Nx S H S1 H2 := ⟨fun c o n e => a.fr c o n (k c o e), fun c z => (a.ow c z).imp id fun y => k.free y⟩
theorem nx_same {S : List Addr} {H H1 : Hp} (k : Same H H1) : Nx S H S H1 := (Nx.refl S H).same k
theorem Nx.out {S S1 : List Addr} {H H1 : Hp} (a : Nx S H S1 H1) {c : Addr} {o : HO} (n : ¬ c ∈ S) (e : H c = some o) : ¬ c ∈ S1 ∧ H1 c = some o :=
  ⟨fun z => (a.ow c z).elim n (fun y => by rw [e] at y; cases y), a.fr c o n e⟩
/-- as a step of more -/
theorem Nx.wid {S S1 T T1 : List Addr} {H H1 : Hp} (a : Nx S H S1 H1) (h : ∀ c ∈ S, c ∈ T) (h1 : ∀ c ∈ T1, c ∈ S1 ∨ c ∈ T) : Nx T H T1 H1 :=
  ⟨fun c o n e => a.fr c o (fun z => n (h c z)) e, fun c z => (h1 c z).elim (fun y => (a.ow c y).imp (h c) id) .inl⟩
theorem nx_put {S : List Addr} {H : Hp} {x : Addr} {o : HO} (h : x ∈ S) : Nx S H S (upd H x o) := ⟨fun c u n e => by rw [upd_ne (fun z => n (by rw [z]; exact h))]; exact e, fun _ z => .inl z⟩
theorem Nx.sm {S S1 : List Addr} {H0 H H1 : Hp} (a : Nx S H S1 H1) (k : Same H0 H) (h : ∀ c ∈ S, H0 c = none) : Same H0 H1 := fun c o e => a.fr c o (fun z => by rw [h c z] at e; cases e) (k c o e)
section
variable {K : PySem.W.Frag} {H H' : Hp} {S : List Addr}
theorem mut_tup {p : Addr} {xs : List V} (m : MutS S H) (e : H p = some (.tup xs)) : ¬ p ∈ S := fun z => by
  obtain ⟨o, h, u⟩ := m p z
  rw [e] at h
  cases h
  exact u
theorem mut_frz {p : Addr} {u : Obj} {o : HO} (m : MutS S H) (e : H p = some (.frz u o)) : ¬ p ∈ S := fun z => by
  obtain ⟨o, h, u⟩ := m p z
  rw [e] at h
  cases h
  exact u
theorem sqt_S {p : Addr} {xs : List V} (h : SqT K H p xs) (k : FrS S H H') (m : MutS S H) : SqT K H' p xs := by
  rcases h with (h | ⟨u, h⟩) | h
  · exact .inl (.inl (k p _ (mut_tup m h) h))
  · exact .inl (.inr ⟨u, k p _ (mut_frz m h) h⟩)
  · exact .inr h
theorem flat_S {v : V} {d : PyData} (h : Dp K H v d) (l : flatT d = true) (k : FrS S H H') (m : MutS S H) : Dp K H' v d := by
  cases h with
  | non => exact .non
  | bl x => exact .bl x
  | int i => exact .int i
  | str x => exact .str x
  | lst hq hs => cases l
  | tup hq hs => exact .tup (sqt_S hq k m) (leaves_up hs l)
theorem flats_S (k : FrS S H H') (m : MutS S H) : ∀ {vs : List V} {ds : List PyData}, DpAll K H vs ds → (∀ d ∈ ds, flatT d = true) → DpAll K H' vs ds
  | _, _, .nil, _ => .nil
  | _, _, .cons a r, l => .cons (flat_S a (l _ (List.mem_cons_self ..)) k m) (flats_S k m r fun d hd => l d (List.mem_cons_of_mem _ hd))
theorem svat_S {v : V} {s : Option (Int × Int)} (h : SvAt K H v s) (k : FrS S H H') (m : MutS S H) : SvAt K H' v s := by
  cases s with
  | none => exact h
  | some z =>
    obtain ⟨p, e, q⟩ := h
    exact ⟨p, e, sqt_S q k m⟩
theorem svl_S {vs : List V} {ss : List (Option (Int × Int))} (h : SvL K H vs ss) (k : FrS S H H') (m : MutS S H) : SvL K H' vs ss := ⟨h.len, fun i v s e1 e2 => svat_S (h.at_ i v s e1 e2) k m⟩
/-- things that are none of the group's are changed -/
theorem Lists.frS {A : GA} {t b : Int} {g : GS} (l : Lists K H A t b g) (k : FrS S H H') (m : MutS S H) (nA : ∀ c ∈ A.all, ¬ c ∈ S) (fl : ∀ d ∈ g.ds, flatT d = true) : Lists K H' A t b g :=
  ⟨⟨sqt_S l.dr.1 k m, l.dr.2⟩, k _ _ (nA A.ups (by simp [GA.all])) l.ups, k _ _ (nA A.has (by simp [GA.all])) l.has, k _ _ (nA A.cts (by simp [GA.all])) l.cts, k _ _ (nA A.prs (by simp [GA.all])) l.prs, k _ _ (nA A.pins (by simp [GA.all])) l.pins, k _ _ (nA A.rts (by simp [GA.all])) l.rts, (by obtain ⟨vs, e, q⟩ := l.sts; exact ⟨vs, k _ _ (nA A.sts (by simp [GA.all])) e, svl_S q k m⟩), (by obtain ⟨vs, e, q⟩ := l.sps; exact ⟨vs, k _ _ (nA A.sps (by simp [GA.all])) e, svl_S q k m⟩), (by obtain ⟨vs, e, q⟩ := l.el; exact ⟨vs, k _ _ (nA A.el (by simp [GA.all])) e, flats_S k m q fl⟩), l.e_ups, l.e_has, l.e_cts, l.e_prs, l.e_pins, l.e_rts, l.e_sts, l.e_sps, l.n5, l.n1, l.nn, l.dl⟩
def ownG (x : Addr) (A : GA) : List Addr := x :: A.all
theorem GroupAt.frS {CG x : Addr} {A : GA} {t b : Int} {g : GS} (h : GroupAt K CG H x A t b g) (k : FrS S H H') (m : MutS S H) (nA : ∀ c ∈ ownG x A, ¬ c ∈ S) (fl : ∀ d ∈ g.ds, flatT d = true) : GroupAt K CG H' x A t b g := by
  obtain ⟨⟨dx, hx⟩, l⟩ := h
  exact ⟨⟨dx, k _ _ (nA x (List.mem_cons_self ..)) hx⟩, l.frS k m (fun c z => nA c (List.mem_cons_of_mem _ z)) fl⟩
theorem GroupAt.mut {CG x : Addr} {A : GA} {t b : Int} {g : GS} (h : GroupAt K CG H x A t b g) : MutS (ownG x A) H := fun c hc => by
  obtain ⟨⟨dx, hx⟩, l⟩ := h
  rcases List.mem_cons.mp hc with rfl | hc
  · exact ⟨_, hx, trivial⟩
  obtain ⟨_, e1, _⟩ := l.sts
  obtain ⟨_, e2, _⟩ := l.sps
  obtain ⟨_, e3, _⟩ := l.el
  simp only [GA.all, List.mem_cons, List.not_mem_nil, or_false] at hc
  rcases hc with rfl | rfl | rfl | rfl | rfl | rfl | rfl | rfl | rfl
  · exact ⟨_, l.ups, trivial⟩
  · exact ⟨_, l.has, trivial⟩
  · exact ⟨_, e1, trivial⟩
  · exact ⟨_, l.cts, trivial⟩
  · exact ⟨_, e2, trivial⟩
  · exact ⟨_, l.prs, trivial⟩
  · exact ⟨_, l.pins, trivial⟩
  · exact ⟨_, l.rts, trivial⟩
  · exact ⟨_, e3, trivial⟩
end
theorem Gx.nx {K : PySem.W.Frag} {CG : Addr} {H H' : Hp} {x : Addr} {A A' : GA} {t b : Int} {g' : GS} (n : Gx K CG H x A t b H' A' g') : Nx (ownG x A) H (ownG x A') H' :=
  ⟨fun c o nc e => n.fr c o (fun z => nc (by rw [z]; exact List.mem_cons_self ..)) e, fun c z => by
    rcases List.mem_cons.mp z with rfl | z
    · exact .inl (List.mem_cons_self ..)
    · exact (n.ow c z).imp (List.mem_cons_of_mem _) id⟩
/-! ### a law's own group: a dict of lists -/
structure MA where
  m : Addr
  u : Addr
  z : Addr
  ti : Addr
  o : Addr
  cr : Addr
  lg : Addr
def MA.ls (M : MA) : List Addr := [M.u, M.z, M.ti, M.o, M.cr, M.lg]
def MA.all (M : MA) : List Addr := M.m :: M.ls
def mkv (M : MA) (rg : Int) : List (Key × V) := [(Sum.inr "up", .ref M.u), (Sum.inr "size", .ref M.z), (Sum.inr "till", .ref M.ti), (Sum.inr "of", .ref M.o), (Sum.inr "crown", .ref M.cr), (Sum.inr "log", .ref M.lg), (Sum.inr "reign", .int rg)]
theorem key_ne (a b : Str) (h : (decide (a = b)) = false) : ¬ (Sum.inr a : Key) = Sum.inr b := fun z => by
  have := Sum.inr.inj z
  rw [decide_eq_true this] at h
  cases h
theorem mkv_val (M : MA) (rg : Int) : valV (mkv M rg) (Sum.inr "up") = some (.ref M.u) ∧ valV (mkv M rg) (Sum.inr "size") = some (.ref M.z) ∧ valV (mkv M rg) (Sum.inr "till") = some (.ref M.ti) ∧ valV (mkv M rg) (Sum.inr "of") = some (.ref M.o) ∧ valV (mkv M rg) (Sum.inr "crown") = some (.ref M.cr) ∧ valV (mkv M rg) (Sum.inr "log") = some (.ref M.lg) ∧ valV (mkv M rg) (Sum.inr "reign") = some (.int rg) := by
  refine ⟨rfl, ?_, ?_, ?_, ?_, ?_, ?_⟩ <;> unfold mkv
  · rw [valV_neg (key_ne _ _ (by decide +kernel)), valV_pos rfl]
  · rw [valV_neg (key_ne _ _ (by decide +kernel)), valV_neg (key_ne _ _ (by decide +kernel)), valV_pos rfl]
  · rw [valV_neg (key_ne _ _ (by decide +kernel)), valV_neg (key_ne _ _ (by decide +kernel)), valV_neg (key_ne _ _ (by decide +kernel)), valV_pos rfl]
  · rw [valV_neg (key_ne _ _ (by decide +kernel)), valV_neg (key_ne _ _ (by decide +kernel)), valV_neg (key_ne _ _ (by decide +kernel)), valV_neg (key_ne _ _ (by decide +kernel)), valV_pos rfl]
  · rw [valV_neg (key_ne _ _ (by decide +kernel)), valV_neg (key_ne _ _ (by decide +kernel)), valV_neg (key_ne _ _ (by decide +kernel)), valV_neg (key_ne _ _ (by decide +kernel)), valV_neg (key_ne _ _ (by decide +kernel)), valV_pos rfl]
  · rw [valV_neg (key_ne _ _ (by decide +kernel)), valV_neg (key_ne _ _ (by decide +kernel)), valV_neg (key_ne _ _ (by decide +kernel)), valV_neg (key_ne _ _ (by decide +kernel)), valV_neg (key_ne _ _ (by decide +kernel)), valV_neg (key_ne _ _ (by decide +kernel)), valV_pos rfl]
theorem mkv_reign (M : MA) (rg r : Int) : putK (mkv M rg) (Sum.inr "reign") (.int r) = mkv M r := by
  have ha : ((mkv M rg).any fun kv => decide (kv.1 = Sum.inr ("reign" : Str))) = true := by
    rw [valV_any, (mkv_val M rg).2.2.2.2.2.2]
    rfl
  unfold putK
  rw [if_pos ha]
  unfold mkv
  simp only [List.map_cons, List.map_nil]
  rw [if_neg (key_ne "up" "reign" (by decide +kernel)), if_neg (key_ne "size" "reign" (by decide +kernel)), if_neg (key_ne "till" "reign" (by decide +kernel)), if_neg (key_ne "of" "reign" (by decide +kernel)), if_neg (key_ne "crown" "reign" (by decide +kernel)), if_neg (key_ne "log" "reign" (by decide +kernel)), if_true]
/-- the lists as they stand -/
structure MdL (K : PySem.W.Frag) (H : Hp) (M : MA) (rg : Int) (us zs ts os cs ls : List V) (ds : List PyData) : Prop where
  top : H M.m = some (.dK (mkv M rg))
  up : H M.u = some (.lst us)
  size : H M.z = some (.lst zs)
  till : H M.ti = some (.lst ts)
  of : H M.o = some (.lst os)
  crown : H M.cr = some (.lst cs)
  log : H M.lg = some (.lst ls)
  dl : DpAll K H ls ds
  fl : ∀ d ∈ ds, flatT d = true
  nd : M.ls.Nodup
section
variable {K : PySem.W.Frag} {H H' : Hp} {M : MA} {rg : Int} {us zs ts os cs ls : List V} {ds : List PyData} {S : List Addr}
theorem MdL.gu (h : MdL K H M rg us zs ts os cs ls ds) : DGet H M.m (.str "up") (some (.ref M.u)) := .inl ⟨_, Sum.inr "up", .inl h.top, rfl, (mkv_val M rg).1.symm⟩
theorem MdL.gz (h : MdL K H M rg us zs ts os cs ls ds) : DGet H M.m (.str "size") (some (.ref M.z)) := .inl ⟨_, Sum.inr "size", .inl h.top, rfl, (mkv_val M rg).2.1.symm⟩
theorem MdL.gt (h : MdL K H M rg us zs ts os cs ls ds) : DGet H M.m (.str "till") (some (.ref M.ti)) := .inl ⟨_, Sum.inr "till", .inl h.top, rfl, (mkv_val M rg).2.2.1.symm⟩
theorem MdL.go (h : MdL K H M rg us zs ts os cs ls ds) : DGet H M.m (.str "of") (some (.ref M.o)) := .inl ⟨_, Sum.inr "of", .inl h.top, rfl, (mkv_val M rg).2.2.2.1.symm⟩
theorem MdL.gc (h : MdL K H M rg us zs ts os cs ls ds) : DGet H M.m (.str "crown") (some (.ref M.cr)) := .inl ⟨_, Sum.inr "crown", .inl h.top, rfl, (mkv_val M rg).2.2.2.2.1.symm⟩
theorem MdL.gl (h : MdL K H M rg us zs ts os cs ls ds) : DGet H M.m (.str "log") (some (.ref M.lg)) := .inl ⟨_, Sum.inr "log", .inl h.top, rfl, (mkv_val M rg).2.2.2.2.2.1.symm⟩
theorem MdL.gr (h : MdL K H M rg us zs ts os cs ls ds) : DGet H M.m (.str "reign") (some (.int rg)) := .inl ⟨_, Sum.inr "reign", .inl h.top, rfl, (mkv_val M rg).2.2.2.2.2.2.symm⟩
theorem MdL.mut (h : MdL K H M rg us zs ts os cs ls ds) : MutS M.all H := fun c hc => by
  simp only [MA.all, MA.ls, List.mem_cons, List.not_mem_nil, or_false] at hc
  rcases hc with rfl | rfl | rfl | rfl | rfl | rfl | rfl
  · exact ⟨_, h.top, trivial⟩
  · exact ⟨_, h.up, trivial⟩
  · exact ⟨_, h.size, trivial⟩
  · exact ⟨_, h.till, trivial⟩
  · exact ⟨_, h.of, trivial⟩
  · exact ⟨_, h.crown, trivial⟩
  · exact ⟨_, h.log, trivial⟩
theorem MdL.frS (h : MdL K H M rg us zs ts os cs ls ds) (k : FrS S H H') (m : MutS S H) (n : ∀ c ∈ M.all, ¬ c ∈ S) : MdL K H' M rg us zs ts os cs ls ds :=
  ⟨k _ _ (n _ (by simp [MA.all])) h.top, k _ _ (n _ (by simp [MA.all, MA.ls])) h.up, k _ _ (n _ (by simp [MA.all, MA.ls])) h.size, k _ _ (n _ (by simp [MA.all, MA.ls])) h.till, k _ _ (n _ (by simp [MA.all, MA.ls])) h.of, k _ _ (n _ (by simp [MA.all, MA.ls])) h.crown, k _ _ (n _ (by simp [MA.all, MA.ls])) h.log, flats_S k m h.dl h.fl, h.fl, h.nd⟩
theorem MdL.same (h : MdL K H M rg us zs ts os cs ls ds) (k : Same H H') : MdL K H' M rg us zs ts os cs ls ds :=
  ⟨k _ _ h.top, k _ _ h.up, k _ _ h.size, k _ _ h.till, k _ _ h.of, k _ _ h.crown, k _ _ h.log, dpall_same h.dl k, h.fl, h.nd⟩
theorem nd6 {a b c d e f : Addr} (h : [a, b, c, d, e, f].Nodup) : (a ≠ b ∧ a ≠ c ∧ a ≠ d ∧ a ≠ e ∧ a ≠ f) ∧ (b ≠ c ∧ b ≠ d ∧ b ≠ e ∧ b ≠ f) ∧ (c ≠ d ∧ c ≠ e ∧ c ≠ f) ∧ (d ≠ e ∧ d ≠ f) ∧ e ≠ f := by
  simp only [List.nodup_cons, List.mem_cons, List.not_mem_nil, or_false, not_or] at h
  obtain ⟨h1, h2, h3, h4, h5, _⟩ := h
  exact ⟨h1, h2, h3, h4, h5⟩
theorem MdL.dl_upd (h : MdL K H M rg us zs ts os cs ls ds) {c : Addr} {o : HO} (hc : c ∈ M.all) : DpAll K (upd H c o) ls ds :=
  flats_S (S := M.all) (fun d u n e => by rw [upd_ne (fun z => n (by rw [z]; exact hc))]; exact e) h.mut h.dl h.fl
theorem MdL.ne_top (h : MdL K H M rg us zs ts os cs ls ds) : M.m ≠ M.u ∧ M.m ≠ M.z ∧ M.m ≠ M.ti ∧ M.m ≠ M.o ∧ M.m ≠ M.cr ∧ M.m ≠ M.lg :=
  ⟨ne_of h.top h.up (by intro z; cases z), ne_of h.top h.size (by intro z; cases z), ne_of h.top h.till (by intro z; cases z), ne_of h.top h.of (by intro z; cases z), ne_of h.top h.crown (by intro z; cases z), ne_of h.top h.log (by intro z; cases z)⟩
theorem MdL.put_rg (h : MdL K H M rg us zs ts os cs ls ds) (r : Int) : MdL K (upd H M.m (.dK (mkv M r))) M r us zs ts os cs ls ds := by
  obtain ⟨a, b, c, d, e, f⟩ := h.ne_top
  exact ⟨upd_same, by rw [upd_ne a.symm]; exact h.up, by rw [upd_ne b.symm]; exact h.size, by rw [upd_ne c.symm]; exact h.till, by rw [upd_ne d.symm]; exact h.of, by rw [upd_ne e.symm]; exact h.crown, by rw [upd_ne f.symm]; exact h.log, h.dl_upd (by simp [MA.all]), h.fl, h.nd⟩
theorem MdL.put_up (h : MdL K H M rg us zs ts os cs ls ds) (vs : List V) : MdL K (upd H M.u (.lst vs)) M rg vs zs ts os cs ls ds := by
  obtain ⟨⟨a1, a2, a3, a4, a5⟩, _⟩ := nd6 h.nd
  exact ⟨by rw [upd_ne h.ne_top.1]; exact h.top, upd_same, by rw [upd_ne a1.symm]; exact h.size, by rw [upd_ne a2.symm]; exact h.till, by rw [upd_ne a3.symm]; exact h.of, by rw [upd_ne a4.symm]; exact h.crown, by rw [upd_ne a5.symm]; exact h.log, h.dl_upd (by simp [MA.all, MA.ls]), h.fl, h.nd⟩
theorem MdL.put_size (h : MdL K H M rg us zs ts os cs ls ds) (vs : List V) : MdL K (upd H M.z (.lst vs)) M rg us vs ts os cs ls ds := by
  obtain ⟨⟨a1, _⟩, ⟨b2, b3, b4, b5⟩, _⟩ := nd6 h.nd
  exact ⟨by rw [upd_ne h.ne_top.2.1]; exact h.top, by rw [upd_ne a1]; exact h.up, upd_same, by rw [upd_ne b2.symm]; exact h.till, by rw [upd_ne b3.symm]; exact h.of, by rw [upd_ne b4.symm]; exact h.crown, by rw [upd_ne b5.symm]; exact h.log, h.dl_upd (by simp [MA.all, MA.ls]), h.fl, h.nd⟩
theorem MdL.put_till (h : MdL K H M rg us zs ts os cs ls ds) (vs : List V) : MdL K (upd H M.ti (.lst vs)) M rg us zs vs os cs ls ds := by
  obtain ⟨⟨_, a2, _⟩, ⟨b2, _⟩, ⟨c3, c4, c5⟩, _⟩ := nd6 h.nd
  exact ⟨by rw [upd_ne h.ne_top.2.2.1]; exact h.top, by rw [upd_ne a2]; exact h.up, by rw [upd_ne b2]; exact h.size, upd_same, by rw [upd_ne c3.symm]; exact h.of, by rw [upd_ne c4.symm]; exact h.crown, by rw [upd_ne c5.symm]; exact h.log, h.dl_upd (by simp [MA.all, MA.ls]), h.fl, h.nd⟩
theorem MdL.put_of (h : MdL K H M rg us zs ts os cs ls ds) (vs : List V) : MdL K (upd H M.o (.lst vs)) M rg us zs ts vs cs ls ds := by
  obtain ⟨⟨_, _, a3, _⟩, ⟨_, b3, _⟩, ⟨c3, _⟩, ⟨d4, d5⟩, _⟩ := nd6 h.nd
  exact ⟨by rw [upd_ne h.ne_top.2.2.2.1]; exact h.top, by rw [upd_ne a3]; exact h.up, by rw [upd_ne b3]; exact h.size, by rw [upd_ne c3]; exact h.till, upd_same, by rw [upd_ne d4.symm]; exact h.crown, by rw [upd_ne d5.symm]; exact h.log, h.dl_upd (by simp [MA.all, MA.ls]), h.fl, h.nd⟩
theorem MdL.put_crown (h : MdL K H M rg us zs ts os cs ls ds) (vs : List V) : MdL K (upd H M.cr (.lst vs)) M rg us zs ts os vs ls ds := by
  obtain ⟨⟨_, _, _, a4, _⟩, ⟨_, _, b4, _⟩, ⟨_, c4, _⟩, ⟨d4, _⟩, e5⟩ := nd6 h.nd
  exact ⟨by rw [upd_ne h.ne_top.2.2.2.2.1]; exact h.top, by rw [upd_ne a4]; exact h.up, by rw [upd_ne b4]; exact h.size, by rw [upd_ne c4]; exact h.till, by rw [upd_ne d4]; exact h.of, upd_same, by rw [upd_ne e5.symm]; exact h.log, h.dl_upd (by simp [MA.all, MA.ls]), h.fl, h.nd⟩
theorem MdL.put_log (h : MdL K H M rg us zs ts os cs ls ds) {v : V} {d : PyData} (hv : Dp K H v d) (fd : flatT d = true) : MdL K (upd H M.lg (.lst (ls ++ [v]))) M rg us zs ts os cs (ls ++ [v]) (ds ++ [d]) := by
  obtain ⟨⟨_, _, _, _, a5⟩, ⟨_, _, _, b5⟩, ⟨_, _, c5⟩, ⟨_, d5⟩, e5⟩ := nd6 h.nd
  have hc : M.lg ∈ M.all := by simp [MA.all, MA.ls]
  exact ⟨by rw [upd_ne h.ne_top.2.2.2.2.2]; exact h.top, by rw [upd_ne a5]; exact h.up, by rw [upd_ne b5]; exact h.size, by rw [upd_ne c5]; exact h.till, by rw [upd_ne d5]; exact h.of, by rw [upd_ne e5]; exact h.crown, upd_same, dpall_snoc (flat_S (S := M.all) hv fd (fun d u n e => by rw [upd_ne (fun z => n (by rw [z]; exact hc))]; exact e) h.mut) (h.dl_upd hc), fun e he => by
    rcases List.mem_append.mp he with z | z
    · exact h.fl e z
    · rw [List.mem_singleton.mp z]; exact fd, h.nd⟩
end
/-- the model beside the state g -/
def MdAt (K : PySem.W.Frag) (H : Hp) (M : MA) (g : GS) : Prop := ∃ ls, MdL K H M g.rg (g.ms.map fun s => V.bl s.up) (g.ms.map fun s => V.int s.has) (g.ms.map fun s => oV s.pr) (g.ms.map fun s => V.int s.pin) (g.ms.map fun s => oV s.rt) ls g.ds
theorem MdAt.same {K : PySem.W.Frag} {H H' : Hp} {M : MA} {g : GS} (h : MdAt K H M g) (k : Same H H') : MdAt K H' M g := h.elim fun ls z => ⟨ls, z.same k⟩
theorem MdAt.frS {K : PySem.W.Frag} {H H' : Hp} {M : MA} {g : GS} {S : List Addr} (h : MdAt K H M g) (k : FrS S H H') (m : MutS S H) (n : ∀ c ∈ M.all, ¬ c ∈ S) : MdAt K H' M g := h.elim fun ls z => ⟨ls, z.frS k m n⟩
theorem MdAt.mut {K : PySem.W.Frag} {H : Hp} {M : MA} {g : GS} (h : MdAt K H M g) : MutS M.all H := h.elim fun _ z => z.mut
theorem MdAt.of {K : PySem.W.Frag} {H : Hp} {M : MA} {g g' : GS} (h : MdAt K H M g) (rg : g'.rg = g.rg) (ds : g'.ds = g.ds) (up : g'.ms.map (fun s => V.bl s.up) = g.ms.map fun s => V.bl s.up) (has : g'.ms.map (fun s => V.int s.has) = g.ms.map fun s => V.int s.has) (pr : g'.ms.map (fun s => oV s.pr) = g.ms.map fun s => oV s.pr) (pin : g'.ms.map (fun s => V.int s.pin) = g.ms.map fun s => V.int s.pin) (rt : g'.ms.map (fun s => oV s.rt) = g.ms.map fun s => oV s.rt) : MdAt K H M g' := by
  obtain ⟨ls, z⟩ := h
  refine ⟨ls, ?_⟩
  rw [rg, ds, up, has, pr, pin, rt]
  exact z
/-- the clocks of g make the bounds that gm has -/
structure Clk (g gm : GS) : Prop where
  len : gm.ms.length = g.ms.length
  at_ : ∀ (i : Nat) (s : MS), gm.ms[i]? = some s → ∃ (u : MS) (z : Int × Int), g.ms[i]? = some u ∧ u.st = some z ∧ s.sp = some (z.1 + leastP u.n 1 10, z.2 + mostP u.n 1 10)
  up : ∀ s ∈ gm.ms, s.rt.isSome = true → s.up = true
  p0 : ∀ s ∈ gm.ms, ∀ p, s.pr = some p → -1 ≤ p
theorem isMax_uniq {f : Nat → Int} {is : List Nat} {a b : Int} (h : IsMax f is a) (k : IsMax f is b) : a = b := by
  obtain ⟨⟨i, i1, i2⟩, h2⟩ := h
  obtain ⟨⟨j, j1, j2⟩, k2⟩ := k
  have := h2 j j1
  have := k2 i i1
  omega
/-! ### promises of the law's own defs -/
def wCond (g : GS) : Prop := pickG mayR g ≠ [] ∧ g.ms.length < 2 * (pickG (isWr g) g).length
section
variable (K : PySem.W.Frag) (CG : Addr)
def spMGroup : Sp := fun vs H Q _ => ∃ n : Nat, vs = [.int (n : Int)] ∧ n ≤ 5 ∧ ∀ (M : MA) (H' : Hp), (∀ c ∈ M.all, H c = none) → Same H H' → (∀ le ch ln lo, MdAt K H' M ⟨List.replicate n MS.new, le, 0, ch, [], ln, lo⟩) → Q (.ref M.m) H'
def spMBounds : Sp := fun vs H Q _ => ∃ (x : Addr) (A : GA) (g : GS) (i : Nat) (u : MS) (z : Int × Int), vs = [.ref x, .int (i : Int)] ∧ GroupAt K CG H x A 1 10 g ∧ g.ms[i]? = some u ∧ u.st = some z ∧ ∀ p H', H p = none → Same H H' → H' p = some (.tup [.int (z.1 + leastP u.n 1 10), .int (z.2 + mostP u.n 1 10)]) → Q (.ref p) H'
def spMHeads : Sp := fun vs H Q _ => ∃ (x : Addr) (A : GA) (M : MA) (g gm : GS), vs = [.ref M.m, .ref x] ∧ GroupAt K CG H x A 1 10 g ∧ MdAt K H M gm ∧ Clk g gm ∧ ∀ D H', H D = none → Same H H' → H' D = some (.lst ((pickG mayR gm).map nV)) → Q (.ref D) H'
def spMFree : Sp := fun vs H Q _ => ∃ (x : Addr) (A : GA) (M : MA) (g gm : GS) (i : Nat) (s : MS), vs = [.ref M.m, .ref x, .int (i : Int)] ∧ GroupAt K CG H x A 1 10 g ∧ MdAt K H M gm ∧ Clk g gm ∧ gm.ms[i]? = some s ∧ ∀ H', Same H H' → Q (.bl (canP s)) H'
def spMChoose : Sp := fun vs H Q _ => ∃ (x : Addr) (A : GA) (M : MA) (g gm : GS) (i : Nat) (s : MS), vs = [.ref M.m, .ref x, .int (i : Int), .int gm.le] ∧ GroupAt K CG H x A 1 10 g ∧ MdAt K H M gm ∧ Clk g gm ∧ gm.ms[i]? = some s ∧ (∀ c ∈ ownG x A, ¬ c ∈ M.all) ∧ (∀ d ∈ g.ds, flatT d = true) ∧
  (canC gm i = true → ∀ (fl mh : Int) (z : Int × Int) H', IsMax (prG gm) (pickG canP gm) fl → IsMax (hasG gm) (pickG canP gm) mh → s.sp = some z → Nx M.all H M.all H' → MdAt K H' M (choG gm i s mh (z.2 + gm.le)) → Q (.int fl) H') ∧ (canC gm i = false → ∀ H', Same H H' → Q .non H')
def spMWrote : Sp := fun vs H Q _ => ∃ (x : Addr) (A : GA) (M : MA) (g gm : GS) (v : V) (d : PyData), vs = [.ref M.m, .ref x, v] ∧ GroupAt K CG H x A 1 10 g ∧ MdAt K H M gm ∧ Clk g gm ∧ Dp K H v d ∧ flatT d = true ∧ gm.ds.length < 1000 ∧
  (wCond gm → ∀ H', Nx M.all H M.all H' → MdAt K H' M (wroteG gm d) → Q (.bl true) H') ∧ (¬ wCond gm → ∀ H', Same H H' → Q (.bl false) H')
def spMCaught : Sp := fun vs H Q _ => ∃ (x : Addr) (A : GA) (M : MA) (g gm : GS) (i : Nat) (s : MS), vs = [.ref M.m, .ref x, .int (i : Int)] ∧ GroupAt K CG H x A 1 10 g ∧ MdAt K H M gm ∧ Clk g gm ∧ gm.ms[i]? = some s ∧
  (pickG mayR gm ≠ [] ∧ s.up = true → ∀ H', Nx M.all H M.all H' → MdAt K H' M { gm with ms := gm.ms.set i { s with has := (gm.ds.length : Int) } } → Q (.bl true) H') ∧ (¬ (pickG mayR gm ≠ [] ∧ s.up = true) → ∀ H', Same H H' → Q (.bl false) H')
end
section
variable (K : PySem.W.Frag) (CG : Addr)
def spMRen : Sp := fun vs H Q _ => ∃ (x : Addr) (A : GA) (M : MA) (g gm : GS), vs = [.ref M.m, .ref x, .int gm.le] ∧ GroupAt K CG H x A 1 10 g ∧ MdAt K H M gm ∧ Clk g gm ∧ (∀ c ∈ ownG x A, ¬ c ∈ M.all) ∧ (∀ d ∈ g.ds, flatT d = true) ∧ (pickG mayR gm = [] ∨ ∃ i, pickG mayR gm = [i]) ∧
  (∀ (i : Nat) (s : MS) (z : Int × Int) (S : Int), pickG mayR gm = [i] → gm.ms[i]? = some s → s.sp = some z → s.rt = some S → gm.ms.length < 2 * (pickG (mayN gm) gm).length → ∀ H', Nx M.all H M.all H' → MdAt K H' M (renG gm i s (if z.2 + gm.le > S then z.2 + gm.le else S)) → Q (.bl true) H') ∧ ((pickG mayR gm = [] ∨ ¬ gm.ms.length < 2 * (pickG (mayN gm) gm).length) → ∀ H', Same H H' → Q (.bl false) H')
end

abbrev kv5 (a b c d e : Addr) : List (Key × V) := [(Sum.inr "up", .ref a), (Sum.inr "size", .ref b), (Sum.inr "till", .ref c), (Sum.inr "of", .ref d), (Sum.inr "crown", .ref e)]
abbrev kv6 (a b c d e l : Addr) : List (Key × V) := [(Sum.inr "up", .ref a), (Sum.inr "size", .ref b), (Sum.inr "till", .ref c), (Sum.inr "of", .ref d), (Sum.inr "crown", .ref e), (Sum.inr "log", .ref l)]
theorem merge5 (a b c d e : Addr) : mergeK [] (kv5 a b c d e) = kv5 a b c d e := by
  have n (x y : Str) (h : (decide (x = y)) = false) : (decide ((Sum.inr x : Key) = Sum.inr y)) = false := decide_eq_false (key_ne x y h)
  simp only [kv5, mergeK, List.foldl_cons, List.foldl_nil, putK, List.any_nil, List.any_cons, List.nil_append, List.cons_append, Bool.or_false, n "up" "size" (by decide +kernel), n "up" "till" (by decide +kernel), n "size" "till" (by decide +kernel), n "up" "of" (by decide +kernel), n "size" "of" (by decide +kernel), n "till" "of" (by decide +kernel), n "up" "crown" (by decide +kernel), n "size" "crown" (by decide +kernel), n "till" "crown" (by decide +kernel), n "of" "crown" (by decide +kernel), Bool.false_eq_true, if_false]
theorem put5 (a b c d e l : Addr) : putK (kv5 a b c d e) (Sum.inr "log") (.ref l) = kv6 a b c d e l := by
  have n (x y : Str) (h : (decide (x = y)) = false) : (decide ((Sum.inr x : Key) = Sum.inr y)) = false := decide_eq_false (key_ne x y h)
  simp only [kv5, kv6, putK, List.any_nil, List.any_cons, List.nil_append, List.cons_append, Bool.or_false, n "up" "log" (by decide +kernel), n "size" "log" (by decide +kernel), n "till" "log" (by decide +kernel), n "of" "log" (by decide +kernel), n "crown" "log" (by decide +kernel), Bool.false_eq_true, if_false]
theorem put6 (a b c d e l m : Addr) : putK (kv6 a b c d e l) (Sum.inr "reign") (.int 0) = mkv ⟨m, a, b, c, d, e, l⟩ 0 := by
  have n (x y : Str) (h : (decide (x = y)) = false) : (decide ((Sum.inr x : Key) = Sum.inr y)) = false := decide_eq_false (key_ne x y h)
  simp only [kv6, putK, mkv, List.any_nil, List.any_cons, List.nil_append, List.cons_append, Bool.or_false, n "up" "reign" (by decide +kernel), n "size" "reign" (by decide +kernel), n "till" "reign" (by decide +kernel), n "of" "reign" (by decide +kernel), n "crown" "reign" (by decide +kernel), n "log" "reign" (by decide +kernel), Bool.false_eq_true, if_false]
section
variable (K : PySem.W.Frag) (CG : Addr)
end
theorem upd_lvM {H : Hp} {a b : Addr} {o : HO} (h : upd H a o b = none) : H b = none := by
  rw [upd_app] at h
  by_cases e : b = a
  · rw [if_pos e] at h; cases h
  · rw [if_neg e] at h; exact h
theorem ixj' {k j : Nat} (h : j < k) : ixN k (j : Int) = some j := by
  unfold ixN
  rw [if_pos (by omega), if_pos (by omega)]
  simp

theorem atI_map0 {ms : List MS} {i : Nat} {s : MS} (f : MS → V) (h : ms[i]? = some s) : atI (ms.map f) (0 + (i : Int)) = some (f s) := by rw [Int.zero_add]; exact atI_map f h
def hasCr (s : MS) : Bool := s.up && s.rt.isSome
theorem heads_eq {g gm : GS} (c : Clk g gm) : ((List.range gm.ms.length).filter (atG hasCr gm)).filter (atG mayR gm) = pickG mayR gm := by
  unfold pickG
  rw [List.filter_filter]
  refine List.filter_congr fun i hi => ?_
  obtain ⟨s, hs⟩ := getM (List.mem_range.mp hi)
  rw [atG_of hs, atG_of hs]
  cases e : mayR s with
  | false => rfl
  | true =>
    have r : s.rt.isSome = true := by
      unfold mayR at e
      cases c2 : s.rt with
      | none => rw [c2] at e; cases e
      | some m => rfl
    have u := c.up s (List.mem_of_getElem? hs) r
    unfold hasCr
    rw [r, u]
    rfl
theorem take_filter' {α : Type} {l : List α} {i : Nat} {a : α} {p : α → Bool} (h : l[i]? = some a) : (l.take (i + 1)).filter p = (l.take i).filter p ++ (if p a = true then [a] else []) := by
  rw [List.take_add_one, List.filter_append, h]
  show _ ++ List.filter p [a] = _
  cases e : p a with
  | true => rw [List.filter_cons, if_pos e]; rfl
  | false => rw [List.filter_cons, if_neg (by rw [e]; decide)]; rfl
theorem take_fmap {α β : Type} {l : List α} {i : Nat} {a : α} {f : α → Option β} (h : l[i]? = some a) : (l.take (i + 1)).filterMap f = (l.take i).filterMap f ++ (match f a with | none => [] | some b => [b]) := by
  rw [List.take_add_one, List.filterMap_append, h]
  show _ ++ List.filterMap f [a] = _
  cases e : f a with
  | none => rw [List.filterMap_cons, e]; rfl
  | some b => rw [List.filterMap_cons, e]; rfl
theorem short5 {g : GS} {p : Nat → Bool} (i : Nat) (h : g.ms.length ≤ 5) : (((List.range g.ms.length).take i).filter p).length ≤ 5 := by
  have := List.length_filter_le p ((List.range g.ms.length).take i)
  have := List.length_take_le' i (List.range g.ms.length)
  rw [List.length_range] at this
  omega
theorem lt_line5 {n : Nat} (h : n ≤ 5) : n < sizeLine := Nat.lt_of_lt_of_le (show _ < 100 by omega) (by decide)
theorem map_set_at {α : Type} {ms : List MS} {i : Nat} {s s' : MS} (f : MS → α) (hs : ms[i]? = some s) : (ms.set i s').map f = (ms.map f).set i (f s') := List.map_set ..
theorem prom_same {α : Type} {f : MS → α} (ms : List MS) (is : List Nat) (t r : Int) (h : ∀ s : MS, f { s with pr := some t, pin := r } = f s) : (promL ms is t r).map f = ms.map f := by
  apply List.ext_getElem?
  intro j
  unfold promL
  rw [List.getElem?_map, List.getElem?_map, List.getElem?_mapIdx]
  cases ms[j]? with
  | none => rfl
  | some s =>
    show some (f (if j ∈ is then { s with pr := some t, pin := r } else s)) = some (f s)
    by_cases c : j ∈ is
    · rw [if_pos c, h]
    · rw [if_neg c]
theorem prom_set {α : Type} {f : MS → α} {ms : List MS} {i : Nat} {s s' : MS} (is : List Nat) (t r : Int) (hs : ms[i]? = some s) (h0 : f s' = f s) (h1 : f { s' with pr := some t, pin := r } = f { s with pr := some t, pin := r }) : (promL (ms.set i s') is t r).map f = (promL ms is t r).map f := by
  have il := (List.getElem?_eq_some_iff.mp hs).1
  apply List.ext_getElem?
  intro j
  unfold promL
  rw [List.getElem?_map, List.getElem?_map, List.getElem?_mapIdx, List.getElem?_mapIdx, List.getElem?_set]
  by_cases c : i = j
  · subst c
    rw [if_pos rfl, if_pos il, hs]
    show some (f (if i ∈ is then { s' with pr := some t, pin := r } else s')) = some (f (if i ∈ is then { s with pr := some t, pin := r } else s))
    by_cases c2 : i ∈ is
    · rw [if_pos c2, if_pos c2, h1]
    · rw [if_neg c2, if_neg c2, h0]
  · rw [if_neg c]
theorem MdAt.cho {K : PySem.W.Frag} {H : Hp} {M : MA} {g : GS} {i : Nat} {s : MS} {mh till : Int} {ls : List V} (hs : g.ms[i]? = some s) (h : MdL K H M (g.rg + 1) (g.ms.map fun s => V.bl s.up) ((g.ms.map fun s => V.int s.has).set i (.int mh)) ((promL g.ms (pickG canP g) till (g.rg + 1)).map fun s => oV s.pr) ((promL g.ms (pickG canP g) till (g.rg + 1)).map fun s => V.int s.pin) ((g.ms.map fun s => oV s.rt).set i (.int till)) ls g.ds) : MdAt K H M (choG g i s mh till) := by
  refine ⟨ls, ?_⟩
  show MdL K H M (g.rg + 1) ((promL (g.ms.set i { s with has := mh, rt := some till }) (pickG canP g) till (g.rg + 1)).map fun s => V.bl s.up) ((promL (g.ms.set i { s with has := mh, rt := some till }) (pickG canP g) till (g.rg + 1)).map fun s => V.int s.has) ((promL (g.ms.set i { s with has := mh, rt := some till }) (pickG canP g) till (g.rg + 1)).map fun s => oV s.pr) ((promL (g.ms.set i { s with has := mh, rt := some till }) (pickG canP g) till (g.rg + 1)).map fun s => V.int s.pin) ((promL (g.ms.set i { s with has := mh, rt := some till }) (pickG canP g) till (g.rg + 1)).map fun s => oV s.rt) ls g.ds
  rw [prom_same (f := fun s => V.bl s.up) _ _ _ _ (fun _ => rfl), prom_same (f := fun s => V.int s.has) _ _ _ _ (fun _ => rfl), prom_same (f := fun s => oV s.rt) _ _ _ _ (fun _ => rfl), prom_set (f := fun s => oV s.pr) (s := s) (s' := { s with has := mh, rt := some till }) _ _ _ hs rfl rfl, prom_set (f := fun s => V.int s.pin) (s := s) (s' := { s with has := mh, rt := some till }) _ _ _ hs rfl rfl, map_same (f := fun s => V.bl s.up) (s := s) (s' := { s with has := mh, rt := some till }) hs rfl, List.map_set, List.map_set]
  exact h
theorem MdAt.ren {K : PySem.W.Frag} {H : Hp} {M : MA} {g : GS} {i : Nat} {s : MS} {till : Int} {ls : List V} (hs : g.ms[i]? = some s) (h : MdL K H M g.rg (g.ms.map fun s => V.bl s.up) (g.ms.map fun s => V.int s.has) ((promL g.ms (pickG (mayN g) g) till g.rg).map fun s => oV s.pr) ((promL g.ms (pickG (mayN g) g) till g.rg).map fun s => V.int s.pin) ((g.ms.map fun s => oV s.rt).set i (.int till)) ls g.ds) : MdAt K H M (renG g i s till) := by
  refine ⟨ls, ?_⟩
  show MdL K H M g.rg ((promL (g.ms.set i { s with rt := some till }) (pickG (mayN g) g) till g.rg).map fun s => V.bl s.up) ((promL (g.ms.set i { s with rt := some till }) (pickG (mayN g) g) till g.rg).map fun s => V.int s.has) ((promL (g.ms.set i { s with rt := some till }) (pickG (mayN g) g) till g.rg).map fun s => oV s.pr) ((promL (g.ms.set i { s with rt := some till }) (pickG (mayN g) g) till g.rg).map fun s => V.int s.pin) ((promL (g.ms.set i { s with rt := some till }) (pickG (mayN g) g) till g.rg).map fun s => oV s.rt) ls g.ds
  rw [prom_same (f := fun s => V.bl s.up) _ _ _ _ (fun _ => rfl), prom_same (f := fun s => V.int s.has) _ _ _ _ (fun _ => rfl), prom_same (f := fun s => oV s.rt) _ _ _ _ (fun _ => rfl), prom_set (f := fun s => oV s.pr) (s := s) (s' := { s with rt := some till }) _ _ _ hs rfl rfl, prom_set (f := fun s => V.int s.pin) (s := s) (s' := { s with rt := some till }) _ _ _ hs rfl rfl, map_same (f := fun s => V.bl s.up) (s := s) (s' := { s with rt := some till }) hs rfl, map_same (f := fun s => V.int s.has) (s := s) (s' := { s with rt := some till }) hs rfl, List.map_set]
  exact h
/-- the greatest of -1 and what was promised is the greatest, -1 where none was -/
theorem floor_max {g gm : GS} {is : List Nat} {m : Int} (c : Clk g gm) (hne : is ≠ []) (hm : m ∈ -1 :: is.filterMap (prO gm)) (mx : ∀ k ∈ -1 :: is.filterMap (prO gm), k ≤ m) : IsMax (prG gm) is m := by
  have e3 : ∀ k, prG gm k = (prO gm k).getD (-1) := fun k => by
    unfold prG prO
    cases gm.ms[k]? <;> rfl
  have lo : ∀ k p, prO gm k = some p → -1 ≤ p := fun k p e => by
    unfold prO at e
    cases h : gm.ms[k]? with
    | none => rw [h] at e; cases e
    | some s => rw [h] at e; exact c.p0 s (List.mem_of_getElem? h) p e
  have le : ∀ k ∈ is, prG gm k ≤ m := fun k hk => by
    rw [e3]
    cases e : prO gm k with
    | none => exact mx (-1) (List.mem_cons_self ..)
    | some p => exact mx p (List.mem_cons_of_mem _ (List.mem_filterMap.mpr ⟨k, hk, e⟩))
  refine ⟨?_, le⟩
  rcases List.mem_cons.mp hm with rfl | h
  · obtain ⟨k, hk⟩ := List.exists_mem_of_ne_nil is hne
    refine ⟨k, hk, ?_⟩
    have := le k hk
    have e := e3 k
    cases e2 : prO gm k with
    | none => rw [e, e2]; rfl
    | some p =>
      have := lo k p e2
      rw [e2] at e
      have e : prG gm k = p := e
      omega
  · obtain ⟨k, hk, e⟩ := List.mem_filterMap.mp h
    exact ⟨k, hk, by rw [e3, e]; rfl⟩
theorem nats_ints (ns : List Nat) : ns.map nV = (ns.map fun n : Nat => (n : Int)).map V.int := by rw [List.map_map]; rfl
def natsD (ns : List Nat) : PyData := .list ((ns.map fun n : Nat => (n : Int)).map .int)
theorem dpall_intsM {K : PySem.W.Frag} {H : Hp} : ∀ (ns : List Int), DpAll K H (ns.map V.int) (ns.map PyData.int)
  | [] => .nil
  | _ :: r => .cons (.int _) (dpall_intsM r)
theorem natsD_at {K : PySem.W.Frag} {H : Hp} {p : Addr} {ns : List Nat} (h : H p = some (.lst (ns.map nV))) : Dp K H (.ref p) (natsD ns) := .lst (SqL.of (by rw [h, nats_ints])) (dpall_intsM _)
theorem natsD_shaped (ns : List Nat) : SeqAt.shaped (natsD ns) = true := PySem.W.shaped_ints _
theorem shaped_rf {d : PyData} (h : SeqAt.shaped d = true) : PyData.eqv d d = true := SeqAt.eqv_refl _ (by
  unfold SeqAt.shaped at h
  rw [Bool.and_eq_true] at h
  exact h.1)
theorem natsD_nil (ns : List Nat) : PyData.eqv (natsD ns) (.list []) = decide (ns = []) := by
  cases ns with
  | nil => rw [decide_eq_true rfl]; exact shaped_rf (natsD_shaped [])
  | cons a r => rw [decide_eq_false (by intro z; cases z)]; rfl

theorem ok_l_group {P : Program} {w : World} {K : PySem.W.Frag} {mg : Str → Option Value} {base : Heap} {a : Nat → Addr} {d : Nat → FuncData} (T : Txt K mg a d) : FnOk P w K mg base CX0 1 (a 47) (d 47) ["_law_many"] (spMGroup K) := by
  refine T.F_l_group.ok sc_l_group (fun vs H Q E h => ?_) (fun cdv A outer s0 H vs Q E hr h => ?_)
  · obtain ⟨n, rfl, hn, q⟩ := h
    rfl
  · obtain ⟨n, rfl, hn, q⟩ := h
    refine ⟨_, (pss_cons (ps_set (i := 1) sc_l_group.nd rfl (Or.inl rfl) (pe_disp (pps_cons pe_str (pe_op op_rep (pe_lst (pa_cons pe_bl pa_nil)) (pv 0)) (pps_cons pe_str (pe_op op_rep (pe_lst (pa_cons pe_int pa_nil)) (pv 0)) (pps_cons pe_str (pe_op op_rep (pe_lst (pa_cons pe_non pa_nil)) (pv 0)) (pps_cons pe_str (pe_op op_rep (pe_lst (pa_cons pe_int pa_nil)) (pv 0)) (pps_cons pe_str (pe_op op_rep (pe_lst (pa_cons pe_non pa_nil)) (pv 0)) pps_nil))))) (by rfl) (by rfl) (fun z => by cases z) (by decide))) (pss_cons (ps_dput (hu_of hr) (pv 1) pe_str (pe_lst pa_nil) rfl) (pss_cons (ps_dput (hu_of hr) (pv 1) pe_str pe_int rfl) (pss_one (ps_ret (pv 1)))))), ?_⟩
    refine fun M0 nM0 => ?_
    have s0 : Same H (upd H M0 (.dK [])) := same_new (Same.refl H) nM0
    have h0 : (upd H M0 (.dK [])) M0 = some (.dK []) := upd_same
    generalize (upd H M0 (.dK [])) = H0 at s0 h0 ⊢
    refine ⟨len1, fun tu ntu => ?_⟩
    have S1 : Same H0 (upd H0 tu (.lst [.bl true])) := same_new (Same.refl H0) ntu
    have htu : (upd H0 tu (.lst [.bl true])) tu = some (.lst [.bl true]) := upd_same
    generalize (upd H0 tu (.lst [.bl true])) = H1 at S1 htu ⊢
    refine ⟨_, rfl, tu, (n : Int), _, rfl, rfl, htu, by omega, by omega, Nat.le_trans (show _ ≤ 5 by simpa using hn) (by decide), fun pu npu => ?_⟩
    rw [show (n : Int).toNat = n from Int.toNat_natCast n, rep_flat]
    have S2 : Same H1 (upd H1 pu (.lst (List.replicate n (.bl true)))) := same_new (Same.refl H1) npu
    have hpu : (upd H1 pu (.lst (List.replicate n (.bl true)))) pu = some (.lst (List.replicate n (.bl true))) := upd_same
    generalize (upd H1 pu (.lst (List.replicate n (.bl true)))) = H2 at S2 hpu ⊢
    have fpu : H0 pu = none := S1.free npu
    refine ⟨len1, fun tz ntz => ?_⟩
    have S3 : Same H2 (upd H2 tz (.lst [.int 0])) := same_new (Same.refl H2) ntz
    have htz : (upd H2 tz (.lst [.int 0])) tz = some (.lst [.int 0]) := upd_same
    generalize (upd H2 tz (.lst [.int 0])) = H3 at S3 htz ⊢
    refine ⟨_, rfl, tz, (n : Int), _, rfl, rfl, htz, by omega, by omega, Nat.le_trans (show _ ≤ 5 by simpa using hn) (by decide), fun pz npz => ?_⟩
    rw [show (n : Int).toNat = n from Int.toNat_natCast n, rep_flat]
    have S4 : Same H3 (upd H3 pz (.lst (List.replicate n (.int 0)))) := same_new (Same.refl H3) npz
    have hpz : (upd H3 pz (.lst (List.replicate n (.int 0)))) pz = some (.lst (List.replicate n (.int 0))) := upd_same
    generalize (upd H3 pz (.lst (List.replicate n (.int 0)))) = H4 at S4 hpz ⊢
    have fpz : H2 pz = none := S3.free npz
    refine ⟨len1, fun tt ntt => ?_⟩
    have S5 : Same H4 (upd H4 tt (.lst [.non])) := same_new (Same.refl H4) ntt
    have htt : (upd H4 tt (.lst [.non])) tt = some (.lst [.non]) := upd_same
    generalize (upd H4 tt (.lst [.non])) = H5 at S5 htt ⊢
    refine ⟨_, rfl, tt, (n : Int), _, rfl, rfl, htt, by omega, by omega, Nat.le_trans (show _ ≤ 5 by simpa using hn) (by decide), fun pt npt => ?_⟩
    rw [show (n : Int).toNat = n from Int.toNat_natCast n, rep_flat]
    have S6 : Same H5 (upd H5 pt (.lst (List.replicate n (.non)))) := same_new (Same.refl H5) npt
    have hpt : (upd H5 pt (.lst (List.replicate n (.non)))) pt = some (.lst (List.replicate n (.non))) := upd_same
    generalize (upd H5 pt (.lst (List.replicate n (.non)))) = H6 at S6 hpt ⊢
    have fpt : H4 pt = none := S5.free npt
    refine ⟨len1, fun to nto => ?_⟩
    have S7 : Same H6 (upd H6 to (.lst [.int 0])) := same_new (Same.refl H6) nto
    have hto : (upd H6 to (.lst [.int 0])) to = some (.lst [.int 0]) := upd_same
    generalize (upd H6 to (.lst [.int 0])) = H7 at S7 hto ⊢
    refine ⟨_, rfl, to, (n : Int), _, rfl, rfl, hto, by omega, by omega, Nat.le_trans (show _ ≤ 5 by simpa using hn) (by decide), fun po npo => ?_⟩
    rw [show (n : Int).toNat = n from Int.toNat_natCast n, rep_flat]
    have S8 : Same H7 (upd H7 po (.lst (List.replicate n (.int 0)))) := same_new (Same.refl H7) npo
    have hpo : (upd H7 po (.lst (List.replicate n (.int 0)))) po = some (.lst (List.replicate n (.int 0))) := upd_same
    generalize (upd H7 po (.lst (List.replicate n (.int 0)))) = H8 at S8 hpo ⊢
    have fpo : H6 po = none := S7.free npo
    refine ⟨len1, fun tc ntc => ?_⟩
    have S9 : Same H8 (upd H8 tc (.lst [.non])) := same_new (Same.refl H8) ntc
    have htc : (upd H8 tc (.lst [.non])) tc = some (.lst [.non]) := upd_same
    generalize (upd H8 tc (.lst [.non])) = H9 at S9 htc ⊢
    refine ⟨_, rfl, tc, (n : Int), _, rfl, rfl, htc, by omega, by omega, Nat.le_trans (show _ ≤ 5 by simpa using hn) (by decide), fun pc npc => ?_⟩
    rw [show (n : Int).toNat = n from Int.toNat_natCast n, rep_flat]
    have S10 : Same H9 (upd H9 pc (.lst (List.replicate n (.non)))) := same_new (Same.refl H9) npc
    have hpc : (upd H9 pc (.lst (List.replicate n (.non)))) pc = some (.lst (List.replicate n (.non))) := upd_same
    generalize (upd H9 pc (.lst (List.replicate n (.non)))) = H10 at S10 hpc ⊢
    have fpc : H8 pc = none := S9.free npc
    have gpu : H10 pu = some (.lst (List.replicate n (.bl true))) := (((((((S3.trans S4).trans S5).trans S6).trans S7).trans S8).trans S9).trans S10) _ _ hpu
    have gpz : H10 pz = some (.lst (List.replicate n (.int 0))) := (((((S5.trans S6).trans S7).trans S8).trans S9).trans S10) _ _ hpz
    have gpt : H10 pt = some (.lst (List.replicate n (.non))) := (((S7.trans S8).trans S9).trans S10) _ _ hpt
    have gpo : H10 po = some (.lst (List.replicate n (.int 0))) := (S9.trans S10) _ _ hpo
    have gpc : H10 pc = some (.lst (List.replicate n (.non))) := hpc
    have n_uz : pu ≠ pz := ne_of_none (S3 _ _ hpu) npz
    have n_ut : pu ≠ pt := ne_of_none (((S3.trans S4).trans S5) _ _ hpu) npt
    have n_uo : pu ≠ po := ne_of_none (((((S3.trans S4).trans S5).trans S6).trans S7) _ _ hpu) npo
    have n_uc : pu ≠ pc := ne_of_none (((((((S3.trans S4).trans S5).trans S6).trans S7).trans S8).trans S9) _ _ hpu) npc
    have n_zt : pz ≠ pt := ne_of_none (S5 _ _ hpz) npt
    have n_zo : pz ≠ po := ne_of_none (((S5.trans S6).trans S7) _ _ hpz) npo
    have n_zc : pz ≠ pc := ne_of_none (((((S5.trans S6).trans S7).trans S8).trans S9) _ _ hpz) npc
    have n_to : pt ≠ po := ne_of_none (S7 _ _ hpt) npo
    have n_tc : pt ≠ pc := ne_of_none (((S7.trans S8).trans S9) _ _ hpt) npc
    have n_oc : po ≠ pc := ne_of_none (S9 _ _ hpo) npc
    have g0 : H10 M0 = some (.dK []) := (((((((((S1.trans S2).trans S3).trans S4).trans S5).trans S6).trans S7).trans S8).trans S9).trans S10) _ _ h0
    have F10 : Same H H10 := s0.trans (((((((((S1.trans S2).trans S3).trans S4).trans S5).trans S6).trans S7).trans S8).trans S9).trans S10)
    refine ⟨g0, kv5 pu pz pt po pc, rfl, (by show 5 ≤ 15; decide), ?_⟩
    rw [merge5]
    have nm : ∀ {q : Addr} {xs : List V}, H10 q = some (.lst xs) → q ≠ M0 := fun z => ne_of z g0 (by intro y; cases y)
    have s11 : ∀ (kv : List (Key × V)) (b : Addr) (o : HO), b ≠ M0 → H10 b = some o → (upd H10 M0 (.dK kv)) b = some o := fun kv b o nb e => by rw [upd_ne nb]; exact e
    refine ⟨Nat.zero_le _, fun pl npl => ?_⟩
    have npl0 : H10 pl = none := upd_lvM npl
    have plM : pl ≠ M0 := fun z => by rw [z, upd_same] at npl; cases npl
    refine ⟨_, rfl, M0, _, rfl, DPut.k (k := Sum.inr "log") (kvs := (kv5 pu pz pt po pc)) (by rw [upd_ne plM.symm]; exact upd_same) (by show 5 < sizeLine; exact lt_line5 (by decide)), ?_⟩
    refine ⟨_, rfl, M0, _, rfl, DPut.k (k := Sum.inr "reign") upd_same (by rw [put5]; show 6 < sizeLine; exact Nat.lt_of_lt_of_le (show 6 < 100 by decide) (by decide)), ?_⟩
    rw [put5, put6 pu pz pt po pc pl]
    have fr0 : ∀ q, H10 q = none ∨ True → True := fun _ _ => trivial
    generalize hU : (upd (upd (upd (upd H10 M0 (.dK (kv5 pu pz pt po pc))) pl (.lst [])) M0 (.dK (kv6 pu pz pt po pc pl))) M0 (.dK (mkv ⟨M0, pu, pz, pt, po, pc, pl⟩ 0))) = HU
    have gU : ∀ (b : Addr), b ≠ M0 → b ≠ pl → HU b = H10 b := fun b b1 b2 => by rw [← hU, upd_ne b1, upd_ne b1, upd_ne b2, upd_ne b1]
    have gM : HU M0 = some (.dK (mkv ⟨M0, pu, pz, pt, po, pc, pl⟩ 0)) := by rw [← hU]; exact upd_same
    have gL : HU pl = some (.lst []) := by rw [← hU, upd_ne plM, upd_ne plM]; exact upd_same
    have nl : ∀ {q : Addr} {xs : List V}, H10 q = some (.lst xs) → q ≠ pl := fun z => ne_of_none z npl0
    have up : ∀ {q : Addr} {xs : List V}, H10 q = some (.lst xs) → HU q = some (.lst xs) := fun z => by rw [gU _ (nm z) (nl z)]; exact z
    refine ⟨_, rfl, q ⟨M0, pu, pz, pt, po, pc, pl⟩ HU (fun c hc => ?_) (fun c o e => ?_) fun le ch ln lo => ⟨[], ?_⟩⟩
    · simp only [MA.all, MA.ls, List.mem_cons, List.not_mem_nil, or_false] at hc
      rcases hc with rfl | rfl | rfl | rfl | rfl | rfl | rfl
      · exact nM0
      · exact s0.free (fpu)
      · exact s0.free ((S1.trans S2).free fpz)
      · exact s0.free ((((S1.trans S2).trans S3).trans S4).free fpt)
      · exact s0.free ((((((S1.trans S2).trans S3).trans S4).trans S5).trans S6).free fpo)
      · exact s0.free ((((((((S1.trans S2).trans S3).trans S4).trans S5).trans S6).trans S7).trans S8).free fpc)
      · exact F10.free npl0
    · have z := F10 _ _ e
      rw [gU _ (ne_of_none e nM0) (ne_of_none z npl0)]
      exact z
    · refine ⟨gM, ?_, ?_, ?_, ?_, ?_, gL, .nil, (fun d hd => by cases hd), ?_⟩
      · show HU pu = some (.lst ((List.replicate n MS.new).map _)); rw [rep_map]; exact up gpu
      · show HU pz = some (.lst ((List.replicate n MS.new).map _)); rw [rep_map]; exact up gpz
      · show HU pt = some (.lst ((List.replicate n MS.new).map _)); rw [rep_map]; exact up gpt
      · show HU po = some (.lst ((List.replicate n MS.new).map _)); rw [rep_map]; exact up gpo
      · show HU pc = some (.lst ((List.replicate n MS.new).map _)); rw [rep_map]; exact up gpc
      · show [pu, pz, pt, po, pc, pl].Nodup
        simp only [List.nodup_cons, List.mem_cons, List.not_mem_nil, or_false, not_or]
        exact ⟨⟨n_uz, n_ut, n_uo, n_uc, nl gpu⟩, ⟨n_zt, n_zo, n_zc, nl gpz⟩, ⟨n_to, n_tc, nl gpt⟩, ⟨n_oc, nl gpo⟩, nl gpc, id, List.nodup_nil⟩

theorem ok_l_bounds {P : Program} {w : World} {K : PySem.W.Frag} {mg : Str → Option Value} {base : Heap} {a : Nat → Addr} {d : Nat → FuncData} (T : Txt K mg a d) : FnOk P w K mg base CX0 8 (a 48) (d 48) ["_law_group_here", "_law_spot"] (spMBounds K (a 61)) := by
  refine T.F_l_bounds.ok sc_l_bounds (fun vs H Q E h => ?_) (fun cdv A outer s0 H vs Q E hr h => ?_)
  · obtain ⟨x, A, g, i, u, z, rfl, hg, hu, hz, q⟩ := h
    rfl
  · obtain ⟨x, A, g, i, u, z, rfl, hg, hu, hz, q⟩ := h
    obtain ⟨dx, hx⟩ := hg.at_
    refine ⟨_, (pss_one (ps_ret (pe_meth0 (pe_meth (pv 0) T.cl T.m_Copies_clock (ok_Copies_clock T) (hr.mono (by decide)) T.b_Copies_clock .nil pass0 (pa_cons (pv 1) pa_nil)) T.cl_Clock T.m_Clock_bounds (ok_Clock_bounds T) (hr.mono (by decide)) T.b_Clock_bounds .nil pass0))), ?_⟩
    refine ⟨_, rfl, x, dx, _, rfl, hx, gf_no _ _ (by decide +kernel) (by decide +kernel) (by decide +kernel) (by decide +kernel) (by decide +kernel) (by decide +kernel) (by decide +kernel) (by decide +kernel) (by decide +kernel) (by decide +kernel) (by decide +kernel) (by decide +kernel) (by decide +kernel) (by decide +kernel) (by decide +kernel), _, rfl, x, A, 1, 10, g, i, u, rfl, hg, hu, fun c H1 nc sc kc => ?_⟩
    rw [hz] at kc
    obtain ⟨⟨dc, vc, hc, _⟩, _, _⟩ := id kc
    refine ⟨c, dc, _, rfl, hc, cf_no _ _ _ (by decide +kernel) (by decide +kernel) (by decide +kernel), c, A.dr, 1, 10, z.1, z.2, u.n, rfl, kc, fun p np => ?_⟩
    exact q p _ (sc.free np) (sc.trans (same_new (Same.refl _) np)) upd_same

theorem ok_l_heads {P : Program} {w : World} {K : PySem.W.Frag} {mg : Str → Option Value} {base : Heap} {a : Nat → Addr} {d : Nat → FuncData} (T : Txt K mg a d) : FnOk P w K mg base CX0 9 (a 49) (d 49) ["_law_model", "_law_group_here"] (spMHeads K (a 61)) := by
  refine T.F_l_heads.ok sc_l_heads (fun vs H Q E h => ?_) (fun cdv A outer s0 H vs Q E hr h => ?_)
  · obtain ⟨x, A, M, g, gm, rfl, hg, hm, ck, q⟩ := h
    rfl
  · obtain ⟨x, A, M, g, gm, rfl, hg, hm, ck, q⟩ := h
    obtain ⟨dx, hx⟩ := hg.at_
    obtain ⟨ls, hl⟩ := hm
    have n5 := hg.ls.n5
    have gl5 : gm.ms.length ≤ 5 := by rw [ck.len]; exact n5
    refine ⟨_, (pss_cons (ps_setLc (i := 2) (own := [("_law_spot", 3)]) (g := gName 3) (te := (tVar 3)) (tt := (tAnd (tTru K (tOp (rIxL K) (tDGet (tVar 0) (tC (.str "up"))) (tVar 3))) (tTest (tOp rNotN (tOp (rIxL K) (tDGet (tVar 0) (tC (.str "crown"))) (tVar 3)) (tC .non))))) (by rfl) sc_l_heads.nd rfl rfl (sw_true rfl rfl rfl (by decide +kernel)) (pi_range1 (by rfl) T.z_range (pa_cons (pe_callB call_len_seq (by rfl) T.z_len PySem.boot_len (pa_cons (pe_dget (hu_of hr) (pv 0) pe_str (fun _ _ => rfl)) pa_nil)) pa_nil)) (blkOk_by (own := [("_law_spot", 3)]) (N := ["_law_model", "_law_group_here", "_law_some", "_law_spot"]) (sc := defScope s_l_heads) (by decide +kernel)) (fun _ _ _ _ _ => (pg_name (i := 3) sc_l_heads.nd rfl (.inl rfl))) (fun _ _ _ _ _ => (pts_one (PW.pt (pw_and (pt_truth (pe_ix ix_list (pe_dget (hu_of hr) (pv 0) pe_str (fun _ _ => rfl)) (pv 3) (fun _ _ => rfl)) (by intro _; rfl)) (pw_and1 (pt_cmpR op_notN (pe_ix ix_list (pe_dget (hu_of hr) (pv 0) pe_str (fun _ _ => rfl)) (pv 3) (fun _ _ => rfl)) pe_non (nomark _))))))) (fun _ _ _ _ _ => (pv 3))) (pss_one (ps_ret (pe_lc (own := [("_law_spot", 3)]) (g := gName 3) (te := (tVar 3)) (tt := (tTest (tOp (rI0 fun i j => .bl (decide (i < j))) (tOp (rIxT K) (tCall (spMBounds K (a 61)) [] E0 (tCons (tVar 1) (tCons (tVar 3) tNil))) (tC (.int 1))) (tOp (rIxL K) (tDGet (tVar 0) (tC (.str "crown"))) (tVar 3))))) (by rfl) sc_l_heads.nd (pi_list (pv 2)) (blkOk_by (own := [("_law_spot", 3)]) (N := ["_law_model", "_law_group_here", "_law_some", "_law_spot"]) (sc := defScope s_l_heads) (by decide +kernel)) (fun _ _ _ _ _ => (pg_name (i := 3) sc_l_heads.nd rfl (.inl rfl))) (fun _ _ _ _ _ => (pts_one (pt_cmpR op_lt (pe_ix ix_tup (pe_call (ok_l_bounds T) (hr.mono (by decide)) (by rfl) T.g_l_bounds T.F_l_bounds.kp T.b_l_bounds .nil pass0 (pa_cons (pv 1) (pa_cons (pv 3) pa_nil))) pe_int (fun _ _ => rfl)) (pe_ix ix_list (pe_dget (hu_of hr) (pv 0) pe_str (fun _ _ => rfl)) (pv 3) (fun _ _ => rfl)) (nomark _)))) (fun _ _ _ _ _ => (pv 3)))))), ?_⟩
    refine ⟨_, rfl, M.m, .ref M.u, rfl, hl.gu, M.u, _, rfl, .inl (SqL.of hl.up), gm.ms.length, by rw [List.length_map], by omega, by omega, fun D nD => ?_⟩
    refine lc_range (lo := 0) (n := gm.ms.length) (fun i H' => Same H H' ∧ H' D = some (.lst ((((List.range gm.ms.length).take i).filter (atG hasCr gm)).map nV))) ⟨same_new (Same.refl H) nD, by rw [List.take_zero]; exact upd_same⟩ ?_ ?_
    · rintro i H1 hi ⟨s1, hD⟩
      obtain ⟨s, hs⟩ := getM hi
      have hl1 := hl.same s1
      have nxt := range_take gm.ms.length i (atG hasCr gm) hi
      rw [atG_of hs] at nxt
      have no : hasCr s = false → Same H H1 ∧ H1 D = some (.lst ((((List.range gm.ms.length).take (i + 1)).filter (atG hasCr gm)).map nV)) := fun c => ⟨s1, by rw [nxt, c, if_neg (by decide), List.append_nil]; exact hD⟩
      refine ⟨rfl, _, rfl, M.m, .ref M.u, rfl, hl1.gu, _, rfl, M.u, _, _, _, rfl, rfl, SqL.of hl1.up, atI_map0 _ hs, s.up, rfl, ?_⟩
      cases eu : s.up with
      | false => exact iteF (no (by unfold hasCr; rw [eu]; rfl))
      | true =>
        refine iteT ⟨_, rfl, M.m, .ref M.cr, rfl, hl1.gc, _, rfl, M.cr, _, _, _, rfl, rfl, SqL.of hl1.crown, atI_map0 _ hs, ?_⟩
        cases er : s.rt with
        | none => exact ⟨rfl, _, rfl, iteNDF rfl (no (by unfold hasCr; rw [eu, er]; rfl))⟩
        | some T =>
          refine ⟨rfl, _, rfl, iteND oV_ne ⟨_, rfl, _, hD, ?_, fun b' u e => ?_, ?_⟩⟩
          · rw [List.length_map]
            exact lt_line5 (short5 i gl5)
          · rw [upd_ne (ne_of_none e nD)]
            exact s1 _ _ e
          · rw [upd_same, nxt, if_pos (by unfold hasCr; rw [eu, er]; rfl), List.map_append, Int.zero_add]
            rfl
    rintro H1 ⟨s1, hD⟩
    have e : (List.range gm.ms.length).take gm.ms.length = List.range gm.ms.length := by rw [List.take_of_length_le (by rw [List.length_range]; exact Nat.le_refl _)]
    rw [e] at hD
    have hq := heads_eq ck
    have l1m : ∀ k ∈ (List.range gm.ms.length).filter (atG hasCr gm), k < gm.ms.length ∧ atG hasCr gm k = true := fun k hk => ⟨List.mem_range.mp (List.mem_filter.mp hk).1, (List.mem_filter.mp hk).2⟩
    have l15 : ((List.range gm.ms.length).filter (atG hasCr gm)).length ≤ 5 := by
      have z := short5 (p := atG hasCr gm) gm.ms.length gl5
      rw [e] at z
      exact z
    generalize (List.range gm.ms.length).filter (atG hasCr gm) = L1 at hD hq l1m l15
    refine ⟨_, rfl, D, rfl, ⟨_, SqL.of hD⟩, fun D2 nD2 => ?_⟩
    refine lc_it (walk_list (xs := L1.map nV)) (fun i H' => Same H1 H' ∧ H' D2 = some (.lst (((L1.take i).filter (atG mayR gm)).map nV))) ⟨same_new (Same.refl H1) nD2, by rw [List.take_zero]; exact upd_same⟩ (fun i H' _ z => SqL.of (z.1 _ _ hD)) ?_ ?_
    · rintro i xv H2 H2' hi ⟨s2, hD2⟩ ⟨rfl, e1⟩
      rw [List.getElem?_map] at e1
      obtain ⟨k, hk, rfl⟩ := Option.map_eq_some_iff.mp e1
      obtain ⟨kl, kc⟩ := l1m k (List.mem_of_getElem? hk)
      obtain ⟨s, hs⟩ := getM kl
      rw [atG_of hs] at kc
      obtain ⟨u, z, hu, hz, hsp⟩ := ck.at_ k s hs
      have S2 := s1.trans s2
      have nxt := take_filter' (p := atG mayR gm) hk
      rw [atG_of hs] at nxt
      obtain ⟨T, hT⟩ : ∃ T, s.rt = some T := by
        unfold hasCr at kc
        rw [Bool.and_eq_true] at kc
        exact Option.isSome_iff_exists.mp kc.2
      have em : mayR s = decide (z.2 + mostP u.n 1 10 < T) := by unfold mayR; rw [hT, hsp]
      refine ⟨rfl, _, rfl, _, rfl, x, A, g, k, u, z, rfl, hg.same S2, hu, hz, fun p H3 np s3 hp => ⟨p, _, 1, _, rfl, rfl, SqT.of hp, rfl, ?_⟩⟩
      have hl3 := hl.same (S2.trans s3)
      refine ⟨_, rfl, M.m, .ref M.cr, rfl, hl3.gc, _, rfl, M.cr, _, _, _, rfl, rfl, SqL.of hl3.crown, atI_map _ hs, _, T, rfl, (by rw [hT]; rfl), _, rfl, ?_⟩
      have hD3 := s3 _ _ hD2
      rw [← em]
      cases c : mayR s with
      | true =>
        refine iteT ⟨_, rfl, _, hD3, ?_, fun b' u' e => ?_, ?_⟩
        · rw [List.length_map]
          have := List.length_filter_le (atG mayR gm) (L1.take i)
          have := List.length_take_le' i L1
          exact lt_line5 (by omega)
        · rw [upd_ne (ne_of_none e nD2)]
          exact s3 _ _ (s2 _ _ e)
        · rw [upd_same, nxt, c, if_pos rfl, List.map_append]
          rfl
      | false =>
        refine iteF ⟨s2.trans s3, ?_⟩
        rw [nxt, c, if_neg (by decide), List.append_nil]
        exact hD3
    · rintro H2 ⟨s2, hD2⟩
      rw [List.length_map, List.take_length, hq] at hD2
      exact q D2 H2 (s1.free nD2) (s1.trans s2) hD2

theorem ok_l_is_free {P : Program} {w : World} {K : PySem.W.Frag} {mg : Str → Option Value} {base : Heap} {a : Nat → Addr} {d : Nat → FuncData} (T : Txt K mg a d) : FnOk P w K mg base CX0 9 (a 50) (d 50) ["_law_model", "_law_group_here", "_law_spot"] (spMFree K (a 61)) := by
  refine T.F_l_is_free.ok sc_l_is_free (fun vs H Q E h => ?_) (fun cdv A outer s0 H vs Q E hr h => ?_)
  · obtain ⟨x, A, M, g, gm, i, s, rfl, hg, hm, ck, hs, q⟩ := h
    rfl
  · obtain ⟨x, A, M, g, gm, i, s, rfl, hg, hm, ck, hs, q⟩ := h
    obtain ⟨dx, hx⟩ := hg.at_
    obtain ⟨ls, hl⟩ := hm
    have n5 := hg.ls.n5
    have gl5 : gm.ms.length ≤ 5 := by rw [ck.len]; exact n5
    refine ⟨_, (pss_cons (ps_if (pt_not (pt_truth (pe_ix ix_list (pe_dget (hu_of hr) (pv 0) pe_str (fun _ _ => rfl)) (pv 2) (fun _ _ => rfl)) (by intro _; rfl))) (pss_one (ps_ret pe_bl)) pss_nil) (pss_one (ps_ret (pe_or (pe_cmpR op_isN (pe_ix ix_list (pe_dget (hu_of hr) (pv 0) pe_str (fun _ _ => rfl)) (pv 2) (fun _ _ => rfl)) pe_non (nomark _)) (pe_one (pe_cmpR op_gt (pe_ix ix_tup (pe_call (ok_l_bounds T) (hr.mono (by decide)) (by rfl) T.g_l_bounds T.F_l_bounds.kp T.b_l_bounds .nil pass0 (pa_cons (pv 1) (pa_cons (pv 2) pa_nil))) pe_int (fun _ _ => rfl)) (pe_ix ix_list (pe_dget (hu_of hr) (pv 0) pe_str (fun _ _ => rfl)) (pv 2) (fun _ _ => rfl)) (nomark _))))))), ?_⟩
    refine ⟨_, rfl, M.m, .ref M.u, rfl, hl.gu, _, rfl, M.u, _, _, _, rfl, rfl, SqL.of hl.up, atI_map _ hs, s.up, rfl, ?_⟩
    obtain ⟨u, z, hu, hz, hsp⟩ := ck.at_ i s hs
    cases eu : s.up with
    | false =>
      refine iteT ?_
      have e : canP s = false := by unfold canP; rw [eu]; rfl
      rw [e] at q
      exact q H (Same.refl H)
    | true =>
      refine iteF ⟨_, rfl, M.m, .ref M.ti, rfl, hl.gt, _, rfl, M.ti, _, _, _, rfl, rfl, SqL.of hl.till, atI_map _ hs, ?_⟩
      cases ep : s.pr with
      | none =>
        have e : canP s = true := by unfold canP; rw [eu, hsp, ep]; rfl
        rw [e] at q
        exact ⟨rfl, _, rfl, iteDT rfl (q H (Same.refl H))⟩
      | some T =>
        have e : canP s = decide (T < z.1 + leastP u.n 1 10) := by unfold canP; rw [eu, hsp, ep]; rfl
        rw [e] at q
        refine ⟨rfl, _, rfl, iteDF oV_ne ?_⟩
        refine ⟨_, rfl, _, rfl, x, A, g, i, u, z, rfl, hg, hu, hz, fun p H3 np s3 hp => ⟨p, _, 0, _, rfl, rfl, SqT.of hp, rfl, ?_⟩⟩
        have hl3 := hl.same s3
        refine ⟨_, rfl, M.m, .ref M.ti, rfl, hl3.gt, _, rfl, M.ti, _, _, _, rfl, rfl, SqL.of hl3.till, atI_map _ hs, _, T, rfl, (by rw [ep]; rfl), ?_⟩
        exact q H3 s3

theorem ok_l_choose {P : Program} {w : World} {K : PySem.W.Frag} {mg : Str → Option Value} {base : Heap} {a : Nat → Addr} {d : Nat → FuncData} (T : Txt K mg a d) : FnOk P w K mg base CX0 10 (a 51) (d 51) ["_law_model", "_law_group_here", "_law_spot", "_law_span"] (spMChoose K (a 61)) := by
  refine T.F_l_choose.ok sc_l_choose (fun vs H Q E h => ?_) (fun cdv A outer s0 H vs Q E hr h => ?_)
  · obtain ⟨x, A, M, g, gm, i, s, rfl, hg, hm, ck, hs, nG, gf, q, qx⟩ := h
    rfl
  · obtain ⟨x, A, M, g, gm, i, s, rfl, hg, hm, ck, hs, nG, gf, q, qx⟩ := h
    obtain ⟨dx, hx⟩ := hg.at_
    obtain ⟨ls, hl⟩ := hm
    have n5 := hg.ls.n5
    have gl5 : gm.ms.length ≤ 5 := by rw [ck.len]; exact n5
    refine ⟨_, (pss_cons (ps_setLc (i := 4) (own := [("_law_one", 6)]) (g := gName 6) (te := (tVar 6)) (tt := (tTru K (tCall (spMFree K (a 61)) [] E0 (tCons (tVar 0) (tCons (tVar 1) (tCons (tVar 6) tNil)))))) (by rfl) sc_l_choose.nd rfl rfl (sw_true rfl rfl rfl (by decide +kernel)) (pi_range1 (by rfl) T.z_range (pa_cons (pe_callB call_len_seq (by rfl) T.z_len PySem.boot_len (pa_cons (pe_dget (hu_of hr) (pv 0) pe_str (fun _ _ => rfl)) pa_nil)) pa_nil)) (blkOk_by (own := [("_law_one", 6)]) (N := ["_law_model", "_law_group_here", "_law_spot", "_law_span", "_law_some", "_law_floor", "_law_one"]) (sc := defScope s_l_choose) (by decide +kernel)) (fun _ _ _ _ _ => (pg_name (i := 6) sc_l_choose.nd rfl (.inl rfl))) (fun _ _ _ _ _ => (pts_one (pt_truth (pe_call (ok_l_is_free T) (hr.mono (by decide)) (by rfl) T.g_l_is_free T.F_l_is_free.kp T.b_l_is_free .nil pass0 (pa_cons (pv 0) (pa_cons (pv 1) (pa_cons (pv 6) pa_nil)))) (by intro _; rfl)))) (fun _ _ _ _ _ => (pv 6))) (pss_cons (ps_if (PW.pt (pw_or (pt_cmpR op_notIn_seq (pv 2) (pv 4) (by rfl)) (pw_or1 (pt_cmpR op_le (pe_op op_mul pe_int (pe_callB call_len_seq (by rfl) T.z_len PySem.boot_len (pa_cons (pv 4) pa_nil))) (pe_callB call_len_seq (by rfl) T.z_len PySem.boot_len (pa_cons (pe_dget (hu_of hr) (pv 0) pe_str (fun _ _ => rfl)) pa_nil)) (nomark _))))) (pss_one (ps_ret pe_non)) pss_nil) (pss_cons (ps_set (i := 5) sc_l_choose.nd rfl (Or.inl rfl) (pe_callB (cr_max rfl) (by rfl) T.z_max (by decide +kernel) (pa_cons (pe_op op_cat (pe_lst (pa_cons (pe_un un_neg pe_int) pa_nil)) (pe_lc (own := [("_law_one", 6)]) (g := gName 6) (te := (tOp (rIxL K) (tDGet (tVar 0) (tC (.str "till"))) (tVar 6))) (tt := (tTest (tOp rNotN (tOp (rIxL K) (tDGet (tVar 0) (tC (.str "till"))) (tVar 6)) (tC .non)))) (by rfl) sc_l_choose.nd (pi_list (pv 4)) (blkOk_by (own := [("_law_one", 6)]) (N := ["_law_model", "_law_group_here", "_law_spot", "_law_span", "_law_some", "_law_floor", "_law_one"]) (sc := defScope s_l_choose) (by decide +kernel)) (fun _ _ _ _ _ => (pg_name (i := 6) sc_l_choose.nd rfl (.inl rfl))) (fun _ _ _ _ _ => (pts_one (pt_cmpR op_notN (pe_ix ix_list (pe_dget (hu_of hr) (pv 0) pe_str (fun _ _ => rfl)) (pv 6) (fun _ _ => rfl)) pe_non (nomark _)))) (fun _ _ _ _ _ => (pe_ix ix_list (pe_dget (hu_of hr) (pv 0) pe_str (fun _ _ => rfl)) (pv 6) (fun _ _ => rfl))))) pa_nil))) (pss_cons (ps_dput (hu_of hr) (pv 0) pe_str (pe_op op_add (pe_dget (hu_of hr) (pv 0) pe_str (fun _ _ => rfl)) pe_int) rfl) (pss_cons (ps_asg (pe_op op_add (pe_ix ix_tup (pe_call (ok_l_bounds T) (hr.mono (by decide)) (by rfl) T.g_l_bounds T.F_l_bounds.kp T.b_l_bounds .nil pass0 (pa_cons (pv 1) (pa_cons (pv 2) pa_nil))) pe_int (fun _ _ => rfl)) (pv 3)) (pg_sub (pe_dget (hu_of hr) (pv 0) pe_str (fun _ _ => rfl)) (pv 2) set_list)) (pss_cons (ps_for PassesOwn.never rfl (pi_list (pv 4)) (pg_name (i := 6) sc_l_choose.nd rfl (.inl rfl)) (pss_cons (ps_asg (pe_ix ix_list (pe_dget (hu_of hr) (pv 0) pe_str (fun _ _ => rfl)) (pv 2) (fun _ _ => rfl)) (pg_sub (pe_dget (hu_of hr) (pv 0) pe_str (fun _ _ => rfl)) (pv 6) set_list)) (pss_one (ps_asg (pe_dget (hu_of hr) (pv 0) pe_str (fun _ _ => rfl)) (pg_sub (pe_dget (hu_of hr) (pv 0) pe_str (fun _ _ => rfl)) (pv 6) set_list))))) (pss_cons (ps_asg (pe_callB (cr_max rfl) (by rfl) T.z_max (by decide +kernel) (pa_cons (pe_lc (own := [("_law_one", 6)]) (g := gName 6) (te := (tOp (rIxL K) (tDGet (tVar 0) (tC (.str "size"))) (tVar 6))) (by rfl) sc_l_choose.nd (pi_list (pv 4)) (blkOk_by (own := [("_law_one", 6)]) (N := ["_law_model", "_law_group_here", "_law_spot", "_law_span", "_law_some", "_law_floor", "_law_one"]) (sc := defScope s_l_choose) (by decide +kernel)) (fun _ _ _ _ _ => (pg_name (i := 6) sc_l_choose.nd rfl (.inl rfl))) (fun _ _ _ _ _ => pts_nil) (fun _ _ _ _ _ => (pe_ix ix_list (pe_dget (hu_of hr) (pv 0) pe_str (fun _ _ => rfl)) (pv 6) (fun _ _ => rfl)))) pa_nil)) (pg_sub (pe_dget (hu_of hr) (pv 0) pe_str (fun _ _ => rfl)) (pv 2) set_list)) (pss_one (ps_ret (pv 5)))))))))), ?_⟩
    refine ⟨_, rfl, M.m, .ref M.u, rfl, hl.gu, M.u, _, rfl, .inl (SqL.of hl.up), gm.ms.length, by rw [List.length_map], by omega, by omega, fun D nD => ?_⟩
    refine lc_range (lo := 0) (n := gm.ms.length) (fun i H' => Same H H' ∧ H' D = some (.lst ((((List.range gm.ms.length).take i).filter (atG canP gm)).map nV))) ⟨same_new (Same.refl H) nD, by rw [List.take_zero]; exact upd_same⟩ ?_ ?_
    · rintro j H1 hj ⟨s1, hD⟩
      obtain ⟨s', hs'⟩ := getM hj
      refine ⟨rfl, _, rfl, _, rfl, _, rfl, x, A, M, g, gm, j, s', (by rw [Int.zero_add]; rfl), hg.same s1, ⟨ls, hl.same s1⟩, ck, hs', fun H2 s2 => ⟨_, rfl, ?_⟩⟩
      have nxt := range_take gm.ms.length j (atG canP gm) hj
      rw [atG_of hs'] at nxt
      have hD2 := s2 _ _ hD
      cases c : canP s' with
      | true =>
        refine iteT ⟨_, rfl, _, hD2, ?_, fun b' u e => ?_, ?_⟩
        · rw [List.length_map]
          exact lt_line5 (short5 j gl5)
        · rw [upd_ne (ne_of_none e nD)]
          exact s2 _ _ (s1 _ _ e)
        · rw [upd_same, nxt, c, if_pos rfl, List.map_append, Int.zero_add]
          rfl
      | false =>
        refine iteF ⟨s1.trans s2, ?_⟩
        rw [nxt, c, if_neg (by decide), List.append_nil]
        exact hD2
    rintro H1 ⟨s1, hD⟩
    have e : (List.range gm.ms.length).take gm.ms.length = List.range gm.ms.length := by rw [List.take_of_length_le (by rw [List.length_range]; exact Nat.le_refl _)]
    rw [e] at hD
    have hD : H1 D = some (.lst ((pickG canP gm).map nV)) := hD
    have hl1 := hl.same s1
    have il := (List.getElem?_eq_some_iff.mp hs).1
    have h5 : (pickG canP gm).length ≤ 5 := Nat.le_trans is_len gl5
    refine ⟨_, rfl, _, rfl, D, _, rfl, .inl (SqL.of hD), rfl, nats_flat _, _, rfl, ?_⟩
    rw [in_nats, pick_mem il]
    unfold canC at q qx
    cases c1 : atG canP gm i with
    | false =>
      rw [c1] at qx
      exact iteT (qx rfl H1 s1)
    | true =>
      rw [c1] at q qx
      refine iteF ⟨_, rfl, D, _, rfl, .inl (SqL.of hD), 2, _, rfl, rfl, .inl (m64 (by omega) (by omega)), _, rfl, M.m, .ref M.u, rfl, hl1.gu, M.u, _, rfl, .inl (SqL.of hl1.up), _, _, rfl, rfl, _, rfl, ?_⟩
      rw [List.length_map, List.length_map]
      by_cases c2 : gm.ms.length < 2 * (pickG canP gm).length
      · rw [decide_eq_true c2] at q
        have q := q rfl
        refine iteDF (by omega) ?_
        have ii : i ∈ pickG canP gm := of_decide_eq_true ((pick_mem il).trans c1)
        have hne : pickG canP gm ≠ [] := fun z => by rw [z] at ii; cases ii
        obtain ⟨u, z, hu, hz, hsp⟩ := ck.at_ i s hs
        have sz : ∀ j, ((pickG canP gm).take j).length < sizeLine := fun j => lt_line5 (Nat.le_trans (List.length_take_le' ..) h5)
        refine ⟨1, rfl, len1, fun p1 np1 => ?_⟩
        have s2 : Same H1 (upd H1 p1 (.lst [.int (-1)])) := same_new (Same.refl H1) np1
        have hp1 : (upd H1 p1 (.lst [.int (-1)])) p1 = some (.lst [.int (-1)]) := upd_same
        generalize (upd H1 p1 (.lst [.int (-1)])) = H2 at s2 hp1 ⊢
        refine ⟨_, rfl, D, rfl, ⟨_, SqL.of (s2 _ _ hD)⟩, fun D2 nD2 => ?_⟩
        refine lc_it (walk_list (xs := (pickG canP gm).map nV)) (fun j H' => Same H2 H' ∧ H' D2 = some (.lst ((((pickG canP gm).take j).filterMap (prO gm)).map V.int))) ⟨same_new (Same.refl H2) nD2, by rw [List.take_zero]; exact upd_same⟩ (fun j H' _ y => SqL.of (y.1 _ _ (s2 _ _ hD))) ?_ ?_
        · rintro j xv H3 H3' hj ⟨s3, hD3⟩ ⟨rfl, e1⟩
          rw [List.getElem?_map] at e1
          obtain ⟨k, hk, rfl⟩ := Option.map_eq_some_iff.mp e1
          obtain ⟨sk, hsk⟩ := getM (is_lt k (List.mem_of_getElem? hk))
          have hl3 := hl1.same (s2.trans s3)
          have nxt := take_fmap (f := prO gm) hk
          have ep : prO gm k = sk.pr := by unfold prO; rw [hsk]; rfl
          rw [ep] at nxt
          refine ⟨rfl, _, rfl, M.m, .ref M.ti, rfl, hl3.gt, _, rfl, M.ti, _, _, _, rfl, rfl, SqL.of hl3.till, atI_map _ hsk, ?_⟩
          cases c3 : sk.pr with
          | none =>
            refine ⟨rfl, _, rfl, iteNDF rfl ⟨s3, ?_⟩⟩
            rw [nxt, c3, List.append_nil]
            exact hD3
          | some T =>
            refine ⟨rfl, _, rfl, iteND oV_ne ⟨_, rfl, M.m, .ref M.ti, rfl, hl3.gt, _, rfl, M.ti, _, _, _, rfl, rfl, SqL.of hl3.till, atI_map _ hsk, _, hD3, ?_, fun b' u' e => ?_, ?_⟩⟩
            · rw [List.length_map]
              have := List.length_filterMap_le (prO gm) ((pickG canP gm).take j)
              exact Nat.lt_of_le_of_lt this (sz j)
            · rw [upd_ne (ne_of_none e nD2)]
              exact s3 _ _ e
            · rw [upd_same, nxt, c3, List.map_append]
              rfl
        rintro H3 ⟨s3, hD3⟩
        rw [List.length_map, List.take_length] at hD3
        have vl : ((pickG canP gm).filterMap (prO gm)).length ≤ 5 := Nat.le_trans (List.length_filterMap_le ..) h5
        refine ⟨p1, D2, _, _, rfl, rfl, s3 _ _ hp1, hD3, (by rw [List.length_map]; exact Nat.le_trans (show _ ≤ 6 by simp; omega) (by decide)), fun p3 np3 => ?_⟩
        have s4 : Same H3 (upd H3 p3 (.lst ([V.int (-1)] ++ ((pickG canP gm).filterMap (prO gm)).map V.int))) := same_new (Same.refl H3) np3
        have hp3 : (upd H3 p3 (.lst ([V.int (-1)] ++ ((pickG canP gm).filterMap (prO gm)).map V.int))) p3 = some (.lst ((-1 :: (pickG canP gm).filterMap (prO gm)).map V.int)) := upd_same
        generalize (upd H3 p3 (.lst ([V.int (-1)] ++ ((pickG canP gm).filterMap (prO gm)).map V.int))) = H4 at s4 hp3 ⊢
        refine ⟨p3, -1 :: (pickG canP gm).filterMap (prO gm), rfl, SqL.of hp3, (by simp), fun m hm hmx => ?_⟩
        have hfl := floor_max ck hne hm hmx
        have S4 := s1.trans (s2.trans (s3.trans s4))
        have hD4 := s4 _ _ (s3 _ _ (s2 _ _ hD))
        have hl4 := hl.same S4
        have hg4 := hg.same S4
        have nDM : ¬ D ∈ M.all := fun y => by
          obtain ⟨o, eo, _⟩ := hl.mut D y
          rw [nD] at eo
          cases eo
        clear hl1 hp3 hp1 hD3
        -- the reign
        refine ⟨_, rfl, M.m, _, rfl, hl4.gr, gm.rg, 1, rfl, rfl, _, rfl, M.m, _, rfl, DPut.k (k := Sum.inr "reign") hl4.top (by show 7 < sizeLine; exact Nat.lt_of_lt_of_le (show 7 < 100 by decide) (by decide)), ?_⟩
        rw [mkv_reign]
        have hl5 := hl4.put_rg (gm.rg + 1)
        have n5' : Nx M.all H4 M.all (upd H4 M.m (.dK (mkv M (gm.rg + 1)))) := nx_put (by simp [MA.all])
        have hg5 := hg4.frS n5'.fr hl4.mut nG gf
        have hD5 := n5'.fr _ _ nDM hD4
        generalize (upd H4 M.m (.dK (mkv M (gm.rg + 1)))) = H5 at hl5 n5' hg5 hD5 ⊢
        -- the crown
        refine ⟨_, rfl, _, rfl, x, A, g, i, u, z, rfl, hg5, hu, hz, fun p H6 np s6 hp => ⟨p, _, 1, _, rfl, rfl, SqT.of hp, rfl, ?_⟩⟩
        refine ⟨_, rfl, _, _, rfl, rfl, ?_⟩
        have hl6 := hl5.same s6
        refine ⟨_, rfl, M.m, .ref M.cr, rfl, hl6.gc, _, rfl, M.cr, _, (i : Int), i, rfl, rfl, hl6.crown, ixj' (by rw [List.length_map]; exact il), ?_⟩
        have hl7 : MdL K (upd H6 M.cr (.lst ((gm.ms.map fun s => oV s.rt).set i ((fun i j => V.int (i + j)) (z.2 + mostP u.n 1 10) gm.le)))) M (gm.rg + 1) (gm.ms.map fun s => V.bl s.up) (gm.ms.map fun s => V.int s.has) (gm.ms.map fun s => oV s.pr) (gm.ms.map fun s => V.int s.pin) ((gm.ms.map fun s => oV s.rt).set i (.int (z.2 + mostP u.n 1 10 + gm.le))) ls gm.ds := hl6.put_crown _
        have n7 : Nx M.all H6 M.all (upd H6 M.cr (.lst ((gm.ms.map fun s => oV s.rt).set i ((fun i j => V.int (i + j)) (z.2 + mostP u.n 1 10) gm.le)))) := nx_put (by simp [MA.all, MA.ls])
        have hD7 := n7.fr _ _ nDM (s6 _ _ hD5)
        have N7 := (n5'.same s6).trans n7
        generalize (upd H6 M.cr (.lst ((gm.ms.map fun s => oV s.rt).set i ((fun i j => V.int (i + j)) (z.2 + mostP u.n 1 10) gm.le)))) = H7 at hl7 n7 hD7 N7 ⊢
        generalize ht : z.2 + mostP u.n 1 10 + gm.le = till at hl7
        have crat : atI ((gm.ms.map fun s => oV s.rt).set i (.int till)) (i : Int) = some (.int till) := atI_nat (List.getElem?_set_self (by rw [List.length_map]; exact il))
        have e0 := promL_nil gm.ms till (gm.rg + 1)
        refine ⟨_, rfl, D, rfl, ⟨_, SqL.of hD7⟩, ?_⟩
        refine for_list (K := K) (a := D) (xs := (pickG canP gm).map nV) (fun j σ H' => (∃ v : Option V, σ = [some (.ref M.m), some (.ref x), some (.int i), some (.int gm.le), some (.ref D), some (.int m), v]) ∧ H' D = some (.lst ((pickG canP gm).map nV)) ∧ Nx M.all H7 M.all H' ∧ MdL K H' M (gm.rg + 1) (gm.ms.map fun s => V.bl s.up) (gm.ms.map fun s => V.int s.has) ((promL gm.ms ((pickG canP gm).take j) till (gm.rg + 1)).map fun s => oV s.pr) ((promL gm.ms ((pickG canP gm).take j) till (gm.rg + 1)).map fun s => V.int s.pin) ((gm.ms.map fun s => oV s.rt).set i (.int till)) ls gm.ds)
          ⟨⟨none, rfl⟩, hD7, Nx.refl _ _, by rw [List.take_zero, e0]; exact hl7⟩ (fun j σ H' _ y => SqL.of y.2.1) ?_ ?_
        · rintro j kv σ H8 hj ⟨⟨v, rfl⟩, hD8, n8, hl8⟩
          rw [List.getElem?_map] at hj
          obtain ⟨k, hk, rfl⟩ := Option.map_eq_some_iff.mp hj
          have kl := is_lt k (List.mem_of_getElem? hk)
          have tk : (pickG canP gm).take (j + 1) = (pickG canP gm).take j ++ [k] := by rw [List.take_add_one, hk]; rfl
          have p1 := promL_step (is := (pickG canP gm).take j) (rg := gm.rg + 1) (fun s => oV s.pr) (.int till) kl (fun _ => rfl)
          have p2 := promL_step (is := (pickG canP gm).take j) (till := till) (fun s => V.int s.pin) (.int (gm.rg + 1)) kl (fun _ => rfl)
          show ∃ v, _
          refine ⟨_, rfl, M.m, .ref M.cr, rfl, hl8.gc, _, rfl, M.cr, _, _, _, rfl, rfl, SqL.of hl8.crown, crat, _, rfl, M.m, .ref M.ti, rfl, hl8.gt, _, rfl, M.ti, _, (k : Int), k, rfl, rfl, hl8.till, ixj' (by rw [List.length_map, promL_len]; exact kl), ?_⟩
          rw [p1]
          have hl9 := hl8.put_till ((promL gm.ms ((pickG canP gm).take j ++ [k]) till (gm.rg + 1)).map fun s => oV s.pr)
          have n9 : Nx M.all H8 M.all (upd H8 M.ti (.lst ((promL gm.ms ((pickG canP gm).take j ++ [k]) till (gm.rg + 1)).map fun s => oV s.pr))) := nx_put (by simp [MA.all, MA.ls])
          generalize (upd H8 M.ti (.lst ((promL gm.ms ((pickG canP gm).take j ++ [k]) till (gm.rg + 1)).map fun s => oV s.pr))) = H9 at hl9 n9 ⊢
          refine ⟨_, rfl, M.m, _, rfl, hl9.gr, _, rfl, M.m, .ref M.o, rfl, hl9.go, _, rfl, M.o, _, (k : Int), k, rfl, rfl, hl9.of, ixj' (by rw [List.length_map, promL_len]; exact kl), ?_⟩
          rw [p2]
          have hl10 := hl9.put_of ((promL gm.ms ((pickG canP gm).take j ++ [k]) till (gm.rg + 1)).map fun s => V.int s.pin)
          have n10 : Nx M.all H9 M.all (upd H9 M.o (.lst ((promL gm.ms ((pickG canP gm).take j ++ [k]) till (gm.rg + 1)).map fun s => V.int s.pin))) := nx_put (by simp [MA.all, MA.ls])
          rw [tk]
          exact ⟨⟨_, rfl⟩, n10.fr _ _ nDM (n9.fr _ _ nDM hD8), n8.trans (n9.trans n10), hl10⟩
        rintro σ H8 ⟨⟨v, rfl⟩, hD8, n8, hl8⟩
        rw [List.length_map, List.take_length] at hl8
        refine ⟨_, rfl, D, rfl, ⟨_, SqL.of hD8⟩, fun D5 nD5 => ?_⟩
        refine lc_it (walk_list (xs := (pickG canP gm).map nV)) (fun j H' => Same H8 H' ∧ H' D5 = some (.lst (((pickG canP gm).take j).map fun k => V.int (hasG gm k)))) ⟨same_new (Same.refl H8) nD5, by rw [List.take_zero]; exact upd_same⟩ (fun j H' _ y => SqL.of (y.1 _ _ hD8)) ?_ ?_
        · rintro j xv H9 H9' hj ⟨s9, hD9⟩ ⟨rfl, e1⟩
          rw [List.getElem?_map] at e1
          obtain ⟨k, hk, rfl⟩ := Option.map_eq_some_iff.mp e1
          obtain ⟨sk, hsk⟩ := getM (is_lt k (List.mem_of_getElem? hk))
          have hl9 := hl8.same s9
          refine ⟨rfl, _, rfl, M.m, .ref M.z, rfl, hl9.gz, _, rfl, M.z, _, _, _, rfl, rfl, SqL.of hl9.size, atI_map _ hsk, _, hD9, (by rw [List.length_map]; exact sz j), fun b' u' e => ?_, ?_⟩
          · rw [upd_ne (ne_of_none e nD5)]
            exact s9 _ _ e
          · have e2 : hasG gm k = sk.has := by unfold hasG; rw [hsk]
            rw [upd_same, List.take_add_one, hk, List.map_append]
            show _ = some (HO.lst (_ ++ [V.int (hasG gm k)]))
            rw [e2]
        rintro H9 ⟨s9, hD9⟩
        rw [List.length_map, List.take_length] at hD9
        have e4 : ((pickG canP gm).map fun k => V.int (hasG gm k)) = ((pickG canP gm).map (hasG gm)).map V.int := by rw [List.map_map]; rfl
        rw [e4] at hD9
        refine ⟨D5, (pickG canP gm).map (hasG gm), rfl, SqL.of hD9, (by rw [List.length_map]; exact List.length_pos_iff.mpr hne), fun mh hm2 hmx2 => ?_⟩
        have hmh : IsMax (hasG gm) (pickG canP gm) mh := by
          obtain ⟨k, hk, rfl⟩ := List.mem_map.mp hm2
          exact ⟨⟨k, hk, rfl⟩, fun j hj => hmx2 _ (List.mem_map.mpr ⟨j, hj, rfl⟩)⟩
        have hl9 := hl8.same s9
        refine ⟨_, rfl, M.m, .ref M.z, rfl, hl9.gz, _, rfl, M.z, _, (i : Int), i, rfl, rfl, hl9.size, ixj' (by rw [List.length_map]; exact il), ?_⟩
        have hl10 := hl9.put_size ((gm.ms.map fun s => V.int s.has).set i (.int mh))
        have n10 : Nx M.all H9 M.all (upd H9 M.z (.lst ((gm.ms.map fun s => V.int s.has).set i (.int mh)))) := nx_put (by simp [MA.all, MA.ls])
        subst ht
        exact ⟨_, rfl, q m mh _ _ hfl hmh hsp ((((N7.trans n8).same s9).trans n10).pre S4) (MdAt.cho hs hl10)⟩
      · rw [decide_eq_false c2] at qx
        exact iteDT (by omega) (qx rfl H1 s1)

theorem ok_l_written {P : Program} {w : World} {K : PySem.W.Frag} {mg : Str → Option Value} {base : Heap} {a : Nat → Addr} {d : Nat → FuncData} (T : Txt K mg a d) : FnOk P w K mg base CX0 10 (a 53) (d 53) ["_law_model", "_law_group_here", "_law_entry"] (spMWrote K (a 61)) := by
  refine T.F_l_written.ok sc_l_written (fun vs H Q E h => ?_) (fun cdv A outer s0 H vs Q E hr h => ?_)
  · obtain ⟨x, A, M, g, gm, v, d, rfl, hg, hm, ck, hv, fd, dl, q, qx⟩ := h
    rfl
  · obtain ⟨x, A, M, g, gm, v, d, rfl, hg, hm, ck, hv, fd, dl, q, qx⟩ := h
    obtain ⟨dx, hx⟩ := hg.at_
    obtain ⟨ls, hl⟩ := hm
    have n5 := hg.ls.n5
    have gl5 : gm.ms.length ≤ 5 := by rw [ck.len]; exact n5
    have ll := dpall_len hl.dl
    refine ⟨_, (pss_cons (ps_set (i := 3) sc_l_written.nd rfl (Or.inr rfl) (pe_dget (hu_of hr) (pv 0) pe_str (fun _ _ => rfl))) (pss_cons (ps_setLc (i := 4) (own := [("_law_one", 5)]) (g := gName 5) (te := (tVar 5)) (tt := (tAnd (tTru K (tOp (rIxL K) (tDGet (tVar 0) (tC (.str "up"))) (tVar 5))) (tTest (tOp rEq (tOp (rIxL K) (tVar 3) (tVar 5)) (tCB (fun xs H Q => ∃ p ys, xs = [.ref p] ∧ (SqL K H p ys ∨ SqT K H p ys) ∧ Q (.int ys.length) H) (tCons (tDGet (tVar 0) (tC (.str "log"))) tNil)))))) (by rfl) sc_l_written.nd rfl rfl (sw_true rfl rfl rfl (by decide +kernel)) (pi_range1 (by rfl) T.z_range (pa_cons (pe_callB call_len_seq (by rfl) T.z_len PySem.boot_len (pa_cons (pv 3) pa_nil)) pa_nil)) (blkOk_by (own := [("_law_one", 5)]) (N := ["_law_model", "_law_group_here", "_law_entry", "_law_sizes", "_law_some", "_law_one"]) (sc := defScope s_l_written) (by decide +kernel)) (fun _ _ _ _ _ => (pg_name (i := 5) sc_l_written.nd rfl (.inl rfl))) (fun _ _ _ _ _ => (pts_one (PW.pt (pw_and (pt_truth (pe_ix ix_list (pe_dget (hu_of hr) (pv 0) pe_str (fun _ _ => rfl)) (pv 5) (fun _ _ => rfl)) (by intro _; rfl)) (pw_and1 (pt_cmpR op_eq (pe_ix ix_list (pv 3) (pv 5) (fun _ _ => rfl)) (pe_callB call_len_seq (by rfl) T.z_len PySem.boot_len (pa_cons (pe_dget (hu_of hr) (pv 0) pe_str (fun _ _ => rfl)) pa_nil)) (nomark _))))))) (fun _ _ _ _ _ => (pv 5))) (pss_cons (ps_if (PW.pt (pw_or (pt_cmpR (op_eqD hr.units) (pe_call (ok_l_heads T) (hr.mono (by decide)) (by rfl) T.g_l_heads T.F_l_heads.kp T.b_l_heads .nil pass0 (pa_cons (pv 0) (pa_cons (pv 1) pa_nil))) (pe_lst pa_nil) (nomark _)) (pw_or1 (pt_cmpR op_le (pe_op op_mul pe_int (pe_callB call_len_seq (by rfl) T.z_len PySem.boot_len (pa_cons (pv 4) pa_nil))) (pe_callB call_len_seq (by rfl) T.z_len PySem.boot_len (pa_cons (pv 3) pa_nil)) (nomark _))))) (pss_one (ps_ret pe_bl)) pss_nil) (pss_cons (ps_expr (pe_bm PySem.F.plainAttrs_list PySem.F.slot_list_append PySem.F.type_list_append mt_append (pe_dget (hu_of hr) (pv 0) pe_str (fun _ _ => rfl)) (pa_cons (pv 2) pa_nil))) (pss_cons (ps_for PassesOwn.never rfl (pi_list (pv 4)) (pg_name (i := 5) sc_l_written.nd rfl (.inl rfl)) (pss_one (ps_asg (pe_op op_add (pe_ix ix_list (pv 3) (pv 5) (fun _ _ => rfl)) pe_int) (pg_sub (pv 3) (pv 5) set_list)))) (pss_one (ps_ret pe_bl))))))), ?_⟩
    refine ⟨_, rfl, M.m, .ref M.z, rfl, hl.gz, _, rfl, M.z, _, rfl, .inl (SqL.of hl.size), gm.ms.length, by rw [List.length_map], by omega, by omega, fun D nD => ?_⟩
    refine lc_range (lo := 0) (n := gm.ms.length) (fun i H' => Same H H' ∧ H' D = some (.lst ((((List.range gm.ms.length).take i).filter (atG (isWr gm) gm)).map nV))) ⟨same_new (Same.refl H) nD, by rw [List.take_zero]; exact upd_same⟩ ?_ ?_
    · rintro i H1 hi ⟨s1, hD⟩
      obtain ⟨s, hs⟩ := getM hi
      have hl1 := hl.same s1
      have nxt := range_take gm.ms.length i (atG (isWr gm) gm) hi
      rw [atG_of hs] at nxt
      have no : isWr gm s = false → Same H H1 ∧ H1 D = some (.lst ((((List.range gm.ms.length).take (i + 1)).filter (atG (isWr gm) gm)).map nV)) := fun c => ⟨s1, by rw [nxt, c, if_neg (by decide), List.append_nil]; exact hD⟩
      refine ⟨rfl, _, rfl, M.m, .ref M.u, rfl, hl1.gu, _, rfl, M.u, _, _, _, rfl, rfl, SqL.of hl1.up, atI_map0 _ hs, s.up, rfl, ?_⟩
      cases eu : s.up with
      | false => exact iteF (no (by unfold isWr; rw [eu, Bool.and_false]))
      | true =>
        refine iteT ⟨_, rfl, _, rfl, M.z, _, _, _, rfl, rfl, SqL.of hl1.size, atI_map0 _ hs, _, rfl, M.m, .ref M.lg, rfl, hl1.gl, M.lg, _, rfl, .inl (SqL.of hl1.log), rfl, _, rfl, ?_⟩
        have lc : (ls.length : Int) = (gm.ds.length : Int) := by rw [ll]
        by_cases c : s.has = (gm.ds.length : Int)
        · refine iteDT (by rw [lc, c]) ⟨_, rfl, _, hD, ?_, fun b' u e => ?_, ?_⟩
          · rw [List.length_map]
            exact lt_line5 (short5 i gl5)
          · rw [upd_ne (ne_of_none e nD)]
            exact s1 _ _ e
          · rw [upd_same, nxt, if_pos (by unfold isWr; rw [decide_eq_true c, eu]; rfl), List.map_append, Int.zero_add]
            rfl
        · exact iteDF (fun z => c (by have := V.int.inj z; omega)) (no (by unfold isWr; rw [decide_eq_false c]; rfl))
    rintro H1 ⟨s1, hD⟩
    have e : (List.range gm.ms.length).take gm.ms.length = List.range gm.ms.length := by rw [List.take_of_length_le (by rw [List.length_range]; exact Nat.le_refl _)]
    rw [e] at hD
    have hD : H1 D = some (.lst ((pickG (isWr gm) gm).map nV)) := hD
    have hl1 := hl.same s1
    have nDM : ¬ D ∈ M.all := fun y => by
      obtain ⟨o, eo, _⟩ := hl.mut D y
      rw [nD] at eo
      cases eo
    refine ⟨_, rfl, _, rfl, x, A, M, g, gm, rfl, hg.same s1, ⟨ls, hl1⟩, ck, fun Dh H2 nDh s2 hDh => ?_⟩
    refine ⟨Nat.zero_le _, fun p np => ?_⟩
    have s3 : Same H2 (upd H2 p (.lst [])) := same_new (Same.refl H2) np
    have hp : (upd H2 p (.lst [])) p = some (.lst []) := upd_same
    generalize (upd H2 p (.lst [])) = H3 at s3 hp ⊢
    have S3 := s1.trans (s2.trans s3)
    refine ⟨natsD (pickG mayR gm), .list [], natsD_at (s3 _ _ hDh), .lst (SqL.of hp) .nil, natsD_shaped _, rfl, _, rfl, ?_⟩
    rw [natsD_nil]
    unfold wCond at q qx
    by_cases c0 : pickG mayR gm = []
    · exact iteDT c0 (qx (fun z => z.1 c0) H3 S3)
    have hl3 := hl.same S3
    have hD3 := s3 _ _ (s2 _ _ hD)
    refine iteDF c0 ⟨_, rfl, D, _, rfl, .inl (SqL.of hD3), 2, _, rfl, rfl, .inl (m64 (by omega) (by omega)), _, rfl, M.z, _, rfl, .inl (SqL.of hl3.size), _, _, rfl, rfl, _, rfl, ?_⟩
    rw [List.length_map, List.length_map]
    by_cases c2 : gm.ms.length < 2 * (pickG (isWr gm) gm).length
    · refine iteDF (by omega) ?_
      have hv3 := dp_same hv S3
      refine ⟨_, rfl, M.m, .ref M.lg, rfl, hl3.gl, .inl ⟨rfl, _, SqL.of hl3.log⟩, _, rfl, M.lg, ls, _, rfl, rfl, hl3.log, (by rw [ll]; exact Nat.lt_of_lt_of_le dl (by decide)), ?_⟩
      have hl4 := hl3.put_log hv3 fd
      have n4 : Nx M.all H3 M.all (upd H3 M.lg (.lst (ls ++ [v]))) := nx_put (by simp [MA.all, MA.ls])
      have hD4 := n4.fr _ _ nDM hD3
      generalize (upd H3 M.lg (.lst (ls ++ [v]))) = H4 at hl4 n4 hD4 ⊢
      have nd := pick_nodup gm (isWr gm)
      have hz := hl4.size
      refine ⟨_, rfl, D, rfl, ⟨_, SqL.of hD4⟩, ?_⟩
      refine for_list (K := K) (a := D) (xs := (pickG (isWr gm) gm).map nV) (fun j σ H' => (∃ w : Option V, σ = [some (.ref M.m), some (.ref x), some v, some (.ref M.z), some (.ref D), w]) ∧ H' D = some (.lst ((pickG (isWr gm) gm).map nV)) ∧ Nx M.all H4 M.all H' ∧ MdL K H' M gm.rg (gm.ms.map fun s => V.bl s.up) (hasL gm ((pickG (isWr gm) gm).take j)) (gm.ms.map fun s => oV s.pr) (gm.ms.map fun s => V.int s.pin) (gm.ms.map fun s => oV s.rt) (ls ++ [v]) (gm.ds ++ [d]))
        ⟨⟨none, rfl⟩, hD4, Nx.refl _ _, by rw [List.take_zero, hasL_nil]; exact hl4⟩ (fun j σ H' _ y => SqL.of y.2.1) ?_ ?_
      · rintro j kv σ H5 hj ⟨⟨w, rfl⟩, hD5, n5', hl5⟩
        rw [List.getElem?_map] at hj
        obtain ⟨k, hk, rfl⟩ := Option.map_eq_some_iff.mp hj
        have kl := is_lt k (List.mem_of_getElem? hk)
        obtain ⟨sk, hsk⟩ := getM kl
        have tk : (pickG (isWr gm) gm).take (j + 1) = (pickG (isWr gm) gm).take j ++ [k] := by rw [List.take_add_one, hk]; rfl
        have nk := take_notin nd hk
        show ∃ v, _
        refine ⟨_, rfl, _, rfl, M.z, _, (k : Int), _, rfl, rfl, SqL.of hl5.size, atI_nat (hasL_get hsk nk), _, 1, rfl, rfl, _, rfl, _, rfl, M.z, _, (k : Int), k, rfl, rfl, hl5.size, ixj' (by rw [hasL_len]; exact kl), ?_⟩
        have st := hasL_step (is := (pickG (isWr gm) gm).take j) hsk
        have hl6 : MdL K (upd H5 M.z (.lst ((hasL gm ((pickG (isWr gm) gm).take j)).set k ((fun i j => V.int (i + j)) sk.has 1)))) M gm.rg (gm.ms.map fun s => V.bl s.up) (hasL gm ((pickG (isWr gm) gm).take j ++ [k])) (gm.ms.map fun s => oV s.pr) (gm.ms.map fun s => V.int s.pin) (gm.ms.map fun s => oV s.rt) (ls ++ [v]) (gm.ds ++ [d]) := by rw [← st]; exact hl5.put_size _
        have n6 : Nx M.all H5 M.all (upd H5 M.z (.lst ((hasL gm ((pickG (isWr gm) gm).take j)).set k ((fun i j => V.int (i + j)) sk.has 1)))) := nx_put (by simp [MA.all, MA.ls])
        rw [tk]
        exact ⟨⟨_, rfl⟩, n6.fr _ _ nDM hD5, n5'.trans n6, hl6⟩
      · rintro σ H5 ⟨⟨w, rfl⟩, hD5, n5', hl5⟩
        rw [List.length_map, List.take_length, hasL_all gm d] at hl5
        refine q ⟨c0, c2⟩ H5 ((n4.trans n5').pre S3) ⟨ls ++ [v], ?_⟩
        have wm : ∀ {f : MS → V}, (∀ (s : MS) (n : Int), f { s with has := n } = f s) → (wroteG gm d).ms.map f = gm.ms.map f := fun hf => wrote_map gm d hf
        rw [wm (f := fun s => V.bl s.up) (fun _ _ => rfl), wm (f := fun s => oV s.pr) (fun _ _ => rfl), wm (f := fun s => V.int s.pin) (fun _ _ => rfl), wm (f := fun s => oV s.rt) (fun _ _ => rfl)]
        exact hl5
    · exact iteDT (by omega) (qx (fun z => c2 z.2) H3 S3)

theorem ok_l_renewed {P : Program} {w : World} {K : PySem.W.Frag} {mg : Str → Option Value} {base : Heap} {a : Nat → Addr} {d : Nat → FuncData} (T : Txt K mg a d) : FnOk P w K mg base CX0 10 (a 52) (d 52) ["_law_model", "_law_group_here", "_law_span"] (spMRen K (a 61)) := by
  refine T.F_l_renewed.ok sc_l_renewed (fun vs H Q E h => ?_) (fun cdv A outer s0 H vs Q E hr h => ?_)
  · obtain ⟨x, A, M, g, gm, rfl, hg, hm, ck, nG, gf, one, q, qx⟩ := h
    rfl
  · obtain ⟨x, A, M, g, gm, rfl, hg, hm, ck, nG, gf, one, q, qx⟩ := h
    obtain ⟨dx, hx⟩ := hg.at_
    obtain ⟨ls, hl⟩ := hm
    have n5 := hg.ls.n5
    have gl5 : gm.ms.length ≤ 5 := by rw [ck.len]; exact n5
    refine ⟨_, (pss_cons (ps_set (i := 3) sc_l_renewed.nd rfl (Or.inl rfl) (pe_ix ix_list (pe_op op_cat (pe_call (ok_l_heads T) (hr.mono (by decide)) (by rfl) T.g_l_heads T.F_l_heads.kp T.b_l_heads .nil pass0 (pa_cons (pv 0) (pa_cons (pv 1) pa_nil))) (pe_lst (pa_cons pe_non pa_nil))) pe_int (fun _ _ => rfl))) (pss_cons (ps_if (pt_cmpR op_isN (pv 3) pe_non (nomark _)) (pss_one (ps_ret pe_bl)) pss_nil) (pss_cons (ps_set (i := 4) sc_l_renewed.nd rfl (Or.inl rfl) (pe_lst pa_nil)) (pss_cons (ps_for PassesOwn.never rfl (pi_range1 (by rfl) T.z_range (pa_cons (pe_callB call_len_seq (by rfl) T.z_len PySem.boot_len (pa_cons (pe_dget (hu_of hr) (pv 0) pe_str (fun _ _ => rfl)) pa_nil)) pa_nil)) (pg_name (i := 5) sc_l_renewed.nd rfl (.inl rfl)) (pss_one (ps_if (PW.pt (pw_or (pt_truth (pe_call (ok_l_is_free T) (hr.mono (by decide)) (by rfl) T.g_l_is_free T.F_l_is_free.kp T.b_l_is_free .nil pass0 (pa_cons (pv 0) (pa_cons (pv 1) (pa_cons (pv 5) pa_nil)))) (by intro _; rfl)) (pw_or1 (PW.pt (pw_and (pt_truth (pe_ix ix_list (pe_dget (hu_of hr) (pv 0) pe_str (fun _ _ => rfl)) (pv 5) (fun _ _ => rfl)) (by intro _; rfl)) (pw_and1 (pt_cmpR op_eq (pe_ix ix_list (pe_dget (hu_of hr) (pv 0) pe_str (fun _ _ => rfl)) (pv 5) (fun _ _ => rfl)) (pe_dget (hu_of hr) (pv 0) pe_str (fun _ _ => rfl)) (nomark _)))))))) (pss_one (ps_expr (pe_bm PySem.F.plainAttrs_list PySem.F.slot_list_append PySem.F.type_list_append mt_append (pv 4) (pa_cons (pv 5) pa_nil)))) pss_nil))) (pss_cons (ps_if (pt_cmpR op_le (pe_op op_mul pe_int (pe_callB call_len_seq (by rfl) T.z_len PySem.boot_len (pa_cons (pv 4) pa_nil))) (pe_callB call_len_seq (by rfl) T.z_len PySem.boot_len (pa_cons (pe_dget (hu_of hr) (pv 0) pe_str (fun _ _ => rfl)) pa_nil)) (nomark _)) (pss_one (ps_ret pe_bl)) pss_nil) (pss_cons (ps_asg (pe_callB (call_max2 rfl) (by rfl) T.z_max (by decide +kernel) (pa_cons (pe_ix ix_list (pe_dget (hu_of hr) (pv 0) pe_str (fun _ _ => rfl)) (pv 3) (fun _ _ => rfl)) (pa_cons (pe_op op_add (pe_ix ix_tup (pe_call (ok_l_bounds T) (hr.mono (by decide)) (by rfl) T.g_l_bounds T.F_l_bounds.kp T.b_l_bounds .nil pass0 (pa_cons (pv 1) (pa_cons (pv 3) pa_nil))) pe_int (fun _ _ => rfl)) (pv 2)) pa_nil))) (pg_sub (pe_dget (hu_of hr) (pv 0) pe_str (fun _ _ => rfl)) (pv 3) set_list)) (pss_cons (ps_for PassesOwn.never rfl (pi_list (pv 4)) (pg_name (i := 5) sc_l_renewed.nd rfl (.inl rfl)) (pss_cons (ps_asg (pe_ix ix_list (pe_dget (hu_of hr) (pv 0) pe_str (fun _ _ => rfl)) (pv 3) (fun _ _ => rfl)) (pg_sub (pe_dget (hu_of hr) (pv 0) pe_str (fun _ _ => rfl)) (pv 5) set_list)) (pss_one (ps_asg (pe_dget (hu_of hr) (pv 0) pe_str (fun _ _ => rfl)) (pg_sub (pe_dget (hu_of hr) (pv 0) pe_str (fun _ _ => rfl)) (pv 5) set_list))))) (pss_one (ps_ret pe_bl))))))))), ?_⟩
    refine ⟨_, rfl, _, rfl, x, A, M, g, gm, rfl, hg, ⟨ls, hl⟩, ck, fun Dh H1 nDh s1 hDh => ?_⟩
    refine ⟨len1, fun p1 np1 => ?_⟩
    have s2 : Same H1 (upd H1 p1 (.lst [.non])) := same_new (Same.refl H1) np1
    have hp1 : (upd H1 p1 (.lst [.non])) p1 = some (.lst [.non]) := upd_same
    generalize (upd H1 p1 (.lst [.non])) = H2 at s2 hp1 ⊢
    have h5 : (pickG mayR gm).length ≤ 5 := Nat.le_trans is_len gl5
    refine ⟨Dh, p1, _, _, rfl, rfl, s2 _ _ hDh, hp1, (by rw [List.length_map]; exact Nat.le_trans (show _ ≤ 6 by simp; omega) (by decide)), fun p2 np2 => ?_⟩
    have s3 : Same H2 (upd H2 p2 (.lst ((pickG mayR gm).map nV ++ [V.non]))) := same_new (Same.refl H2) np2
    have hp2 : (upd H2 p2 (.lst ((pickG mayR gm).map nV ++ [V.non]))) p2 = some (.lst ((pickG mayR gm).map nV ++ [V.non])) := upd_same
    generalize (upd H2 p2 (.lst ((pickG mayR gm).map nV ++ [V.non]))) = H3 at s3 hp2 ⊢
    have S3 := s1.trans (s2.trans s3)
    rcases one with c0 | ⟨i, c0⟩
    · rw [c0] at hp2
      refine ⟨p2, _, 0, .non, rfl, rfl, SqL.of hp2, rfl, ?_⟩
      exact ⟨_, rfl, rfl, _, rfl, iteDT rfl (qx (.inl c0) H3 S3)⟩
    · rw [c0] at hp2
      refine ⟨p2, _, 0, .int (i : Int), rfl, rfl, SqL.of hp2, rfl, ?_⟩
      refine ⟨_, rfl, rfl, _, rfl, iteDF (by intro y; cases y) ?_⟩
      have il : i < gm.ms.length := is_lt i (by rw [c0]; exact List.mem_cons_self ..)
      obtain ⟨s, hs⟩ := getM il
      obtain ⟨u, z, hu, hz, hsp⟩ := ck.at_ i s hs
      have hmr : mayR s = true := by
        have : i ∈ pickG mayR gm := by rw [c0]; exact List.mem_cons_self ..
        have := (List.mem_filter.mp this).2
        rw [atG_of hs] at this
        exact this
      obtain ⟨T0, hT⟩ : ∃ T0, s.rt = some T0 := by
        unfold mayR at hmr
        cases c2 : s.rt with
        | none => rw [c2] at hmr; cases hmr
        | some T0 => exact ⟨T0, rfl⟩
      refine ⟨Nat.zero_le _, fun D nD => ?_⟩
      have s4 : Same H3 (upd H3 D (.lst [])) := same_new (Same.refl H3) nD
      have hD4 : (upd H3 D (.lst [])) D = some (.lst []) := upd_same
      have nDH : H D = none := S3.free nD
      generalize (upd H3 D (.lst [])) = H4 at s4 hD4 ⊢
      have S4 := S3.trans s4
      have hl4 := hl.same S4
      refine ⟨_, rfl, M.m, .ref M.u, rfl, hl4.gu, M.u, _, rfl, .inl (SqL.of hl4.up), gm.ms.length, by rw [List.length_map], by omega, by omega, ?_⟩
      refine for_range (lo := 0) (n := gm.ms.length) (fun j σ H' => (∃ v : Option V, σ = [some (.ref M.m), some (.ref x), some (.int gm.le), some (.int (i : Int)), some (.ref D), v]) ∧ Same H H' ∧ H' D = some (.lst ((((List.range gm.ms.length).take j).filter (atG (mayN gm) gm)).map nV))) ⟨⟨none, rfl⟩, S4, by rw [List.take_zero]; exact hD4⟩ ?_ ?_
      · rintro j σ H5 hj ⟨⟨v, rfl⟩, S5, hD5⟩
        obtain ⟨s', hs'⟩ := getM hj
        have nxt := range_take gm.ms.length j (atG (mayN gm) gm) hj
        rw [atG_of hs'] at nxt
        have yes : ∀ H', Same H5 H' → mayN gm s' = true → Same H (upd H' D (.lst ((((List.range gm.ms.length).take j).filter (atG (mayN gm) gm)).map nV ++ [.int (0 + (j : Int))]))) ∧ (upd H' D (.lst ((((List.range gm.ms.length).take j).filter (atG (mayN gm) gm)).map nV ++ [.int (0 + (j : Int))]))) D = some (.lst ((((List.range gm.ms.length).take (j + 1)).filter (atG (mayN gm) gm)).map nV)) := fun H' k c => by
          refine ⟨fun b' o e => by rw [upd_ne (ne_of_none e nDH)]; exact k _ _ (S5 _ _ e), ?_⟩
          rw [upd_same, nxt, c, if_pos rfl, List.map_append, Int.zero_add]
          rfl
        have no : ∀ H', Same H5 H' → mayN gm s' = false → Same H H' ∧ H' D = some (.lst ((((List.range gm.ms.length).take (j + 1)).filter (atG (mayN gm) gm)).map nV)) := fun H' k c => ⟨S5.trans k, by rw [nxt, c, if_neg (by decide), List.append_nil]; exact k _ _ hD5⟩
        have dl : ((((List.range gm.ms.length).take j).filter (atG (mayN gm) gm)).map nV).length < sizeLine := by rw [List.length_map]; exact lt_line5 (short5 j gl5)
        show ∃ v, _
        refine ⟨_, rfl, _, rfl, _, rfl, x, A, M, g, gm, j, s', (by rw [Int.zero_add]; rfl), hg.same S5, ⟨ls, hl.same S5⟩, ck, hs', fun H6 s6 => ⟨_, rfl, ?_⟩⟩
        have hD6 := s6 _ _ hD5
        cases c : canP s' with
        | true =>
          obtain ⟨y1, y2⟩ := yes H6 s6 (by unfold mayN; rw [c, Bool.or_true])
          exact iteT ⟨_, rfl, .inl ⟨rfl, _, SqL.of hD6⟩, _, rfl, D, _, _, rfl, rfl, hD6, dl, ⟨_, rfl⟩, y1, y2⟩
        | false =>
          have hl6 := hl.same (S5.trans s6)
          refine iteF ⟨_, rfl, M.m, .ref M.u, rfl, hl6.gu, _, rfl, M.u, _, _, _, rfl, rfl, SqL.of hl6.up, atI_map0 _ hs', s'.up, rfl, ?_⟩
          cases eu : s'.up with
          | false =>
            obtain ⟨y1, y2⟩ := no H6 s6 (by unfold mayN; rw [c, eu]; rfl)
            exact iteF ⟨⟨_, rfl⟩, y1, y2⟩
          | true =>
            refine iteT ⟨_, rfl, M.m, .ref M.o, rfl, hl6.go, _, rfl, M.o, _, _, _, rfl, rfl, SqL.of hl6.of, atI_map0 _ hs', _, rfl, M.m, _, rfl, hl6.gr, rfl, _, rfl, ?_⟩
            by_cases c2 : s'.pin = gm.rg
            · obtain ⟨y1, y2⟩ := yes H6 s6 (by unfold mayN; rw [eu, decide_eq_true c2]; rfl)
              exact iteDT (by rw [c2]) ⟨_, rfl, .inl ⟨rfl, _, SqL.of hD6⟩, _, rfl, D, _, _, rfl, rfl, hD6, dl, ⟨_, rfl⟩, y1, y2⟩
            · obtain ⟨y1, y2⟩ := no H6 s6 (by unfold mayN; rw [c, eu, decide_eq_false c2]; rfl)
              exact iteDF (fun y => c2 (V.int.inj y)) ⟨⟨_, rfl⟩, y1, y2⟩
      rintro σ H5 ⟨⟨v, rfl⟩, S5, hD5⟩
      have e : (List.range gm.ms.length).take gm.ms.length = List.range gm.ms.length := by rw [List.take_of_length_le (by rw [List.length_range]; exact Nat.le_refl _)]
      rw [e] at hD5
      have hD5 : H5 D = some (.lst ((pickG (mayN gm) gm).map nV)) := hD5
      have hl5 := hl.same S5
      have hg5 := hg.same S5
      have h5 : (pickG (mayN gm) gm).length ≤ 5 := Nat.le_trans is_len gl5
      refine ⟨_, rfl, D, _, rfl, .inl (SqL.of hD5), 2, _, rfl, rfl, .inl (m64 (by omega) (by omega)), _, rfl, M.m, .ref M.u, rfl, hl5.gu, M.u, _, rfl, .inl (SqL.of hl5.up), _, _, rfl, rfl, _, rfl, ?_⟩
      rw [List.length_map, List.length_map]
      by_cases c2 : gm.ms.length < 2 * (pickG (mayN gm) gm).length
      · have q := q i s _ T0 c0 hs hsp hT c2
        refine iteDF (by omega) ?_
        have nDM : ¬ D ∈ M.all := fun y => by
          obtain ⟨o, eo, _⟩ := hl.mut D y
          rw [nDH] at eo
          cases eo
        refine ⟨_, rfl, M.m, .ref M.cr, rfl, hl5.gc, _, rfl, M.cr, _, _, _, rfl, rfl, SqL.of hl5.crown, atI_map _ hs, ?_⟩
        refine ⟨_, rfl, _, rfl, x, A, g, i, u, z, rfl, hg5, hu, hz, fun p H6 np s6 hp => ⟨p, _, 1, _, rfl, rfl, SqT.of hp, rfl, ?_⟩⟩
        refine ⟨_, rfl, z.2 + mostP u.n 1 10, gm.le, rfl, rfl, T0, z.2 + mostP u.n 1 10 + gm.le, (by rw [hT]; rfl), ?_⟩
        have hl6 := hl5.same s6
        refine ⟨_, rfl, M.m, .ref M.cr, rfl, hl6.gc, _, rfl, M.cr, _, (i : Int), i, rfl, rfl, hl6.crown, ixj' (by rw [List.length_map]; exact il), ?_⟩
        have hq : ∀ till : Int, till = (if z.2 + mostP u.n 1 10 + gm.le > T0 then z.2 + mostP u.n 1 10 + gm.le else T0) → ∀ H', Nx M.all H M.all H' → MdAt K H' M (renG gm i s till) → Q (.bl true) H' := fun till et H' n m => q H' n (by rw [← et]; exact m)
        generalize ht : (if z.2 + mostP u.n 1 10 + gm.le > T0 then z.2 + mostP u.n 1 10 + gm.le else T0) = till at hq ⊢
        have hq := hq till rfl
        have hl7 := hl6.put_crown ((gm.ms.map fun s => oV s.rt).set i (.int till))
        have n7 : Nx M.all H6 M.all (upd H6 M.cr (.lst ((gm.ms.map fun s => oV s.rt).set i (.int till)))) := nx_put (by simp [MA.all, MA.ls])
        have hD7 := n7.fr _ _ nDM (s6 _ _ hD5)
        have N7 := n7.pre (S5.trans s6)
        generalize (upd H6 M.cr (.lst ((gm.ms.map fun s => oV s.rt).set i (.int till)))) = H7 at hl7 n7 hD7 N7 ⊢
        have crat : atI ((gm.ms.map fun s => oV s.rt).set i (.int till)) (i : Int) = some (.int till) := atI_nat (List.getElem?_set_self (by rw [List.length_map]; exact il))
        have e0 := promL_nil gm.ms till gm.rg
        refine ⟨_, rfl, D, rfl, ⟨_, SqL.of hD7⟩, ?_⟩
        refine for_list (K := K) (a := D) (xs := (pickG (mayN gm) gm).map nV) (fun j σ H' => (∃ v : Option V, σ = [some (.ref M.m), some (.ref x), some (.int gm.le), some (.int (i : Int)), some (.ref D), v]) ∧ H' D = some (.lst ((pickG (mayN gm) gm).map nV)) ∧ Nx M.all H7 M.all H' ∧ MdL K H' M gm.rg (gm.ms.map fun s => V.bl s.up) (gm.ms.map fun s => V.int s.has) ((promL gm.ms ((pickG (mayN gm) gm).take j) till gm.rg).map fun s => oV s.pr) ((promL gm.ms ((pickG (mayN gm) gm).take j) till gm.rg).map fun s => V.int s.pin) ((gm.ms.map fun s => oV s.rt).set i (.int till)) ls gm.ds)
          ⟨⟨_, rfl⟩, hD7, Nx.refl _ _, by rw [List.take_zero, e0]; exact hl7⟩ (fun j σ H' _ y => SqL.of y.2.1) ?_ ?_
        · rintro j kv σ H8 hj ⟨⟨v, rfl⟩, hD8, n8, hl8⟩
          rw [List.getElem?_map] at hj
          obtain ⟨k, hk, rfl⟩ := Option.map_eq_some_iff.mp hj
          have kl := is_lt k (List.mem_of_getElem? hk)
          have tk : (pickG (mayN gm) gm).take (j + 1) = (pickG (mayN gm) gm).take j ++ [k] := by rw [List.take_add_one, hk]; rfl
          have p1 := promL_step (is := (pickG (mayN gm) gm).take j) (rg := gm.rg) (fun s => oV s.pr) (.int till) kl (fun _ => rfl)
          have p2 := promL_step (is := (pickG (mayN gm) gm).take j) (till := till) (fun s => V.int s.pin) (.int gm.rg) kl (fun _ => rfl)
          show ∃ v, _
          refine ⟨_, rfl, M.m, .ref M.cr, rfl, hl8.gc, _, rfl, M.cr, _, _, _, rfl, rfl, SqL.of hl8.crown, crat, _, rfl, M.m, .ref M.ti, rfl, hl8.gt, _, rfl, M.ti, _, (k : Int), k, rfl, rfl, hl8.till, ixj' (by rw [List.length_map, promL_len]; exact kl), ?_⟩
          rw [p1]
          have hl9 := hl8.put_till ((promL gm.ms ((pickG (mayN gm) gm).take j ++ [k]) till gm.rg).map fun s => oV s.pr)
          have n9 : Nx M.all H8 M.all (upd H8 M.ti (.lst ((promL gm.ms ((pickG (mayN gm) gm).take j ++ [k]) till gm.rg).map fun s => oV s.pr))) := nx_put (by simp [MA.all, MA.ls])
          generalize (upd H8 M.ti (.lst ((promL gm.ms ((pickG (mayN gm) gm).take j ++ [k]) till gm.rg).map fun s => oV s.pr))) = H9 at hl9 n9 ⊢
          refine ⟨_, rfl, M.m, _, rfl, hl9.gr, _, rfl, M.m, .ref M.o, rfl, hl9.go, _, rfl, M.o, _, (k : Int), k, rfl, rfl, hl9.of, ixj' (by rw [List.length_map, promL_len]; exact kl), ?_⟩
          rw [p2]
          have hl10 := hl9.put_of ((promL gm.ms ((pickG (mayN gm) gm).take j ++ [k]) till gm.rg).map fun s => V.int s.pin)
          have n10 : Nx M.all H9 M.all (upd H9 M.o (.lst ((promL gm.ms ((pickG (mayN gm) gm).take j ++ [k]) till gm.rg).map fun s => V.int s.pin))) := nx_put (by simp [MA.all, MA.ls])
          rw [tk]
          exact ⟨⟨_, rfl⟩, n10.fr _ _ nDM (n9.fr _ _ nDM hD8), n8.trans (n9.trans n10), hl10⟩
        rintro σ H8 ⟨⟨v, rfl⟩, hD8, n8, hl8⟩
        rw [List.length_map, List.take_length] at hl8
        exact hq H8 (N7.trans n8) (MdAt.ren hs hl8)
      · exact iteDT (by omega) (qx (.inr c2) H5 S5)


/-- a state of draws stands at s -/
def StAt (H : Hp) (s : Addr) : Prop := ∃ (a b : Int) (c : Bool), H s = some (.lst [.int a, .int b, .bl c]) ∧ 0 ≤ b ∧ b < 2147483647
/-- all else that was tracked stands; at s a state -/
def Kp (s : Addr) (H H' : Hp) : Prop := (∀ b o, b ≠ s → H b = some o → H' b = some o) ∧ StAt H' s
theorem StAt.kp {H : Hp} {s : Addr} (h : StAt H s) : Kp s H H := ⟨fun _ _ _ e => e, h⟩
theorem Kp.trans {s : Addr} {H H1 H2 : Hp} (a : Kp s H H1) (b : Kp s H1 H2) : Kp s H H2 := ⟨fun c o n e => b.1 c o n (a.1 c o n e), b.2⟩
theorem StAt.ne_new {H : Hp} {s p : Addr} (h : StAt H s) (hp : H p = none) : p ≠ s := by
  obtain ⟨a, b, c, e, _⟩ := h
  exact (ne_of_none e hp).symm
theorem StAt.new {H : Hp} {s p : Addr} {o : HO} (h : StAt H s) (hp : H p = none) : StAt (upd H p o) s := by
  obtain ⟨a, b, c, e, r⟩ := h
  exact ⟨a, b, c, by rw [upd_ne (ne_of_none e hp)]; exact e, r⟩
theorem Kp.new {s p : Addr} {H H1 : Hp} {o : HO} (k : Kp s H H1) (hp : H1 p = none) : Kp s H (upd H1 p o) :=
  ⟨fun b u n e => by rw [upd_ne (ne_of_none (k.1 b u n e) hp)]; exact k.1 b u n e, k.2.new hp⟩
theorem StAt.ne_tup {H : Hp} {s p : Addr} {xs : List V} (h : StAt H s) (hp : H p = some (.tup xs)) : p ≠ s := by
  obtain ⟨a, b, c, e, _⟩ := h
  exact ne_of hp e (by intro q; cases q)
theorem Kp.tup {s p : Addr} {H H1 : Hp} {xs : List V} (k : Kp s H H1) (h0 : StAt H s) (hp : H p = some (.tup xs)) : H1 p = some (.tup xs) := k.1 p _ (h0.ne_tup hp) hp
theorem Kp.free {s p : Addr} {H H1 : Hp} (k : Kp s H H1) (h0 : StAt H s) (hp : H1 p = none) : H p = none := by
  cases e : H p with
  | none => rfl
  | some o =>
    have z := k.1 p o (k.2.ne_new hp) e
    rw [hp] at z
    cases z
theorem Kp.same {s : Addr} {H0 H H1 : Hp} (a : Same H0 H) (hs : H0 s = none) (k : Kp s H H1) : Same H0 H1 := fun b o e => k.1 b o (ne_of_none e hs) (a b o e)
theorem cell_at (ns : List Int) (lo hi : Option Int) : ∃ c : Int, atI (cutV (ns.map V.int) lo hi ++ [V.int 0]) 0 = some (V.int c) := by
  unfold cutV
  rw [← List.map_drop, ← List.map_take]
  generalize ((List.drop _ ns).take _) = l
  cases l with
  | nil => exact ⟨0, rfl⟩
  | cons x xs => exact ⟨x, atI_nat (j := 0) rfl⟩
theorem cut_len (xs : List V) (lo hi : Option Int) : (cutV xs lo hi).length ≤ xs.length := by
  unfold cutV
  rw [List.length_take, List.length_drop]
  omega
def spBegun (K : PySem.W.Frag) : Sp := fun vs H Q _ => ∃ (l : Addr) (ns : List Int) (k : Int), vs = [.ref l, .int k] ∧ SqL K H l (ns.map V.int) ∧ ns.length ≤ 63 ∧ 0 ≤ k ∧ k ≤ 100 ∧ ∀ (p : Addr) (H' : Hp), H p = none → Same H H' → StAt H' p → Q (.ref p) H'
def spTake : Sp := fun vs H Q _ => ∃ (s : Addr) (m : Int), vs = [.ref s, .int m] ∧ StAt H s ∧ 0 < m ∧ m ≤ 1000000000000000000000000000000 ∧ ∀ (r : Int) (H' : Hp), 0 ≤ r → r < m → Kp s H H' → Q (.int r) H'
/-- what is over of each one's ticks, and the paces -/
structure RestAt (H : Hp) (r q : Addr) (rs ps : List Int) : Prop where
  hr : H r = some (.lst (rs.map V.int ++ [.ref q]))
  hq : H q = some (.lst (ps.map V.int))
  l : rs.length = ps.length
  nr : ∀ a ∈ rs, 0 ≤ a ∧ a ≤ 100
  np : ∀ a ∈ ps, 0 ≤ a ∧ a ≤ 20
  ne : q ≠ r
theorem rest_at {rs : List Int} {q : Addr} {j : Nat} {a : Int} (h : rs[j]? = some a) : atI (rs.map V.int ++ [V.ref q]) (0 + (j : Int)) = some (.int a) := by
  rw [Int.zero_add]
  refine atI_nat ?_
  rw [List.getElem?_append_left (by rw [List.length_map]; exact (List.getElem?_eq_some_iff.mp h).1), List.getElem?_map, h]
  rfl
theorem rest_last {rs : List Int} {q : Addr} : atI (rs.map V.int ++ [V.ref q]) (-1) = some (.ref q) := atI_last _ _
theorem int_at {rs : List Int} {j : Nat} {a : Int} (h : rs[j]? = some a) : atI (rs.map V.int) (0 + (j : Int)) = some (.int a) := by
  rw [Int.zero_add]
  exact atI_nat (by rw [List.getElem?_map, h]; rfl)
theorem rest_set {rs : List Int} {q : Addr} {j : Nat} {v : Int} (h : j < rs.length) : (rs.map V.int ++ [V.ref q]).set j (.int v) = (rs.set j v).map V.int ++ [V.ref q] := by
  rw [List.set_append_left _ _ (by rw [List.length_map]; exact h), List.map_set]
theorem ix_nat {n j : Nat} (h : j < n) : ixN n (0 + (j : Int)) = some j := by
  unfold ixN
  rw [if_pos (by omega), if_pos (by omega)]
  congr 1
  omega
/-- behind a step: the lists are those of before, or new -/
structure Ow (H : Hp) (A A' : GA) : Prop where
  ee : A'.el = A.el
  ow : ∀ c, c ∈ A'.all → c ∈ A.all ∨ H c = none
theorem Ow.out {H : Hp} {A A' : GA} (h : Ow H A A') {c : Addr} {o : HO} (n : ¬ c ∈ A.all) (e : H c = some o) : ¬ c ∈ A'.all := fun z => by
  rcases h.ow c z with y | y
  · exact n y
  · rw [y] at e; cases e
theorem el_in (A : GA) : A.el ∈ A.all := by simp [GA.all]

def MarkD (d : PyData) : Prop := ∃ (t : Str) (k : Int), d = .tuple [.str t, .int k] ∧ (t = "mark" ∨ t = "off" ∨ t = "gone") ∧ 0 ≤ k ∧ k ≤ 100
theorem mark_lay {t : Str} (h : t = "mark" ∨ t = "off" ∨ t = "gone") : PyData.canLay0 (.str t) = true := by
  rcases h with rfl | rfl | rfl <;> decide +kernel
theorem mark_ok : ∀ {ds : List PyData}, (∀ d ∈ ds, MarkD d) → PyData.canLayAll0 ds = true ∧ PyData.depthAll ds ≤ 1
  | [], _ => ⟨rfl, by decide⟩
  | d :: r, h => by
    obtain ⟨a, b⟩ := mark_ok (ds := r) fun e he => h e (List.mem_cons_of_mem _ he)
    obtain ⟨t, k, rfl, ht, _⟩ := h d (List.mem_cons_self ..)
    refine ⟨?_, ?_⟩
    · have z : PyData.canLay0 (.tuple [.str t, .int k]) = true := by
        have y := mark_lay ht
        simp only [PyData.canLay0, PyData.canLayAll0, Bool.and_true] at y ⊢
        exact y
      simp only [PyData.canLayAll0, z, a, Bool.and_self]
    · simp only [PyData.depthAll, PyData.depth]
      omega
theorem mark_shaped {ds : List PyData} (h : ∀ d ∈ ds, MarkD d) : SeqAt.shaped (.list ds) = true := by
  obtain ⟨a, b⟩ := mark_ok h
  unfold SeqAt.shaped
  rw [Bool.and_eq_true]
  refine ⟨by simp only [PyData.canLay0]; exact a, decide_eq_true ?_⟩
  simp only [PyData.depth]
  omega
theorem mark_rf {ds : List PyData} (h : ∀ d ∈ ds, MarkD d) : (!PyData.eqv (.list ds) (.list ds)) = false := by
  rw [PySem.SeqAt.eqv_refl (.list ds) (by simp only [PyData.canLay0]; exact (mark_ok h).1)]
  rfl
theorem mark_take {ds : List PyData} (h : ∀ d ∈ ds, MarkD d) (k : Nat) : ∀ d ∈ ds.take k, MarkD d := fun d hd => h d (List.mem_of_mem_take hd)
/-- begun: all up, set, nothing promised -/
structure Beg8 (g : GS) (i : Nat) : Prop where
  all : ∀ (j : Nat) (s : MS), g.ms[j]? = some s → s.up = true ∧ s.pr = none ∧ s.pin = 0 ∧ s.rt = none ∧ (i ≤ j → s.sp = none) ∧ (j < i → Ck30 s 0 0)
  ds : g.ds = []
  ch : g.ch = none
  rg : g.rg = 0
  hz : ∀ s ∈ g.ms, s.has = 0
  lo : g.loose = false
theorem Beg8.w {K : PySem.W.Frag} {CG : Addr} {H : Hp} {x : Addr} {A : GA} {g : GS} {n : Nat} (h : Beg8 g n) (hn : g.ms.length = n) (le1 : 1 ≤ g.le) (le2 : g.le ≤ 1000) (hg : GroupAt K CG H x A 1 10 g) : W30 K CG H x A n g (List.replicate n 0) 0 [] := by
  have al : ∀ c ∈ g.ms.map core, c.pr = none ∧ c.pin = 0 ∧ c.rt = none := fun c hc => by
    obtain ⟨s, hs, rfl⟩ := List.mem_map.mp hc
    obtain ⟨j, hj⟩ := List.getElem?_of_mem hs
    obtain ⟨_, b, c, d, _⟩ := h.all j s hj
    exact ⟨b, c, d⟩
  have ar : ∀ (i : Nat) (c : Cr), (g.ms.map core)[i]? = some c → c.rt = none := fun i c e => (al c (List.mem_of_getElem? e)).2.2
  refine ⟨hg, fun i s r hs hr => ?_, ⟨fun c hc z => ?_, fun i c e _ T z => ?_, fun i c T e => ?_, fun i c T e => ?_, fun m hm => ?_, fun m hm p e => ?_, fun m hm p e => ?_, fun m hm T e => ?_, (fun e he => by cases he), fun c e => ?_⟩, hn, List.length_replicate, Int.le_refl 0, (by rw [h.ds]; intro d hd; cases hd), le1, le2⟩
  · have er : r = 0 := List.eq_of_mem_replicate (List.mem_of_getElem? hr)
    subst er
    exact (h.all i s hs).2.2.2.2.2 (by have := (List.getElem?_eq_some_iff.mp hs).1; omega)
  · rw [(al c hc).2.2] at z; cases z
  · rw [ar i c e] at z; cases z
  · rw [h.ch] at e; cases e
  · rw [h.ch] at e; cases e
  · rw [(al m hm).2.1, h.rg]; exact Int.le_refl 0
  · rw [(al m hm).1] at e; cases e
  · rw [(al m hm).1] at e; cases e
  · rw [(al m hm).2.2] at e; cases e
  · rw [h.ch] at e; cases e

theorem Beg8.p {g : GS} {n : Nat} (h : Beg8 g n) (hn : g.ms.length = n) (n1 : 0 < n) : P31 g := by
  have al : ∀ s ∈ g.ms, s.rt = none ∧ s.st.isSome = true ∧ s.sp.isSome = true := fun s hs => by
    obtain ⟨j, hj⟩ := List.getElem?_of_mem hs
    obtain ⟨_, _, _, d, _, f⟩ := h.all j s hj
    have z := f (by have := (List.getElem?_eq_some_iff.mp hj).1; omega)
    obtain ⟨y, _, e1, _⟩ := z.ex
    refine ⟨d, by rw [e1]; rfl, ?_⟩
    rw [z.sp]
    unfold spOf
    rw [e1]
    rfl
  refine ⟨fun s hs => ?_, fun s hs r => ?_, fun s hs => (al s hs).2, ?_, fun c hc => ?_, h.lo, fun d hd => ?_⟩
  · rw [h.hz s hs, h.ds]
    decide
  · rw [(al s hs).1] at r
    cases r
  · have e : (g.ms.map fun s => s.has).filter (fun h => decide (h = (g.ds.length : Int))) = g.ms.map fun s => s.has := by
      rw [List.filter_eq_self]
      intro v hv
      obtain ⟨s, hs, rfl⟩ := List.mem_map.mp hv
      rw [h.ds]
      exact decide_eq_true (h.hz s hs)
    rw [e, List.length_map]
    omega
  · rw [h.ch] at hc
    cases hc
  · rw [h.ds] at hd
    cases hd
theorem map_all {α : Type} {f : MS → α} {c : α} : ∀ {ms : List MS}, (∀ s ∈ ms, f s = c) → ms.map f = List.replicate ms.length c
  | [], _ => rfl
  | s :: r, h => by
    rw [List.map_cons, List.length_cons, List.replicate_succ, h s (List.mem_cons_self ..), map_all fun u hu => h u (List.mem_cons_of_mem _ hu)]
/-- the model that was made stands beside the group begun -/
theorem Beg8.md {K : PySem.W.Frag} {H : Hp} {M : MA} {g : GS} {n i : Nat} (h : Beg8 g i) (hn : g.ms.length = n) {le : Int} {ch : Option Int} {ln lo : Bool} (m : MdAt K H M ⟨List.replicate n MS.new, le, 0, ch, [], ln, lo⟩) : MdAt K H M g := by
  have al : ∀ s ∈ g.ms, s.up = true ∧ s.pr = none ∧ s.pin = 0 ∧ s.rt = none := fun s hs => by
    obtain ⟨j, hj⟩ := List.getElem?_of_mem hs
    obtain ⟨a, b, c, d, _⟩ := h.all j s hj
    exact ⟨a, b, c, d⟩
  refine m.of (by rw [h.rg]) (by rw [h.ds]) ?_ ?_ ?_ ?_ ?_
  · show _ = (List.replicate n MS.new).map _
    rw [rep_map, map_all (c := V.bl true) fun s hs => by rw [(al s hs).1], hn]
    rfl
  · show _ = (List.replicate n MS.new).map _
    rw [rep_map, map_all (c := V.int 0) fun s hs => by rw [h.hz s hs], hn]
    rfl
  · show _ = (List.replicate n MS.new).map _
    rw [rep_map, map_all (c := V.non) fun s hs => by rw [(al s hs).2.1]; rfl, hn]
    rfl
  · show _ = (List.replicate n MS.new).map _
    rw [rep_map, map_all (c := V.int 0) fun s hs => by rw [(al s hs).2.2.1], hn]
    rfl
  · show _ = (List.replicate n MS.new).map _
    rw [rep_map, map_all (c := V.non) fun s hs => by rw [(al s hs).2.2.2]; rfl, hn]
    rfl
section
variable {K : PySem.W.Frag} {CG : Addr} {H H' : Hp} {x : Addr} {A A' : GA} {n : Nat} {g g' : GS} {rs : List Int} {now : Int} {fs : List Int}
theorem W30.frS {S : List Addr} (h : W30 K CG H x A n g rs now fs) (k : FrS S H H') (m : MutS S H) (nA : ∀ c ∈ ownG x A, ¬ c ∈ S) : W30 K CG H' x A n g rs now fs :=
  ⟨h.at_.frS k m nA h.ds, h.ck, h.r, h.n_, h.rn, h.n0, h.ds, h.le1, h.le2⟩
/-- what the law of heads doesn't look at may change -/
theorem W30.cored (h : W30 K CG H x A n g rs now fs) (ec : g'.ms.map core = g.ms.map core) (eg : g'.rg = g.rg) (eh : g'.ch = g.ch) (el : g'.le = g.le) (fl : ∀ d ∈ g'.ds, flatT d = true)
    (ck : ∀ (j : Nat) (u : MS), g'.ms[j]? = some u → ∃ s, g.ms[j]? = some s ∧ u.st = s.st ∧ u.n = s.n ∧ u.sp = s.sp) (hg : GroupAt K CG H' x A' 1 10 g') : W30 K CG H' x A' n g' rs now fs := by
  refine ⟨hg, fun j u r hu hr => ?_, ?_, ?_, h.rn, h.n0, fl, by rw [el]; exact h.le1, by rw [el]; exact h.le2⟩
  · obtain ⟨s, e1, f1, f2, f3⟩ := ck j u hu
    exact (h.ck j s r e1 hr).of f1 f2 f3
  · rw [ec, eg, eh]; exact h.r
  · have := congrArg List.length ec
    rw [List.length_map, List.length_map] at this
    rw [this]; exact h.n_
theorem wrote_core (g : GS) (d : PyData) : (wroteG g d).ms.map core = g.ms.map core := wrote_map g d fun _ _ => rfl
theorem wrote_at {d : PyData} {j : Nat} {u : MS} (h : (wroteG g d).ms[j]? = some u) : ∃ s, g.ms[j]? = some s ∧ u.st = s.st ∧ u.n = s.n ∧ u.sp = s.sp := by
  unfold wroteG at h
  rw [List.getElem?_map] at h
  obtain ⟨s, e, rfl⟩ := Option.map_eq_some_iff.mp h
  refine ⟨s, e, ?_⟩
  cases isWr g s with
  | true => exact ⟨rfl, rfl, rfl⟩
  | false => exact ⟨rfl, rfl, rfl⟩
theorem set_at {i j : Nat} {s s' u : MS} (hs : g.ms[i]? = some s) (e1 : s'.st = s.st) (e2 : s'.n = s.n) (e3 : s'.sp = s.sp) (h : (g.ms.set i s')[j]? = some u) : ∃ s, g.ms[j]? = some s ∧ u.st = s.st ∧ u.n = s.n ∧ u.sp = s.sp := by
  rw [List.getElem?_set] at h
  by_cases c : i = j
  · subst c
    rw [if_pos rfl, if_pos (List.getElem?_eq_some_iff.mp hs).1] at h
    cases h
    exact ⟨s, hs, e1, e2, e3⟩
  · rw [if_neg c] at h
    exact ⟨u, h, rfl, rfl, rfl⟩
theorem W30.write (h : W30 K CG H x A n g rs now fs) {d : PyData} (fd : flatT d = true) (hg : GroupAt K CG H' x A' 1 10 (wroteG g d)) : W30 K CG H' x A' n (wroteG g d) rs now fs :=
  h.cored (wrote_core g d) rfl rfl rfl (fun e he => by
    rcases List.mem_append.mp (show e ∈ g.ds ++ [d] from he) with z | z
    · exact h.ds e z
    · rw [List.mem_singleton.mp z]; exact fd) (fun j u hu => wrote_at hu) hg
theorem W30.setHas (h : W30 K CG H x A n g rs now fs) {i : Nat} {s : MS} {k : Int} (hs : g.ms[i]? = some s) (hg : GroupAt K CG H' x A' 1 10 { g with ms := g.ms.set i { s with has := k } }) : W30 K CG H' x A' n { g with ms := g.ms.set i { s with has := k } } rs now fs :=
  h.cored (map_same (f := core) (s := s) (s' := { s with has := k }) hs rfl) rfl rfl rfl h.ds (fun j u hu => set_at (s' := { s with has := k }) hs rfl rfl rfl hu) hg
theorem W30.clk (h : W30 K CG H x A n g rs now fs) {i : Nat} {s s' : MS} {r' : Int} (hs : g.ms[i]? = some s) (ec : core s' = core s) (ck : Ck30 s' r' now) (hg : GroupAt K CG H' x A' 1 10 { g with ms := g.ms.set i s' }) : W30 K CG H' x A' n { g with ms := g.ms.set i s' } (rs.set i r') now fs := by
  have il := (List.getElem?_eq_some_iff.mp hs).1
  refine ⟨hg, fun j u v hu hv => ?_, ?_, (by show (g.ms.set i s').length = n; rw [List.length_set]; exact h.n_), (by rw [List.length_set]; exact h.rn), h.n0, h.ds, h.le1, h.le2⟩
  · have hu : (g.ms.set i s')[j]? = some u := hu
    rw [List.getElem?_set] at hu hv
    by_cases c : i = j
    · subst c
      rw [if_pos rfl, if_pos il] at hu
      rw [if_pos rfl, if_pos (by rw [h.rn, ← h.n_]; exact il)] at hv
      cases hu
      cases hv
      exact ck
    · rw [if_neg c] at hu hv
      exact h.ck j u v hu hv
  · show R30 ((g.ms.set i s').map core) g.rg g.ch now fs
    rw [map_same hs ec]
    exact h.r
end
section
variable {K : PySem.W.Frag} {CG : Addr} {H H' : Hp} {x : Addr} {A : GA} {n : Nat} {g : GS} {rs : List Int} {now : Int} {fs : List Int}
theorem W30.clockv (h : W30 K CG H x A n g rs now fs) {i : Nat} {s : MS} (hs : g.ms[i]? = some s) : ∃ z : Int × Int, s.st = some z ∧ s.sp = some (z.1 + leastP s.n 1 10, z.2 + mostP s.n 1 10) := by
  have il := (List.getElem?_eq_some_iff.mp hs).1
  have e := List.getElem?_eq_getElem (l := rs) (i := i) (by rw [h.rn, ← h.n_]; exact il)
  have c := h.ck i s _ hs e
  obtain ⟨z, _, e1, _⟩ := c.ex
  refine ⟨z, e1, ?_⟩
  rw [c.sp]
  unfold spOf
  rw [e1]
  rfl
/-- who rules -/
theorem W30.heads (h : W30 K CG H x A n g rs now fs) {k : Nat} (hk : k ∈ pickG mayR g) : ∃ (s : MS) (T : Int), g.ms[k]? = some s ∧ s.rt = some T ∧ now < T ∧ s.up = true ∧ g.ch = some (k : Int) ∧ Most (g.ms.map core) T := by
  obtain ⟨s, hs⟩ := getM (is_lt k hk)
  have hm := (List.mem_filter.mp hk).2
  rw [atG_of hs] at hm
  obtain ⟨z, ez, _, z2, _⟩ := h.span hs
  unfold mayR at hm
  cases e : s.rt with
  | none => rw [e] at hm; cases hm
  | some T =>
    rw [e, ez] at hm
    have lt : now < T := by have := of_decide_eq_true hm; omega
    have ch := h.r.head (core_of hs) e lt
    exact ⟨s, T, hs, e, lt, h.r.up (core s) (List.mem_of_getElem? (core_of hs)) (by show s.rt.isSome = true; rw [e]; rfl), ch, h.r.cho k (core s) T ch (core_of hs) e⟩
theorem W30.one (h : W30 K CG H x A n g rs now fs) : (pickG mayR g).length ≤ 1 := by
  have nd := pick_nodup g mayR
  have all : ∀ a ∈ pickG mayR g, ∀ b ∈ pickG mayR g, a = b := fun a ha b hb => by
    obtain ⟨_, _, _, _, _, _, c1, _⟩ := h.heads ha
    obtain ⟨_, _, _, _, _, _, c2, _⟩ := h.heads hb
    rw [c1] at c2
    have := Option.some.inj c2
    omega
  generalize pickG mayR g = l at nd all
  match l, nd, all with
  | [], _, _ => exact Nat.zero_le _
  | [a], _, _ => exact Nat.le_refl _
  | a :: b :: r, nd, all =>
    exfalso
    have e := all a (List.mem_cons_self ..) b (List.mem_cons_of_mem _ (List.mem_cons_self ..))
    rw [List.nodup_cons] at nd
    exact nd.1 (e ▸ List.mem_cons_self ..)
end

theorem Clk.of_ {g g2 gm : GS} (c : Clk g gm) (hl : g2.ms.length = g.ms.length) (h : ∀ (j : Nat) (s : MS), g.ms[j]? = some s → ∃ u, g2.ms[j]? = some u ∧ u.st = s.st ∧ u.n = s.n) : Clk g2 gm :=
  ⟨c.len.trans hl.symm, fun i s hs => by
    obtain ⟨u, z, a, b, d⟩ := c.at_ i s hs
    obtain ⟨u2, e1, e2, e3⟩ := h i u a
    exact ⟨u2, z, e1, e2.trans b, by rw [e3]; exact d⟩, c.up, c.p0⟩
theorem W30.clkG {K : PySem.W.Frag} {CG : Addr} {H : Hp} {x : Addr} {A : GA} {n : Nat} {g : GS} {rs : List Int} {now : Int} {fs : List Int} (h : W30 K CG H x A n g rs now fs) : Clk g g :=
  ⟨rfl, fun i s hs => by
    obtain ⟨z, a, b⟩ := h.clockv hs
    exact ⟨s, z, hs, a, b⟩, fun s hs r => h.r.up (core s) (List.mem_map.mpr ⟨s, hs, rfl⟩) r, fun s hs p e => by
    have := h.r.p0 (core s) (List.mem_map.mpr ⟨s, hs, rfl⟩) p e
    omega⟩
theorem W30.first {K : PySem.W.Frag} {CG : Addr} {H : Hp} {x : Addr} {A : GA} {n : Nat} {g : GS} {rs : List Int} {now : Int} {fs : List Int} (h : W30 K CG H x A n g rs now fs) : (headOf g = none ∧ pickG mayR g = []) ∨ ∃ i : Nat, headOf g = some (i : Int) ∧ pickG mayR g = [i] := by
  have all : ∀ k ∈ pickG mayR g, g.ch = some (k : Int) ∧ headOf g = some (k : Int) := fun k hk => by
    obtain ⟨s, T, hs, _, _, _, hc, _⟩ := h.heads hk
    have hm := (List.mem_filter.mp hk).2
    refine ⟨hc, ?_⟩
    unfold headOf
    rw [hc]
    show (if atG mayR g (k : Int).toNat = true then some (k : Int) else none) = _
    rw [Int.toNat_natCast, if_pos hm]
  have one := h.one
  match e : pickG mayR g, one with
  | [], _ =>
    refine .inl ⟨?_, rfl⟩
    cases e2 : headOf g with
    | none => rfl
    | some c =>
      obtain ⟨i, s, T, _, _, hs, _, hm⟩ := head_at h.ok e2
      have : i ∈ pickG mayR g := List.mem_filter.mpr ⟨List.mem_range.mpr (List.getElem?_eq_some_iff.mp hs).1, by rw [atG_of hs]; exact hm⟩
      rw [e] at this
      cases this
  | [i], _ => exact .inr ⟨i, (all i (by rw [e]; exact List.mem_cons_self ..)).2, rfl⟩
  | _ :: _ :: _, one => simp at one
theorem W30.can {K : PySem.W.Frag} {CG : Addr} {H : Hp} {x : Addr} {A : GA} {n : Nat} {g : GS} {rs : List Int} {now : Int} {fs : List Int} (h : W30 K CG H x A n g rs now fs) : wCond g ↔ canW g = true := by
  unfold wCond canW
  rw [Bool.and_eq_true, decide_eq_true_eq]
  rcases h.first with ⟨a, b⟩ | ⟨i, a, b⟩
  · rw [a, b]; simp
  · rw [a, b]; simp
/-- a group, the law's own beside it -/
structure T28 (K : PySem.W.Frag) (CG : Addr) (H : Hp) (x : Addr) (A : GA) (M : MA) (n : Nat) (g : GS) (rs : List Int) (now : Int) : Prop where
  w : W30 K CG H x A n g rs now []
  p : P31 g
  md : MdAt K H M g
  ap : ∀ c ∈ ownG x A, ¬ c ∈ M.all
  mks : ∀ d ∈ g.ds, MarkD d
section
variable {K : PySem.W.Frag} {CG : Addr} {H H' : Hp} {x : Addr} {A A' : GA} {M : MA} {n : Nat} {g g' : GS} {rs : List Int} {now : Int}
theorem T28.frS {S : List Addr} (h : T28 K CG H x A M n g rs now) (k : FrS S H H') (m : MutS S H) (nA : ∀ c ∈ ownG x A, ¬ c ∈ S) (nM : ∀ c ∈ M.all, ¬ c ∈ S) : T28 K CG H' x A M n g rs now :=
  ⟨h.w.frS k m nA, h.p, h.md.frS k m nM, h.ap, h.mks⟩
theorem T28.same (h : T28 K CG H x A M n g rs now) (k : Same H H') : T28 K CG H' x A M n g rs now := ⟨h.w.same k, h.p, h.md.same k, h.ap, h.mks⟩
/-- what the law's own still has when the program's has gone on -/
theorem ap_out (ap : ∀ c ∈ ownG x A, ¬ c ∈ M.all) (md : MutS M.all H) (nx : Nx (ownG x A) H (ownG x A') H') : ∀ c ∈ ownG x A', ¬ c ∈ M.all := fun c hc z => by
  obtain ⟨o, e, _⟩ := md c z
  exact (nx.out (fun y => ap c y z) e).1 hc
theorem md_out (ap : ∀ c ∈ ownG x A, ¬ c ∈ M.all) (md : MdAt K H M g) (mu : MutS (ownG x A) H) (nx : Nx (ownG x A) H (ownG x A') H') : MdAt K H' M g := md.frS nx.fr mu fun c z y => ap c y z
end
def own8 (x : Addr) (A : GA) (M : MA) : List Addr := ownG x A ++ M.all
theorem nx_g {x : Addr} {A A' : GA} {M : MA} {H H' : Hp} (n : Nx (ownG x A) H (ownG x A') H') : Nx (own8 x A M) H (own8 x A' M) H' := n.wid (fun c z => List.mem_append_left _ z) fun c z => (List.mem_append.mp z).imp id (List.mem_append_right _)
theorem nx_m {x : Addr} {A : GA} {M : MA} {H H' : Hp} (n : Nx M.all H M.all H') : Nx (own8 x A M) H (own8 x A M) H' := n.wid (fun c z => List.mem_append_right _ z) fun c z => .inr z
section
variable (K : PySem.W.Frag) (CG : Addr)
def spTick8 : Sp := fun vs H Q _ => ∃ (s x r q : Addr) (A : GA) (now : Int) (n : Nat) (g : GS) (rs ps : List Int), vs = [.ref s, .ref x, .int now, .ref r] ∧ StAt H s ∧ W30 K CG H x A n g rs now [] ∧ P31 g ∧ RestAt H r q rs ps ∧ s ≠ r ∧ s ≠ q ∧ ¬ s ∈ A.all ∧ ¬ r ∈ A.all ∧
  ∀ (m : Int) (H' : Hp) (A' : GA) (g' : GS) (rs' : List Int), 0 ≤ m → m ≤ 400 → Ow H A A' → W30 K CG H' x A' n g' rs' (now + m) [] → P31 g' → (∀ M H0, MdAt K H0 M g → MdAt K H0 M g') → g'.le = g.le → g'.ds = g.ds → g'.lent = g.lent → RestAt H' r q rs' ps → (∀ c o, c ≠ s → c ≠ x → c ≠ r → H c = some o → H' c = some o) → StAt H' s → Q (.int (now + m)) H'
def spBegin8 : Sp := fun vs H Q _ => ∃ (s x : Addr) (A : GA) (n : Nat) (g : GS), vs = [.ref s, .ref x] ∧ StAt H s ∧ GroupAt K CG H x A 1 10 g ∧ Beg8 g 0 ∧ g.ms.length = n ∧ ¬ s ∈ A.all ∧
  ∀ (r q : Addr) (A' : GA) (H' : Hp) (g' : GS) (ps : List Int), Ow H A A' → GroupAt K CG H' x A' 1 10 g' → Beg8 g' n → g'.ms.length = n → g'.le = g.le → RestAt H' r q (List.replicate n 0) ps → H r = none → H q = none → ¬ r ∈ A'.all → ¬ q ∈ A'.all → (∀ c o, c ≠ s → c ≠ x → H c = some o → H' c = some o) → StAt H' s → Q (.ref r) H'
end
section
variable {K : PySem.W.Frag} {CG : Addr} {H H' : Hp} {x : Addr} {A A' : GA} {M : MA} {n : Nat} {g g' : GS} {rs : List Int} {now : Int}
theorem P31.renew (h : P31 g) {i : Nat} {s : MS} {S till : Int} (hs : g.ms[i]? = some s) (hS : s.rt = some S) (ec : g.ch = some (i : Int)) : P31 (renG g i s till) := by
  have il := (List.getElem?_eq_some_iff.mp hs).1
  have h1 : P31 { g with ms := g.ms.set i { s with rt := some till } } := h.set (s' := { s with rt := some till }) hs rfl (fun _ => ⟨by rw [hS]; rfl, rfl⟩) (h.cl s (List.mem_of_getElem? hs))
  have h2 := h1.prom (pickG (mayN g) g) till g.rg g.rg (i : Int) ⟨by omega, by show (i : Int) < (g.ms.set i _).length; rw [List.length_set]; omega⟩
  have e : renG g i s till = { g with rg := g.rg, ch := some (i : Int), ms := promL (g.ms.set i { s with rt := some till }) (pickG (mayN g) g) till g.rg } := by
    unfold renG
    rw [← ec]
  rw [e]
  exact h2
theorem ren_fw {i : Nat} {s : MS} {till : Int} (hs : g.ms[i]? = some s) : (renG g i s till).ms.length = g.ms.length ∧ ∀ (j : Nat) (u : MS), g.ms[j]? = some u → ∃ v, (renG g i s till).ms[j]? = some v ∧ v.st = u.st ∧ v.n = u.n := by
  have ln : (renG g i s till).ms.length = g.ms.length := by
    show (promL (g.ms.set i _) _ _ _).length = _
    rw [promL_len, List.length_set]
  refine ⟨ln, fun j u hu => ?_⟩
  obtain ⟨v, hv⟩ := getM (ms := (renG g i s till).ms) (i := j) (by rw [ln]; exact (List.getElem?_eq_some_iff.mp hu).1)
  obtain ⟨w, e1, f1, f2, _⟩ := prom_ck (show (promL (g.ms.set i { s with rt := some till }) (pickG (mayN g) g) till g.rg)[j]? = some v from hv)
  obtain ⟨y, k1, k2, k3, _⟩ := set_at (s' := { s with rt := some till }) hs rfl rfl rfl e1
  rw [hu] at k1
  cases k1
  exact ⟨v, hv, by rw [f1, k2], by rw [f2, k3]⟩
theorem GOk.put {g : GS} (h : GOk g) (b : Bool) : GOk { g with lent := b } := ⟨h.rt, h.ch⟩
theorem T28.lent (h : T28 K CG H x A M n g rs now) (b : Bool) (k : FrS [x] H H') (hg : GroupAt K CG H' x A 1 10 { g with lent := b }) : T28 K CG H' x A M n { g with lent := b } rs now := by
  have m : MutS [x] H := fun c hc => by rw [List.mem_singleton.mp hc]; exact h.w.at_.mut x (List.mem_cons_self ..)
  have nM : ∀ c ∈ M.all, ¬ c ∈ [x] := fun c z y => by rw [List.mem_singleton.mp y] at z; exact h.ap x (List.mem_cons_self ..) z
  exact ⟨h.w.cored rfl rfl rfl rfl h.w.ds (fun j u hu => ⟨u, hu, rfl, rfl, rfl⟩) hg, ⟨h.p.hb, h.p.rt, h.p.cl, h.p.most, h.p.ch, h.p.lo, h.p.fl⟩, (h.md.frS k m nM).of rfl rfl rfl rfl rfl rfl rfl, h.ap, h.mks⟩
end
section
variable (K : PySem.W.Frag) (CG : Addr)
def spSet8 : Sp := fun vs H Q _ => ∃ (s x r q : Addr) (A : GA) (now : Int) (n : Nat) (g : GS) (rs ps fs : List Int), vs = [.ref s, .ref x, .int now, .ref r] ∧ StAt H s ∧ W30 K CG H x A n g rs now fs ∧ P31 g ∧ RestAt H r q rs ps ∧ s ≠ r ∧ s ≠ q ∧ ¬ s ∈ A.all ∧ ¬ r ∈ A.all ∧ ¬ q ∈ A.all ∧
  ∀ (H' : Hp) (A' : GA) (g' : GS) (rs' ps' : List Int), Ow H A A' → W30 K CG H' x A' n g' rs' now fs → P31 g' → (∀ M H0, MdAt K H0 M g → MdAt K H0 M g') → g'.le = g.le → g'.ds = g.ds → RestAt H' r q rs' ps' → (∀ c o, c ≠ s → c ≠ x → c ≠ r → c ≠ q → H c = some o → H' c = some o) → StAt H' s → Q .non H'
end

theorem ok_l_begun {P : Program} {w : World} {K : PySem.W.Frag} {mg : Str → Option Value} {base : Heap} {a : Nat → Addr} {d : Nat → FuncData} (T : Txt K mg a d) : FnOk P w K mg base CX0 1 (a 45) (d 45) ["_law_script", "_law_k"] (spBegun K) := by
  refine T.F_l_begun.ok sc_l_begun (fun vs H Q E h => ?_) (fun cdv A outer s0 H vs Q E hr h => ?_)
  · obtain ⟨l, ns, k, rfl, hS, hl, hk0, hk1, q⟩ := h
    rfl
  · obtain ⟨l, ns, k, rfl, hS, hl, hk0, hk1, q⟩ := h
    have hc := cell_at ns (some k) (some (k + 1))
    obtain ⟨c, hc⟩ := hc
    refine ⟨_, (pss_cons (ps_set (i := 2) sc_l_begun.nd rfl (Or.inl rfl) (pe_ix ix_list (pe_op op_cat (pe_slice sl_list (pv 0) (po_some (pv 1)) (po_some (pe_op op_add (pv 1) pe_int))) (pe_lst (pa_cons pe_int pa_nil))) pe_int (fun _ _ => rfl))) (pss_cons (ps_set (i := 3) sc_l_begun.nd rfl (Or.inl rfl) (pe_callB (call_max2 rfl) (by rfl) T.z_max (by decide +kernel) (pa_cons (pv 2) (pa_cons (pe_op op_sub (pe_un un_neg pe_int) (pv 2)) pa_nil)))) (pss_cons (ps_set (i := 4) sc_l_begun.nd rfl (Or.inl rfl) (pe_op op_mod (pe_op op_add (pe_op op_add (pe_op op_add (pe_op op_mod (pv 3) pe_int) (pe_op op_mul pe_int (pv 1))) (pe_op op_mul (pe_op op_mul pe_int (pv 1)) (pv 1))) pe_int) pe_int)) (pss_one (ps_ret (pe_lst (pa_cons (pv 3) (pa_cons (pv 4) (pa_cons (pe_cmpR op_ge (pv 3) (pe_op op_pow pe_int pe_int) (nomark _)) pa_nil))))))))), ?_⟩
    refine ⟨_, rfl, _, rfl, k, rfl, _, rfl, k, 1, rfl, rfl, k + 1, rfl, l, _, rfl, hS, fun p1 n1 => ?_⟩
    refine ⟨len1, fun p2 n2 => ?_⟩
    have n12 : p1 ≠ p2 := fun e => by rw [e] at n1; rw [← e, upd_same] at n2; cases n2
    refine ⟨p1, p2, _, _, rfl, rfl, (by rw [upd_ne n12]; exact upd_same), upd_same, ?_, fun p3 n3 => ?_⟩
    · have z := cut_len (ns.map V.int) (some k) (some (k + 1))
      rw [List.length_map] at z
      exact Nat.le_trans (Nat.add_le_add_right (Nat.le_trans z hl) 1) (by decide)
    refine ⟨p3, _, 0, _, rfl, rfl, SqL.of upd_same, hc, ?_⟩
    refine ⟨_, rfl, 1, rfl, _, rfl, -1, c, rfl, rfl, c, -1 - c, rfl, ?_⟩
    refine ⟨_, rfl, _, _, rfl, rfl, (by show (0 : Int) < 2147483629; decide), _, rfl, 7919, k, rfl, rfl, .inl (m64 (by decide) (by decide)), _, _, rfl, rfl, ?_⟩
    refine ⟨_, rfl, 104729, k, rfl, rfl, .inl (m64 (by decide) (by decide)), _, rfl, _, k, rfl, rfl, .inr (m64 (by omega) (by omega)), _, _, rfl, rfl, _, 11, rfl, rfl, _, _, rfl, rfl, (by show (0 : Int) < 2147483629; decide), ?_⟩
    refine ⟨_, rfl, _, rfl, _, rfl, 10, 18, rfl, rfl, ⟨by decide, by decide, by decide⟩, _, _, rfl, rfl, len3, fun p4 n4 => ?_⟩
    refine q p4 _ (Same.free (same_new (same_new (same_new (Same.refl H) n1) n2) n3) n4) (same_new (same_new (same_new (same_new (Same.refl H) n1) n2) n3) n4) ⟨_, _, _, upd_same, ?_, ?_⟩
    · exact Int.emod_nonneg _ (by decide)
    · exact Int.lt_trans (Int.emod_lt_of_pos _ (by decide)) (by decide)

theorem ok_l_take {P : Program} {w : World} {K : PySem.W.Frag} {mg : Str → Option Value} {base : Heap} {a : Nat → Addr} {d : Nat → FuncData} (T : Txt K mg a d) : FnOk P w K mg base CX0 1 (a 46) (d 46) ["_law_state", "_law_many"] spTake := by
  refine T.F_l_take.ok sc_l_take (fun vs H Q E h => ?_) (fun cdv A outer s0 H vs Q E hr h => ?_)
  · obtain ⟨s, m, rfl, ⟨x, y, c, hs, y0, y1⟩, m0, m1, q⟩ := h
    rfl
  · obtain ⟨s, m, rfl, ⟨x, y, c, hs, y0, y1⟩, m0, m1, q⟩ := h
    refine ⟨_, (pss_cons (ps_if (pt_truth (pe_ix ix_list (pv 0) pe_int (fun _ _ => rfl)) (by intro _; rfl)) (pss_cons (ps_set (i := 2) sc_l_take.nd rfl (Or.inl rfl) (pe_op op_mod (pe_ix ix_list (pv 0) pe_int (fun _ _ => rfl)) (pv 1))) (pss_cons (ps_asg (pe_op op_fdivW (pe_ix ix_list (pv 0) pe_int (fun _ _ => rfl)) (pv 1)) (pg_sub (pv 0) pe_int set_list)) (pss_cons (ps_asg (pe_cmpR op_gt (pe_ix ix_list (pv 0) pe_int (fun _ _ => rfl)) pe_int (nomark _)) (pg_sub (pv 0) pe_int set_list)) (pss_one (ps_ret (pv 2)))))) pss_nil) (pss_cons (ps_set (i := 3) sc_l_take.nd rfl (Or.inl rfl) pe_int) (pss_cons (ps_for PassesOwn.never rfl (pi_range1 (by rfl) T.z_range (pa_cons (pe_op op_add pe_int (pe_callTy call_int1 (by rfl) T.z_int (by decide +kernel) (pa_cons (pe_cmpR op_gt (pv 1) (pe_op op_pow pe_int pe_int) (nomark _)) pa_nil))) pa_nil)) (pg_name (i := 4) sc_l_take.nd rfl (.inl rfl)) (pss_cons (ps_asg (pe_op op_mod (pe_op op_add (pe_op op_mul (pe_ix ix_list (pv 0) pe_int (fun _ _ => rfl)) pe_int) pe_int) pe_int) (pg_sub (pv 0) pe_int set_list)) (pss_one (ps_set (i := 3) sc_l_take.nd rfl (Or.inl rfl) (pe_op op_add (pe_op op_mul (pv 3) pe_int) (pe_op op_mod (pe_op op_mul (pe_ix ix_list (pv 0) pe_int (fun _ _ => rfl)) (pe_ix ix_list (pv 0) pe_int (fun _ _ => rfl))) pe_int)))))) (pss_one (ps_ret (pe_op op_mod (pe_op op_fdiv (pv 3) pe_int) (pv 1))))))), ?_⟩
    refine ⟨_, rfl, s, _, 2, _, rfl, rfl, SqL.of hs, rfl, c, rfl, ?_⟩
    cases c with
    | true =>
      refine iteT ?_
      refine ⟨_, rfl, s, _, 0, _, rfl, rfl, SqL.of hs, rfl, _, rfl, x, m, rfl, rfl, m0, ?_⟩
      refine ⟨_, rfl, s, _, 0, _, rfl, rfl, SqL.of hs, rfl, _, rfl, x, m, rfl, rfl, divW m0 m1, _, rfl, s, _, 0, 0, rfl, rfl, hs, rfl, ?_⟩
      refine ⟨_, rfl, s, _, 0, _, rfl, rfl, SqL.of upd_same, rfl, _, 0, rfl, rfl, _, rfl, s, _, 2, 2, rfl, rfl, upd_same, rfl, ?_⟩
      refine ⟨_, rfl, ?_⟩
      refine q _ _ (Int.emod_nonneg _ (by omega)) (Int.emod_lt_of_pos _ m0) ⟨fun b o n e => ?_, ⟨_, _, _, upd_same, y0, y1⟩⟩
      rw [upd_ne n, upd_ne n]
      exact e
    | false =>
      refine iteF ?_
      refine ⟨_, rfl, 10, 6, rfl, rfl, ⟨by decide, by decide, by decide⟩, m, _, rfl, rfl, .inr ⟨_, rfl, 1, _, rfl, rfl, _, rfl, ?_, ?_, ?_⟩⟩
      · cases decide ((10 : Int) ^ (6 : Int).toNat < m) <;> decide
      · cases decide ((10 : Int) ^ (6 : Int).toNat < m) <;> decide
      refine for_range (fun i σ H' => ∃ (made : Int) (t : Option V), σ = [some (.ref s), some (.int m), none, some (.int made), t] ∧ Kp s H H') ⟨0, none, rfl, ⟨fun _ _ _ e => e, _, _, _, hs, y0, y1⟩⟩ ?_ ?_
      · rintro i σ H' hi ⟨made, t, rfl, k, ⟨x', y', c', hs', y0', y1'⟩⟩
        refine ⟨_, rfl, s, _, 1, _, rfl, rfl, SqL.of hs', rfl, y', 48271, rfl, rfl, .inr (m64 (by decide) (by decide)), _, 11, rfl, rfl, _, 2147483647, rfl, rfl, (by show (0 : Int) < 2147483647; decide), _, rfl, s, _, 1, 1, rfl, rfl, hs', rfl, ?_⟩
        have e0 : 0 ≤ (y' * 48271 + 11) % 2147483647 := Int.emod_nonneg _ (by decide)
        have e1 : (y' * 48271 + 11) % 2147483647 < 2147483647 := Int.emod_lt_of_pos _ (by decide)
        refine ⟨_, rfl, made, 2147483587, rfl, rfl, .inr (m64 (by decide) (by decide)), _, rfl, s, _, 1, _, rfl, rfl, SqL.of upd_same, rfl, _, rfl, s, _, 1, _, rfl, rfl, SqL.of upd_same, rfl, _, _, rfl, rfl, .inl (m64 (by omega) (by omega)), _, 2147483587, rfl, rfl, (by show (0 : Int) < 2147483587; decide), _, _, rfl, rfl, ?_⟩
        refine ⟨_, _, rfl, ⟨fun b o n e => ?_, _, _, _, upd_same, e0, e1⟩⟩
        rw [upd_ne n]
        exact k b o n e
      · rintro σ H' ⟨made, t, rfl, k⟩
        refine ⟨_, rfl, made, 64, rfl, rfl, ⟨by decide, by decide⟩, _, rfl, _, m, rfl, rfl, m0, ?_⟩
        exact q _ _ (Int.emod_nonneg _ (by omega)) (Int.emod_lt_of_pos _ m0) k

theorem ok_l_tick {P : Program} {w : World} {K : PySem.W.Frag} {mg : Str → Option Value} {base : Heap} {a : Nat → Addr} {d : Nat → FuncData} (T : Txt K mg a d) : FnOk P w K mg base CX0 6 (a 55) (d 55) ["_law_state", "_law_group_here", "_law_now", "_law_rests"] (spTick8 K (a 61)) := by
  refine T.F_l_tick.ok sc_l_tick (fun vs H Q E h => ?_) (fun cdv A outer s0 H vs Q E hr h => ?_)
  · obtain ⟨s, x, r, q, A, now, n, g, rs, ps, rfl, hst, hw, hp31, hr', sr, sq, sA, rA, fin⟩ := h
    rfl
  · obtain ⟨s, x, r, q, A, now, n, g, rs, ps, rfl, hst, hw, hp31, hr', sr, sq, sA, rA, fin⟩ := h
    refine ⟨_, (pss_cons (ps_set (i := 4) sc_l_tick.nd rfl (Or.inl rfl) (pe_ix ix_list (pe_lst (pa_cons pe_int (pa_cons pe_int (pa_cons (pe_call (ok_l_take T) (hr.mono (by decide)) (by rfl) T.g_l_take T.F_l_take.kp T.b_l_take .nil pass0 (pa_cons (pv 0) (pa_cons pe_int pa_nil))) (pa_cons (pe_call (ok_l_take T) (hr.mono (by decide)) (by rfl) T.g_l_take T.F_l_take.kp T.b_l_take .nil pass0 (pa_cons (pv 0) (pa_cons pe_int pa_nil))) (pa_cons (pe_call (ok_l_take T) (hr.mono (by decide)) (by rfl) T.g_l_take T.F_l_take.kp T.b_l_take .nil pass0 (pa_cons (pv 0) (pa_cons pe_int pa_nil))) pa_nil)))))) (pe_call (ok_l_take T) (hr.mono (by decide)) (by rfl) T.g_l_take T.F_l_take.kp T.b_l_take .nil pass0 (pa_cons (pv 0) (pa_cons pe_int pa_nil))) (fun _ _ => rfl))) (pss_cons (ps_for PassesOwn.never rfl (pi_range1 (by rfl) T.z_range (pa_cons (pe_callB (call_lenOwn (ok_Copies___len__ T) (Room.in1 (k := 1) (hr.mono (by decide))) T.m_Copies___len__.at_ T.m_Copies___len__.fn T.b_Copies___len__ pass0) (by rfl) T.z_len PySem.boot_len (pa_cons (pv 1) pa_nil)) pa_nil)) (pg_name (i := 5) sc_l_tick.nd rfl (.inl rfl)) (pss_cons (ps_set (i := 6) sc_l_tick.nd rfl (Or.inl rfl) (pe_op op_add (pe_ix ix_list (pv 3) (pv 5) (fun _ _ => rfl)) (pe_op op_mul (pv 4) (pe_op op_add pe_int (pe_ix ix_list (pe_ix ix_list (pv 3) (pe_un un_neg pe_int) (fun _ _ => rfl)) (pv 5) (fun _ _ => rfl)))))) (pss_cons (ps_expr (pe_meth (pv 1) T.cl T.m_Copies_tick_clock (ok_Copies_tick_clock T) (hr.mono (by decide)) T.b_Copies_tick_clock .nil pass0 (pa_cons (pv 5) (pa_cons (pe_op op_fdiv (pv 6) pe_int) pa_nil)))) (pss_one (ps_asg (pe_op op_mod (pv 6) pe_int) (pg_sub (pv 3) (pv 5) set_list)))))) (pss_one (ps_ret (pe_op op_add (pv 2) (pv 4)))))), ?_⟩
    refine ⟨_, rfl, s, 9, rfl, hst, (by decide), (by decide), fun a1 H1 a10 a11 K1 => ?_⟩
    refine ⟨_, rfl, s, 40, rfl, K1.2, (by decide), (by decide), fun a2 H2 a20 a21 K2 => ?_⟩
    refine ⟨_, rfl, s, 400, rfl, K2.2, (by decide), (by decide), fun a3 H3 a30 a31 K3 => ?_⟩
    refine ⟨(by decide : 5 ≤ sizeLine), fun pc npc => ?_⟩
    have K4 := ((K1.trans K2).trans K3).new (o := .lst [.int 1, .int 2, .int a1, .int a2, .int a3]) npc
    refine ⟨_, rfl, s, 5, rfl, K4.2, (by decide), (by decide), fun a4 H5 a40 a41 K5 => ?_⟩
    have gc : H5 pc = some (.lst [.int 1, .int 2, .int a1, .int a2, .int a3]) := K5.1 _ _ (K3.2.ne_new npc) upd_same
    obtain ⟨m, hm, m0, m1⟩ : ∃ z : Int, atI [V.int 1, V.int 2, V.int a1, V.int a2, V.int a3] a4 = some (V.int z) ∧ 0 ≤ z ∧ z ≤ 400 := by
      have : a4 = 0 ∨ a4 = 1 ∨ a4 = 2 ∨ a4 = 3 ∨ a4 = 4 := by omega
      rcases this with rfl | rfl | rfl | rfl | rfl
      · exact ⟨1, rfl, by decide, by decide⟩
      · exact ⟨2, rfl, by decide, by decide⟩
      · exact ⟨a1, rfl, by omega, by omega⟩
      · exact ⟨a2, rfl, by omega, by omega⟩
      · exact ⟨a3, rfl, by omega, by omega⟩
    refine ⟨pc, _, a4, _, rfl, rfl, SqL.of gc, hm, ?_⟩
    have KK := K4.trans K5
    have hg := hw.at_
    have hn := hw.n_
    have hrn := hw.rn
    obtain ⟨dx0, hx0⟩ := hg.at_
    have sx : s ≠ x := by
      obtain ⟨_, _, _, e, _⟩ := hst
      exact ne_of e hx0 (by intro z; cases z)
    have S5 : ∀ c o, c ≠ s → H c = some o → H5 c = some o := KK.1
    have hg5 : GroupAt K (a 61) H5 x A 1 10 g := by
      have f : Fr s H H5 := S5
      obtain ⟨_, _, _, e, _⟩ := id hst
      refine ⟨⟨dx0, S5 _ _ sx.symm hx0⟩, ?_⟩
      exact hg.ls.frl f e sA hw.fl
    obtain ⟨dx5, hx5⟩ := hg5.at_
    refine ⟨_, rfl, x, dx5, _, rfl, hx5, x, A, 1, 10, g, rfl, hg5, g.ms.length, rfl, (by have := hg5.ls.n5; omega), (n : Int), by rw [hn], by have := hg.ls.n5; omega, by have := hg.ls.n5; omega, ?_⟩
    have rx : r ≠ x := ne_of hr'.hr hx0 (by intro z; cases z)
    have qx : q ≠ x := ne_of hr'.hq hx0 (by intro z; cases z)
    refine for_range (lo := 0) (n := n) (fun j σ H' => (∃ v5 v6 : Option V, σ = [some (.ref s), some (.ref x), some (.int now), some (.ref r), some (.int m), v5, v6]) ∧ ∃ (A' : GA) (g' : GS) (rs' : List Int), Ow H A A' ∧ GroupAt K (a 61) H' x A' 1 10 g' ∧ (∀ (i : Nat) (u : MS) (v : Int), g'.ms[i]? = some u → rs'[i]? = some v → Ck30 u v (if i < j then now + m else now)) ∧ g'.ms.map core = g.ms.map core ∧ (g'.rg = g.rg ∧ g'.ch = g.ch ∧ g'.le = g.le ∧ g'.ds = g.ds) ∧ P31 g' ∧ g'.lent = g.lent ∧ (g'.ms.map (fun s => V.int s.has) = g.ms.map fun s => V.int s.has) ∧ g'.ms.length = n ∧ RestAt H' r q rs' ps ∧ rs'.length = n ∧ StAt H' s ∧ ∀ c o, c ≠ s → c ≠ x → c ≠ r → H c = some o → H' c = some o)
      ⟨⟨none, none, rfl⟩, A, g, rs, ⟨rfl, fun _ z => .inl z⟩, hg5, (fun i u v hu hv => by rw [if_neg (Nat.not_lt_zero i)]; exact hw.ck i u v hu hv), rfl, ⟨rfl, rfl, rfl, rfl⟩, hp31, rfl, rfl, hn, ⟨S5 _ _ sr.symm hr'.hr, S5 _ _ sq.symm hr'.hq, hr'.l, hr'.nr, hr'.np, hr'.ne⟩, hrn, KK.2, fun c o c1 _ _ e => S5 c o c1 e⟩ ?_ ?_
    · rintro j σ H6 hj ⟨⟨v5, v6, rfl⟩, A', g', rs', eA, hg', hck', hco', hcc', hp', hln', hha', hn', hr6, hrn', hst6, f6⟩
      obtain ⟨dx6, hx6⟩ := hg'.at_
      obtain ⟨_, _, _, hso, _⟩ := id hst6
      obtain ⟨ms, hms⟩ := getM (ms := g'.ms) (i := j) (by omega)
      obtain ⟨ra, hra⟩ : ∃ a, rs'[j]? = some a := ⟨_, List.getElem?_eq_getElem (by omega)⟩
      obtain ⟨pa, hpa⟩ : ∃ a, ps[j]? = some a := ⟨_, List.getElem?_eq_getElem (by rw [← hr'.l]; omega)⟩
      have b1 := hr6.nr ra (List.mem_of_getElem? hra)
      have b2 := hr6.np pa (List.mem_of_getElem? hpa)
      refine ⟨_, rfl, _, rfl, r, _, _, _, rfl, rfl, SqL.of hr6.hr, rest_at hra, _, rfl, _, rfl, 1, rfl, r, _, -1, _, rfl, rfl, SqL.of hr6.hr, rest_last, _, rfl, q, _, _, _, rfl, rfl, SqL.of hr6.hq, int_at hpa, 90, pa, rfl, rfl, m, 90 + pa, rfl, rfl, .inl (m64 (by omega) (by omega)), ra, _, rfl, rfl, ?_⟩
      have w0 : 0 ≤ ra + m * (90 + pa) := by
        have := Int.mul_nonneg m0 (show 0 ≤ 90 + pa by omega)
        omega
      refine ⟨_, rfl, x, dx6, _, rfl, hx6, gf_no _ _ (by decide +kernel) (by decide +kernel) (by decide +kernel) (by decide +kernel) (by decide +kernel) (by decide +kernel) (by decide +kernel) (by decide +kernel) (by decide +kernel) (by decide +kernel) (by decide +kernel) (by decide +kernel) (by decide +kernel) (by decide +kernel) (by decide +kernel), _, rfl, _, rfl, (ra + m * (90 + pa)), 100, rfl, rfl, ⟨by decide, by decide⟩, x, A', 1, 10, (ra + m * (90 + pa)) / 100, g', j, ms, by rw [Int.zero_add]; rfl, Int.ediv_nonneg w0 (by decide), hg', hms, fun A7 H7 n7 => ?_⟩
      have r7 := n7.fr _ _ rx hr6.hr
      refine ⟨_, rfl, (ra + m * (90 + pa)), 100, rfl, rfl, (by show (0 : Int) < 100; decide), _, rfl, _, rfl, r, _, _, j, rfl, rfl, r7, ix_nat (by rw [List.length_append, List.length_map]; omega), ?_⟩
      rw [rest_set (by omega)]
      have k : Fr r H7 (upd H7 r (.lst ((rs'.set j ((ra + m * (90 + pa)) % 100)).map V.int ++ [.ref q]))) := (Fr.refl r H7).put
      obtain ⟨dx6', hx6'⟩ := hg'.at_
      have o7 : Ow H A A7 := ⟨n7.ee.trans eA.ee, fun c z => (n7.ow c z).elim (eA.ow c) fun y => by
        cases e : H c with
        | none => exact .inr rfl
        | some o =>
          by_cases c1 : c = s
          · rw [c1, hso] at y; cases y
          · by_cases c2 : c = x
            · rw [c2, hx6] at y; cases y
            · by_cases c3 : c = r
              · rw [c3, hr6.hr] at y; cases y
              · rw [f6 c o c1 c2 c3 e] at y; cases y⟩
      obtain ⟨dx7, hx7⟩ := n7.at_.at_
      refine ⟨⟨_, _, rfl⟩, A7, _, rs'.set j ((ra + m * (90 + pa)) % 100), o7, ⟨⟨dx7, k _ _ rx.symm hx7⟩, n7.at_.ls.frl k r7 (o7.out rA hr'.hr) (by rw [show ({ g' with ms := g'.ms.set j (ms.ticked 1 10 ((ra + m * (90 + pa)) / 100)) } : GS).ds = g'.ds from rfl, hcc'.2.2.2]; exact hw.ds)⟩, (fun i u v hu hv => by
        have hu : (g'.ms.set j (ms.ticked 1 10 ((ra + m * (90 + pa)) / 100)))[i]? = some u := hu
        rw [List.getElem?_set] at hu hv
        by_cases c : j = i
        · subst c
          rw [if_pos rfl, if_pos (by omega)] at hu
          rw [if_pos rfl, if_pos (by omega)] at hv
          cases hu
          cases hv
          rw [if_pos (Nat.lt_succ_self j)]
          have z := hck' j ms ra hms hra
          rw [if_neg (Nat.lt_irrefl j)] at z
          exact z.tick m0 b2.1 b2.2
        · rw [if_neg c] at hu hv
          have z := hck' i u v hu hv
          by_cases c2 : i < j
          · rw [if_pos c2] at z
            rw [if_pos (by omega)]
            exact z
          · rw [if_neg c2] at z
            rw [if_neg (by omega)]
            exact z), (by show (g'.ms.set j _).map core = _; rw [map_same hms (show core (ms.ticked 1 10 ((ra + m * (90 + pa)) / 100)) = core ms from rfl)]; exact hco'), hcc', hp'.tick hms, hln', (by show (g'.ms.set j _).map _ = _; rw [map_same (f := fun s => V.int s.has) hms (show V.int (ms.ticked 1 10 ((ra + m * (90 + pa)) / 100)).has = V.int ms.has from rfl)]; exact hha'), (by show (g'.ms.set j _).length = n; rw [List.length_set]; exact hn'), ⟨upd_same, k _ _ hr'.ne (n7.fr _ _ qx hr6.hq), (by rw [List.length_set]; exact hr6.l), fun a ha => ?_, hr6.np, hr'.ne⟩, (by rw [List.length_set]; exact hrn'), (by obtain ⟨a, b', c, e, y⟩ := hst6; exact ⟨a, b', c, k _ _ sr (n7.fr _ _ sx e), y⟩), fun c o c1 c2 c3 e => ?_⟩
      · rcases List.mem_or_eq_of_mem_set ha with z | rfl
        · exact hr6.nr a z
        · have := Int.emod_nonneg (ra + m * (90 + pa)) (show (100 : Int) ≠ 0 by decide)
          have := Int.emod_lt_of_pos (ra + m * (90 + pa)) (show (0 : Int) < 100 by decide)
          omega
      · exact k _ _ c3 (n7.fr _ _ c2 (f6 c o c1 c2 c3 e))
    · rintro σ H6 ⟨⟨v5, v6, rfl⟩, A', g', rs', eA, hg', hck', hco', hcc', hp', hln', hha', hn', hr6, hrn', hst6, f6⟩
      have cm : ∀ {f : Cr → V}, (g'.ms.map fun s => f (core s)) = g.ms.map fun s => f (core s) := fun {f} => by
        have z := congrArg (List.map f) hco'
        rw [List.map_map, List.map_map] at z
        exact z
      refine ⟨_, rfl, _, rfl, now, m, rfl, rfl, fin m H6 A' g' rs' m0 m1 eA ⟨hg', fun i u v hu hv => ?_, ?_, hn', hrn', by have := hw.n0; omega, (by rw [hcc'.2.2.2]; exact hw.ds), by rw [hcc'.2.2.1]; exact hw.le1, by rw [hcc'.2.2.1]; exact hw.le2⟩ hp' (fun M H0 md => md.of hcc'.1 hcc'.2.2.2 (cm (f := fun c => V.bl c.up)) hha' (cm (f := fun c => oV c.pr)) (cm (f := fun c => V.int c.pin)) (cm (f := fun c => oV c.rt))) hcc'.2.2.1 hcc'.2.2.2 hln' hr6 f6 hst6⟩
      · have z := hck' i u v hu hv
        rw [if_pos (by have := (List.getElem?_eq_some_iff.mp hu).1; omega)] at z
        exact z
      · rw [hco', hcc'.1, hcc'.2.1]
        exact hw.r.tick (by omega)

theorem ok_l_begin_clocks {P : Program} {w : World} {K : PySem.W.Frag} {mg : Str → Option Value} {base : Heap} {a : Nat → Addr} {d : Nat → FuncData} (T : Txt K mg a d) : FnOk P w K mg base CX0 6 (a 56) (d 56) ["_law_state", "_law_group_here"] (spBegin8 K (a 61)) := by
  refine T.F_l_begin_clocks.ok sc_l_begin_clocks (fun vs H Q E h => ?_) (fun cdv A outer s0 H vs Q E hr h => ?_)
  · obtain ⟨s, x, A, n, g, rfl, hst, hg, hb, hn, sA, fin⟩ := h
    rfl
  · obtain ⟨s, x, A, n, g, rfl, hst, hg, hb, hn, sA, fin⟩ := h
    obtain ⟨dx, hx⟩ := hg.at_
    refine ⟨_, (pss_cons (ps_set (i := 2) sc_l_begin_clocks.nd rfl (Or.inl rfl) (pe_op op_cat (pe_lc (own := [("_law_spot", 3)]) (g := gName 3) (te := (tC (.int 0))) (by rfl) sc_l_begin_clocks.nd (pi_range1 (by rfl) T.z_range (pa_cons (pe_callB (call_lenOwn (ok_Copies___len__ T) (Room.in1 (k := 1) (hr.mono (by decide))) T.m_Copies___len__.at_ T.m_Copies___len__.fn T.b_Copies___len__ pass0) (by rfl) T.z_len PySem.boot_len (pa_cons (pv 1) pa_nil)) pa_nil)) (blkOk_by (own := [("_law_spot", 3)]) (N := ["_law_state", "_law_group_here", "_law_rests", "_law_spot"]) (sc := defScope s_l_begin_clocks) (by decide +kernel)) (fun _ _ _ _ _ => (pg_name (i := 3) sc_l_begin_clocks.nd rfl (.inl rfl))) (fun _ _ _ _ _ => pts_nil) (fun _ _ _ _ _ => pe_int)) (pe_lst (pa_cons (pe_lc (own := [("_law_spot", 3)]) (g := gName 3) (te := (tCall spTake [] E0 (tCons (tVar 0) (tCons (tC (.int 21)) tNil)))) (by rfl) sc_l_begin_clocks.nd (pi_range1 (by rfl) T.z_range (pa_cons (pe_callB (call_lenOwn (ok_Copies___len__ T) (Room.in1 (k := 1) (hr.mono (by decide))) T.m_Copies___len__.at_ T.m_Copies___len__.fn T.b_Copies___len__ pass0) (by rfl) T.z_len PySem.boot_len (pa_cons (pv 1) pa_nil)) pa_nil)) (blkOk_by (own := [("_law_spot", 3)]) (N := ["_law_state", "_law_group_here", "_law_rests", "_law_spot"]) (sc := defScope s_l_begin_clocks) (by decide +kernel)) (fun _ _ _ _ _ => (pg_name (i := 3) sc_l_begin_clocks.nd rfl (.inl rfl))) (fun _ _ _ _ _ => pts_nil) (fun _ _ _ _ _ => (pe_call (ok_l_take T) (hr.mono (by decide)) (by rfl) T.g_l_take T.F_l_take.kp T.b_l_take .nil pass0 (pa_cons (pv 0) (pa_cons pe_int pa_nil))))) pa_nil)))) (pss_cons (ps_for PassesOwn.never rfl (pi_range1 (by rfl) T.z_range (pa_cons (pe_callB (call_lenOwn (ok_Copies___len__ T) (Room.in1 (k := 1) (hr.mono (by decide))) T.m_Copies___len__.at_ T.m_Copies___len__.fn T.b_Copies___len__ pass0) (by rfl) T.z_len PySem.boot_len (pa_cons (pv 1) pa_nil)) pa_nil)) (pg_name (i := 3) sc_l_begin_clocks.nd rfl (.inl rfl)) (pss_one (ps_expr (pe_meth (pv 1) T.cl T.m_Copies_set_clock (ok_Copies_set_clock T) (hr.mono (by decide)) T.b_Copies_set_clock .nil pass0 (pa_cons (pv 3) (pa_cons (pe_op op_sub pe_int (pe_call (ok_l_take T) (hr.mono (by decide)) (by rfl) T.g_l_take T.F_l_take.kp T.b_l_take .nil pass0 (pa_cons (pv 0) (pa_cons pe_int pa_nil)))) (pa_cons (pe_call (ok_l_take T) (hr.mono (by decide)) (by rfl) T.g_l_take T.F_l_take.kp T.b_l_take .nil pass0 (pa_cons (pv 0) (pa_cons pe_int pa_nil))) pa_nil))))))) (pss_one (ps_ret (pv 2))))), ?_⟩
    have sx : s ≠ x := by
      obtain ⟨_, _, _, e, _⟩ := id hst
      exact ne_of e hx (by intro z; cases z)
    have n5 := hg.ls.n5
    refine ⟨_, rfl, x, dx, _, rfl, hx, x, A, 1, 10, g, rfl, hg, g.ms.length, rfl, (by have := hg.ls.n5; omega), (n : Int), by rw [hn], by omega, by omega, fun D1 nD1 => ?_⟩
    refine lc_range (lo := 0) (n := n) (fun i H' => Same H H' ∧ H' D1 = some (.lst ((List.replicate i (0 : Int)).map V.int))) ⟨same_new (Same.refl H) nD1, upd_same⟩ ?_ ?_
    · rintro i H1 hi ⟨s1, hD⟩
      refine ⟨rfl, _, hD, ?_, fun c u e => ?_, ?_⟩
      · rw [List.length_map, List.length_replicate]
        exact Nat.lt_of_lt_of_le (show i < 100 by omega) (by decide)
      · rw [upd_ne (ne_of_none e nD1)]
        exact s1 _ _ e
      · rw [upd_same, List.replicate_succ', List.map_append]
        rfl
    rintro H1 ⟨s1, hD1⟩
    have hg1 := hg.same s1
    have hx1 := s1 _ _ hx
    have st1 : StAt H1 s := by
      obtain ⟨a, b', c, e, r⟩ := hst
      exact ⟨a, b', c, s1 _ _ e, r⟩
    refine ⟨_, rfl, x, dx, _, rfl, hx1, x, A, 1, 10, g, rfl, hg1, g.ms.length, rfl, (by have := hg1.ls.n5; omega), (n : Int), by rw [hn], by omega, by omega, fun D2 nD2 => ?_⟩
    have D12 : D1 ≠ D2 := ne_of_none hD1 nD2
    have D1s : D1 ≠ s := by
      obtain ⟨_, _, _, e, _⟩ := hst
      exact (ne_of_none e nD1).symm
    have D2s : D2 ≠ s := (st1.ne_new nD2)
    refine lc_range (lo := 0) (n := n) (fun i H' => Kp s H1 H' ∧ ∃ ps : List Int, H' D2 = some (.lst (ps.map V.int)) ∧ ps.length = i ∧ ∀ a ∈ ps, 0 ≤ a ∧ a ≤ 20) ⟨st1.kp.new nD2, [], upd_same, rfl, fun a h => by cases h⟩ ?_ ?_
    · rintro i H2 hi ⟨k2, ps, hD, hl, hb2⟩
      refine ⟨rfl, _, rfl, s, 21, rfl, k2.2, (by decide), (by decide), fun a H3 a0 a1 K3 => ⟨_, K3.1 _ _ D2s hD, ?_, ⟨fun c u ne e => ?_, ?_⟩, ps ++ [a], ?_, ?_, fun z hz => ?_⟩⟩
      · rw [List.length_map, hl]
        exact Nat.lt_of_lt_of_le (show i < 100 by omega) (by decide)
      · rw [upd_ne (ne_of_none e nD2)]
        exact K3.1 c u ne (k2.1 c u ne e)
      · obtain ⟨x1, x2, x3, x4, x5⟩ := K3.2
        exact ⟨x1, x2, x3, by rw [upd_ne D2s.symm]; exact x4, x5⟩
      · rw [upd_same, List.map_append]
        rfl
      · rw [List.length_append, hl]
        rfl
      · rcases List.mem_append.mp hz with y | y
        · exact hb2 z y
        · rw [List.mem_singleton.mp y]
          omega
    rintro H2 ⟨k2, ps, hD2, hpl, hpb⟩
    refine ⟨len1, fun p3 n3 => ?_⟩
    have k3 := k2.new (o := .lst [.ref D2]) n3
    have hp3 : (upd H2 p3 (.lst [.ref D2])) p3 = some (.lst [.ref D2]) := upd_same
    have hD13 : (upd H2 p3 (.lst [.ref D2])) D1 = some (.lst ((List.replicate n (0 : Int)).map V.int)) := k3.1 _ _ D1s hD1
    have hD23 : (upd H2 p3 (.lst [.ref D2])) D2 = some (.lst (ps.map V.int)) := by rw [upd_ne (ne_of_none hD2 n3)]; exact hD2
    generalize (upd H2 p3 (.lst [.ref D2])) = H3 at k3 hp3 hD13 hD23 ⊢
    refine ⟨D1, p3, _, _, rfl, rfl, hD13, hp3, (by rw [List.length_map, List.length_replicate]; exact Nat.le_trans (show n + 1 ≤ 6 by omega) (by decide)), fun r nr => ?_⟩
    have k4 := k3.new (o := .lst ((List.replicate n (0 : Int)).map V.int ++ [.ref D2])) nr
    have hr4 : (upd H3 r (.lst ((List.replicate n (0 : Int)).map V.int ++ [.ref D2]))) r = some (.lst ((List.replicate n (0 : Int)).map V.int ++ [.ref D2])) := upd_same
    have hD24 : (upd H3 r (.lst ((List.replicate n (0 : Int)).map V.int ++ [.ref D2]))) D2 = some (.lst (ps.map V.int)) := by rw [upd_ne (ne_of_none hD23 nr)]; exact hD23
    have rs : r ≠ s := k3.2.ne_new nr
    have D2r : D2 ≠ r := ne_of_none hD23 nr
    have fr_ : H r = none := by
      refine s1.free ?_
      cases e : H1 r with
      | none => rfl
      | some o => rw [k3.1 r o rs e] at nr; cases nr
    have fq : H D2 = none := s1.free nD2
    generalize (upd H3 r (.lst ((List.replicate n (0 : Int)).map V.int ++ [.ref D2]))) = H4 at k4 hr4 hD24 ⊢
    have S4 : ∀ c o, c ≠ s → H c = some o → H4 c = some o := fun c o ne e => k4.1 c o ne (s1 _ _ e)
    have hx4 := S4 _ _ sx.symm hx
    have hg4 : GroupAt K (a 61) H4 x A 1 10 g := by
      obtain ⟨_, _, _, e, _⟩ := id hst
      exact ⟨⟨dx, hx4⟩, hg.ls.frl (fun c o ne e => S4 c o ne e) e sA (by rw [hb.ds]; intro d hd; cases hd)⟩
    have rx : r ≠ x := ne_of hr4 hx4 (by intro z; cases z)
    have qx : D2 ≠ x := ne_of hD24 hx4 (by intro z; cases z)
    have rA : ¬ r ∈ A.all := fun z => by
      obtain ⟨o, e⟩ := hg.ls.some_ r z
      rw [fr_] at e
      cases e
    have qA : ¬ D2 ∈ A.all := fun z => by
      obtain ⟨o, e⟩ := hg.ls.some_ D2 z
      rw [fq] at e
      cases e
    refine ⟨_, rfl, x, dx, _, rfl, hx4, x, A, 1, 10, g, rfl, hg4, g.ms.length, rfl, (by have := hg4.ls.n5; omega), (n : Int), by rw [hn], by omega, by omega, ?_⟩
    refine for_range (lo := 0) (n := n) (fun j σ H' => (∃ v3 : Option V, σ = [some (.ref s), some (.ref x), some (.ref r), v3]) ∧ StAt H' s ∧ ∃ (A' : GA) (g' : GS), Ow H A A' ∧ ¬ r ∈ A'.all ∧ ¬ s ∈ A'.all ∧ GroupAt K (a 61) H' x A' 1 10 g' ∧ Beg8 g' j ∧ g'.le = g.le ∧ ¬ D2 ∈ A'.all ∧ g'.ms.length = n ∧ H' r = some (.lst ((List.replicate n (0 : Int)).map V.int ++ [.ref D2])) ∧ H' D2 = some (.lst (ps.map V.int)) ∧ ∀ c o, c ≠ s → c ≠ x → H c = some o → H' c = some o)
      ⟨⟨_, rfl⟩, k4.2, A, g, ⟨rfl, fun _ z => .inl z⟩, rA, sA, hg4, hb, rfl, qA, hn, hr4, hD24, fun c o c1 _ e => S4 c o c1 e⟩ ?_ ?_
    · rintro j σ H5 hj ⟨⟨v3, rfl⟩, st5, A', g', oA, rA', sA', hg', hb', hle', qA', hn', hr5, hq5, f5⟩
      obtain ⟨dx5, hx5⟩ := hg'.at_
      obtain ⟨ms, hms⟩ := getM (ms := g'.ms) (i := j) (by omega)
      obtain ⟨u1, u2, u3, u4, u5, _⟩ := hb'.all j ms hms
      have u5 := u5 (Nat.le_refl j)
      show ∃ v, _
      refine ⟨_, rfl, x, dx5, _, rfl, hx5, gf_no _ _ (by decide +kernel) (by decide +kernel) (by decide +kernel) (by decide +kernel) (by decide +kernel) (by decide +kernel) (by decide +kernel) (by decide +kernel) (by decide +kernel) (by decide +kernel) (by decide +kernel) (by decide +kernel) (by decide +kernel) (by decide +kernel) (by decide +kernel), _, rfl, _, rfl, s, 2, rfl, st5, (by decide), (by decide), fun a1 H6 a10 a11 K6 => ⟨0, a1, rfl, rfl, ?_⟩⟩
      refine ⟨_, rfl, s, 3, rfl, K6.2, (by decide), (by decide), fun a2 H7 a20 a21 K7 => ?_⟩
      have K67 := K6.trans K7
      have sx5 : s ≠ x := sx
      have hx7 := K67.1 _ _ sx5.symm hx5
      have hg7 : GroupAt K (a 61) H7 x A' 1 10 g' := by
        obtain ⟨_, _, _, e, _⟩ := id st5
        exact ⟨⟨dx5, hx7⟩, hg'.ls.frl (fun c o ne e => K67.1 c o ne e) e sA' (by rw [hb'.ds]; intro d hd; cases hd)⟩
      refine ⟨x, A', 1, 10, 0 - a1, a2, g', j, ms, by rw [Int.zero_add]; rfl, by omega, (by rw [u5]; show 0 - a1 ≤ a2; omega), hg7, hms, fun A8 H8 n8 => ?_⟩
      have st8 : StAt H8 s := by
        obtain ⟨a, b', c, e, r'⟩ := K67.2
        exact ⟨a, b', c, n8.fr _ _ sx e, r'⟩
      have e5 : ∀ c o, c ≠ s → c ≠ x → H c = some o → H7 c = some o := fun c o c1 c2 e => K67.1 c o c1 (f5 c o c1 c2 e)
      have hr7 := K67.1 _ _ rs hr5
      have o8 : Ow H A A8 := ⟨n8.ee.trans oA.ee, fun c z => (n8.ow c z).elim (oA.ow c) fun y => by
        cases e : H c with
        | none => exact .inr rfl
        | some o =>
          by_cases c1 : c = s
          · obtain ⟨_, _, _, e', _⟩ := K67.2
            rw [c1, e'] at y; cases y
          · by_cases c2 : c = x
            · rw [c2, hx7] at y; cases y
            · rw [e5 c o c1 c2 e] at y; cases y⟩
      refine ⟨⟨_, rfl⟩, st8, A8, _, o8, (fun z => (n8.ow r z).elim rA' fun y => by rw [hr7] at y; cases y), (fun z => (n8.ow s z).elim sA' fun y => by obtain ⟨_, _, _, e', _⟩ := K67.2; rw [e'] at y; cases y), n8.at_, ⟨fun k ms' hk => ?_, hb'.ds, hb'.ch, hb'.rg, (fun u hu => (List.mem_or_eq_of_mem_set hu).elim (hb'.hz u) fun e => by rw [e]; exact hb'.hz ms (List.mem_of_getElem? hms)), hb'.lo⟩, hle', (fun z => (n8.ow D2 z).elim qA' fun y => by rw [K67.1 _ _ D2s hq5] at y; cases y), (by show (g'.ms.set j _).length = n; rw [List.length_set]; exact hn'), n8.fr _ _ rx hr7, n8.fr _ _ qx (K67.1 _ _ D2s hq5), fun c o c1 c2 e => n8.fr _ _ c2 (e5 c o c1 c2 e)⟩
      have hk : (g'.ms.set j (ms.setTo 1 10 (btwL (0 - a1) ms.sp, btwH a2 ms.sp)))[k]? = some ms' := hk
      rw [List.getElem?_set] at hk
      by_cases ck : j = k
      · subst ck
        rw [if_pos rfl, if_pos (by omega)] at hk
        cases hk
        exact ⟨u1, u2, u3, u4, fun z => absurd z (by omega), fun _ => Ck30.set (Int.le_refl 0) (by rw [u5]; show 0 - a1 ≤ 0; omega) (by rw [u5]; show 0 ≤ a2; omega) (by rw [u5]; show a2 ≤ 0 + 40; omega) (by rw [u5]; show -10 ≤ 0 - a1; omega)⟩
      · rw [if_neg ck] at hk
        obtain ⟨w1, w2, w3, w4, w5, w6⟩ := hb'.all k ms' hk
        exact ⟨w1, w2, w3, w4, fun z => w5 (by omega), fun z => w6 (by omega)⟩
    · rintro σ H5 ⟨⟨v3, rfl⟩, st5, A', g', oA, rA', sA', hg', hb', hle', qA', hn', hr5, hq5, f5⟩
      refine ⟨_, rfl, fin r D2 A' H5 g' ps oA hg' hb' hn' hle' ⟨hr5, hq5, (by rw [List.length_replicate, hpl]), (fun a ha => by rw [List.eq_of_mem_replicate ha]; decide), hpb, D2r⟩ fr_ fq rA' qA' f5 st5⟩

theorem mark_shw : ∀ {ds : List PyData}, (∀ d ∈ ds, MarkD d) → PyData.showableAll ds = true ∧ PyData.leavesShortAll 13 ds = true ∧ PyData.weightAll ds ≤ 30 * ds.length ∧ PyData.depthAll ds ≤ 1
  | [], _ => ⟨rfl, rfl, Nat.le_refl _, Nat.zero_le _⟩
  | d :: r, h => by
    obtain ⟨a, b, c, e⟩ := mark_shw (ds := r) fun z hz => h z (List.mem_cons_of_mem _ hz)
    obtain ⟨t, k, rfl, ht, k0, k1⟩ := h d (List.mem_cons_self ..)
    have t1 : (PyData.str t).leavesShort 13 = true ∧ (PyData.str t).weight ≤ 4 := by rcases ht with rfl | rfl | rfl <;> decide +kernel
    have i1 : (PyData.int k).leavesShort 13 = true := by
      simp only [PyData.leavesShort]
      exact decide_eq_true (PyData.shown_int_le2 (by omega) (by omega))
    have l7 : k.natAbs.log2 < 7 := by
      rcases Nat.eq_zero_or_pos k.natAbs with z | z
      · rw [z]; decide
      · exact (Nat.log2_lt (by omega)).mpr (Nat.lt_of_le_of_lt (show k.natAbs ≤ 100 by omega) (by decide))
    have i2 : (PyData.int k).showable = true := by
      simp only [PyData.showable]
      exact decide_eq_true (by omega)
    have i3 : (PyData.int k).weight ≤ 8 := by
      simp only [PyData.weight]
      split <;> omega
    refine ⟨?_, ?_, ?_, ?_⟩
    · simp only [PyData.showableAll, PyData.showable, a] at i2 ⊢
      rw [i2]
      rfl
    · simp only [PyData.leavesShortAll, PyData.leavesShort, t1.1, i1, b, Bool.and_self] at t1 i1 ⊢
      simp [t1.1, i1]
    · have t2 := t1.2
      simp only [PyData.weightAll, PyData.weight, List.length_cons] at t2 i3 ⊢
      omega
    · simp only [PyData.depthAll, PyData.depth]
      omega
theorem mark_show {ds : List PyData} (h : ∀ d ∈ ds, MarkD d) (hl : ds.length ≤ 1000) : (PyData.list ds).showable = true ∧ (PyData.list ds).depth ≤ 64 ∧ (PyData.list ds).shown.length ≤ sizeLine := by
  obtain ⟨a, b, c, e⟩ := mark_shw h
  refine ⟨by simp only [PyData.showable]; exact a, by simp only [PyData.depth]; omega, PyData.shown_fits (B := 13) (by decide) (by decide) (by simp only [PyData.leavesShort]; exact b) ?_⟩
  simp only [PyData.weight]
  have z : (2 : Nat) ^ 20 = 1048576 := by decide
  omega
theorem bool_show (b : Bool) : (PyData.bool b).showable = true ∧ (PyData.bool b).depth ≤ 64 ∧ (PyData.bool b).shown.length ≤ sizeLine := ⟨rfl, by cases b <;> decide, by rw [sizeLine_eq]; cases b <;> decide +kernel⟩
section
variable (K : PySem.W.Frag) (CG : Addr)
def spMStands : Sp := fun vs H Q _ => ∃ (x : Addr) (A : GA) (M : MA) (n : Nat) (g : GS) (rs : List Int) (now : Int), vs = [.ref M.m, .ref x] ∧ T28 K CG H x A M n g rs now ∧ ∀ H', Same H H' → Q (.bl true) H'
end
theorem FrS.trans {S : List Addr} {H H1 H2 : Hp} (a : FrS S H H1) (b : FrS S H1 H2) : FrS S H H2 := fun c o n e => b c o n (a c o n e)
theorem FrS.wid {S T : List Addr} {H H1 : Hp} (a : FrS S H H1) (h : ∀ c ∈ S, c ∈ T) : FrS T H H1 := fun c o n e => a c o (fun z => n (h c z)) e
theorem frS_same {S : List Addr} {H H1 : Hp} (k : Same H H1) : FrS S H H1 := fun c o _ e => k c o e
theorem FrS.free {S : List Addr} {H H1 : Hp} (a : FrS S H H1) {c : Addr} (n : ¬ c ∈ S) (e : H1 c = none) : H c = none := by
  cases h : H c with
  | none => rfl
  | some o => rw [a c o n h] at e; cases e
theorem Gx.frS {K : PySem.W.Frag} {CG : Addr} {H H' : Hp} {x : Addr} {A A' : GA} {t b : Int} {g' : GS} (n : Gx K CG H x A t b H' A' g') {S : List Addr} (h : x ∈ S) : FrS S H H' := fun c o nc e => n.fr c o (fun z => nc (by rw [z]; exact h)) e

def elO (g : GS) (A : GA) : List Addr := if g.lent = true then [] else [A.el]
def setEl (x : Addr) (M : MA) (g : GS) (A : GA) : List Addr := x :: (M.all ++ elO g A)
/-- where the entries stand behind a step -/
def ElOk (H : Hp) (g : GS) (A : GA) (g' : GS) (A' : GA) : Prop := g'.lent = false → (g.lent = false ∧ A'.el = A.el) ∨ H A'.el = none
section
variable (K : PySem.W.Frag) (CG : Addr)
def spSaid29 : Sp := fun vs H Q _ => ∃ (x : Addr) (A : GA) (g : GS) (w : Int) (v : V), vs = [.ref x, .int w, v] ∧ GroupAt K CG H x A 1 10 g ∧ P31 g ∧ g.ds.length < 1000 ∧
  ((w = 0 ∧ ∃ (p : Addr) (xs : List V) (ds : List PyData), v = .ref p ∧ H p = some (.tup xs) ∧ DpAll K H xs ds ∧ ds.all leafD = true ∧ (∀ v ∈ xs, LeafV v) ∧ (canW g = true → ∀ A' H', FrS (x :: elO g A) H H' → (∀ c ∈ A'.all, c ∈ A.all ∨ H c = none) → ElOk H g A { wroteG g (.tuple ds) with lent := false } A' → GroupAt K CG H' x A' 1 10 { wroteG g (.tuple ds) with lent := false } → Q (.bl true) H') ∧ (canW g = false → ∀ H', Same H H' → Q (.bl false) H')) ∨
   (w = 1 ∧ ∃ (i : Nat) (s : MS), v = .int (i : Int) ∧ g.ms[i]? = some s ∧ (canC g i = true → ∀ (mh : Int) (z : Int × Int) A' H', IsMax (hasG g) (pickG canP g) mh → s.sp = some z → Gx K CG H x A 1 10 H' A' (choG g i s mh (z.2 + g.le)) → Q (.bl true) H') ∧ (canC g i = false → ∀ H', Same H H' → Q (.bl false) H')) ∨
   (w = 2 ∧ (∀ (i : Nat) (s : MS) (z : Int × Int) (S : Int), headOf g = some (i : Int) → g.ms[i]? = some s → s.sp = some z → s.rt = some S → g.ms.length < 2 * (pickG (mayN g) g).length → ∀ A' H', Gx K CG H x A 1 10 H' A' (renG g i s (if z.2 + g.le > S then z.2 + g.le else S)) → Q (.bl true) H') ∧ ((headOf g = none ∨ ¬ g.ms.length < 2 * (pickG (mayN g) g).length) → ∀ H', Same H H' → Q (.bl false) H')))
def spDeed29 : Sp := fun vs H Q _ => ∃ (s x : Addr) (A : GA) (M : MA) (n : Nat) (g : GS) (rs : List Int) (now k : Int), vs = [.ref s, .ref M.m, .ref x, .int k] ∧ StAt H s ∧ T28 K CG H x A M n g rs now ∧ ¬ s ∈ own8 x A M ∧ g.le = 12 ∧ g.ds.length < 1000 ∧ 0 ≤ k ∧ k ≤ 100 ∧
  ∀ (A' : GA) (H' : Hp) (g' : GS), T28 K CG H' x A' M n g' rs now → g'.le = g.le → g'.ds.length ≤ g.ds.length + 1 → FrS (s :: setEl x M g A) H H' → (∀ c ∈ A'.all, c ∈ A.all ∨ H c = none) → ElOk H g A g' A' → StAt H' s → Q (.bl true) H'
def spMCopied : Sp := fun vs H Q _ => ∃ (M : MA) (g : GS), vs = [.ref M.m] ∧ MdAt K H M g ∧ ∀ (M' : MA) (H' : Hp), (∀ c ∈ M'.all, H c = none) → Same H H' → MdAt K H' M' g → Q (.ref M'.m) H'
end

theorem ok_l_stands {P : Program} {w : World} {K : PySem.W.Frag} {mg : Str → Option Value} {base : Heap} {a : Nat → Addr} {d : Nat → FuncData} (T : Txt K mg a d) : FnG P w K mg base 10 (a 54) (d 54) ["_law_model", "_law_group_here"] (spMStands K (a 61)) := by
  refine fnG_mk T.F_l_stands sc_l_stands (fun vs H Q E h => ?_) (fun cdv A outer s0 H vs Q E gd hr h => ?_)
  · obtain ⟨x, A, M, n, g, rs, now, rfl, ht, q⟩ := h
    rfl
  · obtain ⟨x, A, M, n, g, rs, now, rfl, ht, q⟩ := h
    have hg := ht.w.at_
    have hp := ht.p
    have ok := ht.w.ok
    have hn := ht.w.n_
    obtain ⟨dx, hx⟩ := hg.at_
    obtain ⟨ls, hl⟩ := ht.md
    have n5 := hg.ls.n5
    have ll := dpall_len hl.dl
    refine ⟨_, (pss_cons (ps_set (i := 2) sc_l_stands.nd rfl (Or.inl rfl) (pe_call (ok_l_heads T) (hr.mono (by decide)) (by rfl) T.g_l_heads T.F_l_heads.kp T.b_l_heads .nil pass0 (pa_cons (pv 0) (pa_cons (pv 1) pa_nil)))) (pss_cons (ps_if (PW.pt (pw_or (pt_cmpR (op_neD hr.units) (pe_meth0 (pv 1) T.cl T.m_Copies_heads (ok_Copies_heads T) (hr.mono (by decide)) T.b_Copies_heads .nil pass0) (pv 2) (nomark _)) (pw_or (pt_cmpR op_ne (pe_meth0 (pv 1) T.cl T.m_Copies_head (ok_Copies_head T) (hr.mono (by decide)) T.b_Copies_head .nil pass0) (pe_ix ix_list (pe_op op_cat (pv 2) (pe_lst (pa_cons pe_non pa_nil))) pe_int (fun _ _ => rfl)) (nomark _)) (pw_or1 (pt_cmpR op_ne (pe_meth0 (pv 1) T.cl T.m_Copies_reign (ok_Copies_reign T) (hr.mono (by decide)) T.b_Copies_reign .nil pass0) (pe_dget (hu_of hr) (pv 0) pe_str (fun _ _ => rfl)) (nomark _)))))) (pss_one (ps_ret pe_bl)) pss_nil) (pss_cons (ps_if (PW.pt (pw_or (pt_cmpR op_ne (pe_callB (call_lenOwn (ok_Copies___len__ T) (Room.in1 (k := 1) (hr.mono (by decide))) T.m_Copies___len__.at_ T.m_Copies___len__.fn T.b_Copies___len__ pass0) (by rfl) T.z_len PySem.boot_len (pa_cons (pv 1) pa_nil)) (pe_callB call_len_seq (by rfl) T.z_len PySem.boot_len (pa_cons (pe_dget (hu_of hr) (pv 0) pe_str (fun _ _ => rfl)) pa_nil)) (nomark _)) (pw_or1 (pt_cmpR (op_neD hr.units) (pe_meth0 (pv 1) T.cl T.m_Copies_book (ok_Copies_book T) (hr.mono (by decide)) (Exists.choose_spec T.c_Copies_book).2 (Exists.choose_spec T.c_Copies_book).1 pass0) (pe_dget (hu_of hr) (pv 0) pe_str (fun _ _ => rfl)) (nomark _))))) (pss_one (ps_ret pe_bl)) pss_nil) (pss_cons (ps_for PassesOwn.never rfl (pi_range1 (by rfl) T.z_range (pa_cons (pe_callB (call_lenOwn (ok_Copies___len__ T) (Room.in1 (k := 1) (hr.mono (by decide))) T.m_Copies___len__.at_ T.m_Copies___len__.fn T.b_Copies___len__ pass0) (by rfl) T.z_len PySem.boot_len (pa_cons (pv 1) pa_nil)) pa_nil)) (pg_name (i := 3) sc_l_stands.nd rfl (.inl rfl)) (pss_cons (ps_if (pt_cmpR op_ne (pe_callB (call_reprA gd (room66 hr)) (by rfl) T.z_repr (by decide +kernel) (pa_cons (pe_meth (pv 1) T.cl T.m_Copies_is_up (ok_Copies_is_up T) (hr.mono (by decide)) T.b_Copies_is_up .nil pass0 (pa_cons (pv 3) pa_nil)) pa_nil)) (pe_callB (call_reprA gd (room66 hr)) (by rfl) T.z_repr (by decide +kernel) (pa_cons (pe_ix ix_list (pe_dget (hu_of hr) (pv 0) pe_str (fun _ _ => rfl)) (pv 3) (fun _ _ => rfl)) pa_nil)) (nomark _)) (pss_one (ps_ret pe_bl)) pss_nil) (pss_one (ps_if (pt_cmpR (op_neD hr.units) (pe_meth (pv 1) T.cl T.m_Copies_book (ok_Copies_book T) (hr.mono (by decide)) T.b_Copies_book .nil pass0 (pa_cons (pv 3) pa_nil)) (pe_slice sl_list (pe_dget (hu_of hr) (pv 0) pe_str (fun _ _ => rfl)) po_none (po_some (pe_ix ix_list (pe_dget (hu_of hr) (pv 0) pe_str (fun _ _ => rfl)) (pv 3) (fun _ _ => rfl)))) (nomark _)) (pss_one (ps_ret pe_bl)) pss_nil)))) (pss_one (ps_ret pe_bl)))))), ?_⟩
    refine ⟨_, rfl, _, rfl, x, A, M, g, g, rfl, hg, ⟨ls, hl⟩, ht.w.clkG, fun D0 H1 nD0 s1 hD0 => ?_⟩
    have hx1 := s1 _ _ hx
    refine ⟨_, rfl, x, dx, _, rfl, hx1, gf_no _ _ (by decide +kernel) (by decide +kernel) (by decide +kernel) (by decide +kernel) (by decide +kernel) (by decide +kernel) (by decide +kernel) (by decide +kernel) (by decide +kernel) (by decide +kernel) (by decide +kernel) (by decide +kernel) (by decide +kernel) (by decide +kernel) (by decide +kernel), x, A, 1, 10, g, rfl, hg.same s1, ok, fun p H2 np s2 hp2 => ?_⟩
    refine ⟨_, rfl, natsD (pickG mayR g), natsD (pickG mayR g), natsD_at hp2, natsD_at (s2 _ _ hD0), natsD_shaped _, natsD_shaped _, _, rfl, iteBF (by rw [shaped_rf (natsD_shaped _)]; rfl) ?_⟩
    have S2 := s1.trans s2
    have hat : atI ((pickG mayR g).map nV ++ [V.non]) 0 = some (oV (headOf g)) := by
      rcases ht.w.first with ⟨a, b⟩ | ⟨i, a, b⟩ <;> rw [a, b] <;> rfl
    have sc : scal (oV (headOf g)) (oV (headOf g)) = true := by cases headOf g <;> rfl
    refine ⟨_, rfl, x, dx, _, rfl, S2 _ _ hx, gf_no _ _ (by decide +kernel) (by decide +kernel) (by decide +kernel) (by decide +kernel) (by decide +kernel) (by decide +kernel) (by decide +kernel) (by decide +kernel) (by decide +kernel) (by decide +kernel) (by decide +kernel) (by decide +kernel) (by decide +kernel) (by decide +kernel) (by decide +kernel), x, A, 1, 10, g, rfl, hg.same S2, ok, ?_⟩
    refine ⟨_, rfl, len1, fun p3 np3 => ?_⟩
    have s3 : Same H2 (upd H2 p3 (.lst [.non])) := same_new (Same.refl H2) np3
    have hp3 : (upd H2 p3 (.lst [.non])) p3 = some (.lst [.non]) := upd_same
    generalize (upd H2 p3 (.lst [.non])) = H3 at s3 hp3 ⊢
    have h5 : (pickG mayR g).length ≤ 5 := Nat.le_trans is_len n5
    refine ⟨D0, p3, _, _, rfl, rfl, s3 _ _ (s2 _ _ hD0), hp3, (by rw [List.length_map]; exact Nat.le_trans (show _ ≤ 6 by simp; omega) (by decide)), fun p4 np4 => ?_⟩
    have s4 := same_new (o := .lst ((pickG mayR g).map nV ++ [V.non])) (Same.refl H3) np4
    refine ⟨p4, _, 0, _, rfl, rfl, SqL.of upd_same, hat, sc, _, rfl, iteBF (by rw [decide_eq_true rfl]; rfl) ?_⟩
    have S4 := S2.trans (s3.trans s4)
    generalize (upd H3 p4 (.lst ((pickG mayR g).map nV ++ [V.non]))) = H4 at S4 ⊢
    have hl4 := hl.same S4
    refine ⟨_, rfl, x, dx, _, rfl, S4 _ _ hx, gf_no _ _ (by decide +kernel) (by decide +kernel) (by decide +kernel) (by decide +kernel) (by decide +kernel) (by decide +kernel) (by decide +kernel) (by decide +kernel) (by decide +kernel) (by decide +kernel) (by decide +kernel) (by decide +kernel) (by decide +kernel) (by decide +kernel) (by decide +kernel), x, A, 1, 10, g, rfl, hg.same S4, _, rfl, M.m, _, rfl, hl4.gr, rfl, _, rfl, iteBF (by rw [decide_eq_true rfl]; rfl) ?_⟩
    have hx4 := S4 _ _ hx
    have hg4 := hg.same S4
    refine ⟨_, rfl, x, dx, _, rfl, hx4, x, A, 1, 10, g, rfl, hg4, g.ms.length, rfl, (by have := hg4.ls.n5; omega), _, rfl, M.m, .ref M.u, rfl, hl4.gu, M.u, _, rfl, .inl (SqL.of hl4.up), rfl, _, rfl, iteBF (by rw [List.length_map, decide_eq_true rfl]; rfl) ?_⟩
    refine ⟨_, rfl, x, dx, _, rfl, hx4, gf_no _ _ (by decide +kernel) (by decide +kernel) (by decide +kernel) (by decide +kernel) (by decide +kernel) (by decide +kernel) (by decide +kernel) (by decide +kernel) (by decide +kernel) (by decide +kernel) (by decide +kernel) (by decide +kernel) (by decide +kernel) (by decide +kernel) (by decide +kernel), x, A, 1, 10, g, .non, g.ds.length, rfl, hg4, hp.lo, Nat.le_refl _, .inl ⟨rfl, rfl⟩, fun p5 us5 H5 np5 s5 hp5 hd5 => ?_⟩
    rw [List.take_length] at hd5
    have hl5 := hl4.same s5
    refine ⟨_, rfl, M.m, .ref M.lg, rfl, hl5.gl, .list g.ds, .list g.ds, .lst (SqL.of hp5) hd5, .lst (SqL.of hl5.log) hl5.dl, mark_shaped ht.mks, mark_shaped ht.mks, _, rfl, iteBF (mark_rf ht.mks) ?_⟩
    have S5 := S4.trans s5
    have hx5 := S5 _ _ hx
    have hg5 := hg.same S5
    refine ⟨_, rfl, x, dx, _, rfl, hx5, x, A, 1, 10, g, rfl, hg5, g.ms.length, rfl, (by have := hg5.ls.n5; omega), (n : Int), by rw [hn], by omega, by omega, ?_⟩
    refine for_range (lo := 0) (n := n) (fun j σ H' => (∃ v : Option V, σ = [some (.ref M.m), some (.ref x), some (.ref D0), v]) ∧ Same H H') ⟨⟨none, rfl⟩, S5⟩ ?_ ?_
    · rintro j σ H6 hj ⟨⟨v, rfl⟩, S6⟩
      obtain ⟨s, hs⟩ := getM (ms := g.ms) (i := j) (by omega)
      have hb := hp.hb s (List.mem_of_getElem? hs)
      obtain ⟨k, hk⟩ := Int.eq_ofNat_of_zero_le hb.1
      have hl6 := hl.same S6
      obtain ⟨b1, b2, b3⟩ := bool_show s.up
      refine ⟨_, rfl, x, dx, _, rfl, S6 _ _ hx, gf_no _ _ (by decide +kernel) (by decide +kernel) (by decide +kernel) (by decide +kernel) (by decide +kernel) (by decide +kernel) (by decide +kernel) (by decide +kernel) (by decide +kernel) (by decide +kernel) (by decide +kernel) (by decide +kernel) (by decide +kernel) (by decide +kernel) (by decide +kernel), _, rfl, x, A, 1, 10, g, j, s, (by rw [Int.zero_add]; rfl), hg.same S6, hs, _, .bool s.up, rfl, .dp (.bl _), b1, b2, b3, ?_⟩
      refine ⟨_, rfl, M.m, .ref M.u, rfl, hl6.gu, _, rfl, M.u, _, _, _, rfl, rfl, SqL.of hl6.up, atI_map0 _ hs, _, .bool s.up, rfl, .dp (.bl _), b1, b2, b3, rfl, _, rfl, iteBF (by rw [decide_eq_true rfl]; rfl) ?_⟩
      refine ⟨_, rfl, x, dx, _, rfl, S6 _ _ hx, gf_no _ _ (by decide +kernel) (by decide +kernel) (by decide +kernel) (by decide +kernel) (by decide +kernel) (by decide +kernel) (by decide +kernel) (by decide +kernel) (by decide +kernel) (by decide +kernel) (by decide +kernel) (by decide +kernel) (by decide +kernel) (by decide +kernel) (by decide +kernel), _, rfl, x, A, 1, 10, g, .int (j : Int), k, by rw [Int.zero_add]; rfl, hg.same S6, hp.lo, by omega, .inr ⟨j, s, rfl, hs, hk⟩, fun p7 us7 H7 np7 s7 hp7 hd7 => ?_⟩
      have hl7 := hl6.same s7
      refine ⟨_, rfl, M.m, .ref M.lg, rfl, hl7.gl, _, rfl, M.m, .ref M.z, rfl, hl7.gz, _, rfl, M.z, _, _, _, rfl, rfl, SqL.of hl7.size, atI_map0 _ hs, s.has, rfl, M.lg, ls, rfl, SqL.of hl7.log, fun p8 np8 => ?_⟩
      rw [hk, cut_take ls (by omega) (by rw [ll]; omega)]
      have s8 := same_new (o := .lst (ls.take ((k : Nat) : Int).toNat)) (Same.refl H7) np8
      have mk := mark_take ht.mks k
      refine ⟨.list (g.ds.take k), .list (g.ds.take k), .lst (SqL.of (s8 _ _ hp7)) (dpall_same hd7 s8), .lst (SqL.of upd_same) (dpall_take k (dpall_same hl7.dl s8)), mark_shaped mk, mark_shaped mk, _, rfl, iteBF (mark_rf mk) ?_⟩
      exact ⟨⟨_, rfl⟩, S6.trans (s7.trans s8)⟩
    · rintro σ H6 ⟨⟨v, rfl⟩, S6⟩
      exact q H6 S6

theorem ok_l_said {P : Program} {w : World} {K : PySem.W.Frag} {mg : Str → Option Value} {base : Heap} {a : Nat → Addr} {d : Nat → FuncData} (T : Txt K mg a d) : FnOk P w K mg base CX0 8 (a 58) (d 58) ["_law_group_here", "_law_way", "_law_thing"] (spSaid29 K (a 61)) := by
  refine T.F_l_said.ok sc_l_said (fun vs H Q E h => ?_) (fun cdv A outer s0 H vs Q E hr h => ?_)
  · obtain ⟨x, A', g, w', v, rfl, _⟩ := h
    rfl
  · obtain ⟨x, A', g, w', v, rfl, hg, hp, dl, hc⟩ := h
    have hok : GOk g := hp.ok
    refine ⟨_, (pss_cons (ps_tryK (tb := fun W => tIfS (tTest (tOp rEq (tVar 1) (tC (.int 0)))) (tDrop (tMethS (a 61) "write" (spWriteL K (a 61) (a 100)) (WE W) (tVar 0) (tCons (tVar 2) tNil))) (tIfS (tTest (tOp rEq (tVar 1) (tC (.int 1)))) (tDrop (tMethS (a 61) "choose" (spChoose K (a 61) (a 100)) (WE W) (tVar 0) (tCons (tVar 2) tNil))) (tDrop (tMethS (a 61) "renew" (spRenew K (a 61) (a 100)) (WE W) (tVar 0) tNil)))) rfl rfl sc_l_said.nd takes0 (HK.bare (ts := fun _ _ _ => tRet (tC (.bl false))) ⟨rfl, by decide, .inl T.gE_NoHead⟩ (fun _ _ _ _ => pss_one (ps_ret pe_bl)) HK.nil) (W := fun _ _ _ _ => False) (fun W pn xe tk _ => (pss_one (ps_if (pt_cmpR op_eq (pv 1) pe_int (nomark _)) (pss_one (ps_expr (pe_methS (pv 0) T.cl T.m_Copies_write (ok_Copies_write T) (hr.mono (by decide)) T.b_Copies_write (fun σ => passAt tk σ) (pa_cons (pv 2) pa_nil)))) (pss_one (ps_if (pt_cmpR op_eq (pv 1) pe_int (nomark _)) (pss_one (ps_expr (pe_methS (pv 0) T.cl T.m_Copies_choose (ok_Copies_choose T) (hr.mono (by decide)) T.b_Copies_choose (fun σ => passAt tk σ) (pa_cons (pv 2) pa_nil)))) (pss_one (ps_expr (pe_methS0 (pv 0) T.cl T.m_Copies_renew (ok_Copies_renew T) (hr.mono (by decide)) T.b_Copies_renew (fun σ => passAt tk σ)))))))))) (pss_one (ps_ret pe_bl))), ?_⟩
    obtain ⟨dx, hx⟩ := hg.at_
    rcases hc with ⟨rfl, p, xs, ds, rfl, hpp, hds, hlf, hlv, q, qx⟩ | ⟨rfl, i, s, rfl, hs, q, qx⟩ | ⟨rfl, q, qx⟩
    · refine ⟨_, rfl, rfl, _, rfl, ite2 (fun _ => ?_) (fun h => absurd rfl h)⟩
      refine ⟨_, rfl, x, dx, _, rfl, hx, gf_no _ _ (by decide +kernel) (by decide +kernel) (by decide +kernel) (by decide +kernel) (by decide +kernel) (by decide +kernel) (by decide +kernel) (by decide +kernel) (by decide +kernel) (by decide +kernel) (by decide +kernel) (by decide +kernel) (by decide +kernel) (by decide +kernel) (by decide +kernel), _, rfl, x, A', 1, 10, g, p, xs, ds, rfl, hg, hok, hp.lo, hpp, hds, hlf, hlv, dl, hp.fl, fun cw A2 H2 ow fr he hg2 => ?_, fun cw dd H' s' hdd => ?_⟩
      · refine q cw A2 H2 (fun c o nc e => fr c o (fun z => nc (by rw [z]; exact List.mem_cons_self ..)) (fun l z => nc (List.mem_cons_of_mem _ (by unfold elO; rw [l, if_neg (by decide)]; exact List.mem_singleton.mpr z))) e) ow (fun _ => he.imp id fun y => y.2) hg2
      · refine ⟨true, T.ex_NoHead_NoHead, fun _ e' ne' => ?_, fun z => by cases z⟩
        exact qx cw _ (s'.trans (same_new (Same.refl H') ne'))
    · refine ⟨_, rfl, rfl, _, rfl, ite2 (fun h => absurd h (by decide)) (fun _ => ?_)⟩
      refine ⟨_, rfl, rfl, _, rfl, ite2 (fun _ => ?_) (fun h => absurd rfl h)⟩
      refine ⟨_, rfl, x, dx, _, rfl, hx, gf_no _ _ (by decide +kernel) (by decide +kernel) (by decide +kernel) (by decide +kernel) (by decide +kernel) (by decide +kernel) (by decide +kernel) (by decide +kernel) (by decide +kernel) (by decide +kernel) (by decide +kernel) (by decide +kernel) (by decide +kernel) (by decide +kernel) (by decide +kernel), _, rfl, x, A', 1, 10, g, i, s, rfl, hg, hs, fun cw fl mh z A2 H2 hfl hmh hz n2 => ?_, fun cw dd H' s' hdd => ?_⟩
      · exact q cw mh z A2 H2 hmh hz n2
      · refine ⟨true, T.ex_NoHead_NoHead, fun _ e' ne' => ?_, fun z => by cases z⟩
        exact qx cw _ (s'.trans (same_new (Same.refl H') ne'))
    · refine ⟨_, rfl, rfl, _, rfl, ite2 (fun h => absurd h (by decide)) (fun _ => ?_)⟩
      refine ⟨_, rfl, rfl, _, rfl, ite2 (fun h => absurd h (by decide)) (fun _ => ?_)⟩
      refine ⟨_, rfl, x, dx, _, rfl, hx, gf_no _ _ (by decide +kernel) (by decide +kernel) (by decide +kernel) (by decide +kernel) (by decide +kernel) (by decide +kernel) (by decide +kernel) (by decide +kernel) (by decide +kernel) (by decide +kernel) (by decide +kernel) (by decide +kernel) (by decide +kernel) (by decide +kernel) (by decide +kernel), x, A', 1, 10, g, rfl, hg, hok, fun k sk z S eh hk hz hS hm A2 H2 n2 => ?_, fun cw dd H' s' hdd => ?_⟩
      · exact q k sk z S eh hk hz hS hm A2 H2 n2
      · refine ⟨true, T.ex_NoHead_NoHead, fun _ e' ne' => ?_, fun z => by cases z⟩
        exact qx cw _ (s'.trans (same_new (Same.refl H') ne'))


def KEYS : List Str := ["up", "size", "till", "of", "crown", "log"]
theorem keys_nd : KEYS.Nodup := by decide +kernel
def kvsJ (j : Nat) (ps : List Addr) : List (Key × V) := List.zipWith (fun k p => ((Sum.inr k : Key), V.ref p)) (KEYS.take j) ps
theorem put_snoc {kvs : List (Key × V)} {k : Key} {v : V} (h : ∀ kv ∈ kvs, kv.1 ≠ k) : putK kvs k v = kvs ++ [(k, v)] := by
  unfold putK
  rw [if_neg]
  intro z
  obtain ⟨kv, h1, h2⟩ := List.any_eq_true.mp z
  exact h kv h1 (of_decide_eq_true h2)
theorem kvsJ_put {j : Nat} {ps : List Addr} {k : Str} {p : Addr} (hk : KEYS[j]? = some k) (hl : ps.length = j) : putK (kvsJ j ps) (Sum.inr k) (.ref p) = kvsJ (j + 1) (ps ++ [p]) := by
  have jl := (List.getElem?_eq_some_iff.mp hk).1
  rw [put_snoc]
  · unfold kvsJ
    rw [List.take_add_one, hk, List.zipWith_append (by rw [List.length_take, hl]; omega)]
    rfl
  · intro kv hkv e
    unfold kvsJ at hkv
    obtain ⟨i, hi⟩ := List.getElem?_of_mem hkv
    rw [List.getElem?_zipWith] at hi
    cases c : (KEYS.take j)[i]? with
    | none => rw [c] at hi; cases hi
    | some k2 =>
      cases c2 : ps[i]? with
      | none => rw [c, c2] at hi; cases hi
      | some p2 =>
        rw [c, c2] at hi
        have hi : ((Sum.inr k2 : Key), V.ref p2) = kv := Option.some.inj hi
        rw [← hi] at e
        have e : k2 = k := Sum.inr.inj e
        rw [e] at c
        exact take_notin keys_nd hk (List.mem_of_getElem? c)
theorem md_key {K : PySem.W.Frag} {H : Hp} {M : MA} {rg : Int} {us zs ts os cs ls : List V} {ds : List PyData} (h : MdL K H M rg us zs ts os cs ls ds) {j : Nat} {k : Str} (hk : KEYS[j]? = some k) : ∃ (p : Addr) (xs : List V), DGet H M.m (.str k) (some (.ref p)) ∧ H p = some (.lst xs) ∧ [us, zs, ts, os, cs, ls][j]? = some xs := by
  have jl : j < 6 := (List.getElem?_eq_some_iff.mp hk).1
  have : j = 0 ∨ j = 1 ∨ j = 2 ∨ j = 3 ∨ j = 4 ∨ j = 5 := by omega
  rcases this with rfl | rfl | rfl | rfl | rfl | rfl <;> cases hk
  · exact ⟨_, _, h.gu, h.up, rfl⟩
  · exact ⟨_, _, h.gz, h.size, rfl⟩
  · exact ⟨_, _, h.gt, h.till, rfl⟩
  · exact ⟨_, _, h.go, h.of, rfl⟩
  · exact ⟨_, _, h.gc, h.crown, rfl⟩
  · exact ⟨_, _, h.gl, h.log, rfl⟩

theorem ok_l_copied {P : Program} {w : World} {K : PySem.W.Frag} {mg : Str → Option Value} {base : Heap} {a : Nat → Addr} {d : Nat → FuncData} (T : Txt K mg a d) : FnOk P w K mg base CX0 1 (a 57) (d 57) ["_law_model"] (spMCopied K) := by
  refine T.F_l_copied.ok sc_l_copied (fun vs H Q E h => ?_) (fun cdv A outer s0 H vs Q E hr h => ?_)
  · obtain ⟨M, g, rfl, hm, q⟩ := h
    rfl
  · obtain ⟨M, g, rfl, hm, q⟩ := h
    obtain ⟨ls, hl⟩ := hm
    refine ⟨_, (pss_cons (ps_set (i := 1) sc_l_copied.nd rfl (Or.inl rfl) pe_dnewK) (pss_cons (ps_for PassesOwn.never rfl (pi_list (pe_lst (pa_cons pe_str (pa_cons pe_str (pa_cons pe_str (pa_cons pe_str (pa_cons pe_str (pa_cons pe_str pa_nil)))))))) (pg_name (i := 2) sc_l_copied.nd rfl (.inl rfl)) (pss_one (ps_dput (hu_of hr) (pv 1) (pv 2) (pe_callTy call_list_of (by rfl) T.z_list (by decide +kernel) (pa_cons (pe_dget (hu_of hr) (pv 0) (pv 2) (fun _ _ => rfl)) pa_nil)) rfl))) (pss_cons (ps_dput (hu_of hr) (pv 1) pe_str (pe_dget (hu_of hr) (pv 0) pe_str (fun _ _ => rfl)) rfl) (pss_one (ps_ret (pv 1)))))), ?_⟩
    refine fun F nF => ?_
    have sF : Same H (upd H F (.dK [])) := same_new (Same.refl H) nF
    have hF : (upd H F (.dK [])) F = some (.dK []) := upd_same
    generalize (upd H F (.dK [])) = H0 at sF hF ⊢
    refine ⟨by decide, fun p0 np0 => ?_⟩
    have s0 : Same H0 (upd H0 p0 (.lst (KEYS.map V.str))) := same_new (Same.refl H0) np0
    have h0 : (upd H0 p0 (.lst [.str "up", .str "size", .str "till", .str "of", .str "crown", .str "log"])) p0 = some (.lst (KEYS.map V.str)) := upd_same
    have s0 : Same H0 (upd H0 p0 (.lst [.str "up", .str "size", .str "till", .str "of", .str "crown", .str "log"])) := s0
    have p0F : p0 ≠ F := (ne_of_none hF np0).symm
    generalize (upd H0 p0 (.lst [.str "up", .str "size", .str "till", .str "of", .str "crown", .str "log"])) = H1 at s0 h0 ⊢
    have S1 := sF.trans s0
    have hF1 := s0 _ _ hF
    have hl1 := hl.same S1
    have FM : ¬ F ∈ M.all := fun z => by
      obtain ⟨o, e, _⟩ := hl.mut F z
      rw [nF] at e; cases e
    refine ⟨p0, rfl, ⟨_, SqL.of h0⟩, ?_⟩
    refine for_list (K := K) (a := p0) (xs := KEYS.map V.str) (fun j σ H' => (∃ v : Option V, σ = [some (.ref M.m), some (.ref F), v]) ∧ Fr F H1 H' ∧ ∃ ps : List Addr, ps.length = j ∧ H' F = some (.dK (kvsJ j ps)) ∧ (∀ (t : Nat) (q : Addr), ps[t]? = some q → H1 q = none ∧ ∃ xs, [g.ms.map fun s => V.bl s.up, g.ms.map fun s => V.int s.has, g.ms.map fun s => oV s.pr, g.ms.map fun s => V.int s.pin, g.ms.map fun s => oV s.rt, ls][t]? = some xs ∧ H' q = some (.lst xs)) ∧ ps.Nodup) ⟨⟨none, rfl⟩, Fr.refl F H1, [], rfl, hF1, (fun t q e => by simp at e), List.nodup_nil⟩ (fun j σ H' _ z => SqL.of (z.2.1 _ _ p0F h0)) ?_ ?_
    · rintro j wv σ H2 hj ⟨⟨v, rfl⟩, f2, ps, pl, hF2, hps, pn⟩
      rw [List.getElem?_map] at hj
      obtain ⟨k, hk, rfl⟩ := Option.map_eq_some_iff.mp hj
      have hl2 : MdL K H2 M g.rg _ _ _ _ _ ls g.ds := hl1.frS (S := [F]) (fun c o nc e => f2 c o (fun z => nc (List.mem_singleton.mpr z)) e) (fun c hc => by rw [List.mem_singleton.mp hc]; exact ⟨_, hF1, trivial⟩) (fun c hc z => by rw [List.mem_singleton.mp z] at hc; exact FM hc)
      obtain ⟨sp, xs, dg, hsp, hxs⟩ := md_key hl2 hk
      show ∃ v, _
      refine ⟨_, rfl, _, rfl, M.m, .ref sp, rfl, dg, sp, xs, rfl, .inl (SqL.of hsp), fun q nq => ?_⟩
      have qF : q ≠ F := (ne_of_none hF2 nq).symm
      have hF3 : (upd H2 q (.lst xs)) F = some (.dK (kvsJ j ps)) := by rw [upd_ne qF.symm]; exact hF2
      have jl := (List.getElem?_eq_some_iff.mp hk).1
      refine ⟨_, rfl, _, rfl, F, _, rfl, DPut.k (k := Sum.inr k) hF3 (by unfold kvsJ; rw [List.length_zipWith, List.length_take]; exact Nat.lt_of_le_of_lt (Nat.min_le_right _ _) (Nat.lt_of_lt_of_le (show ps.length < 100 by rw [pl]; have : KEYS.length = 6 := rfl; omega) (by decide))), ?_⟩
      rw [kvsJ_put hk pl]
      have fq : H1 q = none := fr_free f2 hF2 nq
      refine ⟨⟨_, rfl⟩, (f2.new nq).put, ps ++ [q], by rw [List.length_append, pl]; rfl, upd_same, fun t q2 e => ?_, ?_⟩
      · by_cases c : t < ps.length
        · rw [List.getElem?_append_left c] at e
          obtain ⟨a1, xs2, a2, a3⟩ := hps t q2 e
          have q2q : q2 ≠ q := ne_of_none a3 nq
          have q2F : q2 ≠ F := fun z => by rw [z, hF1] at a1; cases a1
          exact ⟨a1, xs2, a2, by rw [upd_ne q2F, upd_ne q2q]; exact a3⟩
        · have tl := (List.getElem?_eq_some_iff.mp e).1
          rw [List.length_append] at tl
          have et : t = ps.length := by simp at tl; omega
          subst et
          rw [List.getElem?_append_right (Nat.le_refl _), Nat.sub_self] at e
          cases e
          exact ⟨fq, xs, by rw [pl]; exact hxs, by rw [upd_ne qF]; exact upd_same⟩
      · rw [List.nodup_append]
        refine ⟨pn, by simp, fun a ha b hb => ?_⟩
        rw [List.mem_singleton.mp hb]
        intro e
        obtain ⟨t, ht⟩ := List.getElem?_of_mem ha
        obtain ⟨_, _, _, a3⟩ := hps t a ht
        rw [e, nq] at a3; cases a3
    · rintro σ H2 ⟨⟨v, rfl⟩, f2, ps, pl, hF2, hps, pn⟩
      have hl2 : MdL K H2 M g.rg _ _ _ _ _ ls g.ds := hl1.frS (S := [F]) (fun c o nc e => f2 c o (fun z => nc (List.mem_singleton.mpr z)) e) (fun c hc => by rw [List.mem_singleton.mp hc]; exact ⟨_, hF1, trivial⟩) (fun c hc z => by rw [List.mem_singleton.mp z] at hc; exact FM hc)
      match ps, pl, hF2, hps, pn with
      | [a1, a2, a3, a4, a5, a6], _, hF2, hps, pn =>
        obtain ⟨n1, _, e1, b1⟩ := hps 0 a1 rfl
        obtain ⟨n2, _, e2, b2⟩ := hps 1 a2 rfl
        obtain ⟨n3, _, e3, b3⟩ := hps 2 a3 rfl
        obtain ⟨n4, _, e4, b4⟩ := hps 3 a4 rfl
        obtain ⟨n5, _, e5, b5⟩ := hps 4 a5 rfl
        obtain ⟨n6, _, e6, b6⟩ := hps 5 a6 rfl
        cases e1; cases e2; cases e3; cases e4; cases e5; cases e6
        have hF2 : H2 F = some (.dK (kv6 a1 a2 a3 a4 a5 a6)) := hF2
        refine ⟨_, rfl, M.m, _, rfl, hl2.gr, _, rfl, F, _, rfl, DPut.k (k := Sum.inr "reign") hF2 (by show 6 < sizeLine; exact Nat.lt_of_lt_of_le (show 6 < 100 by decide) (by decide)), ?_⟩
        have pr : putK (kv6 a1 a2 a3 a4 a5 a6) (Sum.inr "reign") (.int g.rg) = mkv ⟨F, a1, a2, a3, a4, a5, a6⟩ g.rg := by
          have z := put6 a1 a2 a3 a4 a5 a6 F
          have n (x y : Str) (h : (decide (x = y)) = false) : (decide ((Sum.inr x : Key) = Sum.inr y)) = false := decide_eq_false (key_ne x y h)
          simp only [kv6, putK, mkv, List.any_nil, List.any_cons, List.nil_append, List.cons_append, Bool.or_false, n "up" "reign" (by decide +kernel), n "size" "reign" (by decide +kernel), n "till" "reign" (by decide +kernel), n "of" "reign" (by decide +kernel), n "crown" "reign" (by decide +kernel), n "log" "reign" (by decide +kernel), Bool.false_eq_true, if_false]
        rw [pr]
        have f3 := f2.put (o := .dK (mkv ⟨F, a1, a2, a3, a4, a5, a6⟩ g.rg))
        have up : ∀ {c : Addr} {xs : List V}, H1 c = none → H2 c = some (.lst xs) → (upd H2 F (.dK (mkv ⟨F, a1, a2, a3, a4, a5, a6⟩ g.rg))) c = some (.lst xs) := fun n e => by
          rw [upd_ne (fun z => by rw [z, hF1] at n; cases n)]
          exact e
        refine ⟨_, rfl, q ⟨F, a1, a2, a3, a4, a5, a6⟩ _ (fun c hc => ?_) (fun c o e => f3 c o (ne_of_none e nF) (S1 _ _ e)) ⟨ls, upd_same, up n1 b1, up n2 b2, up n3 b3, up n4 b4, up n5 b5, up n6 b6, ?_, hl.fl, pn⟩⟩
        · simp only [MA.all, MA.ls, List.mem_cons, List.not_mem_nil, or_false] at hc
          rcases hc with rfl | rfl | rfl | rfl | rfl | rfl | rfl
          · exact nF
          · exact S1.free n1
          · exact S1.free n2
          · exact S1.free n3
          · exact S1.free n4
          · exact S1.free n5
          · exact S1.free n6
        · exact flats_S (S := [F]) (fun c o nc e => f3 c o (fun z => nc (List.mem_singleton.mpr z)) e) (fun c hc => by rw [List.mem_singleton.mp hc]; exact ⟨_, hF1, trivial⟩) hl1.dl hl.fl

theorem ok_l_deed {P : Program} {w : World} {K : PySem.W.Frag} {mg : Str → Option Value} {base : Heap} {a : Nat → Addr} {d : Nat → FuncData} (T : Txt K mg a d) : FnOk P w K mg base CX0 11 (a 59) (d 59) ["_law_state", "_law_model", "_law_group_here", "_law_number"] (spDeed29 K (a 61)) := by
  refine T.F_l_deed.ok sc_l_deed (fun vs H Q E h => ?_) (fun cdv A outer s0 H vs Q E hr h => ?_)
  · obtain ⟨s, x, A, M, n, g, rs, now, k, rfl, hst, ht, sO, le12, dl, k0, k1, fin⟩ := h
    rfl
  · obtain ⟨s, x, A, M, n, g, rs, now, k, rfl, hst, ht, sO, le12, dl, k0, k1, fin⟩ := h
    refine ⟨_, (pss_cons (ps_set (i := 4) sc_l_deed.nd rfl (Or.inl rfl) (pe_call (ok_l_take T) (hr.mono (by decide)) (by rfl) T.g_l_take T.F_l_take.kp T.b_l_take .nil pass0 (pa_cons (pv 0) (pa_cons pe_int pa_nil)))) (pss_cons (ps_set (i := 5) sc_l_deed.nd rfl (Or.inl rfl) (pe_call (ok_l_take T) (hr.mono (by decide)) (by rfl) T.g_l_take T.F_l_take.kp T.b_l_take .nil pass0 (pa_cons (pv 0) (pa_cons (pe_callB (call_lenOwn (ok_Copies___len__ T) (Room.in1 (k := 1) (hr.mono (by decide))) T.m_Copies___len__.at_ T.m_Copies___len__.fn T.b_Copies___len__ pass0) (by rfl) T.z_len PySem.boot_len (pa_cons (pv 2) pa_nil)) pa_nil)))) (pss_cons (ps_if (pt_cmpR op_lt (pv 4) pe_int (nomark _)) (pss_one (ps_ret (pe_cmpR op_eq (pe_call (ok_l_said T) (hr.mono (by decide)) (by rfl) T.g_l_said T.F_l_said.kp T.b_l_said .nil pass0 (pa_cons (pv 2) (pa_cons pe_int (pa_cons (pe_tup (pa_cons pe_str (pa_cons (pv 3) pa_nil))) pa_nil)))) (pe_call (ok_l_written T) (hr.mono (by decide)) (by rfl) T.g_l_written T.F_l_written.kp T.b_l_written .nil pass0 (pa_cons (pv 1) (pa_cons (pv 2) (pa_cons (pe_tup (pa_cons pe_str (pa_cons (pv 3) pa_nil))) pa_nil)))) (nomark _)))) pss_nil) (pss_cons (ps_if (pt_cmpR op_eq (pv 4) pe_int (nomark _)) (pss_cons (ps_set (i := 6) sc_l_deed.nd rfl (Or.inl rfl) (pe_cmpR op_notN (pe_call (ok_l_choose T) (hr.mono (by decide)) (by rfl) T.g_l_choose T.F_l_choose.kp T.b_l_choose .nil pass0 (pa_cons (pv 1) (pa_cons (pv 2) (pa_cons (pv 5) (pa_cons pe_int pa_nil))))) pe_non (nomark _))) (pss_one (ps_ret (pe_cmpR op_eq (pe_call (ok_l_said T) (hr.mono (by decide)) (by rfl) T.g_l_said T.F_l_said.kp T.b_l_said .nil pass0 (pa_cons (pv 2) (pa_cons pe_int (pa_cons (pv 5) pa_nil)))) (pv 6) (nomark _))))) pss_nil) (pss_cons (ps_if (pt_cmpR op_eq (pv 4) pe_int (nomark _)) (pss_one (ps_ret (pe_cmpR op_eq (pe_call (ok_l_renewed T) (hr.mono (by decide)) (by rfl) T.g_l_renewed T.F_l_renewed.kp T.b_l_renewed .nil pass0 (pa_cons (pv 1) (pa_cons (pv 2) (pa_cons pe_int pa_nil)))) (pe_call (ok_l_said T) (hr.mono (by decide)) (by rfl) T.g_l_said T.F_l_said.kp T.b_l_said .nil pass0 (pa_cons (pv 2) (pa_cons pe_int (pa_cons pe_non pa_nil)))) (nomark _)))) pss_nil) (pss_cons (ps_asg (pe_cmpR op_eq (pv 4) pe_int (nomark _)) (pg_sub (pe_dget (hu_of hr) (pv 1) pe_str (fun _ _ => rfl)) (pv 5) set_list)) (pss_cons (ps_if (pt_cmpR op_eq (pv 4) pe_int (nomark _)) (pss_one (ps_expr (pe_meth (pv 2) T.cl T.m_Copies_back (ok_Copies_back T) (hr.mono (by decide)) T.b_Copies_back .nil pass0 (pa_cons (pv 5) pa_nil)))) (pss_cons (ps_asg pe_non (pg_sub (pe_dget (hu_of hr) (pv 1) pe_str (fun _ _ => rfl)) (pv 5) set_list)) (pss_one (ps_expr (pe_meth (pv 2) T.cl T.m_Copies_stop (ok_Copies_stop T) (hr.mono (by decide)) T.b_Copies_stop .nil pass0 (pa_cons (pv 5) pa_nil)))))) (pss_one (ps_ret pe_bl))))))))), ?_⟩
    have hg := ht.w.at_
    have hn := ht.w.n_
    obtain ⟨dx, hx⟩ := hg.at_
    have n5 := hg.ls.n5
    have n1 := hg.ls.n1
    obtain ⟨sa, sb, sc', es0, _⟩ := id hst
    have sG : ¬ s ∈ ownG x A := fun z => sO (List.mem_append_left _ z)
    have sM : ¬ s ∈ M.all := fun z => sO (List.mem_append_right _ z)
    have notin : ∀ {S : List Addr}, ¬ s ∈ S → ∀ c ∈ S, ¬ c ∈ [s] := fun h c z y => h (by rw [← List.mem_singleton.mp y]; exact z)
    have step : ∀ {Ha Hb : Hp}, Kp s Ha Hb → StAt Ha s → T28 K (a 61) Ha x A M n g rs now → T28 K (a 61) Hb x A M n g rs now ∧ Nx (s :: own8 x A M) Ha (s :: own8 x A M) Hb := fun k st t => by
      obtain ⟨_, _, _, e, _⟩ := st
      refine ⟨t.frS (S := [s]) (fun c o nc e => k.1 c o (fun z => nc (by rw [z]; exact List.mem_singleton.mpr rfl)) e) (fun c hc => by rw [List.mem_singleton.mp hc]; exact ⟨_, e, trivial⟩) (notin sG) (notin sM), ⟨fun c o nc e => k.1 c o (fun z => nc (by rw [z]; exact List.mem_cons_self ..)) e, fun c z => .inl z⟩⟩
    refine ⟨_, rfl, s, 6, rfl, hst, (by decide), (by decide), fun w H1 w0 w1 K1 => ?_⟩
    obtain ⟨T1, N1⟩ := step K1 hst ht
    obtain ⟨dx1, hx1⟩ := T1.w.at_.at_
    have hg1 := T1.w.at_
    refine ⟨_, rfl, _, rfl, x, dx1, _, rfl, hx1, x, A, 1, 10, g, rfl, hg1, g.ms.length, rfl, (by have := hg1.ls.n5; omega), s, _, rfl, K1.2, (by omega), (by omega), fun sp H2 sp0 sp1 K2 => ?_⟩
    obtain ⟨T2, N2⟩ := step K2 K1.2 T1
    have N12 := N1.trans N2
    obtain ⟨dx2, hx2⟩ := T2.w.at_.at_
    obtain ⟨i, rfl⟩ := Int.eq_ofNat_of_zero_le sp0
    obtain ⟨u, hu⟩ := getM (ms := g.ms) (i := i) (by omega)
    have st2 := K2.2
    clear hx1 hg1 hx hg
    have stk : ∀ {A' : GA} {Ha Hb : Hp}, StAt Ha s → Nx (own8 x A M) Ha (own8 x A' M) Hb → StAt Hb s := fun st h => by
      obtain ⟨a, b', c, e, y⟩ := st
      exact ⟨a, b', c, h.fr _ _ sO e, y⟩
    have fK : ∀ {Ha Hb : Hp}, Kp s Ha Hb → FrS (s :: setEl x M g A) Ha Hb := fun k c o n e => k.1 c o (fun z => n (by rw [z]; exact List.mem_cons_self ..)) e
    have fM : ∀ {Ha Hb : Hp}, Nx M.all Ha M.all Hb → FrS (s :: setEl x M g A) Ha Hb := fun n => n.fr.wid fun c z => List.mem_cons_of_mem _ (List.mem_cons_of_mem _ (List.mem_append_left _ z))
    have fG : ∀ {Ha Hb : Hp} {A0 A' : GA} {g' : GS}, Gx K (a 61) Ha x A0 1 10 Hb A' g' → FrS (s :: setEl x M g A) Ha Hb := fun n => n.frS (List.mem_cons_of_mem _ (List.mem_cons_self ..))
    have F12 := (fK K1).trans (fK K2)
    have mu2 : MutS (s :: setEl x M g A) H2 := fun c z => by
      rcases List.mem_cons.mp z with rfl | z
      · obtain ⟨_, _, _, e, _⟩ := id st2
        exact ⟨_, e, trivial⟩
      · rcases List.mem_cons.mp z with rfl | z
        · exact T2.w.at_.mut _ (List.mem_cons_self ..)
        · rcases List.mem_append.mp z with z | z
          · exact T2.md.mut c z
          · unfold elO at z
            by_cases l : g.lent = true
            · rw [if_pos l] at z; cases z
            · rw [if_neg l] at z
              rw [List.mem_singleton.mp z]
              exact T2.w.at_.mut _ (List.mem_cons_of_mem _ (el_in A))
    have some0 : ∀ c ∈ s :: setEl x M g A, ∃ o, H c = some o := fun c z => by
      rcases List.mem_cons.mp z with rfl | z
      · obtain ⟨_, _, _, e, _⟩ := id hst
        exact ⟨_, e⟩
      · rcases List.mem_cons.mp z with rfl | z
        · exact (ht.w.at_.mut _ (List.mem_cons_self ..)).imp fun o y => y.1
        · rcases List.mem_append.mp z with z | z
          · exact (ht.md.mut c z).imp fun o y => y.1
          · unfold elO at z
            by_cases l : g.lent = true
            · rw [if_pos l] at z; cases z
            · rw [if_neg l] at z
              rw [List.mem_singleton.mp z]
              exact (ht.w.at_.mut _ (List.mem_cons_of_mem _ (el_in A))).imp fun o y => y.1
    have some2 : ∀ c ∈ s :: setEl x M g A, ∃ o, H2 c = some o := fun c z => (mu2 c z).imp fun o y => y.1
    -- what was none later was none at first
    have out2 : ∀ {Hb : Hp} {c : Addr}, Same H2 Hb → Hb c = none → H c = none := fun {Hb c} k y => by
      have y2 := k.free y
      refine F12.free (fun z => ?_) y2
      obtain ⟨o, e⟩ := some2 c z
      rw [e] at y2; cases y2
    have someAt : ∀ {Hb : Hp}, StAt Hb s → (∃ o, Hb x = some o ∧ MutD o) → MutS M.all Hb → (∃ o, Hb A.el = some o) → ∀ d ∈ s :: setEl x M g A, ∃ o, Hb d = some o := fun {Hb} h1 h2 h3 h4 d z => by
      rcases List.mem_cons.mp z with rfl | z
      · obtain ⟨_, _, _, e, _⟩ := h1
        exact ⟨_, e⟩
      · rcases List.mem_cons.mp z with rfl | z
        · exact h2.imp fun o y => y.1
        · rcases List.mem_append.mp z with z | z
          · exact (h3 d z).imp fun o y => y.1
          · unfold elO at z
            by_cases l : g.lent = true
            · rw [if_pos l] at z; cases z
            · rw [if_neg l] at z
              rw [List.mem_singleton.mp z]
              exact h4
    have out0 : ∀ {Hb : Hp} {c : Addr}, FrS (s :: setEl x M g A) H2 Hb → (∀ d ∈ s :: setEl x M g A, ∃ o, Hb d = some o) → Hb c = none → H c = none := fun {Hb c} k al y => by
      have nin : ¬ c ∈ s :: setEl x M g A := fun z => by
        obtain ⟨o, e⟩ := al c z
        rw [y] at e; cases e
      exact F12.free nin (k.free nin y)

    have elS : ∀ {Hb : Hp}, T28 K (a 61) Hb x A M n g rs now → ∃ o, Hb A.el = some o := fun t => (t.w.at_.mut _ (List.mem_cons_of_mem _ (el_in A))).imp fun o y => y.1
    have ww : w < 2 ∨ w = 2 ∨ w = 3 ∨ w = 4 ∨ (w ≠ 2 ∧ w ≠ 3 ∧ w ≠ 4 ∧ ¬ w < 2) := by omega
    rcases ww with w2' | rfl | rfl | rfl | ⟨wa, wb, w4, wn⟩
    · refine ⟨_, rfl, _, _, rfl, rfl, _, rfl, iteDT w2' ?_⟩
      refine ⟨_, rfl, _, rfl, len2, fun pe npe => ?_⟩
      have s3 : Same H2 (upd H2 pe (.tup [.str "mark", .int k])) := same_new (Same.refl H2) npe
      have hpe : (upd H2 pe (.tup [.str "mark", .int k])) pe = some (.tup [.str "mark", .int k]) := upd_same
      generalize (upd H2 pe (.tup [.str "mark", .int k])) = H3 at s3 hpe ⊢
      have T3 := T2.same s3
      have hde : ∀ {Hb : Hp}, DpAll K Hb [.str "mark", .int k] [.str "mark", .int k] := .cons (.str _) (.cons (.int _) .nil)
      have ft : flatT (.tuple [.str "mark", .int k]) = true := rfl
      have hck := T3.w.can
      have hlv : ∀ v ∈ [V.str "mark", V.int k], LeafV v := fun v hv => by
        rcases List.mem_cons.mp hv with rfl | hv
        · exact .inr (.inr (.inr ⟨_, rfl⟩))
        · rw [List.mem_singleton.mp hv]
          exact .inr (.inr (.inl ⟨_, rfl⟩))
      refine ⟨x, A, g, 0, .ref pe, rfl, T3.w.at_, T3.p, dl, .inl ⟨rfl, pe, _, [.str "mark", .int k], rfl, hpe, hde, rfl, hlv, fun cw A6 H6 f6 ow6 el6 g6 => ?_, fun cw H6 s6 => ?_⟩⟩
      · have n6 : Nx (ownG x A) H3 (ownG x A6) H6 := ⟨f6.wid fun c z => by
          rcases List.mem_cons.mp z with rfl | z
          · exact List.mem_cons_self ..
          · unfold elO at z
            by_cases l : g.lent = true
            · rw [if_pos l] at z; cases z
            · rw [if_neg l] at z
              rw [List.mem_singleton.mp z]
              exact List.mem_cons_of_mem _ (el_in A), fun c z => by
          rcases List.mem_cons.mp z with rfl | z
          · exact .inl (List.mem_cons_self ..)
          · exact (ow6 c z).imp (List.mem_cons_of_mem _) id⟩
        have md6 := md_out (A' := A6) (H' := H6) T3.ap T3.md T3.w.at_.mut n6
        have ap6 := ap_out T3.ap T3.md.mut n6
        refine ⟨_, rfl, _, rfl, _, rfl, len2, fun p2 np2 => ?_⟩
        have s7 : Same H6 (upd H6 p2 (.tup [.str "mark", .int k])) := same_new (Same.refl H6) np2
        have hp2 : (upd H6 p2 (.tup [.str "mark", .int k])) p2 = some (.tup [.str "mark", .int k]) := upd_same
        generalize (upd H6 p2 (.tup [.str "mark", .int k])) = H7 at s7 hp2 ⊢
        have w6 : W30 K (a 61) H7 x A6 n { wroteG g (.tuple [.str "mark", .int k]) with lent := false } rs now [] := T3.w.cored (wrote_core g (.tuple [.str "mark", .int k])) rfl rfl rfl (fun e he => by
          rcases List.mem_append.mp (show e ∈ g.ds ++ [.tuple [.str "mark", .int k]] from he) with z | z
          · exact T3.w.ds e z
          · rw [List.mem_singleton.mp z]; rfl) (fun j u hu => wrote_at (d := .tuple [.str "mark", .int k]) hu) (g6.same s7)
        have ck6 : Clk { wroteG g (.tuple [.str "mark", .int k]) with lent := false } g := T3.w.clkG.of_ (by show (wroteG g (.tuple [.str "mark", .int k])).ms.length = _; unfold wroteG; rw [List.length_map]) fun j s' e => by
          refine ⟨if isWr g s' = true then { s' with has := s'.has + 1 } else s', by show (wroteG g (.tuple [.str "mark", .int k])).ms[j]? = _; unfold wroteG; rw [List.getElem?_map, e]; rfl, ?_⟩
          cases isWr g s' with
          | true => exact ⟨rfl, rfl⟩
          | false => exact ⟨rfl, rfl⟩
        refine ⟨x, A6, M, _, g, .ref p2, .tuple [.str "mark", .int k], rfl, g6.same s7, md6.same s7, ck6, .tup (SqT.of hp2) hde, ft, dl, fun wc H8 n8 md8 => ?_, fun wc => absurd (hck.mpr cw) wc⟩
        have w8 := w6.frS n8.fr (md6.same s7).mut ap6
        have p8 := T3.p.write (ds := [.str "mark", .int k]) cw rfl
        have mk8 : ∀ e ∈ (wroteG g (.tuple [.str "mark", .int k])).ds, MarkD e := fun e he => by
          rcases List.mem_append.mp (show e ∈ g.ds ++ [.tuple [.str "mark", .int k]] from he) with z | z
          · exact T3.mks e z
          · rw [List.mem_singleton.mp z]; exact ⟨"mark", k, rfl, .inl rfl, k0, k1⟩
        have f36 : FrS (s :: setEl x M g A) H3 H6 := f6.wid fun c z => by
          rcases List.mem_cons.mp z with rfl | z
          · exact List.mem_cons_of_mem _ (List.mem_cons_self ..)
          · exact List.mem_cons_of_mem _ (List.mem_cons_of_mem _ (List.mem_append_right _ z))
        exact ⟨rfl, fin A6 H8 _ ⟨w8, ⟨p8.hb, p8.rt, p8.cl, p8.most, p8.ch, p8.lo, p8.fl⟩, md8.of rfl rfl rfl rfl rfl rfl rfl, ap6, mk8⟩ rfl (by show (g.ds ++ [PyData.tuple [.str "mark", .int k]]).length ≤ _; rw [List.length_append]; exact Nat.le_refl _) (F12.trans ((frS_same s3).trans (f36.trans ((frS_same s7).trans (fM n8))))) (fun c z => (ow6 c z).imp id fun y => out2 s3 y) (fun l => (el6 l).imp id fun y => out2 s3 y) (stk st2 (((nx_same (S := own8 x A M) s3).trans (nx_g n6)).trans ((nx_same s7).trans (nx_m n8))))⟩
      · have T6 := T3.same s6
        refine ⟨_, rfl, _, rfl, _, rfl, len2, fun p2 np2 => ?_⟩
        have s7 : Same H6 (upd H6 p2 (.tup [.str "mark", .int k])) := same_new (Same.refl H6) np2
        have hp2 : (upd H6 p2 (.tup [.str "mark", .int k])) p2 = some (.tup [.str "mark", .int k]) := upd_same
        generalize (upd H6 p2 (.tup [.str "mark", .int k])) = H7 at s7 hp2 ⊢
        have T7 := T6.same s7
        refine ⟨x, A, M, g, g, .ref p2, .tuple [.str "mark", .int k], rfl, T7.w.at_, T7.md, T7.w.clkG, .tup (SqT.of hp2) hde, ft, dl, (fun wc => by rw [hck.mp wc] at cw; cases cw), fun wc H8 s8 => ?_⟩
        have SS := s3.trans (s6.trans (s7.trans s8))
        exact ⟨rfl, fin A H8 g (T7.same s8) rfl (by omega) (F12.trans (frS_same SS)) (fun c z => .inl z) (fun l => .inl ⟨l, rfl⟩) (stk st2 (nx_same SS))⟩
    · refine ⟨_, rfl, _, _, rfl, rfl, _, rfl, iteDF (by decide) ?_⟩
      refine ⟨_, rfl, rfl, _, rfl, iteDT rfl ?_⟩
      refine ⟨_, rfl, _, rfl, _, rfl, x, A, M, g, g, i, u, (by rw [le12]; rfl), T2.w.at_, T2.md, T2.w.clkG, hu, T2.ap, T2.w.ds, fun cc fl mh z H3 hfl hmh hz n3 md3 => ?_, fun cc H3 s3 => ?_⟩
      · refine ⟨rfl, ?_⟩
        have w3 := T2.w.frS n3.fr T2.md.mut T2.ap
        refine ⟨_, rfl, _, rfl, x, A, g, 1, .int (i : Int), rfl, w3.at_, T2.p, dl, .inr (.inl ⟨rfl, i, u, rfl, hu, fun _ mh2 z2 A4 H4 hmh2 hz2 n4 => ?_, fun c => by rw [cc] at c; cases c⟩)⟩
        rw [hz] at hz2
        cases hz2
        have em := isMax_uniq hmh hmh2
        subst em
        have w4' := w3.choose hu cc hz n4.at_
        have md4 := md_out (A' := A4) (H' := H4) T2.ap md3 w3.at_.mut n4.nx
        have ap4 := ap_out T2.ap md3.mut n4.nx
        exact ⟨_, rfl, rfl, fin A4 H4 _ ⟨w4', T2.p.choose hu cc hmh, md4, ap4, T2.mks⟩ rfl (by show g.ds.length ≤ _; omega) (F12.trans ((fM n3).trans (fG n4))) (fun c z => (n4.ow c z).imp id fun y => out0 (fM n3) (someAt (stk st2 (nx_m n3)) (w3.at_.mut x (List.mem_cons_self ..)) md3.mut ((w3.at_.mut _ (List.mem_cons_of_mem _ (el_in A))).imp fun o y => y.1)) y) (fun l => .inl ⟨l, n4.ee⟩) (stk st2 ((nx_m n3).trans (nx_g n4.nx)))⟩
      · refine ⟨rfl, ?_⟩
        have T3 := T2.same s3
        refine ⟨_, rfl, _, rfl, x, A, g, 1, .int (i : Int), rfl, T3.w.at_, T3.p, dl, .inr (.inl ⟨rfl, i, u, rfl, hu, (fun c => by rw [cc] at c; cases c), fun _ H4 s4 => ?_⟩)⟩
        exact ⟨_, rfl, rfl, fin A H4 g (T3.same s4) rfl (by omega) (F12.trans (frS_same (s3.trans s4))) (fun c z => .inl z) (fun l => .inl ⟨l, rfl⟩) (stk st2 (nx_same (s3.trans s4)))⟩
    · refine ⟨_, rfl, _, _, rfl, rfl, _, rfl, iteDF (by decide) ?_⟩
      refine ⟨_, rfl, rfl, _, rfl, iteDF (by decide) ?_⟩
      refine ⟨_, rfl, rfl, _, rfl, iteDT rfl ?_⟩
      refine ⟨_, rfl, _, rfl, x, A, M, g, g, (by rw [le12]; rfl), T2.w.at_, T2.md, T2.w.clkG, T2.ap, T2.w.ds, (by rcases T2.w.first with ⟨_, b⟩ | ⟨i', _, b⟩; exact .inl b; exact .inr ⟨i', b⟩), fun i' s' z' S' e1 hs' hz' hS' hm H3 n3 md3 => ?_, fun z H3 s3 => ?_⟩
      · have w3 := T2.w.frS n3.fr T2.md.mut T2.ap
        obtain ⟨eh, ech⟩ : headOf g = some (i' : Int) ∧ g.ch = some (i' : Int) := by
          rcases T2.w.first with ⟨_, b⟩ | ⟨i2, a, b⟩
          · rw [b] at e1; cases e1
          · rw [b] at e1
            have e : i2 = i' := (List.cons.inj e1).1
            subst e
            obtain ⟨i3, _, _, f1, f2, _⟩ := head_at T2.w.ok a
            have : i3 = i2 := by omega
            rw [this] at f2
            exact ⟨a, f2⟩
        refine ⟨_, rfl, x, A, g, 2, .non, rfl, w3.at_, T2.p, dl, .inr (.inr ⟨rfl, fun i2 s2 z2 S2 f1 f2 f3 f4 _ A4 H4 n4 => ?_, fun z => ?_⟩)⟩
        · have ei : i2 = i' := by rw [eh] at f1; have := Option.some.inj f1; omega
          subst ei
          rw [hs'] at f2
          cases f2
          rw [hz'] at f3
          cases f3
          rw [hS'] at f4
          cases f4
          have w4' := w3.renew hs' ech hz' hS' rfl hm n4.at_
          have md4 := md_out (A' := A4) (H' := H4) T2.ap md3 w3.at_.mut n4.nx
          have ap4 := ap_out T2.ap md3.mut n4.nx
          exact ⟨rfl, fin A4 H4 _ ⟨w4', T2.p.renew hs' hS' ech, md4, ap4, T2.mks⟩ rfl (by show g.ds.length ≤ _; omega) (F12.trans ((fM n3).trans (fG n4))) (fun c z => (n4.ow c z).imp id fun y => out0 (fM n3) (someAt (stk st2 (nx_m n3)) (w3.at_.mut x (List.mem_cons_self ..)) md3.mut ((w3.at_.mut _ (List.mem_cons_of_mem _ (el_in A))).imp fun o y => y.1)) y) (fun l => .inl ⟨l, n4.ee⟩) (stk st2 ((nx_m n3).trans (nx_g n4.nx)))⟩
        · rcases z with z | z
          · rw [eh] at z; cases z
          · exact absurd hm z
      · have T3 := T2.same s3
        refine ⟨_, rfl, x, A, g, 2, .non, rfl, T3.w.at_, T3.p, dl, .inr (.inr ⟨rfl, fun i2 s2 z2 S2 f1 f2 f3 f4 hm A4 H4 n4 => ?_, fun _ H4 s4 => ?_⟩)⟩
        · exfalso
          rcases z with z | z
          · rcases T2.w.first with ⟨a, _⟩ | ⟨_, _, b⟩
            · rw [a] at f1; cases f1
            · rw [z] at b; cases b
          · exact z hm
        · exact ⟨rfl, fin A H4 g (T3.same s4) rfl (by omega) (F12.trans (frS_same (s3.trans s4))) (fun c z => .inl z) (fun l => .inl ⟨l, rfl⟩) (stk st2 (nx_same (s3.trans s4)))⟩
    · refine ⟨_, rfl, _, _, rfl, rfl, _, rfl, iteDF (by decide) ?_⟩
      refine ⟨_, rfl, rfl, _, rfl, iteDF (by decide) ?_⟩
      refine ⟨_, rfl, rfl, _, rfl, iteDF (by decide) ?_⟩
      obtain ⟨ls, hl⟩ := T2.md
      have il := (List.getElem?_eq_some_iff.mp hu).1
      refine ⟨_, rfl, rfl, _, rfl, M.m, .ref M.u, rfl, hl.gu, _, rfl, M.u, _, (i : Int), i, rfl, rfl, hl.up, ixj' (by rw [List.length_map]; exact il), ?_⟩
      rw [show decide (V.int 4 = V.int 4) = true from decide_eq_true rfl]
      have hl3 := hl.put_up ((g.ms.map fun s => V.bl s.up).set i (.bl true))
      have n3 : Nx M.all H2 M.all (upd H2 M.u (.lst ((g.ms.map fun s => V.bl s.up).set i (.bl true)))) := nx_put (by simp [MA.all, MA.ls])
      generalize (upd H2 M.u (.lst ((g.ms.map fun s => V.bl s.up).set i (.bl true)))) = H4 at hl3 n3 ⊢
      refine ⟨_, rfl, rfl, _, rfl, iteDT rfl ?_⟩
      have w4 := T2.w.frS n3.fr T2.md.mut T2.ap
      obtain ⟨dx4, hx4⟩ := w4.at_.at_
      refine ⟨_, rfl, x, dx4, _, rfl, hx4, gf_no _ _ (by decide +kernel) (by decide +kernel) (by decide +kernel) (by decide +kernel) (by decide +kernel) (by decide +kernel) (by decide +kernel) (by decide +kernel) (by decide +kernel) (by decide +kernel) (by decide +kernel) (by decide +kernel) (by decide +kernel) (by decide +kernel) (by decide +kernel), _, rfl, x, A, 1, 10, g, i, u, rfl, w4.at_, hu, fun A6 H6 n6 => ?_⟩
      have md4 : MdAt K H4 M { g with ms := g.ms.set i { u with up := true } } := by
        refine ⟨ls, ?_⟩
        show MdL K H4 M g.rg ((g.ms.set i { u with up := true }).map fun s => V.bl s.up) ((g.ms.set i { u with up := true }).map fun s => V.int s.has) ((g.ms.set i { u with up := true }).map fun s => oV s.pr) ((g.ms.set i { u with up := true }).map fun s => V.int s.pin) ((g.ms.set i { u with up := true }).map fun s => oV s.rt) ls g.ds
        rw [map_same (f := fun s => V.int s.has) (s := u) (s' := { u with up := true }) hu rfl, map_same (f := fun s => oV s.pr) (s := u) (s' := { u with up := true }) hu rfl, map_same (f := fun s => V.int s.pin) (s := u) (s' := { u with up := true }) hu rfl, map_same (f := fun s => oV s.rt) (s := u) (s' := { u with up := true }) hu rfl, List.map_set]
        exact hl3
      have w6 := w4.set (s' := { u with up := true }) hu rfl rfl rfl rfl rfl (fun T e => ⟨e, rfl⟩) n6.at_
      have md6 := md_out (A' := A6) (H' := H6) T2.ap md4 w4.at_.mut n6.nx
      have ap6 := ap_out T2.ap md4.mut n6.nx
      exact fin A6 H6 _ ⟨w6, T2.p.back hu, md6, ap6, T2.mks⟩ rfl (by show g.ds.length ≤ _; omega) (F12.trans ((fM n3).trans (fG n6))) (fun c z => (n6.ow c z).imp id fun y => out0 (fM n3) (someAt (stk st2 (nx_m n3)) (w4.at_.mut x (List.mem_cons_self ..)) md4.mut ((w4.at_.mut _ (List.mem_cons_of_mem _ (el_in A))).imp fun o y => y.1)) y) (fun l => .inl ⟨l, n6.ee⟩) (stk st2 ((nx_m n3).trans (nx_g n6.nx)))
    · refine ⟨_, rfl, _, _, rfl, rfl, _, rfl, iteDF wn ?_⟩
      refine ⟨_, rfl, rfl, _, rfl, iteDF (fun z => wa (V.int.inj z)) ?_⟩
      refine ⟨_, rfl, rfl, _, rfl, iteDF (fun z => wb (V.int.inj z)) ?_⟩
      obtain ⟨ls, hl⟩ := T2.md
      have il := (List.getElem?_eq_some_iff.mp hu).1
      refine ⟨_, rfl, rfl, _, rfl, M.m, .ref M.u, rfl, hl.gu, _, rfl, M.u, _, (i : Int), i, rfl, rfl, hl.up, ixj' (by rw [List.length_map]; exact il), ?_⟩
      rw [show decide (V.int w = V.int 4) = false from decide_eq_false fun z => w4 (V.int.inj z)]
      have hl3 := hl.put_up ((g.ms.map fun s => V.bl s.up).set i (.bl false))
      have n3 : Nx M.all H2 M.all (upd H2 M.u (.lst ((g.ms.map fun s => V.bl s.up).set i (.bl false)))) := nx_put (by simp [MA.all, MA.ls])
      generalize (upd H2 M.u (.lst ((g.ms.map fun s => V.bl s.up).set i (.bl false)))) = H3 at hl3 n3 ⊢
      refine ⟨_, rfl, rfl, _, rfl, iteDF (fun z => w4 (V.int.inj z)) ?_⟩
      refine ⟨_, rfl, M.m, .ref M.cr, rfl, hl3.gc, _, rfl, M.cr, _, (i : Int), i, rfl, rfl, hl3.crown, ixj' (by rw [List.length_map]; exact il), ?_⟩
      have hl4 := hl3.put_crown ((g.ms.map fun s => oV s.rt).set i .non)
      have n4 : Nx M.all H3 M.all (upd H3 M.cr (.lst ((g.ms.map fun s => oV s.rt).set i .non))) := nx_put (by simp [MA.all, MA.ls])
      have N34 := n3.trans n4
      generalize (upd H3 M.cr (.lst ((g.ms.map fun s => oV s.rt).set i .non))) = H4 at hl4 N34 ⊢
      have w4 := T2.w.frS N34.fr T2.md.mut T2.ap
      obtain ⟨dx4, hx4⟩ := w4.at_.at_
      refine ⟨_, rfl, x, dx4, _, rfl, hx4, gf_no _ _ (by decide +kernel) (by decide +kernel) (by decide +kernel) (by decide +kernel) (by decide +kernel) (by decide +kernel) (by decide +kernel) (by decide +kernel) (by decide +kernel) (by decide +kernel) (by decide +kernel) (by decide +kernel) (by decide +kernel) (by decide +kernel) (by decide +kernel), _, rfl, x, A, 1, 10, g, i, u, rfl, w4.at_, hu, fun A6 H6 n6 => ?_⟩
      have md4 : MdAt K H4 M { g with ms := g.ms.set i { u with up := false, rt := none } } := by
        refine ⟨ls, ?_⟩
        show MdL K H4 M g.rg ((g.ms.set i { u with up := false, rt := none }).map fun s => V.bl s.up) ((g.ms.set i { u with up := false, rt := none }).map fun s => V.int s.has) ((g.ms.set i { u with up := false, rt := none }).map fun s => oV s.pr) ((g.ms.set i { u with up := false, rt := none }).map fun s => V.int s.pin) ((g.ms.set i { u with up := false, rt := none }).map fun s => oV s.rt) ls g.ds
        rw [map_same (f := fun s => V.int s.has) (s := u) (s' := { u with up := false, rt := none }) hu rfl, map_same (f := fun s => oV s.pr) (s := u) (s' := { u with up := false, rt := none }) hu rfl, map_same (f := fun s => V.int s.pin) (s := u) (s' := { u with up := false, rt := none }) hu rfl, List.map_set, List.map_set]
        exact hl4
      have w6 := w4.set (s' := { u with up := false, rt := none }) hu rfl rfl rfl rfl rfl (fun T e => by cases e) n6.at_
      have md6 := md_out (A' := A6) (H' := H6) T2.ap md4 w4.at_.mut n6.nx
      have ap6 := ap_out T2.ap md4.mut n6.nx
      exact fin A6 H6 _ ⟨w6, T2.p.stop hu, md6, ap6, T2.mks⟩ rfl (by show g.ds.length ≤ _; omega) (F12.trans ((fM N34).trans (fG n6))) (fun c z => (n6.ow c z).imp id fun y => out0 (fM N34) (someAt (stk st2 (nx_m N34)) (w4.at_.mut x (List.mem_cons_self ..)) md4.mut ((w4.at_.mut _ (List.mem_cons_of_mem _ (el_in A))).imp fun o y => y.1)) y) (fun l => .inl ⟨l, n6.ee⟩) (stk st2 ((nx_m N34).trans (nx_g n6.nx)))

theorem xlist {K : PySem.W.Frag} {CG : Addr} {H : Hp} {x : Addr} {A : GA} {t b : Int} {g : GS} (h : GroupAt K CG H x A t b g) (z : x ∈ A.all) : False := by
  obtain ⟨⟨dx, hx⟩, l⟩ := h
  obtain ⟨_, e1, _⟩ := l.sts
  obtain ⟨_, e2, _⟩ := l.sps
  obtain ⟨_, e3, _⟩ := l.el
  simp only [GA.all, List.mem_cons, List.not_mem_nil, or_false] at z
  rcases z with z | z | z | z | z | z | z | z | z
  · have := l.ups; rw [← z, hx] at this; cases this
  · have := l.has; rw [← z, hx] at this; cases this
  · rw [← z, hx] at e1; cases e1
  · have := l.cts; rw [← z, hx] at this; cases this
  · rw [← z, hx] at e2; cases e2
  · have := l.prs; rw [← z, hx] at this; cases this
  · have := l.pins; rw [← z, hx] at this; cases this
  · have := l.rts; rw [← z, hx] at this; cases this
  · rw [← z, hx] at e3; cases e3

/-- one of the groups, its model, what is over of its ticks -/
structure R29 where
  x : Addr
  A : GA
  M : MA
  r : Addr
  q : Addr
  g : GS
  rs : List Int
  ps : List Int
  now : Int
def R29.all (w : R29) : List Addr := w.x :: w.r :: w.q :: (w.M.all ++ w.A.all)
def R29.own (w : R29) : List Addr := w.x :: w.r :: w.q :: (w.M.all ++ elO w.g w.A)
theorem el_el {g : GS} {A : GA} {c : Addr} (h : c ∈ elO g A) : c = A.el ∧ g.lent = false := by
  unfold elO at h
  by_cases l : g.lent = true
  · rw [if_pos l] at h; cases h
  · rw [if_neg l] at h
    exact ⟨List.mem_singleton.mp h, by simpa using l⟩
theorem R29.own_all {w : R29} : ∀ c ∈ w.own, c ∈ w.all := fun c h => by
  rcases List.mem_cons.mp h with rfl | h
  · exact List.mem_cons_self ..
  rcases List.mem_cons.mp h with rfl | h
  · exact List.mem_cons_of_mem _ (List.mem_cons_self ..)
  rcases List.mem_cons.mp h with rfl | h
  · exact List.mem_cons_of_mem _ (List.mem_cons_of_mem _ (List.mem_cons_self ..))
  refine List.mem_cons_of_mem _ (List.mem_cons_of_mem _ (List.mem_cons_of_mem _ ?_))
  rcases List.mem_append.mp h with h | h
  · exact List.mem_append_left _ h
  · rw [(el_el h).1]; exact List.mem_append_right _ (el_in w.A)
structure Ok29 (K : PySem.W.Frag) (CG : Addr) (H : Hp) (n : Nat) (w : R29) : Prop where
  t : T28 K CG H w.x w.A w.M n w.g w.rs w.now
  re : RestAt H w.r w.q w.rs w.ps
  rO : ¬ w.r ∈ own8 w.x w.A w.M
  qO : ¬ w.q ∈ own8 w.x w.A w.M
  le : w.g.le = 12
section
variable {K : PySem.W.Frag} {CG : Addr} {H0 H H' : Hp} {n : Nat} {w : R29} {S : List Addr}
theorem all_cases {w : R29} {c : Addr} (h : c ∈ w.all) : c = w.x ∨ c = w.r ∨ c = w.q ∨ c ∈ w.M.all ∨ c ∈ w.A.all := by
  rcases List.mem_cons.mp h with h | h
  · exact .inl h
  rcases List.mem_cons.mp h with h | h
  · exact .inr (.inl h)
  rcases List.mem_cons.mp h with h | h
  · exact .inr (.inr (.inl h))
  exact .inr (.inr (.inr (List.mem_append.mp h)))
theorem all_of {w : R29} {c : Addr} (h : c = w.x ∨ c = w.r ∨ c = w.q ∨ c ∈ w.M.all ∨ c ∈ w.A.all) : c ∈ w.all := by
  unfold R29.all
  rcases h with h | h | h | h | h
  · rw [h]; exact List.mem_cons_self ..
  · rw [h]; exact List.mem_cons_of_mem _ (List.mem_cons_self ..)
  · rw [h]; exact List.mem_cons_of_mem _ (List.mem_cons_of_mem _ (List.mem_cons_self ..))
  · exact List.mem_cons_of_mem _ (List.mem_cons_of_mem _ (List.mem_cons_of_mem _ (List.mem_append_left _ h)))
  · exact List.mem_cons_of_mem _ (List.mem_cons_of_mem _ (List.mem_cons_of_mem _ (List.mem_append_right _ h)))
theorem own_cases {w : R29} {c : Addr} (h : c ∈ w.own) : c = w.x ∨ c = w.r ∨ c = w.q ∨ c ∈ w.M.all ∨ (c = w.A.el ∧ w.g.lent = false) := by
  rcases List.mem_cons.mp h with h | h
  · exact .inl h
  rcases List.mem_cons.mp h with h | h
  · exact .inr (.inl h)
  rcases List.mem_cons.mp h with h | h
  · exact .inr (.inr (.inl h))
  exact .inr (.inr (.inr ((List.mem_append.mp h).imp id el_el)))
theorem own_of {w : R29} {c : Addr} (h : c = w.x ∨ c = w.r ∨ c = w.q ∨ c ∈ w.M.all ∨ (c = w.A.el ∧ w.g.lent = false)) : c ∈ w.own := by
  unfold R29.own
  rcases h with h | h | h | h | h
  · rw [h]; exact List.mem_cons_self ..
  · rw [h]; exact List.mem_cons_of_mem _ (List.mem_cons_self ..)
  · rw [h]; exact List.mem_cons_of_mem _ (List.mem_cons_of_mem _ (List.mem_cons_self ..))
  · exact List.mem_cons_of_mem _ (List.mem_cons_of_mem _ (List.mem_cons_of_mem _ (List.mem_append_left _ h)))
  · refine List.mem_cons_of_mem _ (List.mem_cons_of_mem _ (List.mem_cons_of_mem _ (List.mem_append_right _ ?_)))
    unfold elO
    rw [h.2, if_neg (by decide), h.1]
    exact List.mem_singleton.mpr rfl
theorem Ok29.same (h : Ok29 K CG H n w) (k : Same H H') : Ok29 K CG H' n w := ⟨h.t.same k, ⟨k _ _ h.re.hr, k _ _ h.re.hq, h.re.l, h.re.nr, h.re.np, h.re.ne⟩, h.rO, h.qO, h.le⟩
theorem Ok29.frS (h : Ok29 K CG H n w) (k : FrS S H H') (m : MutS S H) (nA : ∀ c ∈ w.all, ¬ c ∈ S) : Ok29 K CG H' n w :=
  ⟨h.t.frS k m (fun c z => nA c (all_of ((List.mem_cons.mp z).elim .inl fun y => .inr (.inr (.inr (.inr y)))))) (fun c z => nA c (all_of (.inr (.inr (.inr (.inl z)))))), ⟨k _ _ (nA _ (all_of (.inr (.inl rfl)))) h.re.hr, k _ _ (nA _ (all_of (.inr (.inr (.inl rfl))))) h.re.hq, h.re.l, h.re.nr, h.re.np, h.re.ne⟩, h.rO, h.qO, h.le⟩
theorem Ok29.mut (h : Ok29 K CG H n w) : MutS w.all H := fun c z => by
  rcases all_cases z with rfl | rfl | rfl | z | z
  · exact h.t.w.at_.mut _ (List.mem_cons_self ..)
  · exact ⟨_, h.re.hr, trivial⟩
  · exact ⟨_, h.re.hq, trivial⟩
  · exact h.t.md.mut c z
  · exact h.t.w.at_.mut c (List.mem_cons_of_mem _ z)
theorem mut_none {c : Addr} (m : MutS S H) (z : c ∈ S) (e : H c = none) : False := by
  obtain ⟨o, eo, _⟩ := m c z
  rw [e] at eo; cases eo
end
structure W29 (K : PySem.W.Frag) (CG : Addr) (H0 H : Hp) (n : Nat) (G Ms Rs Ts : Addr) (ws : List R29) (ts : List Int) : Prop where
  ok : ∀ w ∈ ws, Ok29 K CG H n w
  sep : ∀ (i j : Nat) (u v : R29), ws[i]? = some u → ws[j]? = some v → i ≠ j → ∀ c ∈ u.own, ¬ c ∈ v.all
  hG : H G = some (.lst (ws.map fun w => V.ref w.x))
  hM : H Ms = some (.lst (ws.map fun w => V.ref w.M.m))
  hR : H Rs = some (.lst (ws.map fun w => V.ref w.r))
  hT : H Ts = some (.lst (ts.map V.int))
  nd : [G, Ms, Rs, Ts].Nodup
  nL : ∀ c ∈ [G, Ms, Rs, Ts], ∀ w ∈ ws, ¬ c ∈ w.all
  sm : Same H0 H
  ox : ∀ c ∈ [G, Ms, Rs, Ts], H0 c = none
  oo : ∀ w ∈ ws, ∀ c ∈ w.own, H0 c = none
section
variable {K : PySem.W.Frag} {CG : Addr} {H0 H H' : Hp} {n : Nat} {G Ms Rs Ts : Addr} {ws : List R29} {ts : List Int} {S : List Addr}
theorem W29.same (h : W29 K CG H0 H n G Ms Rs Ts ws ts) (k : Same H H') : W29 K CG H0 H' n G Ms Rs Ts ws ts :=
  ⟨fun w z => (h.ok w z).same k, h.sep, k _ _ h.hG, k _ _ h.hM, k _ _ h.hR, k _ _ h.hT, h.nd, h.nL, h.sm.trans k, h.ox, h.oo⟩
theorem W29.l4 (h : W29 K CG H0 H n G Ms Rs Ts ws ts) : MutS [G, Ms, Rs, Ts] H := fun c z => by
  simp only [List.mem_cons, List.not_mem_nil, or_false] at z
  rcases z with rfl | rfl | rfl | rfl
  · exact ⟨_, h.hG, trivial⟩
  · exact ⟨_, h.hM, trivial⟩
  · exact ⟨_, h.hR, trivial⟩
  · exact ⟨_, h.hT, trivial⟩
/-- a thing beside all of it is changed -/
theorem W29.side (h : W29 K CG H0 H n G Ms Rs Ts ws ts) (f : FrS S H H') (m : MutS S H) (nS : ∀ w ∈ ws, ∀ c ∈ w.all, ¬ c ∈ S) (nL : ∀ c ∈ [G, Ms, Rs, Ts], ¬ c ∈ S) (h0 : ∀ c ∈ S, H0 c = none) : W29 K CG H0 H' n G Ms Rs Ts ws ts :=
  ⟨fun w z => (h.ok w z).frS f m (nS w z), h.sep, f _ _ (nL _ (by simp)) h.hG, f _ _ (nL _ (by simp)) h.hM, f _ _ (nL _ (by simp)) h.hR, f _ _ (nL _ (by simp)) h.hT, h.nd, h.nL, fun c o e => f c o (fun z => by rw [h0 c z] at e; cases e) (h.sm c o e), h.ox, h.oo⟩
theorem map_setR {α : Type} {f : R29 → α} {j : Nat} {u u' : R29} (hj : ws[j]? = some u) (e : f u' = f u) : (ws.set j u').map f = ws.map f := by
  apply List.ext_getElem?
  intro k
  rw [List.getElem?_map, List.getElem?_map, List.getElem?_set]
  by_cases c : j = k
  · subst c
    rw [if_pos rfl, if_pos (List.getElem?_eq_some_iff.mp hj).1, hj]
    exact congrArg some e
  · rw [if_neg c]
theorem get_setR {j k : Nat} {u u' v : R29} (hj : ws[j]? = some u) (h : (ws.set j u')[k]? = some v) : (k = j ∧ v = u') ∨ (k ≠ j ∧ ws[k]? = some v) := by
  rw [List.getElem?_set] at h
  by_cases c : j = k
  · subst c
    rw [if_pos rfl, if_pos (List.getElem?_eq_some_iff.mp hj).1] at h
    exact .inl ⟨rfl, (Option.some.inj h).symm⟩
  · rw [if_neg c] at h
    exact .inr ⟨fun z => c z.symm, h⟩
/-- a step of one of them; s, beside them, may be changed -/
theorem W29.step (h : W29 K CG H0 H n G Ms Rs Ts ws ts) {j : Nat} {u u' : R29} {s : Addr} (hj : ws[j]? = some u) (ex : u'.x = u.x) (eM : u'.M = u.M) (er : u'.r = u.r) (f : FrS (s :: u.own) H H') (ms : MutS [s] H) (sn : ∀ w ∈ ws, ¬ s ∈ w.all) (sL : ¬ s ∈ [G, Ms, Rs, Ts]) (s0 : H0 s = none)
    (ok' : Ok29 K CG H' n u') (al : ∀ c ∈ u'.all, c ∈ u.all ∨ H c = none) (ow : ∀ c ∈ u'.own, c ∈ u.own ∨ H c = none) : W29 K CG H0 H' n G Ms Rs Ts (ws.set j u') ts := by
  have hu := h.ok u (List.mem_of_getElem? hj)
  have m : MutS (s :: u.own) H := fun c z => (List.mem_cons.mp z).elim (fun y => by rw [y]; exact ms s (List.mem_singleton.mpr rfl)) fun y => hu.mut c (R29.own_all c y)
  have nL : ∀ c ∈ [G, Ms, Rs, Ts], ¬ c ∈ s :: u.own := fun c z y => (List.mem_cons.mp y).elim (fun e => sL (by rw [← e]; exact z)) fun y => h.nL c z u (List.mem_of_getElem? hj) (R29.own_all c y)
  refine ⟨fun w hw => ?_, fun i k a b ha hb ne c ca cb => ?_, ?_, ?_, ?_, f _ _ (nL _ (by simp)) h.hT, h.nd, fun c hc w hw z => ?_, fun c o e => f c o (fun z => ?_) (h.sm c o e), h.ox, fun w hw c z => ?_⟩
  · obtain ⟨k, hk⟩ := List.getElem?_of_mem hw
    rcases get_setR hj hk with ⟨_, rfl⟩ | ⟨nk, hk⟩
    · exact ok'
    · refine (h.ok w (List.mem_of_getElem? hk)).frS f m fun c z y => ?_
      rcases List.mem_cons.mp y with rfl | y
      · exact sn w (List.mem_of_getElem? hk) z
      · exact h.sep j k u w hj hk (fun e => nk e.symm) c y z
  · rcases get_setR hj ha with ⟨i1, rfl⟩ | ⟨i1, ha'⟩
    · rcases get_setR hj hb with ⟨k1, _⟩ | ⟨k1, hb'⟩
      · exact ne (i1.trans k1.symm)
      · rcases ow c ca with y | y
        · exact h.sep j k u b hj hb' (fun e => k1 e.symm) c y cb
        · exact mut_none (h.ok b (List.mem_of_getElem? hb')).mut cb y
    · rcases get_setR hj hb with ⟨k1, rfl⟩ | ⟨k1, hb'⟩
      · rcases al c cb with y | y
        · exact h.sep i j a u ha' hj i1 c ca y
        · exact mut_none (h.ok a (List.mem_of_getElem? ha')).mut (R29.own_all c ca) y
      · exact h.sep i k a b ha' hb' ne c ca cb
  · rw [map_setR (f := fun w => V.ref w.x) hj (congrArg V.ref ex)]; exact f _ _ (nL _ (by simp)) h.hG
  · rw [map_setR (f := fun w => V.ref w.M.m) hj (by rw [eM])]; exact f _ _ (nL _ (by simp)) h.hM
  · rw [map_setR (f := fun w => V.ref w.r) hj (congrArg V.ref er)]; exact f _ _ (nL _ (by simp)) h.hR
  · obtain ⟨k, hk⟩ := List.getElem?_of_mem hw
    rcases get_setR hj hk with ⟨_, rfl⟩ | ⟨nk, hk⟩
    · rcases al c z with y | y
      · exact h.nL c hc u (List.mem_of_getElem? hj) y
      · exact mut_none h.l4 hc y
    · exact h.nL c hc w (List.mem_of_getElem? hk) z
  · rcases List.mem_cons.mp z with z | z
    · rw [z, s0] at e; cases e
    · rw [h.oo u (List.mem_of_getElem? hj) c z] at e; cases e
  · obtain ⟨k, hk⟩ := List.getElem?_of_mem hw
    rcases get_setR hj hk with ⟨_, rfl⟩ | ⟨nk, hk⟩
    · rcases ow c z with y | y
      · exact h.oo u (List.mem_of_getElem? hj) c y
      · exact h.sm.free y
    · exact h.oo w (List.mem_of_getElem? hk) c z
theorem nd4 {a b c d : Addr} (h : [a, b, c, d].Nodup) : (a ≠ b ∧ a ≠ c ∧ a ≠ d) ∧ (b ≠ c ∧ b ≠ d) ∧ c ≠ d := by
  simp only [List.nodup_cons, List.mem_cons, List.not_mem_nil, or_false, not_or] at h
  exact ⟨h.1, h.2.1, h.2.2.1⟩
/-- the times are told anew -/
theorem W29.putT (h : W29 K CG H0 H n G Ms Rs Ts ws ts) (ts' : List Int) : W29 K CG H0 (upd H Ts (.lst (ts'.map V.int))) n G Ms Rs Ts ws ts' := by
  obtain ⟨⟨_, _, a⟩, ⟨_, b⟩, c⟩ := nd4 h.nd
  have f : FrS [Ts] H (upd H Ts (.lst (ts'.map V.int))) := fun d o ne e => by rw [upd_ne (fun z => ne (List.mem_singleton.mpr z))]; exact e
  have m : MutS [Ts] H := fun d z => by rw [List.mem_singleton.mp z]; exact ⟨_, h.hT, trivial⟩
  exact ⟨fun w z => (h.ok w z).frS f m (fun d hd y => by rw [List.mem_singleton.mp y] at hd; exact h.nL Ts (by simp) w z hd), h.sep, by rw [upd_ne a]; exact h.hG, by rw [upd_ne b]; exact h.hM, by rw [upd_ne c]; exact h.hR, upd_same, h.nd, h.nL, fun d o e => by rw [upd_ne (fun z => by rw [z, h.ox Ts (by simp)] at e; cases e)]; exact h.sm d o e, h.ox, h.oo⟩
/-- a twin of one of them stands beside them -/
theorem W29.twin (h : W29 K CG H0 H n G Ms Rs Ts ws ts) {j : Nat} {u v : R29} (hj : ws[j]? = some u) (f : FrS [u.x, G, Ms, Rs, Ts] H H') (ok' : Ok29 K CG H' n { u with g := { u.g with lent := true } }) (okv : Ok29 K CG H' n v) (el : v.g.lent = true) (eA : v.A.all = u.A.all) (nx : H v.x = none) (nr : H v.r = none) (nq : H v.q = none) (nM : ∀ c ∈ v.M.all, H c = none) {ts' : List Int}
    (hG : H' G = some (.lst (ws.map (fun w => V.ref w.x) ++ [.ref v.x]))) (hM : H' Ms = some (.lst (ws.map (fun w => V.ref w.M.m) ++ [.ref v.M.m]))) (hR : H' Rs = some (.lst (ws.map (fun w => V.ref w.r) ++ [.ref v.r]))) (hT : H' Ts = some (.lst (ts'.map V.int))) :
    W29 K CG H0 H' n G Ms Rs Ts (ws.set j { u with g := { u.g with lent := true } } ++ [v]) ts' := by
  have um := List.mem_of_getElem? hj
  have hu := h.ok u um
  have mS : MutS [u.x, G, Ms, Rs, Ts] H := fun c z => (List.mem_cons.mp z).elim (fun y => by rw [y]; exact hu.mut _ (all_of (.inl rfl))) (h.l4 c)
  have vown : ∀ c ∈ v.own, H c = none := fun c z => by
    rcases own_cases z with rfl | rfl | rfl | z | z
    · exact nx
    · exact nr
    · exact nq
    · exact nM c z
    · rw [el] at z; cases z.2
  have vall : ∀ c ∈ v.all, H c = none ∨ c ∈ u.A.all := fun c z => by
    rcases all_cases z with rfl | rfl | rfl | z | z
    · exact .inl nx
    · exact .inl nr
    · exact .inl nq
    · exact .inl (nM c z)
    · rw [eA] at z; exact .inr z
  have uown : ∀ c ∈ ({ u with g := { u.g with lent := true } } : R29).own, c = u.x ∨ c = u.r ∨ c = u.q ∨ c ∈ u.M.all := fun c z => by
    rcases own_cases z with z | z | z | z | z
    · exact .inl z
    · exact .inr (.inl z)
    · exact .inr (.inr (.inl z))
    · exact .inr (.inr (.inr z))
    · cases z.2
  have uown' : ∀ c ∈ ({ u with g := { u.g with lent := true } } : R29).own, c ∈ u.own := fun c z => own_of ((uown c z).imp id (Or.imp id (Or.imp id .inl)))
  have get : ∀ {k : Nat} {w : R29}, (ws.set j { u with g := { u.g with lent := true } } ++ [v])[k]? = some w → (k = ws.length ∧ w = v) ∨ (k = j ∧ w = { u with g := { u.g with lent := true } }) ∨ (k ≠ j ∧ ws[k]? = some w) := fun {k w} e => by
    by_cases c : k < (ws.set j { u with g := { u.g with lent := true } }).length
    · rw [List.getElem?_append_left c] at e
      exact .inr (get_setR hj e)
    · have kl := (List.getElem?_eq_some_iff.mp e).1
      rw [List.length_append, List.length_set] at kl
      rw [List.length_set] at c
      have : k = ws.length := by simp at kl; omega
      subst this
      rw [List.getElem?_append_right (by rw [List.length_set]; exact Nat.le_refl _), List.length_set, Nat.sub_self] at e
      exact .inl ⟨rfl, (Option.some.inj e).symm⟩
  have jl := (List.getElem?_eq_some_iff.mp hj).1
  refine ⟨fun w hw => ?_, fun i k a b ha hb ne c ca cb => ?_, ?_, ?_, ?_, hT, h.nd, fun c hc w hw z => ?_, fun c o e => f c o (fun z => ?_) (h.sm c o e), h.ox, fun w hw c z => ?_⟩
  · obtain ⟨k, hk⟩ := List.getElem?_of_mem hw
    rcases get hk with ⟨_, rfl⟩ | ⟨_, rfl⟩ | ⟨nk, hk⟩
    · exact okv
    · exact ok'
    · refine (h.ok w (List.mem_of_getElem? hk)).frS f mS fun c z y => ?_
      rcases List.mem_cons.mp y with rfl | y
      · exact h.sep j k u w hj hk (fun e => nk e.symm) _ (own_of (.inl rfl)) z
      · exact h.nL c y w (List.mem_of_getElem? hk) z
  · rcases get ha with ⟨i1, rfl⟩ | ⟨i1, rfl⟩ | ⟨i1, ha'⟩
    · have y := vown c ca
      rcases get hb with ⟨k1, _⟩ | ⟨_, rfl⟩ | ⟨_, hb'⟩
      · exact ne (i1.trans k1.symm)
      · exact mut_none hu.mut (show c ∈ u.all from cb) y
      · exact mut_none (h.ok b (List.mem_of_getElem? hb')).mut cb y
    · rcases get hb with ⟨_, rfl⟩ | ⟨k1, _⟩ | ⟨k1, hb'⟩
      · rcases vall c cb with y | y
        · exact mut_none hu.mut (R29.own_all c (uown' c ca)) y
        · rcases uown c ca with rfl | rfl | rfl | z
          · exact xlist hu.t.w.at_ y
          · exact hu.rO (List.mem_append_left _ (List.mem_cons_of_mem _ y))
          · exact hu.qO (List.mem_append_left _ (List.mem_cons_of_mem _ y))
          · exact hu.t.ap c (List.mem_cons_of_mem _ y) z
      · exact ne (i1.trans k1.symm)
      · exact h.sep j k u b hj hb' (fun e => k1 e.symm) c (uown' c ca) cb
    · rcases get hb with ⟨_, rfl⟩ | ⟨k1, rfl⟩ | ⟨k1, hb'⟩
      · rcases vall c cb with y | y
        · exact mut_none (h.ok a (List.mem_of_getElem? ha')).mut (R29.own_all c ca) y
        · exact h.sep i j a u ha' hj i1 c ca (all_of (.inr (.inr (.inr (.inr y)))))
      · exact h.sep i j a u ha' hj i1 c ca (show c ∈ u.all from cb)
      · exact h.sep i k a b ha' hb' ne c ca cb
  · rw [List.map_append, map_setR (f := fun w => V.ref w.x) (u' := { u with g := { u.g with lent := true } }) hj rfl]; exact hG
  · rw [List.map_append, map_setR (f := fun w => V.ref w.M.m) (u' := { u with g := { u.g with lent := true } }) hj rfl]; exact hM
  · rw [List.map_append, map_setR (f := fun w => V.ref w.r) (u' := { u with g := { u.g with lent := true } }) hj rfl]; exact hR
  · obtain ⟨k, hk⟩ := List.getElem?_of_mem hw
    rcases get hk with ⟨_, rfl⟩ | ⟨_, rfl⟩ | ⟨nk, hk⟩
    · rcases vall c z with y | y
      · exact mut_none h.l4 hc y
      · exact h.nL c hc u um (all_of (.inr (.inr (.inr (.inr y)))))
    · exact h.nL c hc u um (show c ∈ u.all from z)
    · exact h.nL c hc w (List.mem_of_getElem? hk) z
  · rcases List.mem_cons.mp z with z | z
    · rw [z, h.oo u um _ (own_of (.inl rfl))] at e; cases e
    · rw [h.ox c z] at e; cases e
  · obtain ⟨k, hk⟩ := List.getElem?_of_mem hw
    rcases get hk with ⟨_, rfl⟩ | ⟨_, rfl⟩ | ⟨nk, hk⟩
    · exact h.sm.free (vown c z)
    · exact h.oo u um c (uown' c z)
    · exact h.oo w (List.mem_of_getElem? hk) c z
end
theorem atI_mapR {α : Type} {ws : List α} {i : Nat} {w : α} (f : α → V) (h : ws[i]? = some w) : atI (ws.map f) (i : Int) = some (f w) := atI_nat (by rw [List.getElem?_map, h]; rfl)
theorem atI_mapR0 {α : Type} {ws : List α} {i : Nat} {w : α} (f : α → V) (h : ws[i]? = some w) : atI (ws.map f) (0 + (i : Int)) = some (f w) := by rw [Int.zero_add]; exact atI_mapR f h
theorem cut_last (xs : List V) (y : V) : cutV (xs ++ [y]) none (some (-1)) = xs := by
  have e : HT.sIx (xs ++ [y]).length (xs ++ [y]).length (some (-1)) = xs.length := by
    have z := HT.clip_eq (-1) (xs ++ [y]).length (xs ++ [y]).length
    rw [List.length_append] at z ⊢
    simp only [List.length_cons, List.length_nil] at z ⊢
    split at z <;> omega
  unfold cutV
  rw [e]
  show ((xs ++ [y]).drop 0).take (xs.length - 0) = _
  rw [List.drop_zero, Nat.sub_zero, List.take_append_of_le_length (Nat.le_refl _), List.take_length]

theorem ok_law {P : Program} {w : World} {K : PySem.W.Frag} {mg : Str → Option Value} {base : Heap} {a : Nat → Addr} {d : Nat → FuncData} (T : Txt K mg a d) : FnG P w K mg base 12 (a 60) (d 60) ["_law_script"] (spLaw K) := by
  refine fnG_mk T.F_law sc_law (fun vs H Q E h => ?_) (fun cdv A outer s0 H vs Q E gd hr h => ?_)
  · obtain ⟨l, ns, rfl, hS, hl, q⟩ := h
    rfl
  · obtain ⟨l, ns, rfl, hS, hl, q⟩ := h
    refine ⟨_, (pss_cons (ps_set (i := 1) sc_law.nd rfl (Or.inl rfl) (pe_call (ok_l_begun T) (hr.mono (by decide)) (by rfl) T.g_l_begun T.F_l_begun.kp T.b_l_begun .nil pass0 (pa_cons (pv 0) (pa_cons pe_int pa_nil)))) (pss_cons (ps_set (i := 2) sc_law.nd rfl (Or.inr rfl) (pe_lst (pa_cons (pe_makeN T.m_Copies___init__ (ok_Copies___init__ T) (hr.mono (by decide)) (by rfl) T.g_Copies T.k_Copies___init__ pass0 (pa_cons (pe_op op_add pe_int (pe_call (ok_l_take T) (hr.mono (by decide)) (by rfl) T.g_l_take T.F_l_take.kp T.b_l_take .nil pass0 (pa_cons (pv 1) (pa_cons pe_int pa_nil)))) pa_nil) (pk_cons (pe_tup (pa_cons pe_int (pa_cons pe_int pa_nil))) (pk_cons pe_int pk_nil))) pa_nil))) (pss_cons (ps_set (i := 3) sc_law.nd rfl (Or.inr rfl) (pe_lst (pa_cons (pe_call (ok_l_group T) (hr.mono (by decide)) (by rfl) T.g_l_group T.F_l_group.kp T.b_l_group .nil pass0 (pa_cons (pe_callB (call_lenOwn (ok_Copies___len__ T) (Room.in1 (k := 1) (hr.mono (by decide))) T.m_Copies___len__.at_ T.m_Copies___len__.fn T.b_Copies___len__ pass0) (by rfl) T.z_len PySem.boot_len (pa_cons (pe_ix ix_list (pv 2) pe_int (fun _ _ => rfl)) pa_nil)) pa_nil)) pa_nil))) (pss_cons (ps_set (i := 4) sc_law.nd rfl (Or.inl rfl) (pe_lst (pa_cons (pe_call (ok_l_begin_clocks T) (hr.mono (by decide)) (by rfl) T.g_l_begin_clocks T.F_l_begin_clocks.kp T.b_l_begin_clocks .nil pass0 (pa_cons (pv 1) (pa_cons (pe_ix ix_list (pv 2) pe_int (fun _ _ => rfl)) pa_nil))) pa_nil))) (pss_cons (ps_set (i := 5) sc_law.nd rfl (Or.inl rfl) (pe_lst (pa_cons pe_int pa_nil))) (pss_cons (ps_for PassesOwn.never rfl (pi_range2 (by rfl) T.z_range (pa_cons pe_int (pa_cons (pe_callB (call_max2 rfl) (by rfl) T.z_max (by decide +kernel) (pa_cons pe_int (pa_cons (pe_callB (call_min2 rfl) (by rfl) T.z_min (by decide +kernel) (pa_cons pe_int (pa_cons (pe_callB call_len_seq (by rfl) T.z_len PySem.boot_len (pa_cons (pv 0) pa_nil)) pa_nil))) pa_nil))) pa_nil))) (pg_name (i := 6) sc_law.nd rfl (.inl rfl)) (pss_cons (ps_set (i := 1) sc_law.nd rfl (Or.inl rfl) (pe_call (ok_l_begun T) (hr.mono (by decide)) (by rfl) T.g_l_begun T.F_l_begun.kp T.b_l_begun .nil pass0 (pa_cons (pv 0) (pa_cons (pv 6) pa_nil)))) (pss_cons (ps_set (i := 7) sc_law.nd rfl (Or.inl rfl) (pe_call (ok_l_take T) (hr.mono (by decide)) (by rfl) T.g_l_take T.F_l_take.kp T.b_l_take .nil pass0 (pa_cons (pv 1) (pa_cons (pe_callB call_len_seq (by rfl) T.z_len PySem.boot_len (pa_cons (pv 2) pa_nil)) pa_nil)))) (Evl.pss_cut (ps_if (PW.pt (pw_and (pt_cmpR op_lt (pe_callB call_len_seq (by rfl) T.z_len PySem.boot_len (pa_cons (pv 2) pa_nil)) pe_int (nomark _)) (pw_and1 (pt_cmpR op_eq (pe_call (ok_l_take T) (hr.mono (by decide)) (by rfl) T.g_l_take T.F_l_take.kp T.b_l_take .nil pass0 (pa_cons (pv 1) (pa_cons pe_int pa_nil))) pe_int (nomark _))))) (pss_cons (ps_expr (pe_bm PySem.F.plainAttrs_list PySem.F.slot_list_append PySem.F.type_list_append mt_append (pv 2) (pa_cons (pe_meth0 (pe_ix ix_list (pv 2) (pv 7) (fun _ _ => rfl)) T.cl T.m_Copies_twin (ok_Copies_twin T) (hr.mono (by decide)) T.b_Copies_twin .nil pass0) pa_nil))) (pss_cons (ps_expr (pe_bm PySem.F.plainAttrs_list PySem.F.slot_list_append PySem.F.type_list_append mt_append (pv 3) (pa_cons (pe_call (ok_l_copied T) (hr.mono (by decide)) (by rfl) T.g_l_copied T.F_l_copied.kp T.b_l_copied .nil pass0 (pa_cons (pe_ix ix_list (pv 3) (pv 7) (fun _ _ => rfl)) pa_nil)) pa_nil))) (pss_cons (ps_expr (pe_bm PySem.F.plainAttrs_list PySem.F.slot_list_append PySem.F.type_list_append mt_append (pv 4) (pa_cons (pe_op op_cat (pe_slice sl_list (pe_ix ix_list (pv 4) (pv 7) (fun _ _ => rfl)) po_none (po_some (pe_un un_neg pe_int))) (pe_lst (pa_cons (pe_callTy call_list_of (by rfl) T.z_list (by decide +kernel) (pa_cons (pe_ix ix_list (pe_ix ix_list (pv 4) (pv 7) (fun _ _ => rfl)) (pe_un un_neg pe_int) (fun _ _ => rfl)) pa_nil)) pa_nil))) pa_nil))) (pss_one (ps_expr (pe_bm PySem.F.plainAttrs_list PySem.F.slot_list_append PySem.F.type_list_append mt_append (pv 5) (pa_cons (pe_ix ix_list (pv 5) (pv 7) (fun _ _ => rfl)) pa_nil))))))) pss_nil) (Evl.pss_cut (ps_if (pt_cmpR op_eq (pe_call (ok_l_take T) (hr.mono (by decide)) (by rfl) T.g_l_take T.F_l_take.kp T.b_l_take .nil pass0 (pa_cons (pv 1) (pa_cons pe_int pa_nil))) pe_int (nomark _)) (pss_one (ps_asg (pe_call (ok_l_tick T) (hr.mono (by decide)) (by rfl) T.g_l_tick T.F_l_tick.kp T.b_l_tick .nil pass0 (pa_cons (pv 1) (pa_cons (pe_ix ix_list (pv 2) (pv 7) (fun _ _ => rfl)) (pa_cons (pe_ix ix_list (pv 5) (pv 7) (fun _ _ => rfl)) (pa_cons (pe_ix ix_list (pv 4) (pv 7) (fun _ _ => rfl)) pa_nil))))) (pg_sub (pv 5) (pv 7) set_list))) pss_nil) (pss_cons (ps_if (pt_not (pt_truth (pe_call (ok_l_deed T) (hr.mono (by decide)) (by rfl) T.g_l_deed T.F_l_deed.kp T.b_l_deed .nil pass0 (pa_cons (pv 1) (pa_cons (pe_ix ix_list (pv 3) (pv 7) (fun _ _ => rfl)) (pa_cons (pe_ix ix_list (pv 2) (pv 7) (fun _ _ => rfl)) (pa_cons (pv 6) pa_nil))))) (by intro _; rfl))) (pss_one (ps_ret pe_bl)) pss_nil) (pss_one (ps_if (pt_cmpR (op_neD hr.units) (pe_lc (own := [("_law_one", 8)]) (g := gName 8) (te := (tVar 8)) (tt := (tNot (tTru K (tCall (spMStands K (a 61)) [] E0 (tCons (tOp (rIxL K) (tVar 3) (tVar 8)) (tCons (tOp (rIxL K) (tVar 2) (tVar 8)) tNil)))))) (by rfl) sc_law.nd (pi_range1 (by rfl) T.z_range (pa_cons (pe_callB call_len_seq (by rfl) T.z_len PySem.boot_len (pa_cons (pv 2) pa_nil)) pa_nil)) (blkOk_by (own := [("_law_one", 8)]) (N := ["_law_script", "_law_state", "_law_groups", "_law_models", "_law_rests", "_law_times", "_law_k", "_law_at", "_law_one"]) (sc := defScope s_law) (by decide +kernel)) (fun _ _ _ _ _ => (pg_name (i := 8) sc_law.nd rfl (.inl rfl))) (fun _ _ _ _ _ => (pts_one (pt_not (pt_truth (pe_callG (ok_l_stands T) gd (hr.mono (by decide)) (by rfl) T.g_l_stands T.F_l_stands.kp T.b_l_stands pass0 (pa_cons (pe_ix ix_list (pv 3) (pv 8) (fun _ _ => rfl)) (pa_cons (pe_ix ix_list (pv 2) (pv 8) (fun _ _ => rfl)) pa_nil))) (by intro _; rfl))))) (fun _ _ _ _ _ => (pv 8))) (pe_lst pa_nil) (nomark _)) (pss_one (ps_ret pe_bl)) pss_nil)))))))) (pss_one (ps_ret pe_bl)))))))), ?_⟩
    refine ⟨_, rfl, l, ns, 0, rfl, hS, hl, by decide, by decide, fun s0 H1 ns0 s1 hs1 => ?_⟩
    have sn : H s0 = none := ns0
    refine ⟨_, rfl, s0, 5, rfl, hs1, (by decide), (by decide), fun r5 H2 r50 r51 K2 => ⟨1, r5, rfl, rfl, ?_⟩⟩
    refine ⟨len2, fun pd npd => ?_⟩
    have K4 := K2.new (o := .tup [.int 1, .int 10]) npd
    have hpd : (upd H2 pd (.tup [.int 1, .int 10])) pd = some (.tup [.int 1, .int 10]) := upd_same
    generalize (upd H2 pd (.tup [.int 1, .int 10])) = H4 at K4 hpd ⊢
    refine ⟨rfl, rfl, fun x dx nx ndx nex => ?_⟩
    have S5 : Same H H4 := Kp.same s1 sn K4
    have sm := same_make (o1 := .own x) (o2 := .ins (a 61) dx []) nx ndx
    have fx : H x = none := S5.free nx
    obtain ⟨n, hn⟩ := Int.eq_ofNat_of_zero_le (show 0 ≤ 1 + r5 by omega)
    have hx5 : (upd (upd H4 dx (.own x)) x (.ins (a 61) dx [])) x = some (.ins (a 61) dx []) := upd_same
    generalize (upd (upd H4 dx (.own x)) x (.ins (a 61) dx [])) = H6 at sm hx5 ⊢
    have st6 : StAt H6 s0 := by
      obtain ⟨a, b', c, e, r⟩ := K4.2
      exact ⟨a, b', c, sm _ _ e, r⟩
    refine ⟨x, dx, n, pd, 12, 1, 10, (by show [V.ref x, V.int (1 + r5), V.ref pd, V.int 12] = _; rw [hn]), hx5, by omega, by omega, by decide, by decide, ⟨SqT.of (sm _ _ hpd), by decide, by decide, by decide, by decide⟩, fun A H7 fA eA F7 hg7 => ⟨rfl, ?_⟩⟩
    have n1 : 0 < n := by omega
    have S6 : Same H H6 := S5.trans sm
    have sx : s0 ≠ x := by
      obtain ⟨_, _, _, e, _⟩ := st6
      exact ne_of e hx5 (by intro z; cases z)
    have st7 : StAt H7 s0 := by
      obtain ⟨a, b', c, e, r⟩ := st6
      exact ⟨a, b', c, F7 _ _ sx e, r⟩
    have S7 : Same H H7 := fun c o e => F7 _ _ (ne_of_none e fx) (S6 _ _ e)
    have sA : ¬ s0 ∈ A.all := fun z => by
      obtain ⟨_, _, _, e, _⟩ := st6
      rw [fA _ z] at e
      cases e
    have fAH : ∀ c ∈ A.all, H c = none := fun c z => S6.free (fA c z)
    have hl7 : (newG n 12).ms.length = n := by show (List.replicate n MS.new).length = n; rw [List.length_replicate]
    have bg : Beg8 (newG n 12) 0 := ⟨fun j s hj => by
      have e : s = MS.new := List.eq_of_mem_replicate (List.mem_of_getElem? hj)
      subst e
      exact ⟨rfl, rfl, rfl, rfl, fun _ => rfl, fun z => absurd z (Nat.not_lt_zero j)⟩, rfl, rfl, rfl, fun s hs => by rw [List.eq_of_mem_replicate hs]; rfl, rfl⟩

    refine ⟨len1, fun G nG => ?_⟩
    have sG7 : Same H7 (upd H7 G (.lst [.ref x])) := same_new (Same.refl H7) nG
    have hG8 : (upd H7 G (.lst [.ref x])) G = some (.lst [.ref x]) := upd_same
    have GH : H G = none := S7.free nG
    generalize (upd H7 G (.lst [.ref x])) = H7b at sG7 hG8 ⊢
    have hg7b := hg7.same sG7
    obtain ⟨dx7, hx7⟩ := hg7b.at_
    refine ⟨_, rfl, G, _, 0, _, rfl, rfl, SqL.of hG8, rfl, x, dx7, _, rfl, hx7, x, A, 1, 10, newG n 12, rfl, hg7b, (newG n 12).ms.length, rfl, (by have := hg7b.ls.n5; omega), n, by rw [hl7]; rfl, by omega, fun M H8 fM s8b md8 => ?_⟩
    have s8 : Same H7 H8 := sG7.trans s8b
    have fM7 : ∀ c ∈ M.all, H7 c = none := fun c z => sG7.free (fM c z)
    have fMH : ∀ c ∈ M.all, H c = none := fun c z => S7.free (fM7 c z)
    have GM : ¬ G ∈ M.all := fun z => by
      have := fM G z
      rw [hG8] at this; cases this
    refine ⟨len1, fun Ms nMs => ?_⟩
    have sM9 : Same H8 (upd H8 Ms (.lst [.ref M.m])) := same_new (Same.refl H8) nMs
    have hM9 : (upd H8 Ms (.lst [.ref M.m])) Ms = some (.lst [.ref M.m]) := upd_same
    have hG9 := sM9 _ _ (s8b _ _ hG8)
    have MsH : H Ms = none := S7.free (s8.free nMs)
    have GMs : G ≠ Ms := ne_of_none (s8b _ _ hG8) nMs
    generalize (upd H8 Ms (.lst [.ref M.m])) = H9 at sM9 hM9 hG9 ⊢
    have S79 := s8.trans sM9
    have S9 := S7.trans S79
    have hg9 := hg7.same S79
    have st9 : StAt H9 s0 := by
      obtain ⟨a, b', c, e, r⟩ := st7
      exact ⟨a, b', c, S79 _ _ e, r⟩
    have md9 := fun le ch ln lo => (md8 le ch ln lo).same sM9
    have mdm := (md9 12 none false false).mut
    have sM : ¬ s0 ∈ M.all := fun z => by
      obtain ⟨_, _, _, e, _⟩ := st7
      rw [fM7 _ z] at e
      cases e
    have ap9 : ∀ c ∈ ownG x A, ¬ c ∈ M.all := fun c z y => by
      obtain ⟨o, e, _⟩ := hg7.mut c z
      rw [fM7 _ y] at e
      cases e
    have s0G : s0 ≠ G := by
      obtain ⟨_, _, _, e, _⟩ := st7
      exact ne_of_none e nG
    have s0Ms : s0 ≠ Ms := by
      obtain ⟨_, _, _, e, _⟩ := st7
      exact ne_of_none (s8 _ _ e) nMs
    have xG : x ≠ G := by
      obtain ⟨_, e⟩ := hg7.at_
      exact ne_of_none e nG
    have xMs : x ≠ Ms := by
      obtain ⟨_, e⟩ := hg7.at_
      exact ne_of_none (s8 _ _ e) nMs
    refine ⟨_, rfl, _, rfl, G, _, 0, _, rfl, rfl, SqL.of hG9, rfl, s0, x, A, n, newG n 12, rfl, st9, hg9, bg, hl7, sA, fun r qq A8 Ha g8 ps o8 hga bga hna lea rea fra fqa rAa qAa fa sta => ?_⟩
    have xM : ¬ x ∈ M.all := ap9 x (List.mem_cons_self ..)
    have mda : MdAt K Ha M g8 := bga.md hna ((md9 12 none false false).frS (S := [s0, x]) (fun c o nc e => fa c o (fun z => nc (by rw [z]; exact List.mem_cons_self ..)) (fun z => nc (by rw [z]; exact List.mem_cons_of_mem _ (List.mem_cons_self ..))) e) (fun c hc => by
      rcases List.mem_cons.mp hc with rfl | hc
      · obtain ⟨_, _, _, e, _⟩ := st9
        exact ⟨_, e, trivial⟩
      · rw [List.mem_singleton.mp hc]
        exact hg9.mut x (List.mem_cons_self ..)) (fun c hc z => by
      rcases List.mem_cons.mp z with rfl | z
      · exact sM hc
      · rw [List.mem_singleton.mp z] at hc; exact xM hc))
    have le12 : g8.le = 12 := by rw [lea]; rfl
    have wa := bga.w hna (by omega) (by omega) hga
    have apa : ∀ c ∈ ownG x A8, ¬ c ∈ M.all := fun c z y => by
      rcases List.mem_cons.mp z with rfl | z
      · exact xM y
      · rcases o8.ow c z with u | u
        · exact ap9 c (List.mem_cons_of_mem _ u) y
        · obtain ⟨o, e, _⟩ := mdm c y
          rw [u] at e; cases e
    have mka : ∀ d ∈ g8.ds, MarkD d := by rw [bga.ds]; intro d hd; cases hd
    have Ta : T28 K (a 61) Ha x A8 M n g8 (List.replicate n 0) 0 := ⟨wa, bga.p hna n1, mda, apa, mka⟩
    have Sa : Same H Ha := fun c o e => fa _ _ (ne_of_none e sn) (ne_of_none e fx) (S9 _ _ e)
    have rOa : ¬ r ∈ own8 x A8 M := fun z => by
      rcases List.mem_append.mp z with z | z
      · rcases List.mem_cons.mp z with e | z
        · obtain ⟨_, hx9⟩ := hg9.at_
          rw [← e, fra] at hx9; cases hx9
        · exact rAa z
      · obtain ⟨o, e, _⟩ := mdm r z
        rw [fra] at e; cases e
    have qOa : ¬ qq ∈ own8 x A8 M := fun z => by
      rcases List.mem_append.mp z with z | z
      · rcases List.mem_cons.mp z with e | z
        · obtain ⟨_, hx9⟩ := hg9.at_
          rw [← e, fqa] at hx9; cases hx9
        · exact qAa z
      · obtain ⟨o, e, _⟩ := mdm qq z
        rw [fqa] at e; cases e
    have hGa := fa _ _ s0G.symm xG.symm hG9
    have hMa := fa _ _ s0Ms.symm xMs.symm hM9
    refine ⟨len1, fun Rs nRs => ?_⟩
    have sRb : Same Ha (upd Ha Rs (.lst [.ref r])) := same_new (Same.refl Ha) nRs
    have hRb : (upd Ha Rs (.lst [.ref r])) Rs = some (.lst [.ref r]) := upd_same
    generalize (upd Ha Rs (.lst [.ref r])) = Hb at sRb hRb ⊢
    refine ⟨len1, fun Ts nTs => ?_⟩
    have sTc : Same Hb (upd Hb Ts (.lst [.int 0])) := same_new (Same.refl Hb) nTs
    have hTc : (upd Hb Ts (.lst [.int 0])) Ts = some (.lst [.int 0]) := upd_same
    have hRc : (upd Hb Ts (.lst [.int 0])) Rs = some (.lst [.ref r]) := sTc _ _ hRb
    have RsTs : Rs ≠ Ts := ne_of_none hRb nTs
    generalize (upd Hb Ts (.lst [.int 0])) = Hc at sTc hTc hRc ⊢
    have Sac := sRb.trans sTc
    have nTsa : Ha Ts = none := sRb.free nTs
    let w0 : R29 := ⟨x, A8, M, r, qq, g8, List.replicate n 0, ps, 0⟩
    have okA : Ok29 K (a 61) Ha n w0 := ⟨Ta, rea, rOa, qOa, le12⟩
    have inL : ∀ c ∈ [G, Ms, Rs, Ts], ¬ c ∈ w0.all := fun c z y => by
      rcases List.mem_cons.mp z with rfl | z
      · rcases all_cases y with e | e | e | e | e
        · exact xG e.symm
        · rw [e, fra] at hG9; cases hG9
        · rw [e, fqa] at hG9; cases hG9
        · exact GM e
        · rcases o8.ow c e with u | u
          · have := fA c u
            have z2 := S6.free this
            obtain ⟨o, eo⟩ := hg7.ls.some_ c u
            rw [nG] at eo; cases eo
          · rw [hG9] at u; cases u
      · rcases List.mem_cons.mp z with rfl | z
        · rcases all_cases y with e | e | e | e | e
          · exact xMs e.symm
          · rw [e, fra] at hM9; cases hM9
          · rw [e, fqa] at hM9; cases hM9
          · obtain ⟨o, eo, _⟩ := (md8 12 none false false).mut c e
            rw [nMs] at eo; cases eo
          · rcases o8.ow c e with u | u
            · obtain ⟨o, eo⟩ := hg7.ls.some_ c u
              rw [s8 _ _ eo] at nMs; cases nMs
            · rw [hM9] at u; cases u
        · rcases List.mem_cons.mp z with rfl | z
          · exact mut_none okA.mut y nRs
          · rw [List.mem_singleton.mp z] at y
            exact mut_none okA.mut y nTsa
    have allH : ∀ c ∈ w0.own, H c = none := fun c z => by
      rcases own_cases z with rfl | rfl | rfl | z | z
      · exact fx
      · exact S9.free fra
      · exact S9.free fqa
      · exact fMH c z
      · rw [z.1]
        have e : w0.A.el = A.el := o8.ee
        rw [e]
        exact S6.free (fA _ (el_in A))
    have Wc : W29 K (a 61) H Hc n G Ms Rs Ts [w0] [0] := ⟨fun w z => by rw [List.mem_singleton.mp z]; exact okA.same Sac, fun i j u v hu hv ne => by
        have hi := (List.getElem?_eq_some_iff.mp hu).1
        have hj := (List.getElem?_eq_some_iff.mp hv).1
        simp at hi hj
        omega, Sac _ _ hGa, Sac _ _ hMa, hRc, hTc, by
        have a1 : G ≠ Rs := ne_of_none hGa nRs
        have a2 : G ≠ Ts := ne_of_none hGa nTsa
        have a3 : Ms ≠ Rs := ne_of_none hMa nRs
        have a4 : Ms ≠ Ts := ne_of_none hMa nTsa
        simp [GMs, a1, a2, a3, a4, RsTs], fun c z w hw => by rw [List.mem_singleton.mp hw]; exact inL c z, Sa.trans Sac, fun c z => by
        rcases List.mem_cons.mp z with rfl | z
        · exact GH
        · rcases List.mem_cons.mp z with rfl | z
          · exact MsH
          · rcases List.mem_cons.mp z with rfl | z
            · exact Sa.free nRs
            · rw [List.mem_singleton.mp z]; exact Sa.free nTsa, fun w hw => by rw [List.mem_singleton.mp hw]; exact allH⟩
    have dsC : ∀ w ∈ [w0], w.g.ds.length ≤ 0 := fun w hw => by rw [List.mem_singleton.mp hw]; show g8.ds.length ≤ 0; rw [bga.ds]; exact Nat.le_refl _
    have tnC : [0] = [w0].map (fun w => w.now) := rfl
    have l1C : 0 < [w0].length ∧ [w0].length ≤ 3 := ⟨by show 0 < 1; decide, by show 1 ≤ 3; decide⟩
    generalize [w0] = ws0 at Wc dsC tnC l1C
    have hSc := Wc.sm.seq hS
    have hm : (ns.map V.int).length = ns.length := List.length_map _
    refine ⟨_, rfl, l, _, rfl, .inl hSc, 31, _, rfl, 9, _, rfl, 1, _, rfl, ⟨by decide, by decide, by (repeat' split) <;> omega, by (repeat' split) <;> omega⟩, ?_⟩
    have hN : ((if (if ((ns.map V.int).length : Int) < 31 then ((ns.map V.int).length : Int) else 31) > 9 then (if ((ns.map V.int).length : Int) < 31 then ((ns.map V.int).length : Int) else 31) else (9 : Int)) - 1).toNat ≤ 30 := by
      rw [hm]; (repeat' split) <;> omega
    refine for_range (lo := 1) (fun i σ H' => (∃ (v1 v6 v7 v8 : Option V), σ = [some (.ref l), v1, some (.ref G), some (.ref Ms), some (.ref Rs), some (.ref Ts), v6, v7, v8]) ∧ ∃ (ws : List R29) (ts : List Int), W29 K (a 61) H H' n G Ms Rs Ts ws ts ∧ ts = ws.map (fun w => w.now) ∧ (∀ w ∈ ws, w.g.ds.length ≤ i) ∧ 0 < ws.length ∧ ws.length ≤ 3) ⟨⟨_, _, _, _, rfl⟩, ws0, [0], Wc, tnC, dsC, l1C.1, l1C.2⟩ ?_ ?_
    · rintro i σ Hd hi ⟨⟨v1, v6, v7, v8, rfl⟩, ws, ts, Wd, rfl, dsd, wl1, wl3⟩
      refine ⟨_, rfl, _, rfl, l, ns, _, rfl, Wd.sm.seq hS, hl, by omega, by omega, fun s He nsb sb hsb => ?_⟩
      have We := Wd.same sb
      have s0n : H s = none := Wd.sm.free nsb
      have sN : ∀ w ∈ ws, ¬ s ∈ w.all := fun w hw z => mut_none (Wd.ok w hw).mut z nsb
      have sL : ¬ s ∈ [G, Ms, Rs, Ts] := fun z => mut_none Wd.l4 z nsb
      -- a draw
      have draw : ∀ {Hx Hy : Hp} {ws' : List R29} {ts' : List Int}, W29 K (a 61) H Hx n G Ms Rs Ts ws' ts' → (∀ w ∈ ws', ¬ s ∈ w.all) → StAt Hx s → Kp s Hx Hy → W29 K (a 61) H Hy n G Ms Rs Ts ws' ts' := fun W nS st k => by
        obtain ⟨_, _, _, e, _⟩ := st
        exact W.side (S := [s]) (fun c o nc e => k.1 c o (fun z => nc (List.mem_singleton.mpr z)) e) (fun c hc => by rw [List.mem_singleton.mp hc]; exact ⟨_, e, trivial⟩) (fun w hw c z y => nS w hw (by rw [← List.mem_singleton.mp y]; exact z)) (fun c z y => sL (by rw [← List.mem_singleton.mp y]; exact z)) (fun c z => by rw [List.mem_singleton.mp z]; exact s0n)
      refine ⟨_, rfl, _, rfl, G, _, rfl, .inl (SqL.of We.hG), s, _, rfl, hsb, (by rw [List.length_map]; omega), (by rw [List.length_map]; omega), fun at' Hf at0 at1 Kf => ?_⟩
      rw [List.length_map] at at1
      have Wf := draw We sN hsb Kf
      obtain ⟨j, rfl⟩ := Int.eq_ofNat_of_zero_le at0
      obtain ⟨u, hu⟩ : ∃ u, ws[j]? = some u := ⟨_, List.getElem?_eq_getElem (by omega)⟩
      have um := List.mem_of_getElem? hu
      refine ⟨fun σ' H' => (∃ (v8 : Option V), σ' = [some (.ref l), some (.ref s), some (.ref G), some (.ref Ms), some (.ref Rs), some (.ref Ts), some (.int (1 + (i : Int))), some (.int (j : Int)), v8]) ∧ ∃ (ws' : List R29), W29 K (a 61) H H' n G Ms Rs Ts ws' (ws'.map (fun w => w.now)) ∧ StAt H' s ∧ (∀ w ∈ ws', ¬ s ∈ w.all) ∧ (∀ w ∈ ws', w.g.ds.length ≤ i) ∧ j < ws'.length ∧ ws'.length ≤ 3, ?_, ?_⟩
      · refine ⟨_, rfl, G, _, rfl, .inl (SqL.of Wf.hG), _, 3, rfl, rfl, _, rfl, ?_⟩
        rw [List.length_map]
        by_cases c3 : (ws.length : Int) < 3
        · refine iteDT c3 ⟨_, rfl, s, 4, rfl, Kf.2, (by decide), (by decide), fun w4 Hg w40 w41 Kg => ⟨rfl, _, rfl, ?_⟩⟩
          have Wg := draw Wf sN Kf.2 Kg
          by_cases c4 : w4 = 0
          · refine iteDT (by rw [c4]) ?_
            have hug := Wg.ok u um
            obtain ⟨dxu, hxu⟩ := hug.t.w.at_.at_
            refine ⟨_, rfl, .inl ⟨rfl, _, SqL.of Wg.hG⟩, _, rfl, _, rfl, G, _, (j : Int), _, rfl, rfl, SqL.of Wg.hG, atI_mapR _ hu, u.x, dxu, _, rfl, hxu, gf_no _ _ (by decide +kernel) (by decide +kernel) (by decide +kernel) (by decide +kernel) (by decide +kernel) (by decide +kernel) (by decide +kernel) (by decide +kernel) (by decide +kernel) (by decide +kernel) (by decide +kernel) (by decide +kernel) (by decide +kernel) (by decide +kernel) (by decide +kernel), u.x, u.A, 1, 10, u.g, rfl, hug.t.w.at_, hug.t.w.le1, hug.t.w.le2, fun y A3 Hh ny yx Fh hgx hgy eAll eEl => ?_⟩
            have xL : ∀ c ∈ [G, Ms, Rs, Ts], c ≠ u.x := fun c z e => Wg.nL c z u um (all_of (.inl e))
            have mL := Wg.l4
            obtain ⟨⟨n1', n2', n3'⟩, ⟨n4', n5'⟩, n6'⟩ := nd4 Wg.nd
            have fxh : FrS [u.x] Hg Hh := fun c o nc e => Fh c o (fun z => nc (List.mem_singleton.mpr z)) e
            have upx : ∀ {c : Addr} {o : HO}, c ≠ u.x → Hg c = some o → Hh c = some o := fun n e => Fh _ _ n e
            have hGh := upx (xL G (by simp)) Wg.hG
            have hMh := upx (xL Ms (by simp)) Wg.hM
            have hRh := upx (xL Rs (by simp)) Wg.hR
            have hTh := upx (xL Ts (by simp)) Wg.hT
            have Th := hug.t.lent true fxh hgx
            have rux : u.r ≠ u.x := fun z => hug.rO (by rw [z]; exact List.mem_append_left _ (List.mem_cons_self ..))
            have qux : u.q ≠ u.x := fun z => hug.qO (by rw [z]; exact List.mem_append_left _ (List.mem_cons_self ..))
            have okh : Ok29 K (a 61) Hh n { u with g := { u.g with lent := true } } := ⟨Th, ⟨upx rux hug.re.hr, upx qux hug.re.hq, hug.re.l, hug.re.nr, hug.re.np, hug.re.ne⟩, hug.rO, hug.qO, hug.le⟩
            have mLh : MutS [G, Ms, Rs, Ts] Hh := fun c z => by
              obtain ⟨o, e, m⟩ := mL c z
              exact ⟨o, upx (xL c z) e, m⟩
            have uL : ∀ c ∈ ({ u with g := { u.g with lent := true } } : R29).all, ¬ c ∈ [G, Ms, Rs, Ts] := fun c z y => Wg.nL c y u um z
            have newY : ∀ {c : Addr} {o : HO}, Hg c = some o → y ≠ c := fun a z => by rw [z, a] at ny; cases ny
            have yL : ¬ y ∈ [G, Ms, Rs, Ts] := fun z => mut_none mL z ny
            refine ⟨G, _, _, rfl, rfl, hGh, (by rw [List.length_map]; exact lt_line5 (by omega)), ?_⟩
            have hGi : (upd Hh G (.lst (ws.map (fun w => V.ref w.x) ++ [.ref y]))) G = some (.lst (ws.map (fun w => V.ref w.x) ++ [.ref y])) := upd_same
            have hMi : (upd Hh G (.lst (ws.map (fun w => V.ref w.x) ++ [.ref y]))) Ms = some (.lst (ws.map fun w => V.ref w.M.m)) := by rw [upd_ne n1'.symm]; exact hMh
            have hRi : (upd Hh G (.lst (ws.map (fun w => V.ref w.x) ++ [.ref y]))) Rs = some (.lst (ws.map fun w => V.ref w.r)) := by rw [upd_ne n2'.symm]; exact hRh
            have hTi : (upd Hh G (.lst (ws.map (fun w => V.ref w.x) ++ [.ref y]))) Ts = some (.lst ((ws.map fun w => w.now).map V.int)) := by rw [upd_ne n3'.symm]; exact hTh
            have fi : FrS [G, Ms, Rs, Ts] Hh (upd Hh G (.lst (ws.map (fun w => V.ref w.x) ++ [.ref y]))) := fun c o nc e => by
              rw [upd_ne (fun z => nc (by rw [z]; simp))]; exact e
            generalize (upd Hh G (.lst (ws.map (fun w => V.ref w.x) ++ [.ref y]))) = Hi at hGi hMi hRi hTi fi ⊢
            have okI := okh.frS fi mLh uL
            have mdI : MdAt K Hi u.M u.g := okI.t.md.of rfl rfl rfl rfl rfl rfl rfl
            refine ⟨_, rfl, .inl ⟨rfl, _, SqL.of hMi⟩, _, rfl, _, rfl, Ms, _, (j : Int), _, rfl, rfl, SqL.of hMi, atI_mapR _ hu, u.M, u.g, rfl, mdI, fun M' Hj fM' sj mdj => ?_⟩
            have hMj := sj _ _ hMi
            refine ⟨Ms, _, _, rfl, rfl, hMj, (by rw [List.length_map]; exact lt_line5 (by omega)), ?_⟩
            have M'L : ∀ c ∈ M'.all, ¬ c ∈ [G, Ms, Rs, Ts] := fun c z y => by
              have e := fM' c z
              simp only [List.mem_cons, List.not_mem_nil, or_false] at y
              rcases y with rfl | rfl | rfl | rfl
              · rw [hGi] at e; cases e
              · rw [hMi] at e; cases e
              · rw [hRi] at e; cases e
              · rw [hTi] at e; cases e
            have mLj : MutS [G, Ms, Rs, Ts] Hj := fun c z => by
              simp only [List.mem_cons, List.not_mem_nil, or_false] at z
              rcases z with rfl | rfl | rfl | rfl
              · exact ⟨_, sj _ _ hGi, trivial⟩
              · exact ⟨_, hMj, trivial⟩
              · exact ⟨_, sj _ _ hRi, trivial⟩
              · exact ⟨_, sj _ _ hTi, trivial⟩
            have hMk : (upd Hj Ms (.lst (ws.map (fun w => V.ref w.M.m) ++ [.ref M'.m]))) Ms = some (.lst (ws.map (fun w => V.ref w.M.m) ++ [.ref M'.m])) := upd_same
            have hGk : (upd Hj Ms (.lst (ws.map (fun w => V.ref w.M.m) ++ [.ref M'.m]))) G = some (.lst (ws.map (fun w => V.ref w.x) ++ [.ref y])) := by rw [upd_ne n1']; exact sj _ _ hGi
            have hRk : (upd Hj Ms (.lst (ws.map (fun w => V.ref w.M.m) ++ [.ref M'.m]))) Rs = some (.lst (ws.map fun w => V.ref w.r)) := by rw [upd_ne n4'.symm]; exact sj _ _ hRi
            have hTk : (upd Hj Ms (.lst (ws.map (fun w => V.ref w.M.m) ++ [.ref M'.m]))) Ts = some (.lst ((ws.map fun w => w.now).map V.int)) := by rw [upd_ne n5'.symm]; exact sj _ _ hTi
            have fk0 : FrS [G, Ms, Rs, Ts] Hj (upd Hj Ms (.lst (ws.map (fun w => V.ref w.M.m) ++ [.ref M'.m]))) := fun c o nc e => by
              rw [upd_ne (fun z => nc (by rw [z]; simp))]; exact e
            have fk := fi.trans ((frS_same sj).trans fk0)
            generalize (upd Hj Ms (.lst (ws.map (fun w => V.ref w.M.m) ++ [.ref M'.m]))) = Hk at hMk hGk hRk hTk fk fk0 ⊢
            have okK := okh.frS fk mLh uL
            have hrk := okK.re.hr
            have hqk := okK.re.hq
            have mdK := mdj.frS fk0 mLj M'L
            refine ⟨_, rfl, .inl ⟨rfl, _, SqL.of hRk⟩, _, rfl, _, rfl, Rs, _, (j : Int), _, rfl, rfl, SqL.of hRk, atI_mapR _ hu, 1, rfl, _, rfl, u.r, _, rfl, SqL.of hrk, fun p4 np4 => ?_⟩
            rw [cut_last]
            have s4 : Same Hk (upd Hk p4 (.lst (u.rs.map V.int))) := same_new (Same.refl Hk) np4
            have hp4 : (upd Hk p4 (.lst (u.rs.map V.int))) p4 = some (.lst (u.rs.map V.int)) := upd_same
            generalize (upd Hk p4 (.lst (u.rs.map V.int))) = Hl at s4 hp4 ⊢
            refine ⟨_, rfl, _, rfl, Rs, _, (j : Int), _, rfl, rfl, SqL.of (s4 _ _ hRk), atI_mapR _ hu, 1, rfl, u.r, _, -1, _, rfl, rfl, SqL.of (s4 _ _ hrk), rest_last, u.q, _, rfl, .inl (SqL.of (s4 _ _ hqk)), fun q' nq' => ⟨len1, fun p5 np5 => ?_⟩⟩
            have sq' : Same Hl (upd Hl q' (.lst (u.ps.map V.int))) := same_new (Same.refl Hl) nq'
            have hq' : (upd Hl q' (.lst (u.ps.map V.int))) q' = some (.lst (u.ps.map V.int)) := upd_same
            generalize (upd Hl q' (.lst (u.ps.map V.int))) = Hm at sq' hq' np5 ⊢
            have s5 : Same Hm (upd Hm p5 (.lst [.ref q'])) := same_new (Same.refl Hm) np5
            have hp5 : (upd Hm p5 (.lst [.ref q'])) p5 = some (.lst [.ref q']) := upd_same
            generalize (upd Hm p5 (.lst [.ref q'])) = Hn at s5 hp5 ⊢
            have rl : u.rs.length ≤ 5 := by rw [okK.t.w.rn, ← okK.t.w.n_]; exact okK.t.w.at_.ls.n5
            refine ⟨p4, p5, _, _, rfl, rfl, s5 _ _ (sq' _ _ hp4), hp5, (by rw [List.length_map]; exact Nat.le_trans (show _ ≤ 6 by simp; omega) (by decide)), fun r' nr' => ?_⟩
            have s6 : Same Hn (upd Hn r' (.lst (u.rs.map V.int ++ [.ref q']))) := same_new (Same.refl Hn) nr'
            have hr' : (upd Hn r' (.lst (u.rs.map V.int ++ [.ref q']))) r' = some (.lst (u.rs.map V.int ++ [.ref q'])) := upd_same
            generalize (upd Hn r' (.lst (u.rs.map V.int ++ [.ref q']))) = Ho at s6 hr' ⊢
            have Sko : Same Hk Ho := s4.trans (sq'.trans (s5.trans s6))
            have hq'o := s6 _ _ (s5 _ _ hq')
            have q'r' : q' ≠ r' := ne_of_none (s5 _ _ hq') nr'
            have fr'k : Hk r' = none := s4.free (sq'.free (s5.free nr'))
            have fq'k : Hk q' = none := s4.free nq'
            have hRo := Sko _ _ hRk
            refine ⟨Rs, _, _, rfl, rfl, hRo, (by rw [List.length_map]; exact lt_line5 (by omega)), ?_⟩
            have notL : ∀ {c : Addr}, Hk c = none → ¬ c ∈ [G, Ms, Rs, Ts] := fun e y => by
              simp only [List.mem_cons, List.not_mem_nil, or_false] at y
              rcases y with rfl | rfl | rfl | rfl
              · rw [hGk] at e; cases e
              · rw [hMk] at e; cases e
              · rw [hRk] at e; cases e
              · rw [hTk] at e; cases e
            have hRp : (upd Ho Rs (.lst (ws.map (fun w => V.ref w.r) ++ [.ref r']))) Rs = some (.lst (ws.map (fun w => V.ref w.r) ++ [.ref r'])) := upd_same
            have hGp : (upd Ho Rs (.lst (ws.map (fun w => V.ref w.r) ++ [.ref r']))) G = some (.lst (ws.map (fun w => V.ref w.x) ++ [.ref y])) := by rw [upd_ne n2']; exact Sko _ _ hGk
            have hMp : (upd Ho Rs (.lst (ws.map (fun w => V.ref w.r) ++ [.ref r']))) Ms = some (.lst (ws.map (fun w => V.ref w.M.m) ++ [.ref M'.m])) := by rw [upd_ne n4']; exact Sko _ _ hMk
            have hTp : (upd Ho Rs (.lst (ws.map (fun w => V.ref w.r) ++ [.ref r']))) Ts = some (.lst ((ws.map fun w => w.now).map V.int)) := by rw [upd_ne n6'.symm]; exact Sko _ _ hTk
            have fp0 : FrS [G, Ms, Rs, Ts] Ho (upd Ho Rs (.lst (ws.map (fun w => V.ref w.r) ++ [.ref r']))) := fun c o nc e => by
              rw [upd_ne (fun z => nc (by rw [z]; simp))]; exact e
            generalize (upd Ho Rs (.lst (ws.map (fun w => V.ref w.r) ++ [.ref r']))) = Hp at hRp hGp hMp hTp fp0 ⊢
            refine ⟨_, rfl, .inl ⟨rfl, _, SqL.of hTp⟩, _, rfl, _, rfl, Ts, _, (j : Int), _, rfl, rfl, SqL.of hTp, atI_mapR (ws := ws.map fun w => w.now) V.int (by rw [List.getElem?_map, hu]; rfl), Ts, _, _, rfl, rfl, hTp, (by rw [List.length_map, List.length_map]; exact lt_line5 (by omega)), ?_⟩
            have hTq : (upd Hp Ts (.lst ((ws.map fun w => w.now).map V.int ++ [.int u.now]))) Ts = some (.lst ((ws.map (fun w => w.now) ++ [u.now]).map V.int)) := by rw [upd_same, List.map_append]; rfl
            have hGq : (upd Hp Ts (.lst ((ws.map fun w => w.now).map V.int ++ [.int u.now]))) G = some (.lst (ws.map (fun w => V.ref w.x) ++ [.ref y])) := by rw [upd_ne n3']; exact hGp
            have hMq : (upd Hp Ts (.lst ((ws.map fun w => w.now).map V.int ++ [.int u.now]))) Ms = some (.lst (ws.map (fun w => V.ref w.M.m) ++ [.ref M'.m])) := by rw [upd_ne n5']; exact hMp
            have hRq : (upd Hp Ts (.lst ((ws.map fun w => w.now).map V.int ++ [.int u.now]))) Rs = some (.lst (ws.map (fun w => V.ref w.r) ++ [.ref r'])) := by rw [upd_ne n6']; exact hRp
            have fq0 : FrS [G, Ms, Rs, Ts] Hp (upd Hp Ts (.lst ((ws.map fun w => w.now).map V.int ++ [.int u.now]))) := fun c o nc e => by
              rw [upd_ne (fun z => nc (by rw [z]; simp))]; exact e
            generalize (upd Hp Ts (.lst ((ws.map fun w => w.now).map V.int ++ [.int u.now]))) = Hq at hTq hGq hMq hRq fq0 ⊢
            have fkq : FrS [G, Ms, Rs, Ts] Hk Hq := (frS_same Sko).trans (fp0.trans fq0)
            have fhq := fk.trans fkq
            have okQ := okh.frS fhq mLh uL
            have mLk : MutS [G, Ms, Rs, Ts] Hk := fun c z => by
              simp only [List.mem_cons, List.not_mem_nil, or_false] at z
              rcases z with rfl | rfl | rfl | rfl
              · exact ⟨_, hGk, trivial⟩
              · exact ⟨_, hMk, trivial⟩
              · exact ⟨_, hRk, trivial⟩
              · exact ⟨_, hTk, trivial⟩
            have mdQ := mdK.frS fkq mLk M'L
            have hgyQ : GroupAt K (a 61) Hq y A3 1 10 { u.g with lent := true } := hgy.frS fhq mLh (fun c z w => by
              rcases List.mem_cons.mp z with rfl | z
              · exact yL w
              · rw [eAll] at z
                exact uL c (all_of (.inr (.inr (.inr (.inr z))))) w) hug.t.w.ds
            have yh : ∃ o, Hh y = some o := (hgy.mut y (List.mem_cons_self ..)).imp fun o z => z.1
            have yk : ∃ o, Hk y = some o := by
              obtain ⟨o, e⟩ := yh
              exact ⟨o, fk _ _ yL e⟩
            have M'y : ¬ y ∈ M'.all := fun z => by
              obtain ⟨o, e⟩ := yh
              have := fM' y z
              rw [fi _ _ yL e] at this; cases this
            have M'g : ∀ c ∈ M'.all, Hg c = none := fun c z => by
              have e := fM' c z
              have e2 : Hh c = none := by
                cases h : Hh c with
                | none => rfl
                | some o => rw [fi c o (M'L c z) h] at e; cases e
              cases h : Hg c with
              | none => rfl
              | some o =>
                by_cases cx : c = u.x
                · obtain ⟨⟨_, hx'⟩, _⟩ := id hgx
                  rw [cx, hx'] at e2; cases e2
                · rw [upx cx h] at e2; cases e2
            have A3k : ∀ c ∈ A3.all, ∃ o, Hk c = some o := fun c z => by
              rw [eAll] at z
              exact (okK.mut c (all_of (.inr (.inr (.inr (.inr z)))))).imp fun o y => y.1
            have M'k : ∀ c ∈ M'.all, ∃ o, Hk c = some o := fun c z => (mdK.mut c z).imp fun o y => y.1
            have freshO : ∀ {c : Addr}, Hk c = none → ¬ c ∈ own8 y A3 M' := fun e z => by
              rcases List.mem_append.mp z with z | z
              · rcases List.mem_cons.mp z with rfl | z
                · obtain ⟨o, eo⟩ := yk
                  rw [eo] at e; cases e
                · obtain ⟨o, eo⟩ := A3k _ z
                  rw [eo] at e; cases e
              · obtain ⟨o, eo⟩ := M'k _ z
                rw [eo] at e; cases e
            have okV : Ok29 K (a 61) Hq n ⟨y, A3, M', r', q', { u.g with lent := true }, u.rs, u.ps, u.now⟩ := by
              refine ⟨⟨⟨hgyQ, hug.t.w.ck, hug.t.w.r, hug.t.w.n_, hug.t.w.rn, hug.t.w.n0, hug.t.w.ds, hug.t.w.le1, hug.t.w.le2⟩, Th.p, mdQ.of rfl rfl rfl rfl rfl rfl rfl, fun c z w => ?_, hug.t.mks⟩, ⟨?_, ?_, hug.re.l, hug.re.nr, hug.re.np, q'r'⟩, freshO fr'k, freshO fq'k, hug.le⟩
              · rcases List.mem_cons.mp z with rfl | z
                · exact M'y w
                · rw [eAll] at z
                  have e := M'g c w
                  exact mut_none hug.mut (all_of (.inr (.inr (.inr (.inr z))))) e
              · exact fq0 _ _ (notL fr'k) (fp0 _ _ (notL fr'k) hr')
              · exact fq0 _ _ (notL fq'k) (fp0 _ _ (notL fq'k) hq'o)
            have gOf : ∀ {c : Addr}, Hk c = none → Hg c = none := fun {c} e => by
              have e1 : Hh c = none := by
                cases h : Hh c with
                | none => rfl
                | some o => rw [fk c o (notL e) h] at e; cases e
              cases h : Hg c with
              | none => rfl
              | some o =>
                by_cases cx : c = u.x
                · obtain ⟨⟨_, hx'⟩, _⟩ := id hgx
                  rw [cx, hx'] at e1; cases e1
                · rw [upx cx h] at e1; cases e1
            have fgq : FrS [u.x, G, Ms, Rs, Ts] Hg Hq := (fxh.wid fun c z => by rw [List.mem_singleton.mp z]; exact List.mem_cons_self ..).trans (fhq.wid fun c z => List.mem_cons_of_mem _ z)
            have W' := Wg.twin (v := ⟨y, A3, M', r', q', { u.g with lent := true }, u.rs, u.ps, u.now⟩) hu fgq okQ okV rfl eAll ny (gOf fr'k) (gOf fq'k) M'g hGq hMq hRq hTq
            have et : (ws.map (fun w => w.now) ++ [u.now]) = (ws.set j { u with g := { u.g with lent := true } } ++ [(⟨y, A3, M', r', q', { u.g with lent := true }, u.rs, u.ps, u.now⟩ : R29)]).map (fun w => w.now) := by
              rw [List.map_append, map_setR (f := fun w => w.now) (u' := { u with g := { u.g with lent := true } }) hu rfl]; rfl
            rw [et] at W'
            have sux : s ≠ u.x := fun z => sN u um (all_of (.inl z))
            have stq : StAt Hq s := by
              obtain ⟨a, b', c, e, z⟩ := Kg.2
              exact ⟨a, b', c, fgq _ _ (fun w => (List.mem_cons.mp w).elim sux sL) e, z⟩
            have sg : ∃ o, Hg s = some o := by
              obtain ⟨_, _, _, e, _⟩ := Kg.2
              exact ⟨_, e⟩
            refine ⟨⟨_, rfl⟩, ws.set j { u with g := { u.g with lent := true } } ++ [(⟨y, A3, M', r', q', { u.g with lent := true }, u.rs, u.ps, u.now⟩ : R29)], W', stq, fun w hw z => ?_, fun w hw => ?_, by rw [List.length_append, List.length_set]; show j < ws.length + 1; omega, by rw [List.length_append, List.length_set]; show ws.length + 1 ≤ 3; omega⟩
            · rcases List.mem_append.mp hw with hw | hw
              · rcases List.mem_or_eq_of_mem_set hw with hw | rfl
                · exact sN w hw z
                · exact sN u um z
              · rw [List.mem_singleton.mp hw] at z
                obtain ⟨o, es⟩ := sg
                rcases all_cases z with e | e | e | e | e
                · rw [e] at es
                  rw [show Hg y = none from ny] at es; cases es
                · rw [e] at es
                  rw [show Hg r' = none from gOf fr'k] at es; cases es
                · rw [e] at es
                  rw [show Hg q' = none from gOf fq'k] at es; cases es
                · rw [M'g s e] at es; cases es
                · have e : s ∈ A3.all := e
                  rw [eAll] at e
                  exact sN u um (all_of (.inr (.inr (.inr (.inr e)))))
            · rcases List.mem_append.mp hw with hw | hw
              · rcases List.mem_or_eq_of_mem_set hw with hw | rfl
                · exact dsd w hw
                · exact dsd u um
              · rw [List.mem_singleton.mp hw]; exact dsd u um
          · refine iteDF (fun z => c4 (V.int.inj z)) ?_
            exact ⟨⟨_, rfl⟩, ws, Wg, Kg.2, sN, dsd, by omega, wl3⟩
        · refine iteDF c3 ?_
          exact ⟨⟨_, rfl⟩, ws, Wf, Kf.2, sN, dsd, by omega, wl3⟩
      rintro σ' Hk ⟨⟨v8, rfl⟩, ws', Wk, stk, sNk, dsk, jk, wk3⟩
      -- one step of the one at j
      have facts : ∀ {Hx : Hp} {ws' : List R29} {ts' : List Int} {u : R29}, W29 K (a 61) H Hx n G Ms Rs Ts ws' ts' → (∀ w ∈ ws', ¬ s ∈ w.all) → ws'[j]? = some u → s ≠ u.x ∧ s ≠ u.r ∧ s ≠ u.q ∧ ¬ s ∈ own8 u.x u.A u.M ∧ ¬ u.r ∈ u.A.all := fun {Hx ws' ts' u} W nS hu' => by
        have nS := nS u (List.mem_of_getElem? hu')
        have ok := W.ok u (List.mem_of_getElem? hu')
        refine ⟨fun z => nS (all_of (.inl z)), fun z => nS (all_of (.inr (.inl z))), fun z => nS (all_of (.inr (.inr (.inl z)))), fun z => ?_, fun z => ok.rO (List.mem_append_left _ (List.mem_cons_of_mem _ z))⟩
        rcases List.mem_append.mp z with z | z
        · rcases List.mem_cons.mp z with z | z
          · exact nS (all_of (.inl z))
          · exact nS (all_of (.inr (.inr (.inr (.inr z)))))
        · exact nS (all_of (.inr (.inr (.inr (.inl z)))))
      have stays : ∀ {Hx : Hp} {ws' : List R29} {u u' : R29}, (∀ w ∈ ws', ¬ s ∈ w.all) → ws'[j]? = some u → (∃ o, Hx s = some o) → (∀ c ∈ u'.all, c ∈ u.all ∨ Hx c = none) → ∀ w ∈ ws'.set j u', ¬ s ∈ w.all := fun {Hx ws' u u'} nS hu' hs al w hw z => by
        rcases List.mem_or_eq_of_mem_set hw with hw | rfl
        · exact nS w hw z
        · rcases al s z with y | y
          · exact nS u (List.mem_of_getElem? hu') y
          · obtain ⟨o, e⟩ := hs
            rw [e] at y; cases y
      refine ⟨fun σ' H' => (∃ (v8 : Option V), σ' = [some (.ref l), some (.ref s), some (.ref G), some (.ref Ms), some (.ref Rs), some (.ref Ts), some (.int (1 + (i : Int))), some (.int (j : Int)), v8]) ∧ ∃ (ws' : List R29), W29 K (a 61) H H' n G Ms Rs Ts ws' (ws'.map (fun w => w.now)) ∧ StAt H' s ∧ (∀ w ∈ ws', ¬ s ∈ w.all) ∧ (∀ w ∈ ws', w.g.ds.length ≤ i) ∧ j < ws'.length ∧ ws'.length ≤ 3, ?_, ?_⟩
      · refine ⟨_, rfl, s, 3, rfl, stk, (by decide), (by decide), fun w3 Hl w30 w31 Kl => ?_⟩
        have Wl := draw Wk sNk stk Kl
        refine ⟨rfl, _, rfl, ?_⟩
        by_cases c3 : w3 = 0
        · refine iteDT (by rw [c3]) ?_
          obtain ⟨u2, hu2⟩ : ∃ u, ws'[j]? = some u := ⟨_, List.getElem?_eq_getElem jk⟩
          have um2 := List.mem_of_getElem? hu2
          have ok2 := Wl.ok u2 um2
          obtain ⟨sx2, sr2, sq2, sO2, rA2⟩ := facts Wl sNk hu2
          have sA2 : ¬ s ∈ u2.A.all := fun z => sO2 (List.mem_append_left _ (List.mem_cons_of_mem _ z))
          refine ⟨_, rfl, _, rfl, _, rfl, G, _, (j : Int), _, rfl, rfl, SqL.of Wl.hG, atI_mapR _ hu2, _, rfl, _, rfl, Ts, _, (j : Int), _, rfl, rfl, SqL.of Wl.hT, atI_mapR (ws := ws'.map fun w => w.now) V.int (by rw [List.getElem?_map, hu2]; rfl), _, rfl, _, rfl, Rs, _, (j : Int), _, rfl, rfl, SqL.of Wl.hR, atI_mapR _ hu2, s, u2.x, u2.r, u2.q, u2.A, u2.now, n, u2.g, u2.rs, u2.ps, rfl, Kl.2, ok2.t.w, ok2.t.p, ok2.re, sr2, sq2, sA2, rA2, fun m Hm A2 g2 rs2 m0 m1 o2 w2 p2 md2 le2 ds2 ln2 re2 f2 st2 => ?_⟩
          have msl : MutS [s] Hl := fun c z => by
            rw [List.mem_singleton.mp z]
            obtain ⟨_, _, _, e, _⟩ := Kl.2
            exact ⟨_, e, trivial⟩
          have ss : ∃ o, Hl s = some o := (msl s (List.mem_singleton.mpr rfl)).imp fun o y => y.1
          have f3 : FrS (s :: u2.own) Hl Hm := fun c o nc e => f2 c o (fun z => nc (by rw [z]; exact List.mem_cons_self ..)) (fun z => nc (List.mem_cons_of_mem _ (own_of (.inl z)))) (fun z => nc (List.mem_cons_of_mem _ (own_of (.inr (.inl z))))) e
          have al2 : ∀ c ∈ ({ u2 with A := A2, g := g2, rs := rs2, now := u2.now + m } : R29).all, c ∈ u2.all ∨ Hl c = none := fun c z => by
            rcases all_cases z with e | e | e | e | e
            · exact .inl (all_of (.inl e))
            · exact .inl (all_of (.inr (.inl e)))
            · exact .inl (all_of (.inr (.inr (.inl e))))
            · exact .inl (all_of (.inr (.inr (.inr (.inl e)))))
            · exact (o2.ow c e).imp (fun y => all_of (.inr (.inr (.inr (.inr y))))) id
          have ow2 : ∀ c ∈ ({ u2 with A := A2, g := g2, rs := rs2, now := u2.now + m } : R29).own, c ∈ u2.own ∨ Hl c = none := fun c z => by
            rcases own_cases z with e | e | e | e | e
            · exact .inl (own_of (.inl e))
            · exact .inl (own_of (.inr (.inl e)))
            · exact .inl (own_of (.inr (.inr (.inl e))))
            · exact .inl (own_of (.inr (.inr (.inr (.inl e)))))
            · exact .inl (own_of (.inr (.inr (.inr (.inr ⟨e.1.trans o2.ee, by have e2 : g2.lent = false := e.2; rw [← ln2]; exact e2⟩)))))
          have md3 : MdAt K Hm u2.M u2.g := ok2.t.md.frS (S := [s, u2.x, u2.r]) (fun c o nc e => f2 c o (fun z => nc (by rw [z]; simp)) (fun z => nc (by rw [z]; simp)) (fun z => nc (by rw [z]; simp)) e) (fun c z => by
            rcases List.mem_cons.mp z with rfl | z
            · exact msl _ (List.mem_singleton.mpr rfl)
            · rcases List.mem_cons.mp z with rfl | z
              · exact ok2.t.w.at_.mut _ (List.mem_cons_self ..)
              · rw [List.mem_singleton.mp z]; exact ⟨_, ok2.re.hr, trivial⟩) (fun c z y => by
            rcases List.mem_cons.mp y with rfl | y
            · exact sO2 (List.mem_append_right _ z)
            · rcases List.mem_cons.mp y with rfl | y
              · exact ok2.t.ap _ (List.mem_cons_self ..) z
              · rw [List.mem_singleton.mp y] at z
                exact ok2.rO (List.mem_append_right _ z))
          have ap2 : ∀ c ∈ ownG u2.x A2, ¬ c ∈ u2.M.all := fun c z y => by
            rcases List.mem_cons.mp z with rfl | z
            · exact ok2.t.ap _ (List.mem_cons_self ..) y
            · rcases o2.ow c z with w | w
              · exact ok2.t.ap c (List.mem_cons_of_mem _ w) y
              · exact mut_none ok2.t.md.mut y w
          have out2 : ∀ {c : Addr} {o : HO}, ¬ c ∈ own8 u2.x u2.A u2.M → Hl c = some o → ¬ c ∈ own8 u2.x A2 u2.M := fun nc e z => by
            rcases List.mem_append.mp z with z | z
            · rcases List.mem_cons.mp z with z | z
              · exact nc (by rw [z]; exact List.mem_append_left _ (List.mem_cons_self ..))
              · rcases o2.ow _ z with w | w
                · exact nc (List.mem_append_left _ (List.mem_cons_of_mem _ w))
                · rw [e] at w; cases w
            · exact nc (List.mem_append_right _ z)
          have okM : Ok29 K (a 61) Hm n { u2 with A := A2, g := g2, rs := rs2, now := u2.now + m } := ⟨⟨w2, p2, md2 _ _ md3, ap2, by show ∀ d ∈ g2.ds, MarkD d; rw [ds2]; exact ok2.t.mks⟩, re2, out2 ok2.rO ok2.re.hr, out2 ok2.qO ok2.re.hq, by show g2.le = 12; rw [le2]; exact ok2.le⟩
          have Wm := Wl.step (u' := { u2 with A := A2, g := g2, rs := rs2, now := u2.now + m }) hu2 rfl rfl rfl f3 msl sNk sL s0n okM al2 ow2
          refine ⟨_, rfl, _, rfl, Ts, _, (j : Int), j, rfl, rfl, Wm.hT, ixj' (by rw [List.length_map, List.length_map]; exact jk), ?_⟩
          have eS : ((ws'.map fun w => w.now).map V.int).set j (.int (u2.now + m)) = ((ws'.map fun w => w.now).set j (u2.now + m)).map V.int := List.map_set.symm
          have eT : (ws'.set j { u2 with A := A2, g := g2, rs := rs2, now := u2.now + m }).map (fun w => w.now) = (ws'.map fun w => w.now).set j (u2.now + m) := List.map_set
          have Wn := Wm.putT ((ws'.map fun w => w.now).set j (u2.now + m))
          rw [← eS, ← eT] at Wn
          have sTs : s ≠ Ts := fun z => sL (by rw [z]; simp)
          refine ⟨⟨_, rfl⟩, ws'.set j { u2 with A := A2, g := g2, rs := rs2, now := u2.now + m }, Wn, (by obtain ⟨a, b', c, e, z⟩ := st2; exact ⟨a, b', c, by rw [upd_ne sTs]; exact e, z⟩), stays sNk hu2 ss al2, fun w hw => ?_, by rw [List.length_set]; exact jk, by rw [List.length_set]; exact wk3⟩
          rcases List.mem_or_eq_of_mem_set hw with hw | rfl
          · exact dsk w hw
          · show g2.ds.length ≤ i
            rw [ds2]; exact dsk u2 um2
        · refine iteDF (fun z => c3 (V.int.inj z)) ?_
          exact ⟨⟨_, rfl⟩, ws', Wl, Kl.2, sNk, dsk, jk, wk3⟩
      rintro σ' Hm ⟨⟨v9, rfl⟩, ws2, Wm, stm, sNm, dsm, jm, wm3⟩
      obtain ⟨u2, hu2⟩ : ∃ u, ws2[j]? = some u := ⟨_, List.getElem?_eq_getElem jm⟩
      have um2 := List.mem_of_getElem? hu2
      have ok2 := Wm.ok u2 um2
      obtain ⟨sx2, sr2, sq2, sO2, rA2⟩ := facts Wm sNm hu2
      refine ⟨_, rfl, _, rfl, _, rfl, Ms, _, (j : Int), _, rfl, rfl, SqL.of Wm.hM, atI_mapR _ hu2, _, rfl, _, rfl, G, _, (j : Int), _, rfl, rfl, SqL.of Wm.hG, atI_mapR _ hu2, _, rfl, s, u2.x, u2.A, u2.M, n, u2.g, u2.rs, u2.now, 1 + (i : Int), rfl, stm, ok2.t, sO2, ok2.le, by have := dsm u2 um2; omega, by omega, by omega, fun A2 Hn g2 T2 le2 dl2 f2 ow2 el2 st2 => ⟨true, rfl, iteF ?_⟩⟩
      have msm : MutS [s] Hm := fun c z => by
        rw [List.mem_singleton.mp z]
        obtain ⟨_, _, _, e, _⟩ := stm
        exact ⟨_, e, trivial⟩
      have f3 : FrS (s :: u2.own) Hm Hn := f2.wid fun c z => by
        rcases List.mem_cons.mp z with rfl | z
        · exact List.mem_cons_self ..
        · rcases List.mem_cons.mp z with z | z
          · exact List.mem_cons_of_mem _ (own_of (.inl z))
          · rcases List.mem_append.mp z with z | z
            · exact List.mem_cons_of_mem _ (own_of (.inr (.inr (.inr (.inl z)))))
            · exact List.mem_cons_of_mem _ (own_of (.inr (.inr (.inr (.inr (el_el z))))))
      have al2 : ∀ c ∈ ({ u2 with A := A2, g := g2 } : R29).all, c ∈ u2.all ∨ Hm c = none := fun c z => by
        rcases all_cases z with e | e | e | e | e
        · exact .inl (all_of (.inl e))
        · exact .inl (all_of (.inr (.inl e)))
        · exact .inl (all_of (.inr (.inr (.inl e))))
        · exact .inl (all_of (.inr (.inr (.inr (.inl e)))))
        · exact (ow2 c e).imp (fun y => all_of (.inr (.inr (.inr (.inr y))))) id
      have own2 : ∀ c ∈ ({ u2 with A := A2, g := g2 } : R29).own, c ∈ u2.own ∨ Hm c = none := fun c z => by
        rcases own_cases z with e | e | e | e | e
        · exact .inl (own_of (.inl e))
        · exact .inl (own_of (.inr (.inl e)))
        · exact .inl (own_of (.inr (.inr (.inl e))))
        · exact .inl (own_of (.inr (.inr (.inr (.inl e)))))
        · have e1 : c = A2.el := e.1
          rcases el2 e.2 with y | y
          · exact .inl (own_of (.inr (.inr (.inr (.inr ⟨e1.trans y.2, y.1⟩)))))
          · rw [e1]; exact .inr y
      have out2 : ∀ {c : Addr} {o : HO}, ¬ c ∈ own8 u2.x u2.A u2.M → Hm c = some o → ¬ c ∈ own8 u2.x A2 u2.M := fun nc e z => by
        rcases List.mem_append.mp z with z | z
        · rcases List.mem_cons.mp z with z | z
          · exact nc (by rw [z]; exact List.mem_append_left _ (List.mem_cons_self ..))
          · rcases ow2 _ z with w | w
            · exact nc (List.mem_append_left _ (List.mem_cons_of_mem _ w))
            · rw [e] at w; cases w
        · exact nc (List.mem_append_right _ z)
      have keepR : ∀ {c : Addr} {o : HO}, ¬ c ∈ own8 u2.x u2.A u2.M → s ≠ c → Hm c = some o → Hn c = some o := fun nc n e => f2 _ _ (fun z => by
        rcases List.mem_cons.mp z with z | z
        · exact n z.symm
        · rcases List.mem_cons.mp z with z | z
          · exact nc (by rw [z]; exact List.mem_append_left _ (List.mem_cons_self ..))
          · rcases List.mem_append.mp z with z | z
            · exact nc (List.mem_append_right _ z)
            · rw [(el_el z).1] at nc
              exact nc (List.mem_append_left _ (List.mem_cons_of_mem _ (el_in u2.A)))) e
      have okN : Ok29 K (a 61) Hn n { u2 with A := A2, g := g2 } := ⟨T2, ⟨keepR ok2.rO sr2 ok2.re.hr, keepR ok2.qO sq2 ok2.re.hq, ok2.re.l, ok2.re.nr, ok2.re.np, ok2.re.ne⟩, out2 ok2.rO ok2.re.hr, out2 ok2.qO ok2.re.hq, by show g2.le = 12; rw [le2]; exact ok2.le⟩
      have Wn := Wm.step (u' := { u2 with A := A2, g := g2 }) hu2 rfl rfl rfl f3 msm sNm sL s0n okN al2 own2
      rw [← map_setR (f := fun w => w.now) (u' := { u2 with A := A2, g := g2 }) hu2 rfl] at Wn
      have dsn : ∀ w ∈ ws2.set j { u2 with A := A2, g := g2 }, w.g.ds.length ≤ i + 1 := fun w hw => by
        rcases List.mem_or_eq_of_mem_set hw with hw | rfl
        · have := dsm w hw; omega
        · show g2.ds.length ≤ i + 1
          have := dsm u2 um2; omega
      have ln : (ws2.set j { u2 with A := A2, g := g2 }).length = ws2.length := List.length_set ..
      generalize ws2.set j { u2 with A := A2, g := g2 } = ws3 at Wn dsn ln
      refine ⟨_, rfl, G, _, rfl, .inl (SqL.of Wn.hG), ws3.length, by rw [List.length_map], by omega, by omega, fun D nD => ?_⟩
      refine lc_range (lo := 0) (n := ws3.length) (fun k H' => Same Hn H' ∧ H' D = some (.lst [])) ⟨same_new (Same.refl Hn) nD, upd_same⟩ ?_ ?_
      · rintro k Ho hk ⟨so, hD⟩
        obtain ⟨w, hw⟩ : ∃ w, ws3[k]? = some w := ⟨_, List.getElem?_eq_getElem hk⟩
        have Wo := Wn.same so
        have okw := Wo.ok w (List.mem_of_getElem? hw)
        refine ⟨rfl, _, rfl, _, rfl, Ms, _, _, _, rfl, rfl, SqL.of Wo.hM, atI_mapR0 _ hw, _, rfl, _, rfl, G, _, _, _, rfl, rfl, SqL.of Wo.hG, atI_mapR0 _ hw, w.x, w.A, w.M, n, w.g, w.rs, w.now, rfl, okw.t, fun Hp sp => ⟨true, rfl, iteF ⟨so.trans sp, sp _ _ hD⟩⟩⟩
      · rintro Ho ⟨so, hD⟩
        refine ⟨Nat.zero_le _, fun p np => ?_⟩
        have sp := same_new (o := .lst []) (Same.refl Ho) np
        refine ⟨.list [], .list [], .lst (SqL.of (sp _ _ hD)) .nil, .lst (SqL.of upd_same) .nil, rfl, rfl, _, rfl, iteBF (by rfl) ?_⟩
        exact ⟨⟨_, _, _, _, rfl⟩, ws3, _, Wn.same (so.trans sp), rfl, dsn, by omega, by omega⟩
    · rintro σ Hd ⟨⟨v1, v6, v7, v8, rfl⟩, ws, ts, Wd, tn, dsd, wl1, wl3⟩
      exact q _

theorem all_mk {l : PySem.W.OpenLaw} {w : World} {K : PySem.W.Frag} {h : Heap} {mg : Str → Option Value} {fa : Addr} {f0 f1 f2 f3 f4 f5 f6 f7 f8 f9 f10 f11 f12 f13 f14 f15 f16 f17 f18 f19 f20 f21 f22 f23 f24 f25 f26 f27 f28 f29 f30 f31 f32 f33 f34 f35 f36 f37 f38 f39 f40 f41 f42 f43 f44 f45 f46 f47 f48 f49 f50 f51 f52 f53 f54 f55 f56 f57 f58 f59 f60 : Addr} (X : K.In h) (G : h.Ns mainGlobals mg) (hfa : mg "law" = some (.ref fa))
    {od0 od1 od2 od3 od4 od5 od6 od7 od8 od9 od10 od11 od12 od13 od14 od15 od16 od17 od18 od19 od20 od21 od22 od23 od24 od25 od26 od27 od28 od29 od30 od31 od32 od33 od34 od35 od36 od37 od38 od39 od40 od41 od42 od43 od44 od45 od46 od47 od48 od49 od50 od51 od52 od53 od54 od55 od56 od57 od58 od59 od60 : Option Addr} {an0 an1 an2 an3 an4 an5 an6 an7 an8 an9 an10 an11 an12 an13 an14 an15 an16 an17 an18 an19 an20 an21 an22 an23 an24 an25 an26 an27 an28 an29 an30 an31 an32 an33 an34 an35 an36 an37 an38 an39 an40 an41 an42 an43 an44 an45 an46 an47 an48 an49 an50 an51 an52 an53 an54 an55 an56 an57 an58 an59 an60 : Option Addr} {sl0 sl1 sl2 sl3 sl4 sl5 sl6 sl7 sl8 sl9 sl10 sl11 sl12 sl13 sl14 sl15 sl16 sl17 sl18 sl19 sl20 sl21 sl22 sl23 sl24 sl25 sl26 sl27 sl28 sl29 sl30 sl31 sl32 sl33 sl34 sl35 sl36 sl37 sl38 sl39 sl40 sl41 sl42 sl43 sl44 sl45 sl46 sl47 sl48 sl49 sl50 sl51 sl52 sl53 sl54 sl55 sl56 sl57 sl58 sl59 sl60 : Array (Option Value)} {oc0 kV0 dc0 pm0 cd0 ct0 oc1 kV1 dc1 pm1 cd1 ct1 oc2 kV2 dc2 pm2 cd2 ct2 oc3 kV3 dc3 pm3 cd3 ct3 oc4 kV4 dc4 pm4 cd4 ct4 oc5 kV5 dc5 pm5 cd5 ct5 oc6 kV6 dc6 pm6 cd6 ct6 oc7 kV7 dc7 pm7 cd7 ct7 oc8 kV8 dc8 pm8 cd8 ct8 oc9 kV9 dc9 pm9 cd9 ct9 oc10 kV10 dc10 pm10 cd10 ct10 oc11 kV11 dc11 pm11 cd11 ct11 oc12 kV12 dc12 pm12 cd12 ct12 oc13 kV13 dc13 pm13 cd13 ct13 oc14 kV14 dc14 pm14 cd14 ct14 oc15 kV15 dc15 pm15 cd15 ct15 oc16 kV16 dc16 pm16 cd16 ct16 oc17 kV17 dc17 pm17 cd17 ct17 oc18 kV18 dc18 pm18 cd18 ct18 oc19 kV19 dc19 pm19 cd19 ct19 oc20 kV20 dc20 pm20 cd20 ct20 oc21 kV21 dc21 pm21 cd21 ct21 oc22 kV22 dc22 pm22 cd22 ct22 oc23 kV23 dc23 pm23 cd23 ct23 oc24 kV24 dc24 pm24 cd24 ct24 oc25 kV25 dc25 pm25 cd25 ct25 oc26 kV26 dc26 pm26 cd26 ct26 oc27 kV27 dc27 pm27 cd27 ct27 oc28 kV28 dc28 pm28 cd28 ct28 oc29 kV29 dc29 pm29 cd29 ct29 oc30 kV30 dc30 pm30 cd30 ct30 oc31 kV31 dc31 pm31 cd31 ct31 oc32 kV32 dc32 pm32 cd32 ct32 oc33 kV33 dc33 pm33 cd33 ct33 oc34 kV34 dc34 pm34 cd34 ct34 oc35 kV35 dc35 pm35 cd35 ct35 oc36 kV36 dc36 pm36 cd36 ct36 oc37 kV37 dc37 pm37 cd37 ct37 oc38 kV38 dc38 pm38 cd38 ct38 oc39 kV39 dc39 pm39 cd39 ct39 oc40 kV40 dc40 pm40 cd40 ct40 oc41 kV41 dc41 pm41 cd41 ct41 oc42 kV42 dc42 pm42 cd42 ct42 oc43 kV43 dc43 pm43 cd43 ct43 oc44 kV44 dc44 pm44 cd44 ct44 oc45 kV45 dc45 pm45 cd45 ct45 oc46 kV46 dc46 pm46 cd46 ct46 oc47 kV47 dc47 pm47 cd47 ct47 oc48 kV48 dc48 pm48 cd48 ct48 oc49 kV49 dc49 pm49 cd49 ct49 oc50 kV50 dc50 pm50 cd50 ct50 oc51 kV51 dc51 pm51 cd51 ct51 oc52 kV52 dc52 pm52 cd52 ct52 oc53 kV53 dc53 pm53 cd53 ct53 oc54 kV54 dc54 pm54 cd54 ct54 oc55 kV55 dc55 pm55 cd55 ct55 oc56 kV56 dc56 pm56 cd56 ct56 oc57 kV57 dc57 pm57 cd57 ct57 oc58 kV58 dc58 pm58 cd58 ct58 oc59 kV59 dc59 pm59 cd59 ct59 oc60 kV60 dc60 pm60 cd60 ct60 : Value}
    {fC : Addr}
    {fC_Clock : Addr}
    {i150 : Addr} {e100 : Addr} {nm100 q100 : Str} {N100 : Addr} {bs100 : List Value} {sn100 : List Str} {sub100 : List Value} {ab100 : Bool} {col100 : Option Bool} {dd100 : Option Addr} {x0100 x1100 x2100 x3100 x5100 : Option Value} {oc150 kV150 dc150 pm150 cd150 ct150 : Value} {od150 an150 : Option Addr} {sl150 : Array (Option Value)}
    {f63 : Addr} {od63 : Option Addr} {n63 : Nat} {sl63 : Array (Option Value)} {t63_0 t63_1 : Tok}
    {t64 : Tok}
    {f65 : Addr} {od65 : Option Addr} {n65 : Nat} {sl65 : Array (Option Value)} {t65_0 t65_1 : Tok}
    {t66 : Tok}
    {t67 : Tok}
    {t68 : Tok}
    {t69 : Tok}
    {T16 : Addr} {odT16 : Option Addr} {ocT16 : Value} {nT16 : Nat} {slT16 : Array (Option Value)} {tT16_0 : Tok}
    {T33 : Addr} {odT33 : Option Addr} {ocT33 : Value} {nT33 : Nat} {slT33 : Array (Option Value)} 
    {T34 : Addr} {odT34 : Option Addr} {ocT34 : Value} {nT34 : Nat} {slT34 : Array (Option Value)} {tT34_0 : Tok}
    {T43 : Addr} {odT43 : Option Addr} {ocT43 : Value} {nT43 : Nat} {slT43 : Array (Option Value)} 
    (g63 : PySem.W.nsIn K mainGlobals "WHOLE" = some (some (.ref f63))) (l63 : K.lookup f63 = some ⟨.type "tuple", od63, .seq #[.int 1 t63_0, .int 1 t63_1] n63, sl63⟩)
    (g64 : PySem.W.nsIn K mainGlobals "MOST_BOTTOM" = some (some (.int (1000) t64)))
    (g65 : PySem.W.nsIn K mainGlobals "DRIFT" = some (some (.ref f65))) (l65 : K.lookup f65 = some ⟨.type "tuple", od65, .seq #[.int 1 t65_0, .int 100 t65_1] n65, sl65⟩)
    (g66 : PySem.W.nsIn K mainGlobals "LEASE" = some (some (.int (20) t66)))
    (g67 : PySem.W.nsIn K mainGlobals "LONGEST_LEASE" = some (some (.int (1000) t67)))
    (g68 : PySem.W.nsIn K mainGlobals "MOST_COPIES" = some (some (.int (5) t68)))
    (g69 : PySem.W.nsIn K mainGlobals "NOTHING_PROMISED" = some (some (.int (-1) t69)))
    (aC : PySem.W.nsIn K mainGlobals "Copies" = some (some (.ref fC))) (pg : PySem.W.plainGet K fC Str.empty = true) (hd : PySem.W.hasDictIn K fC = true) (po : PySem.W.plainOver K fC = true) (sa : PySem.W.findIn K (.ref fC) "__setattr__" = some (some (.builtin "object.__setattr__"))) (mk : PySem.W.makesIn K fC = true) (kc : PySem.W.keepIn K (.ref fC) = true)
    (nf_most_drift : PySem.W.findIn K (.ref fC) "most_drift" = some none)
    (nf_lease : PySem.W.findIn K (.ref fC) "lease" = some none)
    (nf_ups : PySem.W.findIn K (.ref fC) "ups" = some none)
    (nf_has : PySem.W.findIn K (.ref fC) "has" = some none)
    (nf_stands : PySem.W.findIn K (.ref fC) "stands" = some none)
    (nf_counts : PySem.W.findIn K (.ref fC) "counts" = some none)
    (nf_spans : PySem.W.findIn K (.ref fC) "spans" = some none)
    (nf_promises : PySem.W.findIn K (.ref fC) "promises" = some none)
    (nf_promised_in : PySem.W.findIn K (.ref fC) "promised_in" = some none)
    (nf_rules_till : PySem.W.findIn K (.ref fC) "rules_till" = some none)
    (nf_entries : PySem.W.findIn K (.ref fC) "entries" = some none)
    (nf_lent : PySem.W.findIn K (.ref fC) "lent" = some none)
    (nf_loose : PySem.W.findIn K (.ref fC) "loose" = some none)
    (nf_reigns : PySem.W.findIn K (.ref fC) "reigns" = some none)
    (nf_chosen : PySem.W.findIn K (.ref fC) "chosen" = some none)
    (aC_Clock : PySem.W.nsIn K mainGlobals "Clock" = some (some (.ref fC_Clock))) (pg_Clock : PySem.W.plainGet K fC_Clock Str.empty = true) (hd_Clock : PySem.W.hasDictIn K fC_Clock = true) (po_Clock : PySem.W.plainOver K fC_Clock = true) (sa_Clock : PySem.W.findIn K (.ref fC_Clock) "__setattr__" = some (some (.builtin "object.__setattr__"))) (mk_Clock : PySem.W.makesIn K fC_Clock = true) (kc_Clock : PySem.W.keepIn K (.ref fC_Clock) = true)
    (nf_Clock_most_drift : PySem.W.findIn K (.ref fC_Clock) "most_drift" = some none)
    (nf_Clock_stands : PySem.W.findIn K (.ref fC_Clock) "stands" = some none)
    (nf_Clock_counted : PySem.W.findIn K (.ref fC_Clock) "counted" = some none)
    (a0 : PySem.W.nsIn K mainGlobals "is_whole" = some (some (.ref f0)))
    (l0 : K.lookup f0 = some ⟨oc0, od0, .func (PySem.W.fnOf "is_whole" "is_whole" (defArgs s_is_whole) (defBody s_is_whole) (defScope s_is_whole) .none kV0 dc0 pm0 an0 cd0 ct0), sl0⟩) (c0 : PySem.W.codeIn K cd0 "is_whole" = true) (k0 : PySem.W.keepIn K (.ref f0) = true)
    (a1 : PySem.W.nsIn K mainGlobals "is_count" = some (some (.ref f1)))
    (l1 : K.lookup f1 = some ⟨oc1, od1, .func (PySem.W.fnOf "is_count" "is_count" (defArgs s_is_count) (defBody s_is_count) (defScope s_is_count) .none kV1 dc1 pm1 an1 cd1 ct1), sl1⟩) (c1 : PySem.W.codeIn K cd1 "is_count" = true) (k1 : PySem.W.keepIn K (.ref f1) = true)
    (a2 : PySem.W.nsIn K mainGlobals "is_from_to" = some (some (.ref f2)))
    (l2 : K.lookup f2 = some ⟨oc2, od2, .func (PySem.W.fnOf "is_from_to" "is_from_to" (defArgs s_is_from_to) (defBody s_is_from_to) (defScope s_is_from_to) .none kV2 dc2 pm2 an2 cd2 ct2), sl2⟩) (c2 : PySem.W.codeIn K cd2 "is_from_to" = true) (k2 : PySem.W.keepIn K (.ref f2) = true)
    (a3 : PySem.W.nsIn K mainGlobals "common_divisor" = some (some (.ref f3)))
    (l3 : K.lookup f3 = some ⟨oc3, od3, .func (PySem.W.fnOf "common_divisor" "common_divisor" (defArgs s_common_divisor) (defBody s_common_divisor) (defScope s_common_divisor) .none kV3 dc3 pm3 an3 cd3 ct3), sl3⟩) (c3 : PySem.W.codeIn K cd3 "common_divisor" = true) (k3 : PySem.W.keepIn K (.ref f3) = true)
    (a4 : PySem.W.nsIn K mainGlobals "is_share" = some (some (.ref f4)))
    (l4 : K.lookup f4 = some ⟨oc4, od4, .func (PySem.W.fnOf "is_share" "is_share" (defArgs s_is_share) (defBody s_is_share) (defScope s_is_share) .none kV4 dc4 pm4 an4 cd4 ct4), sl4⟩) (c4 : PySem.W.codeIn K cd4 "is_share" = true) (k4 : PySem.W.keepIn K (.ref f4) = true)
    (a5 : PySem.W.nsIn K mainGlobals "is_drift" = some (some (.ref f5)))
    (l5 : K.lookup f5 = some ⟨oc5, od5, .func (PySem.W.fnOf "is_drift" "is_drift" (defArgs s_is_drift) (defBody s_is_drift) (defScope s_is_drift) .none kV5 dc5 pm5 an5 cd5 ct5), sl5⟩) (c5 : PySem.W.codeIn K cd5 "is_drift" = true) (k5 : PySem.W.keepIn K (.ref f5) = true)
    (a6 : PySem.W.nsIn K mainGlobals "refuse_no_count" = some (some (.ref f6)))
    (l6 : K.lookup f6 = some ⟨oc6, od6, .func (PySem.W.fnOf "refuse_no_count" "refuse_no_count" (defArgs s_refuse_no_count) (defBody s_refuse_no_count) (defScope s_refuse_no_count) .none kV6 dc6 pm6 an6 cd6 ct6), sl6⟩) (c6 : PySem.W.codeIn K cd6 "refuse_no_count" = true) (k6 : PySem.W.keepIn K (.ref f6) = true)
    (a7 : PySem.W.nsIn K mainGlobals "least_of" = some (some (.ref f7)))
    (l7 : K.lookup f7 = some ⟨oc7, od7, .func (PySem.W.fnOf "least_of" "least_of" (defArgs s_least_of) (defBody s_least_of) (defScope s_least_of) .none kV7 dc7 pm7 an7 cd7 ct7), sl7⟩) (c7 : PySem.W.codeIn K cd7 "least_of" = true) (k7 : PySem.W.keepIn K (.ref f7) = true)
    (a8 : PySem.W.nsIn K mainGlobals "most_of" = some (some (.ref f8)))
    (l8 : K.lookup f8 = some ⟨oc8, od8, .func (PySem.W.fnOf "most_of" "most_of" (defArgs s_most_of) (defBody s_most_of) (defScope s_most_of) .none kV8 dc8 pm8 an8 cd8 ct8), sl8⟩) (c8 : PySem.W.codeIn K cd8 "most_of" = true) (k8 : PySem.W.keepIn K (.ref f8) = true)
    (a9 : PySem.W.nsIn K mainGlobals "bounds_behind" = some (some (.ref f9)))
    (l9 : K.lookup f9 = some ⟨oc9, od9, .func (PySem.W.fnOf "bounds_behind" "bounds_behind" (defArgs s_bounds_behind) (defBody s_bounds_behind) (defScope s_bounds_behind) .none kV9 dc9 pm9 an9 cd9 ct9), sl9⟩) (c9 : PySem.W.codeIn K cd9 "bounds_behind" = true) (k9 : PySem.W.keepIn K (.ref f9) = true)
    (a10 : PySem.W.nsIn K mainGlobals "set_between" = some (some (.ref f10)))
    (l10 : K.lookup f10 = some ⟨oc10, od10, .func (PySem.W.fnOf "set_between" "set_between" (defArgs s_set_between) (defBody s_set_between) (defScope s_set_between) .none kV10 dc10 pm10 an10 cd10 ct10), sl10⟩) (c10 : PySem.W.codeIn K cd10 "set_between" = true) (k10 : PySem.W.keepIn K (.ref f10) = true)
    (a11 : PySem.W.nsIn K mainGlobals "changed_at" = some (some (.ref f11)))
    (l11 : K.lookup f11 = some ⟨oc11, od11, .func (PySem.W.fnOf "changed_at" "changed_at" (defArgs s_changed_at) (defBody s_changed_at) (defScope s_changed_at) .none kV11 dc11 pm11 an11 cd11 ct11), sl11⟩) (c11 : PySem.W.codeIn K cd11 "changed_at" = true) (k11 : PySem.W.keepIn K (.ref f11) = true)
    (a12 : PySem.W.findIn K (.ref fC) "refuse_no_copy" = some (some (.ref f12))) (i12 : PySem.W.isFn K (.ref f12) = true)
    (l12 : K.lookup f12 = some ⟨oc12, od12, .func (PySem.W.fnOf "refuse_no_copy" "Copies.refuse_no_copy" (defArgs s_Copies_refuse_no_copy) (defBody s_Copies_refuse_no_copy) (defScope s_Copies_refuse_no_copy) .none kV12 dc12 pm12 an12 cd12 ct12), sl12⟩) (c12 : PySem.W.codeIn K cd12 "Copies.refuse_no_copy" = true) (k12 : PySem.W.keepIn K (.ref f12) = true)
    (a13 : PySem.W.findIn K (.ref fC) "back" = some (some (.ref f13))) (i13 : PySem.W.isFn K (.ref f13) = true)
    (l13 : K.lookup f13 = some ⟨oc13, od13, .func (PySem.W.fnOf "back" "Copies.back" (defArgs s_Copies_back) (defBody s_Copies_back) (defScope s_Copies_back) .none kV13 dc13 pm13 an13 cd13 ct13), sl13⟩) (c13 : PySem.W.codeIn K cd13 "Copies.back" = true) (k13 : PySem.W.keepIn K (.ref f13) = true)
    (a14 : PySem.W.findIn K (.ref fC) "stop" = some (some (.ref f14))) (i14 : PySem.W.isFn K (.ref f14) = true)
    (l14 : K.lookup f14 = some ⟨oc14, od14, .func (PySem.W.fnOf "stop" "Copies.stop" (defArgs s_Copies_stop) (defBody s_Copies_stop) (defScope s_Copies_stop) .none kV14 dc14 pm14 an14 cd14 ct14), sl14⟩) (c14 : PySem.W.codeIn K cd14 "Copies.stop" = true) (k14 : PySem.W.keepIn K (.ref f14) = true)
    (a15 : PySem.W.findIn K (.ref fC) "tell_bounds" = some (some (.ref f15))) (i15 : PySem.W.isFn K (.ref f15) = true)
    (l15 : K.lookup f15 = some ⟨oc15, od15, .func (PySem.W.fnOf "tell_bounds" "Copies.tell_bounds" (defArgs s_Copies_tell_bounds) (defBody s_Copies_tell_bounds) (defScope s_Copies_tell_bounds) .none kV15 dc15 pm15 an15 cd15 ct15), sl15⟩) (c15 : PySem.W.codeIn K cd15 "Copies.tell_bounds" = true) (k15 : PySem.W.keepIn K (.ref f15) = true)
    (a16 : PySem.W.findIn K (.ref fC) "tick_clock" = some (some (.ref f16))) (i16 : PySem.W.isFn K (.ref f16) = true)
    (l16 : K.lookup f16 = some ⟨oc16, od16, .func (PySem.W.fnOf "tick_clock" "Copies.tick_clock" (defArgs s_Copies_tick_clock) (defBody s_Copies_tick_clock) (defScope s_Copies_tick_clock) (.ref T16) kV16 dc16 pm16 an16 cd16 ct16), sl16⟩) (c16 : PySem.W.codeIn K cd16 "Copies.tick_clock" = true) (k16 : PySem.W.keepIn K (.ref f16) = true)
    (lT16 : K.lookup T16 = some ⟨ocT16, odT16, .seq #[.int 1 tT16_0] nT16, slT16⟩)
    (a17 : PySem.W.findIn K (.ref fC) "is_most" = some (some (.ref f17))) (i17 : PySem.W.isFn K (.ref f17) = true)
    (l17 : K.lookup f17 = some ⟨oc17, od17, .func (PySem.W.fnOf "is_most" "Copies.is_most" (defArgs s_Copies_is_most) (defBody s_Copies_is_most) (defScope s_Copies_is_most) .none kV17 dc17 pm17 an17 cd17 ct17), sl17⟩) (c17 : PySem.W.codeIn K cd17 "Copies.is_most" = true) (k17 : PySem.W.keepIn K (.ref f17) = true)
    (a18 : PySem.W.findIn K (.ref fC) "till_of" = some (some (.ref f18))) (i18 : PySem.W.isFn K (.ref f18) = true)
    (l18 : K.lookup f18 = some ⟨oc18, od18, .func (PySem.W.fnOf "till_of" "Copies.till_of" (defArgs s_Copies_till_of) (defBody s_Copies_till_of) (defScope s_Copies_till_of) .none kV18 dc18 pm18 an18 cd18 ct18), sl18⟩) (c18 : PySem.W.codeIn K cd18 "Copies.till_of" = true) (k18 : PySem.W.keepIn K (.ref f18) = true)
    (a19 : PySem.W.findIn K (.ref fC) "can_promise" = some (some (.ref f19))) (i19 : PySem.W.isFn K (.ref f19) = true)
    (l19 : K.lookup f19 = some ⟨oc19, od19, .func (PySem.W.fnOf "can_promise" "Copies.can_promise" (defArgs s_Copies_can_promise) (defBody s_Copies_can_promise) (defScope s_Copies_can_promise) .none kV19 dc19 pm19 an19 cd19 ct19), sl19⟩) (c19 : PySem.W.codeIn K cd19 "Copies.can_promise" = true) (k19 : PySem.W.keepIn K (.ref f19) = true)
    (a20 : PySem.W.findIn K (.ref fC) "may_rule" = some (some (.ref f20))) (i20 : PySem.W.isFn K (.ref f20) = true)
    (l20 : K.lookup f20 = some ⟨oc20, od20, .func (PySem.W.fnOf "may_rule" "Copies.may_rule" (defArgs s_Copies_may_rule) (defBody s_Copies_may_rule) (defScope s_Copies_may_rule) .none kV20 dc20 pm20 an20 cd20 ct20), sl20⟩) (c20 : PySem.W.codeIn K cd20 "Copies.may_rule" = true) (k20 : PySem.W.keepIn K (.ref f20) = true)
    (a21 : PySem.W.findIn K (.ref fC) "__len__" = some (some (.ref f21))) (i21 : PySem.W.isFn K (.ref f21) = true)
    (l21 : K.lookup f21 = some ⟨oc21, od21, .func (PySem.W.fnOf "__len__" "Copies.__len__" (defArgs s_Copies___len__) (defBody s_Copies___len__) (defScope s_Copies___len__) .none kV21 dc21 pm21 an21 cd21 ct21), sl21⟩) (c21 : PySem.W.codeIn K cd21 "Copies.__len__" = true) (k21 : PySem.W.keepIn K (.ref f21) = true)
    (a22 : PySem.W.findIn K (.ref fC) "set_clock" = some (some (.ref f22))) (i22 : PySem.W.isFn K (.ref f22) = true)
    (l22 : K.lookup f22 = some ⟨oc22, od22, .func (PySem.W.fnOf "set_clock" "Copies.set_clock" (defArgs s_Copies_set_clock) (defBody s_Copies_set_clock) (defScope s_Copies_set_clock) .none kV22 dc22 pm22 an22 cd22 ct22), sl22⟩) (c22 : PySem.W.codeIn K cd22 "Copies.set_clock" = true) (k22 : PySem.W.keepIn K (.ref f22) = true)
    (a23 : PySem.W.findIn K (.ref fC) "heads" = some (some (.ref f23))) (i23 : PySem.W.isFn K (.ref f23) = true)
    (l23 : K.lookup f23 = some ⟨oc23, od23, .func (PySem.W.fnOf "heads" "Copies.heads" (defArgs s_Copies_heads) (defBody s_Copies_heads) (defScope s_Copies_heads) .none kV23 dc23 pm23 an23 cd23 ct23), sl23⟩) (c23 : PySem.W.codeIn K cd23 "Copies.heads" = true) (k23 : PySem.W.keepIn K (.ref f23) = true)
    (a24 : PySem.W.findIn K (.ref fC) "head" = some (some (.ref f24))) (i24 : PySem.W.isFn K (.ref f24) = true)
    (l24 : K.lookup f24 = some ⟨oc24, od24, .func (PySem.W.fnOf "head" "Copies.head" (defArgs s_Copies_head) (defBody s_Copies_head) (defScope s_Copies_head) .none kV24 dc24 pm24 an24 cd24 ct24), sl24⟩) (c24 : PySem.W.codeIn K cd24 "Copies.head" = true) (k24 : PySem.W.keepIn K (.ref f24) = true)
    (a25 : PySem.W.findIn K (.ref fC) "writers" = some (some (.ref f25))) (i25 : PySem.W.isFn K (.ref f25) = true)
    (l25 : K.lookup f25 = some ⟨oc25, od25, .func (PySem.W.fnOf "writers" "Copies.writers" (defArgs s_Copies_writers) (defBody s_Copies_writers) (defScope s_Copies_writers) .none kV25 dc25 pm25 an25 cd25 ct25), sl25⟩) (c25 : PySem.W.codeIn K cd25 "Copies.writers" = true) (k25 : PySem.W.keepIn K (.ref f25) = true)
    (a26 : PySem.W.findIn K (.ref fC) "can_write" = some (some (.ref f26))) (i26 : PySem.W.isFn K (.ref f26) = true)
    (l26 : K.lookup f26 = some ⟨oc26, od26, .func (PySem.W.fnOf "can_write" "Copies.can_write" (defArgs s_Copies_can_write) (defBody s_Copies_can_write) (defScope s_Copies_can_write) .none kV26 dc26 pm26 an26 cd26 ct26), sl26⟩) (c26 : PySem.W.codeIn K cd26 "Copies.can_write" = true) (k26 : PySem.W.keepIn K (.ref f26) = true)
    (a27 : PySem.W.findIn K (.ref fC) "need_head" = some (some (.ref f27))) (i27 : PySem.W.isFn K (.ref f27) = true)
    (l27 : K.lookup f27 = some ⟨oc27, od27, .func (PySem.W.fnOf "need_head" "Copies.need_head" (defArgs s_Copies_need_head) (defBody s_Copies_need_head) (defScope s_Copies_need_head) .none kV27 dc27 pm27 an27 cd27 ct27), sl27⟩) (c27 : PySem.W.codeIn K cd27 "Copies.need_head" = true) (k27 : PySem.W.keepIn K (.ref f27) = true)
    (a28 : PySem.W.findIn K (.ref fC) "greatest_promise" = some (some (.ref f28))) (i28 : PySem.W.isFn K (.ref f28) = true)
    (l28 : K.lookup f28 = some ⟨oc28, od28, .func (PySem.W.fnOf "greatest_promise" "Copies.greatest_promise" (defArgs s_Copies_greatest_promise) (defBody s_Copies_greatest_promise) (defScope s_Copies_greatest_promise) .none kV28 dc28 pm28 an28 cd28 ct28), sl28⟩) (c28 : PySem.W.codeIn K cd28 "Copies.greatest_promise" = true) (k28 : PySem.W.keepIn K (.ref f28) = true)
    (a29 : PySem.W.findIn K (.ref fC) "promise" = some (some (.ref f29))) (i29 : PySem.W.isFn K (.ref f29) = true)
    (l29 : K.lookup f29 = some ⟨oc29, od29, .func (PySem.W.fnOf "promise" "Copies.promise" (defArgs s_Copies_promise) (defBody s_Copies_promise) (defScope s_Copies_promise) .none kV29 dc29 pm29 an29 cd29 ct29), sl29⟩) (c29 : PySem.W.codeIn K cd29 "Copies.promise" = true) (k29 : PySem.W.keepIn K (.ref f29) = true)
    (a30 : PySem.W.findIn K (.ref fC) "choose" = some (some (.ref f30))) (i30 : PySem.W.isFn K (.ref f30) = true)
    (l30 : K.lookup f30 = some ⟨oc30, od30, .func (PySem.W.fnOf "choose" "Copies.choose" (defArgs s_Copies_choose) (defBody s_Copies_choose) (defScope s_Copies_choose) .none kV30 dc30 pm30 an30 cd30 ct30), sl30⟩) (c30 : PySem.W.codeIn K cd30 "Copies.choose" = true) (k30 : PySem.W.keepIn K (.ref f30) = true)
    (a31 : PySem.W.nsIn K mainGlobals "is_fixed" = some (some (.ref f31)))
    (l31 : K.lookup f31 = some ⟨oc31, od31, .func (PySem.W.fnOf "is_fixed" "is_fixed" (defArgs s_is_fixed) (defBody s_is_fixed) (defScope s_is_fixed) .none kV31 dc31 pm31 an31 cd31 ct31), sl31⟩) (c31 : PySem.W.codeIn K cd31 "is_fixed" = true) (k31 : PySem.W.keepIn K (.ref f31) = true)
    (a32 : PySem.W.findIn K (.ref fC) "write" = some (some (.ref f32))) (i32 : PySem.W.isFn K (.ref f32) = true)
    (l32 : K.lookup f32 = some ⟨oc32, od32, .func (PySem.W.fnOf "write" "Copies.write" (defArgs s_Copies_write) (defBody s_Copies_write) (defScope s_Copies_write) .none kV32 dc32 pm32 an32 cd32 ct32), sl32⟩) (c32 : PySem.W.codeIn K cd32 "Copies.write" = true) (k32 : PySem.W.keepIn K (.ref f32) = true)
    (a33 : PySem.W.findIn K (.ref fC) "book" = some (some (.ref f33))) (i33 : PySem.W.isFn K (.ref f33) = true)
    (l33 : K.lookup f33 = some ⟨oc33, od33, .func (PySem.W.fnOf "book" "Copies.book" (defArgs s_Copies_book) (defBody s_Copies_book) (defScope s_Copies_book) (.ref T33) kV33 dc33 pm33 an33 cd33 ct33), sl33⟩) (c33 : PySem.W.codeIn K cd33 "Copies.book" = true) (k33 : PySem.W.keepIn K (.ref f33) = true)
    (lT33 : K.lookup T33 = some ⟨ocT33, odT33, .seq #[.none] nT33, slT33⟩)
    (a34 : PySem.W.findIn K (.ref fC) "__init__" = some (some (.ref f34))) (i34 : PySem.W.isFn K (.ref f34) = true)
    (l34 : K.lookup f34 = some ⟨oc34, od34, .func (PySem.W.fnOf "__init__" "Copies.__init__" (defArgs s_Copies___init__) (defBody s_Copies___init__) (defScope s_Copies___init__) (.ref T34) kV34 dc34 pm34 an34 cd34 ct34), sl34⟩) (c34 : PySem.W.codeIn K cd34 "Copies.__init__" = true) (k34 : PySem.W.keepIn K (.ref f34) = true)
    (lT34 : K.lookup T34 = some ⟨ocT34, odT34, .seq #[.int 3 tT34_0] nT34, slT34⟩)
    (a35 : PySem.W.findIn K (.ref fC) "may_renew" = some (some (.ref f35))) (i35 : PySem.W.isFn K (.ref f35) = true)
    (l35 : K.lookup f35 = some ⟨oc35, od35, .func (PySem.W.fnOf "may_renew" "Copies.may_renew" (defArgs s_Copies_may_renew) (defBody s_Copies_may_renew) (defScope s_Copies_may_renew) .none kV35 dc35 pm35 an35 cd35 ct35), sl35⟩) (c35 : PySem.W.codeIn K cd35 "Copies.may_renew" = true) (k35 : PySem.W.keepIn K (.ref f35) = true)
    (a36 : PySem.W.findIn K (.ref fC) "renew" = some (some (.ref f36))) (i36 : PySem.W.isFn K (.ref f36) = true)
    (l36 : K.lookup f36 = some ⟨oc36, od36, .func (PySem.W.fnOf "renew" "Copies.renew" (defArgs s_Copies_renew) (defBody s_Copies_renew) (defScope s_Copies_renew) .none kV36 dc36 pm36 an36 cd36 ct36), sl36⟩) (c36 : PySem.W.codeIn K cd36 "Copies.renew" = true) (k36 : PySem.W.keepIn K (.ref f36) = true)
    (a37 : PySem.W.findIn K (.ref fC) "is_up" = some (some (.ref f37))) (i37 : PySem.W.isFn K (.ref f37) = true)
    (l37 : K.lookup f37 = some ⟨oc37, od37, .func (PySem.W.fnOf "is_up" "Copies.is_up" (defArgs s_Copies_is_up) (defBody s_Copies_is_up) (defScope s_Copies_is_up) .none kV37 dc37 pm37 an37 cd37 ct37), sl37⟩) (c37 : PySem.W.codeIn K cd37 "Copies.is_up" = true) (k37 : PySem.W.keepIn K (.ref f37) = true)
    (a38 : PySem.W.findIn K (.ref fC) "reign" = some (some (.ref f38))) (i38 : PySem.W.isFn K (.ref f38) = true)
    (l38 : K.lookup f38 = some ⟨oc38, od38, .func (PySem.W.fnOf "reign" "Copies.reign" (defArgs s_Copies_reign) (defBody s_Copies_reign) (defScope s_Copies_reign) .none kV38 dc38 pm38 an38 cd38 ct38), sl38⟩) (c38 : PySem.W.codeIn K cd38 "Copies.reign" = true) (k38 : PySem.W.keepIn K (.ref f38) = true)
    (a39 : PySem.W.findIn K (.ref fC) "clock" = some (some (.ref f39))) (i39 : PySem.W.isFn K (.ref f39) = true)
    (l39 : K.lookup f39 = some ⟨oc39, od39, .func (PySem.W.fnOf "clock" "Copies.clock" (defArgs s_Copies_clock) (defBody s_Copies_clock) (defScope s_Copies_clock) .none kV39 dc39 pm39 an39 cd39 ct39), sl39⟩) (c39 : PySem.W.codeIn K cd39 "Copies.clock" = true) (k39 : PySem.W.keepIn K (.ref f39) = true)
    (a40 : PySem.W.findIn K (.ref fC) "parts" = some (some (.ref f40))) (i40 : PySem.W.isFn K (.ref f40) = true)
    (l40 : K.lookup f40 = some ⟨oc40, od40, .func (PySem.W.fnOf "parts" "Copies.parts" (defArgs s_Copies_parts) (defBody s_Copies_parts) (defScope s_Copies_parts) .none kV40 dc40 pm40 an40 cd40 ct40), sl40⟩) (c40 : PySem.W.codeIn K cd40 "Copies.parts" = true) (k40 : PySem.W.keepIn K (.ref f40) = true)
    (a41 : PySem.W.findIn K (.ref fC) "put_parts" = some (some (.ref f41))) (i41 : PySem.W.isFn K (.ref f41) = true)
    (l41 : K.lookup f41 = some ⟨oc41, od41, .func (PySem.W.fnOf "put_parts" "Copies.put_parts" (defArgs s_Copies_put_parts) (defBody s_Copies_put_parts) (defScope s_Copies_put_parts) .none kV41 dc41 pm41 an41 cd41 ct41), sl41⟩) (c41 : PySem.W.codeIn K cd41 "Copies.put_parts" = true) (k41 : PySem.W.keepIn K (.ref f41) = true)
    (a42 : PySem.W.findIn K (.ref fC) "twin" = some (some (.ref f42))) (i42 : PySem.W.isFn K (.ref f42) = true)
    (l42 : K.lookup f42 = some ⟨oc42, od42, .func (PySem.W.fnOf "twin" "Copies.twin" (defArgs s_Copies_twin) (defBody s_Copies_twin) (defScope s_Copies_twin) .none kV42 dc42 pm42 an42 cd42 ct42), sl42⟩) (c42 : PySem.W.codeIn K cd42 "Copies.twin" = true) (k42 : PySem.W.keepIn K (.ref f42) = true)
    (a43 : PySem.W.findIn K (.ref fC_Clock) "__init__" = some (some (.ref f43))) (i43 : PySem.W.isFn K (.ref f43) = true)
    (l43 : K.lookup f43 = some ⟨oc43, od43, .func (PySem.W.fnOf "__init__" "Clock.__init__" (defArgs s_Clock___init__) (defBody s_Clock___init__) (defScope s_Clock___init__) (.ref T43) kV43 dc43 pm43 an43 cd43 ct43), sl43⟩) (c43 : PySem.W.codeIn K cd43 "Clock.__init__" = true) (k43 : PySem.W.keepIn K (.ref f43) = true)
    (lT43 : K.lookup T43 = some ⟨ocT43, odT43, .seq #[.ref f65] nT43, slT43⟩)
    (a44 : PySem.W.findIn K (.ref fC_Clock) "bounds" = some (some (.ref f44))) (i44 : PySem.W.isFn K (.ref f44) = true)
    (l44 : K.lookup f44 = some ⟨oc44, od44, .func (PySem.W.fnOf "bounds" "Clock.bounds" (defArgs s_Clock_bounds) (defBody s_Clock_bounds) (defScope s_Clock_bounds) .none kV44 dc44 pm44 an44 cd44 ct44), sl44⟩) (c44 : PySem.W.codeIn K cd44 "Clock.bounds" = true) (k44 : PySem.W.keepIn K (.ref f44) = true)
    (a45 : PySem.W.nsIn K mainGlobals "_law_begun" = some (some (.ref f45)))
    (l45 : K.lookup f45 = some ⟨oc45, od45, .func (PySem.W.fnOf "_law_begun" "_law_begun" (defArgs s_l_begun) (defBody s_l_begun) (defScope s_l_begun) .none kV45 dc45 pm45 an45 cd45 ct45), sl45⟩) (c45 : PySem.W.codeIn K cd45 "_law_begun" = true) (k45 : PySem.W.keepIn K (.ref f45) = true)
    (a46 : PySem.W.nsIn K mainGlobals "_law_take" = some (some (.ref f46)))
    (l46 : K.lookup f46 = some ⟨oc46, od46, .func (PySem.W.fnOf "_law_take" "_law_take" (defArgs s_l_take) (defBody s_l_take) (defScope s_l_take) .none kV46 dc46 pm46 an46 cd46 ct46), sl46⟩) (c46 : PySem.W.codeIn K cd46 "_law_take" = true) (k46 : PySem.W.keepIn K (.ref f46) = true)
    (a47 : PySem.W.nsIn K mainGlobals "_law_group" = some (some (.ref f47)))
    (l47 : K.lookup f47 = some ⟨oc47, od47, .func (PySem.W.fnOf "_law_group" "_law_group" (defArgs s_l_group) (defBody s_l_group) (defScope s_l_group) .none kV47 dc47 pm47 an47 cd47 ct47), sl47⟩) (c47 : PySem.W.codeIn K cd47 "_law_group" = true) (k47 : PySem.W.keepIn K (.ref f47) = true)
    (a48 : PySem.W.nsIn K mainGlobals "_law_bounds" = some (some (.ref f48)))
    (l48 : K.lookup f48 = some ⟨oc48, od48, .func (PySem.W.fnOf "_law_bounds" "_law_bounds" (defArgs s_l_bounds) (defBody s_l_bounds) (defScope s_l_bounds) .none kV48 dc48 pm48 an48 cd48 ct48), sl48⟩) (c48 : PySem.W.codeIn K cd48 "_law_bounds" = true) (k48 : PySem.W.keepIn K (.ref f48) = true)
    (a49 : PySem.W.nsIn K mainGlobals "_law_heads" = some (some (.ref f49)))
    (l49 : K.lookup f49 = some ⟨oc49, od49, .func (PySem.W.fnOf "_law_heads" "_law_heads" (defArgs s_l_heads) (defBody s_l_heads) (defScope s_l_heads) .none kV49 dc49 pm49 an49 cd49 ct49), sl49⟩) (c49 : PySem.W.codeIn K cd49 "_law_heads" = true) (k49 : PySem.W.keepIn K (.ref f49) = true)
    (a50 : PySem.W.nsIn K mainGlobals "_law_is_free" = some (some (.ref f50)))
    (l50 : K.lookup f50 = some ⟨oc50, od50, .func (PySem.W.fnOf "_law_is_free" "_law_is_free" (defArgs s_l_is_free) (defBody s_l_is_free) (defScope s_l_is_free) .none kV50 dc50 pm50 an50 cd50 ct50), sl50⟩) (c50 : PySem.W.codeIn K cd50 "_law_is_free" = true) (k50 : PySem.W.keepIn K (.ref f50) = true)
    (a51 : PySem.W.nsIn K mainGlobals "_law_choose" = some (some (.ref f51)))
    (l51 : K.lookup f51 = some ⟨oc51, od51, .func (PySem.W.fnOf "_law_choose" "_law_choose" (defArgs s_l_choose) (defBody s_l_choose) (defScope s_l_choose) .none kV51 dc51 pm51 an51 cd51 ct51), sl51⟩) (c51 : PySem.W.codeIn K cd51 "_law_choose" = true) (k51 : PySem.W.keepIn K (.ref f51) = true)
    (a52 : PySem.W.nsIn K mainGlobals "_law_renewed" = some (some (.ref f52)))
    (l52 : K.lookup f52 = some ⟨oc52, od52, .func (PySem.W.fnOf "_law_renewed" "_law_renewed" (defArgs s_l_renewed) (defBody s_l_renewed) (defScope s_l_renewed) .none kV52 dc52 pm52 an52 cd52 ct52), sl52⟩) (c52 : PySem.W.codeIn K cd52 "_law_renewed" = true) (k52 : PySem.W.keepIn K (.ref f52) = true)
    (a53 : PySem.W.nsIn K mainGlobals "_law_written" = some (some (.ref f53)))
    (l53 : K.lookup f53 = some ⟨oc53, od53, .func (PySem.W.fnOf "_law_written" "_law_written" (defArgs s_l_written) (defBody s_l_written) (defScope s_l_written) .none kV53 dc53 pm53 an53 cd53 ct53), sl53⟩) (c53 : PySem.W.codeIn K cd53 "_law_written" = true) (k53 : PySem.W.keepIn K (.ref f53) = true)
    (a54 : PySem.W.nsIn K mainGlobals "_law_stands" = some (some (.ref f54)))
    (l54 : K.lookup f54 = some ⟨oc54, od54, .func (PySem.W.fnOf "_law_stands" "_law_stands" (defArgs s_l_stands) (defBody s_l_stands) (defScope s_l_stands) .none kV54 dc54 pm54 an54 cd54 ct54), sl54⟩) (c54 : PySem.W.codeIn K cd54 "_law_stands" = true) (k54 : PySem.W.keepIn K (.ref f54) = true)
    (a55 : PySem.W.nsIn K mainGlobals "_law_tick" = some (some (.ref f55)))
    (l55 : K.lookup f55 = some ⟨oc55, od55, .func (PySem.W.fnOf "_law_tick" "_law_tick" (defArgs s_l_tick) (defBody s_l_tick) (defScope s_l_tick) .none kV55 dc55 pm55 an55 cd55 ct55), sl55⟩) (c55 : PySem.W.codeIn K cd55 "_law_tick" = true) (k55 : PySem.W.keepIn K (.ref f55) = true)
    (a56 : PySem.W.nsIn K mainGlobals "_law_begin_clocks" = some (some (.ref f56)))
    (l56 : K.lookup f56 = some ⟨oc56, od56, .func (PySem.W.fnOf "_law_begin_clocks" "_law_begin_clocks" (defArgs s_l_begin_clocks) (defBody s_l_begin_clocks) (defScope s_l_begin_clocks) .none kV56 dc56 pm56 an56 cd56 ct56), sl56⟩) (c56 : PySem.W.codeIn K cd56 "_law_begin_clocks" = true) (k56 : PySem.W.keepIn K (.ref f56) = true)
    (a57 : PySem.W.nsIn K mainGlobals "_law_copied" = some (some (.ref f57)))
    (l57 : K.lookup f57 = some ⟨oc57, od57, .func (PySem.W.fnOf "_law_copied" "_law_copied" (defArgs s_l_copied) (defBody s_l_copied) (defScope s_l_copied) .none kV57 dc57 pm57 an57 cd57 ct57), sl57⟩) (c57 : PySem.W.codeIn K cd57 "_law_copied" = true) (k57 : PySem.W.keepIn K (.ref f57) = true)
    (a58 : PySem.W.nsIn K mainGlobals "_law_said" = some (some (.ref f58)))
    (l58 : K.lookup f58 = some ⟨oc58, od58, .func (PySem.W.fnOf "_law_said" "_law_said" (defArgs s_l_said) (defBody s_l_said) (defScope s_l_said) .none kV58 dc58 pm58 an58 cd58 ct58), sl58⟩) (c58 : PySem.W.codeIn K cd58 "_law_said" = true) (k58 : PySem.W.keepIn K (.ref f58) = true)
    (a59 : PySem.W.nsIn K mainGlobals "_law_deed" = some (some (.ref f59)))
    (l59 : K.lookup f59 = some ⟨oc59, od59, .func (PySem.W.fnOf "_law_deed" "_law_deed" (defArgs s_l_deed) (defBody s_l_deed) (defScope s_l_deed) .none kV59 dc59 pm59 an59 cd59 ct59), sl59⟩) (c59 : PySem.W.codeIn K cd59 "_law_deed" = true) (k59 : PySem.W.keepIn K (.ref f59) = true)
    (a60 : PySem.W.nsIn K mainGlobals "law" = some (some (.ref f60)))
    (l60 : K.lookup f60 = some ⟨oc60, od60, .func (PySem.W.fnOf "law" "law" (defArgs s_law) (defBody s_law) (defScope s_law) .none kV60 dc60 pm60 an60 cd60 ct60), sl60⟩) (c60 : PySem.W.codeIn K cd60 "law" = true) (k60 : PySem.W.keepIn K (.ref f60) = true)
    (z_max : PySem.W.nsIn K mainGlobals "max" = some none)
    (z_min : PySem.W.nsIn K mainGlobals "min" = some none)
    (z_len : PySem.W.nsIn K mainGlobals "len" = some none)
    (z_int : PySem.W.nsIn K mainGlobals "int" = some none)
    (z_range : PySem.W.nsIn K mainGlobals "range" = some none)
    (z_isinstance : PySem.W.nsIn K mainGlobals "isinstance" = some none)
    (z_bool : PySem.W.nsIn K mainGlobals "bool" = some none)
    (z_tuple : PySem.W.nsIn K mainGlobals "tuple" = some none)
    (z_list : PySem.W.nsIn K mainGlobals "list" = some none)
    (z_dict : PySem.W.nsIn K mainGlobals "dict" = some none)
    (z_enumerate : PySem.W.nsIn K mainGlobals "enumerate" = some none)
    (z_repr : PySem.W.nsIn K mainGlobals "repr" = some none)
    (aE100 : PySem.W.nsIn K mainGlobals "NoHead" = some (some (.ref e100)))
    (tb100 : PySem.W.subIn K (.ref e100) (.type "BaseException") = some true)
    (tc100 : PySem.W.isClsIn K e100 = true)
    (tt100 : PySem.W.typeIn K (.ref e100) = some (.type "type"))
    (ts100 : PySem.W.subIn K (.ref e100) (.ref e100) = some true)
    (j2 : PySem.W.specialIn K (.builtin "object.__class__") "__get__" = some (some (.builtin "getset_descriptor.__get__")))
    (j3 : PySem.W.takesIn K (.builtin "object.__class__") = some true)
    (x100 : K.lookup e100 = some (excClassObj nm100 q100 e100 N100 bs100 [.type "RuntimeError", .type "Exception", .type "BaseException", .type "object"] true sn100 sub100 ab100 col100 dd100 x0100 x1100 x2100 x3100 x5100 "RuntimeError.__new__"))
    (sa100 : PySem.W.findIn K (.ref e100) "__setattr__" = some (some (.builtin "object.__setattr__")))
    (xb100 : PySem.W.subIn K (.ref e100) (.type "BaseException") = some true)
    (ty100 : PySem.W.typeIn K (.ref e100) = some (.type "type"))
    (kp100 : PySem.W.keepIn K (.ref e100) = true)
    (in100 : PySem.W.findIn K (.ref e100) "__init__" = some (some (.ref i150)))
    (ga100 : PySem.W.findIn K (.ref e100) "__getattribute__" = some (some (.builtin "BaseException.__getattribute__")))
    (gg100 : PySem.W.findIn K (.ref e100) "__getattr__" = some none)
    (hd100 : PySem.W.hasDictIn K e100 = true)
    (jc100 : PySem.W.findIn K (.ref e100) "__class__" = some (some (.builtin "object.__class__")))
    (jm100 : PySem.W.mroIn K e100 (.type "object") = some true)
    (n0_100 : PySem.W.findIn K (.ref e100) "house" = some none)
    (ti150 : PySem.W.typeIn K (.ref i150) = some (.type "function"))
    (li150 : K.lookup i150 = some ⟨oc150, od150, .func (PySem.W.fnOf "__init__" "NoHead.__init__" (defArgs s_INoHead) (defBody s_INoHead) (defScope s_INoHead) .none kV150 dc150 pm150 an150 cd150 ct150), sl150⟩)
    (cc150 : PySem.W.codeIn K cd150 "NoHead.__init__" = true)
    (kk150 : PySem.W.keepIn K (.ref i150) = true)
    (su0 : PySem.W.subIn K (.ref e100) (.ref e100) = some true)
    : ∃ fd : FuncData, (∀ (s : Shared) (v : Value), BindsTo s fd ⟨[v], []⟩ [("_law_script", v)]) ∧ ∀ base : Heap, K.In base → base.Ns mainGlobals mg → FnG l.prog w K mg base 12 fa fd ["_law_script"] (spLaw K) := by
  have e := hfa.symm.trans (PySem.W.mg_of X G a60)
  cases e
  have F0 := fun_mk (st := s_is_whole) l0 c0 k0
  have b0 := F0.binds (ps := ["thing"]) fun _ _ _ _ _ _ us hl => match us, hl with | [_], _ => rfl
  have F1 := fun_mk (st := s_is_count) l1 c1 k1
  have b1 := F1.binds (ps := ["thing"]) fun _ _ _ _ _ _ us hl => match us, hl with | [_], _ => rfl
  have F2 := fun_mk (st := s_is_from_to) l2 c2 k2
  have b2 := F2.binds (ps := ["thing", "least", "most"]) fun _ _ _ _ _ _ us hl => match us, hl with | [_, _, _], _ => rfl
  have F3 := fun_mk (st := s_common_divisor) l3 c3 k3
  have b3 := F3.binds (ps := ["first", "second"]) fun _ _ _ _ _ _ us hl => match us, hl with | [_, _], _ => rfl
  have F4 := fun_mk (st := s_is_share) l4 c4 k4
  have b4 := F4.binds (ps := ["thing"]) fun _ _ _ _ _ _ us hl => match us, hl with | [_], _ => rfl
  have F5 := fun_mk (st := s_is_drift) l5 c5 k5
  have b5 := F5.binds (ps := ["thing"]) fun _ _ _ _ _ _ us hl => match us, hl with | [_], _ => rfl
  have F6 := fun_mk (st := s_refuse_no_count) l6 c6 k6
  have b6 := F6.binds (ps := ["thing"]) fun _ _ _ _ _ _ us hl => match us, hl with | [_], _ => rfl
  have F7 := fun_mk (st := s_least_of) l7 c7 k7
  have b7 := F7.binds (ps := ["ticks", "drift"]) fun _ _ _ _ _ _ us hl => match us, hl with | [_, _], _ => rfl
  have F8 := fun_mk (st := s_most_of) l8 c8 k8
  have b8 := F8.binds (ps := ["ticks", "drift"]) fun _ _ _ _ _ _ us hl => match us, hl with | [_, _], _ => rfl
  have F9 := fun_mk (st := s_bounds_behind) l9 c9 k9
  have b9 := F9.binds (ps := ["stands", "counted", "drift"]) fun _ _ _ _ _ _ us hl => match us, hl with | [_, _, _], _ => rfl
  have F10 := fun_mk (st := s_set_between) l10 c10 k10
  have b10 := F10.binds (ps := ["told", "low", "high"]) fun _ _ _ _ _ _ us hl => match us, hl with | [_, _, _], _ => rfl
  have F11 := fun_mk (st := s_changed_at) l11 c11 k11
  have b11 := F11.binds (ps := ["row", "at", "thing"]) fun _ _ _ _ _ _ us hl => match us, hl with | [_, _, _], _ => rfl
  have F12 := fun_mk (st := s_Copies_refuse_no_copy) l12 c12 k12
  have b12 := F12.binds (ps := ["self", "copy"]) fun _ _ _ _ _ _ us hl => match us, hl with | [_, _], _ => rfl
  have F13 := fun_mk (st := s_Copies_back) l13 c13 k13
  have b13 := F13.binds (ps := ["self", "copy"]) fun _ _ _ _ _ _ us hl => match us, hl with | [_, _], _ => rfl
  have F14 := fun_mk (st := s_Copies_stop) l14 c14 k14
  have b14 := F14.binds (ps := ["self", "copy"]) fun _ _ _ _ _ _ us hl => match us, hl with | [_, _], _ => rfl
  have F15 := fun_mk (st := s_Copies_tell_bounds) l15 c15 k15
  have b15 := F15.binds (ps := ["self", "copy"]) fun _ _ _ _ _ _ us hl => match us, hl with | [_, _], _ => rfl
  have F16 : FunD K "tick_clock" "Copies.tick_clock" (defArgs s_Copies_tick_clock) (defBody s_Copies_tick_clock) (defScope s_Copies_tick_clock) [V.int 1] [] f16 (PySem.W.fnOf "tick_clock" "Copies.tick_clock" (defArgs s_Copies_tick_clock) (defBody s_Copies_tick_clock) (defScope s_Copies_tick_clock) (.ref T16) kV16 dc16 pm16 an16 cd16 ct16) := ⟨⟨_, _, _, _, _, _, _, _, _, _, rfl, l16, c16, .inr ⟨by simp, _, _, [Value.int 1 tT16_0], _, rfl, lT16, rfl, (.cons ⟨_, rfl⟩ .nil)⟩, .inl rfl⟩, k16⟩
  have b16 : Binds K (PySem.W.fnOf "tick_clock" "Copies.tick_clock" (defArgs s_Copies_tick_clock) (defBody s_Copies_tick_clock) (defScope s_Copies_tick_clock) (.ref T16) kV16 dc16 pm16 an16 cd16 ct16) ["self", "copy", "many"] [] := by
    obtain ⟨ds, v, b⟩ := F16.binds1 (ps := ["self", "copy", "many"]) 3 1 (by simp) rfl (fun T kV dc pm an cdv ct us its hu hi => match us, hu, its, hi with | [_, _, _], _, [_], _ => ⟨_, rfl, rfl⟩)
    cases v
    exact b
  have c'16 : ∃ ds, Vals [V.int 1] ds ∧ Binds K (PySem.W.fnOf "tick_clock" "Copies.tick_clock" (defArgs s_Copies_tick_clock) (defBody s_Copies_tick_clock) (defScope s_Copies_tick_clock) (.ref T16) kV16 dc16 pm16 an16 cd16 ct16) ["self", "copy", "many"] ds := F16.binds1 (ps := ["self", "copy", "many"]) 2 0 (by simp) rfl (fun T kV dc pm an cdv ct us its hu hi => match us, hu, its, hi with | [_, _], _, [_], _ => ⟨_, rfl, rfl⟩)
  have F17 := fun_mk (st := s_Copies_is_most) l17 c17 k17
  have b17 := F17.binds (ps := ["self", "some"]) fun _ _ _ _ _ _ us hl => match us, hl with | [_, _], _ => rfl
  have F18 := fun_mk (st := s_Copies_till_of) l18 c18 k18
  have b18 := F18.binds (ps := ["self", "copy"]) fun _ _ _ _ _ _ us hl => match us, hl with | [_, _], _ => rfl
  have F19 := fun_mk (st := s_Copies_can_promise) l19 c19 k19
  have b19 := F19.binds (ps := ["self", "copy"]) fun _ _ _ _ _ _ us hl => match us, hl with | [_, _], _ => rfl
  have F20 := fun_mk (st := s_Copies_may_rule) l20 c20 k20
  have b20 := F20.binds (ps := ["self", "copy"]) fun _ _ _ _ _ _ us hl => match us, hl with | [_, _], _ => rfl
  have F21 := fun_mk (st := s_Copies___len__) l21 c21 k21
  have b21 := F21.binds (ps := ["self"]) fun _ _ _ _ _ _ us hl => match us, hl with | [_], _ => rfl
  have F22 := fun_mk (st := s_Copies_set_clock) l22 c22 k22
  have b22 := F22.binds (ps := ["self", "copy", "low", "high"]) fun _ _ _ _ _ _ us hl => match us, hl with | [_, _, _, _], _ => rfl
  have F23 := fun_mk (st := s_Copies_heads) l23 c23 k23
  have b23 := F23.binds (ps := ["self"]) fun _ _ _ _ _ _ us hl => match us, hl with | [_], _ => rfl
  have F24 := fun_mk (st := s_Copies_head) l24 c24 k24
  have b24 := F24.binds (ps := ["self"]) fun _ _ _ _ _ _ us hl => match us, hl with | [_], _ => rfl
  have F25 := fun_mk (st := s_Copies_writers) l25 c25 k25
  have b25 := F25.binds (ps := ["self"]) fun _ _ _ _ _ _ us hl => match us, hl with | [_], _ => rfl
  have F26 := fun_mk (st := s_Copies_can_write) l26 c26 k26
  have b26 := F26.binds (ps := ["self"]) fun _ _ _ _ _ _ us hl => match us, hl with | [_], _ => rfl
  have F27 := fun_mk (st := s_Copies_need_head) l27 c27 k27
  have b27 := F27.binds (ps := ["self"]) fun _ _ _ _ _ _ us hl => match us, hl with | [_], _ => rfl
  have F28 := fun_mk (st := s_Copies_greatest_promise) l28 c28 k28
  have b28 := F28.binds (ps := ["self", "some"]) fun _ _ _ _ _ _ us hl => match us, hl with | [_, _], _ => rfl
  have F29 := fun_mk (st := s_Copies_promise) l29 c29 k29
  have b29 := F29.binds (ps := ["self", "some", "till"]) fun _ _ _ _ _ _ us hl => match us, hl with | [_, _, _], _ => rfl
  have F30 := fun_mk (st := s_Copies_choose) l30 c30 k30
  have b30 := F30.binds (ps := ["self", "copy"]) fun _ _ _ _ _ _ us hl => match us, hl with | [_, _], _ => rfl
  have F31 := fun_mk (st := s_is_fixed) l31 c31 k31
  have b31 := F31.binds (ps := ["thing"]) fun _ _ _ _ _ _ us hl => match us, hl with | [_], _ => rfl
  have F32 := fun_mk (st := s_Copies_write) l32 c32 k32
  have b32 := F32.binds (ps := ["self", "entry"]) fun _ _ _ _ _ _ us hl => match us, hl with | [_, _], _ => rfl
  have F33 : FunD K "book" "Copies.book" (defArgs s_Copies_book) (defBody s_Copies_book) (defScope s_Copies_book) [V.non] [] f33 (PySem.W.fnOf "book" "Copies.book" (defArgs s_Copies_book) (defBody s_Copies_book) (defScope s_Copies_book) (.ref T33) kV33 dc33 pm33 an33 cd33 ct33) := ⟨⟨_, _, _, _, _, _, _, _, _, _, rfl, l33, c33, .inr ⟨by simp, _, _, [Value.none], _, rfl, lT33, rfl, (.cons rfl .nil)⟩, .inl rfl⟩, k33⟩
  have b33 : Binds K (PySem.W.fnOf "book" "Copies.book" (defArgs s_Copies_book) (defBody s_Copies_book) (defScope s_Copies_book) (.ref T33) kV33 dc33 pm33 an33 cd33 ct33) ["self", "copy"] [] := by
    obtain ⟨ds, v, b⟩ := F33.binds1 (ps := ["self", "copy"]) 2 1 (by simp) rfl (fun T kV dc pm an cdv ct us its hu hi => match us, hu, its, hi with | [_, _], _, [_], _ => ⟨_, rfl, rfl⟩)
    cases v
    exact b
  have c'33 : ∃ ds, Vals [V.non] ds ∧ Binds K (PySem.W.fnOf "book" "Copies.book" (defArgs s_Copies_book) (defBody s_Copies_book) (defScope s_Copies_book) (.ref T33) kV33 dc33 pm33 an33 cd33 ct33) ["self", "copy"] ds := F33.binds1 (ps := ["self", "copy"]) 1 0 (by simp) rfl (fun T kV dc pm an cdv ct us its hu hi => match us, hu, its, hi with | [_], _, [_], _ => ⟨_, rfl, rfl⟩)
  have F34 : FunD K "__init__" "Copies.__init__" (defArgs s_Copies___init__) (defBody s_Copies___init__) (defScope s_Copies___init__) [V.int 3] [] f34 (PySem.W.fnOf "__init__" "Copies.__init__" (defArgs s_Copies___init__) (defBody s_Copies___init__) (defScope s_Copies___init__) (.ref T34) kV34 dc34 pm34 an34 cd34 ct34) := ⟨⟨_, _, _, _, _, _, _, _, _, _, rfl, l34, c34, .inr ⟨by simp, _, _, [Value.int 3 tT34_0], _, rfl, lT34, rfl, (.cons ⟨_, rfl⟩ .nil)⟩, .inl rfl⟩, k34⟩
  have k'34 : KBn K (PySem.W.fnOf "__init__" "Copies.__init__" (defArgs s_Copies___init__) (defBody s_Copies___init__) (defScope s_Copies___init__) (.ref T34) kV34 dc34 pm34 an34 cd34 ct34) ["self", "many", "drift", "lease"] 2 ["drift", "lease"] (fun us ws => us ++ ws) (fun vs zs => vs ++ zs) := by
    obtain ⟨_, b⟩ := F34.kbindsD (ps := ["self", "many", "drift", "lease"]) 2 ["drift", "lease"] (fun us _ ws => us ++ ws) (by simp) (fun h1 _ h3 => h1.append h3) (fun T kV dc pm an cdv ct us its ws hu hi hw => match us, hu, its, hi, ws, hw with | [_, _], _, [_], _, [_, _], _ => ⟨_, rfl, rfl⟩)
    exact b
  have F35 := fun_mk (st := s_Copies_may_renew) l35 c35 k35
  have b35 := F35.binds (ps := ["self", "copy"]) fun _ _ _ _ _ _ us hl => match us, hl with | [_, _], _ => rfl
  have F36 := fun_mk (st := s_Copies_renew) l36 c36 k36
  have b36 := F36.binds (ps := ["self"]) fun _ _ _ _ _ _ us hl => match us, hl with | [_], _ => rfl
  have F37 := fun_mk (st := s_Copies_is_up) l37 c37 k37
  have b37 := F37.binds (ps := ["self", "copy"]) fun _ _ _ _ _ _ us hl => match us, hl with | [_, _], _ => rfl
  have F38 := fun_mk (st := s_Copies_reign) l38 c38 k38
  have b38 := F38.binds (ps := ["self"]) fun _ _ _ _ _ _ us hl => match us, hl with | [_], _ => rfl
  have F39 := fun_mk (st := s_Copies_clock) l39 c39 k39
  have b39 := F39.binds (ps := ["self", "copy"]) fun _ _ _ _ _ _ us hl => match us, hl with | [_, _], _ => rfl
  have F40 := fun_mk (st := s_Copies_parts) l40 c40 k40
  have b40 := F40.binds (ps := ["self"]) fun _ _ _ _ _ _ us hl => match us, hl with | [_], _ => rfl
  have F41 := fun_mk (st := s_Copies_put_parts) l41 c41 k41
  have b41 := F41.binds (ps := ["self", "parts"]) fun _ _ _ _ _ _ us hl => match us, hl with | [_, _], _ => rfl
  have F42 := fun_mk (st := s_Copies_twin) l42 c42 k42
  have b42 := F42.binds (ps := ["self"]) fun _ _ _ _ _ _ us hl => match us, hl with | [_], _ => rfl
  have F43 : FunD K "__init__" "Clock.__init__" (defArgs s_Clock___init__) (defBody s_Clock___init__) (defScope s_Clock___init__) [V.ref f65] [] f43 (PySem.W.fnOf "__init__" "Clock.__init__" (defArgs s_Clock___init__) (defBody s_Clock___init__) (defScope s_Clock___init__) (.ref T43) kV43 dc43 pm43 an43 cd43 ct43) := ⟨⟨_, _, _, _, _, _, _, _, _, _, rfl, l43, c43, .inr ⟨by simp, _, _, [Value.ref f65], _, rfl, lT43, rfl, (.cons rfl .nil)⟩, .inl rfl⟩, k43⟩
  have b43 : Binds K (PySem.W.fnOf "__init__" "Clock.__init__" (defArgs s_Clock___init__) (defBody s_Clock___init__) (defScope s_Clock___init__) (.ref T43) kV43 dc43 pm43 an43 cd43 ct43) ["self", "drift"] [] := by
    obtain ⟨ds, v, b⟩ := F43.binds1 (ps := ["self", "drift"]) 2 1 (by simp) rfl (fun T kV dc pm an cdv ct us its hu hi => match us, hu, its, hi with | [_, _], _, [_], _ => ⟨_, rfl, rfl⟩)
    cases v
    exact b
  have c'43 : ∃ ds, Vals [V.ref f65] ds ∧ Binds K (PySem.W.fnOf "__init__" "Clock.__init__" (defArgs s_Clock___init__) (defBody s_Clock___init__) (defScope s_Clock___init__) (.ref T43) kV43 dc43 pm43 an43 cd43 ct43) ["self", "drift"] ds := F43.binds1 (ps := ["self", "drift"]) 1 0 (by simp) rfl (fun T kV dc pm an cdv ct us its hu hi => match us, hu, its, hi with | [_], _, [_], _ => ⟨_, rfl, rfl⟩)
  have F44 := fun_mk (st := s_Clock_bounds) l44 c44 k44
  have b44 := F44.binds (ps := ["self"]) fun _ _ _ _ _ _ us hl => match us, hl with | [_], _ => rfl
  have F45 := fun_mk (st := s_l_begun) l45 c45 k45
  have b45 := F45.binds (ps := ["_law_script", "_law_k"]) fun _ _ _ _ _ _ us hl => match us, hl with | [_, _], _ => rfl
  have F46 := fun_mk (st := s_l_take) l46 c46 k46
  have b46 := F46.binds (ps := ["_law_state", "_law_many"]) fun _ _ _ _ _ _ us hl => match us, hl with | [_, _], _ => rfl
  have F47 := fun_mk (st := s_l_group) l47 c47 k47
  have b47 := F47.binds (ps := ["_law_many"]) fun _ _ _ _ _ _ us hl => match us, hl with | [_], _ => rfl
  have F48 := fun_mk (st := s_l_bounds) l48 c48 k48
  have b48 := F48.binds (ps := ["_law_group_here", "_law_spot"]) fun _ _ _ _ _ _ us hl => match us, hl with | [_, _], _ => rfl
  have F49 := fun_mk (st := s_l_heads) l49 c49 k49
  have b49 := F49.binds (ps := ["_law_model", "_law_group_here"]) fun _ _ _ _ _ _ us hl => match us, hl with | [_, _], _ => rfl
  have F50 := fun_mk (st := s_l_is_free) l50 c50 k50
  have b50 := F50.binds (ps := ["_law_model", "_law_group_here", "_law_spot"]) fun _ _ _ _ _ _ us hl => match us, hl with | [_, _, _], _ => rfl
  have F51 := fun_mk (st := s_l_choose) l51 c51 k51
  have b51 := F51.binds (ps := ["_law_model", "_law_group_here", "_law_spot", "_law_span"]) fun _ _ _ _ _ _ us hl => match us, hl with | [_, _, _, _], _ => rfl
  have F52 := fun_mk (st := s_l_renewed) l52 c52 k52
  have b52 := F52.binds (ps := ["_law_model", "_law_group_here", "_law_span"]) fun _ _ _ _ _ _ us hl => match us, hl with | [_, _, _], _ => rfl
  have F53 := fun_mk (st := s_l_written) l53 c53 k53
  have b53 := F53.binds (ps := ["_law_model", "_law_group_here", "_law_entry"]) fun _ _ _ _ _ _ us hl => match us, hl with | [_, _, _], _ => rfl
  have F54 := fun_mk (st := s_l_stands) l54 c54 k54
  have b54 := F54.binds (ps := ["_law_model", "_law_group_here"]) fun _ _ _ _ _ _ us hl => match us, hl with | [_, _], _ => rfl
  have F55 := fun_mk (st := s_l_tick) l55 c55 k55
  have b55 := F55.binds (ps := ["_law_state", "_law_group_here", "_law_now", "_law_rests"]) fun _ _ _ _ _ _ us hl => match us, hl with | [_, _, _, _], _ => rfl
  have F56 := fun_mk (st := s_l_begin_clocks) l56 c56 k56
  have b56 := F56.binds (ps := ["_law_state", "_law_group_here"]) fun _ _ _ _ _ _ us hl => match us, hl with | [_, _], _ => rfl
  have F57 := fun_mk (st := s_l_copied) l57 c57 k57
  have b57 := F57.binds (ps := ["_law_model"]) fun _ _ _ _ _ _ us hl => match us, hl with | [_], _ => rfl
  have F58 := fun_mk (st := s_l_said) l58 c58 k58
  have b58 := F58.binds (ps := ["_law_group_here", "_law_way", "_law_thing"]) fun _ _ _ _ _ _ us hl => match us, hl with | [_, _, _], _ => rfl
  have F59 := fun_mk (st := s_l_deed) l59 c59 k59
  have b59 := F59.binds (ps := ["_law_state", "_law_model", "_law_group_here", "_law_number"]) fun _ _ _ _ _ _ us hl => match us, hl with | [_, _, _, _], _ => rfl
  have F60 := fun_mk (st := s_law) l60 c60 k60
  have b60 := F60.binds (ps := ["_law_script"]) fun _ _ _ _ _ _ us hl => match us, hl with | [_], _ => rfl
  have FI150 := fun_mk (st := s_INoHead) li150 cc150 kk150
  have bI150 := FI150.binds (ps := ["self", "house"]) fun _ _ _ _ _ _ us hl => match us, hl with | [_, _], _ => rfl
  let a : Nat → Addr := fun i => match i with | 0 => f0 | 1 => f1 | 2 => f2 | 3 => f3 | 4 => f4 | 5 => f5 | 6 => f6 | 7 => f7 | 8 => f8 | 9 => f9 | 10 => f10 | 11 => f11 | 12 => f12 | 13 => f13 | 14 => f14 | 15 => f15 | 16 => f16 | 17 => f17 | 18 => f18 | 19 => f19 | 20 => f20 | 21 => f21 | 22 => f22 | 23 => f23 | 24 => f24 | 25 => f25 | 26 => f26 | 27 => f27 | 28 => f28 | 29 => f29 | 30 => f30 | 31 => f31 | 32 => f32 | 33 => f33 | 34 => f34 | 35 => f35 | 36 => f36 | 37 => f37 | 38 => f38 | 39 => f39 | 40 => f40 | 41 => f41 | 42 => f42 | 43 => f43 | 44 => f44 | 45 => f45 | 46 => f46 | 47 => f47 | 48 => f48 | 49 => f49 | 50 => f50 | 51 => f51 | 52 => f52 | 53 => f53 | 54 => f54 | 55 => f55 | 56 => f56 | 57 => f57 | 58 => f58 | 59 => f59 | 60 => fa | 100 => e100 | 150 => i150 | 61 => fC | 62 => fC_Clock | 63 => f63 | 65 => f65 | _ => 0
  let d : Nat → FuncData := fun i => match i with | 0 => (PySem.W.fnOf "is_whole" "is_whole" (defArgs s_is_whole) (defBody s_is_whole) (defScope s_is_whole) .none kV0 dc0 pm0 an0 cd0 ct0) | 1 => (PySem.W.fnOf "is_count" "is_count" (defArgs s_is_count) (defBody s_is_count) (defScope s_is_count) .none kV1 dc1 pm1 an1 cd1 ct1) | 2 => (PySem.W.fnOf "is_from_to" "is_from_to" (defArgs s_is_from_to) (defBody s_is_from_to) (defScope s_is_from_to) .none kV2 dc2 pm2 an2 cd2 ct2) | 3 => (PySem.W.fnOf "common_divisor" "common_divisor" (defArgs s_common_divisor) (defBody s_common_divisor) (defScope s_common_divisor) .none kV3 dc3 pm3 an3 cd3 ct3) | 4 => (PySem.W.fnOf "is_share" "is_share" (defArgs s_is_share) (defBody s_is_share) (defScope s_is_share) .none kV4 dc4 pm4 an4 cd4 ct4) | 5 => (PySem.W.fnOf "is_drift" "is_drift" (defArgs s_is_drift) (defBody s_is_drift) (defScope s_is_drift) .none kV5 dc5 pm5 an5 cd5 ct5) | 6 => (PySem.W.fnOf "refuse_no_count" "refuse_no_count" (defArgs s_refuse_no_count) (defBody s_refuse_no_count) (defScope s_refuse_no_count) .none kV6 dc6 pm6 an6 cd6 ct6) | 7 => (PySem.W.fnOf "least_of" "least_of" (defArgs s_least_of) (defBody s_least_of) (defScope s_least_of) .none kV7 dc7 pm7 an7 cd7 ct7) | 8 => (PySem.W.fnOf "most_of" "most_of" (defArgs s_most_of) (defBody s_most_of) (defScope s_most_of) .none kV8 dc8 pm8 an8 cd8 ct8) | 9 => (PySem.W.fnOf "bounds_behind" "bounds_behind" (defArgs s_bounds_behind) (defBody s_bounds_behind) (defScope s_bounds_behind) .none kV9 dc9 pm9 an9 cd9 ct9) | 10 => (PySem.W.fnOf "set_between" "set_between" (defArgs s_set_between) (defBody s_set_between) (defScope s_set_between) .none kV10 dc10 pm10 an10 cd10 ct10) | 11 => (PySem.W.fnOf "changed_at" "changed_at" (defArgs s_changed_at) (defBody s_changed_at) (defScope s_changed_at) .none kV11 dc11 pm11 an11 cd11 ct11) | 12 => (PySem.W.fnOf "refuse_no_copy" "Copies.refuse_no_copy" (defArgs s_Copies_refuse_no_copy) (defBody s_Copies_refuse_no_copy) (defScope s_Copies_refuse_no_copy) .none kV12 dc12 pm12 an12 cd12 ct12) | 13 => (PySem.W.fnOf "back" "Copies.back" (defArgs s_Copies_back) (defBody s_Copies_back) (defScope s_Copies_back) .none kV13 dc13 pm13 an13 cd13 ct13) | 14 => (PySem.W.fnOf "stop" "Copies.stop" (defArgs s_Copies_stop) (defBody s_Copies_stop) (defScope s_Copies_stop) .none kV14 dc14 pm14 an14 cd14 ct14) | 15 => (PySem.W.fnOf "tell_bounds" "Copies.tell_bounds" (defArgs s_Copies_tell_bounds) (defBody s_Copies_tell_bounds) (defScope s_Copies_tell_bounds) .none kV15 dc15 pm15 an15 cd15 ct15) | 16 => (PySem.W.fnOf "tick_clock" "Copies.tick_clock" (defArgs s_Copies_tick_clock) (defBody s_Copies_tick_clock) (defScope s_Copies_tick_clock) (.ref T16) kV16 dc16 pm16 an16 cd16 ct16) | 17 => (PySem.W.fnOf "is_most" "Copies.is_most" (defArgs s_Copies_is_most) (defBody s_Copies_is_most) (defScope s_Copies_is_most) .none kV17 dc17 pm17 an17 cd17 ct17) | 18 => (PySem.W.fnOf "till_of" "Copies.till_of" (defArgs s_Copies_till_of) (defBody s_Copies_till_of) (defScope s_Copies_till_of) .none kV18 dc18 pm18 an18 cd18 ct18) | 19 => (PySem.W.fnOf "can_promise" "Copies.can_promise" (defArgs s_Copies_can_promise) (defBody s_Copies_can_promise) (defScope s_Copies_can_promise) .none kV19 dc19 pm19 an19 cd19 ct19) | 20 => (PySem.W.fnOf "may_rule" "Copies.may_rule" (defArgs s_Copies_may_rule) (defBody s_Copies_may_rule) (defScope s_Copies_may_rule) .none kV20 dc20 pm20 an20 cd20 ct20) | 21 => (PySem.W.fnOf "__len__" "Copies.__len__" (defArgs s_Copies___len__) (defBody s_Copies___len__) (defScope s_Copies___len__) .none kV21 dc21 pm21 an21 cd21 ct21) | 22 => (PySem.W.fnOf "set_clock" "Copies.set_clock" (defArgs s_Copies_set_clock) (defBody s_Copies_set_clock) (defScope s_Copies_set_clock) .none kV22 dc22 pm22 an22 cd22 ct22) | 23 => (PySem.W.fnOf "heads" "Copies.heads" (defArgs s_Copies_heads) (defBody s_Copies_heads) (defScope s_Copies_heads) .none kV23 dc23 pm23 an23 cd23 ct23) | 24 => (PySem.W.fnOf "head" "Copies.head" (defArgs s_Copies_head) (defBody s_Copies_head) (defScope s_Copies_head) .none kV24 dc24 pm24 an24 cd24 ct24) | 25 => (PySem.W.fnOf "writers" "Copies.writers" (defArgs s_Copies_writers) (defBody s_Copies_writers) (defScope s_Copies_writers) .none kV25 dc25 pm25 an25 cd25 ct25) | 26 => (PySem.W.fnOf "can_write" "Copies.can_write" (defArgs s_Copies_can_write) (defBody s_Copies_can_write) (defScope s_Copies_can_write) .none kV26 dc26 pm26 an26 cd26 ct26) | 27 => (PySem.W.fnOf "need_head" "Copies.need_head" (defArgs s_Copies_need_head) (defBody s_Copies_need_head) (defScope s_Copies_need_head) .none kV27 dc27 pm27 an27 cd27 ct27) | 28 => (PySem.W.fnOf "greatest_promise" "Copies.greatest_promise" (defArgs s_Copies_greatest_promise) (defBody s_Copies_greatest_promise) (defScope s_Copies_greatest_promise) .none kV28 dc28 pm28 an28 cd28 ct28) | 29 => (PySem.W.fnOf "promise" "Copies.promise" (defArgs s_Copies_promise) (defBody s_Copies_promise) (defScope s_Copies_promise) .none kV29 dc29 pm29 an29 cd29 ct29) | 30 => (PySem.W.fnOf "choose" "Copies.choose" (defArgs s_Copies_choose) (defBody s_Copies_choose) (defScope s_Copies_choose) .none kV30 dc30 pm30 an30 cd30 ct30) | 31 => (PySem.W.fnOf "is_fixed" "is_fixed" (defArgs s_is_fixed) (defBody s_is_fixed) (defScope s_is_fixed) .none kV31 dc31 pm31 an31 cd31 ct31) | 32 => (PySem.W.fnOf "write" "Copies.write" (defArgs s_Copies_write) (defBody s_Copies_write) (defScope s_Copies_write) .none kV32 dc32 pm32 an32 cd32 ct32) | 33 => (PySem.W.fnOf "book" "Copies.book" (defArgs s_Copies_book) (defBody s_Copies_book) (defScope s_Copies_book) (.ref T33) kV33 dc33 pm33 an33 cd33 ct33) | 34 => (PySem.W.fnOf "__init__" "Copies.__init__" (defArgs s_Copies___init__) (defBody s_Copies___init__) (defScope s_Copies___init__) (.ref T34) kV34 dc34 pm34 an34 cd34 ct34) | 35 => (PySem.W.fnOf "may_renew" "Copies.may_renew" (defArgs s_Copies_may_renew) (defBody s_Copies_may_renew) (defScope s_Copies_may_renew) .none kV35 dc35 pm35 an35 cd35 ct35) | 36 => (PySem.W.fnOf "renew" "Copies.renew" (defArgs s_Copies_renew) (defBody s_Copies_renew) (defScope s_Copies_renew) .none kV36 dc36 pm36 an36 cd36 ct36) | 37 => (PySem.W.fnOf "is_up" "Copies.is_up" (defArgs s_Copies_is_up) (defBody s_Copies_is_up) (defScope s_Copies_is_up) .none kV37 dc37 pm37 an37 cd37 ct37) | 38 => (PySem.W.fnOf "reign" "Copies.reign" (defArgs s_Copies_reign) (defBody s_Copies_reign) (defScope s_Copies_reign) .none kV38 dc38 pm38 an38 cd38 ct38) | 39 => (PySem.W.fnOf "clock" "Copies.clock" (defArgs s_Copies_clock) (defBody s_Copies_clock) (defScope s_Copies_clock) .none kV39 dc39 pm39 an39 cd39 ct39) | 40 => (PySem.W.fnOf "parts" "Copies.parts" (defArgs s_Copies_parts) (defBody s_Copies_parts) (defScope s_Copies_parts) .none kV40 dc40 pm40 an40 cd40 ct40) | 41 => (PySem.W.fnOf "put_parts" "Copies.put_parts" (defArgs s_Copies_put_parts) (defBody s_Copies_put_parts) (defScope s_Copies_put_parts) .none kV41 dc41 pm41 an41 cd41 ct41) | 42 => (PySem.W.fnOf "twin" "Copies.twin" (defArgs s_Copies_twin) (defBody s_Copies_twin) (defScope s_Copies_twin) .none kV42 dc42 pm42 an42 cd42 ct42) | 43 => (PySem.W.fnOf "__init__" "Clock.__init__" (defArgs s_Clock___init__) (defBody s_Clock___init__) (defScope s_Clock___init__) (.ref T43) kV43 dc43 pm43 an43 cd43 ct43) | 44 => (PySem.W.fnOf "bounds" "Clock.bounds" (defArgs s_Clock_bounds) (defBody s_Clock_bounds) (defScope s_Clock_bounds) .none kV44 dc44 pm44 an44 cd44 ct44) | 45 => (PySem.W.fnOf "_law_begun" "_law_begun" (defArgs s_l_begun) (defBody s_l_begun) (defScope s_l_begun) .none kV45 dc45 pm45 an45 cd45 ct45) | 46 => (PySem.W.fnOf "_law_take" "_law_take" (defArgs s_l_take) (defBody s_l_take) (defScope s_l_take) .none kV46 dc46 pm46 an46 cd46 ct46) | 47 => (PySem.W.fnOf "_law_group" "_law_group" (defArgs s_l_group) (defBody s_l_group) (defScope s_l_group) .none kV47 dc47 pm47 an47 cd47 ct47) | 48 => (PySem.W.fnOf "_law_bounds" "_law_bounds" (defArgs s_l_bounds) (defBody s_l_bounds) (defScope s_l_bounds) .none kV48 dc48 pm48 an48 cd48 ct48) | 49 => (PySem.W.fnOf "_law_heads" "_law_heads" (defArgs s_l_heads) (defBody s_l_heads) (defScope s_l_heads) .none kV49 dc49 pm49 an49 cd49 ct49) | 50 => (PySem.W.fnOf "_law_is_free" "_law_is_free" (defArgs s_l_is_free) (defBody s_l_is_free) (defScope s_l_is_free) .none kV50 dc50 pm50 an50 cd50 ct50) | 51 => (PySem.W.fnOf "_law_choose" "_law_choose" (defArgs s_l_choose) (defBody s_l_choose) (defScope s_l_choose) .none kV51 dc51 pm51 an51 cd51 ct51) | 52 => (PySem.W.fnOf "_law_renewed" "_law_renewed" (defArgs s_l_renewed) (defBody s_l_renewed) (defScope s_l_renewed) .none kV52 dc52 pm52 an52 cd52 ct52) | 53 => (PySem.W.fnOf "_law_written" "_law_written" (defArgs s_l_written) (defBody s_l_written) (defScope s_l_written) .none kV53 dc53 pm53 an53 cd53 ct53) | 54 => (PySem.W.fnOf "_law_stands" "_law_stands" (defArgs s_l_stands) (defBody s_l_stands) (defScope s_l_stands) .none kV54 dc54 pm54 an54 cd54 ct54) | 55 => (PySem.W.fnOf "_law_tick" "_law_tick" (defArgs s_l_tick) (defBody s_l_tick) (defScope s_l_tick) .none kV55 dc55 pm55 an55 cd55 ct55) | 56 => (PySem.W.fnOf "_law_begin_clocks" "_law_begin_clocks" (defArgs s_l_begin_clocks) (defBody s_l_begin_clocks) (defScope s_l_begin_clocks) .none kV56 dc56 pm56 an56 cd56 ct56) | 57 => (PySem.W.fnOf "_law_copied" "_law_copied" (defArgs s_l_copied) (defBody s_l_copied) (defScope s_l_copied) .none kV57 dc57 pm57 an57 cd57 ct57) | 58 => (PySem.W.fnOf "_law_said" "_law_said" (defArgs s_l_said) (defBody s_l_said) (defScope s_l_said) .none kV58 dc58 pm58 an58 cd58 ct58) | 59 => (PySem.W.fnOf "_law_deed" "_law_deed" (defArgs s_l_deed) (defBody s_l_deed) (defScope s_l_deed) .none kV59 dc59 pm59 an59 cd59 ct59) | 60 => (PySem.W.fnOf "law" "law" (defArgs s_law) (defBody s_law) (defScope s_law) .none kV60 dc60 pm60 an60 cd60 ct60) | 150 => (PySem.W.fnOf "__init__" "NoHead.__init__" (defArgs s_INoHead) (defBody s_INoHead) (defScope s_INoHead) .none kV150 dc150 pm150 an150 cd150 ct150) | _ => (PySem.W.fnOf "law" "law" (defArgs s_law) (defBody s_law) (defScope s_law) .none kV60 dc60 pm60 an60 cd60 ct60)
  have T : Txt K mg a d := ⟨PySem.W.mg_of X G a0, F0, b0, PySem.W.mg_of X G a1, F1, b1, PySem.W.mg_of X G a2, F2, b2, PySem.W.mg_of X G a3, F3, b3, PySem.W.mg_of X G a4, F4, b4, PySem.W.mg_of X G a5, F5, b5, PySem.W.mg_of X G a6, F6, b6, PySem.W.mg_of X G a7, F7, b7, PySem.W.mg_of X G a8, F8, b8, PySem.W.mg_of X G a9, F9, b9, PySem.W.mg_of X G a10, F10, b10, PySem.W.mg_of X G a11, F11, b11, F12, b12, ⟨a12, i12, k12⟩, F13, b13, ⟨a13, i13, k13⟩, F14, b14, ⟨a14, i14, k14⟩, F15, b15, ⟨a15, i15, k15⟩, F16, c'16, b16, ⟨a16, i16, k16⟩, F17, b17, ⟨a17, i17, k17⟩, F18, b18, ⟨a18, i18, k18⟩, F19, b19, ⟨a19, i19, k19⟩, F20, b20, ⟨a20, i20, k20⟩, F21, b21, ⟨a21, i21, k21⟩, F22, b22, ⟨a22, i22, k22⟩, F23, b23, ⟨a23, i23, k23⟩, F24, b24, ⟨a24, i24, k24⟩, F25, b25, ⟨a25, i25, k25⟩, F26, b26, ⟨a26, i26, k26⟩, F27, b27, ⟨a27, i27, k27⟩, F28, b28, ⟨a28, i28, k28⟩, F29, b29, ⟨a29, i29, k29⟩, F30, b30, ⟨a30, i30, k30⟩, PySem.W.mg_of X G a31, F31, b31, F32, b32, ⟨a32, i32, k32⟩, F33, c'33, b33, ⟨a33, i33, k33⟩, F34, k'34, ⟨mk, a34, i34, kc⟩, F35, b35, ⟨a35, i35, k35⟩, F36, b36, ⟨a36, i36, k36⟩, F37, b37, ⟨a37, i37, k37⟩, F38, b38, ⟨a38, i38, k38⟩, F39, b39, ⟨a39, i39, k39⟩, F40, b40, ⟨a40, i40, k40⟩, F41, b41, ⟨a41, i41, k41⟩, F42, b42, ⟨a42, i42, k42⟩, F43, c'43, b43, ⟨mk_Clock, a43, i43, kc_Clock⟩, F44, b44, ⟨a44, i44, k44⟩, PySem.W.mg_of X G a45, F45, b45, PySem.W.mg_of X G a46, F46, b46, PySem.W.mg_of X G a47, F47, b47, PySem.W.mg_of X G a48, F48, b48, PySem.W.mg_of X G a49, F49, b49, PySem.W.mg_of X G a50, F50, b50, PySem.W.mg_of X G a51, F51, b51, PySem.W.mg_of X G a52, F52, b52, PySem.W.mg_of X G a53, F53, b53, PySem.W.mg_of X G a54, F54, b54, PySem.W.mg_of X G a55, F55, b55, PySem.W.mg_of X G a56, F56, b56, PySem.W.mg_of X G a57, F57, b57, PySem.W.mg_of X G a58, F58, b58, PySem.W.mg_of X G a59, F59, b59, PySem.W.mg_of X G a60, F60, b60, PySem.W.mg_of X G aC, ⟨pg, hd, po, sa⟩, nf_most_drift, nf_lease, nf_ups, nf_has, nf_stands, nf_counts, nf_spans, nf_promises, nf_promised_in, nf_rules_till, nf_entries, nf_lent, nf_loose, nf_reigns, nf_chosen, PySem.W.mg_of X G aC_Clock, ⟨pg_Clock, hd_Clock, po_Clock, sa_Clock⟩, nf_Clock_most_drift, nf_Clock_stands, nf_Clock_counted, PySem.W.mg_of X G g63, fun H => .inr ⟨_, _, _, l63, rfl, rfl, (by show 2 ≤ sizeLine; decide), (.cons ⟨_, rfl⟩ (.cons ⟨_, rfl⟩ .nil))⟩, ⟨_, PySem.W.mg_of X G g64⟩, PySem.W.mg_of X G g65, fun H => .inr ⟨_, _, _, l65, rfl, rfl, (by show 2 ≤ sizeLine; decide), (.cons ⟨_, rfl⟩ (.cons ⟨_, rfl⟩ .nil))⟩, ⟨_, PySem.W.mg_of X G g66⟩, ⟨_, PySem.W.mg_of X G g67⟩, ⟨_, PySem.W.mg_of X G g68⟩, ⟨_, PySem.W.mg_of X G g69⟩, PySem.W.mg_none_of X G z_max, PySem.W.mg_none_of X G z_min, PySem.W.mg_none_of X G z_len, PySem.W.mg_none_of X G z_int, PySem.W.mg_none_of X G z_range, PySem.W.mg_none_of X G z_isinstance, PySem.W.mg_none_of X G z_bool, PySem.W.mg_none_of X G z_tuple, PySem.W.mg_none_of X G z_list, PySem.W.mg_none_of X G z_dict, PySem.W.mg_none_of X G z_enumerate, PySem.W.mg_none_of X G z_repr, (PySem.W.mg_of X G aE100), (⟨XB.runtimeError, ⟨nm100, q100, N100, bs100, sn100, sub100, ab100, col100, dd100, x0100, x1100, x2100, x3100, x5100, x100⟩, sa100, xb100, ty100, kp100⟩), (in100), (n0_100), (⟨ga100, gg100, xb100, hd100⟩), (⟨ga100, gg100, xb100, hd100, jc100, j2, j3, jm100⟩), (ti150), (FI150), (bI150), (exm_of tb100 tc100 tt100 su0)⟩
  exact ⟨(PySem.W.fnOf "law" "law" (defArgs s_law) (defBody s_law) (defScope s_law) .none kV60 dc60 pm60 an60 cd60 ct60), fun s v => .of_eq rfl, fun base _ _ => ok_law T⟩
theorem walk {l : PySem.W.OpenLaw} {q : Program} {loose : List Str} {XP : (Str → Option Value) → Heap → Prop} {YP : World → Heap → Prop} {d : DefRec} {K : Params → PySem.W.Frag} (hn : l.most = some 63) (hdf : d.params.defaults = [])
    (hY : ∀ (w : World) (h : Heap), YP w h → (K w.params).In h)
    (F : ∀ (w : World) (mg : Str → Option Value) (fa : Addr) (h : Heap), (K w.params).In h → h.Ns mainGlobals mg → mg d.name = some (.ref fa) →
      ∃ fd : FuncData, (∀ (s : Shared) (u : Value), BindsTo s fd ⟨[u], []⟩ [("_law_script", u)]) ∧ ∀ base : Heap, (K w.params).In base → base.Ns mainGlobals mg → FnG l.prog w (K w.params) mg base 12 fa fd ["_law_script"] (spLaw (K w.params))) :
    PySem.W.WalkO q loose XP YP l.row.toRowW d [] (fun f vs => PySem.call f vs) :=
  walkG (n := 63) (k := 12) (x := "_law_script") (sp := fun w => (spLaw (K w.params))) hn (by decide) hdf ⟨rfl, by decide, by decide⟩ hY F (fun _ _ a ns hl _ _ hS => ⟨a, ns, rfl, hS, hl, fun _ => rfl⟩)
end M

open PySem PySem.W PyProof.Rows in
set_option maxRecDepth 100000 in
set_option maxHeartbeats 0 in
theorem PySem.Challenge.cw_stampedwait_k29_copies_beside_twins_holds : PySem.Challenge.rw_stampedwait_k29_copies_beside_twins.Holds := by
  w_on; o_law; k_head; (case hw => w_witness2)
  k_fill
  refine M.walk (l := PySem.Challenge.rw_stampedwait_k29_copies_beside_twins) rfl rfl (fun w h Y => PySem.W.kIn_of Y) ?F
  case F =>
    intro w mg fa h KX G hmg
    refine' M.all_mk KX G hmg ?g63 ?l63 ?g64 ?g65 ?l65 ?g66 ?g67 ?g68 ?g69 ?aC ?pg ?hd ?po ?sa ?mk ?kc ?nf_most_drift ?nf_lease ?nf_ups ?nf_has ?nf_stands ?nf_counts ?nf_spans ?nf_promises ?nf_promised_in ?nf_rules_till ?nf_entries ?nf_lent ?nf_loose ?nf_reigns ?nf_chosen ?aC_Clock ?pg_Clock ?hd_Clock ?po_Clock ?sa_Clock ?mk_Clock ?kc_Clock ?nf_Clock_most_drift ?nf_Clock_stands ?nf_Clock_counted ?a0 ?l0 ?c0 ?k0 ?a1 ?l1 ?c1 ?k1 ?a2 ?l2 ?c2 ?k2 ?a3 ?l3 ?c3 ?k3 ?a4 ?l4 ?c4 ?k4 ?a5 ?l5 ?c5 ?k5 ?a6 ?l6 ?c6 ?k6 ?a7 ?l7 ?c7 ?k7 ?a8 ?l8 ?c8 ?k8 ?a9 ?l9 ?c9 ?k9 ?a10 ?l10 ?c10 ?k10 ?a11 ?l11 ?c11 ?k11 ?a12 ?i12 ?l12 ?c12 ?k12 ?a13 ?i13 ?l13 ?c13 ?k13 ?a14 ?i14 ?l14 ?c14 ?k14 ?a15 ?i15 ?l15 ?c15 ?k15 ?a16 ?i16 ?l16 ?c16 ?k16 ?lT16 ?a17 ?i17 ?l17 ?c17 ?k17 ?a18 ?i18 ?l18 ?c18 ?k18 ?a19 ?i19 ?l19 ?c19 ?k19 ?a20 ?i20 ?l20 ?c20 ?k20 ?a21 ?i21 ?l21 ?c21 ?k21 ?a22 ?i22 ?l22 ?c22 ?k22 ?a23 ?i23 ?l23 ?c23 ?k23 ?a24 ?i24 ?l24 ?c24 ?k24 ?a25 ?i25 ?l25 ?c25 ?k25 ?a26 ?i26 ?l26 ?c26 ?k26 ?a27 ?i27 ?l27 ?c27 ?k27 ?a28 ?i28 ?l28 ?c28 ?k28 ?a29 ?i29 ?l29 ?c29 ?k29 ?a30 ?i30 ?l30 ?c30 ?k30 ?a31 ?l31 ?c31 ?k31 ?a32 ?i32 ?l32 ?c32 ?k32 ?a33 ?i33 ?l33 ?c33 ?k33 ?lT33 ?a34 ?i34 ?l34 ?c34 ?k34 ?lT34 ?a35 ?i35 ?l35 ?c35 ?k35 ?a36 ?i36 ?l36 ?c36 ?k36 ?a37 ?i37 ?l37 ?c37 ?k37 ?a38 ?i38 ?l38 ?c38 ?k38 ?a39 ?i39 ?l39 ?c39 ?k39 ?a40 ?i40 ?l40 ?c40 ?k40 ?a41 ?i41 ?l41 ?c41 ?k41 ?a42 ?i42 ?l42 ?c42 ?k42 ?a43 ?i43 ?l43 ?c43 ?k43 ?lT43 ?a44 ?i44 ?l44 ?c44 ?k44 ?a45 ?l45 ?c45 ?k45 ?a46 ?l46 ?c46 ?k46 ?a47 ?l47 ?c47 ?k47 ?a48 ?l48 ?c48 ?k48 ?a49 ?l49 ?c49 ?k49 ?a50 ?l50 ?c50 ?k50 ?a51 ?l51 ?c51 ?k51 ?a52 ?l52 ?c52 ?k52 ?a53 ?l53 ?c53 ?k53 ?a54 ?l54 ?c54 ?k54 ?a55 ?l55 ?c55 ?k55 ?a56 ?l56 ?c56 ?k56 ?a57 ?l57 ?c57 ?k57 ?a58 ?l58 ?c58 ?k58 ?a59 ?l59 ?c59 ?k59 ?a60 ?l60 ?c60 ?k60 ?z_max ?z_min ?z_len ?z_int ?z_range ?z_isinstance ?z_bool ?z_tuple ?z_list ?z_dict ?z_enumerate ?z_repr ?aE100 ?tb100 ?tc100 ?tt100 ?ts100 ?j2 ?j3 ?x100 ?sa100 ?xb100 ?ty100 ?kp100 ?in100 ?ga100 ?gg100 ?hd100 ?jc100 ?jm100 ?n0_100 ?ti150 ?li150 ?cc150 ?kk150 ?su0
    (case g63 => k_is)
    (case l63 => k_is)
    (case g64 => k_is)
    (case g65 => k_is)
    (case l65 => k_is)
    (case g66 => k_is)
    (case g67 => k_is)
    (case g68 => k_is)
    (case g69 => k_is)
    (case aC => k_is)
    (case pg => k_is)
    (case hd => k_is)
    (case po => k_is)
    (case sa => k_is)
    (case mk => k_is)
    (case kc => k_is)
    (case nf_most_drift => k_is)
    (case nf_lease => k_is)
    (case nf_ups => k_is)
    (case nf_has => k_is)
    (case nf_stands => k_is)
    (case nf_counts => k_is)
    (case nf_spans => k_is)
    (case nf_promises => k_is)
    (case nf_promised_in => k_is)
    (case nf_rules_till => k_is)
    (case nf_entries => k_is)
    (case nf_lent => k_is)
    (case nf_loose => k_is)
    (case nf_reigns => k_is)
    (case nf_chosen => k_is)
    (case aC_Clock => k_is)
    (case pg_Clock => k_is)
    (case hd_Clock => k_is)
    (case po_Clock => k_is)
    (case sa_Clock => k_is)
    (case mk_Clock => k_is)
    (case kc_Clock => k_is)
    (case nf_Clock_most_drift => k_is)
    (case nf_Clock_stands => k_is)
    (case nf_Clock_counted => k_is)
    (case a0 => k_is)
    (case l0 => k_is)
    (case c0 => k_is)
    (case k0 => k_is)
    (case a1 => k_is)
    (case l1 => k_is)
    (case c1 => k_is)
    (case k1 => k_is)
    (case a2 => k_is)
    (case l2 => k_is)
    (case c2 => k_is)
    (case k2 => k_is)
    (case a3 => k_is)
    (case l3 => k_is)
    (case c3 => k_is)
    (case k3 => k_is)
    (case a4 => k_is)
    (case l4 => k_is)
    (case c4 => k_is)
    (case k4 => k_is)
    (case a5 => k_is)
    (case l5 => k_is)
    (case c5 => k_is)
    (case k5 => k_is)
    (case a6 => k_is)
    (case l6 => k_is)
    (case c6 => k_is)
    (case k6 => k_is)
    (case a7 => k_is)
    (case l7 => k_is)
    (case c7 => k_is)
    (case k7 => k_is)
    (case a8 => k_is)
    (case l8 => k_is)
    (case c8 => k_is)
    (case k8 => k_is)
    (case a9 => k_is)
    (case l9 => k_is)
    (case c9 => k_is)
    (case k9 => k_is)
    (case a10 => k_is)
    (case l10 => k_is)
    (case c10 => k_is)
    (case k10 => k_is)
    (case a11 => k_is)
    (case l11 => k_is)
    (case c11 => k_is)
    (case k11 => k_is)
    (case a12 => k_is)
    (case i12 => k_is)
    (case l12 => k_is)
    (case c12 => k_is)
    (case k12 => k_is)
    (case a13 => k_is)
    (case i13 => k_is)
    (case l13 => k_is)
    (case c13 => k_is)
    (case k13 => k_is)
    (case a14 => k_is)
    (case i14 => k_is)
    (case l14 => k_is)
    (case c14 => k_is)
    (case k14 => k_is)
    (case a15 => k_is)
    (case i15 => k_is)
    (case l15 => k_is)
    (case c15 => k_is)
    (case k15 => k_is)
    (case a16 => k_is)
    (case i16 => k_is)
    (case l16 => k_is)
    (case c16 => k_is)
    (case k16 => k_is)
    (case lT16 => k_is)
    (case a17 => k_is)
    (case i17 => k_is)
    (case l17 => k_is)
    (case c17 => k_is)
    (case k17 => k_is)
    (case a18 => k_is)
    (case i18 => k_is)
    (case l18 => k_is)
    (case c18 => k_is)
    (case k18 => k_is)
    (case a19 => k_is)
    (case i19 => k_is)
    (case l19 => k_is)
    (case c19 => k_is)
    (case k19 => k_is)
    (case a20 => k_is)
    (case i20 => k_is)
    (case l20 => k_is)
    (case c20 => k_is)
    (case k20 => k_is)
    (case a21 => k_is)
    (case i21 => k_is)
    (case l21 => k_is)
    (case c21 => k_is)
    (case k21 => k_is)
    (case a22 => k_is)
    (case i22 => k_is)
    (case l22 => k_is)
    (case c22 => k_is)
    (case k22 => k_is)
    (case a23 => k_is)
    (case i23 => k_is)
    (case l23 => k_is)
    (case c23 => k_is)
    (case k23 => k_is)
    (case a24 => k_is)
    (case i24 => k_is)
    (case l24 => k_is)
    (case c24 => k_is)
    (case k24 => k_is)
    (case a25 => k_is)
    (case i25 => k_is)
    (case l25 => k_is)
    (case c25 => k_is)
    (case k25 => k_is)
    (case a26 => k_is)
    (case i26 => k_is)
    (case l26 => k_is)
    (case c26 => k_is)
    (case k26 => k_is)
    (case a27 => k_is)
    (case i27 => k_is)
    (case l27 => k_is)
    (case c27 => k_is)
    (case k27 => k_is)
    (case a28 => k_is)
    (case i28 => k_is)
    (case l28 => k_is)
    (case c28 => k_is)
    (case k28 => k_is)
    (case a29 => k_is)
    (case i29 => k_is)
    (case l29 => k_is)
    (case c29 => k_is)
    (case k29 => k_is)
    (case a30 => k_is)
    (case i30 => k_is)
    (case l30 => k_is)
    (case c30 => k_is)
    (case k30 => k_is)
    (case a31 => k_is)
    (case l31 => k_is)
    (case c31 => k_is)
    (case k31 => k_is)
    (case a32 => k_is)
    (case i32 => k_is)
    (case l32 => k_is)
    (case c32 => k_is)
    (case k32 => k_is)
    (case a33 => k_is)
    (case i33 => k_is)
    (case l33 => k_is)
    (case c33 => k_is)
    (case k33 => k_is)
    (case lT33 => k_is)
    (case a34 => k_is)
    (case i34 => k_is)
    (case l34 => k_is)
    (case c34 => k_is)
    (case k34 => k_is)
    (case lT34 => k_is)
    (case a35 => k_is)
    (case i35 => k_is)
    (case l35 => k_is)
    (case c35 => k_is)
    (case k35 => k_is)
    (case a36 => k_is)
    (case i36 => k_is)
    (case l36 => k_is)
    (case c36 => k_is)
    (case k36 => k_is)
    (case a37 => k_is)
    (case i37 => k_is)
    (case l37 => k_is)
    (case c37 => k_is)
    (case k37 => k_is)
    (case a38 => k_is)
    (case i38 => k_is)
    (case l38 => k_is)
    (case c38 => k_is)
    (case k38 => k_is)
    (case a39 => k_is)
    (case i39 => k_is)
    (case l39 => k_is)
    (case c39 => k_is)
    (case k39 => k_is)
    (case a40 => k_is)
    (case i40 => k_is)
    (case l40 => k_is)
    (case c40 => k_is)
    (case k40 => k_is)
    (case a41 => k_is)
    (case i41 => k_is)
    (case l41 => k_is)
    (case c41 => k_is)
    (case k41 => k_is)
    (case a42 => k_is)
    (case i42 => k_is)
    (case l42 => k_is)
    (case c42 => k_is)
    (case k42 => k_is)
    (case a43 => k_is)
    (case i43 => k_is)
    (case l43 => k_is)
    (case c43 => k_is)
    (case k43 => k_is)
    (case lT43 => k_is)
    (case a44 => k_is)
    (case i44 => k_is)
    (case l44 => k_is)
    (case c44 => k_is)
    (case k44 => k_is)
    (case a45 => k_is)
    (case l45 => k_is)
    (case c45 => k_is)
    (case k45 => k_is)
    (case a46 => k_is)
    (case l46 => k_is)
    (case c46 => k_is)
    (case k46 => k_is)
    (case a47 => k_is)
    (case l47 => k_is)
    (case c47 => k_is)
    (case k47 => k_is)
    (case a48 => k_is)
    (case l48 => k_is)
    (case c48 => k_is)
    (case k48 => k_is)
    (case a49 => k_is)
    (case l49 => k_is)
    (case c49 => k_is)
    (case k49 => k_is)
    (case a50 => k_is)
    (case l50 => k_is)
    (case c50 => k_is)
    (case k50 => k_is)
    (case a51 => k_is)
    (case l51 => k_is)
    (case c51 => k_is)
    (case k51 => k_is)
    (case a52 => k_is)
    (case l52 => k_is)
    (case c52 => k_is)
    (case k52 => k_is)
    (case a53 => k_is)
    (case l53 => k_is)
    (case c53 => k_is)
    (case k53 => k_is)
    (case a54 => k_is)
    (case l54 => k_is)
    (case c54 => k_is)
    (case k54 => k_is)
    (case a55 => k_is)
    (case l55 => k_is)
    (case c55 => k_is)
    (case k55 => k_is)
    (case a56 => k_is)
    (case l56 => k_is)
    (case c56 => k_is)
    (case k56 => k_is)
    (case a57 => k_is)
    (case l57 => k_is)
    (case c57 => k_is)
    (case k57 => k_is)
    (case a58 => k_is)
    (case l58 => k_is)
    (case c58 => k_is)
    (case k58 => k_is)
    (case a59 => k_is)
    (case l59 => k_is)
    (case c59 => k_is)
    (case k59 => k_is)
    (case a60 => k_is)
    (case l60 => k_is)
    (case c60 => k_is)
    (case k60 => k_is)
    (case z_max => k_is)
    (case z_min => k_is)
    (case z_len => k_is)
    (case z_int => k_is)
    (case z_range => k_is)
    (case z_isinstance => k_is)
    (case z_bool => k_is)
    (case z_tuple => k_is)
    (case z_list => k_is)
    (case z_dict => k_is)
    (case z_enumerate => k_is)
    (case z_repr => k_is)
    (case aE100 => k_is)
    (case tb100 => k_is)
    (case tc100 => k_is)
    (case tt100 => k_is)
    (case ts100 => first | rfl | k_is)
    (case j2 => k_is)
    (case j3 => k_is)
    (case x100 => k_is)
    (case sa100 => k_is)
    (case xb100 => k_is)
    (case ty100 => k_is)
    (case kp100 => k_is)
    (case in100 => k_is)
    (case ga100 => k_is)
    (case gg100 => k_is)
    (case hd100 => k_is)
    (case jc100 => k_is)
    (case jm100 => k_is)
    (case n0_100 => k_is)
    (case ti150 => k_is)
    (case li150 => k_is)
    (case cc150 => k_is)
    (case kk150 => k_is)
    (case su0 => first | rfl | k_is)
