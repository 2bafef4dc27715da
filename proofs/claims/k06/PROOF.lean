import PyProof.Rows.All
import Wide.All
import OpenK.AllK
import Wide.FinOn
import HandS.ForMost
import HandS.Wide
import HandS.IsInst
import HandS.Defaults
import HandS.TupLe
import HandS.EndBits
import PyProof.ReprRoads
import PySem.Challenge.RW_stampedwait_k06_clocks_told
set_option Elab.async false
set_option linter.all false
set_option maxRecDepth 100000
set_option maxHeartbeats 4000000
namespace M
open PySem L2


section
open PySem PySem.Spec PyProof.Rows L2
variable {X : Cx} {ea eb ec ed : Expr} {ta tb tc td : TE} {pos : Pos}
/-- three comparisons in a row -/
def tChain3 (r r' r'' : R2) (ta tb tc td : TE) : TE := fun σ H Q => ta σ H fun x H1 => tb σ H1 fun y H2 => r x y H2 fun z H3 => ∃ k, z = .bl k ∧
  (if k = true then tc σ H3 fun u H4 => r' y u H4 fun z2 H5 => ∃ k2, z2 = .bl k2 ∧ (if k2 = true then td σ H5 fun v H6 => r'' u v H6 Q else Q (.bl false) H5) else Q (.bl false) H3)
theorem pt_chain3 {op op' op'' : CmpOp} {r r' r'' : R2} (ho : OpR X (compareOp op) r) (ho' : OpR X (compareOp op') r') (ho'' : OpR X (compareOp op'') r'') (ha : PE X ea ta) (hb : PE X eb tb) (hc : PE X ec tc) (hd : PE X ed td)
    (hm : lastMarks [op, op', op''] [eb, ec, ed] = false := by with_unfolding_all rfl) : PT X (.Compare ea [op, op', op''] [eb, ec, ed] pos) (tTest (tChain3 r r' r'' ta tb tc td)) := by
  refine ⟨fun pins s σ H Q I h => ?_⟩
  refine isTrue_chain (thn (ha.run pins s σ H _ I h) fun v s1 ⟨x, H1, I1, r1, q1⟩ => test_link (thn (hb.run pins s1 σ H1 _ I1 q1) fun u s2 ⟨y, H2, I2, r2, q2⟩ =>
    thn (ho pins s2 σ H2 x y v u _ I2 r1 r2 q2) fun d s3 ⟨z, H3, I3, r3, k, e, q3⟩ => ?_)) hm
  subst e
  cases r3
  refine wpAny_truthy_bool ?_
  cases k with
  | false =>
    obtain ⟨k', e', q'⟩ := q3
    cases e'
    exact ite_ff ⟨H3, I3, q'⟩
  | true =>
    refine ite_tt (test_link (thn (hc.run pins s3 σ H3 _ I3 q3) fun w' s4 ⟨z', H4, I4, r4, q4⟩ => thn (ho' pins s4 σ H4 y z' u w' _ I4 r2 r4 q4) fun d' s5 ⟨z2, H5, I5, r5, k2, e2, q5⟩ => ?_))
    subst e2
    cases r5
    refine wpAny_truthy_bool ?_
    cases k2 with
    | false =>
      obtain ⟨k', e', q'⟩ := q5
      cases e'
      exact ite_ff ⟨H5, I5, q'⟩
    | true =>
      refine ite_tt (test_last (thn (hd.run pins s5 σ H5 _ I5 q5) fun v' s6 ⟨z3, H6, I6, r6, q6⟩ => thn (ho'' pins s6 σ H6 z' z3 w' v' _ I6 r4 r6 q6) fun d'' s7 ⟨z4, H7, I7, r7, k3, e3, q7⟩ => ?_))
      subst e3
      cases r7
      exact wpAny_truthy_bool ⟨H7, I7, q7⟩
end

section
open PySem PySem.Spec PyProof.Rows L2
/-- the promise of a def that is only called where no object is being shown -/
structure FnG (P : Program) (w : World) (K : PySem.W.Frag) (mg : Str → Option Value) (base : Heap) (k : Nat) (f : Addr) (fd : FuncData) (ps : List Str) (sp : Sp) : Prop where
  size : ∀ vs H Q E, sp vs H Q E → vs.length = ps.length
  go : ∀ (A : Around) (outer : List Env) (s : Shared) (H : Hp) (us : List Value) (vs : List V) (Q : VK) (E : XK) (args : Args), A.guards = some [] → Room k A → Env0 P w K mg base A outer s H →
    BindsTo s fd args (ps.zip us) → Vals vs us → sp vs H Q E → codeAny (model P w) A (.call (.ref f) args) (CR CX0 outer P w H s Q E) s
theorem room66 {A : Around} {k : Nat} (hr : Room k A) : A.units + 66 < cLine := by
  have := hr.un
  omega
theorem guards_deeper (A : Around) (e : Env) : (A.deeper e).guards = A.guards := rfl
section
variable {P : Program} {w : World} {K : PySem.W.Frag} {mg : Str → Option Value} {base : Heap} {x qual : Str} {st : Stmt} {f : Addr} {fd : FuncData} {N ps : List Str} {k : Nat} {sp : Sp}
theorem fnG_mk (F : Fun K x qual st f fd) (S : FnScope N ps (defScope st)) (size : ∀ vs H Q E, sp vs H Q E → vs.length = ps.length)
    (body : ∀ (cdv : Value) (A : Around) (outer : List Env) (s : Shared) (H : Hp) (vs : List V) (Q : VK) (E : XK), (A.deeper (envOfC qual (defScope st) s.heap.objs.size f cdv)).guards = some [] →
      Room k (A.deeper (envOfC qual (defScope st) s.heap.objs.size f cdv)) → sp vs H Q E →
      ∃ t, PSs (cxOf CX0 P w K mg base N qual (defScope st) f cdv A outer s H E).nox (defBody st) t ∧ t { nx := fun _ H' => Q .non H', rt := Q } (start N vs) H) :
    FnG P w K mg base (k + 1) f fd ps sp := by
  obtain ⟨oc, od, kV, doc, pm, an, cdv, ct, osl, rfl, lk, hcd⟩ := F.ex
  refine ⟨size, ?_⟩
  intro A outer s H us vs Q E args gd hr e0 hb r hsp
  have old : ∀ b o, base.get? b = some o → s.heap.get? b = some o := fun b o z => (e0.bs b o z).1
  have kin := e0.mod.kin.keeps old
  have hkind : ∀ y ∈ ps.zip us, (defScope st).names.lookup y.1 = some .local ∨ ((defScope st).names.lookup y.1 = some .cell ∧ ((cellsFrom (s.heap.objs.size + 1) (defScope st).names []).lookup y.1).isSome = true) := by
    rintro ⟨n, v⟩ hy
    have := S.par n (List.of_mem_zip hy).1
    rcases this with z | z
    · exact .inl z
    · exact .inr ⟨z, PySem.W.cellsFrom_some _ _ _ (.inl z)⟩
  obtain ⟨t, ht, hq⟩ := body cdv A outer s H vs Q E gd (hr.deeper _) hsp
  refine codeAny_call_function hr.depth (kin _ _ lk) rfl S.co S.gen rfl (PySem.W.codeRec_of kin hcd) ?_
  refine hb _ _ _ _ (wpAny_newFunctionEnv_cells S.kind hkind ?_)
  rintro env rfl s1 y
  refine ⟨(e0.mod.nolimit.keeps old).keeps y.toInCall.keep, codeAny_func ?_⟩
  have I0 := inv_start (CX := CX0) (E := E) (cd := cdv) (f := f) (qual := qual) S hr.hd e0 (size _ _ _ _ hsp) r y
  refine wpAny_mono (ht.nox.run [] s1 _ H _ I0 hq) ?_ (fun _ _ z => z)
  intro fl s' hs
  cases fl with
  | ret u =>
    obtain ⟨v, σ', H', J, rv, z⟩ := hs
    exact ⟨v, H', J.os, J.bare, J.base, J.hok, rv, z⟩
  | next =>
    obtain ⟨σ', H', J, z⟩ := hs
    exact ⟨V.non, H', J.os, J.bare, J.base, J.hok, rfl, z⟩
  | brk => exact hs.elim fun _ h => h.elim fun _ h => h.2.elim
  | cont => exact hs.elim fun _ h => h.elim fun _ h => h.2.elim
end
section
variable {X : Cx} {k : Nat} {f : Addr} {fd : FuncData} {ps : List Str} {sp : Sp} {x : Str} {p pos : Pos} {e : Expr} {es : List Expr} {t : TA}
theorem pe_callG (F : FnG X.prog X.w X.K X.mg X.base k f fd ps sp) (gd : X.A.guards = some []) (hr : Room k X.A) (hg : Gl X x) (hm : X.mg x = some (.ref f)) (hk : PySem.W.keepIn X.K (.ref f) = true) (hb : Binds X.K fd ps [])
    (hx : Passes CX0 X E0) (ha : PA X (e :: es) t) (hdb : (x == ("__debug__" : Str)) = false := by decide) (he : starEach (e :: es) X.env = (false, eval e X.env) :: starEach es X.env := by rfl) (hpl : (backTo pos (starEach es X.env)).any (·.1) = false := by rfl) :
    PE X (.Call (.Name x p) (e :: es) [] pos) (tCall sp [] E0 t) := by
  constructor
  intro pins s σ H Q I h
  apply wpAny_Call_Name_kw
  refine ld_glob I hg hm ?_ hdb
  refine PySem.W.callWith_K (h₀ := X.base) I.ok.mod.kin hk (thn (ha.run pos pins s σ H _ I h) ?_) he hpl
  rintro us s1 ⟨vs, H1, I1, r, q⟩
  refine ⟨I1.kIn, ?_⟩
  rw [List.append_nil] at q
  have hl : us.length = ps.length := r.length.symm.trans (F.size _ _ _ _ q)
  have b := hb s1 us I1.kIn (by rw [List.append_nil]; exact hl)
  rw [List.append_nil] at b
  refine wpAny_call (codeAny_mono (F.go X.A X.stack s1 H1 us vs Q E0 ⟨us, []⟩ gd hr I1.env0 b r q) ?_)
  intro res s' hq
  cases res with
  | error e => exact hx pins σ H1 s1 e s' I1 hq
  | ok fl => cases fl <;> first | exact I1.after hq | exact False.elim hq
/-- repr of data -/
theorem call_reprD (gd : X.A.guards = some []) (hu : X.A.units + 66 < cLine) : CallR X (.builtin "repr") (fun xs H Q => ∃ (a : Addr) (d : PyData), xs = [.ref a] ∧ Dp X.K H (.ref a) d ∧ d.showable = true ∧ d.hasDict = false ∧ d.depth ≤ 64 ∧ d.shown.length ≤ sizeLine ∧ Q (.str d.shown) H) := by
  intro pins s σ H xs us Q I r h
  obtain ⟨a, d, rfl, hd, sh, nd, dp, sz, q⟩ := h
  cases r with
  | cons r1 r2 =>
    cases r2
    obtain ⟨as, rd⟩ := Dp.reads I d _ _ hd r1
    cases r1
    exact repr_of_reads' rd sh (fun z => by rw [nd] at z; cases z) gd (by omega) (fun _ _ z => z) (fun h' u tk z => ⟨.str d.shown, H, I.kept z, ⟨_, rfl⟩, q⟩) sz
end
/-- the law's call -/
theorem law_callG {P : Program} {w : World} {K : PySem.W.Frag} {mg mb : Str → Option Value} {k : Nat} {fa sa : Addr} {fd : FuncData} {x : Str} {sp : Sp} {s₁ : Shared} {vs : List Value} {ns : List Int}
    (KX : K.In s₁.heap) (hns : s₁.heap.Ns mainGlobals mg) (hb : s₁.heap.Ns builtinsNs mb) (hbb : ∀ x : Str, x ≠ "__name__" → mb x = bootBuiltins x) (hlim : s₁.heap.NoLimit) (hg : s₁.gens = #[])
    (ho : s₁.heap.get? sa = some { cls := .type "list", data := .seq vs.toArray }) (hi : IntsAre vs ns) (hl : ns.length ≤ sizeLine) (hr : Room k callerA)
    (F : ∀ base : Heap, K.In base → base.Ns mainGlobals mg → FnG P w K mg base k fa fd [x] sp) (hbind : ∀ (s : Shared) (u : Value), BindsTo s fd ⟨[u], []⟩ [(x, u)])
    (hsp : ∀ H : Hp, Only H → SqL K H sa (ns.map V.int) → sp [.ref sa] H (fun v _ => v = .bl true) fun _ _ _ => False) :
    codeAny (model P w) callerA (.call (.ref fa) ⟨[.ref sa], []⟩) (fun r s' => r = .ok (.ret (.bool true)) ∧ OldK s₁.heap s'.heap ∧ s'.os = s₁.os ∧ AllBare s'.gens) s₁ := by
  -- H tracks the script or nothing
  suffices main : ∀ H : Hp, Only H → SqL K H sa (ns.map V.int) → HOk P w H s₁.heap → (∀ b, H b ≠ none → b = sa) → (H sa ≠ none → K.lookup sa = none) →
      codeAny (model P w) callerA (.call (.ref fa) ⟨[.ref sa], []⟩) (fun r s' => r = .ok (.ret (.bool true)) ∧ OldK s₁.heap s'.heap ∧ s'.os = s₁.os ∧ AllBare s'.gens) s₁ by
    have rv := vals_ints hi
    cases hk : K.lookup sa with
    | none =>
      let H : Hp := fun b => if b = sa then some (.frz { cls := .type "list", data := .seq vs.toArray } (.lst (ns.map V.int))) else none
      have hH : H sa = some (.frz { cls := .type "list", data := .seq vs.toArray } (.lst (ns.map V.int))) := if_pos rfl
      have hN : ∀ b, b ≠ sa → H b = none := fun b z => if_neg z
      refine main H (fun b => ?_) (.inl (.inr ⟨_, hH⟩)) (fun b u z => ?_) (fun b z => ?_) fun _ => hk
      · by_cases c : b = sa
        · exact .inr ⟨_, _, by rw [c]; exact hH⟩
        · exact .inl (hN b c)
      · by_cases c : b = sa
        · subst c
          rw [hH] at z
          cases z
          exact ⟨ho, by rw [List.length_map]; exact hl, vs, _, rv, ho⟩
        · rw [hN b c] at z
          cases z
      · by_cases c : b = sa
        · exact c
        · exact absurd (hN b c) z
    | some o =>
      have z := KX sa o hk
      rw [ho] at z
      cases z
      exact main (fun _ => none) (fun _ => .inl rfl) (.inr ⟨_, vs.toArray, _, hk, rfl, rfl, rfl, by rw [List.size_toArray, hi.length]; exact hl, by simpa using rv⟩) (fun b u y => by cases y) (fun b y => absurd rfl y) fun y => absurd rfl y
  intro H hO hS hok hA hK
  have free : ∀ {b : Addr}, b ≠ sa → H b = none := fun {b} c => by
    cases z : H b with
    | none => rfl
    | some u => exact absurd (hA b (by rw [z]; simp)) c
  have dictFree : ∀ {b : Addr} {o : Obj} {es : Array DictEntry} {ep : Nat}, s₁.heap.get? b = some o → o.data = .dict es ep → H b = none := fun {b o es ep} e d => free fun c => by
    subst c
    rw [ho] at e
    cases e
    cases d
  have ns2 : ∀ {b : Addr} {m : Str → Option Value}, s₁.heap.Ns b m → (hidT s₁.heap H).Ns b m := by
    rintro b m ⟨o, es, ep, e, d, r⟩
    exact ⟨o, es, ep, hidT_get e (dictFree e d), d, r⟩
  have kin2 : K.In (hidT s₁.heap H) := by
    intro b o e
    refine hidT_get (KX b o e) ?_
    by_cases c : b = sa
    · subst c
      cases z : H b with
      | none => rfl
      | some u =>
        rw [hK (by rw [z]; simp)] at e
        cases e
    · exact free c
  have lim2 : (hidT s₁.heap H).NoLimit := by
    obtain ⟨mc, h1, h2⟩ := hlim
    exact ⟨mc, ns2 h1, h2⟩
  have env : Env0 P w K mg (hidT s₁.heap H) callerA [] s₁ H :=
    { frames := rfl, mod := ⟨kin2, ns2 hns, ⟨mb, ns2 hb, hbb⟩, lim2⟩, bs := fun b o e => of_hidT e, bsz := Nat.le_of_eq (hidT_size _ _), funs := trivial, frf := fun b z => by simp [frs] at z, hok := hok, bare := .of_eq hg }
  refine codeAny_mono ((F _ kin2 (ns2 hns)).go callerA [] s₁ H [.ref sa] [.ref sa] _ _ ⟨[.ref sa], []⟩ rfl hr env (hbind s₁ (.ref sa)) (.cons rfl .nil) (hsp H hO hS)) ?_
  intro res s' hres
  cases res with
  | error e => exact hres.elim
  | ok fl =>
    cases fl with
    | ret u =>
      obtain ⟨v, H', os, bare, un, hok', rv, qv⟩ := hres
      cases (show v = .bl true from qv)
      cases (show u = Value.bool true from rv)
      refine ⟨rfl, OldK.of_keep fun b o e => ?_, os, bare⟩
      rcases hO b with z | ⟨ob, xs, z⟩
      · exact un.keep b o e z (by simp [frs]) (by simp)
      · have z2 := un.frzs b ob _ z
        have e1 := (hok b _ z).1
        have e2 := (hok' b _ z2).1
        rw [e] at e1
        cases e1
        exact e2
    | next => exact hres.elim
    | brk => exact hres.elim
    | cont => exact hres.elim
theorem walkG {l : PySem.W.OpenLaw} {n k : Nat} {q : Program} {loose : List Str} {XP : (Str → Option Value) → Heap → Prop} {YP : World → Heap → Prop} {d : DefRec} {K : Params → PySem.W.Frag} {sp : World → Sp} {x : Str}
    (hn : l.most = some n) (hn2 : n ≤ sizeLine) (hdf : d.params.defaults = []) (hr : Room k callerA) (hY : ∀ (w : World) (h : Heap), YP w h → (K w.params).In h)
    (F : ∀ (w : World) (mg : Str → Option Value) (fa : Addr) (h : Heap), (K w.params).In h → h.Ns mainGlobals mg → mg d.name = some (.ref fa) →
      ∃ fd : FuncData, (∀ (s : Shared) (u : Value), BindsTo s fd ⟨[u], []⟩ [(x, u)]) ∧ ∀ base : Heap, (K w.params).In base → base.Ns mainGlobals mg → FnG l.prog w (K w.params) mg base k fa fd [x] (sp w))
    (hsp : ∀ (w : World) (H : Hp) (a : Addr) (ns : List Int), ns.length ≤ n → (∀ z ∈ ns, Builtin.Int.intBits z ≤ 1048576) → Only H → SqL (K w.params) H a (ns.map V.int) → sp w [.ref a] H (fun v _ => v = .bl true) fun _ _ _ => False) :
    PySem.W.WalkO q loose XP YP l.row.toRowW d [] (fun f vs => PySem.call f vs) := by
  apply Att.attach_callB hn hdf
  intro w s₀ s₁ mg mb fa o pm cd doc sa vs ns G Y ho hd hcd hmg hobj hints hlen hbits hg
  obtain ⟨fd, hb, hF⟩ := F w mg fa _ (hY w _ Y) G.T.g hmg
  exact law_callG (hY w _ Y) G.T.g G.T.b G.T.builtins G.T.nolimit hg hobj hints (Nat.le_trans hlen hn2) hr hF hb (fun H hO hS => hsp w H sa ns hlen hbits hO hS)
end

def top (i : Nat) : Stmt := PySem.Challenge.pw_stampedwait_k06_clocks_told.main.body.getD i (.Pass ⟨0, 0, 0, 0⟩)
abbrev s_is_whole : Stmt := top 10
abbrev s_is_count : Stmt := top 11
abbrev s_is_from_to : Stmt := top 12
abbrev s_common_divisor : Stmt := top 13
abbrev s_is_share : Stmt := top 14
abbrev s_is_drift : Stmt := top 15
abbrev s_refuse_no_count : Stmt := top 16
abbrev s_least_of : Stmt := top 17
abbrev s_most_of : Stmt := top 18
abbrev s_Clock___init__ : Stmt := inClass (top 23) 0
abbrev s_Clock_drift : Stmt := inClass (top 23) 1
abbrev s_Clock_is_set : Stmt := inClass (top 23) 2
abbrev s_Clock_set_to : Stmt := inClass (top 23) 3
abbrev s_Clock_tick : Stmt := inClass (top 23) 4
abbrev s_Clock_bounds : Stmt := inClass (top 23) 5
abbrev s_Clock_is_past : Stmt := inClass (top 23) 6
abbrev s_Clock_is_ahead : Stmt := inClass (top 23) 7
abbrev s_l_bag : Stmt := top 25
abbrev s_l_out : Stmt := top 26
abbrev s_l_drift : Stmt := top 27
abbrev s_l_is_least : Stmt := top 28
abbrev s_l_is_most : Stmt := top 29
abbrev s_l_sides_right : Stmt := top 30
abbrev s_l_right : Stmt := top 31
abbrev s_law : Stmt := top 32
abbrev s_bounds_behind : Stmt := top 21
abbrev s_set_between : Stmt := top 22
theorem sc_is_whole : FnScope ["thing"] ["thing"] (defScope s_is_whole) := ⟨rfl, rfl, rfl, by decide +kernel, rfl, by decide +kernel, by decide +kernel⟩
theorem sc_is_count : FnScope ["thing"] ["thing"] (defScope s_is_count) := ⟨rfl, rfl, rfl, by decide +kernel, rfl, by decide +kernel, by decide +kernel⟩
theorem sc_is_from_to : FnScope ["thing", "least", "most"] ["thing", "least", "most"] (defScope s_is_from_to) := ⟨rfl, rfl, rfl, by decide +kernel, rfl, by decide +kernel, by decide +kernel⟩
theorem sc_common_divisor : FnScope ["first", "second"] ["first", "second"] (defScope s_common_divisor) := ⟨rfl, rfl, rfl, by decide +kernel, rfl, by decide +kernel, by decide +kernel⟩
theorem sc_is_share : FnScope ["thing", "top", "bottom"] ["thing"] (defScope s_is_share) := ⟨rfl, rfl, rfl, by decide +kernel, rfl, by decide +kernel, by decide +kernel⟩
theorem sc_is_drift : FnScope ["thing"] ["thing"] (defScope s_is_drift) := ⟨rfl, rfl, rfl, by decide +kernel, rfl, by decide +kernel, by decide +kernel⟩
theorem sc_refuse_no_count : FnScope ["thing"] ["thing"] (defScope s_refuse_no_count) := ⟨rfl, rfl, rfl, by decide +kernel, rfl, by decide +kernel, by decide +kernel⟩
theorem sc_least_of : FnScope ["ticks", "drift", "top", "bottom"] ["ticks", "drift"] (defScope s_least_of) := ⟨rfl, rfl, rfl, by decide +kernel, rfl, by decide +kernel, by decide +kernel⟩
theorem sc_most_of : FnScope ["ticks", "drift", "top", "bottom"] ["ticks", "drift"] (defScope s_most_of) := ⟨rfl, rfl, rfl, by decide +kernel, rfl, by decide +kernel, by decide +kernel⟩
theorem sc_Clock___init__ : FnScope ["self", "drift"] ["self", "drift"] (defScope s_Clock___init__) := ⟨rfl, rfl, rfl, by decide +kernel, rfl, by decide +kernel, by decide +kernel⟩
theorem sc_Clock_drift : FnScope ["self"] ["self"] (defScope s_Clock_drift) := ⟨rfl, rfl, rfl, by decide +kernel, rfl, by decide +kernel, by decide +kernel⟩
theorem sc_Clock_is_set : FnScope ["self"] ["self"] (defScope s_Clock_is_set) := ⟨rfl, rfl, rfl, by decide +kernel, rfl, by decide +kernel, by decide +kernel⟩
theorem sc_Clock_set_to : FnScope ["self", "low", "high", "told"] ["self", "low", "high"] (defScope s_Clock_set_to) := ⟨rfl, rfl, rfl, by decide +kernel, rfl, by decide +kernel, by decide +kernel⟩
theorem sc_Clock_tick : FnScope ["self", "many"] ["self", "many"] (defScope s_Clock_tick) := ⟨rfl, rfl, rfl, by decide +kernel, rfl, by decide +kernel, by decide +kernel⟩
theorem sc_Clock_bounds : FnScope ["self"] ["self"] (defScope s_Clock_bounds) := ⟨rfl, rfl, rfl, by decide +kernel, rfl, by decide +kernel, by decide +kernel⟩
theorem sc_Clock_is_past : FnScope ["self", "time"] ["self", "time"] (defScope s_Clock_is_past) := ⟨rfl, rfl, rfl, by decide +kernel, rfl, by decide +kernel, by decide +kernel⟩
theorem sc_Clock_is_ahead : FnScope ["self", "time"] ["self", "time"] (defScope s_Clock_is_ahead) := ⟨rfl, rfl, rfl, by decide +kernel, rfl, by decide +kernel, by decide +kernel⟩
theorem sc_l_bag : FnScope ["_law_script", "_law_k", "_law_cell", "_law_great"] ["_law_script", "_law_k"] (defScope s_l_bag) := ⟨rfl, rfl, rfl, by decide +kernel, rfl, by decide +kernel, by decide +kernel⟩
theorem sc_l_out : FnScope ["_law_bag_here", "_law_many", "_law_found"] ["_law_bag_here", "_law_many"] (defScope s_l_out) := ⟨rfl, rfl, rfl, by decide +kernel, rfl, by decide +kernel, by decide +kernel⟩
theorem sc_l_drift : FnScope ["_law_bag_here", "_law_bottom", "_law_top", "_law_one", "_law_other"] ["_law_bag_here"] (defScope s_l_drift) := ⟨rfl, rfl, rfl, by decide +kernel, rfl, by decide +kernel, by decide +kernel⟩
theorem sc_l_is_least : FnScope ["_law_passed", "_law_count", "_law_drift_here", "_law_top", "_law_bottom"] ["_law_passed", "_law_count", "_law_drift_here"] (defScope s_l_is_least) := ⟨rfl, rfl, rfl, by decide +kernel, rfl, by decide +kernel, by decide +kernel⟩
theorem sc_l_is_most : FnScope ["_law_passed", "_law_count", "_law_drift_here", "_law_top", "_law_bottom"] ["_law_passed", "_law_count", "_law_drift_here"] (defScope s_l_is_most) := ⟨rfl, rfl, rfl, by decide +kernel, rfl, by decide +kernel, by decide +kernel⟩
theorem sc_l_sides_right : FnScope ["_law_clock", "_law_low", "_law_high", "_law_time"] ["_law_clock", "_law_low", "_law_high"] (defScope s_l_sides_right) := ⟨rfl, rfl, rfl, by decide +kernel, rfl, by decide +kernel, by decide +kernel⟩
theorem sc_l_right : FnScope ["_law_clock", "_law_low", "_law_high", "_law_count", "_law_drift_here", "_law_found"] ["_law_clock", "_law_low", "_law_high", "_law_count", "_law_drift_here"] (defScope s_l_right) := ⟨rfl, rfl, rfl, by decide +kernel, rfl, by decide +kernel, by decide +kernel⟩
theorem sc_law : FnScope ["_law_script", "_law_k", "_law_bag_here", "_law_drift_here", "_law_clock", "_law_low", "_law_high", "_law_count", "_law_turn", "_law_more"] ["_law_script"] (defScope s_law) := ⟨rfl, rfl, rfl, by decide +kernel, rfl, by decide +kernel, by decide +kernel⟩
theorem sc_bounds_behind : FnScope ["stands", "counted", "drift"] ["stands", "counted", "drift"] (defScope s_bounds_behind) := ⟨rfl, rfl, rfl, by decide +kernel, rfl, by decide +kernel, by decide +kernel⟩
theorem sc_set_between : FnScope ["told", "low", "high", "least", "most"] ["told", "low", "high"] (defScope s_set_between) := ⟨rfl, rfl, rfl, by decide +kernel, rfl, by decide +kernel, by decide +kernel⟩
/-- what the top has written -/
structure Txt (K : PySem.W.Frag) (mg : Str → Option Value) (a : Nat → Addr) (d : Nat → FuncData) : Prop where
  g_is_whole : mg "is_whole" = some (.ref (a 0))
  F_is_whole : Fun K "is_whole" "is_whole" s_is_whole (a 0) (d 0)
  b_is_whole : Binds K (d 0) ["thing"] []
  g_is_count : mg "is_count" = some (.ref (a 1))
  F_is_count : Fun K "is_count" "is_count" s_is_count (a 1) (d 1)
  b_is_count : Binds K (d 1) ["thing"] []
  g_is_from_to : mg "is_from_to" = some (.ref (a 2))
  F_is_from_to : Fun K "is_from_to" "is_from_to" s_is_from_to (a 2) (d 2)
  b_is_from_to : Binds K (d 2) ["thing", "least", "most"] []
  g_common_divisor : mg "common_divisor" = some (.ref (a 3))
  F_common_divisor : Fun K "common_divisor" "common_divisor" s_common_divisor (a 3) (d 3)
  b_common_divisor : Binds K (d 3) ["first", "second"] []
  g_is_share : mg "is_share" = some (.ref (a 4))
  F_is_share : Fun K "is_share" "is_share" s_is_share (a 4) (d 4)
  b_is_share : Binds K (d 4) ["thing"] []
  g_is_drift : mg "is_drift" = some (.ref (a 5))
  F_is_drift : Fun K "is_drift" "is_drift" s_is_drift (a 5) (d 5)
  b_is_drift : Binds K (d 5) ["thing"] []
  g_refuse_no_count : mg "refuse_no_count" = some (.ref (a 6))
  F_refuse_no_count : Fun K "refuse_no_count" "refuse_no_count" s_refuse_no_count (a 6) (d 6)
  b_refuse_no_count : Binds K (d 6) ["thing"] []
  g_least_of : mg "least_of" = some (.ref (a 7))
  F_least_of : Fun K "least_of" "least_of" s_least_of (a 7) (d 7)
  b_least_of : Binds K (d 7) ["ticks", "drift"] []
  g_most_of : mg "most_of" = some (.ref (a 8))
  F_most_of : Fun K "most_of" "most_of" s_most_of (a 8) (d 8)
  b_most_of : Binds K (d 8) ["ticks", "drift"] []
  F_Clock___init__ : FunD K "__init__" "Clock.__init__" (defArgs s_Clock___init__) (defBody s_Clock___init__) (defScope s_Clock___init__) [.ref (a 30)] [] (a 9) (d 9)
  c_Clock___init__ : ∃ ds, Vals [.ref (a 30)] ds ∧ Binds K (d 9) ["self", "drift"] ds
  b_Clock___init__ : Binds K (d 9) ["self", "drift"] []
  m_Clock___init__ : Mk K (a 27) (a 9)
  F_Clock_drift : Fun K "drift" "Clock.drift" s_Clock_drift (a 10) (d 10)
  b_Clock_drift : Binds K (d 10) ["self"] []
  m_Clock_drift : Meth K (a 27) "drift" (a 10)
  F_Clock_is_set : Fun K "is_set" "Clock.is_set" s_Clock_is_set (a 11) (d 11)
  b_Clock_is_set : Binds K (d 11) ["self"] []
  m_Clock_is_set : Meth K (a 27) "is_set" (a 11)
  F_Clock_set_to : Fun K "set_to" "Clock.set_to" s_Clock_set_to (a 12) (d 12)
  b_Clock_set_to : Binds K (d 12) ["self", "low", "high"] []
  m_Clock_set_to : Meth K (a 27) "set_to" (a 12)
  F_Clock_tick : FunD K "tick" "Clock.tick" (defArgs s_Clock_tick) (defBody s_Clock_tick) (defScope s_Clock_tick) [.int 1] [] (a 13) (d 13)
  c_Clock_tick : ∃ ds, Vals [.int 1] ds ∧ Binds K (d 13) ["self", "many"] ds
  b_Clock_tick : Binds K (d 13) ["self", "many"] []
  m_Clock_tick : Meth K (a 27) "tick" (a 13)
  F_Clock_bounds : Fun K "bounds" "Clock.bounds" s_Clock_bounds (a 14) (d 14)
  b_Clock_bounds : Binds K (d 14) ["self"] []
  m_Clock_bounds : Meth K (a 27) "bounds" (a 14)
  F_Clock_is_past : Fun K "is_past" "Clock.is_past" s_Clock_is_past (a 15) (d 15)
  b_Clock_is_past : Binds K (d 15) ["self", "time"] []
  m_Clock_is_past : Meth K (a 27) "is_past" (a 15)
  F_Clock_is_ahead : Fun K "is_ahead" "Clock.is_ahead" s_Clock_is_ahead (a 16) (d 16)
  b_Clock_is_ahead : Binds K (d 16) ["self", "time"] []
  m_Clock_is_ahead : Meth K (a 27) "is_ahead" (a 16)
  g_l_bag : mg "_law_bag" = some (.ref (a 17))
  F_l_bag : Fun K "_law_bag" "_law_bag" s_l_bag (a 17) (d 17)
  b_l_bag : Binds K (d 17) ["_law_script", "_law_k"] []
  g_l_out : mg "_law_out" = some (.ref (a 18))
  F_l_out : Fun K "_law_out" "_law_out" s_l_out (a 18) (d 18)
  b_l_out : Binds K (d 18) ["_law_bag_here", "_law_many"] []
  g_l_drift : mg "_law_drift" = some (.ref (a 19))
  F_l_drift : Fun K "_law_drift" "_law_drift" s_l_drift (a 19) (d 19)
  b_l_drift : Binds K (d 19) ["_law_bag_here"] []
  g_l_is_least : mg "_law_is_least" = some (.ref (a 20))
  F_l_is_least : Fun K "_law_is_least" "_law_is_least" s_l_is_least (a 20) (d 20)
  b_l_is_least : Binds K (d 20) ["_law_passed", "_law_count", "_law_drift_here"] []
  g_l_is_most : mg "_law_is_most" = some (.ref (a 21))
  F_l_is_most : Fun K "_law_is_most" "_law_is_most" s_l_is_most (a 21) (d 21)
  b_l_is_most : Binds K (d 21) ["_law_passed", "_law_count", "_law_drift_here"] []
  g_l_sides_right : mg "_law_sides_right" = some (.ref (a 22))
  F_l_sides_right : Fun K "_law_sides_right" "_law_sides_right" s_l_sides_right (a 22) (d 22)
  b_l_sides_right : Binds K (d 22) ["_law_clock", "_law_low", "_law_high"] []
  g_l_right : mg "_law_right" = some (.ref (a 23))
  F_l_right : Fun K "_law_right" "_law_right" s_l_right (a 23) (d 23)
  b_l_right : Binds K (d 23) ["_law_clock", "_law_low", "_law_high", "_law_count", "_law_drift_here"] []
  g_law : mg "law" = some (.ref (a 24))
  F_law : Fun K "law" "law" s_law (a 24) (d 24)
  b_law : Binds K (d 24) ["_law_script"] []
  g_bounds_behind : mg "bounds_behind" = some (.ref (a 25))
  F_bounds_behind : Fun K "bounds_behind" "bounds_behind" s_bounds_behind (a 25) (d 25)
  b_bounds_behind : Binds K (d 25) ["stands", "counted", "drift"] []
  g_set_between : mg "set_between" = some (.ref (a 26))
  F_set_between : Fun K "set_between" "set_between" s_set_between (a 26) (d 26)
  b_set_between : Binds K (d 26) ["told", "low", "high"] []
  g_Clock : mg "Clock" = some (.ref (a 27))
  cl : Cls K (a 27)
  n_most_drift : NoAttr K (a 27) "most_drift"
  n_stands : NoAttr K (a 27) "stands"
  n_counted : NoAttr K (a 27) "counted"
  g_WHOLE : mg "WHOLE" = some (.ref (a 28))
  k_WHOLE : ∀ H : Hp, SqT K H (a 28) [V.int 1, V.int 1]
  g_MOST_BOTTOM : ∃ t, mg "MOST_BOTTOM" = some (.int 1000 t)
  g_DRIFT : mg "DRIFT" = some (.ref (a 30))
  k_DRIFT : ∀ H : Hp, SqT K H (a 30) [V.int 1, V.int 100]
  z_max : mg "max" = none
  z_min : mg "min" = none
  z_len : mg "len" = none
  z_int : mg "int" = none
  z_range : mg "range" = none
  z_isinstance : mg "isinstance" = none
  z_bool : mg "bool" = none
  z_tuple : mg "tuple" = none
  z_all : mg "all" = none
  z_repr : mg "repr" = none

theorem bl_of {Q : VK} {H : Hp} {c : Prop} [Decidable c] (h : c) (q : Q (.bl true) H) : Q (.bl (decide c)) H := by
  rw [decide_eq_true h]
  exact q
theorem bl_no {Q : VK} {H : Hp} {c : Prop} [Decidable c] (h : ¬ c) (q : Q (.bl false) H) : Q (.bl (decide c)) H := by
  rw [decide_eq_false h]
  exact q
theorem iteDT {c A B : Prop} [Decidable c] (h : c) (a : A) : if decide c = true then A else B := by
  rw [if_pos (decide_eq_true h)]
  exact a
theorem iteDF {c A B : Prop} [Decidable c] (h : ¬ c) (b : B) : if decide c = true then A else B := by
  rw [decide_eq_false h]
  exact iteF b
theorem iteND {c A B : Prop} [Decidable c] (h : ¬ c) (a : A) : if (!decide c) = true then A else B := by
  rw [decide_eq_false h]
  exact iteT a
theorem iteBT {c : Bool} {A B : Prop} (h : c = true) (a : A) : if c = true then A else B := by
  rw [if_pos h]
  exact a
theorem iteBF {c : Bool} {A B : Prop} (h : c = false) (b : B) : if c = true then A else B := by
  rw [h]
  exact iteF b
theorem len3 : 3 ≤ sizeLine := by decide
theorem len2 : 2 ≤ sizeLine := by decide
theorem len1 : 1 ≤ sizeLine := by decide
theorem m64 {i : Int} (a : -18446744073709551616 < i) (b : i < 18446744073709551616) : -(2 ^ 64) < i ∧ i < 2 ^ 64 := by
  have e : (2 : Int) ^ 64 = 18446744073709551616 := by decide
  rw [e]
  exact ⟨a, b⟩
theorem divW {i j : Int} (h : 0 < j) (hb : j ≤ 1000000000000000000000000000000) : CDivW i j := wide_div (b := 200) h (by
  have e : (j.natAbs : Int) = j := by omega
  have q : (j.natAbs : Int) < ((2 ^ 200 : Nat) : Int) := by rw [e]; exact Int.lt_of_le_of_lt hb (by decide)
  exact Int.ofNat_lt.mp q) (by decide) (by decide)
/-! ### heaps -/
/-- all that was tracked but x stands -/
def Fr (x : Addr) (H H' : Hp) : Prop := ∀ b o, b ≠ x → H b = some o → H' b = some o
theorem Fr.refl (x : Addr) (H : Hp) : Fr x H H := fun _ _ _ e => e
theorem Fr.trans {x : Addr} {H H1 H2 : Hp} (a : Fr x H H1) (b : Fr x H1 H2) : Fr x H H2 := fun c o n e => b c o n (a c o n e)
theorem fr_same {x : Addr} {H H' : Hp} (s : Same H H') : Fr x H H' := fun b o _ e => s b o e
theorem Fr.new {x p : Addr} {H H1 : Hp} {o : HO} (k : Fr x H H1) (hp : H1 p = none) : Fr x H (upd H1 p o) := fun b u n e => by
  rw [upd_ne (ne_of_none (k b u n e) hp)]
  exact k b u n e
theorem Fr.put {x : Addr} {H H1 : Hp} {o : HO} (k : Fr x H H1) : Fr x H (upd H1 x o) := fun b u n e => by
  rw [upd_ne n]
  exact k b u n e
theorem Fr.over {x : Addr} {H0 H H1 : Hp} (a : Same H0 H) (hx : H0 x = none) (k : Fr x H H1) : Same H0 H1 := fun b o e => k b o (ne_of_none e hx) (a b o e)
theorem same_new {H0 H : Hp} {p : Addr} {o : HO} (a : Same H0 H) (hp : H p = none) : Same H0 (upd H p o) := fun b u e => by
  rw [upd_ne (ne_of_none (a b u e) hp)]
  exact a b u e
/-- a thing that may be changed -/
def Mut : HO → Prop
  | .lst _ => True
  | .ins _ _ _ => True
  | _ => False
theorem Fr.tup {x p : Addr} {H H' : Hp} {o : HO} {xs : List V} (k : Fr x H H') (hx : H x = some o) (m : Mut o) (hp : H p = some (.tup xs)) : H' p = some (.tup xs) :=
  k p _ (ne_of hp hx (by intro e; subst e; exact m)) hp
theorem Fr.sqt {K : PySem.W.Frag} {x p : Addr} {H H' : Hp} {o : HO} {xs : List V} (k : Fr x H H') (hx : H x = some o) (m : Mut o) (h : SqT K H p xs) : SqT K H' p xs := by
  rcases h with (h | ⟨u, h⟩) | h
  · exact .inl (.inl (k p _ (ne_of h hx (by intro e; subst e; exact m)) h))
  · exact .inl (.inr ⟨u, k p _ (ne_of h hx (by intro e; subst e; exact m)) h⟩)
  · exact .inr h
theorem same_sqt {K : PySem.W.Frag} {p : Addr} {H H' : Hp} {xs : List V} (k : Same H H') (h : SqT K H p xs) : SqT K H' p xs := by
  rcases h with (h | ⟨u, h⟩) | h
  · exact .inl (.inl (k p _ h))
  · exact .inl (.inr ⟨u, k p _ h⟩)
  · exact .inr h
theorem sqt_ty {K : PySem.W.Frag} {H : Hp} {p : Addr} {xs : List V} (h : SqT K H p xs) : TyX K H (.ref p) (.type "tuple") := by
  rcases h with (h | ⟨u, h⟩) | ⟨o, its, n, h1, h2, _⟩
  · exact .base (.tup h)
  · exact .fTuple h
  · exact .kTuple h1 h2
/-! ### draws -/
def BagAt (H : Hp) (s : Addr) : Prop := ∃ a b : Int, H s = some (.lst [.int a, .int b]) ∧ 0 ≤ b ∧ b < 2147483647
theorem BagAt.ex {H : Hp} {s : Addr} (h : BagAt H s) : ∃ o, H s = some o ∧ Mut o := by
  obtain ⟨a, b, e, _⟩ := h
  exact ⟨_, e, trivial⟩
theorem BagAt.same {H H' : Hp} {s : Addr} (h : BagAt H s) (k : Same H H') : BagAt H' s := by
  obtain ⟨a, b, e, r⟩ := h
  exact ⟨a, b, k _ _ e, r⟩
theorem BagAt.new {H : Hp} {s p : Addr} {o : HO} (h : BagAt H s) (hp : H p = none) : BagAt (upd H p o) s := h.same (same_new (Same.refl H) hp)
theorem BagAt.ne_new {H : Hp} {s p : Addr} (h : BagAt H s) (hp : H p = none) : p ≠ s := by
  obtain ⟨a, b, e, _⟩ := h
  exact (ne_of_none e hp).symm
theorem BagAt.fr {H H' : Hp} {s x : Addr} (h : BagAt H s) (k : Fr x H H') (ne : s ≠ x) : BagAt H' s := by
  obtain ⟨a, b, e, r⟩ := h
  exact ⟨a, b, k _ _ ne e, r⟩
theorem BagAt.some_ {H : Hp} {s : Addr} (h : BagAt H s) : ∃ o, H s = some o := by
  obtain ⟨a, b, e, _⟩ := h
  exact ⟨_, e⟩
theorem BagAt.ne_none {H : Hp} {s p : Addr} (h : BagAt H s) (hp : H p = none) : s ≠ p := (h.ne_new hp).symm
theorem same_make {H : Hp} {x dx : Addr} {o1 o2 : HO} (nx : H x = none) (ndx : H dx = none) : Same H (upd (upd H dx o1) x o2) := fun b o e => by
  rw [upd_ne (ne_of_none e nx), upd_ne (ne_of_none e ndx)]
  exact e
def spBag (K : PySem.W.Frag) : Sp := fun vs H Q _ => ∃ (l : Addr) (ns : List Int) (k : Int), vs = [.ref l, .int k] ∧ SqL K H l (ns.map V.int) ∧ 0 ≤ k ∧ k ≤ 100 ∧ ∀ (p : Addr) (H' : Hp), H p = none → Same H H' → BagAt H' p → Q (.ref p) H'
def spOut : Sp := fun vs H Q _ => ∃ (s : Addr) (m : Int), vs = [.ref s, .int m] ∧ BagAt H s ∧ 0 < m ∧ m ≤ 1000000000000000000000000000000 ∧ ∀ (r : Int) (H' : Hp), 0 ≤ r → r < m → Fr s H H' → BagAt H' s → Q (.int r) H'
def DrOk (K : PySem.W.Frag) (H : Hp) (p : Addr) (t b : Int) : Prop := SqT K H p [.int t, .int b] ∧ 0 ≤ t ∧ t < b ∧ b ≤ 1000 ∧ Int.gcd t b = 1
theorem DrOk.same {K : PySem.W.Frag} {H H' : Hp} {p : Addr} {t b : Int} (h : DrOk K H p t b) (k : Same H H') : DrOk K H' p t b := ⟨same_sqt k h.1, h.2⟩
theorem DrOk.fr {K : PySem.W.Frag} {H H' : Hp} {p x : Addr} {o : HO} {t b : Int} (h : DrOk K H p t b) (k : Fr x H H') (hx : H x = some o) (m : Mut o) : DrOk K H' p t b := ⟨k.sqt hx m h.1, h.2⟩
theorem DrOk.bag {K : PySem.W.Frag} {H H' : Hp} {p s : Addr} {t b : Int} (h : DrOk K H p t b) (k : Fr s H H') (bs : BagAt H s) : DrOk K H' p t b := by
  obtain ⟨o, e, m⟩ := bs.ex
  exact h.fr k e m
def spLDrift (K : PySem.W.Frag) : Sp := fun vs H Q _ => ∃ s : Addr, vs = [.ref s] ∧ BagAt H s ∧ ∀ (t b : Int) (p : Addr) (H' : Hp), Fr s H H' → BagAt H' s → DrOk K H' p t b → H' p = some (.tup [.int t, .int b]) → Q (.ref p) H'
/-! ### numbers -/
theorem pos_of_mul {g x l : Int} (hg : 0 < g) (hl : 0 < l) (e : l = g * x) : 0 < x := by
  rcases Int.lt_or_le 0 x with h | h
  · exact h
  · have := Int.mul_nonpos_of_nonneg_of_nonpos (Int.le_of_lt hg) h
    omega
theorem nn_of_mul {g x l : Int} (hg : 0 < g) (hl : 0 ≤ l) (e : l = g * x) : 0 ≤ x := by
  rcases Int.lt_or_le x 0 with h | h
  · have := Int.mul_neg_of_pos_of_neg hg h
    omega
  · exact h
theorem le_of_gmul {g x l : Int} (hg : 0 < g) (hx : 0 ≤ x) (e : l = g * x) : x ≤ l := by
  have := Int.mul_le_mul_of_nonneg_right (show 1 ≤ g by omega) hx
  omega
theorem le_cancel {g x y : Int} (hg : 0 < g) (h : g * x ≤ g * y) : x ≤ y := Int.le_of_mul_le_mul_left h hg
theorem lt_cancel {g x y : Int} (hg : 0 < g) (h : g * x < g * y) : x < y := Int.lt_of_mul_lt_mul_left h (Int.le_of_lt hg)
theorem gcd_turn {h t : Int} (h0 : 0 ≤ h) (t0 : 0 < t) : Int.gcd t (h % t) = Int.gcd h t := by
  obtain ⟨a, rfl⟩ := Int.eq_ofNat_of_zero_le h0
  obtain ⟨b, rfl⟩ := Int.eq_ofNat_of_zero_le (Int.le_of_lt t0)
  show Nat.gcd b (a % b) = Nat.gcd a b
  rw [Nat.gcd_comm a b, Nat.gcd_rec b a, Nat.gcd_comm]
theorem low_end {u l h : Int} (u0 : 0 ≤ u) (l0 : 0 < l) (h0 : 0 ≤ h) (e : Int.gcd h 0 = Int.gcd u l) : 0 < h ∧ u = h * (u / h) ∧ l = h * (l / h) ∧ Int.gcd (u / h) (l / h) = 1 ∧ h ≤ l := by
  have e1 : (h : Int) = (Int.gcd u l : Nat) := by
    have : Int.gcd h 0 = h.natAbs := Int.gcd_zero_right h
    rw [this] at e
    omega
  have hp : 0 < Int.gcd u l := Int.gcd_pos_of_ne_zero_right u (by omega)
  have d1 : h ∣ u := by rw [e1]; exact Int.gcd_dvd_left u l
  have d2 : h ∣ l := by rw [e1]; exact Int.gcd_dvd_right u l
  have hp' : 0 < h := by omega
  refine ⟨hp', (Int.mul_ediv_cancel' d1).symm, (Int.mul_ediv_cancel' d2).symm, ?_, Int.le_of_dvd l0 d2⟩
  rw [e1]
  exact Int.gcd_ediv_gcd_ediv_gcd hp
def leastP (n t b : Int) : Int := -(-n * b / (b + t))
def mostP (n t b : Int) : Int := ((n + 1) * b - 1) / (b - t)
theorem least_le {n t b p : Int} (t0 : 0 ≤ t) (tb : t < b) (h : n * b ≤ p * (b + t)) : leastP n t b ≤ p := by
  unfold leastP
  have q4 : -p ≤ -n * b / (b + t) := (Int.le_ediv_iff_mul_le (by omega)).mpr (by
    have z1 : -p * (b + t) = -(p * (b + t)) := by grind
    have z2 : -n * b = -(n * b) := by grind
    rw [z1, z2]
    omega)
  omega
theorem least_ge {n t b : Int} (t0 : 0 ≤ t) (tb : t < b) : n * b ≤ leastP n t b * (b + t) := by
  unfold leastP
  have q := Int.ediv_mul_le (-n * b) (show b + t ≠ 0 by omega)
  have z2 : -n * b = -(n * b) := by grind
  have z3 : -(-n * b / (b + t)) * (b + t) = -(-n * b / (b + t) * (b + t)) := by grind
  rw [z3]
  omega
theorem le_most {n t b p : Int} (t0 : 0 ≤ t) (tb : t < b) (h : p * (b - t) < (n + 1) * b) : p ≤ mostP n t b := by
  unfold mostP
  exact (Int.le_ediv_iff_mul_le (by omega)).mpr (by omega)
theorem most_lt {n t b : Int} (t0 : 0 ≤ t) (tb : t < b) : mostP n t b * (b - t) < (n + 1) * b := by
  unfold mostP
  have q := Int.ediv_mul_le ((n + 1) * b - 1) (show b - t ≠ 0 by omega)
  omega
theorem least_mono {n m t b : Int} (t0 : 0 ≤ t) (tb : t < b) (h : n ≤ m) : leastP n t b ≤ leastP m t b :=
  least_le t0 tb (Int.le_trans (Int.mul_le_mul_of_nonneg_right h (by omega)) (least_ge t0 tb))
theorem most_mono {n m t b : Int} (t0 : 0 ≤ t) (tb : t < b) (h : n ≤ m) : mostP n t b ≤ mostP m t b :=
  le_most t0 tb (Int.lt_of_lt_of_le (most_lt t0 tb) (Int.mul_le_mul_of_nonneg_right (by omega) (by omega)))
theorem least_nn {n t b : Int} (t0 : 0 ≤ t) (tb : t < b) (h : 0 ≤ n) : 0 ≤ leastP n t b := by
  have q := least_ge (n := n) t0 tb
  have z : 0 ≤ n * b := Int.mul_nonneg h (by omega)
  rcases Int.lt_or_le (leastP n t b) 0 with c | c
  · have := Int.mul_neg_of_neg_of_pos c (show 0 < b + t by omega)
    omega
  · exact c
theorem least_zero {t b : Int} (t0 : 0 ≤ t) (tb : t < b) : leastP 0 t b = 0 := by
  have h1 := least_le (n := 0) (p := 0) t0 tb (by simp)
  have h2 := least_nn (n := 0) t0 tb (by decide)
  omega
theorem most_nn {n t b : Int} (t0 : 0 ≤ t) (tb : t < b) (h : 0 ≤ n) : n ≤ mostP n t b :=
  le_most t0 tb (by
    have z1 : n * (b - t) ≤ n * b := Int.mul_le_mul_of_nonneg_left (by omega) h
    have z2 : (n + 1) * b = n * b + b := by grind
    omega)
theorem least_le_n {n t b : Int} (t0 : 0 ≤ t) (tb : t < b) (h : 0 ≤ n) : leastP n t b ≤ n :=
  least_le t0 tb (Int.mul_le_mul_of_nonneg_left (by omega) h)
/-! ### promises of times -/
def spWhole : Sp := fun vs H Q _ => ∃ n : Int, vs = [.int n] ∧ Q (.bl true) H
def spCount : Sp := fun vs H Q _ => ∃ n : Int, vs = [.int n] ∧ 0 ≤ n ∧ Q (.bl true) H
def spRef : Sp := fun vs H Q _ => ∃ n : Int, vs = [.int n] ∧ 0 ≤ n ∧ Q .non H
def spLeast (K : PySem.W.Frag) : Sp := fun vs H Q _ => ∃ (n t b : Int) (p : Addr), vs = [.int n, .ref p] ∧ 0 ≤ n ∧ DrOk K H p t b ∧ Q (.int (leastP n t b)) H
def spMost (K : PySem.W.Frag) : Sp := fun vs H Q _ => ∃ (n t b : Int) (p : Addr), vs = [.int n, .ref p] ∧ 0 ≤ n ∧ DrOk K H p t b ∧ Q (.int (mostP n t b)) H
def spRow (K : PySem.W.Frag) : Sp := fun vs H Q _ => ∃ (p : Addr) (t b : Int), vs = [.ref p, .int 2, .int 2] ∧ SqT K H p [.int t, .int b] ∧ ∀ H', Same H H' → Q (.bl true) H'
def spFromTo : Sp := fun vs H Q _ => ∃ n lo hi : Int, vs = [.int n, .int lo, .int hi] ∧ lo ≤ n ∧ n ≤ hi ∧ Q (.bl true) H
def spCd : Sp := fun vs H Q _ => ∃ (x y : Int), vs = [.int x, .int y] ∧ 0 ≤ x ∧ 0 ≤ y ∧ Q (.int (Int.gcd x y)) H
def spShare (K : PySem.W.Frag) : Sp := fun vs H Q _ => ∃ (p : Addr) (t b : Int), vs = [.ref p] ∧ DrOk K H p t b ∧ ∀ H', Same H H' → Q (.bl true) H'
theorem two_at {t b : Int} {i : Nat} {x : V} (h : [V.int t, V.int b][i]? = some x) : ∃ n : Int, x = .int n := by
  match i, h with
  | 0, h => exact ⟨t, (Option.some.inj h).symm⟩
  | 1, h => exact ⟨b, (Option.some.inj h).symm⟩
  | n + 2, h => simp at h
/-! ### a clock -/
theorem ne_cs : ¬ (("counted" : Str) = "stands") := by decide +kernel
theorem ne_cm : ¬ (("counted" : Str) = "most_drift") := by decide +kernel
theorem ne_sc : ¬ (("stands" : Str) = "counted") := by decide +kernel
theorem ne_sm : ¬ (("stands" : Str) = "most_drift") := by decide +kernel
theorem ne_mc : ¬ (("most_drift" : Str) = "counted") := by decide +kernel
theorem ne_ms : ¬ (("most_drift" : Str) = "stands") := by decide +kernel
def cf (dr : V) (sv : V) (n : Int) : List (Str × V) := putF "counted" (.int n) (putF "stands" sv (putF "most_drift" dr []))
theorem cf_eq (dr sv : V) (n : Int) : cf dr sv n = ([("most_drift", dr), ("stands", sv), ("counted", V.int n)] : List (Str × V)) := by
  unfold cf
  simp only [putF, if_neg ne_ms, if_neg ne_mc, if_neg ne_sc]
theorem cf_len (dr sv : V) (n : Int) : (cf dr sv n).length < 1000 := by
  rw [cf_eq]
  show 3 < 1000
  decide
theorem cf_m (dr sv : V) (n : Int) : (cf dr sv n).lookup ("most_drift" : Str) = some dr := by
  unfold cf
  rw [lookup_putF, if_neg ne_mc, lookup_putF, if_neg ne_ms, lookup_putF, if_pos rfl]
theorem cf_s (dr sv : V) (n : Int) : (cf dr sv n).lookup ("stands" : Str) = some sv := by
  unfold cf
  rw [lookup_putF, if_neg ne_sc, lookup_putF, if_pos rfl]
theorem cf_c (dr sv : V) (n : Int) : (cf dr sv n).lookup ("counted" : Str) = some (.int n) := by
  unfold cf
  rw [lookup_putF, if_pos rfl]
theorem cf_no (dr sv : V) (n : Int) {m : Str} (h1 : ¬ m = "counted") (h2 : ¬ m = "stands") (h3 : ¬ m = "most_drift") : (cf dr sv n).lookup m = none := by
  unfold cf
  rw [lookup_putF, if_neg h1, lookup_putF, if_neg h2, lookup_putF, if_neg h3]
  all_goals rfl
theorem cf_put_s (dr sv sv' : V) (n : Int) : putF "stands" sv' (cf dr sv n) = cf dr sv' n := by
  rw [cf_eq, cf_eq]
  simp only [putF, if_neg ne_ms, if_pos]
theorem cf_put_c (dr sv : V) (n n' : Int) : putF "counted" (.int n') (cf dr sv n) = cf dr sv n' := by
  rw [cf_eq, cf_eq]
  simp only [putF, if_neg ne_mc, if_neg ne_sc, if_pos]
def SvAt (K : PySem.W.Frag) (H : Hp) (sv : V) : Option (Int × Int) → Prop
  | none => sv = .non
  | some z => ∃ p, sv = .ref p ∧ SqT K H p [.int z.1, .int z.2]
/-- a clock at c: its drift's tuple at dr, what it stands set to, its count -/
structure CkAt (K : PySem.W.Frag) (C : Addr) (H : Hp) (c dr : Addr) (t b : Int) (st : Option (Int × Int)) (n : Int) : Prop where
  at_ : ∃ (dx : Addr) (sv : V), H c = some (.ins C dx (cf (.ref dr) sv n)) ∧ SvAt K H sv st
  dr_ : DrOk K H dr t b
  nn : 0 ≤ n
theorem CkAt.ex {K : PySem.W.Frag} {C : Addr} {H : Hp} {c dr : Addr} {t b : Int} {st : Option (Int × Int)} {n : Int} (h : CkAt K C H c dr t b st n) : ∃ o, H c = some o ∧ Mut o := by
  obtain ⟨dx, sv, e, _⟩ := h.at_
  exact ⟨_, e, trivial⟩
theorem SvAt.fr {K : PySem.W.Frag} {H H' : Hp} {x : Addr} {o : HO} {sv : V} {st : Option (Int × Int)} (h : SvAt K H sv st) (k : Fr x H H') (hx : H x = some o) (m : Mut o) : SvAt K H' sv st := by
  cases st with
  | none => exact h
  | some z =>
    obtain ⟨p, e, q⟩ := h
    exact ⟨p, e, k.sqt hx m q⟩
/-- a clock stays where another changeable thing is changed -/
theorem CkAt.fr {K : PySem.W.Frag} {C : Addr} {H H' : Hp} {c dr x : Addr} {o : HO} {t b : Int} {st : Option (Int × Int)} {n : Int} (h : CkAt K C H c dr t b st n) (k : Fr x H H') (hx : H x = some o) (m : Mut o) (ne : c ≠ x) : CkAt K C H' c dr t b st n := by
  obtain ⟨⟨dx, sv, e, q⟩, d, nn⟩ := h
  exact ⟨⟨dx, sv, k _ _ ne e, q.fr k hx m⟩, d.fr k hx m, nn⟩
theorem CkAt.same {K : PySem.W.Frag} {C : Addr} {H H' : Hp} {c dr : Addr} {t b : Int} {st : Option (Int × Int)} {n : Int} (h : CkAt K C H c dr t b st n) (k : Same H H') : CkAt K C H' c dr t b st n := by
  obtain ⟨⟨dx, sv, e, q⟩, d, nn⟩ := h
  refine ⟨⟨dx, sv, k _ _ e, ?_⟩, d.same k, nn⟩
  cases st with
  | none => exact q
  | some z =>
    obtain ⟨p, e, q⟩ := q
    exact ⟨p, e, same_sqt k q⟩
theorem CkAt.bag {K : PySem.W.Frag} {C : Addr} {H H' : Hp} {c dr s : Addr} {t b : Int} {st : Option (Int × Int)} {n : Int} (h : CkAt K C H c dr t b st n) (k : Fr s H H') (bs : BagAt H s) : CkAt K C H' c dr t b st n := by
  obtain ⟨dx, sv, e, _⟩ := h.at_
  obtain ⟨x, y, e2, _⟩ := bs
  exact h.fr k e2 trivial (ne_of e e2 (by intro z; cases z))
theorem BagAt.ck {K : PySem.W.Frag} {C : Addr} {H H' : Hp} {c dr s : Addr} {t b : Int} {st : Option (Int × Int)} {n : Int} (bs : BagAt H s) (k : Fr c H H') (h : CkAt K C H c dr t b st n) : BagAt H' s := by
  obtain ⟨dx, sv, e, _⟩ := h.at_
  obtain ⟨x, y, e2, r⟩ := bs
  exact ⟨x, y, k _ _ (ne_of e2 e (by intro z; cases z)) e2, r⟩
theorem CkAt.ne_bag {K : PySem.W.Frag} {C : Addr} {H : Hp} {c dr s : Addr} {t b : Int} {st : Option (Int × Int)} {n : Int} (h : CkAt K C H c dr t b st n) (bs : BagAt H s) : c ≠ s := by
  obtain ⟨dx, sv, e, _⟩ := h.at_
  obtain ⟨x, y, e2, _⟩ := bs
  exact ne_of e e2 (by intro z; cases z)
/-! ### promises of Clock -/
/-- what bounds_behind tells -/
def bbQ (H : Hp) (Q : VK) (n t b : Int) : Option (Int × Int) → Prop
  | none => Q .non H
  | some z => ∀ p, H p = none → Q (.ref p) (upd H p (.tup [.int (z.1 + leastP n t b), .int (z.2 + mostP n t b)]))
def spBB (K : PySem.W.Frag) : Sp := fun vs H Q _ => ∃ (sv : V) (st : Option (Int × Int)) (n : Int) (dr : Addr) (t b : Int), vs = [sv, .int n, .ref dr] ∧ SvAt K H sv st ∧ 0 ≤ n ∧ DrOk K H dr t b ∧ bbQ H Q n t b st
def btwL (low : Int) : Option (Int × Int) → Int
  | none => low
  | some z => if z.1 > low then z.1 else low
def btwH (high : Int) : Option (Int × Int) → Int
  | none => high
  | some z => if z.2 < high then z.2 else high
def spSB (K : PySem.W.Frag) : Sp := fun vs H Q _ => ∃ (tv : V) (st : Option (Int × Int)) (low high : Int), vs = [tv, .int low, .int high] ∧ SvAt K H tv st ∧ low ≤ high ∧ btwL low st ≤ btwH high st ∧ ∀ p, H p = none → Q (.ref p) (upd H p (.tup [.int (btwL low st), .int (btwH high st)]))
def spInit (K : PySem.W.Frag) (C : Addr) : Sp := fun vs H Q _ => ∃ (x dr dx : Addr) (t b : Int), vs = [.ref x, .ref dr] ∧ H x = some (.ins C dx []) ∧ DrOk K H dr t b ∧ ∀ H', Fr x H H' → CkAt K C H' x dr t b none 0 → Q .non H'
def spIsSet (K : PySem.W.Frag) (C : Addr) : Sp := fun vs H Q _ => ∃ (c dr : Addr) (t b : Int) (st : Option (Int × Int)) (n : Int), vs = [.ref c] ∧ CkAt K C H c dr t b st n ∧ Q (.bl st.isSome) H
def spBounds (K : PySem.W.Frag) (C : Addr) : Sp := fun vs H Q _ => ∃ (c dr : Addr) (t b lo hi n : Int), vs = [.ref c] ∧ CkAt K C H c dr t b (some (lo, hi)) n ∧ ∀ p, H p = none → Q (.ref p) (upd H p (.tup [.int (lo + leastP n t b), .int (hi + mostP n t b)]))
def spTick (K : PySem.W.Frag) (C : Addr) : Sp := fun vs H Q _ => ∃ (c dr : Addr) (t b : Int) (st : Option (Int × Int)) (n m : Int), vs = [.ref c, .int m] ∧ CkAt K C H c dr t b st n ∧ 0 ≤ m ∧ ∀ H', Fr c H H' → CkAt K C H' c dr t b st (n + m) → Q .non H'
def setLow (low : Int) (st : Option (Int × Int)) (t b n : Int) : Int := match st with
  | none => low
  | some z => if z.1 + leastP n t b > low then z.1 + leastP n t b else low
def setHigh (high : Int) (st : Option (Int × Int)) (t b n : Int) : Int := match st with
  | none => high
  | some z => if z.2 + mostP n t b < high then z.2 + mostP n t b else high
def spSet (K : PySem.W.Frag) (C : Addr) : Sp := fun vs H Q _ => ∃ (c dr : Addr) (t b : Int) (st : Option (Int × Int)) (n low high : Int), vs = [.ref c, .int low, .int high] ∧ CkAt K C H c dr t b st n ∧ low ≤ high ∧ setLow low st t b n ≤ setHigh high st t b n ∧
  ∀ H', Fr c H H' → CkAt K C H' c dr t b (some (setLow low st t b n, setHigh high st t b n)) 0 → Q .non H'
def spPast (K : PySem.W.Frag) (C : Addr) : Sp := fun vs H Q _ => ∃ (c dr : Addr) (t b lo hi n m : Int), vs = [.ref c, .int m] ∧ CkAt K C H c dr t b (some (lo, hi)) n ∧ ∀ H', Same H H' → Q (.bl (decide (m < lo + leastP n t b))) H'
def spAhead (K : PySem.W.Frag) (C : Addr) : Sp := fun vs H Q _ => ∃ (c dr : Addr) (t b lo hi n m : Int), vs = [.ref c, .int m] ∧ CkAt K C H c dr t b (some (lo, hi)) n ∧ ∀ H', Same H H' → Q (.bl (decide (hi + mostP n t b < m))) H'
def spLaw (K : PySem.W.Frag) : Sp := fun vs H Q _ => ∃ (a : Addr) (ns : List Int), vs = [.ref a] ∧ SqL K H a (ns.map V.int) ∧ ns.length ≤ 63 ∧ ∀ H', Q (.bl true) H'

theorem eqv_two {a b c d : Int} (h1 : a = c) (h2 : b = d) : PyData.eqv (.tuple [.int a, .int b]) (.tuple [.int c, .int d]) = true := by
  subst h1 h2
  simp [PyData.eqv, PyData.eqvAll]
theorem two_bools (b c : Bool) : (PyData.list [.bool b, .bool c]).showable = true ∧ (PyData.list [.bool b, .bool c]).hasDict = false ∧ (PyData.list [.bool b, .bool c]).depth ≤ 64 ∧ (PyData.list [.bool b, .bool c]).shown.length ≤ sizeLine := by
  cases b <;> cases c <;> decide +kernel
theorem least_fits {n t b : Int} (t0 : 0 ≤ t) (tb : t < b) : (leastP n t b - 1) * (b + t) < n * b := by
  rcases Int.lt_or_le ((leastP n t b - 1) * (b + t)) (n * b) with h | h
  · exact h
  · have := least_le (p := leastP n t b - 1) t0 tb h
    omega
theorem most_fits {n t b : Int} (t0 : 0 ≤ t) (tb : t < b) : (n + 1) * b ≤ (mostP n t b + 1) * (b - t) := by
  rcases Int.lt_or_le ((mostP n t b + 1) * (b - t)) ((n + 1) * b) with h | h
  · have := le_most (p := mostP n t b + 1) t0 tb h
    omega
  · exact h
def spDriftM (K : PySem.W.Frag) (C : Addr) : Sp := fun vs H Q _ => ∃ (c dr : Addr) (t b : Int) (st : Option (Int × Int)) (n : Int), vs = [.ref c] ∧ CkAt K C H c dr t b st n ∧ Q (.ref dr) H
def spIsLeast (K : PySem.W.Frag) : Sp := fun vs H Q _ => ∃ (p n t b : Int) (dr : Addr), vs = [.int p, .int n, .ref dr] ∧ DrOk K H dr t b ∧ 0 ≤ n ∧ p = leastP n t b ∧ Q (.bl true) H
def spIsMost (K : PySem.W.Frag) : Sp := fun vs H Q _ => ∃ (p n t b : Int) (dr : Addr), vs = [.int p, .int n, .ref dr] ∧ DrOk K H dr t b ∧ 0 ≤ n ∧ p = mostP n t b ∧ Q (.bl true) H
def spSides (K : PySem.W.Frag) (C : Addr) : Sp := fun vs H Q _ => ∃ (c dr : Addr) (t b lo hi n low high : Int), vs = [.ref c, .int low, .int high] ∧ CkAt K C H c dr t b (some (lo, hi)) n ∧ low = lo + leastP n t b ∧ high = hi + mostP n t b ∧ ∀ H', Same H H' → Q (.bl true) H'
def spRight (K : PySem.W.Frag) (C : Addr) : Sp := fun vs H Q _ => ∃ (c dr : Addr) (t b lo hi n : Int), vs = [.ref c, .int lo, .int hi, .int n, .ref dr] ∧ CkAt K C H c dr t b (some (lo, hi)) n ∧ ∀ H', Same H H' → Q (.bl true) H'

theorem ok_is_whole {P : Program} {w : World} {K : PySem.W.Frag} {mg : Str → Option Value} {base : Heap} {a : Nat → Addr} {d : Nat → FuncData} (T : Txt K mg a d) : FnOk P w K mg base CX0 1 (a 0) (d 0) ["thing"] spWhole := by
  refine T.F_is_whole.ok sc_is_whole (fun vs H Q E h => ?_) (fun cdv A outer s0 H vs Q E hr h => ?_)
  · obtain ⟨n, rfl, q⟩ := h
    rfl
  · obtain ⟨n, rfl, q⟩ := h
    refine ⟨_, (pss_one (ps_ret (pe_and (pe_callB call_isi (by rfl) T.z_isinstance (by decide +kernel) (pa_cons (pv 0) (pa_cons (pe_bltn (v := .ty "int") (by rfl) T.z_int (by decide +kernel) rfl) pa_nil))) (pe_one (pe_not (pe_callB call_isi (by rfl) T.z_isinstance (by decide +kernel) (pa_cons (pv 0) (pa_cons (pe_bltn (v := .ty "bool") (by rfl) T.z_bool (by decide +kernel) rfl) pa_nil)))))))), ?_⟩
    refine ⟨_, rfl, _, _, .type "int", .type "int", true, rfl, .ty "int", .base (.int n), kit_ty (by decide +kernel), true, rfl, iteT ?_⟩
    refine ⟨_, rfl, _, _, .type "int", .type "bool", false, rfl, .ty "bool", .base (.int n), kit_ty (by decide +kernel), false, rfl, ?_⟩
    exact q

theorem ok_is_count {P : Program} {w : World} {K : PySem.W.Frag} {mg : Str → Option Value} {base : Heap} {a : Nat → Addr} {d : Nat → FuncData} (T : Txt K mg a d) : FnOk P w K mg base CX0 2 (a 1) (d 1) ["thing"] spCount := by
  refine T.F_is_count.ok sc_is_count (fun vs H Q E h => ?_) (fun cdv A outer s0 H vs Q E hr h => ?_)
  · obtain ⟨n, rfl, n0, q⟩ := h
    rfl
  · obtain ⟨n, rfl, n0, q⟩ := h
    refine ⟨_, (pss_one (ps_ret (pe_and (pe_call (ok_is_whole T) (hr.mono (by decide)) (by rfl) T.g_is_whole T.F_is_whole.kp T.b_is_whole .nil pass0 (pa_cons (pv 0) pa_nil)) (pe_one (pe_cmpR op_ge (pv 0) pe_int (nomark _)))))), ?_⟩
    refine ⟨_, rfl, n, rfl, true, rfl, iteT ?_⟩
    exact ⟨_, rfl, n, 0, rfl, rfl, bl_of (Q := Q) n0 q⟩

theorem ok_is_from_to {P : Program} {w : World} {K : PySem.W.Frag} {mg : Str → Option Value} {base : Heap} {a : Nat → Addr} {d : Nat → FuncData} (T : Txt K mg a d) : FnOk P w K mg base CX0 1 (a 2) (d 2) ["thing", "least", "most"] spFromTo := by
  refine T.F_is_from_to.ok sc_is_from_to (fun vs H Q E h => ?_) (fun cdv A outer s0 H vs Q E hr h => ?_)
  · obtain ⟨n, lo, hi, rfl, h1, h2, q⟩ := h
    rfl
  · obtain ⟨n, lo, hi, rfl, h1, h2, q⟩ := h
    refine ⟨_, (pss_one (ps_ret (pe_and (pe_callB call_isi (by rfl) T.z_isinstance (by decide +kernel) (pa_cons (pv 0) (pa_cons (pe_bltn (v := .ty "int") (by rfl) T.z_int (by decide +kernel) rfl) pa_nil))) (pe_and (pe_not (pe_callB call_isi (by rfl) T.z_isinstance (by decide +kernel) (pa_cons (pv 0) (pa_cons (pe_bltn (v := .ty "bool") (by rfl) T.z_bool (by decide +kernel) rfl) pa_nil)))) (pe_one (pe_chain op_le op_le (pv 1) (pv 0) (pv 2))))))), ?_⟩
    refine ⟨_, rfl, _, _, .type "int", .type "int", true, rfl, .ty "int", .base (.int n), kit_ty (by decide +kernel), true, rfl, iteT ?_⟩
    refine ⟨_, rfl, _, _, .type "int", .type "bool", false, rfl, .ty "bool", .base (.int n), kit_ty (by decide +kernel), false, rfl, true, rfl, iteT ?_⟩
    refine ⟨_, rfl, _, rfl, lo, n, rfl, rfl, _, rfl, iteDT h1 ?_⟩
    exact ⟨_, rfl, n, hi, rfl, rfl, bl_of (Q := Q) h2 q⟩

theorem ok_common_divisor {P : Program} {w : World} {K : PySem.W.Frag} {mg : Str → Option Value} {base : Heap} {a : Nat → Addr} {d : Nat → FuncData} (T : Txt K mg a d) : FnOk P w K mg base CX0 1 (a 3) (d 3) ["first", "second"] spCd := by
  refine T.F_common_divisor.ok sc_common_divisor (fun vs H Q E h => ?_) (fun cdv A outer s0 H vs Q E hr h => ?_)
  · obtain ⟨x, y, rfl, x0, y0, q⟩ := h
    rfl
  · obtain ⟨x, y, rfl, x0, y0, q⟩ := h
    refine ⟨_, (pss_cons (ps_while PassesOwn.never (pt_truth (pv 1) (by intro _; rfl)) (pss_one (ps_par (i := 0) (j := 1) (by rfl) sc_common_divisor.nd rfl rfl (by decide) rfl rfl (pa_cons (pv 1) (pa_cons (pe_op op_mod (pv 0) (pv 1)) pa_nil)) (by rfl)))) (pss_one (ps_ret (pv 0)))), ?_⟩
    refine ⟨fun m σ H' => H' = H ∧ ∃ h t : Int, σ = [some (.int h), some (.int t)] ∧ m = t.toNat ∧ 0 ≤ h ∧ 0 ≤ t ∧ Int.gcd h t = Int.gcd x y, ⟨_, rfl, x, y, rfl, rfl, x0, y0, rfl⟩, ?_⟩
    rintro m σ H' ⟨rfl, h, t, rfl, rfl, h0, t0, eg⟩
    refine ⟨_, rfl, _, rfl, ?_⟩
    by_cases hz : t = 0
    · subst hz
      refine iteBF rfl ?_
      have e1 : (Int.gcd x y : Int) = h := by
        rw [← eg, Int.gcd_zero_right]
        omega
      refine ⟨_, rfl, ?_⟩
      rw [e1] at q
      exact q
    · have tp : 0 < t := by omega
      refine iteBT (by simpa using hz) ?_
      refine ⟨_, fun _ _ z => z, ?_⟩
      refine ⟨_, rfl, _, rfl, _, rfl, h, t, rfl, rfl, tp, _, _, rfl, ?_⟩
      have e0 := Int.emod_nonneg h (show t ≠ 0 by omega)
      have e1 := Int.emod_lt_of_pos h tp
      exact ⟨(h % t).toNat, by omega, rfl, t, h % t, rfl, rfl, t0, e0, (gcd_turn h0 tp).trans eg⟩

theorem ok_is_share {P : Program} {w : World} {K : PySem.W.Frag} {mg : Str → Option Value} {base : Heap} {a : Nat → Addr} {d : Nat → FuncData} (T : Txt K mg a d) : FnOk P w K mg base CX0 3 (a 4) (d 4) ["thing"] (spShare K) := by
  refine T.F_is_share.ok sc_is_share (fun vs H Q E h => ?_) (fun cdv A outer s0 H vs Q E hr h => ?_)
  · obtain ⟨p, t, b, rfl, hd, q⟩ := h
    rfl
  · obtain ⟨p, t, b, rfl, hd, q⟩ := h
    refine ⟨_, (pss_cons (ps_if (PW.pt (pw_or (pt_not (pt_truth (pe_callB call_isi (by rfl) T.z_isinstance (by decide +kernel) (pa_cons (pv 0) (pa_cons (pe_bltn (v := .ty "tuple") (by rfl) T.z_tuple (by decide +kernel) rfl) pa_nil))) (by intro _; rfl))) (pw_or1 (pt_cmpR op_ne (pe_callB call_len_seq (by rfl) T.z_len PySem.boot_len (pa_cons (pv 0) pa_nil)) pe_int (nomark _))))) (pss_one (ps_ret pe_bl)) pss_nil) (pss_cons (ps_asg (pv 0) (pg_tup (by rfl) (pgs_cons (pg_name (i := 1) sc_is_share.nd rfl (.inl rfl)) (pgs_cons (pg_name (i := 2) sc_is_share.nd rfl (.inl rfl)) pgs_nil)))) (pss_cons (ps_if (PW.pt (pw_or (pt_not (pt_truth (pe_call (ok_is_from_to T) (hr.mono (by decide)) (by rfl) T.g_is_from_to T.F_is_from_to.kp T.b_is_from_to .nil pass0 (pa_cons (pv 2) (pa_cons pe_int (pa_cons (pe_glob (v := .int 1000) (by rfl) (Exists.choose_spec T.g_MOST_BOTTOM) ⟨_, rfl⟩) pa_nil)))) (by intro _; rfl))) (pw_or1 (pt_not (pt_truth (pe_call (ok_is_from_to T) (hr.mono (by decide)) (by rfl) T.g_is_from_to T.F_is_from_to.kp T.b_is_from_to .nil pass0 (pa_cons (pv 1) (pa_cons pe_int (pa_cons (pv 2) pa_nil)))) (by intro _; rfl)))))) (pss_one (ps_ret pe_bl)) pss_nil) (pss_one (ps_ret (pe_or (pe_cmpR op_eq (pv 1) pe_int (nomark _)) (pe_one (pe_cmpR op_eq (pe_call (ok_common_divisor T) (hr.mono (by decide)) (by rfl) T.g_common_divisor T.F_common_divisor.kp T.b_common_divisor .nil pass0 (pa_cons (pv 1) (pa_cons (pv 2) pa_nil))) pe_int (nomark _))))))))), ?_⟩
    obtain ⟨hS, t0, tb, b1, hg⟩ := hd
    refine ⟨_, rfl, _, _, .type "tuple", .type "tuple", true, rfl, .ty "tuple", sqt_ty hS, kit_ty (by decide +kernel), true, rfl, iteF ?_⟩
    refine ⟨_, rfl, p, _, rfl, .inr hS, rfl, _, rfl, iteNS rfl ?_⟩
    refine ⟨_, rfl, p, _, rfl, hS, rfl, _, _, rfl, _, _, rfl, rfl, ?_⟩
    refine ⟨_, rfl, b, 1, 1000, rfl, by omega, by omega, true, rfl, iteF ?_⟩
    refine ⟨_, rfl, _, rfl, t, 0, b, rfl, by omega, by omega, true, rfl, iteF ?_⟩
    refine ⟨_, rfl, rfl, _, rfl, ?_⟩
    refine ite2 (fun h => ?_) (fun h => ?_)
    · exact q H (Same.refl H)
    refine ⟨_, rfl, _, rfl, t, b, rfl, t0, by omega, rfl, ?_⟩
    have e : (V.int (Int.gcd t b : Nat) = V.int 1) := by rw [hg]; rfl
    exact bl_of (Q := Q) e (q H (Same.refl H))

theorem ok_is_drift {P : Program} {w : World} {K : PySem.W.Frag} {mg : Str → Option Value} {base : Heap} {a : Nat → Addr} {d : Nat → FuncData} (T : Txt K mg a d) : FnOk P w K mg base CX0 4 (a 5) (d 5) ["thing"] (spShare K) := by
  refine T.F_is_drift.ok sc_is_drift (fun vs H Q E h => ?_) (fun cdv A outer s0 H vs Q E hr h => ?_)
  · obtain ⟨p, t, b, rfl, hd, q⟩ := h
    rfl
  · obtain ⟨p, t, b, rfl, hd, q⟩ := h
    refine ⟨_, (pss_one (ps_ret (pe_and (pe_call (ok_is_share T) (hr.mono (by decide)) (by rfl) T.g_is_share T.F_is_share.kp T.b_is_share .nil pass0 (pa_cons (pv 0) pa_nil)) (pe_one (pe_cmpR (op_neD hr.units) (pv 0) (pe_glob (v := .ref (a 28)) (by rfl) T.g_WHOLE rfl) (nomark _)))))), ?_⟩
    refine ⟨_, rfl, p, t, b, rfl, hd, fun H1 s1 => ⟨true, rfl, iteT ?_⟩⟩
    have hS1 := same_sqt s1 hd.1
    refine ⟨_, rfl, .tuple [.int t, .int b], .tuple [.int 1, .int 1], .tup hS1 (.cons (.int _) (.cons (.int _) .nil)), .tup (T.k_WHOLE _) (.cons (.int _) (.cons (.int _) .nil)), rfl, rfl, ?_⟩
    have e : PyData.eqv (.tuple [.int t, .int b]) (.tuple [.int 1, .int 1]) = false := by
      have := hd.2.2.1
      by_cases ht : t = 1
      · have hb : b ≠ 1 := by omega
        simp [PyData.eqv, PyData.eqvAll, hb]
      · simp [PyData.eqv, PyData.eqvAll, ht]
    show Q (V.bl (!PyData.eqv (.tuple [.int t, .int b]) (.tuple [.int 1, .int 1]))) H1
    rw [e]
    exact q H1 s1

theorem ok_refuse_no_count {P : Program} {w : World} {K : PySem.W.Frag} {mg : Str → Option Value} {base : Heap} {a : Nat → Addr} {d : Nat → FuncData} (T : Txt K mg a d) : FnOk P w K mg base CX0 3 (a 6) (d 6) ["thing"] spRef := by
  refine T.F_refuse_no_count.ok sc_refuse_no_count (fun vs H Q E h => ?_) (fun cdv A outer s0 H vs Q E hr h => ?_)
  · obtain ⟨n, rfl, n0, q⟩ := h
    rfl
  · obtain ⟨n, rfl, n0, q⟩ := h
    refine ⟨_, (pss_one (ps_if (pt_not (pt_truth (pe_call (ok_is_count T) (hr.mono (by decide)) (by rfl) T.g_is_count T.F_is_count.kp T.b_is_count .nil pass0 (pa_cons (pv 0) pa_nil)) (by intro _; rfl))) (pss_one ps_never) pss_nil)), ?_⟩
    refine ⟨_, rfl, n, rfl, n0, true, rfl, iteF ?_⟩
    exact q

theorem ok_least_of {P : Program} {w : World} {K : PySem.W.Frag} {mg : Str → Option Value} {base : Heap} {a : Nat → Addr} {d : Nat → FuncData} (T : Txt K mg a d) : FnOk P w K mg base CX0 1 (a 7) (d 7) ["ticks", "drift"] (spLeast K) := by
  refine T.F_least_of.ok sc_least_of (fun vs H Q E h => ?_) (fun cdv A outer s0 H vs Q E hr h => ?_)
  · obtain ⟨n, t, b, p, rfl, n0, ⟨hd, t0, tb, b1, _⟩, q⟩ := h
    rfl
  · obtain ⟨n, t, b, p, rfl, n0, ⟨hd, t0, tb, b1, _⟩, q⟩ := h
    refine ⟨_, (pss_cons (ps_asg (pv 1) (pg_tup (by rfl) (pgs_cons (pg_name (i := 2) sc_least_of.nd rfl (.inl rfl)) (pgs_cons (pg_name (i := 3) sc_least_of.nd rfl (.inl rfl)) pgs_nil)))) (pss_one (ps_ret (pe_un un_neg (pe_op op_fdivW (pe_op op_mul (pe_un un_neg (pv 0)) (pv 3)) (pe_op op_add (pv 3) (pv 2))))))), ?_⟩
    refine ⟨_, rfl, p, _, rfl, hd, rfl, _, _, rfl, _, _, rfl, rfl, ?_⟩
    refine ⟨_, rfl, n, rfl, _, rfl, -n, b, rfl, rfl, .inr (m64 (by omega) (by omega)), _, rfl, _, rfl, b, t, rfl, rfl, _, _, rfl, rfl, divW (by omega) (by omega), _, rfl, ?_⟩
    exact q

theorem ok_most_of {P : Program} {w : World} {K : PySem.W.Frag} {mg : Str → Option Value} {base : Heap} {a : Nat → Addr} {d : Nat → FuncData} (T : Txt K mg a d) : FnOk P w K mg base CX0 1 (a 8) (d 8) ["ticks", "drift"] (spMost K) := by
  refine T.F_most_of.ok sc_most_of (fun vs H Q E h => ?_) (fun cdv A outer s0 H vs Q E hr h => ?_)
  · obtain ⟨n, t, b, p, rfl, n0, ⟨hd, t0, tb, b1, _⟩, q⟩ := h
    rfl
  · obtain ⟨n, t, b, p, rfl, n0, ⟨hd, t0, tb, b1, _⟩, q⟩ := h
    refine ⟨_, (pss_cons (ps_asg (pv 1) (pg_tup (by rfl) (pgs_cons (pg_name (i := 2) sc_most_of.nd rfl (.inl rfl)) (pgs_cons (pg_name (i := 3) sc_most_of.nd rfl (.inl rfl)) pgs_nil)))) (pss_one (ps_ret (pe_op op_fdivW (pe_op op_sub (pe_op op_mul (pe_op op_add (pv 0) pe_int) (pv 3)) pe_int) (pe_op op_sub (pv 3) (pv 2)))))), ?_⟩
    refine ⟨_, rfl, p, _, rfl, hd, rfl, _, _, rfl, _, _, rfl, rfl, ?_⟩
    refine ⟨_, rfl, n, 1, rfl, rfl, _, rfl, _, b, rfl, rfl, .inr (m64 (by omega) (by omega)), _, 1, rfl, rfl, _, rfl, _, rfl, b, t, rfl, rfl, _, _, rfl, rfl, divW (by omega) (by omega), ?_⟩
    exact q

theorem ok_bounds_behind {P : Program} {w : World} {K : PySem.W.Frag} {mg : Str → Option Value} {base : Heap} {a : Nat → Addr} {d : Nat → FuncData} (T : Txt K mg a d) : FnOk P w K mg base CX0 2 (a 25) (d 25) ["stands", "counted", "drift"] (spBB K) := by
  refine T.F_bounds_behind.ok sc_bounds_behind (fun vs H Q E h => ?_) (fun cdv A outer s0 H vs Q E hr h => ?_)
  · obtain ⟨sv, st, n, dr, t, b, rfl, hs, n0, hd, q⟩ := h
    rfl
  · obtain ⟨sv, st, n, dr, t, b, rfl, hs, n0, hd, q⟩ := h
    refine ⟨_, (pss_cons (ps_if (pt_cmpR op_isN (pv 0) pe_non (nomark _)) (pss_one (ps_ret pe_non)) pss_nil) (pss_one (ps_ret (pe_tup (pa_cons (pe_op op_add (pe_ix ix_tup (pv 0) pe_int (fun _ _ => rfl)) (pe_call (ok_least_of T) (hr.mono (by decide)) (by rfl) T.g_least_of T.F_least_of.kp T.b_least_of .nil pass0 (pa_cons (pv 1) (pa_cons (pv 2) pa_nil)))) (pa_cons (pe_op op_add (pe_ix ix_tup (pv 0) pe_int (fun _ _ => rfl)) (pe_call (ok_most_of T) (hr.mono (by decide)) (by rfl) T.g_most_of T.F_most_of.kp T.b_most_of .nil pass0 (pa_cons (pv 1) (pa_cons (pv 2) pa_nil)))) pa_nil)))))), ?_⟩
    cases st with
    | none =>
      have e : sv = V.non := hs
      subst e
      refine ⟨_, rfl, rfl, _, rfl, iteT ?_⟩
      exact q
    | some z =>
      obtain ⟨sp, e, hs⟩ := hs
      subst e
      refine ⟨_, rfl, rfl, _, rfl, iteF ?_⟩
      refine ⟨_, rfl, sp, _, 0, _, rfl, rfl, hs, rfl, _, rfl, _, rfl, n, t, b, dr, rfl, n0, hd, _, _, rfl, rfl, ?_⟩
      refine ⟨_, rfl, sp, _, 1, _, rfl, rfl, hs, rfl, _, rfl, _, rfl, n, t, b, dr, rfl, n0, hd, _, _, rfl, rfl, len2, fun p np => ?_⟩
      exact q p np

theorem ok_set_between {P : Program} {w : World} {K : PySem.W.Frag} {mg : Str → Option Value} {base : Heap} {a : Nat → Addr} {d : Nat → FuncData} (T : Txt K mg a d) : FnOk P w K mg base CX0 2 (a 26) (d 26) ["told", "low", "high"] (spSB K) := by
  refine T.F_set_between.ok sc_set_between (fun vs H Q E h => ?_) (fun cdv A outer s0 H vs Q E hr h => ?_)
  · obtain ⟨tv, st, low, high, rfl, hs, hlh, hle, q⟩ := h
    rfl
  · obtain ⟨tv, st, low, high, rfl, hs, hlh, hle, q⟩ := h
    refine ⟨_, (pss_cons (ps_if (PW.pt (pw_or (pt_not (pt_truth (pe_call (ok_is_whole T) (hr.mono (by decide)) (by rfl) T.g_is_whole T.F_is_whole.kp T.b_is_whole .nil pass0 (pa_cons (pv 1) pa_nil)) (by intro _; rfl))) (pw_or (pt_not (pt_truth (pe_call (ok_is_whole T) (hr.mono (by decide)) (by rfl) T.g_is_whole T.F_is_whole.kp T.b_is_whole .nil pass0 (pa_cons (pv 2) pa_nil)) (by intro _; rfl))) (pw_or1 (pt_cmpR op_gt (pv 1) (pv 2) (nomark _)))))) (pss_one ps_never) pss_nil) (pss_cons (ps_if (pt_cmpR op_isN (pv 0) pe_non (nomark _)) (pss_one (ps_ret (pe_tup (pa_cons (pv 1) (pa_cons (pv 2) pa_nil))))) pss_nil) (pss_cons (ps_set (i := 3) sc_set_between.nd rfl (Or.inl rfl) (pe_callB (call_max2 rfl) (by rfl) T.z_max (by decide +kernel) (pa_cons (pv 1) (pa_cons (pe_ix ix_tup (pv 0) pe_int (fun _ _ => rfl)) pa_nil)))) (pss_cons (ps_set (i := 4) sc_set_between.nd rfl (Or.inl rfl) (pe_callB (call_min2 rfl) (by rfl) T.z_min (by decide +kernel) (pa_cons (pv 2) (pa_cons (pe_ix ix_tup (pv 0) pe_int (fun _ _ => rfl)) pa_nil)))) (pss_cons (ps_if (pt_cmpR op_gt (pv 3) (pv 4) (nomark _)) (pss_one ps_never) pss_nil) (pss_one (ps_ret (pe_tup (pa_cons (pv 3) (pa_cons (pv 4) pa_nil)))))))))), ?_⟩
    refine ⟨_, rfl, low, rfl, true, rfl, iteF ?_⟩
    refine ⟨_, rfl, high, rfl, true, rfl, iteF ?_⟩
    refine ⟨_, rfl, _, rfl, low, high, rfl, rfl, _, rfl, iteDF (by omega) ?_⟩
    cases st with
    | none =>
      have e : tv = V.non := hs
      subst e
      refine ⟨_, rfl, rfl, _, rfl, iteT ?_⟩
      exact ⟨_, rfl, _, rfl, len2, fun p np => q p np⟩
    | some z =>
      obtain ⟨sp, e, hs⟩ := hs
      subst e
      refine ⟨_, rfl, rfl, _, rfl, iteF ?_⟩
      refine ⟨_, rfl, _, rfl, sp, _, 0, _, rfl, rfl, hs, rfl, low, _, rfl, ?_⟩
      refine ⟨_, rfl, _, rfl, sp, _, 1, _, rfl, rfl, hs, rfl, high, _, rfl, ?_⟩
      refine ⟨_, rfl, _, rfl, _, _, rfl, rfl, _, rfl, iteDF (Int.not_lt.mpr hle) ?_⟩
      exact ⟨_, rfl, _, rfl, len2, fun p np => q p np⟩

theorem ok_Clock___init__ {P : Program} {w : World} {K : PySem.W.Frag} {mg : Str → Option Value} {base : Heap} {a : Nat → Addr} {d : Nat → FuncData} (T : Txt K mg a d) : FnOk P w K mg base CX0 5 (a 9) (d 9) ["self", "drift"] (spInit K (a 27)) := by
  refine T.F_Clock___init__.ok (CX := CX0) sc_Clock___init__ (fun vs H Q E h => ?_) (fun cdv A outer s0 H vs Q E hr h => ?_)
  · obtain ⟨x, dr, dx, t, b, rfl, hx, hd, q⟩ := h
    rfl
  · obtain ⟨x, dr, dx, t, b, rfl, hx, hd, q⟩ := h
    refine ⟨_, PSs.nox (pss_cons (ps_if (pt_not (pt_truth (pe_call (ok_is_drift T) (hr.mono (by decide)) (by rfl) T.g_is_drift T.F_is_drift.kp T.b_is_drift .nil pass0 (pa_cons (pv 1) pa_nil)) (by intro _; rfl))) (pss_one ps_never) pss_nil) (pss_cons (ps_fld (pv 0) (pv 1) rfl) (pss_cons (ps_fld (pv 0) pe_non rfl) (pss_one (ps_fld (pv 0) pe_int rfl))))), ?_⟩
    refine ⟨_, rfl, dr, t, b, rfl, hd, fun H1 s1 => ⟨true, rfl, iteF ?_⟩⟩
    refine ⟨_, rfl, _, rfl, x, _, dx, _, rfl, s1 _ _ hx, T.cl, T.n_most_drift, (by decide), ?_⟩
    refine ⟨_, rfl, x, _, dx, _, rfl, upd_same, T.cl, T.n_stands, (by show 1 < 1000; decide), ?_⟩
    refine ⟨_, rfl, x, _, dx, _, rfl, upd_same, T.cl, T.n_counted, (by simp only [putF, if_neg ne_ms]; show 2 < 1000; decide), ?_⟩
    have f1 : ∀ o1 o2 o3, Fr x H (upd (upd (upd H1 x o1) x o2) x o3) := fun _ _ _ => (((fr_same s1).put).put).put
    exact q _ (f1 _ _ _) ⟨⟨dx, .non, upd_same, rfl⟩, hd.fr (f1 _ _ _) hx trivial, Int.le_refl 0⟩

theorem ok_Clock_is_set {P : Program} {w : World} {K : PySem.W.Frag} {mg : Str → Option Value} {base : Heap} {a : Nat → Addr} {d : Nat → FuncData} (T : Txt K mg a d) : FnOk P w K mg base CX0 1 (a 11) (d 11) ["self"] (spIsSet K (a 27)) := by
  refine T.F_Clock_is_set.ok sc_Clock_is_set (fun vs H Q E h => ?_) (fun cdv A outer s0 H vs Q E hr h => ?_)
  · obtain ⟨c, dr, t, b, st, n, rfl, ⟨⟨dx, sv, hc, hs⟩, hd, nn⟩, q⟩ := h
    rfl
  · obtain ⟨c, dr, t, b, st, n, rfl, ⟨⟨dx, sv, hc, hs⟩, hd, nn⟩, q⟩ := h
    refine ⟨_, (pss_one (ps_ret (pe_cmpR op_notN (pe_fld (pv 0) rfl) pe_non (nomark _)))), ?_⟩
    refine ⟨_, rfl, c, _, dx, _, _, rfl, hc, T.cl, T.n_stands, cf_s _ _ _, rfl, ?_⟩
    cases st with
    | none =>
      have e : sv = V.non := hs
      subst e
      exact q
    | some z =>
      obtain ⟨p, e, _⟩ := hs
      subst e
      exact q

theorem ok_Clock_bounds {P : Program} {w : World} {K : PySem.W.Frag} {mg : Str → Option Value} {base : Heap} {a : Nat → Addr} {d : Nat → FuncData} (T : Txt K mg a d) : FnOk P w K mg base CX0 5 (a 14) (d 14) ["self"] (spBounds K (a 27)) := by
  refine T.F_Clock_bounds.ok sc_Clock_bounds (fun vs H Q E h => ?_) (fun cdv A outer s0 H vs Q E hr h => ?_)
  · obtain ⟨c, dr, t, b, lo, hi, n, rfl, hk, q⟩ := h
    rfl
  · obtain ⟨c, dr, t, b, lo, hi, n, rfl, hk, q⟩ := h
    obtain ⟨⟨dx, sv, hc, hs⟩, hd, nn⟩ := id hk
    obtain ⟨sp, rfl, hs'⟩ := id hs
    refine ⟨_, (pss_cons (ps_if (pt_cmpR op_isN (pe_fld (pv 0) rfl) pe_non (nomark _)) (pss_one ps_never) pss_nil) (pss_one (ps_ret (pe_call (ok_bounds_behind T) (hr.mono (by decide)) (by rfl) T.g_bounds_behind T.F_bounds_behind.kp T.b_bounds_behind .nil pass0 (pa_cons (pe_fld (pv 0) rfl) (pa_cons (pe_fld (pv 0) rfl) (pa_cons (pe_fld (pv 0) rfl) pa_nil))))))), ?_⟩
    refine ⟨_, rfl, c, _, dx, _, _, rfl, hc, T.cl, T.n_stands, cf_s _ _ _, rfl, _, rfl, iteF ?_⟩
    refine ⟨_, rfl, c, _, dx, _, _, rfl, hc, T.cl, T.n_stands, cf_s _ _ _, _, rfl, c, _, dx, _, _, rfl, hc, T.cl, T.n_counted, cf_c _ _ _, _, rfl, c, _, dx, _, _, rfl, hc, T.cl, T.n_most_drift, cf_m _ _ _, ?_⟩
    exact ⟨_, some (lo, hi), n, dr, t, b, rfl, hs, nn, hd, fun p np => q p np⟩

theorem ok_Clock_set_to {P : Program} {w : World} {K : PySem.W.Frag} {mg : Str → Option Value} {base : Heap} {a : Nat → Addr} {d : Nat → FuncData} (T : Txt K mg a d) : FnOk P w K mg base CX0 6 (a 12) (d 12) ["self", "low", "high"] (spSet K (a 27)) := by
  refine T.F_Clock_set_to.ok sc_Clock_set_to (fun vs H Q E h => ?_) (fun cdv A outer s0 H vs Q E hr h => ?_)
  · obtain ⟨c, dr, t, b, st, n, low, high, rfl, hk, hlh, hle, q⟩ := h
    rfl
  · obtain ⟨c, dr, t, b, st, n, low, high, rfl, hk, hlh, hle, q⟩ := h
    refine ⟨_, (pss_cons (ps_set (i := 3) sc_Clock_set_to.nd rfl (Or.inl rfl) (pe_call (ok_bounds_behind T) (hr.mono (by decide)) (by rfl) T.g_bounds_behind T.F_bounds_behind.kp T.b_bounds_behind .nil pass0 (pa_cons (pe_fld (pv 0) rfl) (pa_cons (pe_fld (pv 0) rfl) (pa_cons (pe_fld (pv 0) rfl) pa_nil))))) (pss_cons (ps_fld (pv 0) (pe_call (ok_set_between T) (hr.mono (by decide)) (by rfl) T.g_set_between T.F_set_between.kp T.b_set_between .nil pass0 (pa_cons (pv 3) (pa_cons (pv 1) (pa_cons (pv 2) pa_nil)))) rfl) (pss_one (ps_fld (pv 0) pe_int rfl)))), ?_⟩
    obtain ⟨⟨dx, sv, hc, hs⟩, hd, nn⟩ := id hk
    refine ⟨_, rfl, c, _, dx, _, _, rfl, hc, T.cl, T.n_stands, cf_s _ _ _, _, rfl, c, _, dx, _, _, rfl, hc, T.cl, T.n_counted, cf_c _ _ _, _, rfl, c, _, dx, _, _, rfl, hc, T.cl, T.n_most_drift, cf_m _ _ _, ?_⟩
    refine ⟨_, st, n, dr, t, b, rfl, hs, nn, hd, ?_⟩
    cases st with
    | none =>
      refine ⟨_, rfl, _, rfl, _, rfl, _, none, low, high, rfl, rfl, hlh, hle, fun p np => ?_⟩
      have npc : c ≠ p := ne_of_none hc np
      refine ⟨_, rfl, c, _, dx, _, rfl, (by rw [upd_ne npc]; exact hc), T.cl, T.n_stands, cf_len _ _ _, ?_⟩
      refine ⟨_, rfl, c, _, dx, _, rfl, upd_same, T.cl, T.n_counted, (by rw [cf_put_s]; exact cf_len _ _ _), ?_⟩
      rw [cf_put_s, cf_put_c]
      have f1 : Fr c H (upd (upd (upd H p (.tup [.int low, .int high])) c (.ins (a 27) dx (cf (.ref dr) (.ref p) n))) c (.ins (a 27) dx (cf (.ref dr) (.ref p) 0))) := (((Fr.refl c H).new np).put).put
      exact q _ f1 ⟨⟨dx, .ref p, upd_same, p, rfl, SqT.of (by rw [upd_ne npc.symm, upd_ne npc.symm]; exact upd_same)⟩, hd.fr f1 hc trivial, Int.le_refl 0⟩
    | some z =>
      obtain ⟨lo, hi⟩ := z
      intro p1 np1
      refine ⟨_, rfl, _, rfl, _, rfl, _, some (lo + leastP n t b, hi + mostP n t b), low, high, rfl, ⟨p1, rfl, SqT.of upd_same⟩, hlh, hle, fun p np => ?_⟩
      have hc1 : upd H p1 (.tup [.int (lo + leastP n t b), .int (hi + mostP n t b)]) c = some (.ins (a 27) dx (cf (.ref dr) sv n)) := by
        rw [upd_ne (ne_of_none hc np1)]
        exact hc
      have npc : c ≠ p := ne_of_none hc1 np
      refine ⟨_, rfl, c, _, dx, _, rfl, (by rw [upd_ne npc]; exact hc1), T.cl, T.n_stands, cf_len _ _ _, ?_⟩
      refine ⟨_, rfl, c, _, dx, _, rfl, upd_same, T.cl, T.n_counted, (by rw [cf_put_s]; exact cf_len _ _ _), ?_⟩
      rw [cf_put_s, cf_put_c]
      have f1 : Fr c H (upd (upd (upd (upd H p1 (.tup [.int (lo + leastP n t b), .int (hi + mostP n t b)])) p (.tup [.int (setLow low (some (lo, hi)) t b n), .int (setHigh high (some (lo, hi)) t b n)])) c (.ins (a 27) dx (cf (.ref dr) (.ref p) n))) c (.ins (a 27) dx (cf (.ref dr) (.ref p) 0))) := ((((Fr.refl c H).new np1).new np).put).put
      exact q _ f1 ⟨⟨dx, .ref p, upd_same, p, rfl, SqT.of (by rw [upd_ne npc.symm, upd_ne npc.symm]; exact upd_same)⟩, hd.fr f1 hc trivial, Int.le_refl 0⟩

theorem ok_Clock_tick {P : Program} {w : World} {K : PySem.W.Frag} {mg : Str → Option Value} {base : Heap} {a : Nat → Addr} {d : Nat → FuncData} (T : Txt K mg a d) : FnOk P w K mg base CX0 4 (a 13) (d 13) ["self", "many"] (spTick K (a 27)) := by
  refine T.F_Clock_tick.ok (CX := CX0) sc_Clock_tick (fun vs H Q E h => ?_) (fun cdv A outer s0 H vs Q E hr h => ?_)
  · obtain ⟨c, dr, t, b, st, n, m, rfl, hk, m0, q⟩ := h
    rfl
  · obtain ⟨c, dr, t, b, st, n, m, rfl, hk, m0, q⟩ := h
    obtain ⟨⟨dx, sv, hc, hs⟩, hd, nn⟩ := id hk
    refine ⟨_, PSs.nox (pss_cons (ps_expr (pe_call (ok_refuse_no_count T) (hr.mono (by decide)) (by rfl) T.g_refuse_no_count T.F_refuse_no_count.kp T.b_refuse_no_count .nil pass0 (pa_cons (pv 1) pa_nil))) (pss_one (ps_fldaug (pv 0) (pv 1) in_add))), ?_⟩
    refine ⟨_, rfl, m, rfl, m0, ?_⟩
    refine ⟨_, rfl, c, _, dx, _, _, rfl, hc, T.cl, T.n_counted, cf_c _ _ _, _, rfl, n, m, rfl, rfl, dx, _, hc, cf_len _ _ _, ?_⟩
    rw [cf_put_c]
    have f1 : Fr c H (upd H c (.ins (a 27) dx (cf (.ref dr) sv (n + m)))) := (Fr.refl c H).put
    exact q _ f1 ⟨⟨dx, sv, upd_same, hs.fr f1 hc trivial⟩, hd.fr f1 hc trivial, by omega⟩

theorem ok_Clock_is_past {P : Program} {w : World} {K : PySem.W.Frag} {mg : Str → Option Value} {base : Heap} {a : Nat → Addr} {d : Nat → FuncData} (T : Txt K mg a d) : FnOk P w K mg base CX0 6 (a 15) (d 15) ["self", "time"] (spPast K (a 27)) := by
  refine T.F_Clock_is_past.ok sc_Clock_is_past (fun vs H Q E h => ?_) (fun cdv A outer s0 H vs Q E hr h => ?_)
  · obtain ⟨c, dr, t, b, lo, hi, n, m, rfl, hk, q⟩ := h
    rfl
  · obtain ⟨c, dr, t, b, lo, hi, n, m, rfl, hk, q⟩ := h
    obtain ⟨⟨dx, sv, hc, hs⟩, hd, nn⟩ := id hk
    refine ⟨_, (pss_one (ps_ret (pe_cmpR op_gt (pe_ix ix_tup (pe_meth0 (pv 0) T.cl T.m_Clock_bounds (ok_Clock_bounds T) (hr.mono (by decide)) T.b_Clock_bounds .nil pass0) pe_int (fun _ _ => rfl)) (pv 1) (nomark _)))), ?_⟩
    refine ⟨_, rfl, c, dx, _, rfl, hc, cf_no _ _ _ (by decide +kernel) (by decide +kernel) (by decide +kernel), c, dr, t, b, lo, hi, n, rfl, hk, fun p np => ?_⟩
    refine ⟨p, _, 0, _, rfl, rfl, SqT.of upd_same, rfl, _, rfl, _, _, rfl, rfl, ?_⟩
    exact q _ (same_new (Same.refl H) np)

theorem ok_Clock_is_ahead {P : Program} {w : World} {K : PySem.W.Frag} {mg : Str → Option Value} {base : Heap} {a : Nat → Addr} {d : Nat → FuncData} (T : Txt K mg a d) : FnOk P w K mg base CX0 6 (a 16) (d 16) ["self", "time"] (spAhead K (a 27)) := by
  refine T.F_Clock_is_ahead.ok sc_Clock_is_ahead (fun vs H Q E h => ?_) (fun cdv A outer s0 H vs Q E hr h => ?_)
  · obtain ⟨c, dr, t, b, lo, hi, n, m, rfl, hk, q⟩ := h
    rfl
  · obtain ⟨c, dr, t, b, lo, hi, n, m, rfl, hk, q⟩ := h
    obtain ⟨⟨dx, sv, hc, hs⟩, hd, nn⟩ := id hk
    refine ⟨_, (pss_one (ps_ret (pe_cmpR op_lt (pe_ix ix_tup (pe_meth0 (pv 0) T.cl T.m_Clock_bounds (ok_Clock_bounds T) (hr.mono (by decide)) T.b_Clock_bounds .nil pass0) pe_int (fun _ _ => rfl)) (pv 1) (nomark _)))), ?_⟩
    refine ⟨_, rfl, c, dx, _, rfl, hc, cf_no _ _ _ (by decide +kernel) (by decide +kernel) (by decide +kernel), c, dr, t, b, lo, hi, n, rfl, hk, fun p np => ?_⟩
    refine ⟨p, _, 1, _, rfl, rfl, SqT.of upd_same, rfl, _, rfl, _, _, rfl, rfl, ?_⟩
    exact q _ (same_new (Same.refl H) np)

theorem ok_l_bag {P : Program} {w : World} {K : PySem.W.Frag} {mg : Str → Option Value} {base : Heap} {a : Nat → Addr} {d : Nat → FuncData} (T : Txt K mg a d) : FnOk P w K mg base CX0 1 (a 17) (d 17) ["_law_script", "_law_k"] (spBag K) := by
  refine T.F_l_bag.ok sc_l_bag (fun vs H Q E h => ?_) (fun cdv A outer s0 H vs Q E hr h => ?_)
  · obtain ⟨l, ns, k, rfl, hS, hk0, hk1, q⟩ := h
    rfl
  · obtain ⟨l, ns, k, rfl, hS, hk0, hk1, q⟩ := h
    obtain ⟨k, rfl⟩ := Int.eq_ofNat_of_zero_le hk0
    refine ⟨_, (pss_cons (ps_set (i := 2) sc_l_bag.nd rfl (Or.inl rfl) pe_int) (pss_cons (ps_if (pt_cmpR op_lt (pv 1) (pe_callB call_len_seq (by rfl) T.z_len PySem.boot_len (pa_cons (pv 0) pa_nil)) (nomark _)) (pss_one (ps_set (i := 2) sc_l_bag.nd rfl (Or.inl rfl) (pe_ix ix_list (pv 0) (pv 1) (fun _ _ => rfl)))) pss_nil) (pss_cons (ps_set (i := 3) sc_l_bag.nd rfl (Or.inl rfl) pe_int) (pss_cons (ps_if (pt_cmpR op_ge (pv 2) (pe_op op_pow pe_int pe_int) (nomark _)) (pss_one (ps_set (i := 3) sc_l_bag.nd rfl (Or.inl rfl) (pv 2))) pss_nil) (pss_one (ps_ret (pe_lst (pa_cons (pv 3) (pa_cons (pe_op op_mod (pe_op op_pow (pe_op op_add (pe_op op_add (pe_op op_mod (pv 2) pe_int) (pe_op op_mul pe_int (pv 1))) pe_int) pe_int) pe_int) pa_nil))))))))), ?_⟩
    have fin : ∀ cell great : Int, ∀ p4, H p4 = none → BagAt (upd H p4 (.lst [.int great, .int ((cell % 998244353 + 7368787 * (k : Int) + 41) ^ (3 : Int).toNat % 2147483629)])) p4 := fun cell great p4 n4 =>
      ⟨_, _, upd_same, Int.emod_nonneg _ (by decide), Int.lt_trans (Int.emod_lt_of_pos _ (by decide)) (by decide)⟩
    have pw : ∀ cell : Int, (cell % 998244353 + 7368787 * (k : Int) + 41).natAbs < 2 ^ 64 := fun cell => by
      have h1 := Int.emod_nonneg cell (show (998244353 : Int) ≠ 0 by decide)
      have h2 := Int.emod_lt_of_pos cell (show (0 : Int) < 998244353 by decide)
      have e : (2 : Nat) ^ 64 = 18446744073709551616 := by decide
      rw [e]
      omega
    refine ⟨_, rfl, _, rfl, l, _, rfl, .inl hS, _, _, rfl, rfl, _, rfl, ?_⟩
    refine ite2 (fun hlt => ?_) (fun hlt => ?_)
    · have hlt' : k < ns.length := by
        have z := of_decide_eq_true hlt
        rw [List.length_map] at z
        omega
      refine ⟨_, rfl, _, rfl, l, _, _, _, rfl, rfl, hS, atI_nat (j := k) (v := .int ns[k]) (by rw [List.getElem?_map, List.getElem?_eq_getElem hlt']; rfl), ?_⟩
      refine ⟨_, rfl, 10, 18, rfl, rfl, ⟨by decide, by decide, by decide⟩, _, _, rfl, rfl, _, rfl, ?_⟩
      refine ite2 (fun _ => ?_) (fun _ => ?_)
      · refine ⟨_, rfl, ?_⟩
        refine ⟨_, rfl, _, rfl, _, _, rfl, rfl, (by show (0 : Int) < 998244353; decide), _, rfl, _, k, rfl, rfl, .inl (m64 (by decide) (by decide)), _, _, rfl, rfl, _, 41, rfl, rfl, _, 3, rfl, rfl, ⟨by decide, by decide, pw _⟩, _, _, rfl, rfl, (by show (0 : Int) < 2147483629; decide), len2, fun p4 n4 => ?_⟩
        exact q p4 _ n4 (same_new (Same.refl H) n4) (fin _ _ p4 n4)
      · refine ⟨_, rfl, _, rfl, _, _, rfl, rfl, (by show (0 : Int) < 998244353; decide), _, rfl, _, k, rfl, rfl, .inl (m64 (by decide) (by decide)), _, _, rfl, rfl, _, 41, rfl, rfl, _, 3, rfl, rfl, ⟨by decide, by decide, pw _⟩, _, _, rfl, rfl, (by show (0 : Int) < 2147483629; decide), len2, fun p4 n4 => ?_⟩
        exact q p4 _ n4 (same_new (Same.refl H) n4) (fin _ _ p4 n4)
    · refine ⟨_, rfl, 10, 18, rfl, rfl, ⟨by decide, by decide, by decide⟩, _, _, rfl, rfl, _, rfl, ?_⟩
      refine iteDF (by decide) ?_
      refine ⟨_, rfl, _, rfl, _, _, rfl, rfl, (by show (0 : Int) < 998244353; decide), _, rfl, _, k, rfl, rfl, .inl (m64 (by decide) (by decide)), _, _, rfl, rfl, _, 41, rfl, rfl, _, 3, rfl, rfl, ⟨by decide, by decide, pw _⟩, _, _, rfl, rfl, (by show (0 : Int) < 2147483629; decide), len2, fun p4 n4 => ?_⟩
      exact q p4 _ n4 (same_new (Same.refl H) n4) (fin _ _ p4 n4)

theorem ok_l_out {P : Program} {w : World} {K : PySem.W.Frag} {mg : Str → Option Value} {base : Heap} {a : Nat → Addr} {d : Nat → FuncData} (T : Txt K mg a d) : FnOk P w K mg base CX0 1 (a 18) (d 18) ["_law_bag_here", "_law_many"] spOut := by
  refine T.F_l_out.ok sc_l_out (fun vs H Q E h => ?_) (fun cdv A outer s0 H vs Q E hr h => ?_)
  · obtain ⟨s, m, rfl, ⟨x, y, hs, y0, y1⟩, m0, m1, q⟩ := h
    rfl
  · obtain ⟨s, m, rfl, ⟨x, y, hs, y0, y1⟩, m0, m1, q⟩ := h
    refine ⟨_, (pss_cons (ps_if (pt_cmpR op_gt (pe_ix ix_list (pv 0) pe_int (fun _ _ => rfl)) pe_int (nomark _)) (pss_cons (ps_set (i := 2) sc_l_out.nd rfl (Or.inl rfl) (pe_op op_mod (pe_ix ix_list (pv 0) pe_int (fun _ _ => rfl)) (pv 1))) (pss_cons (ps_asg (pe_op op_fdivW (pe_ix ix_list (pv 0) pe_int (fun _ _ => rfl)) (pv 1)) (pg_sub (pv 0) pe_int set_list)) (pss_one (ps_ret (pv 2))))) pss_nil) (pss_cons (ps_asg (pe_op op_mod (pe_op op_add (pe_op op_mul (pe_ix ix_list (pv 0) pe_int (fun _ _ => rfl)) pe_int) pe_int) pe_int) (pg_sub (pv 0) pe_int set_list)) (pss_one (ps_ret (pe_op op_mod (pe_op op_fdiv (pe_op op_mod (pe_op op_mul (pe_ix ix_list (pv 0) pe_int (fun _ _ => rfl)) (pe_op op_add (pe_op op_fdiv (pe_ix ix_list (pv 0) pe_int (fun _ _ => rfl)) pe_int) pe_int)) pe_int) pe_int) (pv 1)))))), ?_⟩
    refine ⟨_, rfl, s, _, 0, _, rfl, rfl, SqL.of hs, rfl, x, 0, rfl, rfl, _, rfl, ?_⟩
    refine ite2 (fun _ => ?_) (fun _ => ?_)
    · refine ⟨_, rfl, s, _, 0, _, rfl, rfl, SqL.of hs, rfl, _, rfl, x, m, rfl, rfl, m0, ?_⟩
      refine ⟨_, rfl, s, _, 0, _, rfl, rfl, SqL.of hs, rfl, _, rfl, x, m, rfl, rfl, divW m0 m1, _, rfl, s, _, 0, 0, rfl, rfl, hs, rfl, ?_⟩
      refine ⟨_, rfl, ?_⟩
      exact q _ _ (Int.emod_nonneg _ (by omega)) (Int.emod_lt_of_pos _ m0) (Fr.refl s H).put ⟨_, _, upd_same, y0, y1⟩
    · refine ⟨_, rfl, s, _, 1, _, rfl, rfl, SqL.of hs, rfl, y, 40692, rfl, rfl, .inr (m64 (by decide) (by decide)), _, 12345, rfl, rfl, _, 2147483399, rfl, rfl, (by show (0 : Int) < 2147483399; decide), _, rfl, s, _, 1, 1, rfl, rfl, hs, rfl, ?_⟩
      have e0 : 0 ≤ (y * 40692 + 12345) % 2147483399 := Int.emod_nonneg _ (by decide)
      have e1 : (y * 40692 + 12345) % 2147483399 < 2147483399 := Int.emod_lt_of_pos _ (by decide)
      refine ⟨_, rfl, s, _, 1, _, rfl, rfl, SqL.of upd_same, rfl, _, rfl, s, _, 1, _, rfl, rfl, SqL.of upd_same, rfl, _, 1024, rfl, rfl, ⟨by decide, by decide⟩, _, 7, rfl, rfl, _, _, rfl, rfl, .inl (m64 (by omega) (by omega)), _, 2147483647, rfl, rfl, (by show (0 : Int) < 2147483647; decide), _, 32, rfl, rfl, ⟨by decide, by decide⟩, _, rfl, _, m, rfl, rfl, m0, ?_⟩
      exact q _ _ (Int.emod_nonneg _ (by omega)) (Int.emod_lt_of_pos _ m0) (Fr.refl s H).put ⟨_, _, upd_same, e0, by omega⟩

theorem ok_l_drift {P : Program} {w : World} {K : PySem.W.Frag} {mg : Str → Option Value} {base : Heap} {a : Nat → Addr} {d : Nat → FuncData} (T : Txt K mg a d) : FnOk P w K mg base CX0 2 (a 19) (d 19) ["_law_bag_here"] (spLDrift K) := by
  refine T.F_l_drift.ok sc_l_drift (fun vs H Q E h => ?_) (fun cdv A outer s0 H vs Q E hr h => ?_)
  · obtain ⟨s, rfl, hs, q⟩ := h
    rfl
  · obtain ⟨s, rfl, hs, q⟩ := h
    refine ⟨_, (pss_cons (ps_set (i := 1) sc_l_drift.nd rfl (Or.inl rfl) (pe_op op_add pe_int (pe_call (ok_l_out T) (hr.mono (by decide)) (by rfl) T.g_l_out T.F_l_out.kp T.b_l_out .nil pass0 (pa_cons (pv 0) (pa_cons (pe_ix ix_list (pe_lst (pa_cons pe_int (pa_cons pe_int (pa_cons pe_int (pa_cons pe_int pa_nil))))) (pe_call (ok_l_out T) (hr.mono (by decide)) (by rfl) T.g_l_out T.F_l_out.kp T.b_l_out .nil pass0 (pa_cons (pv 0) (pa_cons pe_int pa_nil))) (fun _ _ => rfl)) pa_nil))))) (pss_cons (ps_set (i := 2) sc_l_drift.nd rfl (Or.inl rfl) (pe_call (ok_l_out T) (hr.mono (by decide)) (by rfl) T.g_l_out T.F_l_out.kp T.b_l_out .nil pass0 (pa_cons (pv 0) (pa_cons (pv 1) pa_nil)))) (pss_cons (ps_set (i := 3) sc_l_drift.nd rfl (Or.inl rfl) (pv 2)) (pss_cons (ps_set (i := 4) sc_l_drift.nd rfl (Or.inl rfl) (pv 1)) (pss_cons (ps_while PassesOwn.never (pt_cmpR op_gt (pv 4) pe_int (nomark _)) (pss_one (ps_par (i := 3) (j := 4) (by rfl) sc_l_drift.nd rfl rfl (by decide) rfl rfl (pa_cons (pv 4) (pa_cons (pe_op op_mod (pv 3) (pv 4)) pa_nil)) (by rfl)))) (pss_one (ps_ret (pe_tup (pa_cons (pe_op op_fdivW (pv 2) (pv 3)) (pa_cons (pe_op op_fdivW (pv 1) (pv 3)) pa_nil)))))))))), ?_⟩
    refine ⟨_, rfl, (by decide : 4 ≤ sizeLine), fun p1 n1 => ?_⟩
    refine ⟨_, rfl, s, 4, rfl, hs.new n1, (by decide), (by decide), fun r1 H1 r10 r11 k1 b1 => ?_⟩
    have g1 : H1 p1 = some (.lst [.int 1, .int 9, .int 100, .int 1000]) := k1 _ _ (hs.ne_new n1) upd_same
    obtain ⟨z, hz, z0, z1⟩ : ∃ z : Int, atI [V.int 1, V.int 9, V.int 100, V.int 1000] r1 = some (V.int z) ∧ 0 < z ∧ z ≤ 1000 := by
      have : r1 = 0 ∨ r1 = 1 ∨ r1 = 2 ∨ r1 = 3 := by omega
      rcases this with rfl | rfl | rfl | rfl
      · exact ⟨1, rfl, by decide, by decide⟩
      · exact ⟨9, rfl, by decide, by decide⟩
      · exact ⟨100, rfl, by decide, by decide⟩
      · exact ⟨1000, rfl, by decide, by decide⟩
    have f1 : Fr s H H1 := ((Fr.refl s H).new n1).trans k1
    refine ⟨p1, _, r1, _, rfl, rfl, SqL.of g1, hz, ?_⟩
    refine ⟨s, z, rfl, b1, z0, by omega, fun r2 H2 r20 r21 k2 b2 => ?_⟩
    have f2 := f1.trans k2
    refine ⟨1, r2, rfl, rfl, ?_⟩
    refine ⟨_, rfl, _, rfl, s, _, rfl, b2, by omega, by omega, fun r3 H3 r30 r31 k3 b3 => ?_⟩
    have f3 := f2.trans k3
    refine ⟨_, rfl, _, rfl, ?_⟩
    refine ⟨fun m σ H' => H' = H3 ∧ ∃ h t : Int, σ = [some (.ref s), some (.int (1 + r2)), some (.int r3), some (.int h), some (.int t)] ∧ m = t.toNat ∧ 0 ≤ h ∧ 0 ≤ t ∧ Int.gcd h t = Int.gcd r3 (1 + r2), ⟨_, rfl, r3, 1 + r2, rfl, rfl, r30, by omega, rfl⟩, ?_⟩
    rintro m σ H' ⟨rfl, h, t, rfl, rfl, h0, t0, eg⟩
    refine ⟨_, rfl, t, 0, rfl, rfl, _, rfl, ?_⟩
    by_cases tp : 0 < t
    · refine iteDT tp ?_
      refine ⟨_, fun _ _ z => z, ?_⟩
      refine ⟨_, rfl, _, rfl, _, rfl, h, t, rfl, rfl, tp, _, _, rfl, ?_⟩
      have e0 := Int.emod_nonneg h (show t ≠ 0 by omega)
      have e1 := Int.emod_lt_of_pos h tp
      exact ⟨(h % t).toNat, by omega, rfl, t, h % t, rfl, rfl, t0, e0, (gcd_turn h0 tp).trans eg⟩
    · refine iteDF tp ?_
      have hz : t = 0 := by omega
      subst hz
      obtain ⟨hp, e1, e2, e3, hl⟩ := low_end r30 (by omega) h0 eg
      refine ⟨_, rfl, _, rfl, r3, h, rfl, rfl, divW hp (by omega), _, rfl, _, rfl, 1 + r2, h, rfl, rfl, divW hp (by omega), len2, fun p np => ?_⟩
      have t0' := nn_of_mul hp r30 e1
      have l0 := pos_of_mul hp (show 0 < 1 + r2 by omega) e2
      have l1 := le_of_gmul hp (Int.le_of_lt l0) e2
      exact q _ _ p _ (f3.new np) (b3.new np) ⟨SqT.of upd_same, t0', lt_cancel hp (by omega), by omega, e3⟩ upd_same

theorem ok_Clock_drift {P : Program} {w : World} {K : PySem.W.Frag} {mg : Str → Option Value} {base : Heap} {a : Nat → Addr} {d : Nat → FuncData} (T : Txt K mg a d) : FnOk P w K mg base CX0 1 (a 10) (d 10) ["self"] (spDriftM K (a 27)) := by
  refine T.F_Clock_drift.ok sc_Clock_drift (fun vs H Q E h => ?_) (fun cdv A outer s0 H vs Q E hr h => ?_)
  · obtain ⟨c, dr, t, b, st, n, rfl, ⟨⟨dx, sv, hc, hs⟩, hd, nn⟩, q⟩ := h
    rfl
  · obtain ⟨c, dr, t, b, st, n, rfl, ⟨⟨dx, sv, hc, hs⟩, hd, nn⟩, q⟩ := h
    refine ⟨_, (pss_one (ps_ret (pe_fld (pv 0) rfl))), ?_⟩
    exact ⟨_, rfl, c, _, dx, _, _, rfl, hc, T.cl, T.n_most_drift, cf_m _ _ _, q⟩

theorem ok_l_is_least {P : Program} {w : World} {K : PySem.W.Frag} {mg : Str → Option Value} {base : Heap} {a : Nat → Addr} {d : Nat → FuncData} (T : Txt K mg a d) : FnOk P w K mg base CX0 1 (a 20) (d 20) ["_law_passed", "_law_count", "_law_drift_here"] (spIsLeast K) := by
  refine T.F_l_is_least.ok sc_l_is_least (fun vs H Q E h => ?_) (fun cdv A outer s0 H vs Q E hr h => ?_)
  · obtain ⟨p, n, t, b, dr, rfl, ⟨hS, t0, tb, b1, _⟩, n0, rfl, q⟩ := h
    rfl
  · obtain ⟨p, n, t, b, dr, rfl, ⟨hS, t0, tb, b1, _⟩, n0, rfl, q⟩ := h
    refine ⟨_, (pss_cons (ps_asg (pv 2) (pg_tup (by rfl) (pgs_cons (pg_name (i := 3) sc_l_is_least.nd rfl (.inl rfl)) (pgs_cons (pg_name (i := 4) sc_l_is_least.nd rfl (.inl rfl)) pgs_nil)))) (pss_cons (ps_if (PW.pt (pw_or (pt_cmpR op_lt (pv 0) pe_int (nomark _)) (pw_or1 (pt_cmpR op_lt (pe_op op_mul (pv 0) (pe_op op_add (pv 4) (pv 3))) (pe_op op_mul (pv 1) (pv 4)) (nomark _))))) (pss_one (ps_ret pe_bl)) pss_nil) (pss_one (ps_ret (pe_cmpR op_lt (pe_op op_mul (pe_op op_sub (pv 0) pe_int) (pe_op op_add (pv 4) (pv 3))) (pe_op op_mul (pv 1) (pv 4)) (nomark _)))))), ?_⟩
    have e1 := least_nn (n := n) t0 tb n0
    have e2 := least_ge (n := n) t0 tb
    have e3 := least_fits (n := n) t0 tb
    refine ⟨_, rfl, dr, _, rfl, hS, rfl, _, _, rfl, _, _, rfl, rfl, ?_⟩
    refine ⟨_, rfl, _, 0, rfl, rfl, _, rfl, iteDF (by omega) ?_⟩
    refine ⟨_, rfl, _, rfl, _, rfl, b, t, rfl, rfl, _, b + t, rfl, rfl, .inr (m64 (by omega) (by omega)), _, rfl, _, rfl, n, b, rfl, rfl, .inr (m64 (by omega) (by omega)), _, _, rfl, rfl, _, rfl, iteDF (by omega) ?_⟩
    refine ⟨_, rfl, _, 1, rfl, rfl, _, rfl, _, rfl, b, t, rfl, rfl, _, b + t, rfl, rfl, .inr (m64 (by omega) (by omega)), _, rfl, _, rfl, n, b, rfl, rfl, .inr (m64 (by omega) (by omega)), _, _, rfl, rfl, ?_⟩
    exact bl_of (Q := Q) e3 q

theorem ok_l_is_most {P : Program} {w : World} {K : PySem.W.Frag} {mg : Str → Option Value} {base : Heap} {a : Nat → Addr} {d : Nat → FuncData} (T : Txt K mg a d) : FnOk P w K mg base CX0 1 (a 21) (d 21) ["_law_passed", "_law_count", "_law_drift_here"] (spIsMost K) := by
  refine T.F_l_is_most.ok sc_l_is_most (fun vs H Q E h => ?_) (fun cdv A outer s0 H vs Q E hr h => ?_)
  · obtain ⟨p, n, t, b, dr, rfl, ⟨hS, t0, tb, b1, _⟩, n0, rfl, q⟩ := h
    rfl
  · obtain ⟨p, n, t, b, dr, rfl, ⟨hS, t0, tb, b1, _⟩, n0, rfl, q⟩ := h
    refine ⟨_, (pss_cons (ps_asg (pv 2) (pg_tup (by rfl) (pgs_cons (pg_name (i := 3) sc_l_is_most.nd rfl (.inl rfl)) (pgs_cons (pg_name (i := 4) sc_l_is_most.nd rfl (.inl rfl)) pgs_nil)))) (pss_cons (ps_if (pt_cmpR op_ge (pe_op op_mul (pv 0) (pe_op op_sub (pv 4) (pv 3))) (pe_op op_mul (pe_op op_add (pv 1) pe_int) (pv 4)) (nomark _)) (pss_one (ps_ret pe_bl)) pss_nil) (pss_one (ps_ret (pe_cmpR op_ge (pe_op op_mul (pe_op op_add (pv 0) pe_int) (pe_op op_sub (pv 4) (pv 3))) (pe_op op_mul (pe_op op_add (pv 1) pe_int) (pv 4)) (nomark _)))))), ?_⟩
    have e2 := most_lt (n := n) t0 tb
    have e3 := most_fits (n := n) t0 tb
    refine ⟨_, rfl, dr, _, rfl, hS, rfl, _, _, rfl, _, _, rfl, rfl, ?_⟩
    refine ⟨_, rfl, _, rfl, _, rfl, b, t, rfl, rfl, _, b - t, rfl, rfl, .inr (m64 (by omega) (by omega)), _, rfl, n, 1, rfl, rfl, _, rfl, n + 1, b, rfl, rfl, .inr (m64 (by omega) (by omega)), _, _, rfl, rfl, _, rfl, iteDF (by omega) ?_⟩
    refine ⟨_, rfl, _, 1, rfl, rfl, _, rfl, _, rfl, b, t, rfl, rfl, _, b - t, rfl, rfl, .inr (m64 (by omega) (by omega)), _, rfl, n, 1, rfl, rfl, _, rfl, n + 1, b, rfl, rfl, .inr (m64 (by omega) (by omega)), _, _, rfl, rfl, ?_⟩
    exact bl_of (Q := Q) e3 q

theorem ok_l_sides_right {P : Program} {w : World} {K : PySem.W.Frag} {mg : Str → Option Value} {base : Heap} {a : Nat → Addr} {d : Nat → FuncData} (T : Txt K mg a d) : FnG P w K mg base 7 (a 22) (d 22) ["_law_clock", "_law_low", "_law_high"] (spSides K (a 27)) := by
  refine fnG_mk T.F_l_sides_right sc_l_sides_right (fun vs H Q E h => ?_) (fun cdv A outer s0 H vs Q E gd hr h => ?_)
  · obtain ⟨c, dr, t, b, lo, hi, n, low, high, rfl, hk, el, eh, q⟩ := h
    rfl
  · obtain ⟨c, dr, t, b, lo, hi, n, low, high, rfl, hk, el, eh, q⟩ := h
    refine ⟨_, (pss_cons (ps_for PassesOwn.never rfl (pi_list (pe_lst (pa_cons (pe_op op_sub (pv 1) pe_int) (pa_cons (pv 1) (pa_cons (pv 2) (pa_cons (pe_op op_add (pv 2) pe_int) (pa_cons (pe_op op_sub (pv 1) (pe_op op_pow pe_int pe_int)) (pa_cons (pe_op op_add (pv 2) (pe_op op_pow pe_int pe_int)) pa_nil)))))))) (pg_name (i := 3) sc_l_sides_right.nd rfl (.inl rfl)) (pss_one (ps_if (pt_cmpR op_ne (pe_callB (call_reprD gd (room66 hr)) (by rfl) T.z_repr (by decide +kernel) (pa_cons (pe_lst (pa_cons (pe_meth (pv 0) T.cl T.m_Clock_is_past (ok_Clock_is_past T) (hr.mono (by decide)) T.b_Clock_is_past .nil pass0 (pa_cons (pv 3) pa_nil)) (pa_cons (pe_meth (pv 0) T.cl T.m_Clock_is_ahead (ok_Clock_is_ahead T) (hr.mono (by decide)) T.b_Clock_is_ahead .nil pass0 (pa_cons (pv 3) pa_nil)) pa_nil))) pa_nil)) (pe_callB (call_reprD gd (room66 hr)) (by rfl) T.z_repr (by decide +kernel) (pa_cons (pe_lst (pa_cons (pe_cmpR op_lt (pv 3) (pv 1) (nomark _)) (pa_cons (pe_cmpR op_gt (pv 3) (pv 2) (nomark _)) pa_nil))) pa_nil)) (nomark _)) (pss_one (ps_ret pe_bl)) pss_nil))) (pss_one (ps_ret pe_bl))), ?_⟩
    obtain ⟨dx, sv, hc, _⟩ := hk.at_
    refine ⟨_, rfl, low, 1, rfl, rfl, _, rfl, _, rfl, _, rfl, high, 1, rfl, rfl, _, rfl, 10, 9, rfl, rfl, ⟨by decide, by decide, by decide⟩, low, _, rfl, rfl, _, rfl, 10, 9, rfl, rfl, ⟨by decide, by decide, by decide⟩, high, _, rfl, rfl, (by decide : 6 ≤ sizeLine), fun pl npl => ?_⟩
    refine ⟨pl, rfl, ⟨_, SqL.of upd_same⟩, ?_⟩
    refine for_list (K := K) (a := pl) (xs := ([low - 1, low, high, high + 1, low - 10 ^ (9 : Int).toNat, high + 10 ^ (9 : Int).toNat] : List Int).map V.int) (fun i σ H' => (Same H H' ∧ H' pl = some (.lst (([low - 1, low, high, high + 1, low - 10 ^ (9 : Int).toNat, high + 10 ^ (9 : Int).toNat] : List Int).map V.int))) ∧ ∃ v : Option V, σ = [some (.ref c), some (.int low), some (.int high), v])
      ⟨⟨same_new (Same.refl H) npl, upd_same⟩, none, rfl⟩ (fun i σ H' _ z => SqL.of z.1.2) ?_ ?_
    · rintro i y σ H1 hiy ⟨⟨sa, hpl⟩, v, rfl⟩
      obtain ⟨u, rfl⟩ : ∃ u, y = V.int u := by
        rw [List.getElem?_map] at hiy
        cases e : ([low - 1, low, high, high + 1, low - 10 ^ (9 : Int).toNat, high + 10 ^ (9 : Int).toNat] : List Int)[i]? with
        | none =>
          rw [e] at hiy
          cases hiy
        | some u =>
          rw [e] at hiy
          exact ⟨u, (Option.some.inj hiy).symm⟩
      refine ⟨_, rfl, c, dx, _, rfl, sa _ _ hc, cf_no _ _ _ (by decide +kernel) (by decide +kernel) (by decide +kernel), _, rfl, c, dr, t, b, lo, hi, n, u, rfl, hk.same sa, fun H2 s2 => ?_⟩
      have sb := sa.trans s2
      refine ⟨_, rfl, c, dx, _, rfl, sb _ _ hc, cf_no _ _ _ (by decide +kernel) (by decide +kernel) (by decide +kernel), _, rfl, c, dr, t, b, lo, hi, n, u, rfl, hk.same sb, fun H3 s3 => ?_⟩
      have sc := sb.trans s3
      refine ⟨len2, fun p1 np1 => ?_⟩
      have tw := two_bools (decide (u < lo + leastP n t b)) (decide (hi + mostP n t b < u))
      refine ⟨p1, .list [.bool (decide (u < lo + leastP n t b)), .bool (decide (hi + mostP n t b < u))], rfl, .lst (SqL.of upd_same) (.cons (.bl _) (.cons (.bl _) .nil)), tw.1, tw.2.1, tw.2.2.1, tw.2.2.2, ?_⟩
      refine ⟨_, rfl, _, rfl, u, low, rfl, rfl, _, rfl, _, rfl, u, high, rfl, rfl, len2, fun p2 np2 => ?_⟩
      have e1 : decide (u < low) = decide (u < lo + leastP n t b) := by rw [el]
      have e2 : decide (high < u) = decide (hi + mostP n t b < u) := by rw [eh]
      refine ⟨p2, .list [.bool (decide (u < lo + leastP n t b)), .bool (decide (hi + mostP n t b < u))], rfl, .lst (SqL.of upd_same) ?_, tw.1, tw.2.1, tw.2.2.1, tw.2.2.2, rfl, _, rfl, iteNS rfl ?_⟩
      · show DpAll _ _ [V.bl (decide (u < low)), V.bl (decide (high < u))] _
        rw [e1, e2]
        exact .cons (.bl _) (.cons (.bl _) .nil)
      · have sd := same_new (o := .lst [.bl (decide (u < low)), .bl (decide (high < u))]) (same_new (o := .lst [.bl (decide (u < lo + leastP n t b)), .bl (decide (hi + mostP n t b < u))]) (Same.refl H3) np1) np2
        exact ⟨⟨sc.trans sd, sd _ _ (s3 _ _ (s2 _ _ hpl))⟩, _, rfl⟩
    · rintro σ H1 ⟨⟨sa, _⟩, v, rfl⟩
      exact q H1 sa

theorem ok_l_right {P : Program} {w : World} {K : PySem.W.Frag} {mg : Str → Option Value} {base : Heap} {a : Nat → Addr} {d : Nat → FuncData} (T : Txt K mg a d) : FnG P w K mg base 8 (a 23) (d 23) ["_law_clock", "_law_low", "_law_high", "_law_count", "_law_drift_here"] (spRight K (a 27)) := by
  refine fnG_mk T.F_l_right sc_l_right (fun vs H Q E h => ?_) (fun cdv A outer s0 H vs Q E gd hr h => ?_)
  · obtain ⟨c, dr, t, b, lo, hi, n, rfl, hk, q⟩ := h
    rfl
  · obtain ⟨c, dr, t, b, lo, hi, n, rfl, hk, q⟩ := h
    refine ⟨_, (pss_cons (ps_set (i := 5) sc_l_right.nd rfl (Or.inl rfl) (pe_meth0 (pv 0) T.cl T.m_Clock_bounds (ok_Clock_bounds T) (hr.mono (by decide)) T.b_Clock_bounds .nil pass0)) (pss_cons (ps_if (PW.pt (pw_or (pt_not (pt_truth (pe_callB call_isi (by rfl) T.z_isinstance (by decide +kernel) (pa_cons (pv 5) (pa_cons (pe_bltn (v := .ty "tuple") (by rfl) T.z_tuple (by decide +kernel) rfl) pa_nil))) (by intro _; rfl))) (pw_or (pt_cmpR op_ne (pe_callB call_len_seq (by rfl) T.z_len PySem.boot_len (pa_cons (pv 5) pa_nil)) pe_int (nomark _)) (pw_or1 (pt_cmpR (op_neD hr.units) (pe_meth0 (pv 0) T.cl T.m_Clock_bounds (ok_Clock_bounds T) (hr.mono (by decide)) T.b_Clock_bounds .nil pass0) (pv 5) (nomark _)))))) (pss_one (ps_ret pe_bl)) pss_nil) (pss_cons (ps_if (PW.pt (pw_or (pt_not (pt_truth (pe_call (ok_l_is_least T) (hr.mono (by decide)) (by rfl) T.g_l_is_least T.F_l_is_least.kp T.b_l_is_least .nil pass0 (pa_cons (pe_op op_sub (pe_ix ix_tup (pv 5) pe_int (fun _ _ => rfl)) (pv 1)) (pa_cons (pv 3) (pa_cons (pv 4) pa_nil)))) (by intro _; rfl))) (pw_or1 (pt_not (pt_truth (pe_call (ok_l_is_most T) (hr.mono (by decide)) (by rfl) T.g_l_is_most T.F_l_is_most.kp T.b_l_is_most .nil pass0 (pa_cons (pe_op op_sub (pe_ix ix_tup (pv 5) pe_int (fun _ _ => rfl)) (pv 2)) (pa_cons (pv 3) (pa_cons (pv 4) pa_nil)))) (by intro _; rfl)))))) (pss_one (ps_ret pe_bl)) pss_nil) (pss_one (ps_ret (pe_callG (ok_l_sides_right T) gd (hr.mono (by decide)) (by rfl) T.g_l_sides_right T.F_l_sides_right.kp T.b_l_sides_right pass0 (pa_cons (pv 0) (pa_cons (pe_ix ix_tup (pv 5) pe_int (fun _ _ => rfl)) (pa_cons (pe_ix ix_tup (pv 5) pe_int (fun _ _ => rfl)) pa_nil))))))))), ?_⟩
    obtain ⟨dx, sv, hc, _⟩ := hk.at_
    refine ⟨_, rfl, c, dx, _, rfl, hc, cf_no _ _ _ (by decide +kernel) (by decide +kernel) (by decide +kernel), c, dr, t, b, lo, hi, n, rfl, hk, fun p np => ?_⟩
    have s1 : Same H (upd H p (.tup [.int (lo + leastP n t b), .int (hi + mostP n t b)])) := same_new (Same.refl H) np
    have hp : (upd H p (.tup [.int (lo + leastP n t b), .int (hi + mostP n t b)])) p = some (.tup [.int (lo + leastP n t b), .int (hi + mostP n t b)]) := upd_same
    generalize (upd H p (.tup [.int (lo + leastP n t b), .int (hi + mostP n t b)])) = H1 at s1 hp ⊢
    have hk1 := hk.same s1
    refine ⟨_, rfl, _, _, .type "tuple", .type "tuple", true, rfl, .ty "tuple", sqt_ty (SqT.of hp), kit_ty (by decide +kernel), true, rfl, iteF ?_⟩
    refine ⟨_, rfl, p, _, rfl, .inr (SqT.of hp), rfl, _, rfl, iteNS rfl ?_⟩
    refine ⟨_, rfl, c, dx, _, rfl, s1 _ _ hc, cf_no _ _ _ (by decide +kernel) (by decide +kernel) (by decide +kernel), c, dr, t, b, lo, hi, n, rfl, hk1, fun p2 np2 => ?_⟩
    have s2 : ∀ o, Same H1 (upd H1 p2 o) := fun _ => same_new (Same.refl H1) np2
    refine ⟨_, rfl, .tuple [.int (lo + leastP n t b), .int (hi + mostP n t b)], .tuple [.int (lo + leastP n t b), .int (hi + mostP n t b)], .tup (SqT.of upd_same) (.cons (.int _) (.cons (.int _) .nil)), .tup (SqT.of ((s2 _) _ _ hp)) (.cons (.int _) (.cons (.int _) .nil)), rfl, rfl, _, rfl, iteBF (by rw [eqv_two rfl rfl]; rfl) ?_⟩
    have s12 := s1.trans (s2 (.tup [.int (lo + leastP n t b), .int (hi + mostP n t b)]))
    have hp2 := (s2 (.tup [.int (lo + leastP n t b), .int (hi + mostP n t b)])) _ _ hp
    generalize (upd H1 p2 (.tup [.int (lo + leastP n t b), .int (hi + mostP n t b)])) = H2 at s12 hp2 ⊢
    have hk2 := hk.same s12
    refine ⟨_, rfl, p, _, 0, _, rfl, rfl, SqT.of hp2, rfl, _, rfl, _, lo, rfl, rfl, _, rfl, _, rfl, _, n, t, b, dr, rfl, hk2.dr_, hk.nn, by omega, true, rfl, iteF ?_⟩
    refine ⟨_, rfl, p, _, 1, _, rfl, rfl, SqT.of hp2, rfl, _, rfl, _, hi, rfl, rfl, _, rfl, _, rfl, _, n, t, b, dr, rfl, hk2.dr_, hk.nn, by omega, true, rfl, iteF ?_⟩
    refine ⟨_, rfl, _, rfl, p, _, 0, _, rfl, rfl, SqT.of hp2, rfl, _, rfl, p, _, 1, _, rfl, rfl, SqT.of hp2, rfl, c, dr, t, b, lo, hi, n, _, _, rfl, hk2, rfl, rfl, fun H3 s3 => ?_⟩
    exact q H3 (s12.trans s3)

theorem ok_law {P : Program} {w : World} {K : PySem.W.Frag} {mg : Str → Option Value} {base : Heap} {a : Nat → Addr} {d : Nat → FuncData} (T : Txt K mg a d) : FnG P w K mg base 9 (a 24) (d 24) ["_law_script"] (spLaw K) := by
  refine fnG_mk T.F_law sc_law (fun vs H Q E h => ?_) (fun cdv A outer s0 H vs Q E gd hr h => ?_)
  · obtain ⟨l, ns, rfl, hS, hl, q⟩ := h
    rfl
  · obtain ⟨l, ns, rfl, hS, hl, q⟩ := h
    obtain ⟨ds, vds, bds⟩ := T.c_Clock___init__
    obtain ⟨dt, vtk, btk⟩ := T.c_Clock_tick
    refine ⟨_, (pss_cons (ps_for PassesOwn.never rfl (pi_range1 (by rfl) T.z_range (pa_cons (pe_callB (call_max2 rfl) (by rfl) T.z_max (by decide +kernel) (pa_cons pe_int (pa_cons (pe_callB (call_min2 rfl) (by rfl) T.z_min (by decide +kernel) (pa_cons (pe_callB call_len_seq (by rfl) T.z_len PySem.boot_len (pa_cons (pv 0) pa_nil)) (pa_cons pe_int pa_nil))) pa_nil))) pa_nil)) (pg_name (i := 1) sc_law.nd rfl (.inl rfl)) (pss_cons (ps_set (i := 2) sc_law.nd rfl (Or.inl rfl) (pe_call (ok_l_bag T) (hr.mono (by decide)) (by rfl) T.g_l_bag T.F_l_bag.kp T.b_l_bag .nil pass0 (pa_cons (pv 0) (pa_cons (pv 1) pa_nil)))) (pss_cons (ps_set (i := 3) sc_law.nd rfl (Or.inl rfl) (pe_call (ok_l_drift T) (hr.mono (by decide)) (by rfl) T.g_l_drift T.F_l_drift.kp T.b_l_drift .nil pass0 (pa_cons (pv 2) pa_nil))) (pss_cons (ps_set (i := 4) sc_law.nd rfl (Or.inl rfl) (pe_make T.m_Clock___init__ (ok_Clock___init__ T) (hr.mono (by decide)) (by rfl) T.g_Clock T.b_Clock___init__ .nil pass0 (pa_cons (pv 3) pa_nil))) (pss_cons (ps_set (i := 5) sc_law.nd rfl (Or.inl rfl) (pe_op op_mul (pe_call (ok_l_out T) (hr.mono (by decide)) (by rfl) T.g_l_out T.F_l_out.kp T.b_l_out .nil pass0 (pa_cons (pv 2) (pa_cons (pe_ix ix_list (pe_lst (pa_cons pe_int (pa_cons pe_int (pa_cons (pe_op op_pow pe_int pe_int) pa_nil)))) (pe_call (ok_l_out T) (hr.mono (by decide)) (by rfl) T.g_l_out T.F_l_out.kp T.b_l_out .nil pass0 (pa_cons (pv 2) (pa_cons pe_int pa_nil))) (fun _ _ => rfl)) pa_nil))) (pe_ix ix_list (pe_lst (pa_cons pe_int (pa_cons (pe_un un_neg pe_int) pa_nil))) (pe_call (ok_l_out T) (hr.mono (by decide)) (by rfl) T.g_l_out T.F_l_out.kp T.b_l_out .nil pass0 (pa_cons (pv 2) (pa_cons pe_int pa_nil))) (fun _ _ => rfl)))) (pss_cons (ps_set (i := 6) sc_law.nd rfl (Or.inl rfl) (pe_op op_add (pv 5) (pe_call (ok_l_out T) (hr.mono (by decide)) (by rfl) T.g_l_out T.F_l_out.kp T.b_l_out .nil pass0 (pa_cons (pv 2) (pa_cons (pe_ix ix_list (pe_lst (pa_cons pe_int (pa_cons pe_int (pa_cons (pe_op op_pow pe_int pe_int) pa_nil)))) (pe_call (ok_l_out T) (hr.mono (by decide)) (by rfl) T.g_l_out T.F_l_out.kp T.b_l_out .nil pass0 (pa_cons (pv 2) (pa_cons pe_int pa_nil))) (fun _ _ => rfl)) pa_nil))))) (pss_cons (ps_if (pt_cmpR op_eq (pe_call (ok_l_out T) (hr.mono (by decide)) (by rfl) T.g_l_out T.F_l_out.kp T.b_l_out .nil pass0 (pa_cons (pv 2) (pa_cons pe_int pa_nil))) pe_int (nomark _)) (pss_one (ps_expr (pe_meth (pv 4) T.cl T.m_Clock_tick (ok_Clock_tick T) (hr.mono (by decide)) T.b_Clock_tick .nil pass0 (pa_cons (pe_call (ok_l_out T) (hr.mono (by decide)) (by rfl) T.g_l_out T.F_l_out.kp T.b_l_out .nil pass0 (pa_cons (pv 2) (pa_cons pe_int pa_nil))) pa_nil)))) pss_nil) (pss_cons (ps_if (PW.pt (pw_or (pt_cmpR op_isnot_bl (pe_meth0 (pv 4) T.cl T.m_Clock_is_set (ok_Clock_is_set T) (hr.mono (by decide)) T.b_Clock_is_set .nil pass0) pe_bl (nomark _)) (pw_or (pt_cmpR (op_neD hr.units) (pe_meth0 (pv 4) T.cl T.m_Clock_drift (ok_Clock_drift T) (hr.mono (by decide)) T.b_Clock_drift .nil pass0) (pv 3) (nomark _)) (pw_or1 (pt_cmpR op_notN (pe_meth (pv 4) T.cl T.m_Clock_set_to (ok_Clock_set_to T) (hr.mono (by decide)) T.b_Clock_set_to .nil pass0 (pa_cons (pv 5) (pa_cons (pv 6) pa_nil))) pe_non (nomark _)))))) (pss_one (ps_ret pe_bl)) pss_nil) (pss_cons (ps_set (i := 7) sc_law.nd rfl (Or.inl rfl) pe_int) (pss_cons (ps_if (PW.pt (pw_or (pt_cmpR op_isnot_bl (pe_meth0 (pv 4) T.cl T.m_Clock_is_set (ok_Clock_is_set T) (hr.mono (by decide)) T.b_Clock_is_set .nil pass0) pe_bl (nomark _)) (pw_or1 (pt_not (pt_truth (pe_callG (ok_l_right T) gd (hr.mono (by decide)) (by rfl) T.g_l_right T.F_l_right.kp T.b_l_right pass0 (pa_cons (pv 4) (pa_cons (pv 5) (pa_cons (pv 6) (pa_cons (pv 7) (pa_cons (pv 3) pa_nil)))))) (by intro _; rfl)))))) (pss_one (ps_ret pe_bl)) pss_nil) (pss_one (ps_for PassesOwn.never rfl (pi_range1 (by rfl) T.z_range (pa_cons (pe_call (ok_l_out T) (hr.mono (by decide)) (by rfl) T.g_l_out T.F_l_out.kp T.b_l_out .nil pass0 (pa_cons (pv 2) (pa_cons pe_int pa_nil))) pa_nil)) (pg_name (i := 8) sc_law.nd rfl (.inl rfl)) (pss_cons (ps_set (i := 9) sc_law.nd rfl (Or.inl rfl) (pe_call (ok_l_out T) (hr.mono (by decide)) (by rfl) T.g_l_out T.F_l_out.kp T.b_l_out .nil pass0 (pa_cons (pv 2) (pa_cons (pe_ix ix_list (pe_lst (pa_cons pe_int (pa_cons pe_int (pa_cons pe_int (pa_cons (pe_op op_pow pe_int pe_int) pa_nil))))) (pe_call (ok_l_out T) (hr.mono (by decide)) (by rfl) T.g_l_out T.F_l_out.kp T.b_l_out .nil pass0 (pa_cons (pv 2) (pa_cons pe_int pa_nil))) (fun _ _ => rfl)) pa_nil)))) (pss_cons (ps_set (i := 7) sc_law.nd rfl (Or.inl rfl) (pe_op op_add (pv 7) (pv 9))) (pss_one (ps_if (PW.pt (pw_or (pt_cmpR op_notN (pe_meth (pv 4) T.cl T.m_Clock_tick (ok_Clock_tick T) (hr.mono (by decide)) T.b_Clock_tick .nil pass0 (pa_cons (pv 9) pa_nil)) pe_non (nomark _)) (pw_or1 (pt_not (pt_truth (pe_callG (ok_l_right T) gd (hr.mono (by decide)) (by rfl) T.g_l_right T.F_l_right.kp T.b_l_right pass0 (pa_cons (pv 4) (pa_cons (pv 5) (pa_cons (pv 6) (pa_cons (pv 7) (pa_cons (pv 3) pa_nil)))))) (by intro _; rfl)))))) (pss_one (ps_ret pe_bl)) pss_nil)))))))))))))))) (pss_cons (ps_set (i := 4) sc_law.nd rfl (Or.inl rfl) (pe_make0 T.m_Clock___init__ (ok_Clock___init__ T) (hr.mono (by decide)) (by rfl) T.g_Clock bds vds pass0)) (pss_cons (ps_expr (pe_meth (pv 4) T.cl T.m_Clock_set_to (ok_Clock_set_to T) (hr.mono (by decide)) T.b_Clock_set_to .nil pass0 (pa_cons pe_int (pa_cons pe_int pa_nil)))) (pss_cons (ps_expr (pe_meth0 (pv 4) T.cl T.m_Clock_tick (ok_Clock_tick T) (hr.mono (by decide)) btk vtk pass0)) (pss_one (ps_ret (pe_and (pe_chain (op_eqD hr.units) (op_eqD hr.units) (pe_meth0 (pv 4) T.cl T.m_Clock_drift (ok_Clock_drift T) (hr.mono (by decide)) T.b_Clock_drift .nil pass0) (pe_glob (v := .ref (a 30)) (by rfl) T.g_DRIFT rfl) (pe_tup (pa_cons pe_int (pa_cons pe_int pa_nil)))) (pe_one (pe_callG (ok_l_right T) gd (hr.mono (by decide)) (by rfl) T.g_l_right T.F_l_right.kp T.b_l_right pass0 (pa_cons (pv 4) (pa_cons pe_int (pa_cons pe_int (pa_cons pe_int (pa_cons (pe_glob (v := .ref (a 30)) (by rfl) T.g_DRIFT rfl) pa_nil)))))))))))))), ?_⟩
    refine ⟨_, rfl, l, _, rfl, .inl hS, _, 40, rfl, 1, _, rfl, _, rfl, ?_, ?_, ?_⟩
    · rw [List.length_map]; (repeat' split) <;> omega
    · rw [List.length_map]; (repeat' split) <;> omega
    have hN : (if (if (40 : Int) < ((ns.map V.int).length : Int) then (40 : Int) else ((ns.map V.int).length : Int)) > 1 then (if (40 : Int) < ((ns.map V.int).length : Int) then (40 : Int) else ((ns.map V.int).length : Int)) else (1 : Int)).toNat ≤ 63 := by
      rw [List.length_map]; (repeat' split) <;> omega
    refine for_range (fun i σ H' => Same H H' ∧ ∃ v1 v2 v3 v4 v5 v6 v7 v8 v9 : Option V, σ = [some (.ref l), v1, v2, v3, v4, v5, v6, v7, v8, v9]) ⟨Same.refl H, none, none, none, none, none, none, none, none, none, rfl⟩ ?_ ?_
    · rintro i σ H1 hi ⟨s1, v1, v2, v3, v4, v5, v6, v7, v8, v9, rfl⟩
      refine ⟨_, rfl, _, rfl, l, ns, _, rfl, s1.seq hS, by omega, by omega, fun s H2 ns0 s2 bs2 => ?_⟩
      have sH2 : Same H H2 := s1.trans s2
      have hs0 : H s = none := s1.free ns0
      refine ⟨_, rfl, s, rfl, bs2, fun t b dr H3 k3 b3 hd3 _ => ?_⟩
      have sH3 : Same H H3 := k3.over sH2 hs0
      refine ⟨_, rfl, fun x dx nx ndx nex => ?_⟩
      have sm : Same H3 (upd (upd H3 dx (.own x)) x (.ins (a 27) dx [])) := same_make nx ndx
      have hx0 : H x = none := sH3.free nx
      refine ⟨x, dr, dx, t, b, rfl, upd_same, hd3.same sm, fun H4 k4 hk4 => ⟨rfl, ?_⟩⟩
      have sH4 : Same H H4 := k4.over (sH3.trans sm) hx0
      have b4 : BagAt H4 s := (b3.same sm).fr k4 (b3.ne_none nx)
      -- low
      refine ⟨_, rfl, 10, 18, rfl, rfl, ⟨by decide, by decide, by decide⟩, len3, fun p1 np1 => ?_⟩
      refine ⟨_, rfl, s, 3, rfl, b4.new np1, (by decide), (by decide), fun r1 H5 r10 r11 k5 b5 => ?_⟩
      have g1 : H5 p1 = some (.lst [.int 3, .int 1000, .int (10 ^ (18 : Int).toNat)]) := k5 _ _ (b4.ne_new np1) upd_same
      obtain ⟨z1, hz1, z10, z11⟩ : ∃ z : Int, atI [V.int 3, V.int 1000, V.int (10 ^ (18 : Int).toNat)] r1 = some (V.int z) ∧ 0 < z ∧ z ≤ 1000000000000000000 := by
        have : r1 = 0 ∨ r1 = 1 ∨ r1 = 2 := by omega
        rcases this with rfl | rfl | rfl
        · exact ⟨3, rfl, by decide, by decide⟩
        · exact ⟨1000, rfl, by decide, by decide⟩
        · exact ⟨10 ^ (18 : Int).toNat, rfl, by decide, by decide⟩
      have f5 := ((Fr.refl s H4).new np1).trans k5
      refine ⟨p1, _, r1, _, rfl, rfl, SqL.of g1, hz1, s, z1, rfl, b5, z10, by omega, fun r2 H6 r20 r21 k6 b6 => ?_⟩
      have f6 := f5.trans k6
      refine ⟨1, rfl, len2, fun p2 np2 => ?_⟩
      refine ⟨_, rfl, s, 2, rfl, b6.new np2, (by decide), (by decide), fun r3 H7 r30 r31 k7 b7 => ?_⟩
      have g2 : H7 p2 = some (.lst [.int 1, .int (-1)]) := k7 _ _ (b6.ne_new np2) upd_same
      obtain ⟨sg, hsg, sg0, sg1⟩ : ∃ z : Int, atI [V.int 1, V.int (-1)] r3 = some (V.int z) ∧ -1 ≤ z ∧ z ≤ 1 := by
        have : r3 = 0 ∨ r3 = 1 := by omega
        rcases this with rfl | rfl
        · exact ⟨1, rfl, by decide, by decide⟩
        · exact ⟨-1, rfl, by decide, by decide⟩
      have f7 := (f6.new np2).trans k7
      refine ⟨p2, _, r3, _, rfl, rfl, SqL.of g2, hsg, r2, sg, rfl, rfl, .inr (m64 (by omega) (by omega)), ?_⟩
      -- high
      refine ⟨_, rfl, _, rfl, 10, 9, rfl, rfl, ⟨by decide, by decide, by decide⟩, len3, fun p3 np3 => ?_⟩
      refine ⟨_, rfl, s, 3, rfl, b7.new np3, (by decide), (by decide), fun r3' H8 r3'0 r3'1 k8 b8 => ?_⟩
      have g3 : H8 p3 = some (.lst [.int 1, .int 4, .int (10 ^ (9 : Int).toNat)]) := k8 _ _ (b7.ne_new np3) upd_same
      obtain ⟨z3, hz3, z30, z31⟩ : ∃ z : Int, atI [V.int 1, V.int 4, V.int (10 ^ (9 : Int).toNat)] r3' = some (V.int z) ∧ 0 < z ∧ z ≤ 1000000000 := by
        have : r3' = 0 ∨ r3' = 1 ∨ r3' = 2 := by omega
        rcases this with rfl | rfl | rfl
        · exact ⟨1, rfl, by decide, by decide⟩
        · exact ⟨4, rfl, by decide, by decide⟩
        · exact ⟨10 ^ (9 : Int).toNat, rfl, by decide, by decide⟩
      have f8 := (f7.new np3).trans k8
      refine ⟨p3, _, r3', _, rfl, rfl, SqL.of g3, hz3, s, z3, rfl, b8, z30, by omega, fun r4 H9 r40 r41 k9 b9 => ⟨(r2 * sg), r4, rfl, rfl, ?_⟩⟩
      have f9 := f8.trans k9
      -- perhaps counted ahead
      refine ⟨_, rfl, s, 2, rfl, b9, (by decide), (by decide), fun r5 Ha _ _ ka ba => ⟨rfl, _, rfl, ite2 (fun _ => ?_) (fun _ => ?_)⟩⟩
      · have fa' := f9.trans ka
        have hka := hk4.bag fa' b4
        have sa : Same H Ha := fa'.over sH4 hs0
        obtain ⟨dxa, sva, hca, _⟩ := hka.at_
        refine ⟨_, rfl, x, dxa, _, rfl, hca, cf_no _ _ _ (by decide +kernel) (by decide +kernel) (by decide +kernel), _, rfl, s, 99, rfl, ba, (by decide), (by decide), fun r6 Hb r60 r61 kb bb => ?_⟩
        have hkb := hka.bag kb ba
        refine ⟨x, dr, t, b, none, 0, r6, rfl, hkb, r60, fun Hc kc hkc => ?_⟩
        have sc : Same H Hc := kc.over (kb.over sa hs0) hx0
        have bc : BagAt Hc s := bb.ck kc hkb
        obtain ⟨dxq, svq, hcq, _⟩ := hkc.at_
        refine ⟨_, rfl, x, dxq, _, rfl, hcq, cf_no _ _ _ (by decide +kernel) (by decide +kernel) (by decide +kernel), x, dr, t, b, none, _, rfl, hkc, false, false, rfl, rfl, _, rfl, iteNS rfl ?_⟩
        refine ⟨_, rfl, x, dxq, _, rfl, hcq, cf_no _ _ _ (by decide +kernel) (by decide +kernel) (by decide +kernel), x, dr, t, b, none, _, rfl, hkc, _, rfl, .tuple [.int t, .int b], .tuple [.int t, .int b], .tup hkc.dr_.1 (.cons (.int _) (.cons (.int _) .nil)), .tup hkc.dr_.1 (.cons (.int _) (.cons (.int _) .nil)), rfl, rfl, _, rfl, iteBF (by rw [eqv_two rfl rfl]; rfl) ?_⟩
        refine ⟨_, rfl, x, dxq, _, rfl, hcq, cf_no _ _ _ (by decide +kernel) (by decide +kernel) (by decide +kernel), _, rfl, _, rfl, x, dr, t, b, none, _, (r2 * sg), (r2 * sg) + r4, rfl, hkc, by omega, (by show (r2 * sg) ≤ (r2 * sg) + r4; omega), fun Hr kr hkr => ⟨rfl, _, rfl, iteNS rfl ?_⟩⟩
        have sr : Same H Hr := kr.over sc hx0
        have br : BagAt Hr s := bc.ck kr hkc
        obtain ⟨dxr, svr, hcr, _⟩ := hkr.at_
        refine ⟨_, rfl, x, dxr, _, rfl, hcr, cf_no _ _ _ (by decide +kernel) (by decide +kernel) (by decide +kernel), x, dr, t, b, _, 0, rfl, hkr, true, true, rfl, rfl, _, rfl, iteNS rfl ?_⟩
        refine ⟨_, rfl, _, rfl, _, rfl, _, rfl, _, rfl, x, dr, t, b, (r2 * sg), (r2 * sg) + r4, 0, rfl, hkr, fun Ht st => ⟨true, rfl, iteF ?_⟩⟩
        have bt := br.same st
        refine ⟨_, rfl, s, 7, rfl, bt, (by decide), (by decide), fun r7 Hu r70 r71 ku bu => ⟨_, rfl, by omega, by omega, ?_⟩⟩
        refine for_range (fun j σ H' => ∃ (n : Int) (v8 v9 : Option V), σ = [some (.ref l), some (.int (0 + (i : Int))), some (.ref s), some (.ref dr), some (.ref x), some (.int (r2 * sg)), some (.int ((r2 * sg) + r4)), some (.int n), v8, v9] ∧ Same H H' ∧ BagAt H' s ∧ CkAt K (a 27) H' x dr t b (some ((r2 * sg), (r2 * sg) + r4)) n)
          ⟨0, v8, v9, rfl, ku.over (sr.trans st) hs0, bu, (hkr.same st).bag ku bt⟩ ?_ ?_
        · rintro j σ Hv hj ⟨n, v8, v9, rfl, sv, bv, kv⟩
          refine ⟨_, rfl, 10, 9, rfl, rfl, ⟨by decide, by decide, by decide⟩, (by decide : 4 ≤ sizeLine), fun p5 np5 => ?_⟩
          refine ⟨_, rfl, s, 4, rfl, bv.new np5, (by decide), (by decide), fun r8 Hw r80 r81 kw bw => ?_⟩
          have g5 : Hw p5 = some (.lst [.int 2, .int 5, .int 100, .int (10 ^ (9 : Int).toNat)]) := kw _ _ (bv.ne_new np5) upd_same
          obtain ⟨z, hz, z0, z1⟩ : ∃ z : Int, atI [V.int 2, V.int 5, V.int 100, V.int (10 ^ (9 : Int).toNat)] r8 = some (V.int z) ∧ 0 < z ∧ z ≤ 1000000000 := by
            have : r8 = 0 ∨ r8 = 1 ∨ r8 = 2 ∨ r8 = 3 := by omega
            rcases this with rfl | rfl | rfl | rfl
            · exact ⟨2, rfl, by decide, by decide⟩
            · exact ⟨5, rfl, by decide, by decide⟩
            · exact ⟨100, rfl, by decide, by decide⟩
            · exact ⟨10 ^ (9 : Int).toNat, rfl, by decide, by decide⟩
          have fw := ((Fr.refl s Hv).new np5).trans kw
          refine ⟨p5, _, r8, _, rfl, rfl, SqL.of g5, hz, s, z, rfl, bw, z0, by omega, fun r9 Hx r90 r91 kx bx => ?_⟩
          have fx := fw.trans kx
          have hkx := kv.bag fx bv
          have sx : Same H Hx := fx.over sv hs0
          refine ⟨_, rfl, _, rfl, n, r9, rfl, rfl, ?_⟩
          obtain ⟨dxx, svx, hcx, _⟩ := hkx.at_
          refine ⟨_, rfl, x, dxx, _, rfl, hcx, cf_no _ _ _ (by decide +kernel) (by decide +kernel) (by decide +kernel), _, rfl, x, dr, t, b, _, n, r9, rfl, hkx, r90, fun Hy ky hky => ⟨rfl, _, rfl, iteNS rfl ?_⟩⟩
          have sy : Same H Hy := ky.over sx hx0
          refine ⟨_, rfl, _, rfl, _, rfl, _, rfl, _, rfl, x, dr, t, b, (r2 * sg), (r2 * sg) + r4, n + r9, rfl, hky, fun Hz sz => ⟨true, rfl, iteF ?_⟩⟩
          exact ⟨n + r9, _, _, rfl, sy.trans sz, (bx.ck ky hkx).same sz, hky.same sz⟩
        · rintro σ Hv ⟨n, v8, v9, rfl, sv, _⟩
          exact ⟨sv, _, _, _, _, _, _, _, _, _, rfl⟩
      · have fa' := f9.trans ka
        have hka := hk4.bag fa' b4
        have sa : Same H Ha := fa'.over sH4 hs0
        obtain ⟨dxq, svq, hcq, _⟩ := hka.at_
        refine ⟨_, rfl, x, dxq, _, rfl, hcq, cf_no _ _ _ (by decide +kernel) (by decide +kernel) (by decide +kernel), x, dr, t, b, none, _, rfl, hka, false, false, rfl, rfl, _, rfl, iteNS rfl ?_⟩
        refine ⟨_, rfl, x, dxq, _, rfl, hcq, cf_no _ _ _ (by decide +kernel) (by decide +kernel) (by decide +kernel), x, dr, t, b, none, _, rfl, hka, _, rfl, .tuple [.int t, .int b], .tuple [.int t, .int b], .tup hka.dr_.1 (.cons (.int _) (.cons (.int _) .nil)), .tup hka.dr_.1 (.cons (.int _) (.cons (.int _) .nil)), rfl, rfl, _, rfl, iteBF (by rw [eqv_two rfl rfl]; rfl) ?_⟩
        refine ⟨_, rfl, x, dxq, _, rfl, hcq, cf_no _ _ _ (by decide +kernel) (by decide +kernel) (by decide +kernel), _, rfl, _, rfl, x, dr, t, b, none, _, (r2 * sg), (r2 * sg) + r4, rfl, hka, by omega, (by show (r2 * sg) ≤ (r2 * sg) + r4; omega), fun Hr kr hkr => ⟨rfl, _, rfl, iteNS rfl ?_⟩⟩
        have sr : Same H Hr := kr.over sa hx0
        have br : BagAt Hr s := ba.ck kr hka
        obtain ⟨dxr, svr, hcr, _⟩ := hkr.at_
        refine ⟨_, rfl, x, dxr, _, rfl, hcr, cf_no _ _ _ (by decide +kernel) (by decide +kernel) (by decide +kernel), x, dr, t, b, _, 0, rfl, hkr, true, true, rfl, rfl, _, rfl, iteNS rfl ?_⟩
        refine ⟨_, rfl, _, rfl, _, rfl, _, rfl, _, rfl, x, dr, t, b, (r2 * sg), (r2 * sg) + r4, 0, rfl, hkr, fun Ht st => ⟨true, rfl, iteF ?_⟩⟩
        have bt := br.same st
        refine ⟨_, rfl, s, 7, rfl, bt, (by decide), (by decide), fun r7 Hu r70 r71 ku bu => ⟨_, rfl, by omega, by omega, ?_⟩⟩
        refine for_range (fun j σ H' => ∃ (n : Int) (v8 v9 : Option V), σ = [some (.ref l), some (.int (0 + (i : Int))), some (.ref s), some (.ref dr), some (.ref x), some (.int (r2 * sg)), some (.int ((r2 * sg) + r4)), some (.int n), v8, v9] ∧ Same H H' ∧ BagAt H' s ∧ CkAt K (a 27) H' x dr t b (some ((r2 * sg), (r2 * sg) + r4)) n)
          ⟨0, v8, v9, rfl, ku.over (sr.trans st) hs0, bu, (hkr.same st).bag ku bt⟩ ?_ ?_
        · rintro j σ Hv hj ⟨n, v8, v9, rfl, sv, bv, kv⟩
          refine ⟨_, rfl, 10, 9, rfl, rfl, ⟨by decide, by decide, by decide⟩, (by decide : 4 ≤ sizeLine), fun p5 np5 => ?_⟩
          refine ⟨_, rfl, s, 4, rfl, bv.new np5, (by decide), (by decide), fun r8 Hw r80 r81 kw bw => ?_⟩
          have g5 : Hw p5 = some (.lst [.int 2, .int 5, .int 100, .int (10 ^ (9 : Int).toNat)]) := kw _ _ (bv.ne_new np5) upd_same
          obtain ⟨z, hz, z0, z1⟩ : ∃ z : Int, atI [V.int 2, V.int 5, V.int 100, V.int (10 ^ (9 : Int).toNat)] r8 = some (V.int z) ∧ 0 < z ∧ z ≤ 1000000000 := by
            have : r8 = 0 ∨ r8 = 1 ∨ r8 = 2 ∨ r8 = 3 := by omega
            rcases this with rfl | rfl | rfl | rfl
            · exact ⟨2, rfl, by decide, by decide⟩
            · exact ⟨5, rfl, by decide, by decide⟩
            · exact ⟨100, rfl, by decide, by decide⟩
            · exact ⟨10 ^ (9 : Int).toNat, rfl, by decide, by decide⟩
          have fw := ((Fr.refl s Hv).new np5).trans kw
          refine ⟨p5, _, r8, _, rfl, rfl, SqL.of g5, hz, s, z, rfl, bw, z0, by omega, fun r9 Hx r90 r91 kx bx => ?_⟩
          have fx := fw.trans kx
          have hkx := kv.bag fx bv
          have sx : Same H Hx := fx.over sv hs0
          refine ⟨_, rfl, _, rfl, n, r9, rfl, rfl, ?_⟩
          obtain ⟨dxx, svx, hcx, _⟩ := hkx.at_
          refine ⟨_, rfl, x, dxx, _, rfl, hcx, cf_no _ _ _ (by decide +kernel) (by decide +kernel) (by decide +kernel), _, rfl, x, dr, t, b, _, n, r9, rfl, hkx, r90, fun Hy ky hky => ⟨rfl, _, rfl, iteNS rfl ?_⟩⟩
          have sy : Same H Hy := ky.over sx hx0
          refine ⟨_, rfl, _, rfl, _, rfl, _, rfl, _, rfl, x, dr, t, b, (r2 * sg), (r2 * sg) + r4, n + r9, rfl, hky, fun Hz sz => ⟨true, rfl, iteF ?_⟩⟩
          exact ⟨n + r9, _, _, rfl, sy.trans sz, (bx.ck ky hkx).same sz, hky.same sz⟩
        · rintro σ Hv ⟨n, v8, v9, rfl, sv, _⟩
          exact ⟨sv, _, _, _, _, _, _, _, _, _, rfl⟩
    · rintro σ H1 ⟨s1, v1, v2, v3, v4, v5, v6, v7, v8, v9, rfl⟩
      intro x dx nx ndx nex
      have sm : Same H1 (upd (upd H1 dx (.own x)) x (.ins (a 27) dx [])) := same_make nx ndx
      refine ⟨x, (a 30), dx, 1, 100, rfl, upd_same, ⟨T.k_DRIFT _, by decide, by decide, by decide, by decide⟩, fun H2 k2 hk2 => ⟨rfl, ?_⟩⟩
      obtain ⟨dx2, sv2, hc2, _⟩ := hk2.at_
      refine ⟨_, rfl, x, dx2, _, rfl, hc2, cf_no _ _ _ (by decide +kernel) (by decide +kernel) (by decide +kernel), x, (a 30), 1, 100, none, 0, 5, 5, rfl, hk2, by decide, (by show (5 : Int) ≤ 5; decide), fun H3 k3 hk3 => ?_⟩
      obtain ⟨dx3, sv3, hc3, _⟩ := hk3.at_
      refine ⟨_, rfl, x, dx3, _, rfl, hc3, cf_no _ _ _ (by decide +kernel) (by decide +kernel) (by decide +kernel), x, (a 30), 1, 100, _, 0, 1, rfl, hk3, by decide, fun H4 k4 hk4 => ?_⟩
      have hk4' : CkAt K (a 27) H4 x (a 30) 1 100 (some (5, 5)) 1 := hk4
      obtain ⟨dx4, sv4, hc4, _⟩ := hk4'.at_
      refine ⟨_, rfl, x, dx4, _, rfl, hc4, cf_no _ _ _ (by decide +kernel) (by decide +kernel) (by decide +kernel), x, (a 30), 1, 100, _, _, rfl, hk4', .tuple [.int 1, .int 100], .tuple [.int 1, .int 100], .tup (T.k_DRIFT _) (.cons (.int _) (.cons (.int _) .nil)), .tup (T.k_DRIFT _) (.cons (.int _) (.cons (.int _) .nil)), rfl, rfl, _, rfl, iteBT (eqv_two rfl rfl) ?_⟩
      refine ⟨len2, fun p np => ⟨.tuple [.int 1, .int 100], .tuple [.int 1, .int 100], .tup (T.k_DRIFT _) (.cons (.int _) (.cons (.int _) .nil)), .tup (SqT.of upd_same) (.cons (.int _) (.cons (.int _) .nil)), rfl, rfl, _, rfl, iteBT (eqv_two rfl rfl) ?_⟩⟩
      refine ⟨_, rfl, x, (a 30), 1, 100, 5, 5, 1, rfl, hk4'.same (same_new (Same.refl H4) np), fun H5 _ => ?_⟩
      exact q H5

theorem all_mk {l : PySem.W.OpenLaw} {w : World} {K : PySem.W.Frag} {h : Heap} {mg : Str → Option Value} {fa : Addr} {f0 f1 f2 f3 f4 f5 f6 f7 f8 f9 f10 f11 f12 f13 f14 f15 f16 f17 f18 f19 f20 f21 f22 f23 f24 f25 f26 : Addr} (X : K.In h) (G : h.Ns mainGlobals mg) (hfa : mg "law" = some (.ref fa))
    {od0 od1 od2 od3 od4 od5 od6 od7 od8 od9 od10 od11 od12 od13 od14 od15 od16 od17 od18 od19 od20 od21 od22 od23 od24 od25 od26 : Option Addr} {an0 an1 an2 an3 an4 an5 an6 an7 an8 an9 an10 an11 an12 an13 an14 an15 an16 an17 an18 an19 an20 an21 an22 an23 an24 an25 an26 : Option Addr} {sl0 sl1 sl2 sl3 sl4 sl5 sl6 sl7 sl8 sl9 sl10 sl11 sl12 sl13 sl14 sl15 sl16 sl17 sl18 sl19 sl20 sl21 sl22 sl23 sl24 sl25 sl26 : Array (Option Value)} {oc0 kV0 dc0 pm0 cd0 ct0 oc1 kV1 dc1 pm1 cd1 ct1 oc2 kV2 dc2 pm2 cd2 ct2 oc3 kV3 dc3 pm3 cd3 ct3 oc4 kV4 dc4 pm4 cd4 ct4 oc5 kV5 dc5 pm5 cd5 ct5 oc6 kV6 dc6 pm6 cd6 ct6 oc7 kV7 dc7 pm7 cd7 ct7 oc8 kV8 dc8 pm8 cd8 ct8 oc9 kV9 dc9 pm9 cd9 ct9 oc10 kV10 dc10 pm10 cd10 ct10 oc11 kV11 dc11 pm11 cd11 ct11 oc12 kV12 dc12 pm12 cd12 ct12 oc13 kV13 dc13 pm13 cd13 ct13 oc14 kV14 dc14 pm14 cd14 ct14 oc15 kV15 dc15 pm15 cd15 ct15 oc16 kV16 dc16 pm16 cd16 ct16 oc17 kV17 dc17 pm17 cd17 ct17 oc18 kV18 dc18 pm18 cd18 ct18 oc19 kV19 dc19 pm19 cd19 ct19 oc20 kV20 dc20 pm20 cd20 ct20 oc21 kV21 dc21 pm21 cd21 ct21 oc22 kV22 dc22 pm22 cd22 ct22 oc23 kV23 dc23 pm23 cd23 ct23 oc24 kV24 dc24 pm24 cd24 ct24 oc25 kV25 dc25 pm25 cd25 ct25 oc26 kV26 dc26 pm26 cd26 ct26 : Value}
    {fC : Addr}
    {f28 : Addr} {od28 : Option Addr} {n28 : Nat} {sl28 : Array (Option Value)} {t28_0 t28_1 : Tok}
    {t29 : Tok}
    {f30 : Addr} {od30 : Option Addr} {n30 : Nat} {sl30 : Array (Option Value)} {t30_0 t30_1 : Tok}
    {T9 : Addr} {odT9 : Option Addr} {ocT9 : Value} {nT9 : Nat} {slT9 : Array (Option Value)} 
    {T13 : Addr} {odT13 : Option Addr} {ocT13 : Value} {nT13 : Nat} {slT13 : Array (Option Value)} {tT13_0 : Tok}
    (g28 : PySem.W.nsIn K mainGlobals "WHOLE" = some (some (.ref f28))) (l28 : K.lookup f28 = some ⟨.type "tuple", od28, .seq #[.int 1 t28_0, .int 1 t28_1] n28, sl28⟩)
    (g29 : PySem.W.nsIn K mainGlobals "MOST_BOTTOM" = some (some (.int 1000 t29)))
    (g30 : PySem.W.nsIn K mainGlobals "DRIFT" = some (some (.ref f30))) (l30 : K.lookup f30 = some ⟨.type "tuple", od30, .seq #[.int 1 t30_0, .int 100 t30_1] n30, sl30⟩)
    (aC : PySem.W.nsIn K mainGlobals "Clock" = some (some (.ref fC))) (pg : PySem.W.plainGet K fC Str.empty = true) (hd : PySem.W.hasDictIn K fC = true) (po : PySem.W.plainOver K fC = true) (sa : PySem.W.findIn K (.ref fC) "__setattr__" = some (some (.builtin "object.__setattr__"))) (mk : PySem.W.makesIn K fC = true) (kc : PySem.W.keepIn K (.ref fC) = true)
    (nf_most_drift : PySem.W.findIn K (.ref fC) "most_drift" = some none)
    (nf_stands : PySem.W.findIn K (.ref fC) "stands" = some none)
    (nf_counted : PySem.W.findIn K (.ref fC) "counted" = some none)
    (a0 : PySem.W.nsIn K mainGlobals "is_whole" = some (some (.ref f0)))
    (l0 : K.lookup f0 = some ⟨oc0, od0, .func (PySem.W.fnOf "is_whole" "is_whole" (defArgs s_is_whole) (defBody s_is_whole) (defScope s_is_whole) .none kV0 dc0 pm0 an0 cd0 ct0), sl0⟩) (c0 : PySem.W.codeIn K cd0 "is_whole" = true) (k0 : PySem.W.keepIn K (.ref f0) = true)
    (a1 : PySem.W.nsIn K mainGlobals "is_count" = some (some (.ref f1)))
    (l1 : K.lookup f1 = some ⟨oc1, od1, .func (PySem.W.fnOf "is_count" "is_count" (defArgs s_is_count) (defBody s_is_count) (defScope s_is_count) .none kV1 dc1 pm1 an1 cd1 ct1), sl1⟩) (c1 : PySem.W.codeIn K cd1 "is_count" = true) (k1 : PySem.W.keepIn K (.ref f1) = true)
    (a2 : PySem.W.nsIn K mainGlobals "is_from_to" = some (some (.ref f2)))
    (l2 : K.lookup f2 = some ⟨oc2, od2, .func (PySem.W.fnOf "is_from_to" "is_from_to" (defArgs s_is_from_to) (defBody s_is_from_to) (defScope s_is_from_to) .none kV2 dc2 pm2 an2 cd2 ct2), sl2⟩) (c2 : PySem.W.codeIn K cd2 "is_from_to" = true) (k2 : PySem.W.keepIn K (.ref f2) = true)
    (a3 : PySem.W.nsIn K mainGlobals "common_divisor" = some (some (.ref f3)))
    (l3 : K.lookup f3 = some ⟨oc3, od3, .func (PySem.W.fnOf "common_divisor" "common_divisor" (defArgs s_common_divisor) (defBody s_common_divisor) (defScope s_common_divisor) .none kV3 dc3 pm3 an3 cd3 ct3), sl3⟩) (c3 : PySem.W.codeIn K cd3 "common_divisor" = true) (k3 : PySem.W.keepIn K (.ref f3) = true)
    (a4 : PySem.W.nsIn K mainGlobals "is_share" = some (some (.ref f4)))
    (l4 : K.lookup f4 = some ⟨oc4, od4, .func (PySem.W.fnOf "is_share" "is_share" (defArgs s_is_share) (defBody s_is_share) (defScope s_is_share) .none kV4 dc4 pm4 an4 cd4 ct4), sl4⟩) (c4 : PySem.W.codeIn K cd4 "is_share" = true) (k4 : PySem.W.keepIn K (.ref f4) = true)
    (a5 : PySem.W.nsIn K mainGlobals "is_drift" = some (some (.ref f5)))
    (l5 : K.lookup f5 = some ⟨oc5, od5, .func (PySem.W.fnOf "is_drift" "is_drift" (defArgs s_is_drift) (defBody s_is_drift) (defScope s_is_drift) .none kV5 dc5 pm5 an5 cd5 ct5), sl5⟩) (c5 : PySem.W.codeIn K cd5 "is_drift" = true) (k5 : PySem.W.keepIn K (.ref f5) = true)
    (a6 : PySem.W.nsIn K mainGlobals "refuse_no_count" = some (some (.ref f6)))
    (l6 : K.lookup f6 = some ⟨oc6, od6, .func (PySem.W.fnOf "refuse_no_count" "refuse_no_count" (defArgs s_refuse_no_count) (defBody s_refuse_no_count) (defScope s_refuse_no_count) .none kV6 dc6 pm6 an6 cd6 ct6), sl6⟩) (c6 : PySem.W.codeIn K cd6 "refuse_no_count" = true) (k6 : PySem.W.keepIn K (.ref f6) = true)
    (a7 : PySem.W.nsIn K mainGlobals "least_of" = some (some (.ref f7)))
    (l7 : K.lookup f7 = some ⟨oc7, od7, .func (PySem.W.fnOf "least_of" "least_of" (defArgs s_least_of) (defBody s_least_of) (defScope s_least_of) .none kV7 dc7 pm7 an7 cd7 ct7), sl7⟩) (c7 : PySem.W.codeIn K cd7 "least_of" = true) (k7 : PySem.W.keepIn K (.ref f7) = true)
    (a8 : PySem.W.nsIn K mainGlobals "most_of" = some (some (.ref f8)))
    (l8 : K.lookup f8 = some ⟨oc8, od8, .func (PySem.W.fnOf "most_of" "most_of" (defArgs s_most_of) (defBody s_most_of) (defScope s_most_of) .none kV8 dc8 pm8 an8 cd8 ct8), sl8⟩) (c8 : PySem.W.codeIn K cd8 "most_of" = true) (k8 : PySem.W.keepIn K (.ref f8) = true)
    (a9 : PySem.W.findIn K (.ref fC) "__init__" = some (some (.ref f9))) (i9 : PySem.W.isFn K (.ref f9) = true)
    (l9 : K.lookup f9 = some ⟨oc9, od9, .func (PySem.W.fnOf "__init__" "Clock.__init__" (defArgs s_Clock___init__) (defBody s_Clock___init__) (defScope s_Clock___init__) (.ref T9) kV9 dc9 pm9 an9 cd9 ct9), sl9⟩) (c9 : PySem.W.codeIn K cd9 "Clock.__init__" = true) (k9 : PySem.W.keepIn K (.ref f9) = true)
    (lT9 : K.lookup T9 = some ⟨ocT9, odT9, .seq #[.ref f30] nT9, slT9⟩)
    (a10 : PySem.W.findIn K (.ref fC) "drift" = some (some (.ref f10))) (i10 : PySem.W.isFn K (.ref f10) = true)
    (l10 : K.lookup f10 = some ⟨oc10, od10, .func (PySem.W.fnOf "drift" "Clock.drift" (defArgs s_Clock_drift) (defBody s_Clock_drift) (defScope s_Clock_drift) .none kV10 dc10 pm10 an10 cd10 ct10), sl10⟩) (c10 : PySem.W.codeIn K cd10 "Clock.drift" = true) (k10 : PySem.W.keepIn K (.ref f10) = true)
    (a11 : PySem.W.findIn K (.ref fC) "is_set" = some (some (.ref f11))) (i11 : PySem.W.isFn K (.ref f11) = true)
    (l11 : K.lookup f11 = some ⟨oc11, od11, .func (PySem.W.fnOf "is_set" "Clock.is_set" (defArgs s_Clock_is_set) (defBody s_Clock_is_set) (defScope s_Clock_is_set) .none kV11 dc11 pm11 an11 cd11 ct11), sl11⟩) (c11 : PySem.W.codeIn K cd11 "Clock.is_set" = true) (k11 : PySem.W.keepIn K (.ref f11) = true)
    (a12 : PySem.W.findIn K (.ref fC) "set_to" = some (some (.ref f12))) (i12 : PySem.W.isFn K (.ref f12) = true)
    (l12 : K.lookup f12 = some ⟨oc12, od12, .func (PySem.W.fnOf "set_to" "Clock.set_to" (defArgs s_Clock_set_to) (defBody s_Clock_set_to) (defScope s_Clock_set_to) .none kV12 dc12 pm12 an12 cd12 ct12), sl12⟩) (c12 : PySem.W.codeIn K cd12 "Clock.set_to" = true) (k12 : PySem.W.keepIn K (.ref f12) = true)
    (a13 : PySem.W.findIn K (.ref fC) "tick" = some (some (.ref f13))) (i13 : PySem.W.isFn K (.ref f13) = true)
    (l13 : K.lookup f13 = some ⟨oc13, od13, .func (PySem.W.fnOf "tick" "Clock.tick" (defArgs s_Clock_tick) (defBody s_Clock_tick) (defScope s_Clock_tick) (.ref T13) kV13 dc13 pm13 an13 cd13 ct13), sl13⟩) (c13 : PySem.W.codeIn K cd13 "Clock.tick" = true) (k13 : PySem.W.keepIn K (.ref f13) = true)
    (lT13 : K.lookup T13 = some ⟨ocT13, odT13, .seq #[.int 1 tT13_0] nT13, slT13⟩)
    (a14 : PySem.W.findIn K (.ref fC) "bounds" = some (some (.ref f14))) (i14 : PySem.W.isFn K (.ref f14) = true)
    (l14 : K.lookup f14 = some ⟨oc14, od14, .func (PySem.W.fnOf "bounds" "Clock.bounds" (defArgs s_Clock_bounds) (defBody s_Clock_bounds) (defScope s_Clock_bounds) .none kV14 dc14 pm14 an14 cd14 ct14), sl14⟩) (c14 : PySem.W.codeIn K cd14 "Clock.bounds" = true) (k14 : PySem.W.keepIn K (.ref f14) = true)
    (a15 : PySem.W.findIn K (.ref fC) "is_past" = some (some (.ref f15))) (i15 : PySem.W.isFn K (.ref f15) = true)
    (l15 : K.lookup f15 = some ⟨oc15, od15, .func (PySem.W.fnOf "is_past" "Clock.is_past" (defArgs s_Clock_is_past) (defBody s_Clock_is_past) (defScope s_Clock_is_past) .none kV15 dc15 pm15 an15 cd15 ct15), sl15⟩) (c15 : PySem.W.codeIn K cd15 "Clock.is_past" = true) (k15 : PySem.W.keepIn K (.ref f15) = true)
    (a16 : PySem.W.findIn K (.ref fC) "is_ahead" = some (some (.ref f16))) (i16 : PySem.W.isFn K (.ref f16) = true)
    (l16 : K.lookup f16 = some ⟨oc16, od16, .func (PySem.W.fnOf "is_ahead" "Clock.is_ahead" (defArgs s_Clock_is_ahead) (defBody s_Clock_is_ahead) (defScope s_Clock_is_ahead) .none kV16 dc16 pm16 an16 cd16 ct16), sl16⟩) (c16 : PySem.W.codeIn K cd16 "Clock.is_ahead" = true) (k16 : PySem.W.keepIn K (.ref f16) = true)
    (a17 : PySem.W.nsIn K mainGlobals "_law_bag" = some (some (.ref f17)))
    (l17 : K.lookup f17 = some ⟨oc17, od17, .func (PySem.W.fnOf "_law_bag" "_law_bag" (defArgs s_l_bag) (defBody s_l_bag) (defScope s_l_bag) .none kV17 dc17 pm17 an17 cd17 ct17), sl17⟩) (c17 : PySem.W.codeIn K cd17 "_law_bag" = true) (k17 : PySem.W.keepIn K (.ref f17) = true)
    (a18 : PySem.W.nsIn K mainGlobals "_law_out" = some (some (.ref f18)))
    (l18 : K.lookup f18 = some ⟨oc18, od18, .func (PySem.W.fnOf "_law_out" "_law_out" (defArgs s_l_out) (defBody s_l_out) (defScope s_l_out) .none kV18 dc18 pm18 an18 cd18 ct18), sl18⟩) (c18 : PySem.W.codeIn K cd18 "_law_out" = true) (k18 : PySem.W.keepIn K (.ref f18) = true)
    (a19 : PySem.W.nsIn K mainGlobals "_law_drift" = some (some (.ref f19)))
    (l19 : K.lookup f19 = some ⟨oc19, od19, .func (PySem.W.fnOf "_law_drift" "_law_drift" (defArgs s_l_drift) (defBody s_l_drift) (defScope s_l_drift) .none kV19 dc19 pm19 an19 cd19 ct19), sl19⟩) (c19 : PySem.W.codeIn K cd19 "_law_drift" = true) (k19 : PySem.W.keepIn K (.ref f19) = true)
    (a20 : PySem.W.nsIn K mainGlobals "_law_is_least" = some (some (.ref f20)))
    (l20 : K.lookup f20 = some ⟨oc20, od20, .func (PySem.W.fnOf "_law_is_least" "_law_is_least" (defArgs s_l_is_least) (defBody s_l_is_least) (defScope s_l_is_least) .none kV20 dc20 pm20 an20 cd20 ct20), sl20⟩) (c20 : PySem.W.codeIn K cd20 "_law_is_least" = true) (k20 : PySem.W.keepIn K (.ref f20) = true)
    (a21 : PySem.W.nsIn K mainGlobals "_law_is_most" = some (some (.ref f21)))
    (l21 : K.lookup f21 = some ⟨oc21, od21, .func (PySem.W.fnOf "_law_is_most" "_law_is_most" (defArgs s_l_is_most) (defBody s_l_is_most) (defScope s_l_is_most) .none kV21 dc21 pm21 an21 cd21 ct21), sl21⟩) (c21 : PySem.W.codeIn K cd21 "_law_is_most" = true) (k21 : PySem.W.keepIn K (.ref f21) = true)
    (a22 : PySem.W.nsIn K mainGlobals "_law_sides_right" = some (some (.ref f22)))
    (l22 : K.lookup f22 = some ⟨oc22, od22, .func (PySem.W.fnOf "_law_sides_right" "_law_sides_right" (defArgs s_l_sides_right) (defBody s_l_sides_right) (defScope s_l_sides_right) .none kV22 dc22 pm22 an22 cd22 ct22), sl22⟩) (c22 : PySem.W.codeIn K cd22 "_law_sides_right" = true) (k22 : PySem.W.keepIn K (.ref f22) = true)
    (a23 : PySem.W.nsIn K mainGlobals "_law_right" = some (some (.ref f23)))
    (l23 : K.lookup f23 = some ⟨oc23, od23, .func (PySem.W.fnOf "_law_right" "_law_right" (defArgs s_l_right) (defBody s_l_right) (defScope s_l_right) .none kV23 dc23 pm23 an23 cd23 ct23), sl23⟩) (c23 : PySem.W.codeIn K cd23 "_law_right" = true) (k23 : PySem.W.keepIn K (.ref f23) = true)
    (a24 : PySem.W.nsIn K mainGlobals "law" = some (some (.ref f24)))
    (l24 : K.lookup f24 = some ⟨oc24, od24, .func (PySem.W.fnOf "law" "law" (defArgs s_law) (defBody s_law) (defScope s_law) .none kV24 dc24 pm24 an24 cd24 ct24), sl24⟩) (c24 : PySem.W.codeIn K cd24 "law" = true) (k24 : PySem.W.keepIn K (.ref f24) = true)
    (a25 : PySem.W.nsIn K mainGlobals "bounds_behind" = some (some (.ref f25)))
    (l25 : K.lookup f25 = some ⟨oc25, od25, .func (PySem.W.fnOf "bounds_behind" "bounds_behind" (defArgs s_bounds_behind) (defBody s_bounds_behind) (defScope s_bounds_behind) .none kV25 dc25 pm25 an25 cd25 ct25), sl25⟩) (c25 : PySem.W.codeIn K cd25 "bounds_behind" = true) (k25 : PySem.W.keepIn K (.ref f25) = true)
    (a26 : PySem.W.nsIn K mainGlobals "set_between" = some (some (.ref f26)))
    (l26 : K.lookup f26 = some ⟨oc26, od26, .func (PySem.W.fnOf "set_between" "set_between" (defArgs s_set_between) (defBody s_set_between) (defScope s_set_between) .none kV26 dc26 pm26 an26 cd26 ct26), sl26⟩) (c26 : PySem.W.codeIn K cd26 "set_between" = true) (k26 : PySem.W.keepIn K (.ref f26) = true)
    (z_max : PySem.W.nsIn K mainGlobals "max" = some none)
    (z_min : PySem.W.nsIn K mainGlobals "min" = some none)
    (z_len : PySem.W.nsIn K mainGlobals "len" = some none)
    (z_int : PySem.W.nsIn K mainGlobals "int" = some none)
    (z_range : PySem.W.nsIn K mainGlobals "range" = some none)
    (z_isinstance : PySem.W.nsIn K mainGlobals "isinstance" = some none)
    (z_bool : PySem.W.nsIn K mainGlobals "bool" = some none)
    (z_tuple : PySem.W.nsIn K mainGlobals "tuple" = some none)
    (z_all : PySem.W.nsIn K mainGlobals "all" = some none)
    (z_repr : PySem.W.nsIn K mainGlobals "repr" = some none)
    : ∃ fd : FuncData, (∀ (s : Shared) (v : Value), BindsTo s fd ⟨[v], []⟩ [("_law_script", v)]) ∧ ∀ base : Heap, K.In base → base.Ns mainGlobals mg → FnG l.prog w K mg base 9 fa fd ["_law_script"] (spLaw K) := by
  have e := hfa.symm.trans (PySem.W.mg_of X G a24)
  cases e
  have F0 := fun_mk (st := s_is_whole) l0 c0 k0
  have b0 := F0.binds (ps := ["thing"]) fun _ _ _ _ _ _ us hl => match us, hl with | [_], _ => rfl
  have F1 := fun_mk (st := s_is_count) l1 c1 k1
  have b1 := F1.binds (ps := ["thing"]) fun _ _ _ _ _ _ us hl => match us, hl with | [_], _ => rfl
  have F2 := fun_mk (st := s_is_from_to) l2 c2 k2
  have b2 := F2.binds (ps := ["thing", "least", "most"]) fun _ _ _ _ _ _ us hl => match us, hl with | [_, _, _], _ => rfl
  have F3 := fun_mk (st := s_common_divisor) l3 c3 k3
  have b3 := F3.binds (ps := ["first", "second"]) fun _ _ _ _ _ _ us hl => match us, hl with | [_, _], _ => rfl
  have F4 := fun_mk (st := s_is_share) l4 c4 k4
  have b4 := F4.binds (ps := ["thing"]) fun _ _ _ _ _ _ us hl => match us, hl with | [_], _ => rfl
  have F5 := fun_mk (st := s_is_drift) l5 c5 k5
  have b5 := F5.binds (ps := ["thing"]) fun _ _ _ _ _ _ us hl => match us, hl with | [_], _ => rfl
  have F6 := fun_mk (st := s_refuse_no_count) l6 c6 k6
  have b6 := F6.binds (ps := ["thing"]) fun _ _ _ _ _ _ us hl => match us, hl with | [_], _ => rfl
  have F7 := fun_mk (st := s_least_of) l7 c7 k7
  have b7 := F7.binds (ps := ["ticks", "drift"]) fun _ _ _ _ _ _ us hl => match us, hl with | [_, _], _ => rfl
  have F8 := fun_mk (st := s_most_of) l8 c8 k8
  have b8 := F8.binds (ps := ["ticks", "drift"]) fun _ _ _ _ _ _ us hl => match us, hl with | [_, _], _ => rfl
  have F9 : FunD K "__init__" "Clock.__init__" (defArgs s_Clock___init__) (defBody s_Clock___init__) (defScope s_Clock___init__) [V.ref f30] [] f9 (PySem.W.fnOf "__init__" "Clock.__init__" (defArgs s_Clock___init__) (defBody s_Clock___init__) (defScope s_Clock___init__) (.ref T9) kV9 dc9 pm9 an9 cd9 ct9) := ⟨⟨_, _, _, _, _, _, _, _, _, _, rfl, l9, c9, .inr ⟨by simp, _, _, [Value.ref f30], _, rfl, lT9, rfl, (.cons rfl .nil)⟩, .inl rfl⟩, k9⟩
  have b9 : Binds K (PySem.W.fnOf "__init__" "Clock.__init__" (defArgs s_Clock___init__) (defBody s_Clock___init__) (defScope s_Clock___init__) (.ref T9) kV9 dc9 pm9 an9 cd9 ct9) ["self", "drift"] [] := by
    obtain ⟨ds, v, b⟩ := F9.binds1 (ps := ["self", "drift"]) 2 1 (by simp) rfl (fun T kV dc pm an cdv ct us its hu hi => match us, hu, its, hi with | [_, _], _, [_], _ => ⟨_, rfl, rfl⟩)
    cases v
    exact b
  have c'9 : ∃ ds, Vals [V.ref f30] ds ∧ Binds K (PySem.W.fnOf "__init__" "Clock.__init__" (defArgs s_Clock___init__) (defBody s_Clock___init__) (defScope s_Clock___init__) (.ref T9) kV9 dc9 pm9 an9 cd9 ct9) ["self", "drift"] ds := F9.binds1 (ps := ["self", "drift"]) 1 0 (by simp) rfl (fun T kV dc pm an cdv ct us its hu hi => match us, hu, its, hi with | [_], _, [_], _ => ⟨_, rfl, rfl⟩)
  have F10 := fun_mk (st := s_Clock_drift) l10 c10 k10
  have b10 := F10.binds (ps := ["self"]) fun _ _ _ _ _ _ us hl => match us, hl with | [_], _ => rfl
  have F11 := fun_mk (st := s_Clock_is_set) l11 c11 k11
  have b11 := F11.binds (ps := ["self"]) fun _ _ _ _ _ _ us hl => match us, hl with | [_], _ => rfl
  have F12 := fun_mk (st := s_Clock_set_to) l12 c12 k12
  have b12 := F12.binds (ps := ["self", "low", "high"]) fun _ _ _ _ _ _ us hl => match us, hl with | [_, _, _], _ => rfl
  have F13 : FunD K "tick" "Clock.tick" (defArgs s_Clock_tick) (defBody s_Clock_tick) (defScope s_Clock_tick) [V.int 1] [] f13 (PySem.W.fnOf "tick" "Clock.tick" (defArgs s_Clock_tick) (defBody s_Clock_tick) (defScope s_Clock_tick) (.ref T13) kV13 dc13 pm13 an13 cd13 ct13) := ⟨⟨_, _, _, _, _, _, _, _, _, _, rfl, l13, c13, .inr ⟨by simp, _, _, [Value.int 1 tT13_0], _, rfl, lT13, rfl, (.cons ⟨_, rfl⟩ .nil)⟩, .inl rfl⟩, k13⟩
  have b13 : Binds K (PySem.W.fnOf "tick" "Clock.tick" (defArgs s_Clock_tick) (defBody s_Clock_tick) (defScope s_Clock_tick) (.ref T13) kV13 dc13 pm13 an13 cd13 ct13) ["self", "many"] [] := by
    obtain ⟨ds, v, b⟩ := F13.binds1 (ps := ["self", "many"]) 2 1 (by simp) rfl (fun T kV dc pm an cdv ct us its hu hi => match us, hu, its, hi with | [_, _], _, [_], _ => ⟨_, rfl, rfl⟩)
    cases v
    exact b
  have c'13 : ∃ ds, Vals [V.int 1] ds ∧ Binds K (PySem.W.fnOf "tick" "Clock.tick" (defArgs s_Clock_tick) (defBody s_Clock_tick) (defScope s_Clock_tick) (.ref T13) kV13 dc13 pm13 an13 cd13 ct13) ["self", "many"] ds := F13.binds1 (ps := ["self", "many"]) 1 0 (by simp) rfl (fun T kV dc pm an cdv ct us its hu hi => match us, hu, its, hi with | [_], _, [_], _ => ⟨_, rfl, rfl⟩)
  have F14 := fun_mk (st := s_Clock_bounds) l14 c14 k14
  have b14 := F14.binds (ps := ["self"]) fun _ _ _ _ _ _ us hl => match us, hl with | [_], _ => rfl
  have F15 := fun_mk (st := s_Clock_is_past) l15 c15 k15
  have b15 := F15.binds (ps := ["self", "time"]) fun _ _ _ _ _ _ us hl => match us, hl with | [_, _], _ => rfl
  have F16 := fun_mk (st := s_Clock_is_ahead) l16 c16 k16
  have b16 := F16.binds (ps := ["self", "time"]) fun _ _ _ _ _ _ us hl => match us, hl with | [_, _], _ => rfl
  have F17 := fun_mk (st := s_l_bag) l17 c17 k17
  have b17 := F17.binds (ps := ["_law_script", "_law_k"]) fun _ _ _ _ _ _ us hl => match us, hl with | [_, _], _ => rfl
  have F18 := fun_mk (st := s_l_out) l18 c18 k18
  have b18 := F18.binds (ps := ["_law_bag_here", "_law_many"]) fun _ _ _ _ _ _ us hl => match us, hl with | [_, _], _ => rfl
  have F19 := fun_mk (st := s_l_drift) l19 c19 k19
  have b19 := F19.binds (ps := ["_law_bag_here"]) fun _ _ _ _ _ _ us hl => match us, hl with | [_], _ => rfl
  have F20 := fun_mk (st := s_l_is_least) l20 c20 k20
  have b20 := F20.binds (ps := ["_law_passed", "_law_count", "_law_drift_here"]) fun _ _ _ _ _ _ us hl => match us, hl with | [_, _, _], _ => rfl
  have F21 := fun_mk (st := s_l_is_most) l21 c21 k21
  have b21 := F21.binds (ps := ["_law_passed", "_law_count", "_law_drift_here"]) fun _ _ _ _ _ _ us hl => match us, hl with | [_, _, _], _ => rfl
  have F22 := fun_mk (st := s_l_sides_right) l22 c22 k22
  have b22 := F22.binds (ps := ["_law_clock", "_law_low", "_law_high"]) fun _ _ _ _ _ _ us hl => match us, hl with | [_, _, _], _ => rfl
  have F23 := fun_mk (st := s_l_right) l23 c23 k23
  have b23 := F23.binds (ps := ["_law_clock", "_law_low", "_law_high", "_law_count", "_law_drift_here"]) fun _ _ _ _ _ _ us hl => match us, hl with | [_, _, _, _, _], _ => rfl
  have F24 := fun_mk (st := s_law) l24 c24 k24
  have b24 := F24.binds (ps := ["_law_script"]) fun _ _ _ _ _ _ us hl => match us, hl with | [_], _ => rfl
  have F25 := fun_mk (st := s_bounds_behind) l25 c25 k25
  have b25 := F25.binds (ps := ["stands", "counted", "drift"]) fun _ _ _ _ _ _ us hl => match us, hl with | [_, _, _], _ => rfl
  have F26 := fun_mk (st := s_set_between) l26 c26 k26
  have b26 := F26.binds (ps := ["told", "low", "high"]) fun _ _ _ _ _ _ us hl => match us, hl with | [_, _, _], _ => rfl
  let a : Nat → Addr := fun i => match i with | 0 => f0 | 1 => f1 | 2 => f2 | 3 => f3 | 4 => f4 | 5 => f5 | 6 => f6 | 7 => f7 | 8 => f8 | 9 => f9 | 10 => f10 | 11 => f11 | 12 => f12 | 13 => f13 | 14 => f14 | 15 => f15 | 16 => f16 | 17 => f17 | 18 => f18 | 19 => f19 | 20 => f20 | 21 => f21 | 22 => f22 | 23 => f23 | 24 => fa | 25 => f25 | 26 => f26 | 27 => fC | 28 => f28 | 30 => f30 | _ => 0
  let d : Nat → FuncData := fun i => match i with | 0 => (PySem.W.fnOf "is_whole" "is_whole" (defArgs s_is_whole) (defBody s_is_whole) (defScope s_is_whole) .none kV0 dc0 pm0 an0 cd0 ct0) | 1 => (PySem.W.fnOf "is_count" "is_count" (defArgs s_is_count) (defBody s_is_count) (defScope s_is_count) .none kV1 dc1 pm1 an1 cd1 ct1) | 2 => (PySem.W.fnOf "is_from_to" "is_from_to" (defArgs s_is_from_to) (defBody s_is_from_to) (defScope s_is_from_to) .none kV2 dc2 pm2 an2 cd2 ct2) | 3 => (PySem.W.fnOf "common_divisor" "common_divisor" (defArgs s_common_divisor) (defBody s_common_divisor) (defScope s_common_divisor) .none kV3 dc3 pm3 an3 cd3 ct3) | 4 => (PySem.W.fnOf "is_share" "is_share" (defArgs s_is_share) (defBody s_is_share) (defScope s_is_share) .none kV4 dc4 pm4 an4 cd4 ct4) | 5 => (PySem.W.fnOf "is_drift" "is_drift" (defArgs s_is_drift) (defBody s_is_drift) (defScope s_is_drift) .none kV5 dc5 pm5 an5 cd5 ct5) | 6 => (PySem.W.fnOf "refuse_no_count" "refuse_no_count" (defArgs s_refuse_no_count) (defBody s_refuse_no_count) (defScope s_refuse_no_count) .none kV6 dc6 pm6 an6 cd6 ct6) | 7 => (PySem.W.fnOf "least_of" "least_of" (defArgs s_least_of) (defBody s_least_of) (defScope s_least_of) .none kV7 dc7 pm7 an7 cd7 ct7) | 8 => (PySem.W.fnOf "most_of" "most_of" (defArgs s_most_of) (defBody s_most_of) (defScope s_most_of) .none kV8 dc8 pm8 an8 cd8 ct8) | 9 => (PySem.W.fnOf "__init__" "Clock.__init__" (defArgs s_Clock___init__) (defBody s_Clock___init__) (defScope s_Clock___init__) (.ref T9) kV9 dc9 pm9 an9 cd9 ct9) | 10 => (PySem.W.fnOf "drift" "Clock.drift" (defArgs s_Clock_drift) (defBody s_Clock_drift) (defScope s_Clock_drift) .none kV10 dc10 pm10 an10 cd10 ct10) | 11 => (PySem.W.fnOf "is_set" "Clock.is_set" (defArgs s_Clock_is_set) (defBody s_Clock_is_set) (defScope s_Clock_is_set) .none kV11 dc11 pm11 an11 cd11 ct11) | 12 => (PySem.W.fnOf "set_to" "Clock.set_to" (defArgs s_Clock_set_to) (defBody s_Clock_set_to) (defScope s_Clock_set_to) .none kV12 dc12 pm12 an12 cd12 ct12) | 13 => (PySem.W.fnOf "tick" "Clock.tick" (defArgs s_Clock_tick) (defBody s_Clock_tick) (defScope s_Clock_tick) (.ref T13) kV13 dc13 pm13 an13 cd13 ct13) | 14 => (PySem.W.fnOf "bounds" "Clock.bounds" (defArgs s_Clock_bounds) (defBody s_Clock_bounds) (defScope s_Clock_bounds) .none kV14 dc14 pm14 an14 cd14 ct14) | 15 => (PySem.W.fnOf "is_past" "Clock.is_past" (defArgs s_Clock_is_past) (defBody s_Clock_is_past) (defScope s_Clock_is_past) .none kV15 dc15 pm15 an15 cd15 ct15) | 16 => (PySem.W.fnOf "is_ahead" "Clock.is_ahead" (defArgs s_Clock_is_ahead) (defBody s_Clock_is_ahead) (defScope s_Clock_is_ahead) .none kV16 dc16 pm16 an16 cd16 ct16) | 17 => (PySem.W.fnOf "_law_bag" "_law_bag" (defArgs s_l_bag) (defBody s_l_bag) (defScope s_l_bag) .none kV17 dc17 pm17 an17 cd17 ct17) | 18 => (PySem.W.fnOf "_law_out" "_law_out" (defArgs s_l_out) (defBody s_l_out) (defScope s_l_out) .none kV18 dc18 pm18 an18 cd18 ct18) | 19 => (PySem.W.fnOf "_law_drift" "_law_drift" (defArgs s_l_drift) (defBody s_l_drift) (defScope s_l_drift) .none kV19 dc19 pm19 an19 cd19 ct19) | 20 => (PySem.W.fnOf "_law_is_least" "_law_is_least" (defArgs s_l_is_least) (defBody s_l_is_least) (defScope s_l_is_least) .none kV20 dc20 pm20 an20 cd20 ct20) | 21 => (PySem.W.fnOf "_law_is_most" "_law_is_most" (defArgs s_l_is_most) (defBody s_l_is_most) (defScope s_l_is_most) .none kV21 dc21 pm21 an21 cd21 ct21) | 22 => (PySem.W.fnOf "_law_sides_right" "_law_sides_right" (defArgs s_l_sides_right) (defBody s_l_sides_right) (defScope s_l_sides_right) .none kV22 dc22 pm22 an22 cd22 ct22) | 23 => (PySem.W.fnOf "_law_right" "_law_right" (defArgs s_l_right) (defBody s_l_right) (defScope s_l_right) .none kV23 dc23 pm23 an23 cd23 ct23) | 24 => (PySem.W.fnOf "law" "law" (defArgs s_law) (defBody s_law) (defScope s_law) .none kV24 dc24 pm24 an24 cd24 ct24) | 25 => (PySem.W.fnOf "bounds_behind" "bounds_behind" (defArgs s_bounds_behind) (defBody s_bounds_behind) (defScope s_bounds_behind) .none kV25 dc25 pm25 an25 cd25 ct25) | 26 => (PySem.W.fnOf "set_between" "set_between" (defArgs s_set_between) (defBody s_set_between) (defScope s_set_between) .none kV26 dc26 pm26 an26 cd26 ct26) | _ => (PySem.W.fnOf "law" "law" (defArgs s_law) (defBody s_law) (defScope s_law) .none kV24 dc24 pm24 an24 cd24 ct24)
  have T : Txt K mg a d := ⟨PySem.W.mg_of X G a0, F0, b0, PySem.W.mg_of X G a1, F1, b1, PySem.W.mg_of X G a2, F2, b2, PySem.W.mg_of X G a3, F3, b3, PySem.W.mg_of X G a4, F4, b4, PySem.W.mg_of X G a5, F5, b5, PySem.W.mg_of X G a6, F6, b6, PySem.W.mg_of X G a7, F7, b7, PySem.W.mg_of X G a8, F8, b8, F9, c'9, b9, ⟨mk, a9, i9, kc⟩, F10, b10, ⟨a10, i10, k10⟩, F11, b11, ⟨a11, i11, k11⟩, F12, b12, ⟨a12, i12, k12⟩, F13, c'13, b13, ⟨a13, i13, k13⟩, F14, b14, ⟨a14, i14, k14⟩, F15, b15, ⟨a15, i15, k15⟩, F16, b16, ⟨a16, i16, k16⟩, PySem.W.mg_of X G a17, F17, b17, PySem.W.mg_of X G a18, F18, b18, PySem.W.mg_of X G a19, F19, b19, PySem.W.mg_of X G a20, F20, b20, PySem.W.mg_of X G a21, F21, b21, PySem.W.mg_of X G a22, F22, b22, PySem.W.mg_of X G a23, F23, b23, PySem.W.mg_of X G a24, F24, b24, PySem.W.mg_of X G a25, F25, b25, PySem.W.mg_of X G a26, F26, b26, PySem.W.mg_of X G aC, ⟨pg, hd, po, sa⟩, nf_most_drift, nf_stands, nf_counted, PySem.W.mg_of X G g28, fun H => .inr ⟨_, _, _, l28, rfl, rfl, (by show 2 ≤ sizeLine; decide), (.cons ⟨_, rfl⟩ (.cons ⟨_, rfl⟩ .nil))⟩, ⟨_, PySem.W.mg_of X G g29⟩, PySem.W.mg_of X G g30, fun H => .inr ⟨_, _, _, l30, rfl, rfl, (by show 2 ≤ sizeLine; decide), (.cons ⟨_, rfl⟩ (.cons ⟨_, rfl⟩ .nil))⟩, PySem.W.mg_none_of X G z_max, PySem.W.mg_none_of X G z_min, PySem.W.mg_none_of X G z_len, PySem.W.mg_none_of X G z_int, PySem.W.mg_none_of X G z_range, PySem.W.mg_none_of X G z_isinstance, PySem.W.mg_none_of X G z_bool, PySem.W.mg_none_of X G z_tuple, PySem.W.mg_none_of X G z_all, PySem.W.mg_none_of X G z_repr⟩
  exact ⟨(PySem.W.fnOf "law" "law" (defArgs s_law) (defBody s_law) (defScope s_law) .none kV24 dc24 pm24 an24 cd24 ct24), fun s v => .of_eq rfl, fun base _ _ => ok_law T⟩
theorem walk {l : PySem.W.OpenLaw} {q : Program} {loose : List Str} {XP : (Str → Option Value) → Heap → Prop} {YP : World → Heap → Prop} {d : DefRec} {K : Params → PySem.W.Frag} (hn : l.most = some 63) (hdf : d.params.defaults = [])
    (hY : ∀ (w : World) (h : Heap), YP w h → (K w.params).In h)
    (F : ∀ (w : World) (mg : Str → Option Value) (fa : Addr) (h : Heap), (K w.params).In h → h.Ns mainGlobals mg → mg d.name = some (.ref fa) →
      ∃ fd : FuncData, (∀ (s : Shared) (u : Value), BindsTo s fd ⟨[u], []⟩ [("_law_script", u)]) ∧ ∀ base : Heap, (K w.params).In base → base.Ns mainGlobals mg → FnG l.prog w (K w.params) mg base 9 fa fd ["_law_script"] (spLaw (K w.params))) :
    PySem.W.WalkO q loose XP YP l.row.toRowW d [] (fun f vs => PySem.call f vs) :=
  walkG (n := 63) (k := 9) (x := "_law_script") (sp := fun w => (spLaw (K w.params))) hn (by decide) hdf ⟨rfl, by decide, by decide⟩ hY F (fun _ _ a ns hl _ _ hS => ⟨a, ns, rfl, hS, hl, fun _ => rfl⟩)
end M

open PySem PySem.W PyProof.Rows in
set_option maxRecDepth 100000 in
set_option maxHeartbeats 0 in
theorem PySem.Challenge.cw_stampedwait_k06_clocks_told_holds : PySem.Challenge.rw_stampedwait_k06_clocks_told.Holds := by
  w_on; o_law; k_head; (case hw => w_witness2)
  k_fill
  refine M.walk (l := PySem.Challenge.rw_stampedwait_k06_clocks_told) rfl rfl (fun w h Y => PySem.W.kIn_of Y) ?F
  case F =>
    intro w mg fa h KX G hmg
    refine' M.all_mk KX G hmg ?g28 ?l28 ?g29 ?g30 ?l30 ?aC ?pg ?hd ?po ?sa ?mk ?kc ?nf_most_drift ?nf_stands ?nf_counted ?a0 ?l0 ?c0 ?k0 ?a1 ?l1 ?c1 ?k1 ?a2 ?l2 ?c2 ?k2 ?a3 ?l3 ?c3 ?k3 ?a4 ?l4 ?c4 ?k4 ?a5 ?l5 ?c5 ?k5 ?a6 ?l6 ?c6 ?k6 ?a7 ?l7 ?c7 ?k7 ?a8 ?l8 ?c8 ?k8 ?a9 ?i9 ?l9 ?c9 ?k9 ?lT9 ?a10 ?i10 ?l10 ?c10 ?k10 ?a11 ?i11 ?l11 ?c11 ?k11 ?a12 ?i12 ?l12 ?c12 ?k12 ?a13 ?i13 ?l13 ?c13 ?k13 ?lT13 ?a14 ?i14 ?l14 ?c14 ?k14 ?a15 ?i15 ?l15 ?c15 ?k15 ?a16 ?i16 ?l16 ?c16 ?k16 ?a17 ?l17 ?c17 ?k17 ?a18 ?l18 ?c18 ?k18 ?a19 ?l19 ?c19 ?k19 ?a20 ?l20 ?c20 ?k20 ?a21 ?l21 ?c21 ?k21 ?a22 ?l22 ?c22 ?k22 ?a23 ?l23 ?c23 ?k23 ?a24 ?l24 ?c24 ?k24 ?a25 ?l25 ?c25 ?k25 ?a26 ?l26 ?c26 ?k26 ?z_max ?z_min ?z_len ?z_int ?z_range ?z_isinstance ?z_bool ?z_tuple ?z_all ?z_repr
    (case g28 => k_is)
    (case l28 => k_is)
    (case g29 => k_is)
    (case g30 => k_is)
    (case l30 => k_is)
    (case aC => k_is)
    (case pg => k_is)
    (case hd => k_is)
    (case po => k_is)
    (case sa => k_is)
    (case mk => k_is)
    (case kc => k_is)
    (case nf_most_drift => k_is)
    (case nf_stands => k_is)
    (case nf_counted => k_is)
    (case a0 => k_is)
    (case l0 => k_is)
    (case c0 => k_is)
    (case k0 => k_is)
    (case a1 => k_is)
    (case l1 => k_is)
    (case c1 => k_is)
    (case k1 => k_is)
    (case a2 => k_is)
    (case l2 => k_is)
    (case c2 => k_is)
    (case k2 => k_is)
    (case a3 => k_is)
    (case l3 => k_is)
    (case c3 => k_is)
    (case k3 => k_is)
    (case a4 => k_is)
    (case l4 => k_is)
    (case c4 => k_is)
    (case k4 => k_is)
    (case a5 => k_is)
    (case l5 => k_is)
    (case c5 => k_is)
    (case k5 => k_is)
    (case a6 => k_is)
    (case l6 => k_is)
    (case c6 => k_is)
    (case k6 => k_is)
    (case a7 => k_is)
    (case l7 => k_is)
    (case c7 => k_is)
    (case k7 => k_is)
    (case a8 => k_is)
    (case l8 => k_is)
    (case c8 => k_is)
    (case k8 => k_is)
    (case a9 => k_is)
    (case i9 => k_is)
    (case l9 => k_is)
    (case c9 => k_is)
    (case k9 => k_is)
    (case lT9 => k_is)
    (case a10 => k_is)
    (case i10 => k_is)
    (case l10 => k_is)
    (case c10 => k_is)
    (case k10 => k_is)
    (case a11 => k_is)
    (case i11 => k_is)
    (case l11 => k_is)
    (case c11 => k_is)
    (case k11 => k_is)
    (case a12 => k_is)
    (case i12 => k_is)
    (case l12 => k_is)
    (case c12 => k_is)
    (case k12 => k_is)
    (case a13 => k_is)
    (case i13 => k_is)
    (case l13 => k_is)
    (case c13 => k_is)
    (case k13 => k_is)
    (case lT13 => k_is)
    (case a14 => k_is)
    (case i14 => k_is)
    (case l14 => k_is)
    (case c14 => k_is)
    (case k14 => k_is)
    (case a15 => k_is)
    (case i15 => k_is)
    (case l15 => k_is)
    (case c15 => k_is)
    (case k15 => k_is)
    (case a16 => k_is)
    (case i16 => k_is)
    (case l16 => k_is)
    (case c16 => k_is)
    (case k16 => k_is)
    (case a17 => k_is)
    (case l17 => k_is)
    (case c17 => k_is)
    (case k17 => k_is)
    (case a18 => k_is)
    (case l18 => k_is)
    (case c18 => k_is)
    (case k18 => k_is)
    (case a19 => k_is)
    (case l19 => k_is)
    (case c19 => k_is)
    (case k19 => k_is)
    (case a20 => k_is)
    (case l20 => k_is)
    (case c20 => k_is)
    (case k20 => k_is)
    (case a21 => k_is)
    (case l21 => k_is)
    (case c21 => k_is)
    (case k21 => k_is)
    (case a22 => k_is)
    (case l22 => k_is)
    (case c22 => k_is)
    (case k22 => k_is)
    (case a23 => k_is)
    (case l23 => k_is)
    (case c23 => k_is)
    (case k23 => k_is)
    (case a24 => k_is)
    (case l24 => k_is)
    (case c24 => k_is)
    (case k24 => k_is)
    (case a25 => k_is)
    (case l25 => k_is)
    (case c25 => k_is)
    (case k25 => k_is)
    (case a26 => k_is)
    (case l26 => k_is)
    (case c26 => k_is)
    (case k26 => k_is)
    (case z_max => k_is)
    (case z_min => k_is)
    (case z_len => k_is)
    (case z_int => k_is)
    (case z_range => k_is)
    (case z_isinstance => k_is)
    (case z_bool => k_is)
    (case z_tuple => k_is)
    (case z_all => k_is)
    (case z_repr => k_is)
