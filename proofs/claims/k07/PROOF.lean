import PyProof.Rows.All
import Wide.All
import OpenK.AllK
import Wide.FinOn
import HandS.ForMost
import HandS.ForExc
import HandS.Wide
import HandS.IsInst
import HandS.Defaults
import HandS.ExcField
import HandS.ExcInit
import HandS.ExcOwn
import HandS.OwnEq
import HandS.TupLe
import PySem.Challenge.RW_stampedwait_k07_clocks_set_anew
set_option Elab.async false
set_option linter.all false
set_option maxRecDepth 100000
set_option maxHeartbeats 4000000
namespace M
open PySem L2


section
open PySem PySem.Spec PyProof.Rows L2
variable {X : Cx} {ea eb ec ed : Expr} {ta tb tc td : TE} {pos : Pos}
/-- three comparisons in a row -/
def tChain3 (r r' r'' : R2) (ta tb tc td : TE) : TE := fun σ H Q => ta σ H fun x H1 => tb σ H1 fun y H2 => r x y H2 fun z H3 => ∃ k, z = .bl k ∧
  (if k = true then tc σ H3 fun u H4 => r' y u H4 fun z2 H5 => ∃ k2, z2 = .bl k2 ∧ (if k2 = true then td σ H5 fun v H6 => r'' u v H6 Q else Q (.bl false) H5) else Q (.bl false) H3)
theorem pt_chain3 {op op' op'' : CmpOp} {r r' r'' : R2} (ho : OpR X (compareOp op) r) (ho' : OpR X (compareOp op') r') (ho'' : OpR X (compareOp op'') r'') (ha : PE X ea ta) (hb : PE X eb tb) (hc : PE X ec tc) (hd : PE X ed td)
    (hm : lastMarks [op, op', op''] [eb, ec, ed] = false := by with_unfolding_all rfl) : PT X (.Compare ea [op, op', op''] [eb, ec, ed] pos) (tTest (tChain3 r r' r'' ta tb tc td)) := by
  refine ⟨fun pins s σ H Q I h => ?_⟩
  refine isTrue_chain (thn (ha.run pins s σ H _ I h) fun v s1 ⟨x, H1, I1, r1, q1⟩ => test_link (thn (hb.run pins s1 σ H1 _ I1 q1) fun u s2 ⟨y, H2, I2, r2, q2⟩ =>
    thn (ho pins s2 σ H2 x y v u _ I2 r1 r2 q2) fun d s3 ⟨z, H3, I3, r3, k, e, q3⟩ => ?_)) hm
  subst e
  cases r3
  refine wpAny_truthy_bool ?_
  cases k with
  | false =>
    obtain ⟨k', e', q'⟩ := q3
    cases e'
    exact ite_ff ⟨H3, I3, q'⟩
  | true =>
    refine ite_tt (test_link (thn (hc.run pins s3 σ H3 _ I3 q3) fun w' s4 ⟨z', H4, I4, r4, q4⟩ => thn (ho' pins s4 σ H4 y z' u w' _ I4 r2 r4 q4) fun d' s5 ⟨z2, H5, I5, r5, k2, e2, q5⟩ => ?_))
    subst e2
    cases r5
    refine wpAny_truthy_bool ?_
    cases k2 with
    | false =>
      obtain ⟨k', e', q'⟩ := q5
      cases e'
      exact ite_ff ⟨H5, I5, q'⟩
    | true =>
      refine ite_tt (test_last (thn (hd.run pins s5 σ H5 _ I5 q5) fun v' s6 ⟨z3, H6, I6, r6, q6⟩ => thn (ho'' pins s6 σ H6 z' z3 w' v' _ I6 r4 r6 q6) fun d'' s7 ⟨z4, H7, I7, r7, k3, e3, q7⟩ => ?_))
      subst e3
      cases r7
      exact wpAny_truthy_bool ⟨H7, I7, q7⟩
end
section
open PySem PySem.Spec PyProof.Rows L2
/-- a caught exception that is kept: of the class cls, its dict d -/
def ExK (cls : Value) (d : Option Addr) (a : Addr) : HO := .ext fun h => ∃ (oe : Obj) (vs : Array Value), h.get? a = some oe ∧ Zc cls d oe ∧ oe.data = .fields vs
theorem exK_ok {P : Program} {w : World} {H : Hp} {h : Heap} {a : Addr} {cls : Value} {d : Option Addr} {oe : Obj} {vs : Array Value} (e : h.get? a = some oe) (z : Zc cls d oe) (hd : oe.data = .fields vs) : ObjOk P w H h a (ExK cls d a) :=
  ⟨⟨oe, vs, e, z, hd⟩, ⟨oe, e⟩, fun h1 h2 ⟨o, vs, e, z, hd⟩ k => ⟨o, vs, k _ e, z, hd⟩⟩
theorem exK_at {P : Program} {w : World} {H : Hp} {h : Heap} {a : Addr} {cls : Value} {d : Option Addr} (hok : HOk P w H h) (e : H a = some (ExK cls d a)) : ∃ (oe : Obj) (vs : Array Value), h.get? a = some oe ∧ Zc cls d oe ∧ oe.data = .fields vs := by
  obtain ⟨x, _⟩ := hok a _ e
  exact x
section
variable {X : Cx} {pins : List (Addr × Obj)} {σ : L2.St} {H : Hp} {s sI : Shared} {B : Heap}
/-- an exception that has landed, tracked -/
theorem inv_track {a : Addr} {o : HO} (J : Inv X pins σ H sI) (I : Inv X pins σ H s) (nI : sI.heap.get? a = none) (na : H a = none) (nL : a ≠ X.env.locals) (new : ObjOk X.prog X.w (upd H a o) s.heap a o) : Inv X pins σ (upd H a o) s := by
  refine ⟨I.ok, I.os, I.bare, ⟨I.base.keep, I.base.slot, fun b ob e n hx => ?_, I.base.there, fun b xs e => ?_, fun b ob u e => ?_, fun b ps e => ?_⟩, I.loc, I.cell, ?_, fun y c e => ?_, fun p hp => ?_, fun b u e => ?_, I.len⟩
  · rw [upd_ne (fun z => by
      subst z
      obtain ⟨o', e'⟩ := J.base.there _ _ e hx
      rw [nI] at e'; cases e')]
    exact I.base.free b ob e n hx
  · have z := I.base.tups b xs e
    rw [upd_ne (ne_of_none z na)]; exact z
  · have z := I.base.frzs b ob u e
    rw [upd_ne (ne_of_none z na)]; exact z
  · obtain ⟨m, z⟩ := I.base.tbls b ps e
    exact ⟨m, by rw [upd_ne (ne_of_none z na)]; exact z⟩
  · rw [upd_ne (fun z => nL z.symm)]; exact I.free
  · obtain ⟨v, z⟩ := J.cell y c e
    rw [upd_ne (fun q => by
      subst q
      obtain ⟨o', e', _⟩ := z
      rw [nI] at e'; cases e')]
    exact I.freeC y c e
  · obtain ⟨e1, e2, e3, e4, e5⟩ := I.pin p hp
    refine ⟨e1, ?_, e3, e4, e5⟩
    rw [upd_ne (fun q => by
      have z := (J.pin p hp).1
      rw [q, nI] at z; cases z)]
    exact e2
  · by_cases hb : b = a
    · subst hb
      rw [upd_same] at e
      cases e
      exact new
    · rw [upd_ne hb] at e
      exact (I.hok b u e).stay (fun c v _ q => q) (fun c q => by rw [upd_ne (ne_of_none q na)]; exact q) fun c xs q => by rw [upd_ne (ne_of_none q na)]; exact q
theorem inv_suiteK (I : Inv X pins σ H s) (a : Addr) : Inv (X.suite a (X.pn ++ pins)) [] σ H s where
  ok := I.ok.suite _ _
  os := I.os
  bare := I.bare
  base := I.base
  loc := I.loc
  cell := I.cell
  free := I.free
  freeC := I.freeC
  pin := fun p hp => I.pin p (by simpa using hp)
  hok := I.hok
  len := I.len
theorem inv_unsuiteK {a : Addr} {pn' : List (Addr × Obj)} (I : Inv (X.suite a (X.pn ++ pins)) pn' σ H s) (ok : X.Ok) : Inv X pins σ H s where
  ok := ok
  os := I.os
  bare := I.bare
  base := I.base
  loc := I.loc
  cell := I.cell
  free := I.free
  freeC := I.freeC
  pin := fun p hp => I.pin p (List.mem_append.mpr (.inl hp))
  hok := I.hok
  len := I.len
end
/-- an exception that came down from a try's body: B its ground, sI the state ahead of it, t the state now -/
structure Down (X : Cx) (pins : List (Addr × Obj)) (σ : L2.St) (H : Hp) (cls : Value) (d : Option Addr) (a : Addr) (B : Heap) (sI t : Shared) : Prop where
  inv : Inv X pins σ H sI
  gr : ∀ b o, sI.heap.get? b = some o → b ∉ frs X.stack → B.get? b = some o
  up : sI.heap.UpToSlots t.heap
  fl : HandSPX.FlyingZ B (X.env :: X.outer) a (Zc cls d) t.heap
  na : H a = none
  so : t.os = sI.os
  ag : AllBare t.gens
section
variable {X : Cx} {pins : List (Addr × Obj)} {σ : L2.St} {H : Hp} {cls : Value} {d : Option Addr} {a : Addr} {B : Heap} {sI t : Shared}
theorem Down.here (z : Down X pins σ H cls d a B sI t) : Inv X pins σ H t := z.inv.landed z.gr z.fl.1 z.up z.so z.ag
theorem Down.again (z : Down X pins σ H cls d a B sI t) {h : Heap} (f : HandSPX.FlyingZ B (X.env :: X.outer) a (Zc cls d) h) (u : t.heap.UpToSlots h) : Down X pins σ H cls d a B sI { t with heap := h } :=
  ⟨z.inv, z.gr, z.up.trans u, f, z.na, z.so, z.ag⟩
theorem Down.apart (z : Down X pins σ H cls d a B sI t) : a ∉ frs (X.env :: X.outer) := fun hm => by
  obtain ⟨oe, vs, he, _, hd⟩ := z.fl.there
  obtain ⟨_, o2, e2, no⟩ := z.fl.2.2.1.mem hm
  exact no vs (by rw [he] at e2; cases e2; exact hd)
theorem Down.nloc (z : Down X pins σ H cls d a B sI t) (hf : X.env.frame = some X.env.locals) : a ≠ X.env.locals := fun q => by
  refine z.apart ?_
  rw [q]
  exact List.mem_filterMap.mpr ⟨X.env, .head _, hf⟩
theorem Down.new (z : Down X pins σ H cls d a B sI t) (hs : X.stack = X.env :: X.outer) : sI.heap.get? a = none := by
  have n := z.apart
  rw [← hs] at n
  have nB : B.get? a = none := z.fl.2.1
  by_cases q : sI.heap.get? a = none
  · exact q
  · obtain ⟨o, e⟩ := Option.ne_none_iff_exists'.mp q
    rw [z.gr a o e n] at nB
    cases nB
theorem Down.kept (z : Down X pins σ H cls d a B sI t) (hs : X.stack = X.env :: X.outer) (hf : X.env.frame = some X.env.locals) : Inv X pins σ (upd H a (ExK cls d a)) t := by
  obtain ⟨oe, vs, he, hz, hd⟩ := z.fl.there
  exact inv_track z.inv z.here (z.new hs) z.na (z.nloc hf) (exK_ok he hz hd)
/-- the class of a clause, asked of it -/
theorem Down.asks {x : Str} {c : Value} {b : Bool} {np : Pos} {Q : Bool → Shared → Prop} {E : Value → Shared → Prop} (z : Down X pins σ H cls d a B sI t) (hc : Names X x c) (hb : PySem.W.exmOne X.K cls c = some b) (q : Q b t) :
    wpAny (model X.prog X.w) (X.A.mark (some (.ref a))) (eval (.Name x np) X.env) (fun v s1 => wpAny (model X.prog X.w) (X.A.mark (some (.ref a))) (excMatches (.ref a) v) Q E s1) E t := by
  obtain ⟨oe, vs, he, hz, hd⟩ := z.fl.there
  have ty : PySem.W.Looks (model X.prog X.w) t.heap (typeOf (.ref a)) cls := by
    intro A Q E s k q
    exact wpAny_typeOf_ref (k _ _ he) (hz.1 ▸ q)
  have m := (PySem.W.exm_one (M := model X.prog X.w) z.here.kIn ty hb).here (A := X.A.mark (some (.ref a))) (E := E) q
  have S := inv_suiteK z.here a
  obtain ⟨g, nd, h | ⟨h, v, nn⟩⟩ := hc
  · exact ld_glob S g h m nd
  · exact ld_blt S g h v m nn nd
end
/-- where a suite ends, its name gone -/
def offAt (i : Nat) (D : Ends) : Ends where
  nx := fun σ H => D.nx (σ.set i none) H
  rt := D.rt
  bk := fun σ H => D.bk (σ.set i none) H
  ct := fun σ H => D.ct (σ.set i none) H
/-- the clauses of a try: except x as n (its slot), or except x -/
inductive HK (X : Cx) : List ExceptHandler → List (Value × Option Nat × (Addr → Value → Option Addr → TS)) → Prop
  | nil : HK X [] []
  | named {x n : Str} {c : Value} {i : Nat} {ts : Addr → Value → Option Addr → TS} {b0 : Stmt} {suite : List Stmt} {np pos : Pos} {hds : List ExceptHandler} {l : List (Value × Option Nat × (Addr → Value → Option Addr → TS))}
      (hc : Names X x c) (hi : X.N[i]? = some n) (hk : X.env.kindOf n = some .local) (su : ∀ (a : Addr) (cls : Value) (d : Option Addr) (pn : List (Addr × Obj)), PSs (X.suite a pn) (b0 :: suite) (ts a cls d)) (r : HK X hds l) :
      HK X (.ExceptHandler (some (.Name x np)) (some n) (b0 :: suite) pos :: hds) ((c, some i, ts) :: l)
  | bare {x : Str} {c : Value} {ts : Addr → Value → Option Addr → TS} {b0 : Stmt} {suite : List Stmt} {np pos : Pos} {hds : List ExceptHandler} {l : List (Value × Option Nat × (Addr → Value → Option Addr → TS))}
      (hc : Names X x c) (su : ∀ (a : Addr) (cls : Value) (d : Option Addr) (pn : List (Addr × Obj)), PSs (X.suite a pn) (b0 :: suite) (ts a cls d)) (r : HK X hds l) :
      HK X (.ExceptHandler (some (.Name x np)) none (b0 :: suite) pos :: hds) ((c, none, ts) :: l)
/-- what the clauses wish of an exception of the body -/
def wHK (K : PySem.W.Frag) (W : WX) (D : Ends) : List (Value × Option Nat × (Addr → Value → Option Addr → TS)) → WX
  | [] => W
  | (c, some i, ts) :: l => fun cls d σ H => ∃ b, PySem.W.exmOne K cls c = some b ∧ (b = true → ∀ a, H a = none → ts a cls d (offAt i D) (σ.set i (some (.ref a))) (upd H a (ExK cls d a))) ∧ (b = false → wHK K W D l cls d σ H)
  | (c, none, ts) :: l => fun cls d σ H => ∃ b, PySem.W.exmOne K cls c = some b ∧ (b = true → ∀ a, H a = none → ts a cls d D σ (upd H a (ExK cls d a))) ∧ (b = false → wHK K W D l cls d σ H)
section
variable {X : Cx} {W : WX} {D : Ends} {hds : List ExceptHandler} {l : List (Value × Option Nat × (Addr → Value → Option Addr → TS))}
theorem handledK (hs : X.stack = X.env :: X.outer) (hf : X.env.frame = some X.env.locals) (hN : X.N.Nodup) (tk : Takes X W) (hh : HK X hds l) :
    ∀ {pins : List (Addr × Obj)} {σ : L2.St} {H : Hp} {cls : Value} {d : Option Addr} {a : Addr} {B : Heap} {sI t : Shared}, Down X pins σ H cls d a B sI t → wHK X.K W D l cls d σ H →
      wpAny (model X.prog X.w) X.A (handleBy (.ref a) X.env hds) (SP X pins D) X.xe t := by
  induction hh with
  | nil =>
    intro pins σ H cls d a B sI t z w
    have go : wpAny (model X.prog X.w) X.A (setFlight (.ref a) X.env.frame) (fun _ s4 => wpAny (model X.prog X.w) X.A (throw (.ref a) : Sem Flow) (SP X pins D) X.xe s4) X.xe t := by
      rw [hf]
      refine HandSPX.setFlight_upZ z.fl fun h hh u => ?_
      refine wpAny_throw (tk _ _ ?_)
      exact ⟨a, B, sI, pins, σ, H, cls, d, rfl, z.inv, z.gr, z.up.trans u, .inr (.inr (hs ▸ hh)), z.na, z.so, z.ag, w⟩
    obtain ⟨_, _, _, oe, vs, T, _, _, he, _, hd, h1, _⟩ := id z.fl
    apply wpAny_handleBy_nil
    unfold PySem.passOn
    apply wpAny_bind
    apply wpAny_field he hd h1
    rw [if_neg (by simp)]
    first
      | exact wpAny_bind (wpAny_pure (wpAny_bind go))
      | exact wpAny_bind go
  | @named x n c i ts b0 suite np pos hds l hc hi hk su r ih =>
    intro pins σ H cls d a B sI t z w
    obtain ⟨b, hb, yes, no⟩ := w
    refine wpAny_handleBy_cons (codeAny_handlers_test (z.asks hc hb ?_)) fun q => by cases q
    cases b with
    | false => exact ih z (no rfl)
    | true =>
      refine codeAny_handlers_suite_as (HandSPX.lands_againZ z.fl fun h f u => ?_)
      have S := inv_suiteK ((z.again f u).kept hs hf) a
      refine store_ok (X := X.suite a (X.pn ++ pins)) (v := .ref a) S hN hi (.inl hk) rfl (fun s5 S5 => ?_) (.inr hk)
      refine wpAny_mono ((su a cls d (X.pn ++ pins)).run [] s5 _ _ _ S5 (yes rfl a z.na)) (fun fl s6 e6 => ?_) fun _ _ q => q.elim
      cases fl with
      | next => obtain ⟨σ6, H6, S6, q6⟩ := e6; exact gone_ok (inv_unsuiteK S6 z.inv.ok) hN hi hk fun s7 J7 => ⟨_, _, J7, q6⟩
      | brk => obtain ⟨σ6, H6, S6, q6⟩ := e6; exact gone_ok (inv_unsuiteK S6 z.inv.ok) hN hi hk fun s7 J7 => ⟨_, _, J7, q6⟩
      | cont => obtain ⟨σ6, H6, S6, q6⟩ := e6; exact gone_ok (inv_unsuiteK S6 z.inv.ok) hN hi hk fun s7 J7 => ⟨_, _, J7, q6⟩
      | ret u => obtain ⟨v6, σ6, H6, S6, r6, q6⟩ := e6; exact gone_ok (inv_unsuiteK S6 z.inv.ok) hN hi hk fun s7 J7 => ⟨_, _, _, J7, r6, q6⟩
  | @bare x c ts b0 suite np pos hds l hc su r ih =>
    intro pins σ H cls d a B sI t z w
    obtain ⟨b, hb, yes, no⟩ := w
    refine wpAny_handleBy_cons (codeAny_handlers_test (z.asks hc hb ?_)) fun q => by cases q
    cases b with
    | false => exact ih z (no rfl)
    | true =>
      refine codeAny_handlers_suite (HandSPX.lands_againZ z.fl fun h f u => ?_)
      have S := inv_suiteK ((z.again f u).kept hs hf) a
      refine wpAny_mono ((su a cls d (X.pn ++ pins)).run [] _ _ _ _ S (yes rfl a z.na)) (fun fl s6 e6 => ?_) fun _ _ q => q.elim
      cases fl with
      | next => obtain ⟨σ6, H6, S6, q6⟩ := e6; exact ⟨_, _, inv_unsuiteK S6 z.inv.ok, q6⟩
      | brk => obtain ⟨σ6, H6, S6, q6⟩ := e6; exact ⟨_, _, inv_unsuiteK S6 z.inv.ok, q6⟩
      | cont => obtain ⟨σ6, H6, S6, q6⟩ := e6; exact ⟨_, _, inv_unsuiteK S6 z.inv.ok, q6⟩
      | ret u => obtain ⟨v6, σ6, H6, S6, r6, q6⟩ := e6; exact ⟨_, _, _, inv_unsuiteK S6 z.inv.ok, r6, q6⟩
/-- try: body, any clauses; what is caught stays known behind the suite -/
theorem ps_tryK {body : List Stmt} {h0 : ExceptHandler} {pos : Pos} {tb : WX → TS} (hs : X.stack = X.env :: X.outer) (hf : X.env.frame = some X.env.locals) (hN : X.N.Nodup) (tk : Takes X W) (hh : HK X (h0 :: hds) l)
    (hb : ∀ (V : WX) (pn : List (Addr × Obj)) (xe : Value → Shared → Prop), Takes (X.tr pn xe) V → PassesOwn (model X.prog X.w) X.A X.env xe → PSs (X.tr pn xe) body (tb V)) :
    PS X (.Try body (h0 :: hds) [] [] pos) (fun D σ H => tb (wHK X.K W D l) D σ H) := by
  constructor
  intro pins s σ H D I h
  have fr : X.A.frames = some (X.env :: X.outer) := hs ▸ I.ok.frames
  apply wpAny_Try_except
  let xe : Value → Shared → Prop := fun e s1 => wpAny (model X.prog X.w) X.A (noteFrame e X.env) (fun _ s2 => wpAny (model X.prog X.w) X.A (setFlight e none) (fun _ s3 =>
    wpAny (model X.prog X.w) X.A (handleBy e X.env (h0 :: hds)) (SP X pins D) X.xe s3) X.xe s2) X.xe s1
  have T : Takes (X.tr (X.pn ++ pins) xe) (wHK X.K W D l) := fun u t y => by
    obtain ⟨a, B, sI, _, σ1, H1, cls, d, rfl, J, gr, up, sky, na, so, ag, w⟩ := y
    have sky1 : Sky B (X.env :: X.outer) a (Zc cls d) X.env.locals t.heap := hs ▸ sky
    exact Sky.land Zc.steady fr hf sky1 fun h3 f3 u3 => handledK hs hf hN tk hh ⟨J.ofTry I.ok, gr, up.trans u3, f3, na, so, ag⟩ w
  refine wpAny_mono ((hb (wHK X.K W D l) (X.pn ++ pins) xe T PassesOwn.looking).run [] s σ H D (I.toTry _) h) (fun f s1 e => ?_) fun _ _ q => q
  cases f with
  | next => obtain ⟨σ1, H1, J, q⟩ := e; exact wpAny_execs_nil ⟨σ1, H1, J.ofTry I.ok, q⟩
  | brk => obtain ⟨σ1, H1, J, q⟩ := e; exact ⟨σ1, H1, J.ofTry I.ok, q⟩
  | cont => obtain ⟨σ1, H1, J, q⟩ := e; exact ⟨σ1, H1, J.ofTry I.ok, q⟩
  | ret u => obtain ⟨v, σ1, H1, J, r, q⟩ := e; exact ⟨v, σ1, H1, J.ofTry I.ok, r, q⟩
end
/-- e.f of a kept exception -/
def tXk (C : Addr) (f : Str) (te : TE) : TE := fun σ H Q => te σ H fun x H1 => ∃ (a dd : Addr) (fs : List (Str × V)) (v : V), x = .ref a ∧ H1 a = some (ExK (.ref C) (some dd) a) ∧ H1 dd = some (.xd fs) ∧ fs.lookup f = some v ∧ Q v H1
theorem pe_xk {X : Cx} {C : Addr} {e : Expr} {te : TE} {pos : Pos} {n : Str} (T : XfC X.K C) (hno : PySem.W.findIn X.K (.ref C) n = some none) (he : PE X e te) (hb : attributeBase e n X.env (eval e X.env) = eval e X.env := by rfl) :
    PE X (.Attribute e n pos) (tXk C n te) := by
  constructor
  intro pins s σ H Q I h
  apply attr_of hb
  refine thn (he.run pins s σ H _ I h) ?_
  rintro u s1 ⟨x, H1, I1, rx, a, dd, fs, v, rfl, ek, ea, l, q⟩
  cases rx
  obtain ⟨oe, vs, there, ⟨zc, zd⟩, fv⟩ := exK_at I1.hok ek
  obtain ⟨mA, ns, rel⟩ : ∃ mA, s1.heap.Ns1 dd mA ∧ ∀ g, RelO (fs.lookup g) (mA g) := I1.hok dd _ ea
  obtain ⟨od, look, found⟩ := lookIn_ns ns
  have rv := rel n
  rw [l] at rv
  obtain ⟨u, mu, ru⟩ := RelO.some_of rv
  have no : PySem.W.notCls oe = true := by unfold PySem.W.notCls; rw [fv] <;> rfl
  have at_ : PySem.W.InstAt s1.heap a oe C (some od) := ⟨there, zc, no, by rw [zd]; exact look⟩
  have own := PySem.W.findObj_own (K := X.K) (C := C) (od := od) (name := n) (v := u) T.hdC hno rfl ((found n).trans (congrArg some mu))
  exact HandSPX.exc_get I1.kIn at_ T.ga T.gg T.exC own (handed_of ru) ⟨v, H1, I1.tok _, ru, q⟩
/-- a method called where an exception of it is awaited, by the slots as they stand -/
def tMethS (C : Addr) (m : Str) (sp : Sp) (E : L2.St → XK) (ta : TE) (t : TA) : TE := fun σ H Q => ta σ H fun x H1 => ∃ a dx fs, x = .ref a ∧ H1 a = some (.ins C dx fs) ∧ fs.lookup m = none ∧ t σ H1 fun vs H2 => sp (.ref a :: vs) H2 Q (E σ)
theorem pe_methS {X : Cx} {CX : CXT} {k : Nat} {f C : Addr} {fd : FuncData} {ps : List Str} {sp : Sp} {E : L2.St → XK} {m : Str} {pos apos : Pos} {e o : Expr} {es : List Expr} {ta : TE} {t : TA} {pl : Sem Bool} (he : PE X o ta) (c : Cls X.K C) (hm : Meth X.K C m f)
    (F : FnOk X.prog X.w X.K X.mg X.base CX k f fd ps sp) (hr : Room k X.A) (hb : Binds X.K fd ps []) (hx : ∀ σ, PassesAt CX X σ (E σ)) (ha : PA X (e :: es) t) (hst : starEach (e :: es) X.env = (false, eval e X.env) :: starEach es X.env := by rfl)
    (hpl : (backTo pos (starEach es X.env)).any (·.1) = false := by rfl)
    (ht : eval (.Call (.Attribute o m apos) (e :: es) [] pos) X.env = (do let ov ← eval o X.env; standAt apos.atName; let (f, first) ← holding [ov] (getMethod ov m pl); callWith pos f first (backTo pos (starEach (e :: es) X.env)) (backToKw pos (keywordEach [] X.env))) := by rfl) :
    PE X (.Call (.Attribute o m apos) (e :: es) [] pos) (tMethS C m sp E ta t) := by
  constructor
  intro pins s σ H Q I h
  refine PySem.W.methodCall_KW (pl := pl) (thn (he.run pins s σ H _ I h) ?_) ht
  rintro u s1 ⟨x, H1, I1, rx, a, dx, fs, rfl, ea, l, q⟩
  cases rx
  apply getmeth_ok I1 ea c hm l
  refine PySem.W.callWith_K (first := [.ref a]) (h₀ := X.base) I.ok.mod.kin hm.kp (thn (ha.run pos pins s1 σ H1 _ I1 q) ?_) hst hpl
  rintro us s2 ⟨vs, H2, I2, r, q2⟩
  exact ⟨I2.kIn, run_fnS (us := .ref a :: us) (vs := .ref a :: vs) F hr hb (hx σ) I2 (.cons rfl r) q2⟩
end

abbrev s_BI : Stmt := inClass (PySem.Challenge.pw_stampedwait_k07_clocks_set_anew.main.body.getD 3 (.Pass ⟨0, 0, 0, 0⟩)) 0
theorem sc_BI : FnScope ["self", "low", "high"] ["self", "low", "high"] (defScope s_BI) := ⟨rfl, rfl, rfl, by decide +kernel, rfl, by decide +kernel, by decide +kernel⟩

def top (i : Nat) : Stmt := PySem.Challenge.pw_stampedwait_k07_clocks_set_anew.main.body.getD i (.Pass ⟨0, 0, 0, 0⟩)
abbrev s_is_whole : Stmt := top 10
abbrev s_is_count : Stmt := top 11
abbrev s_is_from_to : Stmt := top 12
abbrev s_common_divisor : Stmt := top 13
abbrev s_is_share : Stmt := top 14
abbrev s_is_drift : Stmt := top 15
abbrev s_refuse_no_count : Stmt := top 16
abbrev s_least_of : Stmt := top 17
abbrev s_most_of : Stmt := top 18
abbrev s_Clock___init__ : Stmt := inClass (top 23) 0
abbrev s_Clock_is_set : Stmt := inClass (top 23) 2
abbrev s_Clock_set_to : Stmt := inClass (top 23) 3
abbrev s_Clock_tick : Stmt := inClass (top 23) 4
abbrev s_Clock_bounds : Stmt := inClass (top 23) 5
abbrev s_Clock_twin : Stmt := inClass (top 23) 8
abbrev s_Clock___eq__ : Stmt := inClass (top 23) 9
abbrev s_l_bag : Stmt := top 25
abbrev s_l_out : Stmt := top 26
abbrev s_l_drift : Stmt := top 27
abbrev s_l_is_least : Stmt := top 28
abbrev s_l_is_most : Stmt := top 29
abbrev s_l_set : Stmt := top 30
abbrev s_l_about : Stmt := top 31
abbrev s_l_right : Stmt := top 32
abbrev s_law : Stmt := top 33
abbrev s_bounds_behind : Stmt := top 21
abbrev s_set_between : Stmt := top 22
theorem sc_is_whole : FnScope ["thing"] ["thing"] (defScope s_is_whole) := ⟨rfl, rfl, rfl, by decide +kernel, rfl, by decide +kernel, by decide +kernel⟩
theorem sc_is_count : FnScope ["thing"] ["thing"] (defScope s_is_count) := ⟨rfl, rfl, rfl, by decide +kernel, rfl, by decide +kernel, by decide +kernel⟩
theorem sc_is_from_to : FnScope ["thing", "least", "most"] ["thing", "least", "most"] (defScope s_is_from_to) := ⟨rfl, rfl, rfl, by decide +kernel, rfl, by decide +kernel, by decide +kernel⟩
theorem sc_common_divisor : FnScope ["first", "second"] ["first", "second"] (defScope s_common_divisor) := ⟨rfl, rfl, rfl, by decide +kernel, rfl, by decide +kernel, by decide +kernel⟩
theorem sc_is_share : FnScope ["thing", "top", "bottom"] ["thing"] (defScope s_is_share) := ⟨rfl, rfl, rfl, by decide +kernel, rfl, by decide +kernel, by decide +kernel⟩
theorem sc_is_drift : FnScope ["thing"] ["thing"] (defScope s_is_drift) := ⟨rfl, rfl, rfl, by decide +kernel, rfl, by decide +kernel, by decide +kernel⟩
theorem sc_refuse_no_count : FnScope ["thing"] ["thing"] (defScope s_refuse_no_count) := ⟨rfl, rfl, rfl, by decide +kernel, rfl, by decide +kernel, by decide +kernel⟩
theorem sc_least_of : FnScope ["ticks", "drift", "top", "bottom"] ["ticks", "drift"] (defScope s_least_of) := ⟨rfl, rfl, rfl, by decide +kernel, rfl, by decide +kernel, by decide +kernel⟩
theorem sc_most_of : FnScope ["ticks", "drift", "top", "bottom"] ["ticks", "drift"] (defScope s_most_of) := ⟨rfl, rfl, rfl, by decide +kernel, rfl, by decide +kernel, by decide +kernel⟩
theorem sc_Clock___init__ : FnScope ["self", "drift"] ["self", "drift"] (defScope s_Clock___init__) := ⟨rfl, rfl, rfl, by decide +kernel, rfl, by decide +kernel, by decide +kernel⟩
theorem sc_Clock_is_set : FnScope ["self"] ["self"] (defScope s_Clock_is_set) := ⟨rfl, rfl, rfl, by decide +kernel, rfl, by decide +kernel, by decide +kernel⟩
theorem sc_Clock_set_to : FnScope ["self", "low", "high", "told"] ["self", "low", "high"] (defScope s_Clock_set_to) := ⟨rfl, rfl, rfl, by decide +kernel, rfl, by decide +kernel, by decide +kernel⟩
theorem sc_Clock_tick : FnScope ["self", "many"] ["self", "many"] (defScope s_Clock_tick) := ⟨rfl, rfl, rfl, by decide +kernel, rfl, by decide +kernel, by decide +kernel⟩
theorem sc_Clock_bounds : FnScope ["self"] ["self"] (defScope s_Clock_bounds) := ⟨rfl, rfl, rfl, by decide +kernel, rfl, by decide +kernel, by decide +kernel⟩
theorem sc_Clock_twin : FnScope ["self", "other"] ["self"] (defScope s_Clock_twin) := ⟨rfl, rfl, rfl, by decide +kernel, rfl, by decide +kernel, by decide +kernel⟩
theorem sc_Clock___eq__ : FnScope ["self", "other"] ["self", "other"] (defScope s_Clock___eq__) := ⟨rfl, rfl, rfl, by decide +kernel, rfl, by decide +kernel, by decide +kernel⟩
theorem sc_l_bag : FnScope ["_law_script", "_law_k", "_law_cell", "_law_great"] ["_law_script", "_law_k"] (defScope s_l_bag) := ⟨rfl, rfl, rfl, by decide +kernel, rfl, by decide +kernel, by decide +kernel⟩
theorem sc_l_out : FnScope ["_law_bag_here", "_law_many", "_law_found"] ["_law_bag_here", "_law_many"] (defScope s_l_out) := ⟨rfl, rfl, rfl, by decide +kernel, rfl, by decide +kernel, by decide +kernel⟩
theorem sc_l_drift : FnScope ["_law_bag_here", "_law_bottom", "_law_top", "_law_one", "_law_other"] ["_law_bag_here"] (defScope s_l_drift) := ⟨rfl, rfl, rfl, by decide +kernel, rfl, by decide +kernel, by decide +kernel⟩
theorem sc_l_is_least : FnScope ["_law_passed", "_law_count", "_law_drift_here", "_law_top", "_law_bottom"] ["_law_passed", "_law_count", "_law_drift_here"] (defScope s_l_is_least) := ⟨rfl, rfl, rfl, by decide +kernel, rfl, by decide +kernel, by decide +kernel⟩
theorem sc_l_is_most : FnScope ["_law_passed", "_law_count", "_law_drift_here", "_law_top", "_law_bottom"] ["_law_passed", "_law_count", "_law_drift_here"] (defScope s_l_is_most) := ⟨rfl, rfl, rfl, by decide +kernel, rfl, by decide +kernel, by decide +kernel⟩
theorem sc_l_set : FnScope ["_law_clock", "_law_low", "_law_high", "_law_kept", "e"] ["_law_clock", "_law_low", "_law_high"] (defScope s_l_set) := ⟨rfl, rfl, rfl, by decide +kernel, rfl, by decide +kernel, by decide +kernel⟩
theorem sc_l_about : FnScope ["_law_bag_here", "_law_low", "_law_high", "_law_far", "_law_ends", "_law_one", "_law_other"] ["_law_bag_here", "_law_low", "_law_high"] (defScope s_l_about) := ⟨rfl, rfl, rfl, by decide +kernel, rfl, by decide +kernel, by decide +kernel⟩
theorem sc_l_right : FnScope ["_law_clock", "_law_base", "_law_count", "_law_drift_here", "_law_low", "_law_high"] ["_law_clock", "_law_base", "_law_count", "_law_drift_here"] (defScope s_l_right) := ⟨rfl, rfl, rfl, by decide +kernel, rfl, by decide +kernel, by decide +kernel⟩
theorem sc_law : FnScope ["_law_script", "_law_k", "_law_bag_here", "_law_drift_here", "_law_clock", "_law_base", "_law_count", "_law_turn", "_law_more", "_law_low", "_law_high", "_law_one", "_law_other", "_law_twin", "_law_refused"] ["_law_script"] (defScope s_law) := ⟨rfl, rfl, rfl, by decide +kernel, rfl, by decide +kernel, by decide +kernel⟩
theorem sc_bounds_behind : FnScope ["stands", "counted", "drift"] ["stands", "counted", "drift"] (defScope s_bounds_behind) := ⟨rfl, rfl, rfl, by decide +kernel, rfl, by decide +kernel, by decide +kernel⟩
theorem sc_set_between : FnScope ["told", "low", "high", "least", "most"] ["told", "low", "high"] (defScope s_set_between) := ⟨rfl, rfl, rfl, by decide +kernel, rfl, by decide +kernel, by decide +kernel⟩
/-- what the top has written -/
structure Txt (K : PySem.W.Frag) (mg : Str → Option Value) (a : Nat → Addr) (d : Nat → FuncData) : Prop where
  g_is_whole : mg "is_whole" = some (.ref (a 0))
  F_is_whole : Fun K "is_whole" "is_whole" s_is_whole (a 0) (d 0)
  b_is_whole : Binds K (d 0) ["thing"] []
  g_is_count : mg "is_count" = some (.ref (a 1))
  F_is_count : Fun K "is_count" "is_count" s_is_count (a 1) (d 1)
  b_is_count : Binds K (d 1) ["thing"] []
  g_is_from_to : mg "is_from_to" = some (.ref (a 2))
  F_is_from_to : Fun K "is_from_to" "is_from_to" s_is_from_to (a 2) (d 2)
  b_is_from_to : Binds K (d 2) ["thing", "least", "most"] []
  g_common_divisor : mg "common_divisor" = some (.ref (a 3))
  F_common_divisor : Fun K "common_divisor" "common_divisor" s_common_divisor (a 3) (d 3)
  b_common_divisor : Binds K (d 3) ["first", "second"] []
  g_is_share : mg "is_share" = some (.ref (a 4))
  F_is_share : Fun K "is_share" "is_share" s_is_share (a 4) (d 4)
  b_is_share : Binds K (d 4) ["thing"] []
  g_is_drift : mg "is_drift" = some (.ref (a 5))
  F_is_drift : Fun K "is_drift" "is_drift" s_is_drift (a 5) (d 5)
  b_is_drift : Binds K (d 5) ["thing"] []
  g_refuse_no_count : mg "refuse_no_count" = some (.ref (a 6))
  F_refuse_no_count : Fun K "refuse_no_count" "refuse_no_count" s_refuse_no_count (a 6) (d 6)
  b_refuse_no_count : Binds K (d 6) ["thing"] []
  g_least_of : mg "least_of" = some (.ref (a 7))
  F_least_of : Fun K "least_of" "least_of" s_least_of (a 7) (d 7)
  b_least_of : Binds K (d 7) ["ticks", "drift"] []
  g_most_of : mg "most_of" = some (.ref (a 8))
  F_most_of : Fun K "most_of" "most_of" s_most_of (a 8) (d 8)
  b_most_of : Binds K (d 8) ["ticks", "drift"] []
  F_Clock___init__ : FunD K "__init__" "Clock.__init__" (defArgs s_Clock___init__) (defBody s_Clock___init__) (defScope s_Clock___init__) [.ref (a 30)] [] (a 9) (d 9)
  c_Clock___init__ : ∃ ds, Vals [.ref (a 30)] ds ∧ Binds K (d 9) ["self", "drift"] ds
  b_Clock___init__ : Binds K (d 9) ["self", "drift"] []
  m_Clock___init__ : Mk K (a 27) (a 9)
  F_Clock_is_set : Fun K "is_set" "Clock.is_set" s_Clock_is_set (a 10) (d 10)
  b_Clock_is_set : Binds K (d 10) ["self"] []
  m_Clock_is_set : Meth K (a 27) "is_set" (a 10)
  F_Clock_set_to : Fun K "set_to" "Clock.set_to" s_Clock_set_to (a 11) (d 11)
  b_Clock_set_to : Binds K (d 11) ["self", "low", "high"] []
  m_Clock_set_to : Meth K (a 27) "set_to" (a 11)
  F_Clock_tick : FunD K "tick" "Clock.tick" (defArgs s_Clock_tick) (defBody s_Clock_tick) (defScope s_Clock_tick) [.int 1] [] (a 12) (d 12)
  c_Clock_tick : ∃ ds, Vals [.int 1] ds ∧ Binds K (d 12) ["self", "many"] ds
  b_Clock_tick : Binds K (d 12) ["self", "many"] []
  m_Clock_tick : Meth K (a 27) "tick" (a 12)
  F_Clock_bounds : Fun K "bounds" "Clock.bounds" s_Clock_bounds (a 13) (d 13)
  b_Clock_bounds : Binds K (d 13) ["self"] []
  m_Clock_bounds : Meth K (a 27) "bounds" (a 13)
  F_Clock_twin : Fun K "twin" "Clock.twin" s_Clock_twin (a 14) (d 14)
  b_Clock_twin : Binds K (d 14) ["self"] []
  m_Clock_twin : Meth K (a 27) "twin" (a 14)
  F_Clock___eq__ : Fun K "__eq__" "Clock.__eq__" s_Clock___eq__ (a 15) (d 15)
  b_Clock___eq__ : Binds K (d 15) ["self", "other"] []
  m_Clock___eq__ : Meth K (a 27) "__eq__" (a 15)
  g_l_bag : mg "_law_bag" = some (.ref (a 16))
  F_l_bag : Fun K "_law_bag" "_law_bag" s_l_bag (a 16) (d 16)
  b_l_bag : Binds K (d 16) ["_law_script", "_law_k"] []
  g_l_out : mg "_law_out" = some (.ref (a 17))
  F_l_out : Fun K "_law_out" "_law_out" s_l_out (a 17) (d 17)
  b_l_out : Binds K (d 17) ["_law_bag_here", "_law_many"] []
  g_l_drift : mg "_law_drift" = some (.ref (a 18))
  F_l_drift : Fun K "_law_drift" "_law_drift" s_l_drift (a 18) (d 18)
  b_l_drift : Binds K (d 18) ["_law_bag_here"] []
  g_l_is_least : mg "_law_is_least" = some (.ref (a 19))
  F_l_is_least : Fun K "_law_is_least" "_law_is_least" s_l_is_least (a 19) (d 19)
  b_l_is_least : Binds K (d 19) ["_law_passed", "_law_count", "_law_drift_here"] []
  g_l_is_most : mg "_law_is_most" = some (.ref (a 20))
  F_l_is_most : Fun K "_law_is_most" "_law_is_most" s_l_is_most (a 20) (d 20)
  b_l_is_most : Binds K (d 20) ["_law_passed", "_law_count", "_law_drift_here"] []
  g_l_set : mg "_law_set" = some (.ref (a 21))
  F_l_set : Fun K "_law_set" "_law_set" s_l_set (a 21) (d 21)
  b_l_set : Binds K (d 21) ["_law_clock", "_law_low", "_law_high"] []
  g_l_about : mg "_law_about" = some (.ref (a 22))
  F_l_about : Fun K "_law_about" "_law_about" s_l_about (a 22) (d 22)
  b_l_about : Binds K (d 22) ["_law_bag_here", "_law_low", "_law_high"] []
  g_l_right : mg "_law_right" = some (.ref (a 23))
  F_l_right : Fun K "_law_right" "_law_right" s_l_right (a 23) (d 23)
  b_l_right : Binds K (d 23) ["_law_clock", "_law_base", "_law_count", "_law_drift_here"] []
  g_law : mg "law" = some (.ref (a 24))
  F_law : Fun K "law" "law" s_law (a 24) (d 24)
  b_law : Binds K (d 24) ["_law_script"] []
  g_bounds_behind : mg "bounds_behind" = some (.ref (a 25))
  F_bounds_behind : Fun K "bounds_behind" "bounds_behind" s_bounds_behind (a 25) (d 25)
  b_bounds_behind : Binds K (d 25) ["stands", "counted", "drift"] []
  g_set_between : mg "set_between" = some (.ref (a 26))
  F_set_between : Fun K "set_between" "set_between" s_set_between (a 26) (d 26)
  b_set_between : Binds K (d 26) ["told", "low", "high"] []
  g_Clock : mg "Clock" = some (.ref (a 27))
  cl : Cls K (a 27)
  n_most_drift : NoAttr K (a 27) "most_drift"
  n_stands : NoAttr K (a 27) "stands"
  n_counted : NoAttr K (a 27) "counted"
  g_WHOLE : mg "WHOLE" = some (.ref (a 28))
  k_WHOLE : ∀ H : Hp, SqT K H (a 28) [V.int 1, V.int 1]
  g_MOST_BOTTOM : ∃ t, mg "MOST_BOTTOM" = some (.int 1000 t)
  g_DRIFT : mg "DRIFT" = some (.ref (a 30))
  k_DRIFT : ∀ H : Hp, SqT K H (a 30) [V.int 1, V.int 100]
  z_max : mg "max" = none
  z_min : mg "min" = none
  z_len : mg "len" = none
  z_int : mg "int" = none
  z_range : mg "range" = none
  z_isinstance : mg "isinstance" = none
  z_bool : mg "bool" = none
  z_tuple : mg "tuple" = none
  z_all : mg "all" = none
  gB : mg "NoBounds" = some (.ref (a 50))
  oex : OexC K (a 50)
  iN : PySem.W.findIn K (.ref (a 50)) "__init__" = some (some (.ref (a 51)))
  tI : PySem.W.typeIn K (.ref (a 51)) = some (.type "function")
  nLo : PySem.W.findIn K (.ref (a 50)) "low" = some none
  nHi : PySem.W.findIn K (.ref (a 50)) "high" = some none
  eP : PySem.W.exmOne K (.ref (a 50)) (.ref (a 50)) = some true
  xf : XfC K (a 50)
  F_BI : Fun K "__init__" "NoBounds.__init__" s_BI (a 51) (d 51)
  b_BI : Binds K (d 51) ["self", "low", "high"] []
  feq : PySem.W.findIn K (.ref (a 27)) "__eq__" = some (some (.ref (a 15)))
  ieq : PySem.W.isFn K (.ref (a 15)) = true
  i1 : PySem.W.findIn K (.ref (a 27)) "__class__" = some (some (.builtin "object.__class__"))
  i2 : PySem.W.specialIn K (.builtin "object.__class__") "__get__" = some (some (.builtin "getset_descriptor.__get__"))
  i3 : PySem.W.takesIn K (.builtin "object.__class__") = some true
  i4 : PySem.W.mroIn K (a 27) (.type "object") = some true
  i5 : PySem.W.kitOne K (.ref (a 27)) (.ref (a 27)) = some true

theorem bl_of {Q : VK} {H : Hp} {c : Prop} [Decidable c] (h : c) (q : Q (.bl true) H) : Q (.bl (decide c)) H := by
  rw [decide_eq_true h]
  exact q
theorem bl_no {Q : VK} {H : Hp} {c : Prop} [Decidable c] (h : ¬ c) (q : Q (.bl false) H) : Q (.bl (decide c)) H := by
  rw [decide_eq_false h]
  exact q
theorem iteDT {c A B : Prop} [Decidable c] (h : c) (a : A) : if decide c = true then A else B := by
  rw [if_pos (decide_eq_true h)]
  exact a
theorem iteDF {c A B : Prop} [Decidable c] (h : ¬ c) (b : B) : if decide c = true then A else B := by
  rw [decide_eq_false h]
  exact iteF b
theorem iteND {c A B : Prop} [Decidable c] (h : ¬ c) (a : A) : if (!decide c) = true then A else B := by
  rw [decide_eq_false h]
  exact iteT a
theorem iteBT {c : Bool} {A B : Prop} (h : c = true) (a : A) : if c = true then A else B := by
  rw [if_pos h]
  exact a
theorem iteBF {c : Bool} {A B : Prop} (h : c = false) (b : B) : if c = true then A else B := by
  rw [h]
  exact iteF b
theorem len3 : 3 ≤ sizeLine := by decide
theorem len2 : 2 ≤ sizeLine := by decide
theorem len1 : 1 ≤ sizeLine := by decide
theorem m64 {i : Int} (a : -18446744073709551616 < i) (b : i < 18446744073709551616) : -(2 ^ 64) < i ∧ i < 2 ^ 64 := by
  have e : (2 : Int) ^ 64 = 18446744073709551616 := by decide
  rw [e]
  exact ⟨a, b⟩
theorem divW {i j : Int} (h : 0 < j) (hb : j ≤ 1000000000000000000000000000000) : CDivW i j := wide_div (b := 200) h (by
  have e : (j.natAbs : Int) = j := by omega
  have q : (j.natAbs : Int) < ((2 ^ 200 : Nat) : Int) := by rw [e]; exact Int.lt_of_le_of_lt hb (by decide)
  exact Int.ofNat_lt.mp q) (by decide) (by decide)
/-! ### heaps -/
/-- all that was tracked but x stands -/
def Fr (x : Addr) (H H' : Hp) : Prop := ∀ b o, b ≠ x → H b = some o → H' b = some o
theorem Fr.refl (x : Addr) (H : Hp) : Fr x H H := fun _ _ _ e => e
theorem Fr.trans {x : Addr} {H H1 H2 : Hp} (a : Fr x H H1) (b : Fr x H1 H2) : Fr x H H2 := fun c o n e => b c o n (a c o n e)
theorem fr_same {x : Addr} {H H' : Hp} (s : Same H H') : Fr x H H' := fun b o _ e => s b o e
theorem Fr.new {x p : Addr} {H H1 : Hp} {o : HO} (k : Fr x H H1) (hp : H1 p = none) : Fr x H (upd H1 p o) := fun b u n e => by
  rw [upd_ne (ne_of_none (k b u n e) hp)]
  exact k b u n e
theorem Fr.put {x : Addr} {H H1 : Hp} {o : HO} (k : Fr x H H1) : Fr x H (upd H1 x o) := fun b u n e => by
  rw [upd_ne n]
  exact k b u n e
theorem Fr.over {x : Addr} {H0 H H1 : Hp} (a : Same H0 H) (hx : H0 x = none) (k : Fr x H H1) : Same H0 H1 := fun b o e => k b o (ne_of_none e hx) (a b o e)
theorem same_new {H0 H : Hp} {p : Addr} {o : HO} (a : Same H0 H) (hp : H p = none) : Same H0 (upd H p o) := fun b u e => by
  rw [upd_ne (ne_of_none (a b u e) hp)]
  exact a b u e
/-- a thing that may be changed -/
def Mut : HO → Prop
  | .lst _ => True
  | .ins _ _ _ => True
  | _ => False
theorem Fr.tup {x p : Addr} {H H' : Hp} {o : HO} {xs : List V} (k : Fr x H H') (hx : H x = some o) (m : Mut o) (hp : H p = some (.tup xs)) : H' p = some (.tup xs) :=
  k p _ (ne_of hp hx (by intro e; subst e; exact m)) hp
theorem Fr.sqt {K : PySem.W.Frag} {x p : Addr} {H H' : Hp} {o : HO} {xs : List V} (k : Fr x H H') (hx : H x = some o) (m : Mut o) (h : SqT K H p xs) : SqT K H' p xs := by
  rcases h with (h | ⟨u, h⟩) | h
  · exact .inl (.inl (k p _ (ne_of h hx (by intro e; subst e; exact m)) h))
  · exact .inl (.inr ⟨u, k p _ (ne_of h hx (by intro e; subst e; exact m)) h⟩)
  · exact .inr h
theorem same_sqt {K : PySem.W.Frag} {p : Addr} {H H' : Hp} {xs : List V} (k : Same H H') (h : SqT K H p xs) : SqT K H' p xs := by
  rcases h with (h | ⟨u, h⟩) | h
  · exact .inl (.inl (k p _ h))
  · exact .inl (.inr ⟨u, k p _ h⟩)
  · exact .inr h
theorem sqt_ty {K : PySem.W.Frag} {H : Hp} {p : Addr} {xs : List V} (h : SqT K H p xs) : TyX K H (.ref p) (.type "tuple") := by
  rcases h with (h | ⟨u, h⟩) | ⟨o, its, n, h1, h2, _⟩
  · exact .base (.tup h)
  · exact .fTuple h
  · exact .kTuple h1 h2
/-! ### draws -/
def BagAt (H : Hp) (s : Addr) : Prop := ∃ a b : Int, H s = some (.lst [.int a, .int b]) ∧ 0 ≤ b ∧ b < 2147483647
theorem BagAt.ex {H : Hp} {s : Addr} (h : BagAt H s) : ∃ o, H s = some o ∧ Mut o := by
  obtain ⟨a, b, e, _⟩ := h
  exact ⟨_, e, trivial⟩
theorem BagAt.same {H H' : Hp} {s : Addr} (h : BagAt H s) (k : Same H H') : BagAt H' s := by
  obtain ⟨a, b, e, r⟩ := h
  exact ⟨a, b, k _ _ e, r⟩
theorem BagAt.new {H : Hp} {s p : Addr} {o : HO} (h : BagAt H s) (hp : H p = none) : BagAt (upd H p o) s := h.same (same_new (Same.refl H) hp)
theorem BagAt.ne_new {H : Hp} {s p : Addr} (h : BagAt H s) (hp : H p = none) : p ≠ s := by
  obtain ⟨a, b, e, _⟩ := h
  exact (ne_of_none e hp).symm
theorem BagAt.fr {H H' : Hp} {s x : Addr} (h : BagAt H s) (k : Fr x H H') (ne : s ≠ x) : BagAt H' s := by
  obtain ⟨a, b, e, r⟩ := h
  exact ⟨a, b, k _ _ ne e, r⟩
theorem BagAt.some_ {H : Hp} {s : Addr} (h : BagAt H s) : ∃ o, H s = some o := by
  obtain ⟨a, b, e, _⟩ := h
  exact ⟨_, e⟩
theorem BagAt.ne_none {H : Hp} {s p : Addr} (h : BagAt H s) (hp : H p = none) : s ≠ p := (h.ne_new hp).symm
theorem same_make {H : Hp} {x dx : Addr} {o1 o2 : HO} (nx : H x = none) (ndx : H dx = none) : Same H (upd (upd H dx o1) x o2) := fun b o e => by
  rw [upd_ne (ne_of_none e nx), upd_ne (ne_of_none e ndx)]
  exact e
def spBag (K : PySem.W.Frag) : Sp := fun vs H Q _ => ∃ (l : Addr) (ns : List Int) (k : Int), vs = [.ref l, .int k] ∧ SqL K H l (ns.map V.int) ∧ 0 ≤ k ∧ k ≤ 100 ∧ ∀ (p : Addr) (H' : Hp), H p = none → Same H H' → BagAt H' p → Q (.ref p) H'
def spOut : Sp := fun vs H Q _ => ∃ (s : Addr) (m : Int), vs = [.ref s, .int m] ∧ BagAt H s ∧ 0 < m ∧ m ≤ 1000000000000000000000000000000 ∧ ∀ (r : Int) (H' : Hp), 0 ≤ r → r < m → Fr s H H' → BagAt H' s → Q (.int r) H'
def DrOk (K : PySem.W.Frag) (H : Hp) (p : Addr) (t b : Int) : Prop := SqT K H p [.int t, .int b] ∧ 0 ≤ t ∧ t < b ∧ b ≤ 1000 ∧ Int.gcd t b = 1
theorem DrOk.same {K : PySem.W.Frag} {H H' : Hp} {p : Addr} {t b : Int} (h : DrOk K H p t b) (k : Same H H') : DrOk K H' p t b := ⟨same_sqt k h.1, h.2⟩
theorem DrOk.fr {K : PySem.W.Frag} {H H' : Hp} {p x : Addr} {o : HO} {t b : Int} (h : DrOk K H p t b) (k : Fr x H H') (hx : H x = some o) (m : Mut o) : DrOk K H' p t b := ⟨k.sqt hx m h.1, h.2⟩
theorem DrOk.bag {K : PySem.W.Frag} {H H' : Hp} {p s : Addr} {t b : Int} (h : DrOk K H p t b) (k : Fr s H H') (bs : BagAt H s) : DrOk K H' p t b := by
  obtain ⟨o, e, m⟩ := bs.ex
  exact h.fr k e m
def spLDrift (K : PySem.W.Frag) : Sp := fun vs H Q _ => ∃ s : Addr, vs = [.ref s] ∧ BagAt H s ∧ ∀ (t b : Int) (p : Addr) (H' : Hp), Fr s H H' → BagAt H' s → DrOk K H' p t b → H' p = some (.tup [.int t, .int b]) → Q (.ref p) H'
/-! ### numbers -/
theorem pos_of_mul {g x l : Int} (hg : 0 < g) (hl : 0 < l) (e : l = g * x) : 0 < x := by
  rcases Int.lt_or_le 0 x with h | h
  · exact h
  · have := Int.mul_nonpos_of_nonneg_of_nonpos (Int.le_of_lt hg) h
    omega
theorem nn_of_mul {g x l : Int} (hg : 0 < g) (hl : 0 ≤ l) (e : l = g * x) : 0 ≤ x := by
  rcases Int.lt_or_le x 0 with h | h
  · have := Int.mul_neg_of_pos_of_neg hg h
    omega
  · exact h
theorem le_of_gmul {g x l : Int} (hg : 0 < g) (hx : 0 ≤ x) (e : l = g * x) : x ≤ l := by
  have := Int.mul_le_mul_of_nonneg_right (show 1 ≤ g by omega) hx
  omega
theorem le_cancel {g x y : Int} (hg : 0 < g) (h : g * x ≤ g * y) : x ≤ y := Int.le_of_mul_le_mul_left h hg
theorem lt_cancel {g x y : Int} (hg : 0 < g) (h : g * x < g * y) : x < y := Int.lt_of_mul_lt_mul_left h (Int.le_of_lt hg)
theorem gcd_turn {h t : Int} (h0 : 0 ≤ h) (t0 : 0 < t) : Int.gcd t (h % t) = Int.gcd h t := by
  obtain ⟨a, rfl⟩ := Int.eq_ofNat_of_zero_le h0
  obtain ⟨b, rfl⟩ := Int.eq_ofNat_of_zero_le (Int.le_of_lt t0)
  show Nat.gcd b (a % b) = Nat.gcd a b
  rw [Nat.gcd_comm a b, Nat.gcd_rec b a, Nat.gcd_comm]
theorem low_end {u l h : Int} (u0 : 0 ≤ u) (l0 : 0 < l) (h0 : 0 ≤ h) (e : Int.gcd h 0 = Int.gcd u l) : 0 < h ∧ u = h * (u / h) ∧ l = h * (l / h) ∧ Int.gcd (u / h) (l / h) = 1 ∧ h ≤ l := by
  have e1 : (h : Int) = (Int.gcd u l : Nat) := by
    have : Int.gcd h 0 = h.natAbs := Int.gcd_zero_right h
    rw [this] at e
    omega
  have hp : 0 < Int.gcd u l := Int.gcd_pos_of_ne_zero_right u (by omega)
  have d1 : h ∣ u := by rw [e1]; exact Int.gcd_dvd_left u l
  have d2 : h ∣ l := by rw [e1]; exact Int.gcd_dvd_right u l
  have hp' : 0 < h := by omega
  refine ⟨hp', (Int.mul_ediv_cancel' d1).symm, (Int.mul_ediv_cancel' d2).symm, ?_, Int.le_of_dvd l0 d2⟩
  rw [e1]
  exact Int.gcd_ediv_gcd_ediv_gcd hp
def leastP (n t b : Int) : Int := -(-n * b / (b + t))
def mostP (n t b : Int) : Int := ((n + 1) * b - 1) / (b - t)
theorem least_le {n t b p : Int} (t0 : 0 ≤ t) (tb : t < b) (h : n * b ≤ p * (b + t)) : leastP n t b ≤ p := by
  unfold leastP
  have q4 : -p ≤ -n * b / (b + t) := (Int.le_ediv_iff_mul_le (by omega)).mpr (by
    have z1 : -p * (b + t) = -(p * (b + t)) := by grind
    have z2 : -n * b = -(n * b) := by grind
    rw [z1, z2]
    omega)
  omega
theorem least_ge {n t b : Int} (t0 : 0 ≤ t) (tb : t < b) : n * b ≤ leastP n t b * (b + t) := by
  unfold leastP
  have q := Int.ediv_mul_le (-n * b) (show b + t ≠ 0 by omega)
  have z2 : -n * b = -(n * b) := by grind
  have z3 : -(-n * b / (b + t)) * (b + t) = -(-n * b / (b + t) * (b + t)) := by grind
  rw [z3]
  omega
theorem le_most {n t b p : Int} (t0 : 0 ≤ t) (tb : t < b) (h : p * (b - t) < (n + 1) * b) : p ≤ mostP n t b := by
  unfold mostP
  exact (Int.le_ediv_iff_mul_le (by omega)).mpr (by omega)
theorem most_lt {n t b : Int} (t0 : 0 ≤ t) (tb : t < b) : mostP n t b * (b - t) < (n + 1) * b := by
  unfold mostP
  have q := Int.ediv_mul_le ((n + 1) * b - 1) (show b - t ≠ 0 by omega)
  omega
theorem least_mono {n m t b : Int} (t0 : 0 ≤ t) (tb : t < b) (h : n ≤ m) : leastP n t b ≤ leastP m t b :=
  least_le t0 tb (Int.le_trans (Int.mul_le_mul_of_nonneg_right h (by omega)) (least_ge t0 tb))
theorem most_mono {n m t b : Int} (t0 : 0 ≤ t) (tb : t < b) (h : n ≤ m) : mostP n t b ≤ mostP m t b :=
  le_most t0 tb (Int.lt_of_lt_of_le (most_lt t0 tb) (Int.mul_le_mul_of_nonneg_right (by omega) (by omega)))
theorem least_nn {n t b : Int} (t0 : 0 ≤ t) (tb : t < b) (h : 0 ≤ n) : 0 ≤ leastP n t b := by
  have q := least_ge (n := n) t0 tb
  have z : 0 ≤ n * b := Int.mul_nonneg h (by omega)
  rcases Int.lt_or_le (leastP n t b) 0 with c | c
  · have := Int.mul_neg_of_neg_of_pos c (show 0 < b + t by omega)
    omega
  · exact c
theorem least_zero {t b : Int} (t0 : 0 ≤ t) (tb : t < b) : leastP 0 t b = 0 := by
  have h1 := least_le (n := 0) (p := 0) t0 tb (by simp)
  have h2 := least_nn (n := 0) t0 tb (by decide)
  omega
theorem most_nn {n t b : Int} (t0 : 0 ≤ t) (tb : t < b) (h : 0 ≤ n) : n ≤ mostP n t b :=
  le_most t0 tb (by
    have z1 : n * (b - t) ≤ n * b := Int.mul_le_mul_of_nonneg_left (by omega) h
    have z2 : (n + 1) * b = n * b + b := by grind
    omega)
theorem least_le_n {n t b : Int} (t0 : 0 ≤ t) (tb : t < b) (h : 0 ≤ n) : leastP n t b ≤ n :=
  least_le t0 tb (Int.mul_le_mul_of_nonneg_left (by omega) h)
/-! ### promises of times -/
def spWhole : Sp := fun vs H Q _ => ∃ n : Int, vs = [.int n] ∧ Q (.bl true) H
def spCount : Sp := fun vs H Q _ => ∃ n : Int, vs = [.int n] ∧ 0 ≤ n ∧ Q (.bl true) H
def spRef : Sp := fun vs H Q _ => ∃ n : Int, vs = [.int n] ∧ 0 ≤ n ∧ Q .non H
def spLeast (K : PySem.W.Frag) : Sp := fun vs H Q _ => ∃ (n t b : Int) (p : Addr), vs = [.int n, .ref p] ∧ 0 ≤ n ∧ DrOk K H p t b ∧ Q (.int (leastP n t b)) H
def spMost (K : PySem.W.Frag) : Sp := fun vs H Q _ => ∃ (n t b : Int) (p : Addr), vs = [.int n, .ref p] ∧ 0 ≤ n ∧ DrOk K H p t b ∧ Q (.int (mostP n t b)) H
def spRow (K : PySem.W.Frag) : Sp := fun vs H Q _ => ∃ (p : Addr) (t b : Int), vs = [.ref p, .int 2, .int 2] ∧ SqT K H p [.int t, .int b] ∧ ∀ H', Same H H' → Q (.bl true) H'
def spFromTo : Sp := fun vs H Q _ => ∃ n lo hi : Int, vs = [.int n, .int lo, .int hi] ∧ lo ≤ n ∧ n ≤ hi ∧ Q (.bl true) H
def spCd : Sp := fun vs H Q _ => ∃ (x y : Int), vs = [.int x, .int y] ∧ 0 ≤ x ∧ 0 ≤ y ∧ Q (.int (Int.gcd x y)) H
def spShare (K : PySem.W.Frag) : Sp := fun vs H Q _ => ∃ (p : Addr) (t b : Int), vs = [.ref p] ∧ DrOk K H p t b ∧ ∀ H', Same H H' → Q (.bl true) H'
theorem two_at {t b : Int} {i : Nat} {x : V} (h : [V.int t, V.int b][i]? = some x) : ∃ n : Int, x = .int n := by
  match i, h with
  | 0, h => exact ⟨t, (Option.some.inj h).symm⟩
  | 1, h => exact ⟨b, (Option.some.inj h).symm⟩
  | n + 2, h => simp at h
/-! ### a clock -/
theorem ne_cs : ¬ (("counted" : Str) = "stands") := by decide +kernel
theorem ne_cm : ¬ (("counted" : Str) = "most_drift") := by decide +kernel
theorem ne_sc : ¬ (("stands" : Str) = "counted") := by decide +kernel
theorem ne_sm : ¬ (("stands" : Str) = "most_drift") := by decide +kernel
theorem ne_mc : ¬ (("most_drift" : Str) = "counted") := by decide +kernel
theorem ne_ms : ¬ (("most_drift" : Str) = "stands") := by decide +kernel
def cf (dr : V) (sv : V) (n : Int) : List (Str × V) := putF "counted" (.int n) (putF "stands" sv (putF "most_drift" dr []))
theorem cf_eq (dr sv : V) (n : Int) : cf dr sv n = ([("most_drift", dr), ("stands", sv), ("counted", V.int n)] : List (Str × V)) := by
  unfold cf
  simp only [putF, if_neg ne_ms, if_neg ne_mc, if_neg ne_sc]
theorem cf_len (dr sv : V) (n : Int) : (cf dr sv n).length < 1000 := by
  rw [cf_eq]
  show 3 < 1000
  decide
theorem cf_m (dr sv : V) (n : Int) : (cf dr sv n).lookup ("most_drift" : Str) = some dr := by
  unfold cf
  rw [lookup_putF, if_neg ne_mc, lookup_putF, if_neg ne_ms, lookup_putF, if_pos rfl]
theorem cf_s (dr sv : V) (n : Int) : (cf dr sv n).lookup ("stands" : Str) = some sv := by
  unfold cf
  rw [lookup_putF, if_neg ne_sc, lookup_putF, if_pos rfl]
theorem cf_c (dr sv : V) (n : Int) : (cf dr sv n).lookup ("counted" : Str) = some (.int n) := by
  unfold cf
  rw [lookup_putF, if_pos rfl]
theorem cf_no (dr sv : V) (n : Int) {m : Str} (h1 : ¬ m = "counted") (h2 : ¬ m = "stands") (h3 : ¬ m = "most_drift") : (cf dr sv n).lookup m = none := by
  unfold cf
  rw [lookup_putF, if_neg h1, lookup_putF, if_neg h2, lookup_putF, if_neg h3]
  all_goals rfl
theorem cf_put_s (dr sv sv' : V) (n : Int) : putF "stands" sv' (cf dr sv n) = cf dr sv' n := by
  rw [cf_eq, cf_eq]
  simp only [putF, if_neg ne_ms, if_pos]
theorem cf_put_c (dr sv : V) (n n' : Int) : putF "counted" (.int n') (cf dr sv n) = cf dr sv n' := by
  rw [cf_eq, cf_eq]
  simp only [putF, if_neg ne_mc, if_neg ne_sc, if_pos]
def SvAt (K : PySem.W.Frag) (H : Hp) (sv : V) : Option (Int × Int) → Prop
  | none => sv = .non
  | some z => ∃ p, sv = .ref p ∧ SqT K H p [.int z.1, .int z.2]
/-- a clock at c: its drift's tuple at dr, what it stands set to, its count -/
structure CkAt (K : PySem.W.Frag) (C : Addr) (H : Hp) (c dr : Addr) (t b : Int) (st : Option (Int × Int)) (n : Int) : Prop where
  at_ : ∃ (dx : Addr) (sv : V), H c = some (.ins C dx (cf (.ref dr) sv n)) ∧ SvAt K H sv st
  dr_ : DrOk K H dr t b
  nn : 0 ≤ n
theorem CkAt.ex {K : PySem.W.Frag} {C : Addr} {H : Hp} {c dr : Addr} {t b : Int} {st : Option (Int × Int)} {n : Int} (h : CkAt K C H c dr t b st n) : ∃ o, H c = some o ∧ Mut o := by
  obtain ⟨dx, sv, e, _⟩ := h.at_
  exact ⟨_, e, trivial⟩
theorem SvAt.fr {K : PySem.W.Frag} {H H' : Hp} {x : Addr} {o : HO} {sv : V} {st : Option (Int × Int)} (h : SvAt K H sv st) (k : Fr x H H') (hx : H x = some o) (m : Mut o) : SvAt K H' sv st := by
  cases st with
  | none => exact h
  | some z =>
    obtain ⟨p, e, q⟩ := h
    exact ⟨p, e, k.sqt hx m q⟩
/-- a clock stays where another changeable thing is changed -/
theorem CkAt.fr {K : PySem.W.Frag} {C : Addr} {H H' : Hp} {c dr x : Addr} {o : HO} {t b : Int} {st : Option (Int × Int)} {n : Int} (h : CkAt K C H c dr t b st n) (k : Fr x H H') (hx : H x = some o) (m : Mut o) (ne : c ≠ x) : CkAt K C H' c dr t b st n := by
  obtain ⟨⟨dx, sv, e, q⟩, d, nn⟩ := h
  exact ⟨⟨dx, sv, k _ _ ne e, q.fr k hx m⟩, d.fr k hx m, nn⟩
theorem CkAt.same {K : PySem.W.Frag} {C : Addr} {H H' : Hp} {c dr : Addr} {t b : Int} {st : Option (Int × Int)} {n : Int} (h : CkAt K C H c dr t b st n) (k : Same H H') : CkAt K C H' c dr t b st n := by
  obtain ⟨⟨dx, sv, e, q⟩, d, nn⟩ := h
  refine ⟨⟨dx, sv, k _ _ e, ?_⟩, d.same k, nn⟩
  cases st with
  | none => exact q
  | some z =>
    obtain ⟨p, e, q⟩ := q
    exact ⟨p, e, same_sqt k q⟩
theorem CkAt.bag {K : PySem.W.Frag} {C : Addr} {H H' : Hp} {c dr s : Addr} {t b : Int} {st : Option (Int × Int)} {n : Int} (h : CkAt K C H c dr t b st n) (k : Fr s H H') (bs : BagAt H s) : CkAt K C H' c dr t b st n := by
  obtain ⟨dx, sv, e, _⟩ := h.at_
  obtain ⟨x, y, e2, _⟩ := bs
  exact h.fr k e2 trivial (ne_of e e2 (by intro z; cases z))
theorem BagAt.ck {K : PySem.W.Frag} {C : Addr} {H H' : Hp} {c dr s : Addr} {t b : Int} {st : Option (Int × Int)} {n : Int} (bs : BagAt H s) (k : Fr c H H') (h : CkAt K C H c dr t b st n) : BagAt H' s := by
  obtain ⟨dx, sv, e, _⟩ := h.at_
  obtain ⟨x, y, e2, r⟩ := bs
  exact ⟨x, y, k _ _ (ne_of e2 e (by intro z; cases z)) e2, r⟩
theorem CkAt.ne_bag {K : PySem.W.Frag} {C : Addr} {H : Hp} {c dr s : Addr} {t b : Int} {st : Option (Int × Int)} {n : Int} (h : CkAt K C H c dr t b st n) (bs : BagAt H s) : c ≠ s := by
  obtain ⟨dx, sv, e, _⟩ := h.at_
  obtain ⟨x, y, e2, _⟩ := bs
  exact ne_of e e2 (by intro z; cases z)
/-! ### promises of Clock -/
/-- what bounds_behind tells -/
def bbQ (H : Hp) (Q : VK) (n t b : Int) : Option (Int × Int) → Prop
  | none => Q .non H
  | some z => ∀ p, H p = none → Q (.ref p) (upd H p (.tup [.int (z.1 + leastP n t b), .int (z.2 + mostP n t b)]))
def spBB (K : PySem.W.Frag) : Sp := fun vs H Q _ => ∃ (sv : V) (st : Option (Int × Int)) (n : Int) (dr : Addr) (t b : Int), vs = [sv, .int n, .ref dr] ∧ SvAt K H sv st ∧ 0 ≤ n ∧ DrOk K H dr t b ∧ bbQ H Q n t b st
def btwL (low : Int) : Option (Int × Int) → Int
  | none => low
  | some z => if z.1 > low then z.1 else low
def btwH (high : Int) : Option (Int × Int) → Int
  | none => high
  | some z => if z.2 < high then z.2 else high
def spSB (K : PySem.W.Frag) : Sp := fun vs H Q _ => ∃ (tv : V) (st : Option (Int × Int)) (low high : Int), vs = [tv, .int low, .int high] ∧ SvAt K H tv st ∧ low ≤ high ∧ btwL low st ≤ btwH high st ∧ ∀ p, H p = none → Q (.ref p) (upd H p (.tup [.int (btwL low st), .int (btwH high st)]))
def spInit (K : PySem.W.Frag) (C : Addr) : Sp := fun vs H Q _ => ∃ (x dr dx : Addr) (t b : Int), vs = [.ref x, .ref dr] ∧ H x = some (.ins C dx []) ∧ DrOk K H dr t b ∧ ∀ H', Fr x H H' → CkAt K C H' x dr t b none 0 → Q .non H'
def spIsSet (K : PySem.W.Frag) (C : Addr) : Sp := fun vs H Q _ => ∃ (c dr : Addr) (t b : Int) (st : Option (Int × Int)) (n : Int), vs = [.ref c] ∧ CkAt K C H c dr t b st n ∧ Q (.bl st.isSome) H
def spBounds (K : PySem.W.Frag) (C : Addr) : Sp := fun vs H Q _ => ∃ (c dr : Addr) (t b lo hi n : Int), vs = [.ref c] ∧ CkAt K C H c dr t b (some (lo, hi)) n ∧ ∀ p, H p = none → Q (.ref p) (upd H p (.tup [.int (lo + leastP n t b), .int (hi + mostP n t b)]))
def spTick (K : PySem.W.Frag) (C : Addr) : Sp := fun vs H Q _ => ∃ (c dr : Addr) (t b : Int) (st : Option (Int × Int)) (n m : Int), vs = [.ref c, .int m] ∧ CkAt K C H c dr t b st n ∧ 0 ≤ m ∧ ∀ H', Fr c H H' → CkAt K C H' c dr t b st (n + m) → Q .non H'
def setLow (low : Int) (st : Option (Int × Int)) (t b n : Int) : Int := match st with
  | none => low
  | some z => if z.1 + leastP n t b > low then z.1 + leastP n t b else low
def setHigh (high : Int) (st : Option (Int × Int)) (t b n : Int) : Int := match st with
  | none => high
  | some z => if z.2 + mostP n t b < high then z.2 + mostP n t b else high
def spSet (K : PySem.W.Frag) (C : Addr) : Sp := fun vs H Q _ => ∃ (c dr : Addr) (t b : Int) (st : Option (Int × Int)) (n low high : Int), vs = [.ref c, .int low, .int high] ∧ CkAt K C H c dr t b st n ∧ low ≤ high ∧ setLow low st t b n ≤ setHigh high st t b n ∧
  ∀ H', Fr c H H' → CkAt K C H' c dr t b (some (setLow low st t b n, setHigh high st t b n)) 0 → Q .non H'
def spPast (K : PySem.W.Frag) (C : Addr) : Sp := fun vs H Q _ => ∃ (c dr : Addr) (t b lo hi n m : Int), vs = [.ref c, .int m] ∧ CkAt K C H c dr t b (some (lo, hi)) n ∧ ∀ H', Same H H' → Q (.bl (decide (m < lo + leastP n t b))) H'
def spAhead (K : PySem.W.Frag) (C : Addr) : Sp := fun vs H Q _ => ∃ (c dr : Addr) (t b lo hi n m : Int), vs = [.ref c, .int m] ∧ CkAt K C H c dr t b (some (lo, hi)) n ∧ ∀ H', Same H H' → Q (.bl (decide (hi + mostP n t b < m))) H'
def spLaw (K : PySem.W.Frag) : Sp := fun vs H Q _ => ∃ (a : Addr) (ns : List Int), vs = [.ref a] ∧ SqL K H a (ns.map V.int) ∧ ns.length ≤ 63 ∧ ∀ H', Q (.bl true) H'

theorem eqv_two {a b c d : Int} (h1 : a = c) (h2 : b = d) : PyData.eqv (.tuple [.int a, .int b]) (.tuple [.int c, .int d]) = true := by
  subst h1 h2
  simp [PyData.eqv, PyData.eqvAll]
theorem least_fits {n t b : Int} (t0 : 0 ≤ t) (tb : t < b) : (leastP n t b - 1) * (b + t) < n * b := by
  rcases Int.lt_or_le ((leastP n t b - 1) * (b + t)) (n * b) with h | h
  · exact h
  · have := least_le (p := leastP n t b - 1) t0 tb h
    omega
theorem most_fits {n t b : Int} (t0 : 0 ≤ t) (tb : t < b) : (n + 1) * b ≤ (mostP n t b + 1) * (b - t) := by
  rcases Int.lt_or_le ((mostP n t b + 1) * (b - t)) ((n + 1) * b) with h | h
  · have := le_most (p := mostP n t b + 1) t0 tb h
    omega
  · exact h
def spIsLeast (K : PySem.W.Frag) : Sp := fun vs H Q _ => ∃ (p n t b : Int) (dr : Addr), vs = [.int p, .int n, .ref dr] ∧ DrOk K H dr t b ∧ 0 ≤ n ∧ p = leastP n t b ∧ Q (.bl true) H
def spIsMost (K : PySem.W.Frag) : Sp := fun vs H Q _ => ∃ (p n t b : Int) (dr : Addr), vs = [.int p, .int n, .ref dr] ∧ DrOk K H dr t b ∧ 0 ≤ n ∧ p = mostP n t b ∧ Q (.bl true) H

theorem kit_self {K : PySem.W.Frag} {S : Addr} : PySem.W.kitOne K (.ref S) (.ref S) = some true := by
  unfold PySem.W.kitOne
  simp
theorem exm_self {K : PySem.W.Frag} {S : Addr} (h1 : PySem.W.subIn K (.ref S) (.type "BaseException") = some true) (h2 : PySem.W.isClsIn K S = true) (h3 : PySem.W.typeIn K (.ref S) = some (.type "type")) (h4 : PySem.W.subIn K (.ref S) (.ref S) = some true) : PySem.W.exmOne K (.ref S) (.ref S) = some true := by
  have h5 : (PySem.W.clsIn K S).isSome = true := h2
  unfold PySem.W.exmOne PySem.W.kitCls
  simp [h1, h3, h4, h5]
def spBI (C : Addr) : Sp := fun vs H Q _ => ∃ (x : Addr) (y z : V), vs = [.ref x, y, z] ∧ H x = some (exo x C none) ∧ ∀ (dx : Addr) (H' : Hp), H dx = none → dx ≠ x → H' x = some (exo x C (some dx)) → H' dx = some (exd dx [("high", z), ("low", y)]) → (∀ b, b ≠ x → b ≠ dx → H' b = H b) → Q .non H'
/-- set anew: done, or refused -/
def spSetB (K : PySem.W.Frag) (C N : Addr) : Sp := fun vs H Q E => ∃ (c dr : Addr) (t b lo hi n low high : Int), vs = [.ref c, .int low, .int high] ∧ CkAt K C H c dr t b (some (lo, hi)) n ∧ low ≤ high ∧
  (setLow low (some (lo, hi)) t b n ≤ setHigh high (some (lo, hi)) t b n → ∀ H', Fr c H H' → CkAt K C H' c dr t b (some (setLow low (some (lo, hi)) t b n, setHigh high (some (lo, hi)) t b n)) 0 → Q .non H') ∧
  (setHigh high (some (lo, hi)) t b n < setLow low (some (lo, hi)) t b n → ∀ (dx : Addr) (H' : Hp), Same H H' → H' dx = some (.xd [("high", .int high), ("low", .int low)]) → E (.ref N) (some dx) H')
def spSBX (K : PySem.W.Frag) (N : Addr) : Sp := fun vs H Q E => ∃ (tv : V) (z : Int × Int) (low high : Int), vs = [tv, .int low, .int high] ∧ SvAt K H tv (some z) ∧ low ≤ high ∧
  (btwL low (some z) ≤ btwH high (some z) → ∀ p, H p = none → Q (.ref p) (upd H p (.tup [.int (btwL low (some z)), .int (btwH high (some z))]))) ∧
  (btwH high (some z) < btwL low (some z) → ∀ (dx : Addr) (H' : Hp), Same H H' → H' dx = some (.xd [("high", .int high), ("low", .int low)]) → E (.ref N) (some dx) H')
def spLSet (K : PySem.W.Frag) (C : Addr) : Sp := fun vs H Q _ => ∃ (c dr : Addr) (t b lo hi n low high : Int), vs = [.ref c, .int low, .int high] ∧ CkAt K C H c dr t b (some (lo, hi)) n ∧ low ≤ high ∧
  (setLow low (some (lo, hi)) t b n ≤ setHigh high (some (lo, hi)) t b n → ∀ H', Fr c H H' → CkAt K C H' c dr t b (some (setLow low (some (lo, hi)) t b n, setHigh high (some (lo, hi)) t b n)) 0 → Q .non H') ∧
  (setHigh high (some (lo, hi)) t b n < setLow low (some (lo, hi)) t b n → ∀ (p : Addr) (H' : Hp), Same H H' → H' p = some (.tup [.int low, .int high]) → Q (.ref p) H')
def spTwin (K : PySem.W.Frag) (C : Addr) : Sp := fun vs H Q _ => ∃ (c dr : Addr) (t b : Int) (st : Option (Int × Int)) (n : Int), vs = [.ref c] ∧ CkAt K C H c dr t b st n ∧ ∀ (x : Addr) (H' : Hp), H x = none → Same H H' → CkAt K C H' x dr t b st n → Q (.ref x) H'
def Alike (K : PySem.W.Frag) (C : Addr) (c c' : Addr) (H : Hp) : Prop := ∃ (dr dr' : Addr) (t b n lo hi : Int), CkAt K C H c dr t b (some (lo, hi)) n ∧ CkAt K C H c' dr' t b (some (lo, hi)) n
def spAbout : Sp := fun vs H Q _ => ∃ (s : Addr) (low high : Int), vs = [.ref s, .int low, .int high] ∧ BagAt H s ∧ ∀ (p : Addr) (x y : Int) (H' : Hp), x ≤ y → Fr s H H' → BagAt H' s → H' p = some (.tup [.int x, .int y]) → Q (.ref p) H'
def spRightB (K : PySem.W.Frag) (C : Addr) : Sp := fun vs H Q _ => ∃ (c dr bp : Addr) (t b lo hi n : Int), vs = [.ref c, .ref bp, .int n, .ref dr] ∧ CkAt K C H c dr t b (some (lo, hi)) n ∧ H bp = some (.tup [.int lo, .int hi]) ∧ ∀ H', Same H H' → Q (.bl true) H'
theorem xd_low (y z : V) : ([("high", z), ("low", y)] : List (Str × V)).lookup ("low" : Str) = some y := by
  have e : (("low" : Str) == "high") = false := by decide +kernel
  have e2 : (("low" : Str) == "low") = true := by decide +kernel
  simp [List.lookup, e, e2]
theorem xd_high (y z : V) : ([("high", z), ("low", y)] : List (Str × V)).lookup ("high" : Str) = some z := by
  have e2 : (("high" : Str) == "high") = true := by decide +kernel
  simp [List.lookup, e2]
theorem far4 {r : Int} (h0 : 0 ≤ r) (h1 : r < 4) : ∃ z : Int, atI [V.int 1, V.int 3, V.int 50, V.int (10 ^ (6 : Int).toNat)] r = some (V.int z) ∧ 0 < z ∧ z ≤ 1000000 := by
  have : r = 0 ∨ r = 1 ∨ r = 2 ∨ r = 3 := by omega
  rcases this with rfl | rfl | rfl | rfl
  · exact ⟨1, rfl, by decide, by decide⟩
  · exact ⟨3, rfl, by decide, by decide⟩
  · exact ⟨50, rfl, by decide, by decide⟩
  · exact ⟨10 ^ (6 : Int).toNat, rfl, by decide, by decide⟩
theorem far3 {r : Int} (h0 : 0 ≤ r) (h1 : r < 3) : ∃ z : Int, atI [V.int 3, V.int 100, V.int (10 ^ (6 : Int).toNat)] r = some (V.int z) ∧ 0 < z ∧ z ≤ 1000000 := by
  have : r = 0 ∨ r = 1 ∨ r = 2 := by omega
  rcases this with rfl | rfl | rfl
  · exact ⟨3, rfl, by decide, by decide⟩
  · exact ⟨100, rfl, by decide, by decide⟩
  · exact ⟨10 ^ (6 : Int).toNat, rfl, by decide, by decide⟩
theorem four_at (a b c d : Int) {r : Int} (h0 : 0 ≤ r) (h1 : r < 4) : ∃ z : Int, atI [V.int a, V.int b, V.int c, V.int d] r = some (V.int z) := by
  have : r = 0 ∨ r = 1 ∨ r = 2 ∨ r = 3 := by omega
  rcases this with rfl | rfl | rfl | rfl
  · exact ⟨a, rfl⟩
  · exact ⟨b, rfl⟩
  · exact ⟨c, rfl⟩
  · exact ⟨d, rfl⟩
theorem three_at (a b c : Int) {r : Int} (h0 : 0 ≤ r) (h1 : r < 3) : ∃ z : Int, atI [V.int a, V.int b, V.int c] r = some (V.int z) := by
  have : r = 0 ∨ r = 1 ∨ r = 2 := by omega
  rcases this with rfl | rfl | rfl
  · exact ⟨a, rfl⟩
  · exact ⟨b, rfl⟩
  · exact ⟨c, rfl⟩
theorem same_err3 {H H2 : Hp} {x dx : Addr} {o1 o4 : HO} (hx : H x = none) (hd : H dx = none) (k : ∀ b, b ≠ x → b ≠ dx → H2 b = upd H x o1 b) : Same H (upd (del H2 x) dx o4) := fun b o e => by
  have n1 : b ≠ x := ne_of_none e hx
  have n2 : b ≠ dx := ne_of_none e hd
  rw [upd_ne n2, del_ne n1, k b n1 n2, upd_ne n1]
  exact e

theorem ok_is_whole {P : Program} {w : World} {K : PySem.W.Frag} {mg : Str → Option Value} {base : Heap} {a : Nat → Addr} {d : Nat → FuncData} (T : Txt K mg a d) : FnOk P w K mg base CX0 1 (a 0) (d 0) ["thing"] spWhole := by
  refine T.F_is_whole.ok sc_is_whole (fun vs H Q E h => ?_) (fun cdv A outer s0 H vs Q E hr h => ?_)
  · obtain ⟨n, rfl, q⟩ := h
    rfl
  · obtain ⟨n, rfl, q⟩ := h
    refine ⟨_, (pss_one (ps_ret (pe_and (pe_callB call_isi (by rfl) T.z_isinstance (by decide +kernel) (pa_cons (pv 0) (pa_cons (pe_bltn (v := .ty "int") (by rfl) T.z_int (by decide +kernel) rfl) pa_nil))) (pe_one (pe_not (pe_callB call_isi (by rfl) T.z_isinstance (by decide +kernel) (pa_cons (pv 0) (pa_cons (pe_bltn (v := .ty "bool") (by rfl) T.z_bool (by decide +kernel) rfl) pa_nil)))))))), ?_⟩
    refine ⟨_, rfl, _, _, .type "int", .type "int", true, rfl, .ty "int", .base (.int n), kit_ty (by decide +kernel), true, rfl, iteT ?_⟩
    refine ⟨_, rfl, _, _, .type "int", .type "bool", false, rfl, .ty "bool", .base (.int n), kit_ty (by decide +kernel), false, rfl, ?_⟩
    exact q

theorem ok_is_count {P : Program} {w : World} {K : PySem.W.Frag} {mg : Str → Option Value} {base : Heap} {a : Nat → Addr} {d : Nat → FuncData} (T : Txt K mg a d) : FnOk P w K mg base CX0 2 (a 1) (d 1) ["thing"] spCount := by
  refine T.F_is_count.ok sc_is_count (fun vs H Q E h => ?_) (fun cdv A outer s0 H vs Q E hr h => ?_)
  · obtain ⟨n, rfl, n0, q⟩ := h
    rfl
  · obtain ⟨n, rfl, n0, q⟩ := h
    refine ⟨_, (pss_one (ps_ret (pe_and (pe_call (ok_is_whole T) (hr.mono (by decide)) (by rfl) T.g_is_whole T.F_is_whole.kp T.b_is_whole .nil pass0 (pa_cons (pv 0) pa_nil)) (pe_one (pe_cmpR op_ge (pv 0) pe_int (nomark _)))))), ?_⟩
    refine ⟨_, rfl, n, rfl, true, rfl, iteT ?_⟩
    exact ⟨_, rfl, n, 0, rfl, rfl, bl_of (Q := Q) n0 q⟩

theorem ok_is_from_to {P : Program} {w : World} {K : PySem.W.Frag} {mg : Str → Option Value} {base : Heap} {a : Nat → Addr} {d : Nat → FuncData} (T : Txt K mg a d) : FnOk P w K mg base CX0 1 (a 2) (d 2) ["thing", "least", "most"] spFromTo := by
  refine T.F_is_from_to.ok sc_is_from_to (fun vs H Q E h => ?_) (fun cdv A outer s0 H vs Q E hr h => ?_)
  · obtain ⟨n, lo, hi, rfl, h1, h2, q⟩ := h
    rfl
  · obtain ⟨n, lo, hi, rfl, h1, h2, q⟩ := h
    refine ⟨_, (pss_one (ps_ret (pe_and (pe_callB call_isi (by rfl) T.z_isinstance (by decide +kernel) (pa_cons (pv 0) (pa_cons (pe_bltn (v := .ty "int") (by rfl) T.z_int (by decide +kernel) rfl) pa_nil))) (pe_and (pe_not (pe_callB call_isi (by rfl) T.z_isinstance (by decide +kernel) (pa_cons (pv 0) (pa_cons (pe_bltn (v := .ty "bool") (by rfl) T.z_bool (by decide +kernel) rfl) pa_nil)))) (pe_one (pe_chain op_le op_le (pv 1) (pv 0) (pv 2))))))), ?_⟩
    refine ⟨_, rfl, _, _, .type "int", .type "int", true, rfl, .ty "int", .base (.int n), kit_ty (by decide +kernel), true, rfl, iteT ?_⟩
    refine ⟨_, rfl, _, _, .type "int", .type "bool", false, rfl, .ty "bool", .base (.int n), kit_ty (by decide +kernel), false, rfl, true, rfl, iteT ?_⟩
    refine ⟨_, rfl, _, rfl, lo, n, rfl, rfl, _, rfl, iteDT h1 ?_⟩
    exact ⟨_, rfl, n, hi, rfl, rfl, bl_of (Q := Q) h2 q⟩

theorem ok_common_divisor {P : Program} {w : World} {K : PySem.W.Frag} {mg : Str → Option Value} {base : Heap} {a : Nat → Addr} {d : Nat → FuncData} (T : Txt K mg a d) : FnOk P w K mg base CX0 1 (a 3) (d 3) ["first", "second"] spCd := by
  refine T.F_common_divisor.ok sc_common_divisor (fun vs H Q E h => ?_) (fun cdv A outer s0 H vs Q E hr h => ?_)
  · obtain ⟨x, y, rfl, x0, y0, q⟩ := h
    rfl
  · obtain ⟨x, y, rfl, x0, y0, q⟩ := h
    refine ⟨_, (pss_cons (ps_while PassesOwn.never (pt_truth (pv 1) (by intro _; rfl)) (pss_one (ps_par (i := 0) (j := 1) (by rfl) sc_common_divisor.nd rfl rfl (by decide) rfl rfl (pa_cons (pv 1) (pa_cons (pe_op op_mod (pv 0) (pv 1)) pa_nil)) (by rfl)))) (pss_one (ps_ret (pv 0)))), ?_⟩
    refine ⟨fun m σ H' => H' = H ∧ ∃ h t : Int, σ = [some (.int h), some (.int t)] ∧ m = t.toNat ∧ 0 ≤ h ∧ 0 ≤ t ∧ Int.gcd h t = Int.gcd x y, ⟨_, rfl, x, y, rfl, rfl, x0, y0, rfl⟩, ?_⟩
    rintro m σ H' ⟨rfl, h, t, rfl, rfl, h0, t0, eg⟩
    refine ⟨_, rfl, _, rfl, ?_⟩
    by_cases hz : t = 0
    · subst hz
      refine iteBF rfl ?_
      have e1 : (Int.gcd x y : Int) = h := by
        rw [← eg, Int.gcd_zero_right]
        omega
      refine ⟨_, rfl, ?_⟩
      rw [e1] at q
      exact q
    · have tp : 0 < t := by omega
      refine iteBT (by simpa using hz) ?_
      refine ⟨_, fun _ _ z => z, ?_⟩
      refine ⟨_, rfl, _, rfl, _, rfl, h, t, rfl, rfl, tp, _, _, rfl, ?_⟩
      have e0 := Int.emod_nonneg h (show t ≠ 0 by omega)
      have e1 := Int.emod_lt_of_pos h tp
      exact ⟨(h % t).toNat, by omega, rfl, t, h % t, rfl, rfl, t0, e0, (gcd_turn h0 tp).trans eg⟩

theorem ok_is_share {P : Program} {w : World} {K : PySem.W.Frag} {mg : Str → Option Value} {base : Heap} {a : Nat → Addr} {d : Nat → FuncData} (T : Txt K mg a d) : FnOk P w K mg base CX0 3 (a 4) (d 4) ["thing"] (spShare K) := by
  refine T.F_is_share.ok sc_is_share (fun vs H Q E h => ?_) (fun cdv A outer s0 H vs Q E hr h => ?_)
  · obtain ⟨p, t, b, rfl, hd, q⟩ := h
    rfl
  · obtain ⟨p, t, b, rfl, hd, q⟩ := h
    refine ⟨_, (pss_cons (ps_if (PW.pt (pw_or (pt_not (pt_truth (pe_callB call_isi (by rfl) T.z_isinstance (by decide +kernel) (pa_cons (pv 0) (pa_cons (pe_bltn (v := .ty "tuple") (by rfl) T.z_tuple (by decide +kernel) rfl) pa_nil))) (by intro _; rfl))) (pw_or1 (pt_cmpR op_ne (pe_callB call_len_seq (by rfl) T.z_len PySem.boot_len (pa_cons (pv 0) pa_nil)) pe_int (nomark _))))) (pss_one (ps_ret pe_bl)) pss_nil) (pss_cons (ps_asg (pv 0) (pg_tup (by rfl) (pgs_cons (pg_name (i := 1) sc_is_share.nd rfl (.inl rfl)) (pgs_cons (pg_name (i := 2) sc_is_share.nd rfl (.inl rfl)) pgs_nil)))) (pss_cons (ps_if (PW.pt (pw_or (pt_not (pt_truth (pe_call (ok_is_from_to T) (hr.mono (by decide)) (by rfl) T.g_is_from_to T.F_is_from_to.kp T.b_is_from_to .nil pass0 (pa_cons (pv 2) (pa_cons pe_int (pa_cons (pe_glob (v := .int 1000) (by rfl) (Exists.choose_spec T.g_MOST_BOTTOM) ⟨_, rfl⟩) pa_nil)))) (by intro _; rfl))) (pw_or1 (pt_not (pt_truth (pe_call (ok_is_from_to T) (hr.mono (by decide)) (by rfl) T.g_is_from_to T.F_is_from_to.kp T.b_is_from_to .nil pass0 (pa_cons (pv 1) (pa_cons pe_int (pa_cons (pv 2) pa_nil)))) (by intro _; rfl)))))) (pss_one (ps_ret pe_bl)) pss_nil) (pss_one (ps_ret (pe_or (pe_cmpR op_eq (pv 1) pe_int (nomark _)) (pe_one (pe_cmpR op_eq (pe_call (ok_common_divisor T) (hr.mono (by decide)) (by rfl) T.g_common_divisor T.F_common_divisor.kp T.b_common_divisor .nil pass0 (pa_cons (pv 1) (pa_cons (pv 2) pa_nil))) pe_int (nomark _))))))))), ?_⟩
    obtain ⟨hS, t0, tb, b1, hg⟩ := hd
    refine ⟨_, rfl, _, _, .type "tuple", .type "tuple", true, rfl, .ty "tuple", sqt_ty hS, kit_ty (by decide +kernel), true, rfl, iteF ?_⟩
    refine ⟨_, rfl, p, _, rfl, .inr hS, rfl, _, rfl, iteNS rfl ?_⟩
    refine ⟨_, rfl, p, _, rfl, hS, rfl, _, _, rfl, _, _, rfl, rfl, ?_⟩
    refine ⟨_, rfl, b, 1, 1000, rfl, by omega, by omega, true, rfl, iteF ?_⟩
    refine ⟨_, rfl, _, rfl, t, 0, b, rfl, by omega, by omega, true, rfl, iteF ?_⟩
    refine ⟨_, rfl, rfl, _, rfl, ?_⟩
    refine ite2 (fun h => ?_) (fun h => ?_)
    · exact q H (Same.refl H)
    refine ⟨_, rfl, _, rfl, t, b, rfl, t0, by omega, rfl, ?_⟩
    have e : (V.int (Int.gcd t b : Nat) = V.int 1) := by rw [hg]; rfl
    exact bl_of (Q := Q) e (q H (Same.refl H))

theorem ok_is_drift {P : Program} {w : World} {K : PySem.W.Frag} {mg : Str → Option Value} {base : Heap} {a : Nat → Addr} {d : Nat → FuncData} (T : Txt K mg a d) : FnOk P w K mg base CX0 4 (a 5) (d 5) ["thing"] (spShare K) := by
  refine T.F_is_drift.ok sc_is_drift (fun vs H Q E h => ?_) (fun cdv A outer s0 H vs Q E hr h => ?_)
  · obtain ⟨p, t, b, rfl, hd, q⟩ := h
    rfl
  · obtain ⟨p, t, b, rfl, hd, q⟩ := h
    refine ⟨_, (pss_one (ps_ret (pe_and (pe_call (ok_is_share T) (hr.mono (by decide)) (by rfl) T.g_is_share T.F_is_share.kp T.b_is_share .nil pass0 (pa_cons (pv 0) pa_nil)) (pe_one (pe_cmpR (op_neD hr.units) (pv 0) (pe_glob (v := .ref (a 28)) (by rfl) T.g_WHOLE rfl) (nomark _)))))), ?_⟩
    refine ⟨_, rfl, p, t, b, rfl, hd, fun H1 s1 => ⟨true, rfl, iteT ?_⟩⟩
    have hS1 := same_sqt s1 hd.1
    refine ⟨_, rfl, .tuple [.int t, .int b], .tuple [.int 1, .int 1], .tup hS1 (.cons (.int _) (.cons (.int _) .nil)), .tup (T.k_WHOLE _) (.cons (.int _) (.cons (.int _) .nil)), rfl, rfl, ?_⟩
    have e : PyData.eqv (.tuple [.int t, .int b]) (.tuple [.int 1, .int 1]) = false := by
      have := hd.2.2.1
      by_cases ht : t = 1
      · have hb : b ≠ 1 := by omega
        simp [PyData.eqv, PyData.eqvAll, hb]
      · simp [PyData.eqv, PyData.eqvAll, ht]
    show Q (V.bl (!PyData.eqv (.tuple [.int t, .int b]) (.tuple [.int 1, .int 1]))) H1
    rw [e]
    exact q H1 s1

theorem ok_refuse_no_count {P : Program} {w : World} {K : PySem.W.Frag} {mg : Str → Option Value} {base : Heap} {a : Nat → Addr} {d : Nat → FuncData} (T : Txt K mg a d) : FnOk P w K mg base CX0 3 (a 6) (d 6) ["thing"] spRef := by
  refine T.F_refuse_no_count.ok sc_refuse_no_count (fun vs H Q E h => ?_) (fun cdv A outer s0 H vs Q E hr h => ?_)
  · obtain ⟨n, rfl, n0, q⟩ := h
    rfl
  · obtain ⟨n, rfl, n0, q⟩ := h
    refine ⟨_, (pss_one (ps_if (pt_not (pt_truth (pe_call (ok_is_count T) (hr.mono (by decide)) (by rfl) T.g_is_count T.F_is_count.kp T.b_is_count .nil pass0 (pa_cons (pv 0) pa_nil)) (by intro _; rfl))) (pss_one ps_never) pss_nil)), ?_⟩
    refine ⟨_, rfl, n, rfl, n0, true, rfl, iteF ?_⟩
    exact q

theorem ok_least_of {P : Program} {w : World} {K : PySem.W.Frag} {mg : Str → Option Value} {base : Heap} {a : Nat → Addr} {d : Nat → FuncData} (T : Txt K mg a d) : FnOk P w K mg base CX0 1 (a 7) (d 7) ["ticks", "drift"] (spLeast K) := by
  refine T.F_least_of.ok sc_least_of (fun vs H Q E h => ?_) (fun cdv A outer s0 H vs Q E hr h => ?_)
  · obtain ⟨n, t, b, p, rfl, n0, ⟨hd, t0, tb, b1, _⟩, q⟩ := h
    rfl
  · obtain ⟨n, t, b, p, rfl, n0, ⟨hd, t0, tb, b1, _⟩, q⟩ := h
    refine ⟨_, (pss_cons (ps_asg (pv 1) (pg_tup (by rfl) (pgs_cons (pg_name (i := 2) sc_least_of.nd rfl (.inl rfl)) (pgs_cons (pg_name (i := 3) sc_least_of.nd rfl (.inl rfl)) pgs_nil)))) (pss_one (ps_ret (pe_un un_neg (pe_op op_fdivW (pe_op op_mul (pe_un un_neg (pv 0)) (pv 3)) (pe_op op_add (pv 3) (pv 2))))))), ?_⟩
    refine ⟨_, rfl, p, _, rfl, hd, rfl, _, _, rfl, _, _, rfl, rfl, ?_⟩
    refine ⟨_, rfl, n, rfl, _, rfl, -n, b, rfl, rfl, .inr (m64 (by omega) (by omega)), _, rfl, _, rfl, b, t, rfl, rfl, _, _, rfl, rfl, divW (by omega) (by omega), _, rfl, ?_⟩
    exact q

theorem ok_most_of {P : Program} {w : World} {K : PySem.W.Frag} {mg : Str → Option Value} {base : Heap} {a : Nat → Addr} {d : Nat → FuncData} (T : Txt K mg a d) : FnOk P w K mg base CX0 1 (a 8) (d 8) ["ticks", "drift"] (spMost K) := by
  refine T.F_most_of.ok sc_most_of (fun vs H Q E h => ?_) (fun cdv A outer s0 H vs Q E hr h => ?_)
  · obtain ⟨n, t, b, p, rfl, n0, ⟨hd, t0, tb, b1, _⟩, q⟩ := h
    rfl
  · obtain ⟨n, t, b, p, rfl, n0, ⟨hd, t0, tb, b1, _⟩, q⟩ := h
    refine ⟨_, (pss_cons (ps_asg (pv 1) (pg_tup (by rfl) (pgs_cons (pg_name (i := 2) sc_most_of.nd rfl (.inl rfl)) (pgs_cons (pg_name (i := 3) sc_most_of.nd rfl (.inl rfl)) pgs_nil)))) (pss_one (ps_ret (pe_op op_fdivW (pe_op op_sub (pe_op op_mul (pe_op op_add (pv 0) pe_int) (pv 3)) pe_int) (pe_op op_sub (pv 3) (pv 2)))))), ?_⟩
    refine ⟨_, rfl, p, _, rfl, hd, rfl, _, _, rfl, _, _, rfl, rfl, ?_⟩
    refine ⟨_, rfl, n, 1, rfl, rfl, _, rfl, _, b, rfl, rfl, .inr (m64 (by omega) (by omega)), _, 1, rfl, rfl, _, rfl, _, rfl, b, t, rfl, rfl, _, _, rfl, rfl, divW (by omega) (by omega), ?_⟩
    exact q

theorem ok_bounds_behind {P : Program} {w : World} {K : PySem.W.Frag} {mg : Str → Option Value} {base : Heap} {a : Nat → Addr} {d : Nat → FuncData} (T : Txt K mg a d) : FnOk P w K mg base CX0 2 (a 25) (d 25) ["stands", "counted", "drift"] (spBB K) := by
  refine T.F_bounds_behind.ok sc_bounds_behind (fun vs H Q E h => ?_) (fun cdv A outer s0 H vs Q E hr h => ?_)
  · obtain ⟨sv, st, n, dr, t, b, rfl, hs, n0, hd, q⟩ := h
    rfl
  · obtain ⟨sv, st, n, dr, t, b, rfl, hs, n0, hd, q⟩ := h
    refine ⟨_, (pss_cons (ps_if (pt_cmpR op_isN (pv 0) pe_non (nomark _)) (pss_one (ps_ret pe_non)) pss_nil) (pss_one (ps_ret (pe_tup (pa_cons (pe_op op_add (pe_ix ix_tup (pv 0) pe_int (fun _ _ => rfl)) (pe_call (ok_least_of T) (hr.mono (by decide)) (by rfl) T.g_least_of T.F_least_of.kp T.b_least_of .nil pass0 (pa_cons (pv 1) (pa_cons (pv 2) pa_nil)))) (pa_cons (pe_op op_add (pe_ix ix_tup (pv 0) pe_int (fun _ _ => rfl)) (pe_call (ok_most_of T) (hr.mono (by decide)) (by rfl) T.g_most_of T.F_most_of.kp T.b_most_of .nil pass0 (pa_cons (pv 1) (pa_cons (pv 2) pa_nil)))) pa_nil)))))), ?_⟩
    cases st with
    | none =>
      have e : sv = V.non := hs
      subst e
      refine ⟨_, rfl, rfl, _, rfl, iteT ?_⟩
      exact q
    | some z =>
      obtain ⟨sp, e, hs⟩ := hs
      subst e
      refine ⟨_, rfl, rfl, _, rfl, iteF ?_⟩
      refine ⟨_, rfl, sp, _, 0, _, rfl, rfl, hs, rfl, _, rfl, _, rfl, n, t, b, dr, rfl, n0, hd, _, _, rfl, rfl, ?_⟩
      refine ⟨_, rfl, sp, _, 1, _, rfl, rfl, hs, rfl, _, rfl, _, rfl, n, t, b, dr, rfl, n0, hd, _, _, rfl, rfl, len2, fun p np => ?_⟩
      exact q p np

theorem ok_set_between {P : Program} {w : World} {K : PySem.W.Frag} {mg : Str → Option Value} {base : Heap} {a : Nat → Addr} {d : Nat → FuncData} (T : Txt K mg a d) : FnOk P w K mg base CX0 2 (a 26) (d 26) ["told", "low", "high"] (spSB K) := by
  refine T.F_set_between.ok sc_set_between (fun vs H Q E h => ?_) (fun cdv A outer s0 H vs Q E hr h => ?_)
  · obtain ⟨tv, st, low, high, rfl, hs, hlh, hle, q⟩ := h
    rfl
  · obtain ⟨tv, st, low, high, rfl, hs, hlh, hle, q⟩ := h
    refine ⟨_, (pss_cons (ps_if (PW.pt (pw_or (pt_not (pt_truth (pe_call (ok_is_whole T) (hr.mono (by decide)) (by rfl) T.g_is_whole T.F_is_whole.kp T.b_is_whole .nil pass0 (pa_cons (pv 1) pa_nil)) (by intro _; rfl))) (pw_or (pt_not (pt_truth (pe_call (ok_is_whole T) (hr.mono (by decide)) (by rfl) T.g_is_whole T.F_is_whole.kp T.b_is_whole .nil pass0 (pa_cons (pv 2) pa_nil)) (by intro _; rfl))) (pw_or1 (pt_cmpR op_gt (pv 1) (pv 2) (nomark _)))))) (pss_one ps_never) pss_nil) (pss_cons (ps_if (pt_cmpR op_isN (pv 0) pe_non (nomark _)) (pss_one (ps_ret (pe_tup (pa_cons (pv 1) (pa_cons (pv 2) pa_nil))))) pss_nil) (pss_cons (ps_set (i := 3) sc_set_between.nd rfl (Or.inl rfl) (pe_callB (call_max2 rfl) (by rfl) T.z_max (by decide +kernel) (pa_cons (pv 1) (pa_cons (pe_ix ix_tup (pv 0) pe_int (fun _ _ => rfl)) pa_nil)))) (pss_cons (ps_set (i := 4) sc_set_between.nd rfl (Or.inl rfl) (pe_callB (call_min2 rfl) (by rfl) T.z_min (by decide +kernel) (pa_cons (pv 2) (pa_cons (pe_ix ix_tup (pv 0) pe_int (fun _ _ => rfl)) pa_nil)))) (pss_cons (ps_if (pt_cmpR op_gt (pv 3) (pv 4) (nomark _)) (pss_one ps_never) pss_nil) (pss_one (ps_ret (pe_tup (pa_cons (pv 3) (pa_cons (pv 4) pa_nil)))))))))), ?_⟩
    refine ⟨_, rfl, low, rfl, true, rfl, iteF ?_⟩
    refine ⟨_, rfl, high, rfl, true, rfl, iteF ?_⟩
    refine ⟨_, rfl, _, rfl, low, high, rfl, rfl, _, rfl, iteDF (by omega) ?_⟩
    cases st with
    | none =>
      have e : tv = V.non := hs
      subst e
      refine ⟨_, rfl, rfl, _, rfl, iteT ?_⟩
      exact ⟨_, rfl, _, rfl, len2, fun p np => q p np⟩
    | some z =>
      obtain ⟨sp, e, hs⟩ := hs
      subst e
      refine ⟨_, rfl, rfl, _, rfl, iteF ?_⟩
      refine ⟨_, rfl, _, rfl, sp, _, 0, _, rfl, rfl, hs, rfl, low, _, rfl, ?_⟩
      refine ⟨_, rfl, _, rfl, sp, _, 1, _, rfl, rfl, hs, rfl, high, _, rfl, ?_⟩
      refine ⟨_, rfl, _, rfl, _, _, rfl, rfl, _, rfl, iteDF (Int.not_lt.mpr hle) ?_⟩
      exact ⟨_, rfl, _, rfl, len2, fun p np => q p np⟩

theorem ok_Clock___init__ {P : Program} {w : World} {K : PySem.W.Frag} {mg : Str → Option Value} {base : Heap} {a : Nat → Addr} {d : Nat → FuncData} (T : Txt K mg a d) : FnOk P w K mg base CX0 5 (a 9) (d 9) ["self", "drift"] (spInit K (a 27)) := by
  refine T.F_Clock___init__.ok (CX := CX0) sc_Clock___init__ (fun vs H Q E h => ?_) (fun cdv A outer s0 H vs Q E hr h => ?_)
  · obtain ⟨x, dr, dx, t, b, rfl, hx, hd, q⟩ := h
    rfl
  · obtain ⟨x, dr, dx, t, b, rfl, hx, hd, q⟩ := h
    refine ⟨_, PSs.nox (pss_cons (ps_if (pt_not (pt_truth (pe_call (ok_is_drift T) (hr.mono (by decide)) (by rfl) T.g_is_drift T.F_is_drift.kp T.b_is_drift .nil pass0 (pa_cons (pv 1) pa_nil)) (by intro _; rfl))) (pss_one ps_never) pss_nil) (pss_cons (ps_fld (pv 0) (pv 1) rfl) (pss_cons (ps_fld (pv 0) pe_non rfl) (pss_one (ps_fld (pv 0) pe_int rfl))))), ?_⟩
    refine ⟨_, rfl, dr, t, b, rfl, hd, fun H1 s1 => ⟨true, rfl, iteF ?_⟩⟩
    refine ⟨_, rfl, _, rfl, x, _, dx, _, rfl, s1 _ _ hx, T.cl, T.n_most_drift, (by decide), ?_⟩
    refine ⟨_, rfl, x, _, dx, _, rfl, upd_same, T.cl, T.n_stands, (by show 1 < 1000; decide), ?_⟩
    refine ⟨_, rfl, x, _, dx, _, rfl, upd_same, T.cl, T.n_counted, (by simp only [putF, if_neg ne_ms]; show 2 < 1000; decide), ?_⟩
    have f1 : ∀ o1 o2 o3, Fr x H (upd (upd (upd H1 x o1) x o2) x o3) := fun _ _ _ => (((fr_same s1).put).put).put
    exact q _ (f1 _ _ _) ⟨⟨dx, .non, upd_same, rfl⟩, hd.fr (f1 _ _ _) hx trivial, Int.le_refl 0⟩

theorem ok_Clock_bounds {P : Program} {w : World} {K : PySem.W.Frag} {mg : Str → Option Value} {base : Heap} {a : Nat → Addr} {d : Nat → FuncData} (T : Txt K mg a d) : FnOk P w K mg base CX0 5 (a 13) (d 13) ["self"] (spBounds K (a 27)) := by
  refine T.F_Clock_bounds.ok sc_Clock_bounds (fun vs H Q E h => ?_) (fun cdv A outer s0 H vs Q E hr h => ?_)
  · obtain ⟨c, dr, t, b, lo, hi, n, rfl, hk, q⟩ := h
    rfl
  · obtain ⟨c, dr, t, b, lo, hi, n, rfl, hk, q⟩ := h
    obtain ⟨⟨dx, sv, hc, hs⟩, hd, nn⟩ := id hk
    obtain ⟨sp, rfl, hs'⟩ := id hs
    refine ⟨_, (pss_cons (ps_if (pt_cmpR op_isN (pe_fld (pv 0) rfl) pe_non (nomark _)) (pss_one ps_never) pss_nil) (pss_one (ps_ret (pe_call (ok_bounds_behind T) (hr.mono (by decide)) (by rfl) T.g_bounds_behind T.F_bounds_behind.kp T.b_bounds_behind .nil pass0 (pa_cons (pe_fld (pv 0) rfl) (pa_cons (pe_fld (pv 0) rfl) (pa_cons (pe_fld (pv 0) rfl) pa_nil))))))), ?_⟩
    refine ⟨_, rfl, c, _, dx, _, _, rfl, hc, T.cl, T.n_stands, cf_s _ _ _, rfl, _, rfl, iteF ?_⟩
    refine ⟨_, rfl, c, _, dx, _, _, rfl, hc, T.cl, T.n_stands, cf_s _ _ _, _, rfl, c, _, dx, _, _, rfl, hc, T.cl, T.n_counted, cf_c _ _ _, _, rfl, c, _, dx, _, _, rfl, hc, T.cl, T.n_most_drift, cf_m _ _ _, ?_⟩
    exact ⟨_, some (lo, hi), n, dr, t, b, rfl, hs, nn, hd, fun p np => q p np⟩

theorem ok_Clock_set_to {P : Program} {w : World} {K : PySem.W.Frag} {mg : Str → Option Value} {base : Heap} {a : Nat → Addr} {d : Nat → FuncData} (T : Txt K mg a d) : FnOk P w K mg base CX0 6 (a 11) (d 11) ["self", "low", "high"] (spSet K (a 27)) := by
  refine T.F_Clock_set_to.ok sc_Clock_set_to (fun vs H Q E h => ?_) (fun cdv A outer s0 H vs Q E hr h => ?_)
  · obtain ⟨c, dr, t, b, st, n, low, high, rfl, hk, hlh, hle, q⟩ := h
    rfl
  · obtain ⟨c, dr, t, b, st, n, low, high, rfl, hk, hlh, hle, q⟩ := h
    refine ⟨_, (pss_cons (ps_set (i := 3) sc_Clock_set_to.nd rfl (Or.inl rfl) (pe_call (ok_bounds_behind T) (hr.mono (by decide)) (by rfl) T.g_bounds_behind T.F_bounds_behind.kp T.b_bounds_behind .nil pass0 (pa_cons (pe_fld (pv 0) rfl) (pa_cons (pe_fld (pv 0) rfl) (pa_cons (pe_fld (pv 0) rfl) pa_nil))))) (pss_cons (ps_fld (pv 0) (pe_call (ok_set_between T) (hr.mono (by decide)) (by rfl) T.g_set_between T.F_set_between.kp T.b_set_between .nil pass0 (pa_cons (pv 3) (pa_cons (pv 1) (pa_cons (pv 2) pa_nil)))) rfl) (pss_one (ps_fld (pv 0) pe_int rfl)))), ?_⟩
    obtain ⟨⟨dx, sv, hc, hs⟩, hd, nn⟩ := id hk
    refine ⟨_, rfl, c, _, dx, _, _, rfl, hc, T.cl, T.n_stands, cf_s _ _ _, _, rfl, c, _, dx, _, _, rfl, hc, T.cl, T.n_counted, cf_c _ _ _, _, rfl, c, _, dx, _, _, rfl, hc, T.cl, T.n_most_drift, cf_m _ _ _, ?_⟩
    refine ⟨_, st, n, dr, t, b, rfl, hs, nn, hd, ?_⟩
    cases st with
    | none =>
      refine ⟨_, rfl, _, rfl, _, rfl, _, none, low, high, rfl, rfl, hlh, hle, fun p np => ?_⟩
      have npc : c ≠ p := ne_of_none hc np
      refine ⟨_, rfl, c, _, dx, _, rfl, (by rw [upd_ne npc]; exact hc), T.cl, T.n_stands, cf_len _ _ _, ?_⟩
      refine ⟨_, rfl, c, _, dx, _, rfl, upd_same, T.cl, T.n_counted, (by rw [cf_put_s]; exact cf_len _ _ _), ?_⟩
      rw [cf_put_s, cf_put_c]
      have f1 : Fr c H (upd (upd (upd H p (.tup [.int low, .int high])) c (.ins (a 27) dx (cf (.ref dr) (.ref p) n))) c (.ins (a 27) dx (cf (.ref dr) (.ref p) 0))) := (((Fr.refl c H).new np).put).put
      exact q _ f1 ⟨⟨dx, .ref p, upd_same, p, rfl, SqT.of (by rw [upd_ne npc.symm, upd_ne npc.symm]; exact upd_same)⟩, hd.fr f1 hc trivial, Int.le_refl 0⟩
    | some z =>
      obtain ⟨lo, hi⟩ := z
      intro p1 np1
      refine ⟨_, rfl, _, rfl, _, rfl, _, some (lo + leastP n t b, hi + mostP n t b), low, high, rfl, ⟨p1, rfl, SqT.of upd_same⟩, hlh, hle, fun p np => ?_⟩
      have hc1 : upd H p1 (.tup [.int (lo + leastP n t b), .int (hi + mostP n t b)]) c = some (.ins (a 27) dx (cf (.ref dr) sv n)) := by
        rw [upd_ne (ne_of_none hc np1)]
        exact hc
      have npc : c ≠ p := ne_of_none hc1 np
      refine ⟨_, rfl, c, _, dx, _, rfl, (by rw [upd_ne npc]; exact hc1), T.cl, T.n_stands, cf_len _ _ _, ?_⟩
      refine ⟨_, rfl, c, _, dx, _, rfl, upd_same, T.cl, T.n_counted, (by rw [cf_put_s]; exact cf_len _ _ _), ?_⟩
      rw [cf_put_s, cf_put_c]
      have f1 : Fr c H (upd (upd (upd (upd H p1 (.tup [.int (lo + leastP n t b), .int (hi + mostP n t b)])) p (.tup [.int (setLow low (some (lo, hi)) t b n), .int (setHigh high (some (lo, hi)) t b n)])) c (.ins (a 27) dx (cf (.ref dr) (.ref p) n))) c (.ins (a 27) dx (cf (.ref dr) (.ref p) 0))) := ((((Fr.refl c H).new np1).new np).put).put
      exact q _ f1 ⟨⟨dx, .ref p, upd_same, p, rfl, SqT.of (by rw [upd_ne npc.symm, upd_ne npc.symm]; exact upd_same)⟩, hd.fr f1 hc trivial, Int.le_refl 0⟩

theorem ok_Clock_tick {P : Program} {w : World} {K : PySem.W.Frag} {mg : Str → Option Value} {base : Heap} {a : Nat → Addr} {d : Nat → FuncData} (T : Txt K mg a d) : FnOk P w K mg base CX0 4 (a 12) (d 12) ["self", "many"] (spTick K (a 27)) := by
  refine T.F_Clock_tick.ok (CX := CX0) sc_Clock_tick (fun vs H Q E h => ?_) (fun cdv A outer s0 H vs Q E hr h => ?_)
  · obtain ⟨c, dr, t, b, st, n, m, rfl, hk, m0, q⟩ := h
    rfl
  · obtain ⟨c, dr, t, b, st, n, m, rfl, hk, m0, q⟩ := h
    obtain ⟨⟨dx, sv, hc, hs⟩, hd, nn⟩ := id hk
    refine ⟨_, PSs.nox (pss_cons (ps_expr (pe_call (ok_refuse_no_count T) (hr.mono (by decide)) (by rfl) T.g_refuse_no_count T.F_refuse_no_count.kp T.b_refuse_no_count .nil pass0 (pa_cons (pv 1) pa_nil))) (pss_one (ps_fldaug (pv 0) (pv 1) in_add))), ?_⟩
    refine ⟨_, rfl, m, rfl, m0, ?_⟩
    refine ⟨_, rfl, c, _, dx, _, _, rfl, hc, T.cl, T.n_counted, cf_c _ _ _, _, rfl, n, m, rfl, rfl, dx, _, hc, cf_len _ _ _, ?_⟩
    rw [cf_put_c]
    have f1 : Fr c H (upd H c (.ins (a 27) dx (cf (.ref dr) sv (n + m)))) := (Fr.refl c H).put
    exact q _ f1 ⟨⟨dx, sv, upd_same, hs.fr f1 hc trivial⟩, hd.fr f1 hc trivial, by omega⟩

theorem ok_l_bag {P : Program} {w : World} {K : PySem.W.Frag} {mg : Str → Option Value} {base : Heap} {a : Nat → Addr} {d : Nat → FuncData} (T : Txt K mg a d) : FnOk P w K mg base CX0 1 (a 16) (d 16) ["_law_script", "_law_k"] (spBag K) := by
  refine T.F_l_bag.ok sc_l_bag (fun vs H Q E h => ?_) (fun cdv A outer s0 H vs Q E hr h => ?_)
  · obtain ⟨l, ns, k, rfl, hS, hk0, hk1, q⟩ := h
    rfl
  · obtain ⟨l, ns, k, rfl, hS, hk0, hk1, q⟩ := h
    obtain ⟨k, rfl⟩ := Int.eq_ofNat_of_zero_le hk0
    refine ⟨_, (pss_cons (ps_set (i := 2) sc_l_bag.nd rfl (Or.inl rfl) pe_int) (pss_cons (ps_if (pt_cmpR op_lt (pv 1) (pe_callB call_len_seq (by rfl) T.z_len PySem.boot_len (pa_cons (pv 0) pa_nil)) (nomark _)) (pss_one (ps_set (i := 2) sc_l_bag.nd rfl (Or.inl rfl) (pe_ix ix_list (pv 0) (pv 1) (fun _ _ => rfl)))) pss_nil) (pss_cons (ps_set (i := 3) sc_l_bag.nd rfl (Or.inl rfl) pe_int) (pss_cons (ps_if (pt_cmpR op_ge (pv 2) (pe_op op_pow pe_int pe_int) (nomark _)) (pss_one (ps_set (i := 3) sc_l_bag.nd rfl (Or.inl rfl) (pv 2))) pss_nil) (pss_one (ps_ret (pe_lst (pa_cons (pv 3) (pa_cons (pe_op op_mod (pe_op op_pow (pe_op op_add (pe_op op_add (pe_op op_mod (pv 2) pe_int) (pe_op op_mul pe_int (pv 1))) pe_int) pe_int) pe_int) pa_nil))))))))), ?_⟩
    have fin : ∀ cell great : Int, ∀ p4, H p4 = none → BagAt (upd H p4 (.lst [.int great, .int ((cell % 998244353 + 7368787 * (k : Int) + 41) ^ (3 : Int).toNat % 2147483629)])) p4 := fun cell great p4 n4 =>
      ⟨_, _, upd_same, Int.emod_nonneg _ (by decide), Int.lt_trans (Int.emod_lt_of_pos _ (by decide)) (by decide)⟩
    have pw : ∀ cell : Int, (cell % 998244353 + 7368787 * (k : Int) + 41).natAbs < 2 ^ 64 := fun cell => by
      have h1 := Int.emod_nonneg cell (show (998244353 : Int) ≠ 0 by decide)
      have h2 := Int.emod_lt_of_pos cell (show (0 : Int) < 998244353 by decide)
      have e : (2 : Nat) ^ 64 = 18446744073709551616 := by decide
      rw [e]
      omega
    refine ⟨_, rfl, _, rfl, l, _, rfl, .inl hS, _, _, rfl, rfl, _, rfl, ?_⟩
    refine ite2 (fun hlt => ?_) (fun hlt => ?_)
    · have hlt' : k < ns.length := by
        have z := of_decide_eq_true hlt
        rw [List.length_map] at z
        omega
      refine ⟨_, rfl, _, rfl, l, _, _, _, rfl, rfl, hS, atI_nat (j := k) (v := .int ns[k]) (by rw [List.getElem?_map, List.getElem?_eq_getElem hlt']; rfl), ?_⟩
      refine ⟨_, rfl, 10, 18, rfl, rfl, ⟨by decide, by decide, by decide⟩, _, _, rfl, rfl, _, rfl, ?_⟩
      refine ite2 (fun _ => ?_) (fun _ => ?_)
      · refine ⟨_, rfl, ?_⟩
        refine ⟨_, rfl, _, rfl, _, _, rfl, rfl, (by show (0 : Int) < 998244353; decide), _, rfl, _, k, rfl, rfl, .inl (m64 (by decide) (by decide)), _, _, rfl, rfl, _, 41, rfl, rfl, _, 3, rfl, rfl, ⟨by decide, by decide, pw _⟩, _, _, rfl, rfl, (by show (0 : Int) < 2147483629; decide), len2, fun p4 n4 => ?_⟩
        exact q p4 _ n4 (same_new (Same.refl H) n4) (fin _ _ p4 n4)
      · refine ⟨_, rfl, _, rfl, _, _, rfl, rfl, (by show (0 : Int) < 998244353; decide), _, rfl, _, k, rfl, rfl, .inl (m64 (by decide) (by decide)), _, _, rfl, rfl, _, 41, rfl, rfl, _, 3, rfl, rfl, ⟨by decide, by decide, pw _⟩, _, _, rfl, rfl, (by show (0 : Int) < 2147483629; decide), len2, fun p4 n4 => ?_⟩
        exact q p4 _ n4 (same_new (Same.refl H) n4) (fin _ _ p4 n4)
    · refine ⟨_, rfl, 10, 18, rfl, rfl, ⟨by decide, by decide, by decide⟩, _, _, rfl, rfl, _, rfl, ?_⟩
      refine iteDF (by decide) ?_
      refine ⟨_, rfl, _, rfl, _, _, rfl, rfl, (by show (0 : Int) < 998244353; decide), _, rfl, _, k, rfl, rfl, .inl (m64 (by decide) (by decide)), _, _, rfl, rfl, _, 41, rfl, rfl, _, 3, rfl, rfl, ⟨by decide, by decide, pw _⟩, _, _, rfl, rfl, (by show (0 : Int) < 2147483629; decide), len2, fun p4 n4 => ?_⟩
      exact q p4 _ n4 (same_new (Same.refl H) n4) (fin _ _ p4 n4)

theorem ok_l_out {P : Program} {w : World} {K : PySem.W.Frag} {mg : Str → Option Value} {base : Heap} {a : Nat → Addr} {d : Nat → FuncData} (T : Txt K mg a d) : FnOk P w K mg base CX0 1 (a 17) (d 17) ["_law_bag_here", "_law_many"] spOut := by
  refine T.F_l_out.ok sc_l_out (fun vs H Q E h => ?_) (fun cdv A outer s0 H vs Q E hr h => ?_)
  · obtain ⟨s, m, rfl, ⟨x, y, hs, y0, y1⟩, m0, m1, q⟩ := h
    rfl
  · obtain ⟨s, m, rfl, ⟨x, y, hs, y0, y1⟩, m0, m1, q⟩ := h
    refine ⟨_, (pss_cons (ps_if (pt_cmpR op_gt (pe_ix ix_list (pv 0) pe_int (fun _ _ => rfl)) pe_int (nomark _)) (pss_cons (ps_set (i := 2) sc_l_out.nd rfl (Or.inl rfl) (pe_op op_mod (pe_ix ix_list (pv 0) pe_int (fun _ _ => rfl)) (pv 1))) (pss_cons (ps_asg (pe_op op_fdivW (pe_ix ix_list (pv 0) pe_int (fun _ _ => rfl)) (pv 1)) (pg_sub (pv 0) pe_int set_list)) (pss_one (ps_ret (pv 2))))) pss_nil) (pss_cons (ps_asg (pe_op op_mod (pe_op op_add (pe_op op_mul (pe_ix ix_list (pv 0) pe_int (fun _ _ => rfl)) pe_int) pe_int) pe_int) (pg_sub (pv 0) pe_int set_list)) (pss_one (ps_ret (pe_op op_mod (pe_op op_fdiv (pe_op op_mod (pe_op op_mul (pe_ix ix_list (pv 0) pe_int (fun _ _ => rfl)) (pe_op op_add (pe_op op_fdiv (pe_ix ix_list (pv 0) pe_int (fun _ _ => rfl)) pe_int) pe_int)) pe_int) pe_int) (pv 1)))))), ?_⟩
    refine ⟨_, rfl, s, _, 0, _, rfl, rfl, SqL.of hs, rfl, x, 0, rfl, rfl, _, rfl, ?_⟩
    refine ite2 (fun _ => ?_) (fun _ => ?_)
    · refine ⟨_, rfl, s, _, 0, _, rfl, rfl, SqL.of hs, rfl, _, rfl, x, m, rfl, rfl, m0, ?_⟩
      refine ⟨_, rfl, s, _, 0, _, rfl, rfl, SqL.of hs, rfl, _, rfl, x, m, rfl, rfl, divW m0 m1, _, rfl, s, _, 0, 0, rfl, rfl, hs, rfl, ?_⟩
      refine ⟨_, rfl, ?_⟩
      exact q _ _ (Int.emod_nonneg _ (by omega)) (Int.emod_lt_of_pos _ m0) (Fr.refl s H).put ⟨_, _, upd_same, y0, y1⟩
    · refine ⟨_, rfl, s, _, 1, _, rfl, rfl, SqL.of hs, rfl, y, 40692, rfl, rfl, .inr (m64 (by decide) (by decide)), _, 12345, rfl, rfl, _, 2147483399, rfl, rfl, (by show (0 : Int) < 2147483399; decide), _, rfl, s, _, 1, 1, rfl, rfl, hs, rfl, ?_⟩
      have e0 : 0 ≤ (y * 40692 + 12345) % 2147483399 := Int.emod_nonneg _ (by decide)
      have e1 : (y * 40692 + 12345) % 2147483399 < 2147483399 := Int.emod_lt_of_pos _ (by decide)
      refine ⟨_, rfl, s, _, 1, _, rfl, rfl, SqL.of upd_same, rfl, _, rfl, s, _, 1, _, rfl, rfl, SqL.of upd_same, rfl, _, 1024, rfl, rfl, ⟨by decide, by decide⟩, _, 7, rfl, rfl, _, _, rfl, rfl, .inl (m64 (by omega) (by omega)), _, 2147483647, rfl, rfl, (by show (0 : Int) < 2147483647; decide), _, 32, rfl, rfl, ⟨by decide, by decide⟩, _, rfl, _, m, rfl, rfl, m0, ?_⟩
      exact q _ _ (Int.emod_nonneg _ (by omega)) (Int.emod_lt_of_pos _ m0) (Fr.refl s H).put ⟨_, _, upd_same, e0, by omega⟩

theorem ok_l_drift {P : Program} {w : World} {K : PySem.W.Frag} {mg : Str → Option Value} {base : Heap} {a : Nat → Addr} {d : Nat → FuncData} (T : Txt K mg a d) : FnOk P w K mg base CX0 2 (a 18) (d 18) ["_law_bag_here"] (spLDrift K) := by
  refine T.F_l_drift.ok sc_l_drift (fun vs H Q E h => ?_) (fun cdv A outer s0 H vs Q E hr h => ?_)
  · obtain ⟨s, rfl, hs, q⟩ := h
    rfl
  · obtain ⟨s, rfl, hs, q⟩ := h
    refine ⟨_, (pss_cons (ps_set (i := 1) sc_l_drift.nd rfl (Or.inl rfl) (pe_op op_add pe_int (pe_call (ok_l_out T) (hr.mono (by decide)) (by rfl) T.g_l_out T.F_l_out.kp T.b_l_out .nil pass0 (pa_cons (pv 0) (pa_cons (pe_ix ix_list (pe_lst (pa_cons pe_int (pa_cons pe_int (pa_cons pe_int (pa_cons pe_int pa_nil))))) (pe_call (ok_l_out T) (hr.mono (by decide)) (by rfl) T.g_l_out T.F_l_out.kp T.b_l_out .nil pass0 (pa_cons (pv 0) (pa_cons pe_int pa_nil))) (fun _ _ => rfl)) pa_nil))))) (pss_cons (ps_set (i := 2) sc_l_drift.nd rfl (Or.inl rfl) (pe_call (ok_l_out T) (hr.mono (by decide)) (by rfl) T.g_l_out T.F_l_out.kp T.b_l_out .nil pass0 (pa_cons (pv 0) (pa_cons (pv 1) pa_nil)))) (pss_cons (ps_set (i := 3) sc_l_drift.nd rfl (Or.inl rfl) (pv 2)) (pss_cons (ps_set (i := 4) sc_l_drift.nd rfl (Or.inl rfl) (pv 1)) (pss_cons (ps_while PassesOwn.never (pt_cmpR op_gt (pv 4) pe_int (nomark _)) (pss_one (ps_par (i := 3) (j := 4) (by rfl) sc_l_drift.nd rfl rfl (by decide) rfl rfl (pa_cons (pv 4) (pa_cons (pe_op op_mod (pv 3) (pv 4)) pa_nil)) (by rfl)))) (pss_one (ps_ret (pe_tup (pa_cons (pe_op op_fdivW (pv 2) (pv 3)) (pa_cons (pe_op op_fdivW (pv 1) (pv 3)) pa_nil)))))))))), ?_⟩
    refine ⟨_, rfl, (by decide : 4 ≤ sizeLine), fun p1 n1 => ?_⟩
    refine ⟨_, rfl, s, 4, rfl, hs.new n1, (by decide), (by decide), fun r1 H1 r10 r11 k1 b1 => ?_⟩
    have g1 : H1 p1 = some (.lst [.int 1, .int 9, .int 100, .int 1000]) := k1 _ _ (hs.ne_new n1) upd_same
    obtain ⟨z, hz, z0, z1⟩ : ∃ z : Int, atI [V.int 1, V.int 9, V.int 100, V.int 1000] r1 = some (V.int z) ∧ 0 < z ∧ z ≤ 1000 := by
      have : r1 = 0 ∨ r1 = 1 ∨ r1 = 2 ∨ r1 = 3 := by omega
      rcases this with rfl | rfl | rfl | rfl
      · exact ⟨1, rfl, by decide, by decide⟩
      · exact ⟨9, rfl, by decide, by decide⟩
      · exact ⟨100, rfl, by decide, by decide⟩
      · exact ⟨1000, rfl, by decide, by decide⟩
    have f1 : Fr s H H1 := ((Fr.refl s H).new n1).trans k1
    refine ⟨p1, _, r1, _, rfl, rfl, SqL.of g1, hz, ?_⟩
    refine ⟨s, z, rfl, b1, z0, by omega, fun r2 H2 r20 r21 k2 b2 => ?_⟩
    have f2 := f1.trans k2
    refine ⟨1, r2, rfl, rfl, ?_⟩
    refine ⟨_, rfl, _, rfl, s, _, rfl, b2, by omega, by omega, fun r3 H3 r30 r31 k3 b3 => ?_⟩
    have f3 := f2.trans k3
    refine ⟨_, rfl, _, rfl, ?_⟩
    refine ⟨fun m σ H' => H' = H3 ∧ ∃ h t : Int, σ = [some (.ref s), some (.int (1 + r2)), some (.int r3), some (.int h), some (.int t)] ∧ m = t.toNat ∧ 0 ≤ h ∧ 0 ≤ t ∧ Int.gcd h t = Int.gcd r3 (1 + r2), ⟨_, rfl, r3, 1 + r2, rfl, rfl, r30, by omega, rfl⟩, ?_⟩
    rintro m σ H' ⟨rfl, h, t, rfl, rfl, h0, t0, eg⟩
    refine ⟨_, rfl, t, 0, rfl, rfl, _, rfl, ?_⟩
    by_cases tp : 0 < t
    · refine iteDT tp ?_
      refine ⟨_, fun _ _ z => z, ?_⟩
      refine ⟨_, rfl, _, rfl, _, rfl, h, t, rfl, rfl, tp, _, _, rfl, ?_⟩
      have e0 := Int.emod_nonneg h (show t ≠ 0 by omega)
      have e1 := Int.emod_lt_of_pos h tp
      exact ⟨(h % t).toNat, by omega, rfl, t, h % t, rfl, rfl, t0, e0, (gcd_turn h0 tp).trans eg⟩
    · refine iteDF tp ?_
      have hz : t = 0 := by omega
      subst hz
      obtain ⟨hp, e1, e2, e3, hl⟩ := low_end r30 (by omega) h0 eg
      refine ⟨_, rfl, _, rfl, r3, h, rfl, rfl, divW hp (by omega), _, rfl, _, rfl, 1 + r2, h, rfl, rfl, divW hp (by omega), len2, fun p np => ?_⟩
      have t0' := nn_of_mul hp r30 e1
      have l0 := pos_of_mul hp (show 0 < 1 + r2 by omega) e2
      have l1 := le_of_gmul hp (Int.le_of_lt l0) e2
      exact q _ _ p _ (f3.new np) (b3.new np) ⟨SqT.of upd_same, t0', lt_cancel hp (by omega), by omega, e3⟩ upd_same

theorem ok_BI {P : Program} {w : World} {K : PySem.W.Frag} {mg : Str → Option Value} {base : Heap} {a : Nat → Addr} {d : Nat → FuncData} (T : Txt K mg a d) : FnOk P w K mg base CX0 1 (a 51) (d 51) ["self", "low", "high"] (spBI (a 50)) := by
  refine T.F_BI.ok sc_BI (fun vs H Q E h => ?_) (fun cdv A outer s0 H vs Q E hr h => ?_)
  · obtain ⟨x, y, z, rfl, _⟩ := h
    rfl
  · obtain ⟨x, y, z, rfl, hx, q⟩ := h
    refine ⟨_, pss_cons (ps_ost (pv 0) (pv 1)) (pss_one (ps_ost (pv 0) (pv 2))), ?_⟩
    refine ⟨_, rfl, _, rfl, x, a 50, rfl, T.oex, T.nLo, .inl ⟨hx, fun dx n ne => ?_⟩⟩
    refine ⟨_, rfl, _, rfl, x, a 50, rfl, T.oex, T.nHi, .inr ⟨dx, _, upd_same, (by rw [upd_ne ne]; exact upd_same), (by show 1 ≤ 900; decide), ?_⟩⟩
    refine q dx _ n ne (by rw [upd_ne ne.symm]; exact upd_same) upd_same fun b n1 n2 => ?_
    rw [upd_ne n2, upd_ne n1, upd_ne n2]

theorem ok_sbX {P : Program} {w : World} {K : PySem.W.Frag} {mg : Str → Option Value} {base : Heap} {a : Nat → Addr} {d : Nat → FuncData} (T : Txt K mg a d) : FnOk P w K mg base (L2.CX P w) 3 (a 26) (d 26) ["told", "low", "high"] (spSBX K (a 50)) := by
  refine T.F_set_between.okX sc_set_between (fun vs H Q E h => ?_) (fun cdv A outer s0 H vs Q E hr h => ?_)
  · obtain ⟨tv, z, low, high, rfl, hs, hlh, q, qx⟩ := h
    rfl
  · obtain ⟨tv, z, low, high, rfl, hs, hlh, q, qx⟩ := h
    obtain ⟨sp, rfl, hs⟩ := hs
    refine ⟨_, (pss_cons (ps_if (PW.pt (pw_or (pt_not (pt_truth (pe_call (ok_is_whole T) (hr.mono (by decide)) (by rfl) T.g_is_whole T.F_is_whole.kp T.b_is_whole .nil pass0 (pa_cons (pv 1) pa_nil)) (by intro _; rfl))) (pw_or (pt_not (pt_truth (pe_call (ok_is_whole T) (hr.mono (by decide)) (by rfl) T.g_is_whole T.F_is_whole.kp T.b_is_whole .nil pass0 (pa_cons (pv 2) pa_nil)) (by intro _; rfl))) (pw_or1 (pt_cmpR op_gt (pv 1) (pv 2) (nomark _)))))) (pss_one (ps_raise rfl (takes_of rfl rfl rfl rfl) (pmk_oex T.oex T.iN T.tI (ok_BI T) (hr.mono (by decide)) T.b_BI .nil pass0 (by rfl) T.gB (pa_cons (pv 1) (pa_cons (pv 2) pa_nil))))) pss_nil) (pss_cons (ps_if (pt_cmpR op_isN (pv 0) pe_non (nomark _)) (pss_one (ps_ret (pe_tup (pa_cons (pv 1) (pa_cons (pv 2) pa_nil))))) pss_nil) (pss_cons (ps_set (i := 3) sc_set_between.nd rfl (Or.inl rfl) (pe_callB (call_max2 rfl) (by rfl) T.z_max (by decide +kernel) (pa_cons (pv 1) (pa_cons (pe_ix ix_tup (pv 0) pe_int (fun _ _ => rfl)) pa_nil)))) (pss_cons (ps_set (i := 4) sc_set_between.nd rfl (Or.inl rfl) (pe_callB (call_min2 rfl) (by rfl) T.z_min (by decide +kernel) (pa_cons (pv 2) (pa_cons (pe_ix ix_tup (pv 0) pe_int (fun _ _ => rfl)) pa_nil)))) (pss_cons (ps_if (pt_cmpR op_gt (pv 3) (pv 4) (nomark _)) (pss_one (ps_raise rfl (takes_of rfl rfl rfl rfl) (pmk_oex T.oex T.iN T.tI (ok_BI T) (hr.mono (by decide)) T.b_BI .nil pass0 (by rfl) T.gB (pa_cons (pv 1) (pa_cons (pv 2) pa_nil))))) pss_nil) (pss_one (ps_ret (pe_tup (pa_cons (pv 3) (pa_cons (pv 4) pa_nil)))))))))), ?_⟩
    refine ⟨_, rfl, low, rfl, true, rfl, iteF ?_⟩
    refine ⟨_, rfl, high, rfl, true, rfl, iteF ?_⟩
    refine ⟨_, rfl, _, rfl, low, high, rfl, rfl, _, rfl, iteDF (by omega) ?_⟩
    refine ⟨_, rfl, rfl, _, rfl, iteF ?_⟩
    refine ⟨_, rfl, _, rfl, sp, _, 0, _, rfl, rfl, hs, rfl, low, _, rfl, ?_⟩
    refine ⟨_, rfl, _, rfl, sp, _, 1, _, rfl, rfl, hs, rfl, high, _, rfl, ?_⟩
    by_cases hle : btwL low (some z) ≤ btwH high (some z)
    · refine ⟨_, rfl, _, rfl, _, _, rfl, rfl, _, rfl, iteDF (Int.not_lt.mpr hle) ?_⟩
      exact ⟨_, rfl, _, rfl, len2, fun p np => q hle p np⟩
    · have hlt := Int.not_le.mp hle
      refine ⟨_, rfl, _, rfl, _, _, rfl, rfl, _, rfl, iteDT hlt ?_⟩
      refine ⟨_, rfl, _, rfl, (by show 2 ≤ 1000; decide), fun x nx => ⟨x, _, _, rfl, upd_same, fun dx' H' ndx ne e1 e2 k => ?_⟩⟩
      have nd := ndx
      rw [upd_ne ne] at nd
      exact ⟨rfl, dx', _, e1, e2, nd, qx hlt dx' _ (same_err3 nx nd k) upd_same⟩

theorem ok_setB {P : Program} {w : World} {K : PySem.W.Frag} {mg : Str → Option Value} {base : Heap} {a : Nat → Addr} {d : Nat → FuncData} (T : Txt K mg a d) : FnOk P w K mg base (L2.CX P w) 6 (a 11) (d 11) ["self", "low", "high"] (spSetB K (a 27) (a 50)) := by
  refine T.F_Clock_set_to.okX sc_Clock_set_to (fun vs H Q E h => ?_) (fun cdv A outer s0 H vs Q E hr h => ?_)
  · obtain ⟨c, dr, t, b, lo, hi, n, low, high, rfl, hk, hlh, q, qx⟩ := h
    rfl
  · obtain ⟨c, dr, t, b, lo, hi, n, low, high, rfl, hk, hlh, q, qx⟩ := h
    refine ⟨_, (pss_cons (ps_set (i := 3) sc_Clock_set_to.nd rfl (Or.inl rfl) (pe_call (ok_bounds_behind T) (hr.mono (by decide)) (by rfl) T.g_bounds_behind T.F_bounds_behind.kp T.b_bounds_behind .nil pass0 (pa_cons (pe_fld (pv 0) rfl) (pa_cons (pe_fld (pv 0) rfl) (pa_cons (pe_fld (pv 0) rfl) pa_nil))))) (pss_cons (ps_fld (pv 0) (pe_callS (ok_sbX T) (hr.mono (by decide)) (by rfl) T.g_set_between T.F_set_between.kp T.b_set_between (fun σ => passAt (takes_of rfl rfl rfl rfl) σ) (pa_cons (pv 3) (pa_cons (pv 1) (pa_cons (pv 2) pa_nil)))) rfl) (pss_one (ps_fld (pv 0) pe_int rfl)))), ?_⟩
    obtain ⟨⟨dx, sv, hc, hs⟩, hd, nn⟩ := id hk
    refine ⟨_, rfl, c, _, dx, _, _, rfl, hc, T.cl, T.n_stands, cf_s _ _ _, _, rfl, c, _, dx, _, _, rfl, hc, T.cl, T.n_counted, cf_c _ _ _, _, rfl, c, _, dx, _, _, rfl, hc, T.cl, T.n_most_drift, cf_m _ _ _, ?_⟩
    refine ⟨_, some (lo, hi), n, dr, t, b, rfl, hs, nn, hd, fun p1 np1 => ?_⟩
    have s1 : Same H (upd H p1 (.tup [.int (lo + leastP n t b), .int (hi + mostP n t b)])) := same_new (Same.refl H) np1
    have hc1 : upd H p1 (.tup [.int (lo + leastP n t b), .int (hi + mostP n t b)]) c = some (.ins (a 27) dx (cf (.ref dr) sv n)) := s1 _ _ hc
    refine ⟨_, rfl, _, rfl, _, rfl, _, (lo + leastP n t b, hi + mostP n t b), low, high, rfl, ⟨p1, rfl, SqT.of upd_same⟩, hlh, fun hle p np => ?_, fun hlt dx' H' s' e' => qx hlt dx' H' (s1.trans s') e'⟩
    have npc : c ≠ p := ne_of_none hc1 np
    refine ⟨_, rfl, c, _, dx, _, rfl, (by rw [upd_ne npc]; exact hc1), T.cl, T.n_stands, cf_len _ _ _, ?_⟩
    refine ⟨_, rfl, c, _, dx, _, rfl, upd_same, T.cl, T.n_counted, (by rw [cf_put_s]; exact cf_len _ _ _), ?_⟩
    rw [cf_put_s, cf_put_c]
    have f1 : Fr c H (upd (upd (upd (upd H p1 (.tup [.int (lo + leastP n t b), .int (hi + mostP n t b)])) p (.tup [.int (setLow low (some (lo, hi)) t b n), .int (setHigh high (some (lo, hi)) t b n)])) c (.ins (a 27) dx (cf (.ref dr) (.ref p) n))) c (.ins (a 27) dx (cf (.ref dr) (.ref p) 0))) := ((((Fr.refl c H).new np1).new np).put).put
    exact q hle _ f1 ⟨⟨dx, .ref p, upd_same, p, rfl, SqT.of (by rw [upd_ne npc.symm, upd_ne npc.symm]; exact upd_same)⟩, hd.fr f1 hc trivial, Int.le_refl 0⟩

theorem ok_Clock_twin {P : Program} {w : World} {K : PySem.W.Frag} {mg : Str → Option Value} {base : Heap} {a : Nat → Addr} {d : Nat → FuncData} (T : Txt K mg a d) : FnOk P w K mg base CX0 7 (a 14) (d 14) ["self"] (spTwin K (a 27)) := by
  refine T.F_Clock_twin.ok sc_Clock_twin (fun vs H Q E h => ?_) (fun cdv A outer s0 H vs Q E hr h => ?_)
  · obtain ⟨c, dr, t, b, st, n, rfl, hk, q⟩ := h
    rfl
  · obtain ⟨c, dr, t, b, st, n, rfl, hk, q⟩ := h
    obtain ⟨⟨dx, sv, hc, hs⟩, hd, nn⟩ := id hk
    refine ⟨_, (pss_cons (ps_set (i := 1) sc_Clock_twin.nd rfl (Or.inl rfl) (pe_make T.m_Clock___init__ (ok_Clock___init__ T) (hr.mono (by decide)) (by rfl) T.g_Clock T.b_Clock___init__ .nil pass0 (pa_cons (pe_fld (pv 0) rfl) pa_nil))) (pss_cons (ps_fld (pv 1) (pe_fld (pv 0) rfl) rfl) (pss_cons (ps_fld (pv 1) (pe_fld (pv 0) rfl) rfl) (pss_one (ps_ret (pv 1)))))), ?_⟩
    refine ⟨_, rfl, c, _, dx, _, _, rfl, hc, T.cl, T.n_most_drift, cf_m _ _ _, fun x dx1 nx ndx nex => ?_⟩
    have sm : Same H (upd (upd H dx1 (.own x)) x (.ins (a 27) dx1 [])) := same_make nx ndx
    refine ⟨x, dr, dx1, t, b, rfl, upd_same, hd.same sm, fun H4 k4 hk4 => ⟨rfl, ?_⟩⟩
    have s4 : Same H H4 := k4.over sm nx
    obtain ⟨⟨dx4, sv4, hc4, hs4⟩, hd4, _⟩ := id hk4
    have hcc := s4 _ _ hc
    have ncx : c ≠ x := ne_of_none hc nx
    refine ⟨_, rfl, c, _, dx, _, _, rfl, hcc, T.cl, T.n_stands, cf_s _ _ _, _, rfl, x, _, dx4, _, rfl, hc4, T.cl, T.n_stands, cf_len _ _ _, ?_⟩
    rw [cf_put_s]
    refine ⟨_, rfl, c, _, dx, _, _, rfl, (by rw [upd_ne ncx]; exact hcc), T.cl, T.n_counted, cf_c _ _ _, _, rfl, x, _, dx4, _, rfl, upd_same, T.cl, T.n_counted, cf_len _ _ _, ?_⟩
    rw [cf_put_c]
    have f1 : Fr x H (upd (upd H4 x (.ins (a 27) dx4 (cf (.ref dr) sv 0))) x (.ins (a 27) dx4 (cf (.ref dr) sv n))) := fun b o n1 e => (((Fr.refl x H4).put).put) b o n1 (s4 _ _ e)
    have s5 : Same H (upd (upd H4 x (.ins (a 27) dx4 (cf (.ref dr) sv 0))) x (.ins (a 27) dx4 (cf (.ref dr) sv n))) := f1.over (Same.refl H) nx
    refine ⟨_, rfl, q x _ nx s5 ⟨⟨dx4, sv, upd_same, ?_⟩, hd.same s5, nn⟩⟩
    cases st with
    | none => exact hs
    | some z =>
      obtain ⟨p, e, z⟩ := hs
      exact ⟨p, e, same_sqt s5 z⟩

theorem ok_Clock___eq__ {P : Program} {w : World} {K : PySem.W.Frag} {mg : Str → Option Value} {base : Heap} {a : Nat → Addr} {d : Nat → FuncData} (T : Txt K mg a d) : FnOk P w K mg base CX0 1 (a 15) (d 15) ["self", "other"] (spEq (Alike K (a 27))) := by
  refine T.F_Clock___eq__.ok sc_Clock___eq__ (fun vs H Q E h => ?_) (fun cdv A outer s0 H vs Q E hr h => ?_)
  · obtain ⟨c, c', rfl, ⟨dr, dr', t, b, n, lo, hi, hk, hk'⟩, q⟩ := h
    rfl
  · obtain ⟨c, c', rfl, ⟨dr, dr', t, b, n, lo, hi, hk, hk'⟩, q⟩ := h
    obtain ⟨⟨dx, sv, hc, hs⟩, hd, nn⟩ := id hk
    obtain ⟨⟨dx', sv', hc', hs'⟩, hd', nn'⟩ := id hk'
    obtain ⟨sp, rfl, hs⟩ := hs
    obtain ⟨sp', rfl, hs'⟩ := hs'
    refine ⟨_, (pss_one (ps_ret (pe_and (pe_callB call_isi (by rfl) T.z_isinstance (by decide +kernel) (pa_cons (pv 1) (pa_cons (pe_glob (v := .ref (a 27)) (by rfl) T.g_Clock rfl) pa_nil))) (pe_and (pe_cmpR (op_eqD hr.units) (pe_fld (pv 0) rfl) (pe_fld (pv 1) rfl) (nomark _)) (pe_and (pe_cmpR (op_eqD hr.units) (pe_fld (pv 0) rfl) (pe_fld (pv 1) rfl) (nomark _)) (pe_one (pe_cmpR op_eq (pe_fld (pv 0) rfl) (pe_fld (pv 1) rfl) (nomark _)))))))), ?_⟩
    refine ⟨_, rfl, _, .ref (a 27), .ref (a 27), .ref (a 27), true, rfl, .own (a 27), .base (.ins hc' T.cl T.i1 T.i2 T.i3 T.i4), T.i5, true, rfl, iteT ?_⟩
    refine ⟨_, rfl, c, _, dx, _, _, rfl, hc, T.cl, T.n_most_drift, cf_m _ _ _, _, rfl, c', _, dx', _, _, rfl, hc', T.cl, T.n_most_drift, cf_m _ _ _, .tuple [.int t, .int b], .tuple [.int t, .int b], .tup hd.1 (.cons (.int _) (.cons (.int _) .nil)), .tup hd'.1 (.cons (.int _) (.cons (.int _) .nil)), rfl, rfl, _, rfl, iteBT (eqv_two rfl rfl) ?_⟩
    refine ⟨_, rfl, c, _, dx, _, _, rfl, hc, T.cl, T.n_stands, cf_s _ _ _, _, rfl, c', _, dx', _, _, rfl, hc', T.cl, T.n_stands, cf_s _ _ _, .tuple [.int lo, .int hi], .tuple [.int lo, .int hi], .tup hs (.cons (.int _) (.cons (.int _) .nil)), .tup hs' (.cons (.int _) (.cons (.int _) .nil)), rfl, rfl, _, rfl, iteBT (eqv_two rfl rfl) ?_⟩
    refine ⟨_, rfl, c, _, dx, _, _, rfl, hc, T.cl, T.n_counted, cf_c _ _ _, _, rfl, c', _, dx', _, _, rfl, hc', T.cl, T.n_counted, cf_c _ _ _, rfl, ?_⟩
    exact bl_of (Q := Q) rfl (q H fun _ _ z => z)

theorem ok_l_is_least {P : Program} {w : World} {K : PySem.W.Frag} {mg : Str → Option Value} {base : Heap} {a : Nat → Addr} {d : Nat → FuncData} (T : Txt K mg a d) : FnOk P w K mg base CX0 1 (a 19) (d 19) ["_law_passed", "_law_count", "_law_drift_here"] (spIsLeast K) := by
  refine T.F_l_is_least.ok sc_l_is_least (fun vs H Q E h => ?_) (fun cdv A outer s0 H vs Q E hr h => ?_)
  · obtain ⟨p, n, t, b, dr, rfl, ⟨hS, t0, tb, b1, _⟩, n0, rfl, q⟩ := h
    rfl
  · obtain ⟨p, n, t, b, dr, rfl, ⟨hS, t0, tb, b1, _⟩, n0, rfl, q⟩ := h
    refine ⟨_, (pss_cons (ps_asg (pv 2) (pg_tup (by rfl) (pgs_cons (pg_name (i := 3) sc_l_is_least.nd rfl (.inl rfl)) (pgs_cons (pg_name (i := 4) sc_l_is_least.nd rfl (.inl rfl)) pgs_nil)))) (pss_cons (ps_if (PW.pt (pw_or (pt_cmpR op_lt (pv 0) pe_int (nomark _)) (pw_or1 (pt_cmpR op_lt (pe_op op_mul (pv 0) (pe_op op_add (pv 4) (pv 3))) (pe_op op_mul (pv 1) (pv 4)) (nomark _))))) (pss_one (ps_ret pe_bl)) pss_nil) (pss_one (ps_ret (pe_cmpR op_lt (pe_op op_mul (pe_op op_sub (pv 0) pe_int) (pe_op op_add (pv 4) (pv 3))) (pe_op op_mul (pv 1) (pv 4)) (nomark _)))))), ?_⟩
    have e1 := least_nn (n := n) t0 tb n0
    have e2 := least_ge (n := n) t0 tb
    have e3 := least_fits (n := n) t0 tb
    refine ⟨_, rfl, dr, _, rfl, hS, rfl, _, _, rfl, _, _, rfl, rfl, ?_⟩
    refine ⟨_, rfl, _, 0, rfl, rfl, _, rfl, iteDF (by omega) ?_⟩
    refine ⟨_, rfl, _, rfl, _, rfl, b, t, rfl, rfl, _, b + t, rfl, rfl, .inr (m64 (by omega) (by omega)), _, rfl, _, rfl, n, b, rfl, rfl, .inr (m64 (by omega) (by omega)), _, _, rfl, rfl, _, rfl, iteDF (by omega) ?_⟩
    refine ⟨_, rfl, _, 1, rfl, rfl, _, rfl, _, rfl, b, t, rfl, rfl, _, b + t, rfl, rfl, .inr (m64 (by omega) (by omega)), _, rfl, _, rfl, n, b, rfl, rfl, .inr (m64 (by omega) (by omega)), _, _, rfl, rfl, ?_⟩
    exact bl_of (Q := Q) e3 q

theorem ok_l_is_most {P : Program} {w : World} {K : PySem.W.Frag} {mg : Str → Option Value} {base : Heap} {a : Nat → Addr} {d : Nat → FuncData} (T : Txt K mg a d) : FnOk P w K mg base CX0 1 (a 20) (d 20) ["_law_passed", "_law_count", "_law_drift_here"] (spIsMost K) := by
  refine T.F_l_is_most.ok sc_l_is_most (fun vs H Q E h => ?_) (fun cdv A outer s0 H vs Q E hr h => ?_)
  · obtain ⟨p, n, t, b, dr, rfl, ⟨hS, t0, tb, b1, _⟩, n0, rfl, q⟩ := h
    rfl
  · obtain ⟨p, n, t, b, dr, rfl, ⟨hS, t0, tb, b1, _⟩, n0, rfl, q⟩ := h
    refine ⟨_, (pss_cons (ps_asg (pv 2) (pg_tup (by rfl) (pgs_cons (pg_name (i := 3) sc_l_is_most.nd rfl (.inl rfl)) (pgs_cons (pg_name (i := 4) sc_l_is_most.nd rfl (.inl rfl)) pgs_nil)))) (pss_cons (ps_if (pt_cmpR op_ge (pe_op op_mul (pv 0) (pe_op op_sub (pv 4) (pv 3))) (pe_op op_mul (pe_op op_add (pv 1) pe_int) (pv 4)) (nomark _)) (pss_one (ps_ret pe_bl)) pss_nil) (pss_one (ps_ret (pe_cmpR op_ge (pe_op op_mul (pe_op op_add (pv 0) pe_int) (pe_op op_sub (pv 4) (pv 3))) (pe_op op_mul (pe_op op_add (pv 1) pe_int) (pv 4)) (nomark _)))))), ?_⟩
    have e2 := most_lt (n := n) t0 tb
    have e3 := most_fits (n := n) t0 tb
    refine ⟨_, rfl, dr, _, rfl, hS, rfl, _, _, rfl, _, _, rfl, rfl, ?_⟩
    refine ⟨_, rfl, _, rfl, _, rfl, b, t, rfl, rfl, _, b - t, rfl, rfl, .inr (m64 (by omega) (by omega)), _, rfl, n, 1, rfl, rfl, _, rfl, n + 1, b, rfl, rfl, .inr (m64 (by omega) (by omega)), _, _, rfl, rfl, _, rfl, iteDF (by omega) ?_⟩
    refine ⟨_, rfl, _, 1, rfl, rfl, _, rfl, _, rfl, b, t, rfl, rfl, _, b - t, rfl, rfl, .inr (m64 (by omega) (by omega)), _, rfl, n, 1, rfl, rfl, _, rfl, n + 1, b, rfl, rfl, .inr (m64 (by omega) (by omega)), _, _, rfl, rfl, ?_⟩
    exact bl_of (Q := Q) e3 q

theorem ok_lset {P : Program} {w : World} {K : PySem.W.Frag} {mg : Str → Option Value} {base : Heap} {a : Nat → Addr} {d : Nat → FuncData} (T : Txt K mg a d) : FnOk P w K mg base CX0 7 (a 21) (d 21) ["_law_clock", "_law_low", "_law_high"] (spLSet K (a 27)) := by
  refine T.F_l_set.ok sc_l_set (fun vs H Q E h => ?_) (fun cdv A outer s0 H vs Q E hr h => ?_)
  · obtain ⟨c, dr, t, b, lo, hi, n, low, high, rfl, _⟩ := h
    rfl
  · obtain ⟨c, dr, t, b, lo, hi, n, low, high, rfl, hk, hlh, q, qx⟩ := h
    obtain ⟨⟨dx, sv, hc, hs⟩, hd, nn⟩ := id hk
    refine ⟨_, (pss_cons (ps_set (i := 3) sc_l_set.nd rfl (Or.inl rfl) pe_non) (pss_cons (ps_tryK (tb := fun W => tDrop (tMethS (a 27) "set_to" (spSetB K (a 27) (a 50)) (WE W) (tVar 0) (tCons (tVar 1) (tCons (tVar 2) tNil)))) rfl rfl sc_l_set.nd takes0 (HK.named (i := 4) (ts := (fun _ _ _ => tAsg (tVar 4) (gName 3))) ⟨rfl, by decide, .inl T.gB⟩ rfl rfl (fun _ _ _ _ => pss_one (ps_asg (pv 4) (pg_name (i := 3) sc_l_set.nd rfl (.inl rfl)))) HK.nil) (W := fun _ _ _ _ => False) (fun W pn xe tk _ => pss_one (ps_expr (pe_methS (pv 0) T.cl T.m_Clock_set_to (ok_setB T) (hr.mono (by decide)) T.b_Clock_set_to (fun σ => passAt tk σ) (pa_cons (pv 1) (pa_cons (pv 2) pa_nil)))))) (pss_cons (ps_if (pt_cmpR op_isN (pv 3) pe_non (nomark _)) (pss_one (ps_ret pe_non)) pss_nil) (pss_one (ps_ret (pe_tup (pa_cons (pe_xk (C := a 50) T.xf T.nLo (pv 3) rfl) (pa_cons (pe_xk (C := a 50) T.xf T.nHi (pv 3) rfl) pa_nil)))))))), ?_⟩
    refine ⟨_, rfl, c, dx, _, rfl, hc, cf_no _ _ _ (by decide +kernel) (by decide +kernel) (by decide +kernel), _, rfl, _, rfl, c, dr, t, b, lo, hi, n, low, high, rfl, hk, hlh, fun hle H' k' hk' => ?_, fun hlt dd H' s' hdd => ?_⟩
    · exact ⟨_, rfl, rfl, _, rfl, iteDT rfl (q hle H' k' hk')⟩
    · refine ⟨true, T.eP, fun _ e' ne' => ?_, fun z => by cases z⟩
      refine ⟨_, rfl, ?_⟩
      refine ⟨_, rfl, rfl, _, rfl, iteDF (by intro z; cases z) ?_⟩
      have ned : dd ≠ e' := ne_of_none hdd ne'
      refine ⟨_, rfl, e', dd, _, _, rfl, upd_same, (by rw [upd_ne ned]; exact hdd), xd_low _ _, _, rfl, e', dd, _, _, rfl, upd_same, (by rw [upd_ne ned]; exact hdd), xd_high _ _, len2, fun p np => ?_⟩
      exact qx hlt p _ ((s'.trans (same_new (Same.refl H') ne')).trans (same_new (Same.refl _) np)) upd_same

theorem ok_l_about {P : Program} {w : World} {K : PySem.W.Frag} {mg : Str → Option Value} {base : Heap} {a : Nat → Addr} {d : Nat → FuncData} (T : Txt K mg a d) : FnOk P w K mg base CX0 2 (a 22) (d 22) ["_law_bag_here", "_law_low", "_law_high"] spAbout := by
  refine T.F_l_about.ok sc_l_about (fun vs H Q E h => ?_) (fun cdv A outer s0 H vs Q E hr h => ?_)
  · obtain ⟨s, low, high, rfl, b0, q⟩ := h
    rfl
  · obtain ⟨s, low, high, rfl, b0, q⟩ := h
    refine ⟨_, (pss_cons (ps_set (i := 3) sc_l_about.nd rfl (Or.inl rfl) (pe_ix ix_list (pe_lst (pa_cons pe_int (pa_cons pe_int (pa_cons pe_int (pa_cons (pe_op op_pow pe_int pe_int) pa_nil))))) (pe_call (ok_l_out T) (hr.mono (by decide)) (by rfl) T.g_l_out T.F_l_out.kp T.b_l_out .nil pass0 (pa_cons (pv 0) (pa_cons pe_int pa_nil))) (fun _ _ => rfl))) (pss_cons (ps_set (i := 4) sc_l_about.nd rfl (Or.inl rfl) (pe_lst (pa_cons (pe_op op_sub (pv 1) (pe_call (ok_l_out T) (hr.mono (by decide)) (by rfl) T.g_l_out T.F_l_out.kp T.b_l_out .nil pass0 (pa_cons (pv 0) (pa_cons (pv 3) pa_nil)))) (pa_cons (pe_op op_add (pv 2) (pe_call (ok_l_out T) (hr.mono (by decide)) (by rfl) T.g_l_out T.F_l_out.kp T.b_l_out .nil pass0 (pa_cons (pv 0) (pa_cons (pv 3) pa_nil)))) (pa_cons (pe_op op_add (pv 1) (pe_call (ok_l_out T) (hr.mono (by decide)) (by rfl) T.g_l_out T.F_l_out.kp T.b_l_out .nil pass0 (pa_cons (pv 0) (pa_cons (pv 3) pa_nil)))) (pa_cons (pe_op op_sub (pv 2) (pe_call (ok_l_out T) (hr.mono (by decide)) (by rfl) T.g_l_out T.F_l_out.kp T.b_l_out .nil pass0 (pa_cons (pv 0) (pa_cons (pv 3) pa_nil)))) pa_nil)))))) (pss_cons (ps_set (i := 5) sc_l_about.nd rfl (Or.inl rfl) (pe_ix ix_list (pv 4) (pe_call (ok_l_out T) (hr.mono (by decide)) (by rfl) T.g_l_out T.F_l_out.kp T.b_l_out .nil pass0 (pa_cons (pv 0) (pa_cons pe_int pa_nil))) (fun _ _ => rfl))) (pss_cons (ps_set (i := 6) sc_l_about.nd rfl (Or.inl rfl) (pe_ix ix_list (pe_lst (pa_cons (pv 5) (pa_cons (pe_op op_add (pv 5) (pe_call (ok_l_out T) (hr.mono (by decide)) (by rfl) T.g_l_out T.F_l_out.kp T.b_l_out .nil pass0 (pa_cons (pv 0) (pa_cons (pv 3) pa_nil)))) (pa_cons (pe_ix ix_list (pv 4) (pe_call (ok_l_out T) (hr.mono (by decide)) (by rfl) T.g_l_out T.F_l_out.kp T.b_l_out .nil pass0 (pa_cons (pv 0) (pa_cons pe_int pa_nil))) (fun _ _ => rfl)) pa_nil)))) (pe_call (ok_l_out T) (hr.mono (by decide)) (by rfl) T.g_l_out T.F_l_out.kp T.b_l_out .nil pass0 (pa_cons (pv 0) (pa_cons pe_int pa_nil))) (fun _ _ => rfl))) (pss_one (ps_ret (pe_tup (pa_cons (pe_callB (call_min2 rfl) (by rfl) T.z_min (by decide +kernel) (pa_cons (pv 5) (pa_cons (pv 6) pa_nil))) (pa_cons (pe_callB (call_max2 rfl) (by rfl) T.z_max (by decide +kernel) (pa_cons (pv 5) (pa_cons (pv 6) pa_nil))) pa_nil))))))))), ?_⟩
    refine ⟨10, 6, rfl, rfl, ⟨by decide, by decide, by decide⟩, (by decide : 4 ≤ sizeLine), fun p5 n5 => ?_⟩
    refine ⟨_, rfl, s, 4, rfl, b0.new n5, (by decide), (by decide), fun r1 H1 r10 r11 k1 b1 => ?_⟩
    have g5 : H1 p5 = some (.lst [.int 1, .int 3, .int 50, .int (10 ^ (6 : Int).toNat)]) := k1 _ _ (b0.ne_new n5) upd_same
    obtain ⟨z, hz, z0, z1⟩ := far4 r10 r11
    refine ⟨p5, _, r1, _, rfl, rfl, SqL.of g5, hz, ?_⟩
    have f1 := ((Fr.refl s H).new n5).trans k1
    refine ⟨_, rfl, _, rfl, _, rfl, s, z, rfl, b1, z0, by omega, fun r2 H2 r20 r21 k2 b2 => ⟨low, r2, rfl, rfl, ?_⟩⟩
    refine ⟨_, rfl, _, rfl, _, rfl, s, z, rfl, b2, z0, by omega, fun r3 H3 r30 r31 k3 b3 => ⟨high, r3, rfl, rfl, ?_⟩⟩
    refine ⟨_, rfl, _, rfl, _, rfl, s, z, rfl, b3, z0, by omega, fun r4 H4 r40 r41 k4 b4 => ⟨low, r4, rfl, rfl, ?_⟩⟩
    refine ⟨_, rfl, _, rfl, _, rfl, s, z, rfl, b4, z0, by omega, fun r5 H5 r50 r51 k5 b5 => ⟨high, r5, rfl, rfl, (by decide : 4 ≤ sizeLine), fun p6 n6 => ?_⟩⟩
    have f5 := (((f1.trans k2).trans k3).trans k4).trans k5
    refine ⟨_, rfl, _, rfl, s, 4, rfl, b5.new n6, (by decide), (by decide), fun r6 H6 r60 r61 k6 b6 => ?_⟩
    have g6 : H6 p6 = some (.lst [.int (low - r2), .int (high + r3), .int (low + r4), .int (high - r5)]) := k6 _ _ (b5.ne_new n6) upd_same
    have f6 := (f5.new n6).trans k6
    obtain ⟨u, hu⟩ := four_at (low - r2) (high + r3) (low + r4) (high - r5) r60 r61
    refine ⟨p6, _, r6, _, rfl, rfl, SqL.of g6, hu, ?_⟩
    refine ⟨_, rfl, _, rfl, _, rfl, _, rfl, s, z, rfl, b6, z0, by omega, fun r7 H7 r70 r71 k7 b7 => ⟨u, r7, rfl, rfl, ?_⟩⟩
    have g7 := k7 _ _ (by
      obtain ⟨_, _, e, _⟩ := b6
      exact ne_of g6 e (by intro z; injection z with z; injection z with z1 z2; injection z2 with z3 z4; cases z4)) g6
    refine ⟨_, rfl, _, rfl, s, 4, rfl, b7, (by decide), (by decide), fun r8 H8 r80 r81 k8 b8 => ?_⟩
    have g8 := k8 _ _ (by
      obtain ⟨_, _, e, _⟩ := b7
      exact ne_of g7 e (by intro z; injection z with z; injection z with z1 z2; injection z2 with z3 z4; cases z4)) g7
    obtain ⟨v, hv⟩ := four_at (low - r2) (high + r3) (low + r4) (high - r5) r80 r81
    refine ⟨p6, _, r8, _, rfl, rfl, SqL.of g8, hv, (by decide : 3 ≤ sizeLine), fun p9 n9 => ?_⟩
    refine ⟨_, rfl, s, 3, rfl, b8.new n9, (by decide), (by decide), fun r9 H9 r90 r91 k9 b9 => ?_⟩
    have g9 : H9 p9 = some (.lst [.int u, .int (u + r7), .int v]) := k9 _ _ (b8.ne_new n9) upd_same
    obtain ⟨w', hw⟩ := three_at u (u + r7) v r90 r91
    have f9 := ((((f6.trans k7).trans k8).new n9).trans k9)
    refine ⟨p9, _, r9, _, rfl, rfl, SqL.of g9, hw, ?_⟩
    refine ⟨_, rfl, _, rfl, u, w', rfl, _, rfl, _, rfl, u, w', rfl, len2, fun p np => ?_⟩
    refine q p _ _ _ ?_ (f9.new np) (b9.new np) upd_same
    (repeat' split) <;> omega

theorem ok_l_right {P : Program} {w : World} {K : PySem.W.Frag} {mg : Str → Option Value} {base : Heap} {a : Nat → Addr} {d : Nat → FuncData} (T : Txt K mg a d) : FnOk P w K mg base CX0 6 (a 23) (d 23) ["_law_clock", "_law_base", "_law_count", "_law_drift_here"] (spRightB K (a 27)) := by
  refine T.F_l_right.ok sc_l_right (fun vs H Q E h => ?_) (fun cdv A outer s0 H vs Q E hr h => ?_)
  · obtain ⟨c, dr, bp, t, b, lo, hi, n, rfl, hk, hb, q⟩ := h
    rfl
  · obtain ⟨c, dr, bp, t, b, lo, hi, n, rfl, hk, hb, q⟩ := h
    refine ⟨_, (pss_cons (ps_asg (pe_meth0 (pv 0) T.cl T.m_Clock_bounds (ok_Clock_bounds T) (hr.mono (by decide)) T.b_Clock_bounds .nil pass0) (pg_tup (by rfl) (pgs_cons (pg_name (i := 4) sc_l_right.nd rfl (.inl rfl)) (pgs_cons (pg_name (i := 5) sc_l_right.nd rfl (.inl rfl)) pgs_nil)))) (pss_one (ps_ret (pe_and (pe_call (ok_l_is_least T) (hr.mono (by decide)) (by rfl) T.g_l_is_least T.F_l_is_least.kp T.b_l_is_least .nil pass0 (pa_cons (pe_op op_sub (pv 4) (pe_ix ix_tup (pv 1) pe_int (fun _ _ => rfl))) (pa_cons (pv 2) (pa_cons (pv 3) pa_nil)))) (pe_one (pe_call (ok_l_is_most T) (hr.mono (by decide)) (by rfl) T.g_l_is_most T.F_l_is_most.kp T.b_l_is_most .nil pass0 (pa_cons (pe_op op_sub (pv 5) (pe_ix ix_tup (pv 1) pe_int (fun _ _ => rfl))) (pa_cons (pv 2) (pa_cons (pv 3) pa_nil))))))))), ?_⟩
    obtain ⟨dx, sv, hc, _⟩ := hk.at_
    refine ⟨_, rfl, c, dx, _, rfl, hc, cf_no _ _ _ (by decide +kernel) (by decide +kernel) (by decide +kernel), c, dr, t, b, lo, hi, n, rfl, hk, fun p np => ?_⟩
    refine ⟨p, _, rfl, SqT.of upd_same, rfl, _, _, rfl, _, _, rfl, rfl, ?_⟩
    have s1 : Same H (upd H p (.tup [.int (lo + leastP n t b), .int (hi + mostP n t b)])) := same_new (Same.refl H) np
    have hb1 := s1 _ _ hb
    have hk1 := hk.same s1
    refine ⟨_, rfl, _, rfl, bp, _, 0, _, rfl, rfl, SqT.of hb1, rfl, _, lo, rfl, rfl, _, rfl, _, rfl, _, n, t, b, dr, rfl, hk1.dr_, hk.nn, by omega, true, rfl, iteT ?_⟩
    refine ⟨_, rfl, _, rfl, bp, _, 1, _, rfl, rfl, SqT.of hb1, rfl, _, hi, rfl, rfl, _, rfl, _, rfl, _, n, t, b, dr, rfl, hk1.dr_, hk.nn, by omega, ?_⟩
    exact q _ s1

theorem ok_law {P : Program} {w : World} {K : PySem.W.Frag} {mg : Str → Option Value} {base : Heap} {a : Nat → Addr} {d : Nat → FuncData} (T : Txt K mg a d) : FnOk P w K mg base CX0 9 (a 24) (d 24) ["_law_script"] (spLaw K) := by
  refine T.F_law.ok sc_law (fun vs H Q E h => ?_) (fun cdv A outer s0 H vs Q E hr h => ?_)
  · obtain ⟨l, ns, rfl, hS, hl, q⟩ := h
    rfl
  · obtain ⟨l, ns, rfl, hS, hl, q⟩ := h
    obtain ⟨ds, vds, bds⟩ := T.c_Clock___init__
    refine ⟨_, (pss_cons (ps_for PassesOwn.never rfl (pi_range1 (by rfl) T.z_range (pa_cons (pe_callB (call_max2 rfl) (by rfl) T.z_max (by decide +kernel) (pa_cons pe_int (pa_cons (pe_callB (call_min2 rfl) (by rfl) T.z_min (by decide +kernel) (pa_cons (pe_callB call_len_seq (by rfl) T.z_len PySem.boot_len (pa_cons (pv 0) pa_nil)) (pa_cons pe_int pa_nil))) pa_nil))) pa_nil)) (pg_name (i := 1) sc_law.nd rfl (.inl rfl)) (pss_cons (ps_set (i := 2) sc_law.nd rfl (Or.inl rfl) (pe_call (ok_l_bag T) (hr.mono (by decide)) (by rfl) T.g_l_bag T.F_l_bag.kp T.b_l_bag .nil pass0 (pa_cons (pv 0) (pa_cons (pv 1) pa_nil)))) (pss_cons (ps_set (i := 3) sc_law.nd rfl (Or.inl rfl) (pe_call (ok_l_drift T) (hr.mono (by decide)) (by rfl) T.g_l_drift T.F_l_drift.kp T.b_l_drift .nil pass0 (pa_cons (pv 2) pa_nil))) (pss_cons (ps_set (i := 4) sc_law.nd rfl (Or.inl rfl) (pe_make T.m_Clock___init__ (ok_Clock___init__ T) (hr.mono (by decide)) (by rfl) T.g_Clock T.b_Clock___init__ .nil pass0 (pa_cons (pv 3) pa_nil))) (pss_cons (ps_set (i := 5) sc_law.nd rfl (Or.inl rfl) (pe_tup (pa_cons pe_int (pa_cons (pe_call (ok_l_out T) (hr.mono (by decide)) (by rfl) T.g_l_out T.F_l_out.kp T.b_l_out .nil pass0 (pa_cons (pv 2) (pa_cons pe_int pa_nil))) pa_nil)))) (pss_cons (ps_expr (pe_meth (pv 4) T.cl T.m_Clock_set_to (ok_Clock_set_to T) (hr.mono (by decide)) T.b_Clock_set_to .nil pass0 (pa_cons (pe_ix ix_tup (pv 5) pe_int (fun _ _ => rfl)) (pa_cons (pe_ix ix_tup (pv 5) pe_int (fun _ _ => rfl)) pa_nil)))) (pss_cons (ps_set (i := 6) sc_law.nd rfl (Or.inl rfl) pe_int) (pss_one (ps_for PassesOwn.never rfl (pi_range1 (by rfl) T.z_range (pa_cons (pe_op op_add pe_int (pe_call (ok_l_out T) (hr.mono (by decide)) (by rfl) T.g_l_out T.F_l_out.kp T.b_l_out .nil pass0 (pa_cons (pv 2) (pa_cons pe_int pa_nil)))) pa_nil)) (pg_name (i := 7) sc_law.nd rfl (.inl rfl)) (pss_cons (ps_if (pt_cmpR op_eq (pe_call (ok_l_out T) (hr.mono (by decide)) (by rfl) T.g_l_out T.F_l_out.kp T.b_l_out .nil pass0 (pa_cons (pv 2) (pa_cons pe_int pa_nil))) pe_int (nomark _)) (pss_cons (ps_set (i := 8) sc_law.nd rfl (Or.inl rfl) (pe_call (ok_l_out T) (hr.mono (by decide)) (by rfl) T.g_l_out T.F_l_out.kp T.b_l_out .nil pass0 (pa_cons (pv 2) (pa_cons (pe_ix ix_list (pe_lst (pa_cons pe_int (pa_cons pe_int (pa_cons (pe_op op_pow pe_int pe_int) pa_nil)))) (pe_call (ok_l_out T) (hr.mono (by decide)) (by rfl) T.g_l_out T.F_l_out.kp T.b_l_out .nil pass0 (pa_cons (pv 2) (pa_cons pe_int pa_nil))) (fun _ _ => rfl)) pa_nil)))) (pss_cons (ps_expr (pe_meth (pv 4) T.cl T.m_Clock_tick (ok_Clock_tick T) (hr.mono (by decide)) T.b_Clock_tick .nil pass0 (pa_cons (pv 8) pa_nil))) (pss_one (ps_set (i := 6) sc_law.nd rfl (Or.inl rfl) (pe_op op_add (pv 6) (pv 8)))))) pss_nil) (pss_cons (ps_asg (pe_meth0 (pv 4) T.cl T.m_Clock_bounds (ok_Clock_bounds T) (hr.mono (by decide)) T.b_Clock_bounds .nil pass0) (pg_tup (by rfl) (pgs_cons (pg_name (i := 9) sc_law.nd rfl (.inl rfl)) (pgs_cons (pg_name (i := 10) sc_law.nd rfl (.inl rfl)) pgs_nil)))) (pss_cons (ps_asg (pe_call (ok_l_about T) (hr.mono (by decide)) (by rfl) T.g_l_about T.F_l_about.kp T.b_l_about .nil pass0 (pa_cons (pv 2) (pa_cons (pv 9) (pa_cons (pv 10) pa_nil)))) (pg_tup (by rfl) (pgs_cons (pg_name (i := 11) sc_law.nd rfl (.inl rfl)) (pgs_cons (pg_name (i := 12) sc_law.nd rfl (.inl rfl)) pgs_nil)))) (pss_cons (ps_set (i := 13) sc_law.nd rfl (Or.inl rfl) (pe_meth0 (pv 4) T.cl T.m_Clock_twin (ok_Clock_twin T) (hr.mono (by decide)) T.b_Clock_twin .nil pass0)) (pss_cons (ps_set (i := 14) sc_law.nd rfl (Or.inl rfl) (pe_call (ok_lset T) (hr.mono (by decide)) (by rfl) T.g_l_set T.F_l_set.kp T.b_l_set .nil pass0 (pa_cons (pv 4) (pa_cons (pv 11) (pa_cons (pv 12) pa_nil))))) (pss_cons (ps_if (PW.pt (pw_or (pt_cmpR op_lt (pv 12) (pv 9) (nomark _)) (pw_or1 (pt_cmpR op_gt (pv 11) (pv 10) (nomark _))))) (pss_one (ps_if (PW.pt (pw_or (pt_cmpR (op_neD hr.units) (pv 14) (pe_tup (pa_cons (pv 11) (pa_cons (pv 12) pa_nil))) (nomark _)) (pw_or1 (pt_cmpR op_isnot_bl (pe_cmpR (op_eqG (rcG_ins (ok_Clock___eq__ T) T.feq T.ieq T.b_Clock___eq__ pass0) (hr.mono (by decide))) (pv 4) (pv 13) (nomark _)) pe_bl (nomark _))))) (pss_one (ps_ret pe_bl)) pss_nil)) (pss_cons (ps_if (pt_cmpR op_notN (pv 14) pe_non (nomark _)) (pss_one (ps_ret pe_bl)) pss_nil) (pss_cons (ps_set (i := 5) sc_law.nd rfl (Or.inl rfl) (pe_tup (pa_cons (pe_callB (call_max2 rfl) (by rfl) T.z_max (by decide +kernel) (pa_cons (pv 9) (pa_cons (pv 11) pa_nil))) (pa_cons (pe_callB (call_min2 rfl) (by rfl) T.z_min (by decide +kernel) (pa_cons (pv 10) (pa_cons (pv 12) pa_nil))) pa_nil)))) (pss_one (ps_set (i := 6) sc_law.nd rfl (Or.inl rfl) pe_int))))) (pss_one (ps_if (pt_not (pt_truth (pe_call (ok_l_right T) (hr.mono (by decide)) (by rfl) T.g_l_right T.F_l_right.kp T.b_l_right .nil pass0 (pa_cons (pv 4) (pa_cons (pv 5) (pa_cons (pv 6) (pa_cons (pv 3) pa_nil))))) (by intro _; rfl))) (pss_one (ps_ret pe_bl)) pss_nil))))))))))))))))) (pss_one (ps_ret pe_bl))), ?_⟩
    refine ⟨_, rfl, l, _, rfl, .inl hS, _, 30, rfl, 1, _, rfl, _, rfl, ?_, ?_, ?_⟩
    · rw [List.length_map]; (repeat' split) <;> omega
    · rw [List.length_map]; (repeat' split) <;> omega
    have hN : (if (if (30 : Int) < ((ns.map V.int).length : Int) then (30 : Int) else ((ns.map V.int).length : Int)) > 1 then (if (30 : Int) < ((ns.map V.int).length : Int) then (30 : Int) else ((ns.map V.int).length : Int)) else (1 : Int)).toNat ≤ 63 := by
      rw [List.length_map]; (repeat' split) <;> omega
    refine for_range (fun i σ H' => Same H H' ∧ ∃ v1 v2 v3 v4 v5 v6 v7 v8 v9 v10 v11 v12 v13 v14 : Option V, σ = [some (.ref l), v1, v2, v3, v4, v5, v6, v7, v8, v9, v10, v11, v12, v13, v14]) ⟨Same.refl H, none, none, none, none, none, none, none, none, none, none, none, none, none, none, rfl⟩ ?_ ?_
    · rintro i σ H1 hi ⟨s1, v1, v2, v3, v4, v5, v6, v7, v8, v9, v10, v11, v12, v13, v14, rfl⟩
      refine ⟨_, rfl, _, rfl, l, ns, _, rfl, s1.seq hS, by omega, by omega, fun s H2 ns0 s2 bs2 => ?_⟩
      have sH2 : Same H H2 := s1.trans s2
      have hs0 : H s = none := s1.free ns0
      refine ⟨_, rfl, s, rfl, bs2, fun t b dr H3 k3 b3 hd3 _ => ?_⟩
      have sH3 : Same H H3 := k3.over sH2 hs0
      refine ⟨_, rfl, fun x dx nx ndx nex => ?_⟩
      have sm : Same H3 (upd (upd H3 dx (.own x)) x (.ins (a 27) dx [])) := same_make nx ndx
      have hx0 : H x = none := sH3.free nx
      refine ⟨x, dr, dx, t, b, rfl, upd_same, hd3.same sm, fun H4 k4 hk4 => ⟨rfl, ?_⟩⟩
      have sH4 : Same H H4 := k4.over (sH3.trans sm) hx0
      have b4 : BagAt H4 s := (b3.same sm).fr k4 (b3.ne_none nx)
      refine ⟨_, rfl, s, 50, rfl, b4, (by decide), (by decide), fun r5 H5 r50 r51 k5 b5 => ⟨len2, fun pb npb => ?_⟩⟩
      have sb5 : Same H5 (upd H5 pb (.tup [.int 0, .int r5])) := same_new (Same.refl H5) npb
      have hk5 := (hk4.bag k5 b4).same sb5
      have hpb : upd H5 pb (.tup [.int 0, .int r5]) pb = some (.tup [.int 0, .int r5]) := upd_same
      have sH5 : Same H (upd H5 pb (.tup [.int 0, .int r5])) := (k5.over sH4 hs0).trans sb5
      have b5' := b5.same sb5
      generalize (upd H5 pb (.tup [.int 0, .int r5])) = H6 at hk5 hpb sH5 b5' ⊢
      obtain ⟨dxq, svq, hcq, _⟩ := hk5.at_
      refine ⟨_, rfl, x, dxq, _, rfl, hcq, cf_no _ _ _ (by decide +kernel) (by decide +kernel) (by decide +kernel), _, rfl, pb, _, 0, _, rfl, rfl, SqT.of hpb, rfl, _, rfl, pb, _, 1, _, rfl, rfl, SqT.of hpb, rfl, x, dr, t, b, none, _, 0, r5, rfl, hk5, by omega, (by show 0 ≤ r5; omega), fun H7 k7 hk7 => ?_⟩
      have sH7 : Same H H7 := k7.over sH5 hx0
      have b7 : BagAt H7 s := b5'.ck k7 hk5
      have hpb7 : H7 pb = some (.tup [.int 0, .int r5]) := k7.tup hk5.ex.choose_spec.1 hk5.ex.choose_spec.2 hpb
      refine ⟨_, rfl, s, 12, rfl, b7, (by decide), (by decide), fun r8 H8 r80 r81 k8 b8 => ⟨1, r8, rfl, rfl, _, rfl, by omega, by omega, ?_⟩⟩
      refine for_range (fun j σ H' => ∃ (n lo hi : Int) (pb : Addr) (v7 v8 v9 v10 v11 v12 v13 v14 : Option V), σ = [some (.ref l), some (.int (0 + (i : Int))), some (.ref s), some (.ref dr), some (.ref x), some (.ref pb), some (.int n), v7, v8, v9, v10, v11, v12, v13, v14] ∧ Same H H' ∧ BagAt H' s ∧ CkAt K (a 27) H' x dr t b (some (lo, hi)) n ∧ H' pb = some (.tup [.int lo, .int hi]) ∧ lo ≤ hi)
        ⟨0, 0, r5, pb, _, _, _, _, _, _, _, _, rfl, k8.over sH7 hs0, b8, hk7.bag k8 b7, k8.tup b7.ex.choose_spec.1 b7.ex.choose_spec.2 hpb7, r50⟩ ?_ ?_
      · rintro j σ Hv hj ⟨n, lo, hi, pb, v7, v8, v9, v10, v11, v12, v13, v14, rfl, sv, bv, kv, pv', hlh⟩
        refine ⟨_, rfl, s, 2, rfl, bv, (by decide), (by decide), fun rA HA rA0 rA1 kA bA => ⟨rfl, _, rfl, ?_⟩⟩
        have skA : Same H HA := kA.over sv hs0
        have kkA := kv.bag kA bv
        have ppA := kA.tup bv.ex.choose_spec.1 bv.ex.choose_spec.2 pv'
        refine ite2 (fun hz => ?_) (fun hz => ?_)
        · refine ⟨_, rfl, 10, 6, rfl, rfl, ⟨by decide, by decide, by decide⟩, (by decide : 3 ≤ sizeLine), fun p5 np5 => ?_⟩
          refine ⟨_, rfl, s, 3, rfl, bA.new np5, (by decide), (by decide), fun rB HB rB0 rB1 kB bB => ?_⟩
          have g5 : HB p5 = some (.lst [.int 3, .int 100, .int (10 ^ (6 : Int).toNat)]) := kB _ _ (bA.ne_new np5) upd_same
          obtain ⟨z, hz', z0, z1⟩ := far3 rB0 rB1
          have fB := ((Fr.refl s HA).new np5).trans kB
          refine ⟨p5, _, rB, _, rfl, rfl, SqL.of g5, hz', s, z, rfl, bB, z0, by omega, fun rC HC rC0 rC1 kC bC => ?_⟩
          have fC := fB.trans kC
          have kkC := kkA.bag fC bA
          have skC : Same H HC := fC.over skA hs0
          have ppC := fC.tup bA.ex.choose_spec.1 bA.ex.choose_spec.2 ppA
          obtain ⟨dxx, svx, hcx, _⟩ := kkC.at_
          refine ⟨_, rfl, x, dxx, _, rfl, hcx, cf_no _ _ _ (by decide +kernel) (by decide +kernel) (by decide +kernel), _, rfl, x, dr, t, b, _, n, rC, rfl, kkC, rC0, fun HD kD kkD => ?_⟩
          have skD : Same H HD := kD.over skC hx0
          have bD := bC.ck kD kkC
          have ppD := kD.tup kkC.ex.choose_spec.1 kkC.ex.choose_spec.2 ppC
          refine ⟨_, rfl, _, rfl, n, rC, rfl, rfl, ?_⟩
          obtain ⟨dxq, svq, hcq, _⟩ := kkD.at_
          have nn0 : 0 ≤ (n + rC) := kkD.nn
          obtain ⟨_, t0, tb, b1000, _⟩ := kkD.dr_
          have e1 : leastP (n + rC) t b ≤ (n + rC) := least_le_n t0 tb nn0
          have e2 : (n + rC) ≤ mostP (n + rC) t b := most_nn t0 tb nn0
          refine ⟨_, rfl, x, dxq, _, rfl, hcq, cf_no _ _ _ (by decide +kernel) (by decide +kernel) (by decide +kernel), x, dr, t, b, lo, hi, (n + rC), rfl, kkD, fun p1 np1 => ?_⟩
          refine ⟨p1, _, rfl, SqT.of upd_same, rfl, _, _, rfl, _, _, rfl, rfl, ?_⟩
          have s1 : Same HD (upd HD p1 (.tup [.int (lo + leastP (n + rC) t b), .int (hi + mostP (n + rC) t b)])) := same_new (Same.refl HD) np1
          generalize (upd HD p1 (.tup [.int (lo + leastP (n + rC) t b), .int (hi + mostP (n + rC) t b)])) = G1 at s1 ⊢
          refine ⟨_, rfl, _, rfl, _, rfl, s, _, _, rfl, bD.same s1, fun pa u v G2 huv k2 b2 ea => ?_⟩
          refine ⟨pa, _, rfl, SqT.of ea, rfl, _, _, rfl, _, _, rfl, rfl, ?_⟩
          have hk2 := (kkD.same s1).bag k2 (bD.same s1)
          have hp2 := k2.tup (bD.same s1).ex.choose_spec.1 (bD.same s1).ex.choose_spec.2 (s1 _ _ ppD)
          have sm2 : Same H G2 := k2.over (skD.trans s1) hs0
          obtain ⟨dx2, sv2, hc2, _⟩ := hk2.at_
          refine ⟨_, rfl, x, dx2, _, rfl, hc2, cf_no _ _ _ (by decide +kernel) (by decide +kernel) (by decide +kernel), x, dr, t, b, _, (n + rC), rfl, hk2, fun y G3 ny s3 hky => ?_⟩
          have hk3 := hk2.same s3
          have b3 := b2.same s3
          refine ⟨_, rfl, _, rfl, _, rfl, x, dr, t, b, lo, hi, (n + rC), u, v, rfl, hk3, huv, fun hle G4 k4 hk4 => ?_, fun hlt pr G4 s4 er => ?_⟩
          · have hle' := hle
            simp only [setLow, setHigh] at hle'
            have c1 : ¬ v < lo + leastP (n + rC) t b := by
              intro z
              revert hle'
              (repeat' split) <;> omega
            have c2 : ¬ u > hi + mostP (n + rC) t b := by
              intro z
              revert hle'
              (repeat' split) <;> omega
            refine ⟨_, rfl, _, rfl, _, _, rfl, rfl, _, rfl, iteDF c1 ?_⟩
            refine ⟨_, rfl, _, rfl, _, _, rfl, rfl, _, rfl, iteDF c2 ?_⟩
            refine ⟨_, rfl, rfl, _, rfl, iteBF rfl ?_⟩
            refine ⟨_, rfl, _, rfl, _, u, rfl, _, rfl, _, rfl, _, v, rfl, len2, fun pn npn => ?_⟩
            have el : (if u > lo + leastP (n + rC) t b then u else lo + leastP (n + rC) t b) = setLow u (some (lo, hi)) t b (n + rC) := by
              simp only [setLow]
              (repeat' split) <;> omega
            have eh : (if v < hi + mostP (n + rC) t b then v else hi + mostP (n + rC) t b) = setHigh v (some (lo, hi)) t b (n + rC) := by
              simp only [setHigh]
              (repeat' split) <;> omega
            rw [el, eh] at *
            have sx0 : Same H G4 := k4.over (sm2.trans s3) hx0
            have sn : Same G4 (upd G4 pn (.tup [.int (setLow u (some (lo, hi)) t b (n + rC)), .int (setHigh v (some (lo, hi)) t b (n + rC))])) := same_new (Same.refl G4) npn
            refine ⟨_, rfl, _, rfl, _, rfl, _, rfl, x, dr, pn, t, b, _, _, 0, rfl, hk4.same sn, upd_same, fun G5 s5 => ⟨true, rfl, iteF ?_⟩⟩
            exact ⟨0, _, _, pn, _, _, _, _, _, _, _, _, rfl, (sx0.trans sn).trans s5, ((b3.ck k4 hk3).same sn).same s5, (hk4.same sn).same s5, s5 _ _ upd_same, hle⟩
          · have hlt' := hlt
            simp only [setLow, setHigh] at hlt'
            have sm4 : Same H G4 := (sm2.trans s3).trans s4
            have hk4 := hk3.same s4
            have hy4 := hky.same s4
            obtain ⟨dx4, sv4, hc4, _⟩ := hk4.at_
            obtain ⟨dy4, sw4, hd4, _⟩ := hy4.at_
            by_cases cc : v < lo + leastP (n + rC) t b
            · refine ⟨_, rfl, _, rfl, _, _, rfl, rfl, _, rfl, iteDT cc ?_⟩
              refine ⟨_, rfl, _, rfl, _, rfl, len2, fun pt npt => ?_⟩
              have st4 : Same G4 (upd G4 pt (.tup [.int u, .int v])) := same_new (Same.refl G4) npt
              refine ⟨.tuple [.int u, .int v], .tuple [.int u, .int v], .tup (SqT.of (st4 _ _ er)) (.cons (.int _) (.cons (.int _) .nil)), .tup (SqT.of upd_same) (.cons (.int _) (.cons (.int _) .nil)), rfl, rfl, _, rfl, iteBF (by rw [eqv_two rfl rfl]; rfl) ?_⟩
              refine ⟨_, rfl, _, rfl, ⟨x, y, dx4, dy4, _, _, rfl, rfl, st4 _ _ hc4, st4 _ _ hd4, dr, dr, t, b, (n + rC), lo, hi, hk4.same st4, hy4.same st4⟩, fun G5 s5 => ⟨true, true, rfl, rfl, _, rfl, iteNS rfl ?_⟩⟩
              have s45 : Same G4 G5 := st4.trans s5
              refine ⟨_, rfl, _, rfl, _, rfl, _, rfl, x, dr, pb, t, b, lo, hi, (n + rC), rfl, hk4.same s45, s45 _ _ (s4 _ _ (s3 _ _ hp2)), fun G6 s6 => ⟨true, rfl, iteF ?_⟩⟩
              exact ⟨(n + rC), lo, hi, pb, _, _, _, _, _, _, _, _, rfl, (sm4.trans s45).trans s6, ((b3.same s4).same s45).same s6, (hk4.same s45).same s6, s6 _ _ (s45 _ _ (s4 _ _ (s3 _ _ hp2))), hlh⟩
            · have c2 : u > hi + mostP (n + rC) t b := by
                revert hlt'
                (repeat' split) <;> omega
              refine ⟨_, rfl, _, rfl, _, _, rfl, rfl, _, rfl, iteDF cc ?_⟩
              refine ⟨_, rfl, _, rfl, _, _, rfl, rfl, _, rfl, iteDT c2 ?_⟩
              refine ⟨_, rfl, _, rfl, _, rfl, len2, fun pt npt => ?_⟩
              have st4 : Same G4 (upd G4 pt (.tup [.int u, .int v])) := same_new (Same.refl G4) npt
              refine ⟨.tuple [.int u, .int v], .tuple [.int u, .int v], .tup (SqT.of (st4 _ _ er)) (.cons (.int _) (.cons (.int _) .nil)), .tup (SqT.of upd_same) (.cons (.int _) (.cons (.int _) .nil)), rfl, rfl, _, rfl, iteBF (by rw [eqv_two rfl rfl]; rfl) ?_⟩
              refine ⟨_, rfl, _, rfl, ⟨x, y, dx4, dy4, _, _, rfl, rfl, st4 _ _ hc4, st4 _ _ hd4, dr, dr, t, b, (n + rC), lo, hi, hk4.same st4, hy4.same st4⟩, fun G5 s5 => ⟨true, true, rfl, rfl, _, rfl, iteNS rfl ?_⟩⟩
              have s45 : Same G4 G5 := st4.trans s5
              refine ⟨_, rfl, _, rfl, _, rfl, _, rfl, x, dr, pb, t, b, lo, hi, (n + rC), rfl, hk4.same s45, s45 _ _ (s4 _ _ (s3 _ _ hp2)), fun G6 s6 => ⟨true, rfl, iteF ?_⟩⟩
              exact ⟨(n + rC), lo, hi, pb, _, _, _, _, _, _, _, _, rfl, (sm4.trans s45).trans s6, ((b3.same s4).same s45).same s6, (hk4.same s45).same s6, s6 _ _ (s45 _ _ (s4 _ _ (s3 _ _ hp2))), hlh⟩
        · obtain ⟨dxq, svq, hcq, _⟩ := kkA.at_
          have nn0 : 0 ≤ n := kkA.nn
          obtain ⟨_, t0, tb, b1000, _⟩ := kkA.dr_
          have e1 : leastP n t b ≤ n := least_le_n t0 tb nn0
          have e2 : n ≤ mostP n t b := most_nn t0 tb nn0
          refine ⟨_, rfl, x, dxq, _, rfl, hcq, cf_no _ _ _ (by decide +kernel) (by decide +kernel) (by decide +kernel), x, dr, t, b, lo, hi, n, rfl, kkA, fun p1 np1 => ?_⟩
          refine ⟨p1, _, rfl, SqT.of upd_same, rfl, _, _, rfl, _, _, rfl, rfl, ?_⟩
          have s1 : Same HA (upd HA p1 (.tup [.int (lo + leastP n t b), .int (hi + mostP n t b)])) := same_new (Same.refl HA) np1
          generalize (upd HA p1 (.tup [.int (lo + leastP n t b), .int (hi + mostP n t b)])) = G1 at s1 ⊢
          refine ⟨_, rfl, _, rfl, _, rfl, s, _, _, rfl, bA.same s1, fun pa u v G2 huv k2 b2 ea => ?_⟩
          refine ⟨pa, _, rfl, SqT.of ea, rfl, _, _, rfl, _, _, rfl, rfl, ?_⟩
          have hk2 := (kkA.same s1).bag k2 (bA.same s1)
          have hp2 := k2.tup (bA.same s1).ex.choose_spec.1 (bA.same s1).ex.choose_spec.2 (s1 _ _ ppA)
          have sm2 : Same H G2 := k2.over (skA.trans s1) hs0
          obtain ⟨dx2, sv2, hc2, _⟩ := hk2.at_
          refine ⟨_, rfl, x, dx2, _, rfl, hc2, cf_no _ _ _ (by decide +kernel) (by decide +kernel) (by decide +kernel), x, dr, t, b, _, n, rfl, hk2, fun y G3 ny s3 hky => ?_⟩
          have hk3 := hk2.same s3
          have b3 := b2.same s3
          refine ⟨_, rfl, _, rfl, _, rfl, x, dr, t, b, lo, hi, n, u, v, rfl, hk3, huv, fun hle G4 k4 hk4 => ?_, fun hlt pr G4 s4 er => ?_⟩
          · have hle' := hle
            simp only [setLow, setHigh] at hle'
            have c1 : ¬ v < lo + leastP n t b := by
              intro z
              revert hle'
              (repeat' split) <;> omega
            have c2 : ¬ u > hi + mostP n t b := by
              intro z
              revert hle'
              (repeat' split) <;> omega
            refine ⟨_, rfl, _, rfl, _, _, rfl, rfl, _, rfl, iteDF c1 ?_⟩
            refine ⟨_, rfl, _, rfl, _, _, rfl, rfl, _, rfl, iteDF c2 ?_⟩
            refine ⟨_, rfl, rfl, _, rfl, iteBF rfl ?_⟩
            refine ⟨_, rfl, _, rfl, _, u, rfl, _, rfl, _, rfl, _, v, rfl, len2, fun pn npn => ?_⟩
            have el : (if u > lo + leastP n t b then u else lo + leastP n t b) = setLow u (some (lo, hi)) t b n := by
              simp only [setLow]
              (repeat' split) <;> omega
            have eh : (if v < hi + mostP n t b then v else hi + mostP n t b) = setHigh v (some (lo, hi)) t b n := by
              simp only [setHigh]
              (repeat' split) <;> omega
            rw [el, eh] at *
            have sx0 : Same H G4 := k4.over (sm2.trans s3) hx0
            have sn : Same G4 (upd G4 pn (.tup [.int (setLow u (some (lo, hi)) t b n), .int (setHigh v (some (lo, hi)) t b n)])) := same_new (Same.refl G4) npn
            refine ⟨_, rfl, _, rfl, _, rfl, _, rfl, x, dr, pn, t, b, _, _, 0, rfl, hk4.same sn, upd_same, fun G5 s5 => ⟨true, rfl, iteF ?_⟩⟩
            exact ⟨0, _, _, pn, _, _, _, _, _, _, _, _, rfl, (sx0.trans sn).trans s5, ((b3.ck k4 hk3).same sn).same s5, (hk4.same sn).same s5, s5 _ _ upd_same, hle⟩
          · have hlt' := hlt
            simp only [setLow, setHigh] at hlt'
            have sm4 : Same H G4 := (sm2.trans s3).trans s4
            have hk4 := hk3.same s4
            have hy4 := hky.same s4
            obtain ⟨dx4, sv4, hc4, _⟩ := hk4.at_
            obtain ⟨dy4, sw4, hd4, _⟩ := hy4.at_
            by_cases cc : v < lo + leastP n t b
            · refine ⟨_, rfl, _, rfl, _, _, rfl, rfl, _, rfl, iteDT cc ?_⟩
              refine ⟨_, rfl, _, rfl, _, rfl, len2, fun pt npt => ?_⟩
              have st4 : Same G4 (upd G4 pt (.tup [.int u, .int v])) := same_new (Same.refl G4) npt
              refine ⟨.tuple [.int u, .int v], .tuple [.int u, .int v], .tup (SqT.of (st4 _ _ er)) (.cons (.int _) (.cons (.int _) .nil)), .tup (SqT.of upd_same) (.cons (.int _) (.cons (.int _) .nil)), rfl, rfl, _, rfl, iteBF (by rw [eqv_two rfl rfl]; rfl) ?_⟩
              refine ⟨_, rfl, _, rfl, ⟨x, y, dx4, dy4, _, _, rfl, rfl, st4 _ _ hc4, st4 _ _ hd4, dr, dr, t, b, n, lo, hi, hk4.same st4, hy4.same st4⟩, fun G5 s5 => ⟨true, true, rfl, rfl, _, rfl, iteNS rfl ?_⟩⟩
              have s45 : Same G4 G5 := st4.trans s5
              refine ⟨_, rfl, _, rfl, _, rfl, _, rfl, x, dr, pb, t, b, lo, hi, n, rfl, hk4.same s45, s45 _ _ (s4 _ _ (s3 _ _ hp2)), fun G6 s6 => ⟨true, rfl, iteF ?_⟩⟩
              exact ⟨n, lo, hi, pb, _, _, _, _, _, _, _, _, rfl, (sm4.trans s45).trans s6, ((b3.same s4).same s45).same s6, (hk4.same s45).same s6, s6 _ _ (s45 _ _ (s4 _ _ (s3 _ _ hp2))), hlh⟩
            · have c2 : u > hi + mostP n t b := by
                revert hlt'
                (repeat' split) <;> omega
              refine ⟨_, rfl, _, rfl, _, _, rfl, rfl, _, rfl, iteDF cc ?_⟩
              refine ⟨_, rfl, _, rfl, _, _, rfl, rfl, _, rfl, iteDT c2 ?_⟩
              refine ⟨_, rfl, _, rfl, _, rfl, len2, fun pt npt => ?_⟩
              have st4 : Same G4 (upd G4 pt (.tup [.int u, .int v])) := same_new (Same.refl G4) npt
              refine ⟨.tuple [.int u, .int v], .tuple [.int u, .int v], .tup (SqT.of (st4 _ _ er)) (.cons (.int _) (.cons (.int _) .nil)), .tup (SqT.of upd_same) (.cons (.int _) (.cons (.int _) .nil)), rfl, rfl, _, rfl, iteBF (by rw [eqv_two rfl rfl]; rfl) ?_⟩
              refine ⟨_, rfl, _, rfl, ⟨x, y, dx4, dy4, _, _, rfl, rfl, st4 _ _ hc4, st4 _ _ hd4, dr, dr, t, b, n, lo, hi, hk4.same st4, hy4.same st4⟩, fun G5 s5 => ⟨true, true, rfl, rfl, _, rfl, iteNS rfl ?_⟩⟩
              have s45 : Same G4 G5 := st4.trans s5
              refine ⟨_, rfl, _, rfl, _, rfl, _, rfl, x, dr, pb, t, b, lo, hi, n, rfl, hk4.same s45, s45 _ _ (s4 _ _ (s3 _ _ hp2)), fun G6 s6 => ⟨true, rfl, iteF ?_⟩⟩
              exact ⟨n, lo, hi, pb, _, _, _, _, _, _, _, _, rfl, (sm4.trans s45).trans s6, ((b3.same s4).same s45).same s6, (hk4.same s45).same s6, s6 _ _ (s45 _ _ (s4 _ _ (s3 _ _ hp2))), hlh⟩
      · rintro σ Hv ⟨n, lo, hi, pb, v7, v8, v9, v10, v11, v12, v13, v14, rfl, sv, _⟩
        exact ⟨sv, _, _, _, _, _, _, _, _, _, _, _, _, _, _, rfl⟩
    · rintro σ H1 ⟨s1, _, _, _, _, _, _, _, _, _, _, _, _, _, _, rfl⟩
      exact q _

theorem all_mk {l : PySem.W.OpenLaw} {w : World} {K : PySem.W.Frag} {h : Heap} {mg : Str → Option Value} {fa : Addr} {f0 f1 f2 f3 f4 f5 f6 f7 f8 f9 f10 f11 f12 f13 f14 f15 f16 f17 f18 f19 f20 f21 f22 f23 f24 f25 f26 : Addr} (X : K.In h) (G : h.Ns mainGlobals mg) (hfa : mg "law" = some (.ref fa))
    {od0 od1 od2 od3 od4 od5 od6 od7 od8 od9 od10 od11 od12 od13 od14 od15 od16 od17 od18 od19 od20 od21 od22 od23 od24 od25 od26 : Option Addr} {an0 an1 an2 an3 an4 an5 an6 an7 an8 an9 an10 an11 an12 an13 an14 an15 an16 an17 an18 an19 an20 an21 an22 an23 an24 an25 an26 : Option Addr} {sl0 sl1 sl2 sl3 sl4 sl5 sl6 sl7 sl8 sl9 sl10 sl11 sl12 sl13 sl14 sl15 sl16 sl17 sl18 sl19 sl20 sl21 sl22 sl23 sl24 sl25 sl26 : Array (Option Value)} {oc0 kV0 dc0 pm0 cd0 ct0 oc1 kV1 dc1 pm1 cd1 ct1 oc2 kV2 dc2 pm2 cd2 ct2 oc3 kV3 dc3 pm3 cd3 ct3 oc4 kV4 dc4 pm4 cd4 ct4 oc5 kV5 dc5 pm5 cd5 ct5 oc6 kV6 dc6 pm6 cd6 ct6 oc7 kV7 dc7 pm7 cd7 ct7 oc8 kV8 dc8 pm8 cd8 ct8 oc9 kV9 dc9 pm9 cd9 ct9 oc10 kV10 dc10 pm10 cd10 ct10 oc11 kV11 dc11 pm11 cd11 ct11 oc12 kV12 dc12 pm12 cd12 ct12 oc13 kV13 dc13 pm13 cd13 ct13 oc14 kV14 dc14 pm14 cd14 ct14 oc15 kV15 dc15 pm15 cd15 ct15 oc16 kV16 dc16 pm16 cd16 ct16 oc17 kV17 dc17 pm17 cd17 ct17 oc18 kV18 dc18 pm18 cd18 ct18 oc19 kV19 dc19 pm19 cd19 ct19 oc20 kV20 dc20 pm20 cd20 ct20 oc21 kV21 dc21 pm21 cd21 ct21 oc22 kV22 dc22 pm22 cd22 ct22 oc23 kV23 dc23 pm23 cd23 ct23 oc24 kV24 dc24 pm24 cd24 ct24 oc25 kV25 dc25 pm25 cd25 ct25 oc26 kV26 dc26 pm26 cd26 ct26 : Value}
    {fC : Addr}
    {fN fW fI : Addr} {nm q : Str} {N : Addr} {bs : List Value} {sn : List Str} {sub : List Value} {ab : Bool} {col : Option Bool} {dd : Option Addr} {x0 x1 x2 x3 x5 : Option Value} {ocI kVI dcI pmI cdI ctI : Value} {odI anI : Option Addr} {slI : Array (Option Value)}
    {f28 : Addr} {od28 : Option Addr} {n28 : Nat} {sl28 : Array (Option Value)} {t28_0 t28_1 : Tok}
    {t29 : Tok}
    {f30 : Addr} {od30 : Option Addr} {n30 : Nat} {sl30 : Array (Option Value)} {t30_0 t30_1 : Tok}
    {T9 : Addr} {odT9 : Option Addr} {ocT9 : Value} {nT9 : Nat} {slT9 : Array (Option Value)} 
    {T12 : Addr} {odT12 : Option Addr} {ocT12 : Value} {nT12 : Nat} {slT12 : Array (Option Value)} {tT12_0 : Tok}
    (g28 : PySem.W.nsIn K mainGlobals "WHOLE" = some (some (.ref f28))) (l28 : K.lookup f28 = some ⟨.type "tuple", od28, .seq #[.int 1 t28_0, .int 1 t28_1] n28, sl28⟩)
    (g29 : PySem.W.nsIn K mainGlobals "MOST_BOTTOM" = some (some (.int 1000 t29)))
    (g30 : PySem.W.nsIn K mainGlobals "DRIFT" = some (some (.ref f30))) (l30 : K.lookup f30 = some ⟨.type "tuple", od30, .seq #[.int 1 t30_0, .int 100 t30_1] n30, sl30⟩)
    (aC : PySem.W.nsIn K mainGlobals "Clock" = some (some (.ref fC))) (pg : PySem.W.plainGet K fC Str.empty = true) (hd : PySem.W.hasDictIn K fC = true) (po : PySem.W.plainOver K fC = true) (sa : PySem.W.findIn K (.ref fC) "__setattr__" = some (some (.builtin "object.__setattr__"))) (mk : PySem.W.makesIn K fC = true) (kc : PySem.W.keepIn K (.ref fC) = true)
    (nf_most_drift : PySem.W.findIn K (.ref fC) "most_drift" = some none)
    (nf_stands : PySem.W.findIn K (.ref fC) "stands" = some none)
    (nf_counted : PySem.W.findIn K (.ref fC) "counted" = some none)
    (a0 : PySem.W.nsIn K mainGlobals "is_whole" = some (some (.ref f0)))
    (l0 : K.lookup f0 = some ⟨oc0, od0, .func (PySem.W.fnOf "is_whole" "is_whole" (defArgs s_is_whole) (defBody s_is_whole) (defScope s_is_whole) .none kV0 dc0 pm0 an0 cd0 ct0), sl0⟩) (c0 : PySem.W.codeIn K cd0 "is_whole" = true) (k0 : PySem.W.keepIn K (.ref f0) = true)
    (a1 : PySem.W.nsIn K mainGlobals "is_count" = some (some (.ref f1)))
    (l1 : K.lookup f1 = some ⟨oc1, od1, .func (PySem.W.fnOf "is_count" "is_count" (defArgs s_is_count) (defBody s_is_count) (defScope s_is_count) .none kV1 dc1 pm1 an1 cd1 ct1), sl1⟩) (c1 : PySem.W.codeIn K cd1 "is_count" = true) (k1 : PySem.W.keepIn K (.ref f1) = true)
    (a2 : PySem.W.nsIn K mainGlobals "is_from_to" = some (some (.ref f2)))
    (l2 : K.lookup f2 = some ⟨oc2, od2, .func (PySem.W.fnOf "is_from_to" "is_from_to" (defArgs s_is_from_to) (defBody s_is_from_to) (defScope s_is_from_to) .none kV2 dc2 pm2 an2 cd2 ct2), sl2⟩) (c2 : PySem.W.codeIn K cd2 "is_from_to" = true) (k2 : PySem.W.keepIn K (.ref f2) = true)
    (a3 : PySem.W.nsIn K mainGlobals "common_divisor" = some (some (.ref f3)))
    (l3 : K.lookup f3 = some ⟨oc3, od3, .func (PySem.W.fnOf "common_divisor" "common_divisor" (defArgs s_common_divisor) (defBody s_common_divisor) (defScope s_common_divisor) .none kV3 dc3 pm3 an3 cd3 ct3), sl3⟩) (c3 : PySem.W.codeIn K cd3 "common_divisor" = true) (k3 : PySem.W.keepIn K (.ref f3) = true)
    (a4 : PySem.W.nsIn K mainGlobals "is_share" = some (some (.ref f4)))
    (l4 : K.lookup f4 = some ⟨oc4, od4, .func (PySem.W.fnOf "is_share" "is_share" (defArgs s_is_share) (defBody s_is_share) (defScope s_is_share) .none kV4 dc4 pm4 an4 cd4 ct4), sl4⟩) (c4 : PySem.W.codeIn K cd4 "is_share" = true) (k4 : PySem.W.keepIn K (.ref f4) = true)
    (a5 : PySem.W.nsIn K mainGlobals "is_drift" = some (some (.ref f5)))
    (l5 : K.lookup f5 = some ⟨oc5, od5, .func (PySem.W.fnOf "is_drift" "is_drift" (defArgs s_is_drift) (defBody s_is_drift) (defScope s_is_drift) .none kV5 dc5 pm5 an5 cd5 ct5), sl5⟩) (c5 : PySem.W.codeIn K cd5 "is_drift" = true) (k5 : PySem.W.keepIn K (.ref f5) = true)
    (a6 : PySem.W.nsIn K mainGlobals "refuse_no_count" = some (some (.ref f6)))
    (l6 : K.lookup f6 = some ⟨oc6, od6, .func (PySem.W.fnOf "refuse_no_count" "refuse_no_count" (defArgs s_refuse_no_count) (defBody s_refuse_no_count) (defScope s_refuse_no_count) .none kV6 dc6 pm6 an6 cd6 ct6), sl6⟩) (c6 : PySem.W.codeIn K cd6 "refuse_no_count" = true) (k6 : PySem.W.keepIn K (.ref f6) = true)
    (a7 : PySem.W.nsIn K mainGlobals "least_of" = some (some (.ref f7)))
    (l7 : K.lookup f7 = some ⟨oc7, od7, .func (PySem.W.fnOf "least_of" "least_of" (defArgs s_least_of) (defBody s_least_of) (defScope s_least_of) .none kV7 dc7 pm7 an7 cd7 ct7), sl7⟩) (c7 : PySem.W.codeIn K cd7 "least_of" = true) (k7 : PySem.W.keepIn K (.ref f7) = true)
    (a8 : PySem.W.nsIn K mainGlobals "most_of" = some (some (.ref f8)))
    (l8 : K.lookup f8 = some ⟨oc8, od8, .func (PySem.W.fnOf "most_of" "most_of" (defArgs s_most_of) (defBody s_most_of) (defScope s_most_of) .none kV8 dc8 pm8 an8 cd8 ct8), sl8⟩) (c8 : PySem.W.codeIn K cd8 "most_of" = true) (k8 : PySem.W.keepIn K (.ref f8) = true)
    (a9 : PySem.W.findIn K (.ref fC) "__init__" = some (some (.ref f9))) (i9 : PySem.W.isFn K (.ref f9) = true)
    (l9 : K.lookup f9 = some ⟨oc9, od9, .func (PySem.W.fnOf "__init__" "Clock.__init__" (defArgs s_Clock___init__) (defBody s_Clock___init__) (defScope s_Clock___init__) (.ref T9) kV9 dc9 pm9 an9 cd9 ct9), sl9⟩) (c9 : PySem.W.codeIn K cd9 "Clock.__init__" = true) (k9 : PySem.W.keepIn K (.ref f9) = true)
    (lT9 : K.lookup T9 = some ⟨ocT9, odT9, .seq #[.ref f30] nT9, slT9⟩)
    (a10 : PySem.W.findIn K (.ref fC) "is_set" = some (some (.ref f10))) (i10 : PySem.W.isFn K (.ref f10) = true)
    (l10 : K.lookup f10 = some ⟨oc10, od10, .func (PySem.W.fnOf "is_set" "Clock.is_set" (defArgs s_Clock_is_set) (defBody s_Clock_is_set) (defScope s_Clock_is_set) .none kV10 dc10 pm10 an10 cd10 ct10), sl10⟩) (c10 : PySem.W.codeIn K cd10 "Clock.is_set" = true) (k10 : PySem.W.keepIn K (.ref f10) = true)
    (a11 : PySem.W.findIn K (.ref fC) "set_to" = some (some (.ref f11))) (i11 : PySem.W.isFn K (.ref f11) = true)
    (l11 : K.lookup f11 = some ⟨oc11, od11, .func (PySem.W.fnOf "set_to" "Clock.set_to" (defArgs s_Clock_set_to) (defBody s_Clock_set_to) (defScope s_Clock_set_to) .none kV11 dc11 pm11 an11 cd11 ct11), sl11⟩) (c11 : PySem.W.codeIn K cd11 "Clock.set_to" = true) (k11 : PySem.W.keepIn K (.ref f11) = true)
    (a12 : PySem.W.findIn K (.ref fC) "tick" = some (some (.ref f12))) (i12 : PySem.W.isFn K (.ref f12) = true)
    (l12 : K.lookup f12 = some ⟨oc12, od12, .func (PySem.W.fnOf "tick" "Clock.tick" (defArgs s_Clock_tick) (defBody s_Clock_tick) (defScope s_Clock_tick) (.ref T12) kV12 dc12 pm12 an12 cd12 ct12), sl12⟩) (c12 : PySem.W.codeIn K cd12 "Clock.tick" = true) (k12 : PySem.W.keepIn K (.ref f12) = true)
    (lT12 : K.lookup T12 = some ⟨ocT12, odT12, .seq #[.int 1 tT12_0] nT12, slT12⟩)
    (a13 : PySem.W.findIn K (.ref fC) "bounds" = some (some (.ref f13))) (i13 : PySem.W.isFn K (.ref f13) = true)
    (l13 : K.lookup f13 = some ⟨oc13, od13, .func (PySem.W.fnOf "bounds" "Clock.bounds" (defArgs s_Clock_bounds) (defBody s_Clock_bounds) (defScope s_Clock_bounds) .none kV13 dc13 pm13 an13 cd13 ct13), sl13⟩) (c13 : PySem.W.codeIn K cd13 "Clock.bounds" = true) (k13 : PySem.W.keepIn K (.ref f13) = true)
    (a14 : PySem.W.findIn K (.ref fC) "twin" = some (some (.ref f14))) (i14 : PySem.W.isFn K (.ref f14) = true)
    (l14 : K.lookup f14 = some ⟨oc14, od14, .func (PySem.W.fnOf "twin" "Clock.twin" (defArgs s_Clock_twin) (defBody s_Clock_twin) (defScope s_Clock_twin) .none kV14 dc14 pm14 an14 cd14 ct14), sl14⟩) (c14 : PySem.W.codeIn K cd14 "Clock.twin" = true) (k14 : PySem.W.keepIn K (.ref f14) = true)
    (a15 : PySem.W.findIn K (.ref fC) "__eq__" = some (some (.ref f15))) (i15 : PySem.W.isFn K (.ref f15) = true)
    (l15 : K.lookup f15 = some ⟨oc15, od15, .func (PySem.W.fnOf "__eq__" "Clock.__eq__" (defArgs s_Clock___eq__) (defBody s_Clock___eq__) (defScope s_Clock___eq__) .none kV15 dc15 pm15 an15 cd15 ct15), sl15⟩) (c15 : PySem.W.codeIn K cd15 "Clock.__eq__" = true) (k15 : PySem.W.keepIn K (.ref f15) = true)
    (a16 : PySem.W.nsIn K mainGlobals "_law_bag" = some (some (.ref f16)))
    (l16 : K.lookup f16 = some ⟨oc16, od16, .func (PySem.W.fnOf "_law_bag" "_law_bag" (defArgs s_l_bag) (defBody s_l_bag) (defScope s_l_bag) .none kV16 dc16 pm16 an16 cd16 ct16), sl16⟩) (c16 : PySem.W.codeIn K cd16 "_law_bag" = true) (k16 : PySem.W.keepIn K (.ref f16) = true)
    (a17 : PySem.W.nsIn K mainGlobals "_law_out" = some (some (.ref f17)))
    (l17 : K.lookup f17 = some ⟨oc17, od17, .func (PySem.W.fnOf "_law_out" "_law_out" (defArgs s_l_out) (defBody s_l_out) (defScope s_l_out) .none kV17 dc17 pm17 an17 cd17 ct17), sl17⟩) (c17 : PySem.W.codeIn K cd17 "_law_out" = true) (k17 : PySem.W.keepIn K (.ref f17) = true)
    (a18 : PySem.W.nsIn K mainGlobals "_law_drift" = some (some (.ref f18)))
    (l18 : K.lookup f18 = some ⟨oc18, od18, .func (PySem.W.fnOf "_law_drift" "_law_drift" (defArgs s_l_drift) (defBody s_l_drift) (defScope s_l_drift) .none kV18 dc18 pm18 an18 cd18 ct18), sl18⟩) (c18 : PySem.W.codeIn K cd18 "_law_drift" = true) (k18 : PySem.W.keepIn K (.ref f18) = true)
    (a19 : PySem.W.nsIn K mainGlobals "_law_is_least" = some (some (.ref f19)))
    (l19 : K.lookup f19 = some ⟨oc19, od19, .func (PySem.W.fnOf "_law_is_least" "_law_is_least" (defArgs s_l_is_least) (defBody s_l_is_least) (defScope s_l_is_least) .none kV19 dc19 pm19 an19 cd19 ct19), sl19⟩) (c19 : PySem.W.codeIn K cd19 "_law_is_least" = true) (k19 : PySem.W.keepIn K (.ref f19) = true)
    (a20 : PySem.W.nsIn K mainGlobals "_law_is_most" = some (some (.ref f20)))
    (l20 : K.lookup f20 = some ⟨oc20, od20, .func (PySem.W.fnOf "_law_is_most" "_law_is_most" (defArgs s_l_is_most) (defBody s_l_is_most) (defScope s_l_is_most) .none kV20 dc20 pm20 an20 cd20 ct20), sl20⟩) (c20 : PySem.W.codeIn K cd20 "_law_is_most" = true) (k20 : PySem.W.keepIn K (.ref f20) = true)
    (a21 : PySem.W.nsIn K mainGlobals "_law_set" = some (some (.ref f21)))
    (l21 : K.lookup f21 = some ⟨oc21, od21, .func (PySem.W.fnOf "_law_set" "_law_set" (defArgs s_l_set) (defBody s_l_set) (defScope s_l_set) .none kV21 dc21 pm21 an21 cd21 ct21), sl21⟩) (c21 : PySem.W.codeIn K cd21 "_law_set" = true) (k21 : PySem.W.keepIn K (.ref f21) = true)
    (a22 : PySem.W.nsIn K mainGlobals "_law_about" = some (some (.ref f22)))
    (l22 : K.lookup f22 = some ⟨oc22, od22, .func (PySem.W.fnOf "_law_about" "_law_about" (defArgs s_l_about) (defBody s_l_about) (defScope s_l_about) .none kV22 dc22 pm22 an22 cd22 ct22), sl22⟩) (c22 : PySem.W.codeIn K cd22 "_law_about" = true) (k22 : PySem.W.keepIn K (.ref f22) = true)
    (a23 : PySem.W.nsIn K mainGlobals "_law_right" = some (some (.ref f23)))
    (l23 : K.lookup f23 = some ⟨oc23, od23, .func (PySem.W.fnOf "_law_right" "_law_right" (defArgs s_l_right) (defBody s_l_right) (defScope s_l_right) .none kV23 dc23 pm23 an23 cd23 ct23), sl23⟩) (c23 : PySem.W.codeIn K cd23 "_law_right" = true) (k23 : PySem.W.keepIn K (.ref f23) = true)
    (a24 : PySem.W.nsIn K mainGlobals "law" = some (some (.ref f24)))
    (l24 : K.lookup f24 = some ⟨oc24, od24, .func (PySem.W.fnOf "law" "law" (defArgs s_law) (defBody s_law) (defScope s_law) .none kV24 dc24 pm24 an24 cd24 ct24), sl24⟩) (c24 : PySem.W.codeIn K cd24 "law" = true) (k24 : PySem.W.keepIn K (.ref f24) = true)
    (a25 : PySem.W.nsIn K mainGlobals "bounds_behind" = some (some (.ref f25)))
    (l25 : K.lookup f25 = some ⟨oc25, od25, .func (PySem.W.fnOf "bounds_behind" "bounds_behind" (defArgs s_bounds_behind) (defBody s_bounds_behind) (defScope s_bounds_behind) .none kV25 dc25 pm25 an25 cd25 ct25), sl25⟩) (c25 : PySem.W.codeIn K cd25 "bounds_behind" = true) (k25 : PySem.W.keepIn K (.ref f25) = true)
    (a26 : PySem.W.nsIn K mainGlobals "set_between" = some (some (.ref f26)))
    (l26 : K.lookup f26 = some ⟨oc26, od26, .func (PySem.W.fnOf "set_between" "set_between" (defArgs s_set_between) (defBody s_set_between) (defScope s_set_between) .none kV26 dc26 pm26 an26 cd26 ct26), sl26⟩) (c26 : PySem.W.codeIn K cd26 "set_between" = true) (k26 : PySem.W.keepIn K (.ref f26) = true)
    (z_max : PySem.W.nsIn K mainGlobals "max" = some none)
    (z_min : PySem.W.nsIn K mainGlobals "min" = some none)
    (z_len : PySem.W.nsIn K mainGlobals "len" = some none)
    (z_int : PySem.W.nsIn K mainGlobals "int" = some none)
    (z_range : PySem.W.nsIn K mainGlobals "range" = some none)
    (z_isinstance : PySem.W.nsIn K mainGlobals "isinstance" = some none)
    (z_bool : PySem.W.nsIn K mainGlobals "bool" = some none)
    (z_tuple : PySem.W.nsIn K mainGlobals "tuple" = some none)
    (z_all : PySem.W.nsIn K mainGlobals "all" = some none)
    (aN : PySem.W.nsIn K mainGlobals "NoBounds" = some (some (.ref fN)))
    (xN : K.lookup fN = some (excClassObj nm q fN N bs [.ref fW, .type "ValueError", .type "Exception", .type "BaseException", .type "object"] true sn sub ab col dd x0 x1 x2 x3 x5 "ValueError.__new__"))
    (saN : PySem.W.findIn K (.ref fN) "__setattr__" = some (some (.builtin "object.__setattr__"))) (exN : PySem.W.subIn K (.ref fN) (.type "BaseException") = some true) (tyN : PySem.W.typeIn K (.ref fN) = some (.type "type")) (kN : PySem.W.keepIn K (.ref fN) = true)
    (iNN : PySem.W.findIn K (.ref fN) "__init__" = some (some (.ref fI))) (tIN : PySem.W.typeIn K (.ref fI) = some (.type "function")) (nLN : PySem.W.findIn K (.ref fN) "low" = some none) (nHN : PySem.W.findIn K (.ref fN) "high" = some none) (icN : PySem.W.isClsIn K fN = true) (ssN : PySem.W.subIn K (.ref fN) (.ref fN) = some true)
    (gaN : PySem.W.findIn K (.ref fN) "__getattribute__" = some (some (.builtin "BaseException.__getattribute__"))) (ggN : PySem.W.findIn K (.ref fN) "__getattr__" = some none) (hdN : PySem.W.hasDictIn K fN = true)
    (lI : K.lookup fI = some ⟨ocI, odI, .func (PySem.W.fnOf "__init__" "NoBounds.__init__" (defArgs s_BI) (defBody s_BI) (defScope s_BI) .none kVI dcI pmI anI cdI ctI), slI⟩) (cI : PySem.W.codeIn K cdI "NoBounds.__init__" = true) (kI : PySem.W.keepIn K (.ref fI) = true)
    (j1 : PySem.W.findIn K (.ref fC) "__class__" = some (some (.builtin "object.__class__"))) (j2 : PySem.W.specialIn K (.builtin "object.__class__") "__get__" = some (some (.builtin "getset_descriptor.__get__"))) (j3 : PySem.W.takesIn K (.builtin "object.__class__") = some true) (j4 : PySem.W.mroIn K fC (.type "object") = some true)
    : ∃ fd : FuncData, (∀ (s : Shared) (v : Value), BindsTo s fd ⟨[v], []⟩ [("_law_script", v)]) ∧ ∀ base : Heap, K.In base → base.Ns mainGlobals mg → FnOk l.prog w K mg base CX0 9 fa fd ["_law_script"] (spLaw K) := by
  have e := hfa.symm.trans (PySem.W.mg_of X G a24)
  cases e
  have F0 := fun_mk (st := s_is_whole) l0 c0 k0
  have b0 := F0.binds (ps := ["thing"]) fun _ _ _ _ _ _ us hl => match us, hl with | [_], _ => rfl
  have F1 := fun_mk (st := s_is_count) l1 c1 k1
  have b1 := F1.binds (ps := ["thing"]) fun _ _ _ _ _ _ us hl => match us, hl with | [_], _ => rfl
  have F2 := fun_mk (st := s_is_from_to) l2 c2 k2
  have b2 := F2.binds (ps := ["thing", "least", "most"]) fun _ _ _ _ _ _ us hl => match us, hl with | [_, _, _], _ => rfl
  have F3 := fun_mk (st := s_common_divisor) l3 c3 k3
  have b3 := F3.binds (ps := ["first", "second"]) fun _ _ _ _ _ _ us hl => match us, hl with | [_, _], _ => rfl
  have F4 := fun_mk (st := s_is_share) l4 c4 k4
  have b4 := F4.binds (ps := ["thing"]) fun _ _ _ _ _ _ us hl => match us, hl with | [_], _ => rfl
  have F5 := fun_mk (st := s_is_drift) l5 c5 k5
  have b5 := F5.binds (ps := ["thing"]) fun _ _ _ _ _ _ us hl => match us, hl with | [_], _ => rfl
  have F6 := fun_mk (st := s_refuse_no_count) l6 c6 k6
  have b6 := F6.binds (ps := ["thing"]) fun _ _ _ _ _ _ us hl => match us, hl with | [_], _ => rfl
  have F7 := fun_mk (st := s_least_of) l7 c7 k7
  have b7 := F7.binds (ps := ["ticks", "drift"]) fun _ _ _ _ _ _ us hl => match us, hl with | [_, _], _ => rfl
  have F8 := fun_mk (st := s_most_of) l8 c8 k8
  have b8 := F8.binds (ps := ["ticks", "drift"]) fun _ _ _ _ _ _ us hl => match us, hl with | [_, _], _ => rfl
  have F9 : FunD K "__init__" "Clock.__init__" (defArgs s_Clock___init__) (defBody s_Clock___init__) (defScope s_Clock___init__) [V.ref f30] [] f9 (PySem.W.fnOf "__init__" "Clock.__init__" (defArgs s_Clock___init__) (defBody s_Clock___init__) (defScope s_Clock___init__) (.ref T9) kV9 dc9 pm9 an9 cd9 ct9) := ⟨⟨_, _, _, _, _, _, _, _, _, _, rfl, l9, c9, .inr ⟨by simp, _, _, [Value.ref f30], _, rfl, lT9, rfl, (.cons rfl .nil)⟩, .inl rfl⟩, k9⟩
  have b9 : Binds K (PySem.W.fnOf "__init__" "Clock.__init__" (defArgs s_Clock___init__) (defBody s_Clock___init__) (defScope s_Clock___init__) (.ref T9) kV9 dc9 pm9 an9 cd9 ct9) ["self", "drift"] [] := by
    obtain ⟨ds, v, b⟩ := F9.binds1 (ps := ["self", "drift"]) 2 1 (by simp) rfl (fun T kV dc pm an cdv ct us its hu hi => match us, hu, its, hi with | [_, _], _, [_], _ => ⟨_, rfl, rfl⟩)
    cases v
    exact b
  have c'9 : ∃ ds, Vals [V.ref f30] ds ∧ Binds K (PySem.W.fnOf "__init__" "Clock.__init__" (defArgs s_Clock___init__) (defBody s_Clock___init__) (defScope s_Clock___init__) (.ref T9) kV9 dc9 pm9 an9 cd9 ct9) ["self", "drift"] ds := F9.binds1 (ps := ["self", "drift"]) 1 0 (by simp) rfl (fun T kV dc pm an cdv ct us its hu hi => match us, hu, its, hi with | [_], _, [_], _ => ⟨_, rfl, rfl⟩)
  have F10 := fun_mk (st := s_Clock_is_set) l10 c10 k10
  have b10 := F10.binds (ps := ["self"]) fun _ _ _ _ _ _ us hl => match us, hl with | [_], _ => rfl
  have F11 := fun_mk (st := s_Clock_set_to) l11 c11 k11
  have b11 := F11.binds (ps := ["self", "low", "high"]) fun _ _ _ _ _ _ us hl => match us, hl with | [_, _, _], _ => rfl
  have F12 : FunD K "tick" "Clock.tick" (defArgs s_Clock_tick) (defBody s_Clock_tick) (defScope s_Clock_tick) [V.int 1] [] f12 (PySem.W.fnOf "tick" "Clock.tick" (defArgs s_Clock_tick) (defBody s_Clock_tick) (defScope s_Clock_tick) (.ref T12) kV12 dc12 pm12 an12 cd12 ct12) := ⟨⟨_, _, _, _, _, _, _, _, _, _, rfl, l12, c12, .inr ⟨by simp, _, _, [Value.int 1 tT12_0], _, rfl, lT12, rfl, (.cons ⟨_, rfl⟩ .nil)⟩, .inl rfl⟩, k12⟩
  have b12 : Binds K (PySem.W.fnOf "tick" "Clock.tick" (defArgs s_Clock_tick) (defBody s_Clock_tick) (defScope s_Clock_tick) (.ref T12) kV12 dc12 pm12 an12 cd12 ct12) ["self", "many"] [] := by
    obtain ⟨ds, v, b⟩ := F12.binds1 (ps := ["self", "many"]) 2 1 (by simp) rfl (fun T kV dc pm an cdv ct us its hu hi => match us, hu, its, hi with | [_, _], _, [_], _ => ⟨_, rfl, rfl⟩)
    cases v
    exact b
  have c'12 : ∃ ds, Vals [V.int 1] ds ∧ Binds K (PySem.W.fnOf "tick" "Clock.tick" (defArgs s_Clock_tick) (defBody s_Clock_tick) (defScope s_Clock_tick) (.ref T12) kV12 dc12 pm12 an12 cd12 ct12) ["self", "many"] ds := F12.binds1 (ps := ["self", "many"]) 1 0 (by simp) rfl (fun T kV dc pm an cdv ct us its hu hi => match us, hu, its, hi with | [_], _, [_], _ => ⟨_, rfl, rfl⟩)
  have F13 := fun_mk (st := s_Clock_bounds) l13 c13 k13
  have b13 := F13.binds (ps := ["self"]) fun _ _ _ _ _ _ us hl => match us, hl with | [_], _ => rfl
  have F14 := fun_mk (st := s_Clock_twin) l14 c14 k14
  have b14 := F14.binds (ps := ["self"]) fun _ _ _ _ _ _ us hl => match us, hl with | [_], _ => rfl
  have F15 := fun_mk (st := s_Clock___eq__) l15 c15 k15
  have b15 := F15.binds (ps := ["self", "other"]) fun _ _ _ _ _ _ us hl => match us, hl with | [_, _], _ => rfl
  have F16 := fun_mk (st := s_l_bag) l16 c16 k16
  have b16 := F16.binds (ps := ["_law_script", "_law_k"]) fun _ _ _ _ _ _ us hl => match us, hl with | [_, _], _ => rfl
  have F17 := fun_mk (st := s_l_out) l17 c17 k17
  have b17 := F17.binds (ps := ["_law_bag_here", "_law_many"]) fun _ _ _ _ _ _ us hl => match us, hl with | [_, _], _ => rfl
  have F18 := fun_mk (st := s_l_drift) l18 c18 k18
  have b18 := F18.binds (ps := ["_law_bag_here"]) fun _ _ _ _ _ _ us hl => match us, hl with | [_], _ => rfl
  have F19 := fun_mk (st := s_l_is_least) l19 c19 k19
  have b19 := F19.binds (ps := ["_law_passed", "_law_count", "_law_drift_here"]) fun _ _ _ _ _ _ us hl => match us, hl with | [_, _, _], _ => rfl
  have F20 := fun_mk (st := s_l_is_most) l20 c20 k20
  have b20 := F20.binds (ps := ["_law_passed", "_law_count", "_law_drift_here"]) fun _ _ _ _ _ _ us hl => match us, hl with | [_, _, _], _ => rfl
  have F21 := fun_mk (st := s_l_set) l21 c21 k21
  have b21 := F21.binds (ps := ["_law_clock", "_law_low", "_law_high"]) fun _ _ _ _ _ _ us hl => match us, hl with | [_, _, _], _ => rfl
  have F22 := fun_mk (st := s_l_about) l22 c22 k22
  have b22 := F22.binds (ps := ["_law_bag_here", "_law_low", "_law_high"]) fun _ _ _ _ _ _ us hl => match us, hl with | [_, _, _], _ => rfl
  have F23 := fun_mk (st := s_l_right) l23 c23 k23
  have b23 := F23.binds (ps := ["_law_clock", "_law_base", "_law_count", "_law_drift_here"]) fun _ _ _ _ _ _ us hl => match us, hl with | [_, _, _, _], _ => rfl
  have F24 := fun_mk (st := s_law) l24 c24 k24
  have b24 := F24.binds (ps := ["_law_script"]) fun _ _ _ _ _ _ us hl => match us, hl with | [_], _ => rfl
  have F25 := fun_mk (st := s_bounds_behind) l25 c25 k25
  have b25 := F25.binds (ps := ["stands", "counted", "drift"]) fun _ _ _ _ _ _ us hl => match us, hl with | [_, _, _], _ => rfl
  have F26 := fun_mk (st := s_set_between) l26 c26 k26
  have b26 := F26.binds (ps := ["told", "low", "high"]) fun _ _ _ _ _ _ us hl => match us, hl with | [_, _, _], _ => rfl
  have FI := fun_mk (st := s_BI) lI cI kI
  have bI := FI.binds (ps := ["self", "low", "high"]) fun _ _ _ _ _ _ us hl => match us, hl with | [_, _, _], _ => rfl
  let a : Nat → Addr := fun i => match i with | 0 => f0 | 1 => f1 | 2 => f2 | 3 => f3 | 4 => f4 | 5 => f5 | 6 => f6 | 7 => f7 | 8 => f8 | 9 => f9 | 10 => f10 | 11 => f11 | 12 => f12 | 13 => f13 | 14 => f14 | 15 => f15 | 16 => f16 | 17 => f17 | 18 => f18 | 19 => f19 | 20 => f20 | 21 => f21 | 22 => f22 | 23 => f23 | 24 => fa | 25 => f25 | 26 => f26 | 50 => fN | 51 => fI | 27 => fC | 28 => f28 | 30 => f30 | _ => 0
  let d : Nat → FuncData := fun i => match i with | 0 => (PySem.W.fnOf "is_whole" "is_whole" (defArgs s_is_whole) (defBody s_is_whole) (defScope s_is_whole) .none kV0 dc0 pm0 an0 cd0 ct0) | 1 => (PySem.W.fnOf "is_count" "is_count" (defArgs s_is_count) (defBody s_is_count) (defScope s_is_count) .none kV1 dc1 pm1 an1 cd1 ct1) | 2 => (PySem.W.fnOf "is_from_to" "is_from_to" (defArgs s_is_from_to) (defBody s_is_from_to) (defScope s_is_from_to) .none kV2 dc2 pm2 an2 cd2 ct2) | 3 => (PySem.W.fnOf "common_divisor" "common_divisor" (defArgs s_common_divisor) (defBody s_common_divisor) (defScope s_common_divisor) .none kV3 dc3 pm3 an3 cd3 ct3) | 4 => (PySem.W.fnOf "is_share" "is_share" (defArgs s_is_share) (defBody s_is_share) (defScope s_is_share) .none kV4 dc4 pm4 an4 cd4 ct4) | 5 => (PySem.W.fnOf "is_drift" "is_drift" (defArgs s_is_drift) (defBody s_is_drift) (defScope s_is_drift) .none kV5 dc5 pm5 an5 cd5 ct5) | 6 => (PySem.W.fnOf "refuse_no_count" "refuse_no_count" (defArgs s_refuse_no_count) (defBody s_refuse_no_count) (defScope s_refuse_no_count) .none kV6 dc6 pm6 an6 cd6 ct6) | 7 => (PySem.W.fnOf "least_of" "least_of" (defArgs s_least_of) (defBody s_least_of) (defScope s_least_of) .none kV7 dc7 pm7 an7 cd7 ct7) | 8 => (PySem.W.fnOf "most_of" "most_of" (defArgs s_most_of) (defBody s_most_of) (defScope s_most_of) .none kV8 dc8 pm8 an8 cd8 ct8) | 9 => (PySem.W.fnOf "__init__" "Clock.__init__" (defArgs s_Clock___init__) (defBody s_Clock___init__) (defScope s_Clock___init__) (.ref T9) kV9 dc9 pm9 an9 cd9 ct9) | 10 => (PySem.W.fnOf "is_set" "Clock.is_set" (defArgs s_Clock_is_set) (defBody s_Clock_is_set) (defScope s_Clock_is_set) .none kV10 dc10 pm10 an10 cd10 ct10) | 11 => (PySem.W.fnOf "set_to" "Clock.set_to" (defArgs s_Clock_set_to) (defBody s_Clock_set_to) (defScope s_Clock_set_to) .none kV11 dc11 pm11 an11 cd11 ct11) | 12 => (PySem.W.fnOf "tick" "Clock.tick" (defArgs s_Clock_tick) (defBody s_Clock_tick) (defScope s_Clock_tick) (.ref T12) kV12 dc12 pm12 an12 cd12 ct12) | 13 => (PySem.W.fnOf "bounds" "Clock.bounds" (defArgs s_Clock_bounds) (defBody s_Clock_bounds) (defScope s_Clock_bounds) .none kV13 dc13 pm13 an13 cd13 ct13) | 14 => (PySem.W.fnOf "twin" "Clock.twin" (defArgs s_Clock_twin) (defBody s_Clock_twin) (defScope s_Clock_twin) .none kV14 dc14 pm14 an14 cd14 ct14) | 15 => (PySem.W.fnOf "__eq__" "Clock.__eq__" (defArgs s_Clock___eq__) (defBody s_Clock___eq__) (defScope s_Clock___eq__) .none kV15 dc15 pm15 an15 cd15 ct15) | 16 => (PySem.W.fnOf "_law_bag" "_law_bag" (defArgs s_l_bag) (defBody s_l_bag) (defScope s_l_bag) .none kV16 dc16 pm16 an16 cd16 ct16) | 17 => (PySem.W.fnOf "_law_out" "_law_out" (defArgs s_l_out) (defBody s_l_out) (defScope s_l_out) .none kV17 dc17 pm17 an17 cd17 ct17) | 18 => (PySem.W.fnOf "_law_drift" "_law_drift" (defArgs s_l_drift) (defBody s_l_drift) (defScope s_l_drift) .none kV18 dc18 pm18 an18 cd18 ct18) | 19 => (PySem.W.fnOf "_law_is_least" "_law_is_least" (defArgs s_l_is_least) (defBody s_l_is_least) (defScope s_l_is_least) .none kV19 dc19 pm19 an19 cd19 ct19) | 20 => (PySem.W.fnOf "_law_is_most" "_law_is_most" (defArgs s_l_is_most) (defBody s_l_is_most) (defScope s_l_is_most) .none kV20 dc20 pm20 an20 cd20 ct20) | 21 => (PySem.W.fnOf "_law_set" "_law_set" (defArgs s_l_set) (defBody s_l_set) (defScope s_l_set) .none kV21 dc21 pm21 an21 cd21 ct21) | 22 => (PySem.W.fnOf "_law_about" "_law_about" (defArgs s_l_about) (defBody s_l_about) (defScope s_l_about) .none kV22 dc22 pm22 an22 cd22 ct22) | 23 => (PySem.W.fnOf "_law_right" "_law_right" (defArgs s_l_right) (defBody s_l_right) (defScope s_l_right) .none kV23 dc23 pm23 an23 cd23 ct23) | 24 => (PySem.W.fnOf "law" "law" (defArgs s_law) (defBody s_law) (defScope s_law) .none kV24 dc24 pm24 an24 cd24 ct24) | 25 => (PySem.W.fnOf "bounds_behind" "bounds_behind" (defArgs s_bounds_behind) (defBody s_bounds_behind) (defScope s_bounds_behind) .none kV25 dc25 pm25 an25 cd25 ct25) | 26 => (PySem.W.fnOf "set_between" "set_between" (defArgs s_set_between) (defBody s_set_between) (defScope s_set_between) .none kV26 dc26 pm26 an26 cd26 ct26) | 51 => (PySem.W.fnOf "__init__" "NoBounds.__init__" (defArgs s_BI) (defBody s_BI) (defScope s_BI) .none kVI dcI pmI anI cdI ctI) | _ => (PySem.W.fnOf "law" "law" (defArgs s_law) (defBody s_law) (defScope s_law) .none kV24 dc24 pm24 an24 cd24 ct24)
  have T : Txt K mg a d := ⟨PySem.W.mg_of X G a0, F0, b0, PySem.W.mg_of X G a1, F1, b1, PySem.W.mg_of X G a2, F2, b2, PySem.W.mg_of X G a3, F3, b3, PySem.W.mg_of X G a4, F4, b4, PySem.W.mg_of X G a5, F5, b5, PySem.W.mg_of X G a6, F6, b6, PySem.W.mg_of X G a7, F7, b7, PySem.W.mg_of X G a8, F8, b8, F9, c'9, b9, ⟨mk, a9, i9, kc⟩, F10, b10, ⟨a10, i10, k10⟩, F11, b11, ⟨a11, i11, k11⟩, F12, c'12, b12, ⟨a12, i12, k12⟩, F13, b13, ⟨a13, i13, k13⟩, F14, b14, ⟨a14, i14, k14⟩, F15, b15, ⟨a15, i15, k15⟩, PySem.W.mg_of X G a16, F16, b16, PySem.W.mg_of X G a17, F17, b17, PySem.W.mg_of X G a18, F18, b18, PySem.W.mg_of X G a19, F19, b19, PySem.W.mg_of X G a20, F20, b20, PySem.W.mg_of X G a21, F21, b21, PySem.W.mg_of X G a22, F22, b22, PySem.W.mg_of X G a23, F23, b23, PySem.W.mg_of X G a24, F24, b24, PySem.W.mg_of X G a25, F25, b25, PySem.W.mg_of X G a26, F26, b26, PySem.W.mg_of X G aC, ⟨pg, hd, po, sa⟩, nf_most_drift, nf_stands, nf_counted, PySem.W.mg_of X G g28, fun H => .inr ⟨_, _, _, l28, rfl, rfl, (by show 2 ≤ sizeLine; decide), (.cons ⟨_, rfl⟩ (.cons ⟨_, rfl⟩ .nil))⟩, ⟨_, PySem.W.mg_of X G g29⟩, PySem.W.mg_of X G g30, fun H => .inr ⟨_, _, _, l30, rfl, rfl, (by show 2 ≤ sizeLine; decide), (.cons ⟨_, rfl⟩ (.cons ⟨_, rfl⟩ .nil))⟩, PySem.W.mg_none_of X G z_max, PySem.W.mg_none_of X G z_min, PySem.W.mg_none_of X G z_len, PySem.W.mg_none_of X G z_int, PySem.W.mg_none_of X G z_range, PySem.W.mg_none_of X G z_isinstance, PySem.W.mg_none_of X G z_bool, PySem.W.mg_none_of X G z_tuple, PySem.W.mg_none_of X G z_all, PySem.W.mg_of X G aN, ⟨⟨nm, q, N, bs, _, sn, sub, ab, col, dd, x0, x1, x2, x3, x5, xN, rfl⟩, saN, exN, tyN, kN⟩, iNN, tIN, nLN, nHN, exm_self exN icN tyN ssN, ⟨gaN, ggN, exN, hdN⟩, FI, bI, a15, i15, j1, j2, j3, j4, kit_self⟩
  exact ⟨(PySem.W.fnOf "law" "law" (defArgs s_law) (defBody s_law) (defScope s_law) .none kV24 dc24 pm24 an24 cd24 ct24), fun s v => .of_eq rfl, fun base _ _ => ok_law T⟩
theorem walk {l : PySem.W.OpenLaw} {q : Program} {loose : List Str} {XP : (Str → Option Value) → Heap → Prop} {YP : World → Heap → Prop} {d : DefRec} {K : Params → PySem.W.Frag} (hn : l.most = some 63) (hdf : d.params.defaults = [])
    (hY : ∀ (w : World) (h : Heap), YP w h → (K w.params).In h)
    (F : ∀ (w : World) (mg : Str → Option Value) (fa : Addr) (h : Heap), (K w.params).In h → h.Ns mainGlobals mg → mg d.name = some (.ref fa) →
      ∃ fd : FuncData, (∀ (s : Shared) (u : Value), BindsTo s fd ⟨[u], []⟩ [("_law_script", u)]) ∧ ∀ base : Heap, (K w.params).In base → base.Ns mainGlobals mg → FnOk l.prog w (K w.params) mg base CX0 9 fa fd ["_law_script"] (spLaw (K w.params))) :
    PySem.W.WalkO q loose XP YP l.row.toRowW d [] (fun f vs => PySem.call f vs) :=
  L2.walk_of (n := 63) (k := 9) (x := "_law_script") (CX := fun _ => CX0) (sp := fun w => (spLaw (K w.params))) hn (by decide) hdf ⟨rfl, by decide, by decide⟩ hY F (fun _ _ a ns hl _ hS => ⟨a, ns, rfl, hS, hl, fun _ => rfl⟩) fun _ _ _ _ _ z => z
end M

open PySem PySem.W PyProof.Rows in
set_option maxRecDepth 100000 in
set_option maxHeartbeats 0 in
theorem PySem.Challenge.cw_stampedwait_k07_clocks_set_anew_holds : PySem.Challenge.rw_stampedwait_k07_clocks_set_anew.Holds := by
  w_on; o_law; k_head; (case hw => w_witness2)
  k_fill
  refine M.walk (l := PySem.Challenge.rw_stampedwait_k07_clocks_set_anew) rfl rfl (fun w h Y => PySem.W.kIn_of Y) ?F
  case F =>
    intro w mg fa h KX G hmg
    refine' M.all_mk KX G hmg ?g28 ?l28 ?g29 ?g30 ?l30 ?aC ?pg ?hd ?po ?sa ?mk ?kc ?nf_most_drift ?nf_stands ?nf_counted ?a0 ?l0 ?c0 ?k0 ?a1 ?l1 ?c1 ?k1 ?a2 ?l2 ?c2 ?k2 ?a3 ?l3 ?c3 ?k3 ?a4 ?l4 ?c4 ?k4 ?a5 ?l5 ?c5 ?k5 ?a6 ?l6 ?c6 ?k6 ?a7 ?l7 ?c7 ?k7 ?a8 ?l8 ?c8 ?k8 ?a9 ?i9 ?l9 ?c9 ?k9 ?lT9 ?a10 ?i10 ?l10 ?c10 ?k10 ?a11 ?i11 ?l11 ?c11 ?k11 ?a12 ?i12 ?l12 ?c12 ?k12 ?lT12 ?a13 ?i13 ?l13 ?c13 ?k13 ?a14 ?i14 ?l14 ?c14 ?k14 ?a15 ?i15 ?l15 ?c15 ?k15 ?a16 ?l16 ?c16 ?k16 ?a17 ?l17 ?c17 ?k17 ?a18 ?l18 ?c18 ?k18 ?a19 ?l19 ?c19 ?k19 ?a20 ?l20 ?c20 ?k20 ?a21 ?l21 ?c21 ?k21 ?a22 ?l22 ?c22 ?k22 ?a23 ?l23 ?c23 ?k23 ?a24 ?l24 ?c24 ?k24 ?a25 ?l25 ?c25 ?k25 ?a26 ?l26 ?c26 ?k26 ?z_max ?z_min ?z_len ?z_int ?z_range ?z_isinstance ?z_bool ?z_tuple ?z_all ?aN ?xN ?saN ?exN ?tyN ?kN ?iNN ?tIN ?nLN ?nHN ?icN ?ssN ?gaN ?ggN ?hdN ?lI ?cI ?kI ?j1 ?j2 ?j3 ?j4
    (case g28 => k_is)
    (case l28 => k_is)
    (case g29 => k_is)
    (case g30 => k_is)
    (case l30 => k_is)
    (case aC => k_is)
    (case pg => k_is)
    (case hd => k_is)
    (case po => k_is)
    (case sa => k_is)
    (case mk => k_is)
    (case kc => k_is)
    (case nf_most_drift => k_is)
    (case nf_stands => k_is)
    (case nf_counted => k_is)
    (case a0 => k_is)
    (case l0 => k_is)
    (case c0 => k_is)
    (case k0 => k_is)
    (case a1 => k_is)
    (case l1 => k_is)
    (case c1 => k_is)
    (case k1 => k_is)
    (case a2 => k_is)
    (case l2 => k_is)
    (case c2 => k_is)
    (case k2 => k_is)
    (case a3 => k_is)
    (case l3 => k_is)
    (case c3 => k_is)
    (case k3 => k_is)
    (case a4 => k_is)
    (case l4 => k_is)
    (case c4 => k_is)
    (case k4 => k_is)
    (case a5 => k_is)
    (case l5 => k_is)
    (case c5 => k_is)
    (case k5 => k_is)
    (case a6 => k_is)
    (case l6 => k_is)
    (case c6 => k_is)
    (case k6 => k_is)
    (case a7 => k_is)
    (case l7 => k_is)
    (case c7 => k_is)
    (case k7 => k_is)
    (case a8 => k_is)
    (case l8 => k_is)
    (case c8 => k_is)
    (case k8 => k_is)
    (case a9 => k_is)
    (case i9 => k_is)
    (case l9 => k_is)
    (case c9 => k_is)
    (case k9 => k_is)
    (case lT9 => k_is)
    (case a10 => k_is)
    (case i10 => k_is)
    (case l10 => k_is)
    (case c10 => k_is)
    (case k10 => k_is)
    (case a11 => k_is)
    (case i11 => k_is)
    (case l11 => k_is)
    (case c11 => k_is)
    (case k11 => k_is)
    (case a12 => k_is)
    (case i12 => k_is)
    (case l12 => k_is)
    (case c12 => k_is)
    (case k12 => k_is)
    (case lT12 => k_is)
    (case a13 => k_is)
    (case i13 => k_is)
    (case l13 => k_is)
    (case c13 => k_is)
    (case k13 => k_is)
    (case a14 => k_is)
    (case i14 => k_is)
    (case l14 => k_is)
    (case c14 => k_is)
    (case k14 => k_is)
    (case a15 => k_is)
    (case i15 => k_is)
    (case l15 => k_is)
    (case c15 => k_is)
    (case k15 => k_is)
    (case a16 => k_is)
    (case l16 => k_is)
    (case c16 => k_is)
    (case k16 => k_is)
    (case a17 => k_is)
    (case l17 => k_is)
    (case c17 => k_is)
    (case k17 => k_is)
    (case a18 => k_is)
    (case l18 => k_is)
    (case c18 => k_is)
    (case k18 => k_is)
    (case a19 => k_is)
    (case l19 => k_is)
    (case c19 => k_is)
    (case k19 => k_is)
    (case a20 => k_is)
    (case l20 => k_is)
    (case c20 => k_is)
    (case k20 => k_is)
    (case a21 => k_is)
    (case l21 => k_is)
    (case c21 => k_is)
    (case k21 => k_is)
    (case a22 => k_is)
    (case l22 => k_is)
    (case c22 => k_is)
    (case k22 => k_is)
    (case a23 => k_is)
    (case l23 => k_is)
    (case c23 => k_is)
    (case k23 => k_is)
    (case a24 => k_is)
    (case l24 => k_is)
    (case c24 => k_is)
    (case k24 => k_is)
    (case a25 => k_is)
    (case l25 => k_is)
    (case c25 => k_is)
    (case k25 => k_is)
    (case a26 => k_is)
    (case l26 => k_is)
    (case c26 => k_is)
    (case k26 => k_is)
    (case z_max => k_is)
    (case z_min => k_is)
    (case z_len => k_is)
    (case z_int => k_is)
    (case z_range => k_is)
    (case z_isinstance => k_is)
    (case z_bool => k_is)
    (case z_tuple => k_is)
    (case z_all => k_is)
    (case aN => k_is)
    (case xN => k_is)
    (case saN => k_is)
    (case exN => k_is)
    (case tyN => k_is)
    (case kN => k_is)
    (case iNN => k_is)
    (case tIN => k_is)
    (case nLN => k_is)
    (case nHN => k_is)
    (case icN => k_is)
    (case ssN => first | rfl | k_is)
    (case gaN => k_is)
    (case ggN => k_is)
    (case hdN => k_is)
    (case lI => k_is)
    (case cI => k_is)
    (case kI => k_is)
    (case j1 => k_is)
    (case j2 => k_is)
    (case j3 => k_is)
    (case j4 => k_is)
