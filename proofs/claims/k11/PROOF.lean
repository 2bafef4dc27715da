import PyProof.Rows.All
import Wide.All
import OpenK.AllK
import Wide.FinOn
import HandS.ForMost
import HandS.Wide
import HandS.IsInst
import HandS.Defaults
import PyProof.InstNe
import PySem.Challenge.RW_stampedwait_k11_whole_counted_at_once_or
set_option Elab.async false
set_option linter.all false
set_option maxRecDepth 100000
set_option maxHeartbeats 4000000
namespace M
open PySem L2


section
open PySem PySem.Spec PyProof.Rows L2
variable {X : Cx} {ea eb ec ed : Expr} {ta tb tc td : TE} {pos : Pos}
/-- three comparisons in a row -/
def tChain3 (r r' r'' : R2) (ta tb tc td : TE) : TE := fun σ H Q => ta σ H fun x H1 => tb σ H1 fun y H2 => r x y H2 fun z H3 => ∃ k, z = .bl k ∧
  (if k = true then tc σ H3 fun u H4 => r' y u H4 fun z2 H5 => ∃ k2, z2 = .bl k2 ∧ (if k2 = true then td σ H5 fun v H6 => r'' u v H6 Q else Q (.bl false) H5) else Q (.bl false) H3)
theorem pt_chain3 {op op' op'' : CmpOp} {r r' r'' : R2} (ho : OpR X (compareOp op) r) (ho' : OpR X (compareOp op') r') (ho'' : OpR X (compareOp op'') r'') (ha : PE X ea ta) (hb : PE X eb tb) (hc : PE X ec tc) (hd : PE X ed td)
    (hm : lastMarks [op, op', op''] [eb, ec, ed] = false := by with_unfolding_all rfl) : PT X (.Compare ea [op, op', op''] [eb, ec, ed] pos) (tTest (tChain3 r r' r'' ta tb tc td)) := by
  refine ⟨fun pins s σ H Q I h => ?_⟩
  refine isTrue_chain (thn (ha.run pins s σ H _ I h) fun v s1 ⟨x, H1, I1, r1, q1⟩ => test_link (thn (hb.run pins s1 σ H1 _ I1 q1) fun u s2 ⟨y, H2, I2, r2, q2⟩ =>
    thn (ho pins s2 σ H2 x y v u _ I2 r1 r2 q2) fun d s3 ⟨z, H3, I3, r3, k, e, q3⟩ => ?_)) hm
  subst e
  cases r3
  refine wpAny_truthy_bool ?_
  cases k with
  | false =>
    obtain ⟨k', e', q'⟩ := q3
    cases e'
    exact ite_ff ⟨H3, I3, q'⟩
  | true =>
    refine ite_tt (test_link (thn (hc.run pins s3 σ H3 _ I3 q3) fun w' s4 ⟨z', H4, I4, r4, q4⟩ => thn (ho' pins s4 σ H4 y z' u w' _ I4 r2 r4 q4) fun d' s5 ⟨z2, H5, I5, r5, k2, e2, q5⟩ => ?_))
    subst e2
    cases r5
    refine wpAny_truthy_bool ?_
    cases k2 with
    | false =>
      obtain ⟨k', e', q'⟩ := q5
      cases e'
      exact ite_ff ⟨H5, I5, q'⟩
    | true =>
      refine ite_tt (test_last (thn (hd.run pins s5 σ H5 _ I5 q5) fun v' s6 ⟨z3, H6, I6, r6, q6⟩ => thn (ho'' pins s6 σ H6 z' z3 w' v' _ I6 r4 r6 q6) fun d'' s7 ⟨z4, H7, I7, r7, k3, e3, q7⟩ => ?_))
      subst e3
      cases r7
      exact wpAny_truthy_bool ⟨H7, I7, q7⟩
end
section
open PySem PySem.Spec PyProof.Rows L2
/-- a name of a written namespace -/
theorem ns_some {K : PySem.W.Frag} {h : Heap} {N : Addr} {m : Str → Option Value} {x : Str} {v : Value} (X : K.In h) (G : h.Ns N m) (e : PySem.W.nsIn K N x = some (some v)) : m x = some v := by
  obtain ⟨o, es, ep, ho, hd, _, hf⟩ := G
  unfold PySem.W.nsIn at e
  split at e
  · rename_i hk
    have z := X _ _ hk
    rw [ho] at z
    cases z
    cases hd
    split at e
    · rename_i en hen
      cases e
      rw [← hf x]
      unfold nsFind findBy
      first
        | (rw [hen]; rfl)
        | (rw [← Array.find?_toList, hen]; rfl)
        | (rw [← Array.find?_toList] at hen; rw [hen]; rfl)
        | simp [hen]
    · split at e <;> cases e
  · cases e
/-- x != y by an own == -/
theorem op_neOwn {X : Cx} {CX : CXT} {n : Nat} {C f N : Addr} {fd : FuncData} {ps : List Str} {sp : Sp} {E : XK} {of : Obj} (F : FnOk X.prog X.w X.K X.mg X.base CX n f fd ps sp) (hr : Room (n + 1) X.A)
    (cls : ∃ nm q bs hdct sn sub ab col dd k0 k1 k2 k3 k5 newId, X.K.lookup C = some (excClassObj nm q C N bs [.type "object"] hdct sn sub ab col dd k0 k1 k2 k3 k5 newId)) (ok : PySem.W.nsOkIn X.K N = true)
    (he : PySem.W.nsIn X.K N "__eq__" = some (some (.ref f))) (hn : PySem.W.nsIn X.K N "__ne__" = some none) (lf : X.K.lookup f = some of) (tf : of.cls = .type "function") (hb : Binds X.K fd ps []) (hx : Passes CX X E) :
    OpR X (compareOp .NotEq) (fun x y H Q => ∃ (a b dx dy : Addr) (fs gs : List (Str × V)), x = .ref a ∧ y = .ref b ∧ H a = some (.ins C dx fs) ∧ H b = some (.ins C dy gs) ∧ sp [.ref a, .ref b] H (fun v H' => ∃ c, v = .bl c ∧ Q (.bl (!c)) H') E) := by
  intro pins s σ H x y v u Q I rx ry h
  obtain ⟨a, b, dx, dy, fs, gs, rfl, rfl, ha, hb', hsp⟩ := h
  cases rx
  cases ry
  obtain ⟨nm, q, bs, hdct, sn, sub, ab, col, dd, k0, k1, k2, k3, k5, newId, hC⟩ := cls
  obtain ⟨mA, J, _⟩ := ins_get I.hok ha
  obtain ⟨mB, J', _⟩ := ins_get I.hok hb'
  obtain ⟨oa, e1, e2⟩ : ∃ o, s.heap.get? a = some o ∧ o.cls = .ref C := ⟨_, J.obj, rfl⟩
  obtain ⟨ob, e3, e4⟩ : ∃ o, s.heap.get? b = some o ∧ o.cls = .ref C := ⟨_, J'.obj, rfl⟩
  have hl := F.len _ _ _ _ hsp
  have kin := I.kIn
  have NS : s.heap.Ns N (s.heap.nsMap N) := .of_isNs (PySem.W.isNs_of_in kin ok)
  have Y : s.heap.OwnEqNoNe a C f "object" [.type "object"] :=
    ⟨oa, of, nm, q, N, bs, hdct, sn, sub, ab, col, dd, k0, k1, k2, k3, k5, newId, s.heap.nsMap N, some (.builtin "object.__eq__"), e1, e2, kin _ _ hC, NS, ns_some kin NS he, kin _ _ lf, tf, PySem.F.mro_object, by kernel_rfl, PySem.W.ns_none_of kin NS hn⟩
  have bd := hb s [.ref a, .ref b] kin (by simpa using hl)
  rw [List.append_nil] at bd
  have run := F.run X.A.in1 X.stack s H ⟨[.ref a, .ref b], []⟩ [.ref a, .ref b] [.ref a, .ref b] _ E hr.in1 I.env0.in1 bd (.cons rfl (.cons rfl .nil)) hsp
  have un : X.A.units + 1 < cLine := hu_of hr
  obtain ⟨hh, g, d, tk, os⟩ := s
  refine compareOp_ne_ownEq PySem.F.cmp_object Y e3 e4 un (wpAny_call (codeAny_mono run ?_))
  intro r s' hq
  cases r with
  | error e => exact hx pins σ H _ e s' I hq
  | ok fl =>
    cases fl with
    | ret z =>
      obtain ⟨w, H', I', rw', c, rfl, q'⟩ := I.after hq
      cases rw'
      exact ⟨c, rfl, .bl (!c), H', I', rfl, q'⟩
    | next => exact False.elim hq
    | brk => exact False.elim hq
    | cont => exact False.elim hq
end

def top (i : Nat) : Stmt := PySem.Challenge.pw_stampedwait_k11_whole_counted_at_once_or.main.body.getD i (.Pass ⟨0, 0, 0, 0⟩)
abbrev s_is_whole : Stmt := top 10
abbrev s_is_count : Stmt := top 11
abbrev s_is_from_to : Stmt := top 12
abbrev s_common_divisor : Stmt := top 13
abbrev s_is_share : Stmt := top 14
abbrev s_is_drift : Stmt := top 15
abbrev s_refuse_no_count : Stmt := top 16
abbrev s_least_of : Stmt := top 17
abbrev s_most_of : Stmt := top 18
abbrev s_Clock___init__ : Stmt := inClass (top 23) 0
abbrev s_Clock_is_set : Stmt := inClass (top 23) 2
abbrev s_Clock_set_to : Stmt := inClass (top 23) 3
abbrev s_Clock_tick : Stmt := inClass (top 23) 4
abbrev s_Clock_bounds : Stmt := inClass (top 23) 5
abbrev s_Clock___eq__ : Stmt := inClass (top 23) 9
abbrev s_l_bag : Stmt := top 25
abbrev s_l_out : Stmt := top 26
abbrev s_l_drift : Stmt := top 27
abbrev s_l_less : Stmt := top 28
abbrev s_law : Stmt := top 29
abbrev s_bounds_behind : Stmt := top 21
abbrev s_set_between : Stmt := top 22
theorem sc_is_whole : FnScope ["thing"] ["thing"] (defScope s_is_whole) := ⟨rfl, rfl, rfl, by decide +kernel, rfl, by decide +kernel, by decide +kernel⟩
theorem sc_is_count : FnScope ["thing"] ["thing"] (defScope s_is_count) := ⟨rfl, rfl, rfl, by decide +kernel, rfl, by decide +kernel, by decide +kernel⟩
theorem sc_is_from_to : FnScope ["thing", "least", "most"] ["thing", "least", "most"] (defScope s_is_from_to) := ⟨rfl, rfl, rfl, by decide +kernel, rfl, by decide +kernel, by decide +kernel⟩
theorem sc_common_divisor : FnScope ["first", "second"] ["first", "second"] (defScope s_common_divisor) := ⟨rfl, rfl, rfl, by decide +kernel, rfl, by decide +kernel, by decide +kernel⟩
theorem sc_is_share : FnScope ["thing", "top", "bottom"] ["thing"] (defScope s_is_share) := ⟨rfl, rfl, rfl, by decide +kernel, rfl, by decide +kernel, by decide +kernel⟩
theorem sc_is_drift : FnScope ["thing"] ["thing"] (defScope s_is_drift) := ⟨rfl, rfl, rfl, by decide +kernel, rfl, by decide +kernel, by decide +kernel⟩
theorem sc_refuse_no_count : FnScope ["thing"] ["thing"] (defScope s_refuse_no_count) := ⟨rfl, rfl, rfl, by decide +kernel, rfl, by decide +kernel, by decide +kernel⟩
theorem sc_least_of : FnScope ["ticks", "drift", "top", "bottom"] ["ticks", "drift"] (defScope s_least_of) := ⟨rfl, rfl, rfl, by decide +kernel, rfl, by decide +kernel, by decide +kernel⟩
theorem sc_most_of : FnScope ["ticks", "drift", "top", "bottom"] ["ticks", "drift"] (defScope s_most_of) := ⟨rfl, rfl, rfl, by decide +kernel, rfl, by decide +kernel, by decide +kernel⟩
theorem sc_Clock___init__ : FnScope ["self", "drift"] ["self", "drift"] (defScope s_Clock___init__) := ⟨rfl, rfl, rfl, by decide +kernel, rfl, by decide +kernel, by decide +kernel⟩
theorem sc_Clock_is_set : FnScope ["self"] ["self"] (defScope s_Clock_is_set) := ⟨rfl, rfl, rfl, by decide +kernel, rfl, by decide +kernel, by decide +kernel⟩
theorem sc_Clock_set_to : FnScope ["self", "low", "high", "told"] ["self", "low", "high"] (defScope s_Clock_set_to) := ⟨rfl, rfl, rfl, by decide +kernel, rfl, by decide +kernel, by decide +kernel⟩
theorem sc_Clock_tick : FnScope ["self", "many"] ["self", "many"] (defScope s_Clock_tick) := ⟨rfl, rfl, rfl, by decide +kernel, rfl, by decide +kernel, by decide +kernel⟩
theorem sc_Clock_bounds : FnScope ["self"] ["self"] (defScope s_Clock_bounds) := ⟨rfl, rfl, rfl, by decide +kernel, rfl, by decide +kernel, by decide +kernel⟩
theorem sc_Clock___eq__ : FnScope ["self", "other"] ["self", "other"] (defScope s_Clock___eq__) := ⟨rfl, rfl, rfl, by decide +kernel, rfl, by decide +kernel, by decide +kernel⟩
theorem sc_l_bag : FnScope ["_law_script", "_law_k", "_law_cell", "_law_great"] ["_law_script", "_law_k"] (defScope s_l_bag) := ⟨rfl, rfl, rfl, by decide +kernel, rfl, by decide +kernel, by decide +kernel⟩
theorem sc_l_out : FnScope ["_law_bag_here", "_law_many", "_law_found"] ["_law_bag_here", "_law_many"] (defScope s_l_out) := ⟨rfl, rfl, rfl, by decide +kernel, rfl, by decide +kernel, by decide +kernel⟩
theorem sc_l_drift : FnScope ["_law_bag_here", "_law_bottom", "_law_top", "_law_one", "_law_other"] ["_law_bag_here"] (defScope s_l_drift) := ⟨rfl, rfl, rfl, by decide +kernel, rfl, by decide +kernel, by decide +kernel⟩
theorem sc_l_less : FnScope ["_law_bag_here", "_law_drift_here", "_law_top", "_law_one", "_law_other"] ["_law_bag_here", "_law_drift_here"] (defScope s_l_less) := ⟨rfl, rfl, rfl, by decide +kernel, rfl, by decide +kernel, by decide +kernel⟩
theorem sc_law : FnScope ["_law_script", "_law_k", "_law_bag_here", "_law_drift_here", "_law_some", "_law_low", "_law_high", "_law_clock", "_law_parts", "_law_last", "_law_part", "_law_now", "_law_within", "_law_turn"] ["_law_script"] (defScope s_law) := ⟨rfl, rfl, rfl, by decide +kernel, rfl, by decide +kernel, by decide +kernel⟩
theorem sc_bounds_behind : FnScope ["stands", "counted", "drift"] ["stands", "counted", "drift"] (defScope s_bounds_behind) := ⟨rfl, rfl, rfl, by decide +kernel, rfl, by decide +kernel, by decide +kernel⟩
theorem sc_set_between : FnScope ["told", "low", "high", "least", "most"] ["told", "low", "high"] (defScope s_set_between) := ⟨rfl, rfl, rfl, by decide +kernel, rfl, by decide +kernel, by decide +kernel⟩
/-- what the top has written -/
structure Txt (K : PySem.W.Frag) (mg : Str → Option Value) (a : Nat → Addr) (d : Nat → FuncData) : Prop where
  g_is_whole : mg "is_whole" = some (.ref (a 0))
  F_is_whole : Fun K "is_whole" "is_whole" s_is_whole (a 0) (d 0)
  b_is_whole : Binds K (d 0) ["thing"] []
  g_is_count : mg "is_count" = some (.ref (a 1))
  F_is_count : Fun K "is_count" "is_count" s_is_count (a 1) (d 1)
  b_is_count : Binds K (d 1) ["thing"] []
  g_is_from_to : mg "is_from_to" = some (.ref (a 2))
  F_is_from_to : Fun K "is_from_to" "is_from_to" s_is_from_to (a 2) (d 2)
  b_is_from_to : Binds K (d 2) ["thing", "least", "most"] []
  g_common_divisor : mg "common_divisor" = some (.ref (a 3))
  F_common_divisor : Fun K "common_divisor" "common_divisor" s_common_divisor (a 3) (d 3)
  b_common_divisor : Binds K (d 3) ["first", "second"] []
  g_is_share : mg "is_share" = some (.ref (a 4))
  F_is_share : Fun K "is_share" "is_share" s_is_share (a 4) (d 4)
  b_is_share : Binds K (d 4) ["thing"] []
  g_is_drift : mg "is_drift" = some (.ref (a 5))
  F_is_drift : Fun K "is_drift" "is_drift" s_is_drift (a 5) (d 5)
  b_is_drift : Binds K (d 5) ["thing"] []
  g_refuse_no_count : mg "refuse_no_count" = some (.ref (a 6))
  F_refuse_no_count : Fun K "refuse_no_count" "refuse_no_count" s_refuse_no_count (a 6) (d 6)
  b_refuse_no_count : Binds K (d 6) ["thing"] []
  g_least_of : mg "least_of" = some (.ref (a 7))
  F_least_of : Fun K "least_of" "least_of" s_least_of (a 7) (d 7)
  b_least_of : Binds K (d 7) ["ticks", "drift"] []
  g_most_of : mg "most_of" = some (.ref (a 8))
  F_most_of : Fun K "most_of" "most_of" s_most_of (a 8) (d 8)
  b_most_of : Binds K (d 8) ["ticks", "drift"] []
  F_Clock___init__ : FunD K "__init__" "Clock.__init__" (defArgs s_Clock___init__) (defBody s_Clock___init__) (defScope s_Clock___init__) [.ref (a 25)] [] (a 9) (d 9)
  c_Clock___init__ : ∃ ds, Vals [.ref (a 25)] ds ∧ Binds K (d 9) ["self", "drift"] ds
  b_Clock___init__ : Binds K (d 9) ["self", "drift"] []
  m_Clock___init__ : Mk K (a 22) (a 9)
  F_Clock_is_set : Fun K "is_set" "Clock.is_set" s_Clock_is_set (a 10) (d 10)
  b_Clock_is_set : Binds K (d 10) ["self"] []
  m_Clock_is_set : Meth K (a 22) "is_set" (a 10)
  F_Clock_set_to : Fun K "set_to" "Clock.set_to" s_Clock_set_to (a 11) (d 11)
  b_Clock_set_to : Binds K (d 11) ["self", "low", "high"] []
  m_Clock_set_to : Meth K (a 22) "set_to" (a 11)
  F_Clock_tick : FunD K "tick" "Clock.tick" (defArgs s_Clock_tick) (defBody s_Clock_tick) (defScope s_Clock_tick) [.int 1] [] (a 12) (d 12)
  c_Clock_tick : ∃ ds, Vals [.int 1] ds ∧ Binds K (d 12) ["self", "many"] ds
  b_Clock_tick : Binds K (d 12) ["self", "many"] []
  m_Clock_tick : Meth K (a 22) "tick" (a 12)
  F_Clock_bounds : Fun K "bounds" "Clock.bounds" s_Clock_bounds (a 13) (d 13)
  b_Clock_bounds : Binds K (d 13) ["self"] []
  m_Clock_bounds : Meth K (a 22) "bounds" (a 13)
  F_Clock___eq__ : Fun K "__eq__" "Clock.__eq__" s_Clock___eq__ (a 14) (d 14)
  b_Clock___eq__ : Binds K (d 14) ["self", "other"] []
  m_Clock___eq__ : Meth K (a 22) "__eq__" (a 14)
  g_l_bag : mg "_law_bag" = some (.ref (a 15))
  F_l_bag : Fun K "_law_bag" "_law_bag" s_l_bag (a 15) (d 15)
  b_l_bag : Binds K (d 15) ["_law_script", "_law_k"] []
  g_l_out : mg "_law_out" = some (.ref (a 16))
  F_l_out : Fun K "_law_out" "_law_out" s_l_out (a 16) (d 16)
  b_l_out : Binds K (d 16) ["_law_bag_here", "_law_many"] []
  g_l_drift : mg "_law_drift" = some (.ref (a 17))
  F_l_drift : Fun K "_law_drift" "_law_drift" s_l_drift (a 17) (d 17)
  b_l_drift : Binds K (d 17) ["_law_bag_here"] []
  g_l_less : mg "_law_less" = some (.ref (a 18))
  F_l_less : Fun K "_law_less" "_law_less" s_l_less (a 18) (d 18)
  b_l_less : Binds K (d 18) ["_law_bag_here", "_law_drift_here"] []
  g_law : mg "law" = some (.ref (a 19))
  F_law : Fun K "law" "law" s_law (a 19) (d 19)
  b_law : Binds K (d 19) ["_law_script"] []
  g_bounds_behind : mg "bounds_behind" = some (.ref (a 20))
  F_bounds_behind : Fun K "bounds_behind" "bounds_behind" s_bounds_behind (a 20) (d 20)
  b_bounds_behind : Binds K (d 20) ["stands", "counted", "drift"] []
  g_set_between : mg "set_between" = some (.ref (a 21))
  F_set_between : Fun K "set_between" "set_between" s_set_between (a 21) (d 21)
  b_set_between : Binds K (d 21) ["told", "low", "high"] []
  g_Clock : mg "Clock" = some (.ref (a 22))
  cl : Cls K (a 22)
  n_most_drift : NoAttr K (a 22) "most_drift"
  n_stands : NoAttr K (a 22) "stands"
  n_counted : NoAttr K (a 22) "counted"
  g_WHOLE : mg "WHOLE" = some (.ref (a 23))
  k_WHOLE : ∀ H : Hp, SqT K H (a 23) [V.int 1, V.int 1]
  g_MOST_BOTTOM : ∃ t, mg "MOST_BOTTOM" = some (.int 1000 t)
  g_DRIFT : mg "DRIFT" = some (.ref (a 25))
  k_DRIFT : ∀ H : Hp, SqT K H (a 25) [V.int 1, V.int 100]
  z_max : mg "max" = none
  z_min : mg "min" = none
  z_len : mg "len" = none
  z_int : mg "int" = none
  z_range : mg "range" = none
  z_isinstance : mg "isinstance" = none
  z_bool : mg "bool" = none
  z_tuple : mg "tuple" = none
  z_all : mg "all" = none
  z_sum : mg "sum" = none
  cls : ∃ nm q bs hdct sn sub ab col dd k0 k1 k2 k3 k5 newId, K.lookup (a 22) = some (excClassObj nm q (a 22) (a 60) bs [.type "object"] hdct sn sub ab col dd k0 k1 k2 k3 k5 newId)
  nok : PySem.W.nsOkIn K (a 60) = true
  neq : PySem.W.nsIn K (a 60) "__eq__" = some (some (.ref (a 14)))
  nne : PySem.W.nsIn K (a 60) "__ne__" = some none
  leq : ∃ of, K.lookup (a 14) = some of ∧ of.cls = .type "function"
  i1 : PySem.W.findIn K (.ref (a 22)) "__class__" = some (some (.builtin "object.__class__"))
  i2 : PySem.W.specialIn K (.builtin "object.__class__") "__get__" = some (some (.builtin "getset_descriptor.__get__"))
  i3 : PySem.W.takesIn K (.builtin "object.__class__") = some true
  i4 : PySem.W.mroIn K (a 22) (.type "object") = some true
  i5 : PySem.W.kitOne K (.ref (a 22)) (.ref (a 22)) = some true

theorem bl_of {Q : VK} {H : Hp} {c : Prop} [Decidable c] (h : c) (q : Q (.bl true) H) : Q (.bl (decide c)) H := by
  rw [decide_eq_true h]
  exact q
theorem bl_no {Q : VK} {H : Hp} {c : Prop} [Decidable c] (h : ¬ c) (q : Q (.bl false) H) : Q (.bl (decide c)) H := by
  rw [decide_eq_false h]
  exact q
theorem iteDT {c A B : Prop} [Decidable c] (h : c) (a : A) : if decide c = true then A else B := by
  rw [if_pos (decide_eq_true h)]
  exact a
theorem iteDF {c A B : Prop} [Decidable c] (h : ¬ c) (b : B) : if decide c = true then A else B := by
  rw [decide_eq_false h]
  exact iteF b
theorem iteND {c A B : Prop} [Decidable c] (h : ¬ c) (a : A) : if (!decide c) = true then A else B := by
  rw [decide_eq_false h]
  exact iteT a
theorem iteBT {c : Bool} {A B : Prop} (h : c = true) (a : A) : if c = true then A else B := by
  rw [if_pos h]
  exact a
theorem iteBF {c : Bool} {A B : Prop} (h : c = false) (b : B) : if c = true then A else B := by
  rw [h]
  exact iteF b
theorem len3 : 3 ≤ sizeLine := by decide
theorem len2 : 2 ≤ sizeLine := by decide
theorem len1 : 1 ≤ sizeLine := by decide
theorem m64 {i : Int} (a : -18446744073709551616 < i) (b : i < 18446744073709551616) : -(2 ^ 64) < i ∧ i < 2 ^ 64 := by
  have e : (2 : Int) ^ 64 = 18446744073709551616 := by decide
  rw [e]
  exact ⟨a, b⟩
theorem divW {i j : Int} (h : 0 < j) (hb : j ≤ 1000000000000000000000000000000) : CDivW i j := wide_div (b := 200) h (by
  have e : (j.natAbs : Int) = j := by omega
  have q : (j.natAbs : Int) < ((2 ^ 200 : Nat) : Int) := by rw [e]; exact Int.lt_of_le_of_lt hb (by decide)
  exact Int.ofNat_lt.mp q) (by decide) (by decide)
/-! ### heaps -/
/-- all that was tracked but x stands -/
def Fr (x : Addr) (H H' : Hp) : Prop := ∀ b o, b ≠ x → H b = some o → H' b = some o
theorem Fr.refl (x : Addr) (H : Hp) : Fr x H H := fun _ _ _ e => e
theorem Fr.trans {x : Addr} {H H1 H2 : Hp} (a : Fr x H H1) (b : Fr x H1 H2) : Fr x H H2 := fun c o n e => b c o n (a c o n e)
theorem fr_same {x : Addr} {H H' : Hp} (s : Same H H') : Fr x H H' := fun b o _ e => s b o e
theorem Fr.new {x p : Addr} {H H1 : Hp} {o : HO} (k : Fr x H H1) (hp : H1 p = none) : Fr x H (upd H1 p o) := fun b u n e => by
  rw [upd_ne (ne_of_none (k b u n e) hp)]
  exact k b u n e
theorem Fr.put {x : Addr} {H H1 : Hp} {o : HO} (k : Fr x H H1) : Fr x H (upd H1 x o) := fun b u n e => by
  rw [upd_ne n]
  exact k b u n e
theorem Fr.over {x : Addr} {H0 H H1 : Hp} (a : Same H0 H) (hx : H0 x = none) (k : Fr x H H1) : Same H0 H1 := fun b o e => k b o (ne_of_none e hx) (a b o e)
theorem same_new {H0 H : Hp} {p : Addr} {o : HO} (a : Same H0 H) (hp : H p = none) : Same H0 (upd H p o) := fun b u e => by
  rw [upd_ne (ne_of_none (a b u e) hp)]
  exact a b u e
/-- a thing that may be changed -/
def Mut : HO → Prop
  | .lst _ => True
  | .ins _ _ _ => True
  | _ => False
theorem Fr.tup {x p : Addr} {H H' : Hp} {o : HO} {xs : List V} (k : Fr x H H') (hx : H x = some o) (m : Mut o) (hp : H p = some (.tup xs)) : H' p = some (.tup xs) :=
  k p _ (ne_of hp hx (by intro e; subst e; exact m)) hp
theorem Fr.sqt {K : PySem.W.Frag} {x p : Addr} {H H' : Hp} {o : HO} {xs : List V} (k : Fr x H H') (hx : H x = some o) (m : Mut o) (h : SqT K H p xs) : SqT K H' p xs := by
  rcases h with (h | ⟨u, h⟩) | h
  · exact .inl (.inl (k p _ (ne_of h hx (by intro e; subst e; exact m)) h))
  · exact .inl (.inr ⟨u, k p _ (ne_of h hx (by intro e; subst e; exact m)) h⟩)
  · exact .inr h
theorem same_sqt {K : PySem.W.Frag} {p : Addr} {H H' : Hp} {xs : List V} (k : Same H H') (h : SqT K H p xs) : SqT K H' p xs := by
  rcases h with (h | ⟨u, h⟩) | h
  · exact .inl (.inl (k p _ h))
  · exact .inl (.inr ⟨u, k p _ h⟩)
  · exact .inr h
theorem sqt_ty {K : PySem.W.Frag} {H : Hp} {p : Addr} {xs : List V} (h : SqT K H p xs) : TyX K H (.ref p) (.type "tuple") := by
  rcases h with (h | ⟨u, h⟩) | ⟨o, its, n, h1, h2, _⟩
  · exact .base (.tup h)
  · exact .fTuple h
  · exact .kTuple h1 h2
/-! ### draws -/
def BagAt (H : Hp) (s : Addr) : Prop := ∃ a b : Int, H s = some (.lst [.int a, .int b]) ∧ 0 ≤ b ∧ b < 2147483647
theorem BagAt.ex {H : Hp} {s : Addr} (h : BagAt H s) : ∃ o, H s = some o ∧ Mut o := by
  obtain ⟨a, b, e, _⟩ := h
  exact ⟨_, e, trivial⟩
theorem BagAt.same {H H' : Hp} {s : Addr} (h : BagAt H s) (k : Same H H') : BagAt H' s := by
  obtain ⟨a, b, e, r⟩ := h
  exact ⟨a, b, k _ _ e, r⟩
theorem BagAt.new {H : Hp} {s p : Addr} {o : HO} (h : BagAt H s) (hp : H p = none) : BagAt (upd H p o) s := h.same (same_new (Same.refl H) hp)
theorem BagAt.ne_new {H : Hp} {s p : Addr} (h : BagAt H s) (hp : H p = none) : p ≠ s := by
  obtain ⟨a, b, e, _⟩ := h
  exact (ne_of_none e hp).symm
theorem BagAt.fr {H H' : Hp} {s x : Addr} (h : BagAt H s) (k : Fr x H H') (ne : s ≠ x) : BagAt H' s := by
  obtain ⟨a, b, e, r⟩ := h
  exact ⟨a, b, k _ _ ne e, r⟩
theorem BagAt.some_ {H : Hp} {s : Addr} (h : BagAt H s) : ∃ o, H s = some o := by
  obtain ⟨a, b, e, _⟩ := h
  exact ⟨_, e⟩
theorem BagAt.ne_none {H : Hp} {s p : Addr} (h : BagAt H s) (hp : H p = none) : s ≠ p := (h.ne_new hp).symm
theorem same_make {H : Hp} {x dx : Addr} {o1 o2 : HO} (nx : H x = none) (ndx : H dx = none) : Same H (upd (upd H dx o1) x o2) := fun b o e => by
  rw [upd_ne (ne_of_none e nx), upd_ne (ne_of_none e ndx)]
  exact e
def spBag (K : PySem.W.Frag) : Sp := fun vs H Q _ => ∃ (l : Addr) (ns : List Int) (k : Int), vs = [.ref l, .int k] ∧ SqL K H l (ns.map V.int) ∧ 0 ≤ k ∧ k ≤ 100 ∧ ∀ (p : Addr) (H' : Hp), H p = none → Same H H' → BagAt H' p → Q (.ref p) H'
def spOut : Sp := fun vs H Q _ => ∃ (s : Addr) (m : Int), vs = [.ref s, .int m] ∧ BagAt H s ∧ 0 < m ∧ m ≤ 1000000000000000000000000000000 ∧ ∀ (r : Int) (H' : Hp), 0 ≤ r → r < m → Fr s H H' → BagAt H' s → Q (.int r) H'
def DrOk (K : PySem.W.Frag) (H : Hp) (p : Addr) (t b : Int) : Prop := SqT K H p [.int t, .int b] ∧ 0 ≤ t ∧ t < b ∧ b ≤ 1000 ∧ Int.gcd t b = 1
theorem DrOk.same {K : PySem.W.Frag} {H H' : Hp} {p : Addr} {t b : Int} (h : DrOk K H p t b) (k : Same H H') : DrOk K H' p t b := ⟨same_sqt k h.1, h.2⟩
theorem DrOk.fr {K : PySem.W.Frag} {H H' : Hp} {p x : Addr} {o : HO} {t b : Int} (h : DrOk K H p t b) (k : Fr x H H') (hx : H x = some o) (m : Mut o) : DrOk K H' p t b := ⟨k.sqt hx m h.1, h.2⟩
theorem DrOk.bag {K : PySem.W.Frag} {H H' : Hp} {p s : Addr} {t b : Int} (h : DrOk K H p t b) (k : Fr s H H') (bs : BagAt H s) : DrOk K H' p t b := by
  obtain ⟨o, e, m⟩ := bs.ex
  exact h.fr k e m
def spLDrift (K : PySem.W.Frag) : Sp := fun vs H Q _ => ∃ s : Addr, vs = [.ref s] ∧ BagAt H s ∧ ∀ (t b : Int) (p : Addr) (H' : Hp), Fr s H H' → BagAt H' s → DrOk K H' p t b → H' p = some (.tup [.int t, .int b]) → Q (.ref p) H'
/-! ### numbers -/
theorem pos_of_mul {g x l : Int} (hg : 0 < g) (hl : 0 < l) (e : l = g * x) : 0 < x := by
  rcases Int.lt_or_le 0 x with h | h
  · exact h
  · have := Int.mul_nonpos_of_nonneg_of_nonpos (Int.le_of_lt hg) h
    omega
theorem nn_of_mul {g x l : Int} (hg : 0 < g) (hl : 0 ≤ l) (e : l = g * x) : 0 ≤ x := by
  rcases Int.lt_or_le x 0 with h | h
  · have := Int.mul_neg_of_pos_of_neg hg h
    omega
  · exact h
theorem le_of_gmul {g x l : Int} (hg : 0 < g) (hx : 0 ≤ x) (e : l = g * x) : x ≤ l := by
  have := Int.mul_le_mul_of_nonneg_right (show 1 ≤ g by omega) hx
  omega
theorem le_cancel {g x y : Int} (hg : 0 < g) (h : g * x ≤ g * y) : x ≤ y := Int.le_of_mul_le_mul_left h hg
theorem lt_cancel {g x y : Int} (hg : 0 < g) (h : g * x < g * y) : x < y := Int.lt_of_mul_lt_mul_left h (Int.le_of_lt hg)
theorem gcd_turn {h t : Int} (h0 : 0 ≤ h) (t0 : 0 < t) : Int.gcd t (h % t) = Int.gcd h t := by
  obtain ⟨a, rfl⟩ := Int.eq_ofNat_of_zero_le h0
  obtain ⟨b, rfl⟩ := Int.eq_ofNat_of_zero_le (Int.le_of_lt t0)
  show Nat.gcd b (a % b) = Nat.gcd a b
  rw [Nat.gcd_comm a b, Nat.gcd_rec b a, Nat.gcd_comm]
theorem low_end {u l h : Int} (u0 : 0 ≤ u) (l0 : 0 < l) (h0 : 0 ≤ h) (e : Int.gcd h 0 = Int.gcd u l) : 0 < h ∧ u = h * (u / h) ∧ l = h * (l / h) ∧ Int.gcd (u / h) (l / h) = 1 ∧ h ≤ l := by
  have e1 : (h : Int) = (Int.gcd u l : Nat) := by
    have : Int.gcd h 0 = h.natAbs := Int.gcd_zero_right h
    rw [this] at e
    omega
  have hp : 0 < Int.gcd u l := Int.gcd_pos_of_ne_zero_right u (by omega)
  have d1 : h ∣ u := by rw [e1]; exact Int.gcd_dvd_left u l
  have d2 : h ∣ l := by rw [e1]; exact Int.gcd_dvd_right u l
  have hp' : 0 < h := by omega
  refine ⟨hp', (Int.mul_ediv_cancel' d1).symm, (Int.mul_ediv_cancel' d2).symm, ?_, Int.le_of_dvd l0 d2⟩
  rw [e1]
  exact Int.gcd_ediv_gcd_ediv_gcd hp
def leastP (n t b : Int) : Int := -(-n * b / (b + t))
def mostP (n t b : Int) : Int := ((n + 1) * b - 1) / (b - t)
theorem least_le {n t b p : Int} (t0 : 0 ≤ t) (tb : t < b) (h : n * b ≤ p * (b + t)) : leastP n t b ≤ p := by
  unfold leastP
  have q4 : -p ≤ -n * b / (b + t) := (Int.le_ediv_iff_mul_le (by omega)).mpr (by
    have z1 : -p * (b + t) = -(p * (b + t)) := by grind
    have z2 : -n * b = -(n * b) := by grind
    rw [z1, z2]
    omega)
  omega
theorem least_ge {n t b : Int} (t0 : 0 ≤ t) (tb : t < b) : n * b ≤ leastP n t b * (b + t) := by
  unfold leastP
  have q := Int.ediv_mul_le (-n * b) (show b + t ≠ 0 by omega)
  have z2 : -n * b = -(n * b) := by grind
  have z3 : -(-n * b / (b + t)) * (b + t) = -(-n * b / (b + t) * (b + t)) := by grind
  rw [z3]
  omega
theorem le_most {n t b p : Int} (t0 : 0 ≤ t) (tb : t < b) (h : p * (b - t) < (n + 1) * b) : p ≤ mostP n t b := by
  unfold mostP
  exact (Int.le_ediv_iff_mul_le (by omega)).mpr (by omega)
theorem most_lt {n t b : Int} (t0 : 0 ≤ t) (tb : t < b) : mostP n t b * (b - t) < (n + 1) * b := by
  unfold mostP
  have q := Int.ediv_mul_le ((n + 1) * b - 1) (show b - t ≠ 0 by omega)
  omega
theorem least_mono {n m t b : Int} (t0 : 0 ≤ t) (tb : t < b) (h : n ≤ m) : leastP n t b ≤ leastP m t b :=
  least_le t0 tb (Int.le_trans (Int.mul_le_mul_of_nonneg_right h (by omega)) (least_ge t0 tb))
theorem most_mono {n m t b : Int} (t0 : 0 ≤ t) (tb : t < b) (h : n ≤ m) : mostP n t b ≤ mostP m t b :=
  le_most t0 tb (Int.lt_of_lt_of_le (most_lt t0 tb) (Int.mul_le_mul_of_nonneg_right (by omega) (by omega)))
theorem least_nn {n t b : Int} (t0 : 0 ≤ t) (tb : t < b) (h : 0 ≤ n) : 0 ≤ leastP n t b := by
  have q := least_ge (n := n) t0 tb
  have z : 0 ≤ n * b := Int.mul_nonneg h (by omega)
  rcases Int.lt_or_le (leastP n t b) 0 with c | c
  · have := Int.mul_neg_of_neg_of_pos c (show 0 < b + t by omega)
    omega
  · exact c
theorem least_zero {t b : Int} (t0 : 0 ≤ t) (tb : t < b) : leastP 0 t b = 0 := by
  have h1 := least_le (n := 0) (p := 0) t0 tb (by simp)
  have h2 := least_nn (n := 0) t0 tb (by decide)
  omega
theorem most_nn {n t b : Int} (t0 : 0 ≤ t) (tb : t < b) (h : 0 ≤ n) : n ≤ mostP n t b :=
  le_most t0 tb (by
    have z1 : n * (b - t) ≤ n * b := Int.mul_le_mul_of_nonneg_left (by omega) h
    have z2 : (n + 1) * b = n * b + b := by grind
    omega)
theorem least_le_n {n t b : Int} (t0 : 0 ≤ t) (tb : t < b) (h : 0 ≤ n) : leastP n t b ≤ n :=
  least_le t0 tb (Int.mul_le_mul_of_nonneg_left (by omega) h)
/-! ### promises of times -/
def spWhole : Sp := fun vs H Q _ => ∃ n : Int, vs = [.int n] ∧ Q (.bl true) H
def spCount : Sp := fun vs H Q _ => ∃ n : Int, vs = [.int n] ∧ 0 ≤ n ∧ Q (.bl true) H
def spRef : Sp := fun vs H Q _ => ∃ n : Int, vs = [.int n] ∧ 0 ≤ n ∧ Q .non H
def spLeast (K : PySem.W.Frag) : Sp := fun vs H Q _ => ∃ (n t b : Int) (p : Addr), vs = [.int n, .ref p] ∧ 0 ≤ n ∧ DrOk K H p t b ∧ Q (.int (leastP n t b)) H
def spMost (K : PySem.W.Frag) : Sp := fun vs H Q _ => ∃ (n t b : Int) (p : Addr), vs = [.int n, .ref p] ∧ 0 ≤ n ∧ DrOk K H p t b ∧ Q (.int (mostP n t b)) H
def spRow (K : PySem.W.Frag) : Sp := fun vs H Q _ => ∃ (p : Addr) (t b : Int), vs = [.ref p, .int 2, .int 2] ∧ SqT K H p [.int t, .int b] ∧ ∀ H', Same H H' → Q (.bl true) H'
def spFromTo : Sp := fun vs H Q _ => ∃ n lo hi : Int, vs = [.int n, .int lo, .int hi] ∧ lo ≤ n ∧ n ≤ hi ∧ Q (.bl true) H
def spCd : Sp := fun vs H Q _ => ∃ (x y : Int), vs = [.int x, .int y] ∧ 0 ≤ x ∧ 0 ≤ y ∧ Q (.int (Int.gcd x y)) H
def spShare (K : PySem.W.Frag) : Sp := fun vs H Q _ => ∃ (p : Addr) (t b : Int), vs = [.ref p] ∧ DrOk K H p t b ∧ ∀ H', Same H H' → Q (.bl true) H'
theorem two_at {t b : Int} {i : Nat} {x : V} (h : [V.int t, V.int b][i]? = some x) : ∃ n : Int, x = .int n := by
  match i, h with
  | 0, h => exact ⟨t, (Option.some.inj h).symm⟩
  | 1, h => exact ⟨b, (Option.some.inj h).symm⟩
  | n + 2, h => simp at h
/-! ### a clock -/
theorem ne_cs : ¬ (("counted" : Str) = "stands") := by decide +kernel
theorem ne_cm : ¬ (("counted" : Str) = "most_drift") := by decide +kernel
theorem ne_sc : ¬ (("stands" : Str) = "counted") := by decide +kernel
theorem ne_sm : ¬ (("stands" : Str) = "most_drift") := by decide +kernel
theorem ne_mc : ¬ (("most_drift" : Str) = "counted") := by decide +kernel
theorem ne_ms : ¬ (("most_drift" : Str) = "stands") := by decide +kernel
def cf (dr : V) (sv : V) (n : Int) : List (Str × V) := putF "counted" (.int n) (putF "stands" sv (putF "most_drift" dr []))
theorem cf_eq (dr sv : V) (n : Int) : cf dr sv n = ([("most_drift", dr), ("stands", sv), ("counted", V.int n)] : List (Str × V)) := by
  unfold cf
  simp only [putF, if_neg ne_ms, if_neg ne_mc, if_neg ne_sc]
theorem cf_len (dr sv : V) (n : Int) : (cf dr sv n).length < 1000 := by
  rw [cf_eq]
  show 3 < 1000
  decide
theorem cf_m (dr sv : V) (n : Int) : (cf dr sv n).lookup ("most_drift" : Str) = some dr := by
  unfold cf
  rw [lookup_putF, if_neg ne_mc, lookup_putF, if_neg ne_ms, lookup_putF, if_pos rfl]
theorem cf_s (dr sv : V) (n : Int) : (cf dr sv n).lookup ("stands" : Str) = some sv := by
  unfold cf
  rw [lookup_putF, if_neg ne_sc, lookup_putF, if_pos rfl]
theorem cf_c (dr sv : V) (n : Int) : (cf dr sv n).lookup ("counted" : Str) = some (.int n) := by
  unfold cf
  rw [lookup_putF, if_pos rfl]
theorem cf_no (dr sv : V) (n : Int) {m : Str} (h1 : ¬ m = "counted") (h2 : ¬ m = "stands") (h3 : ¬ m = "most_drift") : (cf dr sv n).lookup m = none := by
  unfold cf
  rw [lookup_putF, if_neg h1, lookup_putF, if_neg h2, lookup_putF, if_neg h3]
  all_goals rfl
theorem cf_put_s (dr sv sv' : V) (n : Int) : putF "stands" sv' (cf dr sv n) = cf dr sv' n := by
  rw [cf_eq, cf_eq]
  simp only [putF, if_neg ne_ms, if_pos]
theorem cf_put_c (dr sv : V) (n n' : Int) : putF "counted" (.int n') (cf dr sv n) = cf dr sv n' := by
  rw [cf_eq, cf_eq]
  simp only [putF, if_neg ne_mc, if_neg ne_sc, if_pos]
def SvAt (K : PySem.W.Frag) (H : Hp) (sv : V) : Option (Int × Int) → Prop
  | none => sv = .non
  | some z => ∃ p, sv = .ref p ∧ SqT K H p [.int z.1, .int z.2]
/-- a clock at c: its drift's tuple at dr, what it stands set to, its count -/
structure CkAt (K : PySem.W.Frag) (C : Addr) (H : Hp) (c dr : Addr) (t b : Int) (st : Option (Int × Int)) (n : Int) : Prop where
  at_ : ∃ (dx : Addr) (sv : V), H c = some (.ins C dx (cf (.ref dr) sv n)) ∧ SvAt K H sv st
  dr_ : DrOk K H dr t b
  nn : 0 ≤ n
theorem CkAt.ex {K : PySem.W.Frag} {C : Addr} {H : Hp} {c dr : Addr} {t b : Int} {st : Option (Int × Int)} {n : Int} (h : CkAt K C H c dr t b st n) : ∃ o, H c = some o ∧ Mut o := by
  obtain ⟨dx, sv, e, _⟩ := h.at_
  exact ⟨_, e, trivial⟩
theorem SvAt.fr {K : PySem.W.Frag} {H H' : Hp} {x : Addr} {o : HO} {sv : V} {st : Option (Int × Int)} (h : SvAt K H sv st) (k : Fr x H H') (hx : H x = some o) (m : Mut o) : SvAt K H' sv st := by
  cases st with
  | none => exact h
  | some z =>
    obtain ⟨p, e, q⟩ := h
    exact ⟨p, e, k.sqt hx m q⟩
/-- a clock stays where another changeable thing is changed -/
theorem CkAt.fr {K : PySem.W.Frag} {C : Addr} {H H' : Hp} {c dr x : Addr} {o : HO} {t b : Int} {st : Option (Int × Int)} {n : Int} (h : CkAt K C H c dr t b st n) (k : Fr x H H') (hx : H x = some o) (m : Mut o) (ne : c ≠ x) : CkAt K C H' c dr t b st n := by
  obtain ⟨⟨dx, sv, e, q⟩, d, nn⟩ := h
  exact ⟨⟨dx, sv, k _ _ ne e, q.fr k hx m⟩, d.fr k hx m, nn⟩
theorem CkAt.same {K : PySem.W.Frag} {C : Addr} {H H' : Hp} {c dr : Addr} {t b : Int} {st : Option (Int × Int)} {n : Int} (h : CkAt K C H c dr t b st n) (k : Same H H') : CkAt K C H' c dr t b st n := by
  obtain ⟨⟨dx, sv, e, q⟩, d, nn⟩ := h
  refine ⟨⟨dx, sv, k _ _ e, ?_⟩, d.same k, nn⟩
  cases st with
  | none => exact q
  | some z =>
    obtain ⟨p, e, q⟩ := q
    exact ⟨p, e, same_sqt k q⟩
theorem CkAt.bag {K : PySem.W.Frag} {C : Addr} {H H' : Hp} {c dr s : Addr} {t b : Int} {st : Option (Int × Int)} {n : Int} (h : CkAt K C H c dr t b st n) (k : Fr s H H') (bs : BagAt H s) : CkAt K C H' c dr t b st n := by
  obtain ⟨dx, sv, e, _⟩ := h.at_
  obtain ⟨x, y, e2, _⟩ := bs
  exact h.fr k e2 trivial (ne_of e e2 (by intro z; cases z))
theorem BagAt.ck {K : PySem.W.Frag} {C : Addr} {H H' : Hp} {c dr s : Addr} {t b : Int} {st : Option (Int × Int)} {n : Int} (bs : BagAt H s) (k : Fr c H H') (h : CkAt K C H c dr t b st n) : BagAt H' s := by
  obtain ⟨dx, sv, e, _⟩ := h.at_
  obtain ⟨x, y, e2, r⟩ := bs
  exact ⟨x, y, k _ _ (ne_of e2 e (by intro z; cases z)) e2, r⟩
theorem CkAt.ne_bag {K : PySem.W.Frag} {C : Addr} {H : Hp} {c dr s : Addr} {t b : Int} {st : Option (Int × Int)} {n : Int} (h : CkAt K C H c dr t b st n) (bs : BagAt H s) : c ≠ s := by
  obtain ⟨dx, sv, e, _⟩ := h.at_
  obtain ⟨x, y, e2, _⟩ := bs
  exact ne_of e e2 (by intro z; cases z)
/-! ### promises of Clock -/
/-- what bounds_behind tells -/
def bbQ (H : Hp) (Q : VK) (n t b : Int) : Option (Int × Int) → Prop
  | none => Q .non H
  | some z => ∀ p, H p = none → Q (.ref p) (upd H p (.tup [.int (z.1 + leastP n t b), .int (z.2 + mostP n t b)]))
def spBB (K : PySem.W.Frag) : Sp := fun vs H Q _ => ∃ (sv : V) (st : Option (Int × Int)) (n : Int) (dr : Addr) (t b : Int), vs = [sv, .int n, .ref dr] ∧ SvAt K H sv st ∧ 0 ≤ n ∧ DrOk K H dr t b ∧ bbQ H Q n t b st
def btwL (low : Int) : Option (Int × Int) → Int
  | none => low
  | some z => if z.1 > low then z.1 else low
def btwH (high : Int) : Option (Int × Int) → Int
  | none => high
  | some z => if z.2 < high then z.2 else high
def spSB (K : PySem.W.Frag) : Sp := fun vs H Q _ => ∃ (tv : V) (st : Option (Int × Int)) (low high : Int), vs = [tv, .int low, .int high] ∧ SvAt K H tv st ∧ low ≤ high ∧ btwL low st ≤ btwH high st ∧ ∀ p, H p = none → Q (.ref p) (upd H p (.tup [.int (btwL low st), .int (btwH high st)]))
def spInit (K : PySem.W.Frag) (C : Addr) : Sp := fun vs H Q _ => ∃ (x dr dx : Addr) (t b : Int), vs = [.ref x, .ref dr] ∧ H x = some (.ins C dx []) ∧ DrOk K H dr t b ∧ ∀ H', Fr x H H' → CkAt K C H' x dr t b none 0 → Q .non H'
def spIsSet (K : PySem.W.Frag) (C : Addr) : Sp := fun vs H Q _ => ∃ (c dr : Addr) (t b : Int) (st : Option (Int × Int)) (n : Int), vs = [.ref c] ∧ CkAt K C H c dr t b st n ∧ Q (.bl st.isSome) H
def spBounds (K : PySem.W.Frag) (C : Addr) : Sp := fun vs H Q _ => ∃ (c dr : Addr) (t b lo hi n : Int), vs = [.ref c] ∧ CkAt K C H c dr t b (some (lo, hi)) n ∧ ∀ p, H p = none → Q (.ref p) (upd H p (.tup [.int (lo + leastP n t b), .int (hi + mostP n t b)]))
def spTick (K : PySem.W.Frag) (C : Addr) : Sp := fun vs H Q _ => ∃ (c dr : Addr) (t b : Int) (st : Option (Int × Int)) (n m : Int), vs = [.ref c, .int m] ∧ CkAt K C H c dr t b st n ∧ 0 ≤ m ∧ ∀ H', Fr c H H' → CkAt K C H' c dr t b st (n + m) → Q .non H'
def setLow (low : Int) (st : Option (Int × Int)) (t b n : Int) : Int := match st with
  | none => low
  | some z => if z.1 + leastP n t b > low then z.1 + leastP n t b else low
def setHigh (high : Int) (st : Option (Int × Int)) (t b n : Int) : Int := match st with
  | none => high
  | some z => if z.2 + mostP n t b < high then z.2 + mostP n t b else high
def spSet (K : PySem.W.Frag) (C : Addr) : Sp := fun vs H Q _ => ∃ (c dr : Addr) (t b : Int) (st : Option (Int × Int)) (n low high : Int), vs = [.ref c, .int low, .int high] ∧ CkAt K C H c dr t b st n ∧ low ≤ high ∧ setLow low st t b n ≤ setHigh high st t b n ∧
  ∀ H', Fr c H H' → CkAt K C H' c dr t b (some (setLow low st t b n, setHigh high st t b n)) 0 → Q .non H'
def spPast (K : PySem.W.Frag) (C : Addr) : Sp := fun vs H Q _ => ∃ (c dr : Addr) (t b lo hi n m : Int), vs = [.ref c, .int m] ∧ CkAt K C H c dr t b (some (lo, hi)) n ∧ ∀ H', Same H H' → Q (.bl (decide (m < lo + leastP n t b))) H'
def spAhead (K : PySem.W.Frag) (C : Addr) : Sp := fun vs H Q _ => ∃ (c dr : Addr) (t b lo hi n m : Int), vs = [.ref c, .int m] ∧ CkAt K C H c dr t b (some (lo, hi)) n ∧ ∀ H', Same H H' → Q (.bl (decide (hi + mostP n t b < m))) H'
def spLaw (K : PySem.W.Frag) : Sp := fun vs H Q _ => ∃ (a : Addr) (ns : List Int), vs = [.ref a] ∧ SqL K H a (ns.map V.int) ∧ ns.length ≤ 63 ∧ ∀ H', Q (.bl true) H'

theorem eqv_two {a b c d : Int} (h1 : a = c) (h2 : b = d) : PyData.eqv (.tuple [.int a, .int b]) (.tuple [.int c, .int d]) = true := by
  subst h1 h2
  simp [PyData.eqv, PyData.eqvAll]
theorem kit_self {K : PySem.W.Frag} {S : Addr} : PySem.W.kitOne K (.ref S) (.ref S) = some true := by
  unfold PySem.W.kitOne
  simp
theorem nsok_of {K : PySem.W.Frag} {N : Addr} {oc : Value} {od : Option Addr} {es : Array DictEntry} {ep : Nat} {sl : Array (Option Value)} (h : K.lookup N = some ⟨oc, od, .dict es ep, sl⟩) (a : (es.all fun e => match e.key with | .str _ _ => true | _ => false) = true) : PySem.W.nsOkIn K N = true := by
  unfold PySem.W.nsOkIn
  rw [h]
  exact a
def upN {α : Type} (f : Nat → α) (i : Nat) (v : α) : Nat → α := fun j => if j = i then v else f j
theorem upN_same {α : Type} (f : Nat → α) (i : Nat) (v : α) : upN f i v i = v := if_pos rfl
theorem upN_ne {α : Type} (f : Nat → α) {i j : Nat} (v : α) (h : j ≠ i) : upN f i v j = f j := if_neg h
/-- four clocks in a list, a bag -/
structure W4 (K : PySem.W.Frag) (C : Addr) (H0 H : Hp) (s sl : Addr) (x d : Nat → Addr) (t b : Nat → Int) (st : Nat → Option (Int × Int)) (n : Nat → Int) : Prop where
  sm : Same H0 H
  bag : BagAt H s
  c : ∀ i, i < 4 → CkAt K C H (x i) (d i) (t i) (b i) (st i) (n i)
  ne : ∀ i j, i < 4 → j < 4 → j ≠ i → x j ≠ x i
  hl : H sl = some (.lst [.ref (x 0), .ref (x 1), .ref (x 2), .ref (x 3)])
  fs : H0 s = none
  fx : ∀ i, i < 4 → H0 (x i) = none
section
variable {K : PySem.W.Frag} {C : Addr} {H0 H H' : Hp} {s sl : Addr} {x d : Nat → Addr} {t b n : Nat → Int} {st : Nat → Option (Int × Int)}
theorem four_ne_bag {p : Addr} {u v w z : Addr} (hb : BagAt H s) (hp : H p = some (.lst [.ref u, .ref v, .ref w, .ref z])) : p ≠ s := by
  obtain ⟨a, c, e, _⟩ := hb
  exact ne_of hp e (by intro q; injection q with q; injection q with q; cases q)
theorem lst_ne_ck {p : Addr} {xs : List V} {c dr : Addr} {t b n : Int} {st : Option (Int × Int)} (hc : CkAt K C H c dr t b st n) (hp : H p = some (.lst xs)) : p ≠ c := by
  obtain ⟨dx, sv, e, _⟩ := hc.at_
  exact ne_of hp e (by intro z; cases z)
theorem W4.ofSame (h : W4 K C H0 H s sl x d t b st n) (k : Same H H') : W4 K C H0 H' s sl x d t b st n :=
  ⟨h.sm.trans k, h.bag.same k, fun i hi => (h.c i hi).same k, h.ne, k _ _ h.hl, h.fs, h.fx⟩
theorem W4.ofBag (h : W4 K C H0 H s sl x d t b st n) (k : Fr s H H') (b' : BagAt H' s) : W4 K C H0 H' s sl x d t b st n :=
  ⟨k.over h.sm h.fs, b', fun i hi => (h.c i hi).bag k h.bag, h.ne, k _ _ (four_ne_bag h.bag h.hl) h.hl, h.fs, h.fx⟩
theorem W4.ofCk (h : W4 K C H0 H s sl x d t b st n) {i : Nat} (hi : i < 4) {st' : Option (Int × Int)} {n' : Int} (k : Fr (x i) H H') (c' : CkAt K C H' (x i) (d i) (t i) (b i) st' n') :
    W4 K C H0 H' s sl x d t b (upN st i st') (upN n i n') := by
  obtain ⟨o, eo, mo⟩ := (h.c i hi).ex
  refine ⟨k.over h.sm (h.fx i hi), h.bag.ck k (h.c i hi), fun j hj => ?_, h.ne, k _ _ (lst_ne_ck (h.c i hi) h.hl) h.hl, h.fs, h.fx⟩
  by_cases e : j = i
  · subst e
    rw [upN_same, upN_same]
    exact c'
  · rw [upN_ne _ _ e, upN_ne _ _ e]
    exact (h.c j hj).fr k eo mo (h.ne i j hi hj e)
/-- another list is changed -/
theorem W4.ofD (h : W4 K C H0 H s sl x d t b st n) {D : Addr} {xs : List V} (hD : H D = some (.lst xs)) (nD : D ≠ s) (nl : D ≠ sl) (fD : H0 D = none) (k : Fr D H H') : W4 K C H0 H' s sl x d t b st n :=
  ⟨k.over h.sm fD, h.bag.fr k nD.symm, fun i hi => (h.c i hi).fr k hD trivial (lst_ne_ck (h.c i hi) hD).symm, h.ne, k _ _ nl.symm h.hl, h.fs, h.fx⟩
end
/-- an equal clock -/
def spEqC (K : PySem.W.Frag) (C : Addr) : Sp := fun vs H Q _ => ∃ (c c' dr dr' : Addr) (t b n lo hi : Int), vs = [.ref c, .ref c'] ∧ CkAt K C H c dr t b (some (lo, hi)) n ∧ CkAt K C H c' dr' t b (some (lo, hi)) n ∧ Q (.bl true) H
def spLess (K : PySem.W.Frag) : Sp := fun vs H Q _ => ∃ (s dr : Addr) (t b : Int), vs = [.ref s, .ref dr] ∧ BagAt H s ∧ DrOk K H dr t b ∧ ∀ (t2 b2 : Int) (p : Addr) (H' : Hp), Fr s H H' → BagAt H' s → DrOk K H' p t2 b2 → t2 * b ≤ t * b2 → Q (.ref p) H'
/-! ### mathematics -/
theorem least_add {n m t b : Int} (t0 : 0 ≤ t) (tb : t < b) : leastP (n + m) t b ≤ leastP n t b + leastP m t b := by
  have h1 := least_ge (n := n) t0 tb
  have h2 := least_ge (n := m) t0 tb
  refine least_le t0 tb ?_
  have e1 : (n + m) * b = n * b + m * b := by grind
  have e2 : (leastP n t b + leastP m t b) * (b + t) = leastP n t b * (b + t) + leastP m t b * (b + t) := by grind
  omega
theorem most_add {n m t b : Int} (t0 : 0 ≤ t) (tb : t < b) (m0 : 0 ≤ m) : mostP n t b + m ≤ mostP (n + m) t b := by
  have h1 := most_lt (n := n) t0 tb
  refine le_most t0 tb ?_
  have e1 : (n + m + 1) * b = (n + 1) * b + m * b := by grind
  have e2 : (mostP n t b + m) * (b - t) = mostP n t b * (b - t) + m * (b - t) := by grind
  have e3 : m * (b - t) ≤ m * b := Int.mul_le_mul_of_nonneg_left (by omega) m0
  omega
theorem least_lesser {n t b t2 b2 : Int} (t0 : 0 ≤ t) (tb : t < b) (t20 : 0 ≤ t2) (tb2 : t2 < b2) (n0 : 0 ≤ n) (h : t2 * b ≤ t * b2) : leastP n t b ≤ leastP n t2 b2 := by
  have h1 := least_ge (n := n) t20 tb2
  have p0 := least_nn (n := n) t20 tb2 n0
  refine least_le t0 tb (le_cancel (show 0 < b2 by omega) ?_)
  have e1 : b2 * (n * b) = n * b2 * b := by grind
  have e2 : b2 * (leastP n t2 b2 * (b + t)) = leastP n t2 b2 * (b2 * b + t * b2) := by grind
  have e3 := Int.mul_le_mul_of_nonneg_right h1 (show 0 ≤ b by omega)
  have e4 : leastP n t2 b2 * (b2 + t2) * b = leastP n t2 b2 * (b2 * b + t2 * b) := by grind
  have e5 := Int.mul_le_mul_of_nonneg_left (show b2 * b + t2 * b ≤ b2 * b + t * b2 by omega) p0
  omega
theorem most_lesser {n t b t2 b2 : Int} (t0 : 0 ≤ t) (tb : t < b) (t20 : 0 ≤ t2) (tb2 : t2 < b2) (n0 : 0 ≤ n) (h : t2 * b ≤ t * b2) : mostP n t2 b2 ≤ mostP n t b := by
  have h1 := most_lt (n := n) t20 tb2
  have p0 : 0 ≤ mostP n t2 b2 := Int.le_trans n0 (most_nn t20 tb2 n0)
  refine le_most t0 tb (lt_cancel (show 0 < b2 by omega) ?_)
  have e1 : b2 * ((n + 1) * b) = (n + 1) * b2 * b := by grind
  have e2 : b2 * (mostP n t2 b2 * (b - t)) = mostP n t2 b2 * (b2 * b - t * b2) := by grind
  have e3 := Int.mul_lt_mul_of_pos_right h1 (show 0 < b by omega)
  have e4 : mostP n t2 b2 * (b2 - t2) * b = mostP n t2 b2 * (b2 * b - t2 * b) := by grind
  have e5 := Int.mul_le_mul_of_nonneg_left (show b2 * b - t * b2 ≤ b2 * b - t2 * b by omega) p0
  omega
theorem least_one (n : Int) : leastP n 0 1 = n := by
  unfold leastP
  simp
theorem most_one (n : Int) : mostP n 0 1 = n := by
  unfold mostP
  simp
theorem sum_nn : ∀ {ps : List Int}, (∀ p ∈ ps, 0 ≤ p) → 0 ≤ ps.sum
  | [], _ => Int.le_refl 0
  | p :: r, h => by
    have h1 := h p (List.mem_cons_self ..)
    have h2 := sum_nn (ps := r) fun z hz => h z (List.mem_cons_of_mem _ hz)
    rw [List.sum_cons]
    omega

theorem sum_take_i : ∀ {l : List Int} {i : Nat} {z : Int}, l[i]? = some z → (l.take (i + 1)).sum = (l.take i).sum + z := fun h => L2.sum_take h

theorem ok_is_whole {P : Program} {w : World} {K : PySem.W.Frag} {mg : Str → Option Value} {base : Heap} {a : Nat → Addr} {d : Nat → FuncData} (T : Txt K mg a d) : FnOk P w K mg base CX0 1 (a 0) (d 0) ["thing"] spWhole := by
  refine T.F_is_whole.ok sc_is_whole (fun vs H Q E h => ?_) (fun cdv A outer s0 H vs Q E hr h => ?_)
  · obtain ⟨n, rfl, q⟩ := h
    rfl
  · obtain ⟨n, rfl, q⟩ := h
    refine ⟨_, (pss_one (ps_ret (pe_and (pe_callB call_isi (by rfl) T.z_isinstance (by decide +kernel) (pa_cons (pv 0) (pa_cons (pe_bltn (v := .ty "int") (by rfl) T.z_int (by decide +kernel) rfl) pa_nil))) (pe_one (pe_not (pe_callB call_isi (by rfl) T.z_isinstance (by decide +kernel) (pa_cons (pv 0) (pa_cons (pe_bltn (v := .ty "bool") (by rfl) T.z_bool (by decide +kernel) rfl) pa_nil)))))))), ?_⟩
    refine ⟨_, rfl, _, _, .type "int", .type "int", true, rfl, .ty "int", .base (.int n), kit_ty (by decide +kernel), true, rfl, iteT ?_⟩
    refine ⟨_, rfl, _, _, .type "int", .type "bool", false, rfl, .ty "bool", .base (.int n), kit_ty (by decide +kernel), false, rfl, ?_⟩
    exact q

theorem ok_is_count {P : Program} {w : World} {K : PySem.W.Frag} {mg : Str → Option Value} {base : Heap} {a : Nat → Addr} {d : Nat → FuncData} (T : Txt K mg a d) : FnOk P w K mg base CX0 2 (a 1) (d 1) ["thing"] spCount := by
  refine T.F_is_count.ok sc_is_count (fun vs H Q E h => ?_) (fun cdv A outer s0 H vs Q E hr h => ?_)
  · obtain ⟨n, rfl, n0, q⟩ := h
    rfl
  · obtain ⟨n, rfl, n0, q⟩ := h
    refine ⟨_, (pss_one (ps_ret (pe_and (pe_call (ok_is_whole T) (hr.mono (by decide)) (by rfl) T.g_is_whole T.F_is_whole.kp T.b_is_whole .nil pass0 (pa_cons (pv 0) pa_nil)) (pe_one (pe_cmpR op_ge (pv 0) pe_int (nomark _)))))), ?_⟩
    refine ⟨_, rfl, n, rfl, true, rfl, iteT ?_⟩
    exact ⟨_, rfl, n, 0, rfl, rfl, bl_of (Q := Q) n0 q⟩

theorem ok_is_from_to {P : Program} {w : World} {K : PySem.W.Frag} {mg : Str → Option Value} {base : Heap} {a : Nat → Addr} {d : Nat → FuncData} (T : Txt K mg a d) : FnOk P w K mg base CX0 1 (a 2) (d 2) ["thing", "least", "most"] spFromTo := by
  refine T.F_is_from_to.ok sc_is_from_to (fun vs H Q E h => ?_) (fun cdv A outer s0 H vs Q E hr h => ?_)
  · obtain ⟨n, lo, hi, rfl, h1, h2, q⟩ := h
    rfl
  · obtain ⟨n, lo, hi, rfl, h1, h2, q⟩ := h
    refine ⟨_, (pss_one (ps_ret (pe_and (pe_callB call_isi (by rfl) T.z_isinstance (by decide +kernel) (pa_cons (pv 0) (pa_cons (pe_bltn (v := .ty "int") (by rfl) T.z_int (by decide +kernel) rfl) pa_nil))) (pe_and (pe_not (pe_callB call_isi (by rfl) T.z_isinstance (by decide +kernel) (pa_cons (pv 0) (pa_cons (pe_bltn (v := .ty "bool") (by rfl) T.z_bool (by decide +kernel) rfl) pa_nil)))) (pe_one (pe_chain op_le op_le (pv 1) (pv 0) (pv 2))))))), ?_⟩
    refine ⟨_, rfl, _, _, .type "int", .type "int", true, rfl, .ty "int", .base (.int n), kit_ty (by decide +kernel), true, rfl, iteT ?_⟩
    refine ⟨_, rfl, _, _, .type "int", .type "bool", false, rfl, .ty "bool", .base (.int n), kit_ty (by decide +kernel), false, rfl, true, rfl, iteT ?_⟩
    refine ⟨_, rfl, _, rfl, lo, n, rfl, rfl, _, rfl, iteDT h1 ?_⟩
    exact ⟨_, rfl, n, hi, rfl, rfl, bl_of (Q := Q) h2 q⟩

theorem ok_common_divisor {P : Program} {w : World} {K : PySem.W.Frag} {mg : Str → Option Value} {base : Heap} {a : Nat → Addr} {d : Nat → FuncData} (T : Txt K mg a d) : FnOk P w K mg base CX0 1 (a 3) (d 3) ["first", "second"] spCd := by
  refine T.F_common_divisor.ok sc_common_divisor (fun vs H Q E h => ?_) (fun cdv A outer s0 H vs Q E hr h => ?_)
  · obtain ⟨x, y, rfl, x0, y0, q⟩ := h
    rfl
  · obtain ⟨x, y, rfl, x0, y0, q⟩ := h
    refine ⟨_, (pss_cons (ps_while PassesOwn.never (pt_truth (pv 1) (by intro _; rfl)) (pss_one (ps_par (i := 0) (j := 1) (by rfl) sc_common_divisor.nd rfl rfl (by decide) rfl rfl (pa_cons (pv 1) (pa_cons (pe_op op_mod (pv 0) (pv 1)) pa_nil)) (by rfl)))) (pss_one (ps_ret (pv 0)))), ?_⟩
    refine ⟨fun m σ H' => H' = H ∧ ∃ h t : Int, σ = [some (.int h), some (.int t)] ∧ m = t.toNat ∧ 0 ≤ h ∧ 0 ≤ t ∧ Int.gcd h t = Int.gcd x y, ⟨_, rfl, x, y, rfl, rfl, x0, y0, rfl⟩, ?_⟩
    rintro m σ H' ⟨rfl, h, t, rfl, rfl, h0, t0, eg⟩
    refine ⟨_, rfl, _, rfl, ?_⟩
    by_cases hz : t = 0
    · subst hz
      refine iteBF rfl ?_
      have e1 : (Int.gcd x y : Int) = h := by
        rw [← eg, Int.gcd_zero_right]
        omega
      refine ⟨_, rfl, ?_⟩
      rw [e1] at q
      exact q
    · have tp : 0 < t := by omega
      refine iteBT (by simpa using hz) ?_
      refine ⟨_, fun _ _ z => z, ?_⟩
      refine ⟨_, rfl, _, rfl, _, rfl, h, t, rfl, rfl, tp, _, _, rfl, ?_⟩
      have e0 := Int.emod_nonneg h (show t ≠ 0 by omega)
      have e1 := Int.emod_lt_of_pos h tp
      exact ⟨(h % t).toNat, by omega, rfl, t, h % t, rfl, rfl, t0, e0, (gcd_turn h0 tp).trans eg⟩

theorem ok_is_share {P : Program} {w : World} {K : PySem.W.Frag} {mg : Str → Option Value} {base : Heap} {a : Nat → Addr} {d : Nat → FuncData} (T : Txt K mg a d) : FnOk P w K mg base CX0 3 (a 4) (d 4) ["thing"] (spShare K) := by
  refine T.F_is_share.ok sc_is_share (fun vs H Q E h => ?_) (fun cdv A outer s0 H vs Q E hr h => ?_)
  · obtain ⟨p, t, b, rfl, hd, q⟩ := h
    rfl
  · obtain ⟨p, t, b, rfl, hd, q⟩ := h
    refine ⟨_, (pss_cons (ps_if (PW.pt (pw_or (pt_not (pt_truth (pe_callB call_isi (by rfl) T.z_isinstance (by decide +kernel) (pa_cons (pv 0) (pa_cons (pe_bltn (v := .ty "tuple") (by rfl) T.z_tuple (by decide +kernel) rfl) pa_nil))) (by intro _; rfl))) (pw_or1 (pt_cmpR op_ne (pe_callB call_len_seq (by rfl) T.z_len PySem.boot_len (pa_cons (pv 0) pa_nil)) pe_int (nomark _))))) (pss_one (ps_ret pe_bl)) pss_nil) (pss_cons (ps_asg (pv 0) (pg_tup (by rfl) (pgs_cons (pg_name (i := 1) sc_is_share.nd rfl (.inl rfl)) (pgs_cons (pg_name (i := 2) sc_is_share.nd rfl (.inl rfl)) pgs_nil)))) (pss_cons (ps_if (PW.pt (pw_or (pt_not (pt_truth (pe_call (ok_is_from_to T) (hr.mono (by decide)) (by rfl) T.g_is_from_to T.F_is_from_to.kp T.b_is_from_to .nil pass0 (pa_cons (pv 2) (pa_cons pe_int (pa_cons (pe_glob (v := .int 1000) (by rfl) (Exists.choose_spec T.g_MOST_BOTTOM) ⟨_, rfl⟩) pa_nil)))) (by intro _; rfl))) (pw_or1 (pt_not (pt_truth (pe_call (ok_is_from_to T) (hr.mono (by decide)) (by rfl) T.g_is_from_to T.F_is_from_to.kp T.b_is_from_to .nil pass0 (pa_cons (pv 1) (pa_cons pe_int (pa_cons (pv 2) pa_nil)))) (by intro _; rfl)))))) (pss_one (ps_ret pe_bl)) pss_nil) (pss_one (ps_ret (pe_or (pe_cmpR op_eq (pv 1) pe_int (nomark _)) (pe_one (pe_cmpR op_eq (pe_call (ok_common_divisor T) (hr.mono (by decide)) (by rfl) T.g_common_divisor T.F_common_divisor.kp T.b_common_divisor .nil pass0 (pa_cons (pv 1) (pa_cons (pv 2) pa_nil))) pe_int (nomark _))))))))), ?_⟩
    obtain ⟨hS, t0, tb, b1, hg⟩ := hd
    refine ⟨_, rfl, _, _, .type "tuple", .type "tuple", true, rfl, .ty "tuple", sqt_ty hS, kit_ty (by decide +kernel), true, rfl, iteF ?_⟩
    refine ⟨_, rfl, p, _, rfl, .inr hS, rfl, _, rfl, iteNS rfl ?_⟩
    refine ⟨_, rfl, p, _, rfl, hS, rfl, _, _, rfl, _, _, rfl, rfl, ?_⟩
    refine ⟨_, rfl, b, 1, 1000, rfl, by omega, by omega, true, rfl, iteF ?_⟩
    refine ⟨_, rfl, _, rfl, t, 0, b, rfl, by omega, by omega, true, rfl, iteF ?_⟩
    refine ⟨_, rfl, rfl, _, rfl, ?_⟩
    refine ite2 (fun h => ?_) (fun h => ?_)
    · exact q H (Same.refl H)
    refine ⟨_, rfl, _, rfl, t, b, rfl, t0, by omega, rfl, ?_⟩
    have e : (V.int (Int.gcd t b : Nat) = V.int 1) := by rw [hg]; rfl
    exact bl_of (Q := Q) e (q H (Same.refl H))

theorem ok_is_drift {P : Program} {w : World} {K : PySem.W.Frag} {mg : Str → Option Value} {base : Heap} {a : Nat → Addr} {d : Nat → FuncData} (T : Txt K mg a d) : FnOk P w K mg base CX0 4 (a 5) (d 5) ["thing"] (spShare K) := by
  refine T.F_is_drift.ok sc_is_drift (fun vs H Q E h => ?_) (fun cdv A outer s0 H vs Q E hr h => ?_)
  · obtain ⟨p, t, b, rfl, hd, q⟩ := h
    rfl
  · obtain ⟨p, t, b, rfl, hd, q⟩ := h
    refine ⟨_, (pss_one (ps_ret (pe_and (pe_call (ok_is_share T) (hr.mono (by decide)) (by rfl) T.g_is_share T.F_is_share.kp T.b_is_share .nil pass0 (pa_cons (pv 0) pa_nil)) (pe_one (pe_cmpR (op_neD hr.units) (pv 0) (pe_glob (v := .ref (a 23)) (by rfl) T.g_WHOLE rfl) (nomark _)))))), ?_⟩
    refine ⟨_, rfl, p, t, b, rfl, hd, fun H1 s1 => ⟨true, rfl, iteT ?_⟩⟩
    have hS1 := same_sqt s1 hd.1
    refine ⟨_, rfl, .tuple [.int t, .int b], .tuple [.int 1, .int 1], .tup hS1 (.cons (.int _) (.cons (.int _) .nil)), .tup (T.k_WHOLE _) (.cons (.int _) (.cons (.int _) .nil)), rfl, rfl, ?_⟩
    have e : PyData.eqv (.tuple [.int t, .int b]) (.tuple [.int 1, .int 1]) = false := by
      have := hd.2.2.1
      by_cases ht : t = 1
      · have hb : b ≠ 1 := by omega
        simp [PyData.eqv, PyData.eqvAll, hb]
      · simp [PyData.eqv, PyData.eqvAll, ht]
    show Q (V.bl (!PyData.eqv (.tuple [.int t, .int b]) (.tuple [.int 1, .int 1]))) H1
    rw [e]
    exact q H1 s1

theorem ok_refuse_no_count {P : Program} {w : World} {K : PySem.W.Frag} {mg : Str → Option Value} {base : Heap} {a : Nat → Addr} {d : Nat → FuncData} (T : Txt K mg a d) : FnOk P w K mg base CX0 3 (a 6) (d 6) ["thing"] spRef := by
  refine T.F_refuse_no_count.ok sc_refuse_no_count (fun vs H Q E h => ?_) (fun cdv A outer s0 H vs Q E hr h => ?_)
  · obtain ⟨n, rfl, n0, q⟩ := h
    rfl
  · obtain ⟨n, rfl, n0, q⟩ := h
    refine ⟨_, (pss_one (ps_if (pt_not (pt_truth (pe_call (ok_is_count T) (hr.mono (by decide)) (by rfl) T.g_is_count T.F_is_count.kp T.b_is_count .nil pass0 (pa_cons (pv 0) pa_nil)) (by intro _; rfl))) (pss_one ps_never) pss_nil)), ?_⟩
    refine ⟨_, rfl, n, rfl, n0, true, rfl, iteF ?_⟩
    exact q

theorem ok_least_of {P : Program} {w : World} {K : PySem.W.Frag} {mg : Str → Option Value} {base : Heap} {a : Nat → Addr} {d : Nat → FuncData} (T : Txt K mg a d) : FnOk P w K mg base CX0 1 (a 7) (d 7) ["ticks", "drift"] (spLeast K) := by
  refine T.F_least_of.ok sc_least_of (fun vs H Q E h => ?_) (fun cdv A outer s0 H vs Q E hr h => ?_)
  · obtain ⟨n, t, b, p, rfl, n0, ⟨hd, t0, tb, b1, _⟩, q⟩ := h
    rfl
  · obtain ⟨n, t, b, p, rfl, n0, ⟨hd, t0, tb, b1, _⟩, q⟩ := h
    refine ⟨_, (pss_cons (ps_asg (pv 1) (pg_tup (by rfl) (pgs_cons (pg_name (i := 2) sc_least_of.nd rfl (.inl rfl)) (pgs_cons (pg_name (i := 3) sc_least_of.nd rfl (.inl rfl)) pgs_nil)))) (pss_one (ps_ret (pe_un un_neg (pe_op op_fdivW (pe_op op_mul (pe_un un_neg (pv 0)) (pv 3)) (pe_op op_add (pv 3) (pv 2))))))), ?_⟩
    refine ⟨_, rfl, p, _, rfl, hd, rfl, _, _, rfl, _, _, rfl, rfl, ?_⟩
    refine ⟨_, rfl, n, rfl, _, rfl, -n, b, rfl, rfl, .inr (m64 (by omega) (by omega)), _, rfl, _, rfl, b, t, rfl, rfl, _, _, rfl, rfl, divW (by omega) (by omega), _, rfl, ?_⟩
    exact q

theorem ok_most_of {P : Program} {w : World} {K : PySem.W.Frag} {mg : Str → Option Value} {base : Heap} {a : Nat → Addr} {d : Nat → FuncData} (T : Txt K mg a d) : FnOk P w K mg base CX0 1 (a 8) (d 8) ["ticks", "drift"] (spMost K) := by
  refine T.F_most_of.ok sc_most_of (fun vs H Q E h => ?_) (fun cdv A outer s0 H vs Q E hr h => ?_)
  · obtain ⟨n, t, b, p, rfl, n0, ⟨hd, t0, tb, b1, _⟩, q⟩ := h
    rfl
  · obtain ⟨n, t, b, p, rfl, n0, ⟨hd, t0, tb, b1, _⟩, q⟩ := h
    refine ⟨_, (pss_cons (ps_asg (pv 1) (pg_tup (by rfl) (pgs_cons (pg_name (i := 2) sc_most_of.nd rfl (.inl rfl)) (pgs_cons (pg_name (i := 3) sc_most_of.nd rfl (.inl rfl)) pgs_nil)))) (pss_one (ps_ret (pe_op op_fdivW (pe_op op_sub (pe_op op_mul (pe_op op_add (pv 0) pe_int) (pv 3)) pe_int) (pe_op op_sub (pv 3) (pv 2)))))), ?_⟩
    refine ⟨_, rfl, p, _, rfl, hd, rfl, _, _, rfl, _, _, rfl, rfl, ?_⟩
    refine ⟨_, rfl, n, 1, rfl, rfl, _, rfl, _, b, rfl, rfl, .inr (m64 (by omega) (by omega)), _, 1, rfl, rfl, _, rfl, _, rfl, b, t, rfl, rfl, _, _, rfl, rfl, divW (by omega) (by omega), ?_⟩
    exact q

theorem ok_bounds_behind {P : Program} {w : World} {K : PySem.W.Frag} {mg : Str → Option Value} {base : Heap} {a : Nat → Addr} {d : Nat → FuncData} (T : Txt K mg a d) : FnOk P w K mg base CX0 2 (a 20) (d 20) ["stands", "counted", "drift"] (spBB K) := by
  refine T.F_bounds_behind.ok sc_bounds_behind (fun vs H Q E h => ?_) (fun cdv A outer s0 H vs Q E hr h => ?_)
  · obtain ⟨sv, st, n, dr, t, b, rfl, hs, n0, hd, q⟩ := h
    rfl
  · obtain ⟨sv, st, n, dr, t, b, rfl, hs, n0, hd, q⟩ := h
    refine ⟨_, (pss_cons (ps_if (pt_cmpR op_isN (pv 0) pe_non (nomark _)) (pss_one (ps_ret pe_non)) pss_nil) (pss_one (ps_ret (pe_tup (pa_cons (pe_op op_add (pe_ix ix_tup (pv 0) pe_int (fun _ _ => rfl)) (pe_call (ok_least_of T) (hr.mono (by decide)) (by rfl) T.g_least_of T.F_least_of.kp T.b_least_of .nil pass0 (pa_cons (pv 1) (pa_cons (pv 2) pa_nil)))) (pa_cons (pe_op op_add (pe_ix ix_tup (pv 0) pe_int (fun _ _ => rfl)) (pe_call (ok_most_of T) (hr.mono (by decide)) (by rfl) T.g_most_of T.F_most_of.kp T.b_most_of .nil pass0 (pa_cons (pv 1) (pa_cons (pv 2) pa_nil)))) pa_nil)))))), ?_⟩
    cases st with
    | none =>
      have e : sv = V.non := hs
      subst e
      refine ⟨_, rfl, rfl, _, rfl, iteT ?_⟩
      exact q
    | some z =>
      obtain ⟨sp, e, hs⟩ := hs
      subst e
      refine ⟨_, rfl, rfl, _, rfl, iteF ?_⟩
      refine ⟨_, rfl, sp, _, 0, _, rfl, rfl, hs, rfl, _, rfl, _, rfl, n, t, b, dr, rfl, n0, hd, _, _, rfl, rfl, ?_⟩
      refine ⟨_, rfl, sp, _, 1, _, rfl, rfl, hs, rfl, _, rfl, _, rfl, n, t, b, dr, rfl, n0, hd, _, _, rfl, rfl, len2, fun p np => ?_⟩
      exact q p np

theorem ok_set_between {P : Program} {w : World} {K : PySem.W.Frag} {mg : Str → Option Value} {base : Heap} {a : Nat → Addr} {d : Nat → FuncData} (T : Txt K mg a d) : FnOk P w K mg base CX0 2 (a 21) (d 21) ["told", "low", "high"] (spSB K) := by
  refine T.F_set_between.ok sc_set_between (fun vs H Q E h => ?_) (fun cdv A outer s0 H vs Q E hr h => ?_)
  · obtain ⟨tv, st, low, high, rfl, hs, hlh, hle, q⟩ := h
    rfl
  · obtain ⟨tv, st, low, high, rfl, hs, hlh, hle, q⟩ := h
    refine ⟨_, (pss_cons (ps_if (PW.pt (pw_or (pt_not (pt_truth (pe_call (ok_is_whole T) (hr.mono (by decide)) (by rfl) T.g_is_whole T.F_is_whole.kp T.b_is_whole .nil pass0 (pa_cons (pv 1) pa_nil)) (by intro _; rfl))) (pw_or (pt_not (pt_truth (pe_call (ok_is_whole T) (hr.mono (by decide)) (by rfl) T.g_is_whole T.F_is_whole.kp T.b_is_whole .nil pass0 (pa_cons (pv 2) pa_nil)) (by intro _; rfl))) (pw_or1 (pt_cmpR op_gt (pv 1) (pv 2) (nomark _)))))) (pss_one ps_never) pss_nil) (pss_cons (ps_if (pt_cmpR op_isN (pv 0) pe_non (nomark _)) (pss_one (ps_ret (pe_tup (pa_cons (pv 1) (pa_cons (pv 2) pa_nil))))) pss_nil) (pss_cons (ps_set (i := 3) sc_set_between.nd rfl (Or.inl rfl) (pe_callB (call_max2 rfl) (by rfl) T.z_max (by decide +kernel) (pa_cons (pv 1) (pa_cons (pe_ix ix_tup (pv 0) pe_int (fun _ _ => rfl)) pa_nil)))) (pss_cons (ps_set (i := 4) sc_set_between.nd rfl (Or.inl rfl) (pe_callB (call_min2 rfl) (by rfl) T.z_min (by decide +kernel) (pa_cons (pv 2) (pa_cons (pe_ix ix_tup (pv 0) pe_int (fun _ _ => rfl)) pa_nil)))) (pss_cons (ps_if (pt_cmpR op_gt (pv 3) (pv 4) (nomark _)) (pss_one ps_never) pss_nil) (pss_one (ps_ret (pe_tup (pa_cons (pv 3) (pa_cons (pv 4) pa_nil)))))))))), ?_⟩
    refine ⟨_, rfl, low, rfl, true, rfl, iteF ?_⟩
    refine ⟨_, rfl, high, rfl, true, rfl, iteF ?_⟩
    refine ⟨_, rfl, _, rfl, low, high, rfl, rfl, _, rfl, iteDF (by omega) ?_⟩
    cases st with
    | none =>
      have e : tv = V.non := hs
      subst e
      refine ⟨_, rfl, rfl, _, rfl, iteT ?_⟩
      exact ⟨_, rfl, _, rfl, len2, fun p np => q p np⟩
    | some z =>
      obtain ⟨sp, e, hs⟩ := hs
      subst e
      refine ⟨_, rfl, rfl, _, rfl, iteF ?_⟩
      refine ⟨_, rfl, _, rfl, sp, _, 0, _, rfl, rfl, hs, rfl, low, _, rfl, ?_⟩
      refine ⟨_, rfl, _, rfl, sp, _, 1, _, rfl, rfl, hs, rfl, high, _, rfl, ?_⟩
      refine ⟨_, rfl, _, rfl, _, _, rfl, rfl, _, rfl, iteDF (Int.not_lt.mpr hle) ?_⟩
      exact ⟨_, rfl, _, rfl, len2, fun p np => q p np⟩

theorem ok_Clock___init__ {P : Program} {w : World} {K : PySem.W.Frag} {mg : Str → Option Value} {base : Heap} {a : Nat → Addr} {d : Nat → FuncData} (T : Txt K mg a d) : FnOk P w K mg base CX0 5 (a 9) (d 9) ["self", "drift"] (spInit K (a 22)) := by
  refine T.F_Clock___init__.ok (CX := CX0) sc_Clock___init__ (fun vs H Q E h => ?_) (fun cdv A outer s0 H vs Q E hr h => ?_)
  · obtain ⟨x, dr, dx, t, b, rfl, hx, hd, q⟩ := h
    rfl
  · obtain ⟨x, dr, dx, t, b, rfl, hx, hd, q⟩ := h
    refine ⟨_, PSs.nox (pss_cons (ps_if (pt_not (pt_truth (pe_call (ok_is_drift T) (hr.mono (by decide)) (by rfl) T.g_is_drift T.F_is_drift.kp T.b_is_drift .nil pass0 (pa_cons (pv 1) pa_nil)) (by intro _; rfl))) (pss_one ps_never) pss_nil) (pss_cons (ps_fld (pv 0) (pv 1) rfl) (pss_cons (ps_fld (pv 0) pe_non rfl) (pss_one (ps_fld (pv 0) pe_int rfl))))), ?_⟩
    refine ⟨_, rfl, dr, t, b, rfl, hd, fun H1 s1 => ⟨true, rfl, iteF ?_⟩⟩
    refine ⟨_, rfl, _, rfl, x, _, dx, _, rfl, s1 _ _ hx, T.cl, T.n_most_drift, (by decide), ?_⟩
    refine ⟨_, rfl, x, _, dx, _, rfl, upd_same, T.cl, T.n_stands, (by show 1 < 1000; decide), ?_⟩
    refine ⟨_, rfl, x, _, dx, _, rfl, upd_same, T.cl, T.n_counted, (by simp only [putF, if_neg ne_ms]; show 2 < 1000; decide), ?_⟩
    have f1 : ∀ o1 o2 o3, Fr x H (upd (upd (upd H1 x o1) x o2) x o3) := fun _ _ _ => (((fr_same s1).put).put).put
    exact q _ (f1 _ _ _) ⟨⟨dx, .non, upd_same, rfl⟩, hd.fr (f1 _ _ _) hx trivial, Int.le_refl 0⟩

theorem ok_Clock_bounds {P : Program} {w : World} {K : PySem.W.Frag} {mg : Str → Option Value} {base : Heap} {a : Nat → Addr} {d : Nat → FuncData} (T : Txt K mg a d) : FnOk P w K mg base CX0 5 (a 13) (d 13) ["self"] (spBounds K (a 22)) := by
  refine T.F_Clock_bounds.ok sc_Clock_bounds (fun vs H Q E h => ?_) (fun cdv A outer s0 H vs Q E hr h => ?_)
  · obtain ⟨c, dr, t, b, lo, hi, n, rfl, hk, q⟩ := h
    rfl
  · obtain ⟨c, dr, t, b, lo, hi, n, rfl, hk, q⟩ := h
    obtain ⟨⟨dx, sv, hc, hs⟩, hd, nn⟩ := id hk
    obtain ⟨sp, rfl, hs'⟩ := id hs
    refine ⟨_, (pss_cons (ps_if (pt_cmpR op_isN (pe_fld (pv 0) rfl) pe_non (nomark _)) (pss_one ps_never) pss_nil) (pss_one (ps_ret (pe_call (ok_bounds_behind T) (hr.mono (by decide)) (by rfl) T.g_bounds_behind T.F_bounds_behind.kp T.b_bounds_behind .nil pass0 (pa_cons (pe_fld (pv 0) rfl) (pa_cons (pe_fld (pv 0) rfl) (pa_cons (pe_fld (pv 0) rfl) pa_nil))))))), ?_⟩
    refine ⟨_, rfl, c, _, dx, _, _, rfl, hc, T.cl, T.n_stands, cf_s _ _ _, rfl, _, rfl, iteF ?_⟩
    refine ⟨_, rfl, c, _, dx, _, _, rfl, hc, T.cl, T.n_stands, cf_s _ _ _, _, rfl, c, _, dx, _, _, rfl, hc, T.cl, T.n_counted, cf_c _ _ _, _, rfl, c, _, dx, _, _, rfl, hc, T.cl, T.n_most_drift, cf_m _ _ _, ?_⟩
    exact ⟨_, some (lo, hi), n, dr, t, b, rfl, hs, nn, hd, fun p np => q p np⟩

theorem ok_Clock_set_to {P : Program} {w : World} {K : PySem.W.Frag} {mg : Str → Option Value} {base : Heap} {a : Nat → Addr} {d : Nat → FuncData} (T : Txt K mg a d) : FnOk P w K mg base CX0 6 (a 11) (d 11) ["self", "low", "high"] (spSet K (a 22)) := by
  refine T.F_Clock_set_to.ok sc_Clock_set_to (fun vs H Q E h => ?_) (fun cdv A outer s0 H vs Q E hr h => ?_)
  · obtain ⟨c, dr, t, b, st, n, low, high, rfl, hk, hlh, hle, q⟩ := h
    rfl
  · obtain ⟨c, dr, t, b, st, n, low, high, rfl, hk, hlh, hle, q⟩ := h
    refine ⟨_, (pss_cons (ps_set (i := 3) sc_Clock_set_to.nd rfl (Or.inl rfl) (pe_call (ok_bounds_behind T) (hr.mono (by decide)) (by rfl) T.g_bounds_behind T.F_bounds_behind.kp T.b_bounds_behind .nil pass0 (pa_cons (pe_fld (pv 0) rfl) (pa_cons (pe_fld (pv 0) rfl) (pa_cons (pe_fld (pv 0) rfl) pa_nil))))) (pss_cons (ps_fld (pv 0) (pe_call (ok_set_between T) (hr.mono (by decide)) (by rfl) T.g_set_between T.F_set_between.kp T.b_set_between .nil pass0 (pa_cons (pv 3) (pa_cons (pv 1) (pa_cons (pv 2) pa_nil)))) rfl) (pss_one (ps_fld (pv 0) pe_int rfl)))), ?_⟩
    obtain ⟨⟨dx, sv, hc, hs⟩, hd, nn⟩ := id hk
    refine ⟨_, rfl, c, _, dx, _, _, rfl, hc, T.cl, T.n_stands, cf_s _ _ _, _, rfl, c, _, dx, _, _, rfl, hc, T.cl, T.n_counted, cf_c _ _ _, _, rfl, c, _, dx, _, _, rfl, hc, T.cl, T.n_most_drift, cf_m _ _ _, ?_⟩
    refine ⟨_, st, n, dr, t, b, rfl, hs, nn, hd, ?_⟩
    cases st with
    | none =>
      refine ⟨_, rfl, _, rfl, _, rfl, _, none, low, high, rfl, rfl, hlh, hle, fun p np => ?_⟩
      have npc : c ≠ p := ne_of_none hc np
      refine ⟨_, rfl, c, _, dx, _, rfl, (by rw [upd_ne npc]; exact hc), T.cl, T.n_stands, cf_len _ _ _, ?_⟩
      refine ⟨_, rfl, c, _, dx, _, rfl, upd_same, T.cl, T.n_counted, (by rw [cf_put_s]; exact cf_len _ _ _), ?_⟩
      rw [cf_put_s, cf_put_c]
      have f1 : Fr c H (upd (upd (upd H p (.tup [.int low, .int high])) c (.ins (a 22) dx (cf (.ref dr) (.ref p) n))) c (.ins (a 22) dx (cf (.ref dr) (.ref p) 0))) := (((Fr.refl c H).new np).put).put
      exact q _ f1 ⟨⟨dx, .ref p, upd_same, p, rfl, SqT.of (by rw [upd_ne npc.symm, upd_ne npc.symm]; exact upd_same)⟩, hd.fr f1 hc trivial, Int.le_refl 0⟩
    | some z =>
      obtain ⟨lo, hi⟩ := z
      intro p1 np1
      refine ⟨_, rfl, _, rfl, _, rfl, _, some (lo + leastP n t b, hi + mostP n t b), low, high, rfl, ⟨p1, rfl, SqT.of upd_same⟩, hlh, hle, fun p np => ?_⟩
      have hc1 : upd H p1 (.tup [.int (lo + leastP n t b), .int (hi + mostP n t b)]) c = some (.ins (a 22) dx (cf (.ref dr) sv n)) := by
        rw [upd_ne (ne_of_none hc np1)]
        exact hc
      have npc : c ≠ p := ne_of_none hc1 np
      refine ⟨_, rfl, c, _, dx, _, rfl, (by rw [upd_ne npc]; exact hc1), T.cl, T.n_stands, cf_len _ _ _, ?_⟩
      refine ⟨_, rfl, c, _, dx, _, rfl, upd_same, T.cl, T.n_counted, (by rw [cf_put_s]; exact cf_len _ _ _), ?_⟩
      rw [cf_put_s, cf_put_c]
      have f1 : Fr c H (upd (upd (upd (upd H p1 (.tup [.int (lo + leastP n t b), .int (hi + mostP n t b)])) p (.tup [.int (setLow low (some (lo, hi)) t b n), .int (setHigh high (some (lo, hi)) t b n)])) c (.ins (a 22) dx (cf (.ref dr) (.ref p) n))) c (.ins (a 22) dx (cf (.ref dr) (.ref p) 0))) := ((((Fr.refl c H).new np1).new np).put).put
      exact q _ f1 ⟨⟨dx, .ref p, upd_same, p, rfl, SqT.of (by rw [upd_ne npc.symm, upd_ne npc.symm]; exact upd_same)⟩, hd.fr f1 hc trivial, Int.le_refl 0⟩

theorem ok_Clock_tick {P : Program} {w : World} {K : PySem.W.Frag} {mg : Str → Option Value} {base : Heap} {a : Nat → Addr} {d : Nat → FuncData} (T : Txt K mg a d) : FnOk P w K mg base CX0 4 (a 12) (d 12) ["self", "many"] (spTick K (a 22)) := by
  refine T.F_Clock_tick.ok (CX := CX0) sc_Clock_tick (fun vs H Q E h => ?_) (fun cdv A outer s0 H vs Q E hr h => ?_)
  · obtain ⟨c, dr, t, b, st, n, m, rfl, hk, m0, q⟩ := h
    rfl
  · obtain ⟨c, dr, t, b, st, n, m, rfl, hk, m0, q⟩ := h
    obtain ⟨⟨dx, sv, hc, hs⟩, hd, nn⟩ := id hk
    refine ⟨_, PSs.nox (pss_cons (ps_expr (pe_call (ok_refuse_no_count T) (hr.mono (by decide)) (by rfl) T.g_refuse_no_count T.F_refuse_no_count.kp T.b_refuse_no_count .nil pass0 (pa_cons (pv 1) pa_nil))) (pss_one (ps_fldaug (pv 0) (pv 1) in_add))), ?_⟩
    refine ⟨_, rfl, m, rfl, m0, ?_⟩
    refine ⟨_, rfl, c, _, dx, _, _, rfl, hc, T.cl, T.n_counted, cf_c _ _ _, _, rfl, n, m, rfl, rfl, dx, _, hc, cf_len _ _ _, ?_⟩
    rw [cf_put_c]
    have f1 : Fr c H (upd H c (.ins (a 22) dx (cf (.ref dr) sv (n + m)))) := (Fr.refl c H).put
    exact q _ f1 ⟨⟨dx, sv, upd_same, hs.fr f1 hc trivial⟩, hd.fr f1 hc trivial, by omega⟩

theorem ok_l_bag {P : Program} {w : World} {K : PySem.W.Frag} {mg : Str → Option Value} {base : Heap} {a : Nat → Addr} {d : Nat → FuncData} (T : Txt K mg a d) : FnOk P w K mg base CX0 1 (a 15) (d 15) ["_law_script", "_law_k"] (spBag K) := by
  refine T.F_l_bag.ok sc_l_bag (fun vs H Q E h => ?_) (fun cdv A outer s0 H vs Q E hr h => ?_)
  · obtain ⟨l, ns, k, rfl, hS, hk0, hk1, q⟩ := h
    rfl
  · obtain ⟨l, ns, k, rfl, hS, hk0, hk1, q⟩ := h
    obtain ⟨k, rfl⟩ := Int.eq_ofNat_of_zero_le hk0
    refine ⟨_, (pss_cons (ps_set (i := 2) sc_l_bag.nd rfl (Or.inl rfl) pe_int) (pss_cons (ps_if (pt_cmpR op_lt (pv 1) (pe_callB call_len_seq (by rfl) T.z_len PySem.boot_len (pa_cons (pv 0) pa_nil)) (nomark _)) (pss_one (ps_set (i := 2) sc_l_bag.nd rfl (Or.inl rfl) (pe_ix ix_list (pv 0) (pv 1) (fun _ _ => rfl)))) pss_nil) (pss_cons (ps_set (i := 3) sc_l_bag.nd rfl (Or.inl rfl) pe_int) (pss_cons (ps_if (pt_cmpR op_ge (pv 2) (pe_op op_pow pe_int pe_int) (nomark _)) (pss_one (ps_set (i := 3) sc_l_bag.nd rfl (Or.inl rfl) (pv 2))) pss_nil) (pss_one (ps_ret (pe_lst (pa_cons (pv 3) (pa_cons (pe_op op_mod (pe_op op_pow (pe_op op_add (pe_op op_add (pe_op op_mod (pv 2) pe_int) (pe_op op_mul pe_int (pv 1))) pe_int) pe_int) pe_int) pa_nil))))))))), ?_⟩
    have fin : ∀ cell great : Int, ∀ p4, H p4 = none → BagAt (upd H p4 (.lst [.int great, .int ((cell % 998244353 + 7368787 * (k : Int) + 41) ^ (3 : Int).toNat % 2147483629)])) p4 := fun cell great p4 n4 =>
      ⟨_, _, upd_same, Int.emod_nonneg _ (by decide), Int.lt_trans (Int.emod_lt_of_pos _ (by decide)) (by decide)⟩
    have pw : ∀ cell : Int, (cell % 998244353 + 7368787 * (k : Int) + 41).natAbs < 2 ^ 64 := fun cell => by
      have h1 := Int.emod_nonneg cell (show (998244353 : Int) ≠ 0 by decide)
      have h2 := Int.emod_lt_of_pos cell (show (0 : Int) < 998244353 by decide)
      have e : (2 : Nat) ^ 64 = 18446744073709551616 := by decide
      rw [e]
      omega
    refine ⟨_, rfl, _, rfl, l, _, rfl, .inl hS, _, _, rfl, rfl, _, rfl, ?_⟩
    refine ite2 (fun hlt => ?_) (fun hlt => ?_)
    · have hlt' : k < ns.length := by
        have z := of_decide_eq_true hlt
        rw [List.length_map] at z
        omega
      refine ⟨_, rfl, _, rfl, l, _, _, _, rfl, rfl, hS, atI_nat (j := k) (v := .int ns[k]) (by rw [List.getElem?_map, List.getElem?_eq_getElem hlt']; rfl), ?_⟩
      refine ⟨_, rfl, 10, 18, rfl, rfl, ⟨by decide, by decide, by decide⟩, _, _, rfl, rfl, _, rfl, ?_⟩
      refine ite2 (fun _ => ?_) (fun _ => ?_)
      · refine ⟨_, rfl, ?_⟩
        refine ⟨_, rfl, _, rfl, _, _, rfl, rfl, (by show (0 : Int) < 998244353; decide), _, rfl, _, k, rfl, rfl, .inl (m64 (by decide) (by decide)), _, _, rfl, rfl, _, 41, rfl, rfl, _, 3, rfl, rfl, ⟨by decide, by decide, pw _⟩, _, _, rfl, rfl, (by show (0 : Int) < 2147483629; decide), len2, fun p4 n4 => ?_⟩
        exact q p4 _ n4 (same_new (Same.refl H) n4) (fin _ _ p4 n4)
      · refine ⟨_, rfl, _, rfl, _, _, rfl, rfl, (by show (0 : Int) < 998244353; decide), _, rfl, _, k, rfl, rfl, .inl (m64 (by decide) (by decide)), _, _, rfl, rfl, _, 41, rfl, rfl, _, 3, rfl, rfl, ⟨by decide, by decide, pw _⟩, _, _, rfl, rfl, (by show (0 : Int) < 2147483629; decide), len2, fun p4 n4 => ?_⟩
        exact q p4 _ n4 (same_new (Same.refl H) n4) (fin _ _ p4 n4)
    · refine ⟨_, rfl, 10, 18, rfl, rfl, ⟨by decide, by decide, by decide⟩, _, _, rfl, rfl, _, rfl, ?_⟩
      refine iteDF (by decide) ?_
      refine ⟨_, rfl, _, rfl, _, _, rfl, rfl, (by show (0 : Int) < 998244353; decide), _, rfl, _, k, rfl, rfl, .inl (m64 (by decide) (by decide)), _, _, rfl, rfl, _, 41, rfl, rfl, _, 3, rfl, rfl, ⟨by decide, by decide, pw _⟩, _, _, rfl, rfl, (by show (0 : Int) < 2147483629; decide), len2, fun p4 n4 => ?_⟩
      exact q p4 _ n4 (same_new (Same.refl H) n4) (fin _ _ p4 n4)

theorem ok_l_out {P : Program} {w : World} {K : PySem.W.Frag} {mg : Str → Option Value} {base : Heap} {a : Nat → Addr} {d : Nat → FuncData} (T : Txt K mg a d) : FnOk P w K mg base CX0 1 (a 16) (d 16) ["_law_bag_here", "_law_many"] spOut := by
  refine T.F_l_out.ok sc_l_out (fun vs H Q E h => ?_) (fun cdv A outer s0 H vs Q E hr h => ?_)
  · obtain ⟨s, m, rfl, ⟨x, y, hs, y0, y1⟩, m0, m1, q⟩ := h
    rfl
  · obtain ⟨s, m, rfl, ⟨x, y, hs, y0, y1⟩, m0, m1, q⟩ := h
    refine ⟨_, (pss_cons (ps_if (pt_cmpR op_gt (pe_ix ix_list (pv 0) pe_int (fun _ _ => rfl)) pe_int (nomark _)) (pss_cons (ps_set (i := 2) sc_l_out.nd rfl (Or.inl rfl) (pe_op op_mod (pe_ix ix_list (pv 0) pe_int (fun _ _ => rfl)) (pv 1))) (pss_cons (ps_asg (pe_op op_fdivW (pe_ix ix_list (pv 0) pe_int (fun _ _ => rfl)) (pv 1)) (pg_sub (pv 0) pe_int set_list)) (pss_one (ps_ret (pv 2))))) pss_nil) (pss_cons (ps_asg (pe_op op_mod (pe_op op_add (pe_op op_mul (pe_ix ix_list (pv 0) pe_int (fun _ _ => rfl)) pe_int) pe_int) pe_int) (pg_sub (pv 0) pe_int set_list)) (pss_one (ps_ret (pe_op op_mod (pe_op op_fdiv (pe_op op_mod (pe_op op_mul (pe_ix ix_list (pv 0) pe_int (fun _ _ => rfl)) (pe_op op_add (pe_op op_fdiv (pe_ix ix_list (pv 0) pe_int (fun _ _ => rfl)) pe_int) pe_int)) pe_int) pe_int) (pv 1)))))), ?_⟩
    refine ⟨_, rfl, s, _, 0, _, rfl, rfl, SqL.of hs, rfl, x, 0, rfl, rfl, _, rfl, ?_⟩
    refine ite2 (fun _ => ?_) (fun _ => ?_)
    · refine ⟨_, rfl, s, _, 0, _, rfl, rfl, SqL.of hs, rfl, _, rfl, x, m, rfl, rfl, m0, ?_⟩
      refine ⟨_, rfl, s, _, 0, _, rfl, rfl, SqL.of hs, rfl, _, rfl, x, m, rfl, rfl, divW m0 m1, _, rfl, s, _, 0, 0, rfl, rfl, hs, rfl, ?_⟩
      refine ⟨_, rfl, ?_⟩
      exact q _ _ (Int.emod_nonneg _ (by omega)) (Int.emod_lt_of_pos _ m0) (Fr.refl s H).put ⟨_, _, upd_same, y0, y1⟩
    · refine ⟨_, rfl, s, _, 1, _, rfl, rfl, SqL.of hs, rfl, y, 40692, rfl, rfl, .inr (m64 (by decide) (by decide)), _, 12345, rfl, rfl, _, 2147483399, rfl, rfl, (by show (0 : Int) < 2147483399; decide), _, rfl, s, _, 1, 1, rfl, rfl, hs, rfl, ?_⟩
      have e0 : 0 ≤ (y * 40692 + 12345) % 2147483399 := Int.emod_nonneg _ (by decide)
      have e1 : (y * 40692 + 12345) % 2147483399 < 2147483399 := Int.emod_lt_of_pos _ (by decide)
      refine ⟨_, rfl, s, _, 1, _, rfl, rfl, SqL.of upd_same, rfl, _, rfl, s, _, 1, _, rfl, rfl, SqL.of upd_same, rfl, _, 1024, rfl, rfl, ⟨by decide, by decide⟩, _, 7, rfl, rfl, _, _, rfl, rfl, .inl (m64 (by omega) (by omega)), _, 2147483647, rfl, rfl, (by show (0 : Int) < 2147483647; decide), _, 32, rfl, rfl, ⟨by decide, by decide⟩, _, rfl, _, m, rfl, rfl, m0, ?_⟩
      exact q _ _ (Int.emod_nonneg _ (by omega)) (Int.emod_lt_of_pos _ m0) (Fr.refl s H).put ⟨_, _, upd_same, e0, by omega⟩

theorem ok_l_drift {P : Program} {w : World} {K : PySem.W.Frag} {mg : Str → Option Value} {base : Heap} {a : Nat → Addr} {d : Nat → FuncData} (T : Txt K mg a d) : FnOk P w K mg base CX0 2 (a 17) (d 17) ["_law_bag_here"] (spLDrift K) := by
  refine T.F_l_drift.ok sc_l_drift (fun vs H Q E h => ?_) (fun cdv A outer s0 H vs Q E hr h => ?_)
  · obtain ⟨s, rfl, hs, q⟩ := h
    rfl
  · obtain ⟨s, rfl, hs, q⟩ := h
    refine ⟨_, (pss_cons (ps_set (i := 1) sc_l_drift.nd rfl (Or.inl rfl) (pe_op op_add pe_int (pe_call (ok_l_out T) (hr.mono (by decide)) (by rfl) T.g_l_out T.F_l_out.kp T.b_l_out .nil pass0 (pa_cons (pv 0) (pa_cons (pe_ix ix_list (pe_lst (pa_cons pe_int (pa_cons pe_int (pa_cons pe_int (pa_cons pe_int pa_nil))))) (pe_call (ok_l_out T) (hr.mono (by decide)) (by rfl) T.g_l_out T.F_l_out.kp T.b_l_out .nil pass0 (pa_cons (pv 0) (pa_cons pe_int pa_nil))) (fun _ _ => rfl)) pa_nil))))) (pss_cons (ps_set (i := 2) sc_l_drift.nd rfl (Or.inl rfl) (pe_call (ok_l_out T) (hr.mono (by decide)) (by rfl) T.g_l_out T.F_l_out.kp T.b_l_out .nil pass0 (pa_cons (pv 0) (pa_cons (pv 1) pa_nil)))) (pss_cons (ps_set (i := 3) sc_l_drift.nd rfl (Or.inl rfl) (pv 2)) (pss_cons (ps_set (i := 4) sc_l_drift.nd rfl (Or.inl rfl) (pv 1)) (pss_cons (ps_while PassesOwn.never (pt_cmpR op_gt (pv 4) pe_int (nomark _)) (pss_one (ps_par (i := 3) (j := 4) (by rfl) sc_l_drift.nd rfl rfl (by decide) rfl rfl (pa_cons (pv 4) (pa_cons (pe_op op_mod (pv 3) (pv 4)) pa_nil)) (by rfl)))) (pss_one (ps_ret (pe_tup (pa_cons (pe_op op_fdivW (pv 2) (pv 3)) (pa_cons (pe_op op_fdivW (pv 1) (pv 3)) pa_nil)))))))))), ?_⟩
    refine ⟨_, rfl, (by decide : 4 ≤ sizeLine), fun p1 n1 => ?_⟩
    refine ⟨_, rfl, s, 4, rfl, hs.new n1, (by decide), (by decide), fun r1 H1 r10 r11 k1 b1 => ?_⟩
    have g1 : H1 p1 = some (.lst [.int 1, .int 9, .int 100, .int 1000]) := k1 _ _ (hs.ne_new n1) upd_same
    obtain ⟨z, hz, z0, z1⟩ : ∃ z : Int, atI [V.int 1, V.int 9, V.int 100, V.int 1000] r1 = some (V.int z) ∧ 0 < z ∧ z ≤ 1000 := by
      have : r1 = 0 ∨ r1 = 1 ∨ r1 = 2 ∨ r1 = 3 := by omega
      rcases this with rfl | rfl | rfl | rfl
      · exact ⟨1, rfl, by decide, by decide⟩
      · exact ⟨9, rfl, by decide, by decide⟩
      · exact ⟨100, rfl, by decide, by decide⟩
      · exact ⟨1000, rfl, by decide, by decide⟩
    have f1 : Fr s H H1 := ((Fr.refl s H).new n1).trans k1
    refine ⟨p1, _, r1, _, rfl, rfl, SqL.of g1, hz, ?_⟩
    refine ⟨s, z, rfl, b1, z0, by omega, fun r2 H2 r20 r21 k2 b2 => ?_⟩
    have f2 := f1.trans k2
    refine ⟨1, r2, rfl, rfl, ?_⟩
    refine ⟨_, rfl, _, rfl, s, _, rfl, b2, by omega, by omega, fun r3 H3 r30 r31 k3 b3 => ?_⟩
    have f3 := f2.trans k3
    refine ⟨_, rfl, _, rfl, ?_⟩
    refine ⟨fun m σ H' => H' = H3 ∧ ∃ h t : Int, σ = [some (.ref s), some (.int (1 + r2)), some (.int r3), some (.int h), some (.int t)] ∧ m = t.toNat ∧ 0 ≤ h ∧ 0 ≤ t ∧ Int.gcd h t = Int.gcd r3 (1 + r2), ⟨_, rfl, r3, 1 + r2, rfl, rfl, r30, by omega, rfl⟩, ?_⟩
    rintro m σ H' ⟨rfl, h, t, rfl, rfl, h0, t0, eg⟩
    refine ⟨_, rfl, t, 0, rfl, rfl, _, rfl, ?_⟩
    by_cases tp : 0 < t
    · refine iteDT tp ?_
      refine ⟨_, fun _ _ z => z, ?_⟩
      refine ⟨_, rfl, _, rfl, _, rfl, h, t, rfl, rfl, tp, _, _, rfl, ?_⟩
      have e0 := Int.emod_nonneg h (show t ≠ 0 by omega)
      have e1 := Int.emod_lt_of_pos h tp
      exact ⟨(h % t).toNat, by omega, rfl, t, h % t, rfl, rfl, t0, e0, (gcd_turn h0 tp).trans eg⟩
    · refine iteDF tp ?_
      have hz : t = 0 := by omega
      subst hz
      obtain ⟨hp, e1, e2, e3, hl⟩ := low_end r30 (by omega) h0 eg
      refine ⟨_, rfl, _, rfl, r3, h, rfl, rfl, divW hp (by omega), _, rfl, _, rfl, 1 + r2, h, rfl, rfl, divW hp (by omega), len2, fun p np => ?_⟩
      have t0' := nn_of_mul hp r30 e1
      have l0 := pos_of_mul hp (show 0 < 1 + r2 by omega) e2
      have l1 := le_of_gmul hp (Int.le_of_lt l0) e2
      exact q _ _ p _ (f3.new np) (b3.new np) ⟨SqT.of upd_same, t0', lt_cancel hp (by omega), by omega, e3⟩ upd_same

theorem ok_Clock___eq__ {P : Program} {w : World} {K : PySem.W.Frag} {mg : Str → Option Value} {base : Heap} {a : Nat → Addr} {d : Nat → FuncData} (T : Txt K mg a d) : FnOk P w K mg base CX0 1 (a 14) (d 14) ["self", "other"] (spEqC K (a 22)) := by
  refine T.F_Clock___eq__.ok sc_Clock___eq__ (fun vs H Q E h => ?_) (fun cdv A outer s0 H vs Q E hr h => ?_)
  · obtain ⟨c, c', dr, dr', t, b, n, lo, hi, rfl, hk, hk', q⟩ := h
    rfl
  · obtain ⟨c, c', dr, dr', t, b, n, lo, hi, rfl, hk, hk', q⟩ := h
    obtain ⟨⟨dx, sv, hc, hs⟩, hd, nn⟩ := id hk
    obtain ⟨⟨dx', sv', hc', hs'⟩, hd', nn'⟩ := id hk'
    obtain ⟨sp, rfl, hs⟩ := hs
    obtain ⟨sp', rfl, hs'⟩ := hs'
    refine ⟨_, (pss_one (ps_ret (pe_and (pe_callB call_isi (by rfl) T.z_isinstance (by decide +kernel) (pa_cons (pv 1) (pa_cons (pe_glob (v := .ref (a 22)) (by rfl) T.g_Clock rfl) pa_nil))) (pe_and (pe_cmpR (op_eqD hr.units) (pe_fld (pv 0) rfl) (pe_fld (pv 1) rfl) (nomark _)) (pe_and (pe_cmpR (op_eqD hr.units) (pe_fld (pv 0) rfl) (pe_fld (pv 1) rfl) (nomark _)) (pe_one (pe_cmpR op_eq (pe_fld (pv 0) rfl) (pe_fld (pv 1) rfl) (nomark _)))))))), ?_⟩
    refine ⟨_, rfl, _, .ref (a 22), .ref (a 22), .ref (a 22), true, rfl, .own (a 22), .base (.ins hc' T.cl T.i1 T.i2 T.i3 T.i4), T.i5, true, rfl, iteT ?_⟩
    refine ⟨_, rfl, c, _, dx, _, _, rfl, hc, T.cl, T.n_most_drift, cf_m _ _ _, _, rfl, c', _, dx', _, _, rfl, hc', T.cl, T.n_most_drift, cf_m _ _ _, .tuple [.int t, .int b], .tuple [.int t, .int b], .tup hd.1 (.cons (.int _) (.cons (.int _) .nil)), .tup hd'.1 (.cons (.int _) (.cons (.int _) .nil)), rfl, rfl, _, rfl, iteBT (eqv_two rfl rfl) ?_⟩
    refine ⟨_, rfl, c, _, dx, _, _, rfl, hc, T.cl, T.n_stands, cf_s _ _ _, _, rfl, c', _, dx', _, _, rfl, hc', T.cl, T.n_stands, cf_s _ _ _, .tuple [.int lo, .int hi], .tuple [.int lo, .int hi], .tup hs (.cons (.int _) (.cons (.int _) .nil)), .tup hs' (.cons (.int _) (.cons (.int _) .nil)), rfl, rfl, _, rfl, iteBT (eqv_two rfl rfl) ?_⟩
    refine ⟨_, rfl, c, _, dx, _, _, rfl, hc, T.cl, T.n_counted, cf_c _ _ _, _, rfl, c', _, dx', _, _, rfl, hc', T.cl, T.n_counted, cf_c _ _ _, rfl, ?_⟩
    exact bl_of (Q := Q) rfl q

theorem ok_l_less {P : Program} {w : World} {K : PySem.W.Frag} {mg : Str → Option Value} {base : Heap} {a : Nat → Addr} {d : Nat → FuncData} (T : Txt K mg a d) : FnOk P w K mg base CX0 2 (a 18) (d 18) ["_law_bag_here", "_law_drift_here"] (spLess K) := by
  refine T.F_l_less.ok sc_l_less (fun vs H Q E h => ?_) (fun cdv A outer s0 H vs Q E hr h => ?_)
  · obtain ⟨s, dr, t, b, rfl, hs, hd, q⟩ := h
    rfl
  · obtain ⟨s, dr, t, b, rfl, hs, hd, q⟩ := h
    obtain ⟨hS, t0, tb, b1, _⟩ := id hd
    refine ⟨_, (pss_cons (ps_set (i := 2) sc_l_less.nd rfl (Or.inl rfl) (pe_call (ok_l_out T) (hr.mono (by decide)) (by rfl) T.g_l_out T.F_l_out.kp T.b_l_out .nil pass0 (pa_cons (pv 0) (pa_cons (pe_op op_add (pe_ix ix_tup (pv 1) pe_int (fun _ _ => rfl)) pe_int) pa_nil)))) (pss_cons (ps_set (i := 3) sc_l_less.nd rfl (Or.inl rfl) (pv 2)) (pss_cons (ps_set (i := 4) sc_l_less.nd rfl (Or.inl rfl) (pe_ix ix_tup (pv 1) pe_int (fun _ _ => rfl))) (pss_cons (ps_while PassesOwn.never (pt_cmpR op_gt (pv 4) pe_int (nomark _)) (pss_one (ps_par (i := 3) (j := 4) (by rfl) sc_l_less.nd rfl rfl (by decide) rfl rfl (pa_cons (pv 4) (pa_cons (pe_op op_mod (pv 3) (pv 4)) pa_nil)) (by rfl)))) (pss_one (ps_ret (pe_tup (pa_cons (pe_op op_fdivW (pv 2) (pv 3)) (pa_cons (pe_op op_fdivW (pe_ix ix_tup (pv 1) pe_int (fun _ _ => rfl)) (pv 3)) pa_nil))))))))), ?_⟩
    refine ⟨_, rfl, _, rfl, dr, _, 0, _, rfl, rfl, hS, rfl, t, 1, rfl, rfl, s, _, rfl, hs, by omega, by omega, fun r3 H3 r30 r31 k3 b3 => ?_⟩
    have hS3 := (hd.bag k3 hs).1
    refine ⟨_, rfl, _, rfl, dr, _, 1, _, rfl, rfl, hS3, rfl, ?_⟩
    refine ⟨fun m σ H' => H' = H3 ∧ ∃ h u : Int, σ = [some (.ref s), some (.ref dr), some (.int r3), some (.int h), some (.int u)] ∧ m = u.toNat ∧ 0 ≤ h ∧ 0 ≤ u ∧ Int.gcd h u = Int.gcd r3 b, ⟨_, rfl, r3, b, rfl, rfl, r30, by omega, rfl⟩, ?_⟩
    rintro m σ H' ⟨rfl, h, u, rfl, rfl, h0, u0, eg⟩
    refine ⟨_, rfl, u, 0, rfl, rfl, _, rfl, ?_⟩
    by_cases tp : 0 < u
    · refine iteDT tp ?_
      refine ⟨_, fun _ _ z => z, ?_⟩
      refine ⟨_, rfl, _, rfl, _, rfl, h, u, rfl, rfl, tp, _, _, rfl, ?_⟩
      have e0 := Int.emod_nonneg h (show u ≠ 0 by omega)
      have e1 := Int.emod_lt_of_pos h tp
      exact ⟨(h % u).toNat, by omega, rfl, u, h % u, rfl, rfl, u0, e0, (gcd_turn h0 tp).trans eg⟩
    · refine iteDF tp ?_
      have hz : u = 0 := by omega
      subst hz
      obtain ⟨hp, e1, e2, e3, hl⟩ := low_end r30 (show 0 < b by omega) h0 eg
      refine ⟨_, rfl, _, rfl, r3, h, rfl, rfl, divW hp (by omega), _, rfl, dr, _, 1, _, rfl, rfl, hS3, rfl, _, rfl, b, h, rfl, rfl, divW hp (by omega), len2, fun p np => ?_⟩
      have t0' := nn_of_mul hp r30 e1
      have l0 := pos_of_mul hp (show 0 < b by omega) e2
      have l1 := le_of_gmul hp (Int.le_of_lt l0) e2
      have m1 : r3 / h * b ≤ t * (b / h) := by
        have z1 : r3 / h * b = r3 * (b / h) := by
          have y1 : r3 / h * b = r3 / h * (h * (b / h)) := by rw [← e2]
          have y2 : r3 * (b / h) = h * (r3 / h) * (b / h) := by rw [← e1]
          rw [y1, y2]
          grind
        rw [z1]
        exact Int.mul_le_mul_of_nonneg_right (by omega) (Int.le_of_lt l0)
      exact q _ _ p _ (k3.new np) (b3.new np) ⟨SqT.of upd_same, t0', lt_cancel hp (by omega), by omega, e3⟩ m1

theorem ok_law {P : Program} {w : World} {K : PySem.W.Frag} {mg : Str → Option Value} {base : Heap} {a : Nat → Addr} {d : Nat → FuncData} (T : Txt K mg a d) : FnOk P w K mg base CX0 8 (a 19) (d 19) ["_law_script"] (spLaw K) := by
  refine T.F_law.ok sc_law (fun vs H Q E h => ?_) (fun cdv A outer s0 H vs Q E hr h => ?_)
  · obtain ⟨l, ns, rfl, hS, hl, q⟩ := h
    rfl
  · obtain ⟨l, ns, rfl, hS, hl, q⟩ := h
    obtain ⟨of, lof, tof⟩ := T.leq
    refine ⟨_, (pss_cons (ps_for PassesOwn.never rfl (pi_range1 (by rfl) T.z_range (pa_cons (pe_callB (call_max2 rfl) (by rfl) T.z_max (by decide +kernel) (pa_cons pe_int (pa_cons (pe_callB (call_min2 rfl) (by rfl) T.z_min (by decide +kernel) (pa_cons (pe_callB call_len_seq (by rfl) T.z_len PySem.boot_len (pa_cons (pv 0) pa_nil)) (pa_cons pe_int pa_nil))) pa_nil))) pa_nil)) (pg_name (i := 1) sc_law.nd rfl (.inl rfl)) (pss_cons (ps_set (i := 2) sc_law.nd rfl (Or.inr rfl) (pe_call (ok_l_bag T) (hr.mono (by decide)) (by rfl) T.g_l_bag T.F_l_bag.kp T.b_l_bag .nil pass0 (pa_cons (pv 0) (pa_cons (pv 1) pa_nil)))) (pss_cons (ps_set (i := 3) sc_law.nd rfl (Or.inl rfl) (pe_call (ok_l_drift T) (hr.mono (by decide)) (by rfl) T.g_l_drift T.F_l_drift.kp T.b_l_drift .nil pass0 (pa_cons (pv 2) pa_nil))) (pss_cons (ps_set (i := 4) sc_law.nd rfl (Or.inl rfl) (pe_lst (pa_cons (pe_make T.m_Clock___init__ (ok_Clock___init__ T) (hr.mono (by decide)) (by rfl) T.g_Clock T.b_Clock___init__ .nil pass0 (pa_cons (pv 3) pa_nil)) (pa_cons (pe_make T.m_Clock___init__ (ok_Clock___init__ T) (hr.mono (by decide)) (by rfl) T.g_Clock T.b_Clock___init__ .nil pass0 (pa_cons (pv 3) pa_nil)) (pa_cons (pe_make T.m_Clock___init__ (ok_Clock___init__ T) (hr.mono (by decide)) (by rfl) T.g_Clock T.b_Clock___init__ .nil pass0 (pa_cons (pe_call (ok_l_less T) (hr.mono (by decide)) (by rfl) T.g_l_less T.F_l_less.kp T.b_l_less .nil pass0 (pa_cons (pv 2) (pa_cons (pv 3) pa_nil))) pa_nil)) (pa_cons (pe_make T.m_Clock___init__ (ok_Clock___init__ T) (hr.mono (by decide)) (by rfl) T.g_Clock T.b_Clock___init__ .nil pass0 (pa_cons (pe_tup (pa_cons pe_int (pa_cons pe_int pa_nil))) pa_nil)) pa_nil)))))) (pss_cons (ps_set (i := 5) sc_law.nd rfl (Or.inl rfl) (pe_op op_sub (pe_call (ok_l_out T) (hr.mono (by decide)) (by rfl) T.g_l_out T.F_l_out.kp T.b_l_out .nil pass0 (pa_cons (pv 2) (pa_cons pe_int pa_nil))) pe_int)) (pss_cons (ps_set (i := 6) sc_law.nd rfl (Or.inl rfl) (pe_op op_add (pv 5) (pe_call (ok_l_out T) (hr.mono (by decide)) (by rfl) T.g_l_out T.F_l_out.kp T.b_l_out .nil pass0 (pa_cons (pv 2) (pa_cons pe_int pa_nil))))) (pss_cons (ps_for PassesOwn.never rfl (pi_list (pv 4)) (pg_name (i := 7) sc_law.nd rfl (.inl rfl)) (pss_one (ps_expr (pe_meth (pv 7) T.cl T.m_Clock_set_to (ok_Clock_set_to T) (hr.mono (by decide)) T.b_Clock_set_to .nil pass0 (pa_cons (pv 5) (pa_cons (pv 6) pa_nil)))))) (pss_cons (ps_setLc (i := 8) (own := [("_law_turn", 13)]) (g := gName 13) (te := tCall spOut [] E0 (tCons (tVar 2) (tCons (tOp (rIxL K) (tLst (tCons (tC (.int 2)) (tCons (tC (.int 30)) (tCons (tOp (rI CPow fun i j => .int (i ^ j.toNat)) (tC (.int 10)) (tC (.int 6))) tNil)))) (tCall spOut [] E0 (tCons (tVar 2) (tCons (tC (.int 3)) tNil)))) tNil))) (by rfl) sc_law.nd rfl rfl (sw_true rfl rfl rfl (by decide +kernel)) (pi_range1 (by rfl) T.z_range (pa_cons (pe_op op_add pe_int (pe_call (ok_l_out T) (hr.mono (by decide)) (by rfl) T.g_l_out T.F_l_out.kp T.b_l_out .nil pass0 (pa_cons (pv 2) (pa_cons pe_int pa_nil)))) pa_nil)) (blkOk_by (own := [("_law_turn", 13)]) (N := ["_law_script", "_law_k", "_law_bag_here", "_law_drift_here", "_law_some", "_law_low", "_law_high", "_law_clock", "_law_parts", "_law_last", "_law_part", "_law_now", "_law_within", "_law_turn"]) (sc := defScope s_law) (by decide +kernel)) (fun _ _ _ _ _ => (pg_name (i := 13) sc_law.nd rfl (.inl rfl))) (fun _ _ _ _ _ => pts_nil) (fun _ _ _ _ _ => (pe_call (ok_l_out T) (hr.mono (by decide)) (by rfl) T.g_l_out T.F_l_out.kp T.b_l_out .nil pass0 (pa_cons (pv 2) (pa_cons (pe_ix ix_list (pe_lst (pa_cons pe_int (pa_cons pe_int (pa_cons (pe_op op_pow pe_int pe_int) pa_nil)))) (pe_call (ok_l_out T) (hr.mono (by decide)) (by rfl) T.g_l_out T.F_l_out.kp T.b_l_out .nil pass0 (pa_cons (pv 2) (pa_cons pe_int pa_nil))) (fun _ _ => rfl)) pa_nil))))) (pss_cons (ps_set (i := 9) sc_law.nd rfl (Or.inl rfl) (pe_tup (pa_cons (pv 5) (pa_cons (pv 6) pa_nil)))) (pss_cons (ps_for PassesOwn.never rfl (pi_list (pv 8)) (pg_name (i := 10) sc_law.nd rfl (.inl rfl)) (pss_cons (ps_expr (pe_meth (pe_ix ix_list (pv 4) pe_int (fun _ _ => rfl)) T.cl T.m_Clock_tick (ok_Clock_tick T) (hr.mono (by decide)) T.b_Clock_tick .nil pass0 (pa_cons (pv 10) pa_nil))) (pss_cons (ps_set (i := 11) sc_law.nd rfl (Or.inl rfl) (pe_meth0 (pe_ix ix_list (pv 4) pe_int (fun _ _ => rfl)) T.cl T.m_Clock_bounds (ok_Clock_bounds T) (hr.mono (by decide)) T.b_Clock_bounds .nil pass0)) (pss_cons (ps_if (PW.pt (pw_or (pt_cmpR op_lt (pe_ix ix_tup (pv 11) pe_int (fun _ _ => rfl)) (pe_ix ix_tup (pv 9) pe_int (fun _ _ => rfl)) (nomark _)) (pw_or (pt_cmpR op_lt (pe_ix ix_tup (pv 11) pe_int (fun _ _ => rfl)) (pe_ix ix_tup (pv 9) pe_int (fun _ _ => rfl)) (nomark _)) (pw_or1 (pt_cmpR op_lt (pe_op op_sub (pe_ix ix_tup (pv 11) pe_int (fun _ _ => rfl)) (pe_ix ix_tup (pv 11) pe_int (fun _ _ => rfl))) (pe_op op_sub (pe_ix ix_tup (pv 9) pe_int (fun _ _ => rfl)) (pe_ix ix_tup (pv 9) pe_int (fun _ _ => rfl))) (nomark _)))))) (pss_one (ps_ret pe_bl)) pss_nil) (pss_one (ps_set (i := 9) sc_law.nd rfl (Or.inl rfl) (pv 11))))))) (pss_cons (ps_for PassesOwn.never rfl (pi_list (pe_lst (pa_cons (pe_ix ix_list (pv 4) pe_int (fun _ _ => rfl)) (pa_cons (pe_ix ix_list (pv 4) pe_int (fun _ _ => rfl)) (pa_cons (pe_ix ix_list (pv 4) pe_int (fun _ _ => rfl)) pa_nil))))) (pg_name (i := 7) sc_law.nd rfl (.inl rfl)) (pss_one (ps_expr (pe_meth (pv 7) T.cl T.m_Clock_tick (ok_Clock_tick T) (hr.mono (by decide)) T.b_Clock_tick .nil pass0 (pa_cons (pe_callB (cr_sum rfl) (by rfl) T.z_sum (by decide +kernel) (pa_cons (pv 8) pa_nil)) pa_nil))))) (pss_cons (ps_if (PW.pt (pw_or (pt_cmpR (op_neD hr.units) (pe_meth0 (pe_ix ix_list (pv 4) pe_int (fun _ _ => rfl)) T.cl T.m_Clock_bounds (ok_Clock_bounds T) (hr.mono (by decide)) T.b_Clock_bounds .nil pass0) (pv 9) (nomark _)) (pw_or1 (pt_cmpR (op_neOwn (ok_Clock___eq__ T) (hr.mono (by decide)) T.cls T.nok T.neq T.nne lof tof T.b_Clock___eq__ pass0) (pe_ix ix_list (pv 4) pe_int (fun _ _ => rfl)) (pe_ix ix_list (pv 4) pe_int (fun _ _ => rfl)) (nomark _))))) (pss_one (ps_ret pe_bl)) pss_nil) (pss_cons (ps_set (i := 12) sc_law.nd rfl (Or.inl rfl) (pe_meth0 (pe_ix ix_list (pv 4) pe_int (fun _ _ => rfl)) T.cl T.m_Clock_bounds (ok_Clock_bounds T) (hr.mono (by decide)) T.b_Clock_bounds .nil pass0)) (pss_cons (ps_if (pt_not (pt_chain3 op_le op_le op_le (pe_ix ix_tup (pv 9) pe_int (fun _ _ => rfl)) (pe_ix ix_tup (pv 12) pe_int (fun _ _ => rfl)) (pe_ix ix_tup (pv 12) pe_int (fun _ _ => rfl)) (pe_ix ix_tup (pv 9) pe_int (fun _ _ => rfl)))) (pss_one (ps_ret pe_bl)) pss_nil) (pss_one (ps_if (pt_cmpR (op_neD hr.units) (pe_meth0 (pe_ix ix_list (pv 4) pe_int (fun _ _ => rfl)) T.cl T.m_Clock_bounds (ok_Clock_bounds T) (hr.mono (by decide)) T.b_Clock_bounds .nil pass0) (pe_tup (pa_cons (pe_op op_add (pv 5) (pe_callB (cr_sum rfl) (by rfl) T.z_sum (by decide +kernel) (pa_cons (pv 8) pa_nil))) (pa_cons (pe_op op_add (pv 6) (pe_callB (cr_sum rfl) (by rfl) T.z_sum (by decide +kernel) (pa_cons (pv 8) pa_nil))) pa_nil))) (nomark _)) (pss_one (ps_ret pe_bl)) pss_nil)))))))))))))))) (pss_one (ps_ret pe_bl))), ?_⟩
    refine ⟨_, rfl, l, _, rfl, .inl hS, _, 20, rfl, 1, _, rfl, _, rfl, ?_, ?_, ?_⟩
    · rw [List.length_map]; (repeat' split) <;> omega
    · rw [List.length_map]; (repeat' split) <;> omega
    have hN : (if (if (20 : Int) < ((ns.map V.int).length : Int) then (20 : Int) else ((ns.map V.int).length : Int)) > 1 then (if (20 : Int) < ((ns.map V.int).length : Int) then (20 : Int) else ((ns.map V.int).length : Int)) else (1 : Int)).toNat ≤ 63 := by
      rw [List.length_map]; (repeat' split) <;> omega
    refine for_range (fun i σ H' => Same H H' ∧ ∃ v1 v2 v3 v4 v5 v6 v7 v8 v9 v10 v11 v12 v13 : Option V, σ = [some (.ref l), v1, v2, v3, v4, v5, v6, v7, v8, v9, v10, v11, v12, v13]) ⟨Same.refl H, none, none, none, none, none, none, none, none, none, none, none, none, none, rfl⟩ ?_ ?_
    · rintro i σ H1 hi ⟨s1, v1, v2, v3, v4, v5, v6, v7, v8, v9, v10, v11, v12, v13, rfl⟩
      refine ⟨_, rfl, _, rfl, l, ns, _, rfl, s1.seq hS, by omega, by omega, fun s H2 ns0 s2 bs2 => ?_⟩
      have sH2 : Same H H2 := s1.trans s2
      have hs0 : H s = none := s1.free ns0
      refine ⟨_, rfl, s, rfl, bs2, fun t0 b0 dr H3 k3 b3 hd3 _ => ?_⟩
      have sH3 : Same H H3 := k3.over sH2 hs0
      -- four clocks
      refine ⟨_, rfl, fun x0 dx0 nx0 ndx0 _ => ?_⟩
      have m0 : Same H3 (upd (upd H3 dx0 (.own x0)) x0 (.ins (a 22) dx0 [])) := same_make nx0 ndx0
      have f0 : H x0 = none := sH3.free nx0
      refine ⟨x0, dr, dx0, t0, b0, rfl, upd_same, hd3.same m0, fun H4 k4 hk4 => ⟨rfl, ?_⟩⟩
      have sH4 : Same H H4 := k4.over (sH3.trans m0) f0
      have b4 : BagAt H4 s := (b3.same m0).fr k4 (b3.ne_none nx0)
      have hd4 : DrOk K H4 dr t0 b0 := hk4.dr_
      refine ⟨_, rfl, fun x1 dx1 nx1 ndx1 _ => ?_⟩
      have m1 : Same H4 (upd (upd H4 dx1 (.own x1)) x1 (.ins (a 22) dx1 [])) := same_make nx1 ndx1
      have f1 : H x1 = none := sH4.free nx1
      obtain ⟨o0, eo0, _⟩ := hk4.ex
      have n01 : x0 ≠ x1 := ne_of_none eo0 nx1
      refine ⟨x1, dr, dx1, t0, b0, rfl, upd_same, hd4.same m1, fun H5 k5 hk5 => ⟨rfl, ?_⟩⟩
      have sH5 : Same H H5 := k5.over (sH4.trans m1) f1
      have b5 : BagAt H5 s := (b4.same m1).fr k5 (b4.ne_none nx1)
      have c50 : CkAt K (a 22) H5 x0 dr t0 b0 none 0 := (hk4.same m1).fr k5 upd_same trivial n01
      refine ⟨_, rfl, _, rfl, s, dr, t0, b0, rfl, b5, hk5.dr_, fun t2 b2 d2 H6 k6 b6 hd6 hle => ?_⟩
      have sH6 : Same H H6 := k6.over sH5 hs0
      have c60 := c50.bag k6 b5
      have c61 := hk5.bag k6 b5
      intro x2 dx2 nx2 ndx2 _
      have m2 : Same H6 (upd (upd H6 dx2 (.own x2)) x2 (.ins (a 22) dx2 [])) := same_make nx2 ndx2
      have f2 : H x2 = none := sH6.free nx2
      obtain ⟨o60, eo60, _⟩ := c60.ex
      obtain ⟨o61, eo61, _⟩ := c61.ex
      have n02 : x0 ≠ x2 := ne_of_none eo60 nx2
      have n12 : x1 ≠ x2 := ne_of_none eo61 nx2
      refine ⟨x2, d2, dx2, t2, b2, rfl, upd_same, hd6.same m2, fun H7 k7 hk7 => ⟨rfl, ?_⟩⟩
      have sH7 : Same H H7 := k7.over (sH6.trans m2) f2
      have b7 : BagAt H7 s := (b6.same m2).fr k7 (b6.ne_none nx2)
      have c70 : CkAt K (a 22) H7 x0 dr t0 b0 none 0 := (c60.same m2).fr k7 upd_same trivial n02
      have c71 : CkAt K (a 22) H7 x1 dr t0 b0 none 0 := (c61.same m2).fr k7 upd_same trivial n12
      refine ⟨len2, fun d3 nd3 => ?_⟩
      have sd3 : Same H7 (upd H7 d3 (.tup [.int 0, .int 1])) := same_new (Same.refl H7) nd3
      have hd3' : DrOk K (upd H7 d3 (.tup [.int 0, .int 1])) d3 0 1 := ⟨SqT.of upd_same, by decide, by decide, by decide, by decide⟩
      intro x3 dx3 nx3 ndx3 _
      have m3 : Same _ (upd (upd (upd H7 d3 (.tup [.int 0, .int 1])) dx3 (.own x3)) x3 (.ins (a 22) dx3 [])) := same_make nx3 ndx3
      have m3' := sd3.trans m3
      have f3 : H x3 = none := (sH7.trans sd3).free nx3
      obtain ⟨o70, eo70, _⟩ := (c70.same sd3).ex
      obtain ⟨o71, eo71, _⟩ := (c71.same sd3).ex
      obtain ⟨o72, eo72, _⟩ := (hk7.same sd3).ex
      have n03 : x0 ≠ x3 := ne_of_none eo70 nx3
      have n13 : x1 ≠ x3 := ne_of_none eo71 nx3
      have n23 : x2 ≠ x3 := ne_of_none eo72 nx3
      refine ⟨x3, d3, dx3, 0, 1, rfl, upd_same, hd3'.same m3, fun H8 k8 hk8 => ⟨rfl, ?_⟩⟩
      have sH8 : Same H H8 := k8.over (sH7.trans m3') f3
      have b8 : BagAt H8 s := (b7.same m3').fr k8 (b7.same sd3 |>.ne_none nx3)
      have c80 : CkAt K (a 22) H8 x0 dr t0 b0 none 0 := (c70.same m3').fr k8 upd_same trivial n03
      have c81 : CkAt K (a 22) H8 x1 dr t0 b0 none 0 := (c71.same m3').fr k8 upd_same trivial n13
      have c82 : CkAt K (a 22) H8 x2 d2 t2 b2 none 0 := (hk7.same m3').fr k8 upd_same trivial n23
      refine ⟨(by decide : 4 ≤ sizeLine), fun sl nsl => ?_⟩
      have ssl : ∀ o, Same H8 (upd H8 sl o) := fun _ => same_new (Same.refl H8) nsl
      have w1 : W4 K (a 22) H (upd H8 sl (.lst [.ref x0, .ref x1, .ref x2, .ref x3])) s sl (fun i => match i with | 0 => x0 | 1 => x1 | 2 => x2 | _ => x3) (fun i => match i with | 0 => dr | 1 => dr | 2 => d2 | _ => d3) (fun i => match i with | 0 => t0 | 1 => t0 | 2 => t2 | _ => 0) (fun i => match i with | 0 => b0 | 1 => b0 | 2 => b2 | _ => 1) (fun _ => none) (fun _ => 0) := by
        refine ⟨sH8.trans (ssl _), b8.same (ssl _), fun i hi => ?_, fun i j hi hj hne => ?_, upd_same, hs0, fun i hi => ?_⟩
        · match i, hi with
          | 0, _ => exact c80.same (ssl _)
          | 1, _ => exact c81.same (ssl _)
          | 2, _ => exact c82.same (ssl _)
          | 3, _ => exact hk8.same (ssl _)
        · match i, hi, j, hj, hne with
          | 0, _, 0, _, h => exact absurd rfl h
          | 0, _, 1, _, _ => exact n01.symm
          | 0, _, 2, _, _ => exact n02.symm
          | 0, _, 3, _, _ => exact n03.symm
          | 1, _, 0, _, _ => exact n01
          | 1, _, 1, _, h => exact absurd rfl h
          | 1, _, 2, _, _ => exact n12.symm
          | 1, _, 3, _, _ => exact n13.symm
          | 2, _, 0, _, _ => exact n02
          | 2, _, 1, _, _ => exact n12
          | 2, _, 2, _, h => exact absurd rfl h
          | 2, _, 3, _, _ => exact n23.symm
          | 3, _, 0, _, _ => exact n03
          | 3, _, 1, _, _ => exact n13
          | 3, _, 2, _, _ => exact n23
          | 3, _, 3, _, h => exact absurd rfl h
        · match i, hi with
          | 0, _ => exact f0
          | 1, _ => exact f1
          | 2, _ => exact f2
          | 3, _ => exact f3
      have fsl : H sl = none := sH8.free nsl
      obtain ⟨x, hx⟩ : ∃ x : Nat → Addr, x = (fun i => match i with | 0 => x0 | 1 => x1 | 2 => x2 | _ => x3) := ⟨_, rfl⟩
      obtain ⟨d, hd⟩ : ∃ x : Nat → Addr, x = (fun i => match i with | 0 => dr | 1 => dr | 2 => d2 | _ => d3) := ⟨_, rfl⟩
      obtain ⟨t, ht⟩ : ∃ x : Nat → Int, x = (fun i => match i with | 0 => t0 | 1 => t0 | 2 => t2 | _ => 0) := ⟨_, rfl⟩
      obtain ⟨b, hb⟩ : ∃ x : Nat → Int, x = (fun i => match i with | 0 => b0 | 1 => b0 | 2 => b2 | _ => 1) := ⟨_, rfl⟩
      rw [← hx, ← hd, ← ht, ← hb] at w1
      have et0 : t 0 = t0 := congrFun ht 0
      have et1 : t 1 = t0 := congrFun ht 1
      have et2 : t 2 = t2 := congrFun ht 2
      have et3 : t 3 = 0 := congrFun ht 3
      have eb0 : b 0 = b0 := congrFun hb 0
      have eb1 : b 1 = b0 := congrFun hb 1
      have eb2 : b 2 = b2 := congrFun hb 2
      have eb3 : b 3 = 1 := congrFun hb 3
      have e00 : 0 ≤ t0 := hd3.2.1
      have e01 : t0 < b0 := hd3.2.2.1
      have e20 : 0 ≤ t2 := hd6.2.1
      have e21 : t2 < b2 := hd6.2.2.1
      clear hx hd ht hb c80 c81 c82 hk8
      generalize (upd H8 sl (.lst [.ref x0, .ref x1, .ref x2, .ref x3])) = H9 at w1 ⊢
      -- low, high
      refine ⟨_, rfl, s, 100, rfl, w1.bag, (by decide), (by decide), fun r1 Ha r10 r11 ka ba => ⟨r1, 50, rfl, rfl, ?_⟩⟩
      have w2 := w1.ofBag ka ba
      refine ⟨_, rfl, _, rfl, s, 20, rfl, ba, (by decide), (by decide), fun r2 Hb r20 r21 kb bb => ⟨r1 - 50, r2, rfl, rfl, ?_⟩⟩
      have w3 := w2.ofBag kb bb
      -- all set
      refine ⟨_, rfl, sl, rfl, ⟨_, SqL.of w3.hl⟩, for_list (K := K) (a := sl) (xs := [.ref (x 0), .ref (x 1), .ref (x 2), .ref (x 3)]) (fun j σ H' => ∃ (v7 : Option V), σ = [some (.ref l), some (.int (0 + (i : Int))), some (.ref s), some (.ref dr), some (.ref sl), some (.int (r1 - 50)), some (.int (r1 - 50 + r2)), v7, v8, v9, v10, v11, v12, v13] ∧ W4 K (a 22) H H' s sl x d t b (fun i => if i < j then some (r1 - 50, r1 - 50 + r2) else none) (fun _ => 0))
        ⟨v7, rfl, w3⟩ (fun j σ H' _ z => let ⟨_, _, w⟩ := z; SqL.of w.hl) ?_ ?_⟩
      · rintro j y σ Hc hj ⟨v7, rfl, w⟩
        obtain ⟨hj4, rfl⟩ : j < 4 ∧ y = V.ref (x j) := by
          match j, hj with
          | 0, hj => exact ⟨by decide, (Option.some.inj hj).symm⟩
          | 1, hj => exact ⟨by decide, (Option.some.inj hj).symm⟩
          | 2, hj => exact ⟨by decide, (Option.some.inj hj).symm⟩
          | 3, hj => exact ⟨by decide, (Option.some.inj hj).symm⟩
          | n + 4, hj => simp at hj
        have cj := w.c j hj4
        rw [if_neg (Nat.lt_irrefl j)] at cj
        obtain ⟨dxj, svj, hcj, _⟩ := cj.at_
        refine ⟨_, rfl, x j, dxj, _, rfl, hcj, cf_no _ _ _ (by decide +kernel) (by decide +kernel) (by decide +kernel), _, rfl, _, rfl, x j, d j, t j, b j, none, 0, _, _, rfl, cj, by omega, (by show r1 - 50 ≤ r1 - 50 + r2; omega), fun Hd kd hkd => ?_⟩
        have wd := w.ofCk hj4 kd hkd
        refine ⟨_, rfl, ?_⟩
        have es : upN (fun i => if i < j then some (r1 - 50, r1 - 50 + r2) else none) j (some (setLow (r1 - 50) none (t j) (b j) 0, setHigh (r1 - 50 + r2) none (t j) (b j) 0)) = (fun i => if i < j + 1 then some (r1 - 50, r1 - 50 + r2) else none) := by
          funext z
          by_cases e : z = j
          · subst e
            simp [upN, setLow, setHigh]
          · by_cases e2 : z < j
            · simp [upN, e, e2, Nat.lt_succ_of_lt e2]
            · simp [upN, e, e2, show ¬ z < j + 1 by omega]
        have en : upN (fun _ => (0 : Int)) j 0 = fun _ => 0 := by
          funext z
          unfold upN
          split <;> rfl
        rw [es, en] at wd
        exact wd
      rintro σ Hc ⟨v7, rfl, w⟩
      generalize hlo : r1 - 50 = lo at w ⊢
      generalize hhi : lo + r2 = hi at w ⊢
      have wst : ∀ i, i < 4 → (fun i => if i < [V.ref (x 0), V.ref (x 1), V.ref (x 2), V.ref (x 3)].length then some (lo, hi) else none) i = some (lo, hi) := fun i h => if_pos h
      -- parts
      refine ⟨_, rfl, s, 8, rfl, w.bag, (by decide), (by decide), fun r3 Hd r30 r31 kd bd => ⟨1, r3, rfl, rfl, _, rfl, by omega, by omega, fun D nD => ?_⟩⟩
      have w5 := w.ofBag kd bd
      have nDs : D ≠ s := bd.ne_new nD
      have nDl : D ≠ sl := (ne_of_none w5.hl nD).symm
      have fD : H D = none := w5.sm.free nD
      refine lc_range (lo := 0) (fun j H' => W4 K (a 22) H H' s sl x d t b (fun i => if i < [V.ref (x 0), V.ref (x 1), V.ref (x 2), V.ref (x 3)].length then some (lo, hi) else none) (fun _ => 0) ∧ ∃ ps : List Int, H' D = some (.lst (ps.map V.int)) ∧ ps.length = j ∧ ∀ p ∈ ps, 0 ≤ p) ?_ ?_ ?_
      · exact ⟨w5.ofSame (same_new (Same.refl Hd) nD), [], (upd_same : upd Hd D (.lst []) D = some (.lst [])), rfl, fun p hp => by cases hp⟩
      · rintro j He hj ⟨we, ps, hD, hpl, hpn⟩
        refine ⟨rfl, _, rfl, 10, 6, rfl, rfl, ⟨by decide, by decide, by decide⟩, len3, fun p1 np1 => ?_⟩
        refine ⟨_, rfl, s, 3, rfl, we.bag.new np1, (by decide), (by decide), fun a1 Hf a10 a11 kf bf => ?_⟩
        have g1 : Hf p1 = some (.lst [.int 2, .int 30, .int (10 ^ (6 : Int).toNat)]) := kf _ _ (we.bag.ne_new np1) upd_same
        obtain ⟨z, hz, z0, z1⟩ : ∃ z : Int, atI [V.int 2, V.int 30, V.int (10 ^ (6 : Int).toNat)] a1 = some (V.int z) ∧ 0 < z ∧ z ≤ 1000000 := by
          have : a1 = 0 ∨ a1 = 1 ∨ a1 = 2 := by omega
          rcases this with rfl | rfl | rfl
          · exact ⟨2, rfl, by decide, by decide⟩
          · exact ⟨30, rfl, by decide, by decide⟩
          · exact ⟨10 ^ (6 : Int).toNat, rfl, by decide, by decide⟩
        have ff := ((Fr.refl s He).new np1).trans kf
        refine ⟨p1, _, a1, _, rfl, rfl, SqL.of g1, hz, s, z, rfl, bf, z0, by omega, fun a2 Hg a20 a21 kg bg => ?_⟩
        have fg := ff.trans kg
        have hDg : Hg D = some (.lst (ps.map V.int)) := fg _ _ nDs hD
        have wg := we.ofBag fg bg
        refine ⟨_, hDg, ?_, wg.ofD hDg nDs nDl fD (Fr.refl D Hg).put, ps ++ [a2], ?_, ?_, ?_⟩
        · rw [List.length_map, hpl]
          exact Nat.lt_of_lt_of_le (show j < 16 by omega) (by decide)
        · rw [upd_same, List.map_append]
          rfl
        · rw [List.length_append, hpl]
          rfl
        · intro p hp
          rcases List.mem_append.mp hp with h | h
          · exact hpn p h
          · rw [List.mem_singleton.mp h]
            exact a20
      rintro He ⟨we, ps, hD, hpl, hpn⟩
      have hps1 : 0 < ps.length := by omega
      -- last = (low, high)
      refine ⟨_, rfl, _, rfl, len2, fun pl npl => ?_⟩
      have sl' : ∀ o, Same He (upd He pl o) := fun _ => same_new (Same.refl He) npl
      have w6 := we.ofSame (sl' (.tup [.int lo, .int hi]))
      have hD6 := (sl' (.tup [.int lo, .int hi])) _ _ hD
      have S0 := sum_nn hpn
      refine ⟨_, rfl, D, rfl, ⟨_, SqL.of hD6⟩, for_list (K := K) (a := D) (xs := ps.map V.int) (fun j σ H' => ∃ (A B : Int) (q : Addr) (st : Nat → Option (Int × Int)) (n : Nat → Int) (v10 v11 : Option V), σ = [some (.ref l), some (.int (0 + (i : Int))), some (.ref s), some (.ref dr), some (.ref sl), some (.int lo), some (.int hi), v7, some (.ref D), some (.ref q), v10, v11, v12, v13] ∧ W4 K (a 22) H H' s sl x d t b st n ∧ H' D = some (.lst (ps.map V.int)) ∧ H' q = some (.tup [.int A, .int B]) ∧
          (∀ i, i < 4 → st i = some (lo, hi)) ∧ (∀ i, i < 4 → i ≠ 1 → n i = 0) ∧ n 1 = (ps.take j).sum ∧ A ≤ lo + leastP (n 1) t0 b0 ∧ B ≤ hi + mostP (n 1) t0 b0 ∧ B - A ≤ (hi + mostP (n 1) t0 b0) - (lo + leastP (n 1) t0 b0) ∧ (0 < j → A = lo + leastP (n 1) t0 b0 ∧ B = hi + mostP (n 1) t0 b0))
        ⟨lo, hi, pl, _, _, v10, v11, rfl, w6, hD6, upd_same, wst, fun _ _ _ => rfl, rfl, by have := least_zero e00 e01; omega, by have := most_nn (n := 0) e00 e01 (by decide); omega, by have := least_zero e00 e01; have := most_nn (n := 0) e00 e01 (by decide); omega, fun z => absurd z (Nat.lt_irrefl 0)⟩ (fun j σ H' _ z => let ⟨_, _, _, _, _, _, _, _, _, h, _⟩ := z; SqL.of h) ?_ ?_⟩
      · rintro j y σ Hf hj ⟨A, B, pq, st, n, v10, v11, rfl, wf, hDf, hq, hst, hn, hn1, hA, hB, hAB, hE⟩
        obtain ⟨p, hp, rfl⟩ : ∃ p, ps[j]? = some p ∧ y = V.int p := by
          rw [List.getElem?_map] at hj
          cases e : ps[j]? with
          | none =>
            rw [e] at hj
            cases hj
          | some p =>
            rw [e] at hj
            exact ⟨p, rfl, (Option.some.inj hj).symm⟩
        have p0 : 0 ≤ p := hpn p (List.mem_of_getElem? hp)
        have c1 := wf.c 1 (by decide)
        rw [hst 1 (by decide), et1, eb1] at c1
        obtain ⟨dx1', sv1', hc1, _⟩ := c1.at_
        refine ⟨_, rfl, sl, _, 1, _, rfl, rfl, SqL.of wf.hl, rfl, x 1, dx1', _, rfl, hc1, cf_no _ _ _ (by decide +kernel) (by decide +kernel) (by decide +kernel), _, rfl, x 1, d 1, t0, b0, _, n 1, p, rfl, c1, p0, fun Hg kg hkg => ?_⟩
        have hkg' : CkAt K (a 22) Hg (x 1) (d 1) (t 1) (b 1) (some (lo, hi)) (n 1 + p) := by rw [et1, eb1]; exact hkg
        have wg := wf.ofCk (by decide) kg hkg'
        have hDg : Hg D = some (.lst (ps.map V.int)) := kg _ _ (lst_ne_ck c1 hDf) hDf
        have hqg : Hg pq = some (.tup [.int A, .int B]) := kg.tup hc1 trivial hq
        obtain ⟨dxg, svg, hcg, _⟩ := hkg.at_
        refine ⟨_, rfl, sl, _, 1, _, rfl, rfl, SqL.of wg.hl, rfl, x 1, dxg, _, rfl, hcg, cf_no _ _ _ (by decide +kernel) (by decide +kernel) (by decide +kernel), x 1, d 1, t0, b0, lo, hi, n 1 + p, rfl, hkg, fun pn npn => ?_⟩
        have spn : ∀ o, Same Hg (upd Hg pn o) := fun _ => same_new (Same.refl Hg) npn
        have hqn := (spn (.tup [.int (lo + leastP (n 1 + p) t0 b0), .int (hi + mostP (n 1 + p) t0 b0)])) _ _ hqg
        have lm := least_mono e00 e01 (show n 1 ≤ n 1 + p by omega)
        have la := least_add (n := n 1) (m := p) e00 e01
        have lp := least_le_n (n := p) e00 e01 p0
        have ma := most_add (n := n 1) (m := p) e00 e01 p0
        refine ⟨_, rfl, pn, _, 0, _, rfl, rfl, SqT.of upd_same, rfl, _, rfl, pq, _, 0, _, rfl, rfl, SqT.of hqn, rfl, _, _, rfl, rfl, _, rfl, iteDF (by omega) ?_⟩
        refine ⟨_, rfl, pn, _, 1, _, rfl, rfl, SqT.of upd_same, rfl, _, rfl, pq, _, 1, _, rfl, rfl, SqT.of hqn, rfl, _, _, rfl, rfl, _, rfl, iteDF (by omega) ?_⟩
        refine ⟨_, rfl, pn, _, 1, _, rfl, rfl, SqT.of upd_same, rfl, _, rfl, pn, _, 0, _, rfl, rfl, SqT.of upd_same, rfl, _, _, rfl, rfl, _, rfl, pq, _, 1, _, rfl, rfl, SqT.of hqn, rfl, _, rfl, pq, _, 0, _, rfl, rfl, SqT.of hqn, rfl, _, _, rfl, rfl, _, _, rfl, rfl, _, rfl, iteDF (by omega) ?_⟩
        refine ⟨_, rfl, ?_⟩
        refine ⟨_, _, pn, _, _, _, _, rfl, wg.ofSame (spn _), (spn _) _ _ hDg, upd_same, fun i hi => ?_, fun i hi hne => ?_, ?_, ?_, ?_, ?_, fun _ => ?_⟩
        · by_cases e : i = 1
          · subst e
            exact upN_same _ _ _
          · rw [upN_ne _ _ e]
            exact hst i hi
        · rw [upN_ne _ _ hne]
          exact hn i hi hne
        · rw [upN_same, hn1]
          exact (sum_take_i hp).symm
        all_goals rw [upN_same]
        · exact Int.le_refl _
        · exact Int.le_refl _
        · exact Int.le_refl _
        · exact ⟨rfl, rfl⟩
      rintro σ Hf ⟨A, B, pq, st, n, v10, v11, rfl, wf, hDf, hq, hst, hn, hn1, hA, hB, hAB, hE⟩
      rw [List.length_map, List.take_length] at hn1
      obtain ⟨eA, eB⟩ := hE (by rw [List.length_map]; exact hps1)
      generalize hSS : ps.sum = SS at hn1 S0
      rw [hn1] at eA eB
      -- the others counted at once
      have wfl := wf.hl
      refine ⟨_, rfl, sl, _, 0, _, rfl, rfl, SqL.of wfl, rfl, _, rfl, sl, _, 2, _, rfl, rfl, SqL.of wfl, rfl, _, rfl, sl, _, 3, _, rfl, rfl, SqL.of wfl, rfl, len3, fun p3 np3 => ?_⟩
      have sp3 : ∀ o, Same Hf (upd Hf p3 o) := fun _ => same_new (Same.refl Hf) np3
      have w7 := wf.ofSame (sp3 (.lst [.ref (x 0), .ref (x 2), .ref (x 3)]))
      have hD7 := (sp3 (.lst [.ref (x 0), .ref (x 2), .ref (x 3)])) _ _ hDf
      have hq7 := (sp3 (.lst [.ref (x 0), .ref (x 2), .ref (x 3)])) _ _ hq
      refine ⟨p3, rfl, ⟨_, SqL.of upd_same⟩, for_list (K := K) (a := p3) (xs := [.ref (x 0), .ref (x 2), .ref (x 3)]) (fun j σ H' => ∃ (st : Nat → Option (Int × Int)) (n : Nat → Int) (v7 : Option V), σ = [some (.ref l), some (.int (0 + (i : Int))), some (.ref s), some (.ref dr), some (.ref sl), some (.int lo), some (.int hi), v7, some (.ref D), some (.ref pq), v10, v11, v12, v13] ∧ W4 K (a 22) H H' s sl x d t b st n ∧ H' D = some (.lst (ps.map V.int)) ∧ H' pq = some (.tup [.int A, .int B]) ∧ H' p3 = some (.lst [.ref (x 0), .ref (x 2), .ref (x 3)]) ∧
          (∀ i, i < 4 → st i = some (lo, hi)) ∧ n 1 = SS ∧ (∀ e, e < 3 → n (if e = 0 then 0 else e + 1) = if e < j then SS else 0))
        ⟨st, n, v7, rfl, w7, hD7, hq7, upd_same, hst, hn1, fun e he => by
          match e, he with
          | 0, _ => exact hn 0 (by decide) (by decide)
          | 1, _ => exact hn 2 (by decide) (by decide)
          | 2, _ => exact hn 3 (by decide) (by decide)⟩ (fun j σ H' _ z => let ⟨_, _, _, _, _, _, _, h, _⟩ := z; SqL.of h) ?_ ?_⟩
      · rintro j y σ Hg hj ⟨st, n, v7, rfl, wg, hDg, hqg, hpg, hst, hn1, hnj⟩
        obtain ⟨hj3, rfl⟩ : j < 3 ∧ y = V.ref (x (if j = 0 then 0 else j + 1)) := by
          match j, hj with
          | 0, hj => exact ⟨by decide, (Option.some.inj hj).symm⟩
          | 1, hj => exact ⟨by decide, (Option.some.inj hj).symm⟩
          | 2, hj => exact ⟨by decide, (Option.some.inj hj).symm⟩
          | n + 3, hj => simp at hj
        obtain ⟨e, he⟩ : ∃ e, e = (if j = 0 then 0 else j + 1) := ⟨_, rfl⟩
        have he4 : e < 4 := by rw [he]; split <;> omega
        have he1 : e ≠ 1 := by rw [he]; split <;> omega
        have ne0 : n e = 0 := by rw [he, hnj j hj3, if_neg (Nat.lt_irrefl j)]
        rw [← he]
        have ce := wg.c e he4
        rw [hst e he4, ne0] at ce
        obtain ⟨dxe, sve, hce, _⟩ := ce.at_
        refine ⟨_, rfl, x e, dxe, _, rfl, hce, cf_no _ _ _ (by decide +kernel) (by decide +kernel) (by decide +kernel), _, rfl, D, ps, rfl, SqL.of hDg, ?_⟩
        rw [hSS]
        refine ⟨x e, d e, t e, b e, _, 0, SS, rfl, ce, S0, fun Hh kh hkh => ?_⟩
        have wh := wg.ofCk he4 kh hkh
        have hDh : Hh D = some (.lst (ps.map V.int)) := kh _ _ (lst_ne_ck ce hDg) hDg
        have hqh : Hh pq = some (.tup [.int A, .int B]) := kh.tup hce trivial hqg
        have hph : Hh p3 = some (.lst [.ref (x 0), .ref (x 2), .ref (x 3)]) := kh _ _ (lst_ne_ck ce hpg) hpg
        refine ⟨_, _, _, rfl, wh, hDh, hqh, hph, fun i hi => ?_, ?_, fun e' he' => ?_⟩
        · by_cases c : i = e
          · subst c
            exact upN_same _ _ _
          · rw [upN_ne _ _ c]
            exact hst i hi
        · rw [upN_ne _ _ (Ne.symm he1)]
          exact hn1
        · by_cases c : e' = j
          · subst c
            rw [← he, upN_same, if_pos (Nat.lt_succ_self _)]
            omega
          · have c2 : (if e' = 0 then 0 else e' + 1) ≠ e := by rw [he]; (repeat' split) <;> omega
            rw [upN_ne _ _ c2, hnj e' he']
            by_cases c3 : e' < j
            · rw [if_pos c3, if_pos (Nat.lt_succ_of_lt c3)]
            · rw [if_neg c3, if_neg (by omega)]
      rintro σ Hg ⟨st, n, v7, rfl, wg, hDg, hqg, _, hst, hn1, hnj⟩
      have n0 : n 0 = SS := hnj 0 (by decide)
      have n2 : n 2 = SS := hnj 1 (by decide)
      have n3 : n 3 = SS := hnj 2 (by decide)
      have c0 := wg.c 0 (by decide)
      have c1 := wg.c 1 (by decide)
      have c2 := wg.c 2 (by decide)
      have c3 := wg.c 3 (by decide)
      rw [hst 0 (by decide), n0, et0, eb0] at c0
      rw [hst 1 (by decide), hn1, et1, eb1] at c1
      rw [hst 2 (by decide), n2, et2, eb2] at c2
      rw [hst 3 (by decide), n3, et3, eb3] at c3
      obtain ⟨dy0, sy0, hy0, _⟩ := c0.at_
      obtain ⟨dy1, sy1, hy1, _⟩ := c1.at_
      obtain ⟨dy2, sy2, hy2, _⟩ := c2.at_
      obtain ⟨dy3, sy3, hy3, _⟩ := c3.at_
      refine ⟨_, rfl, sl, _, 0, _, rfl, rfl, SqL.of wg.hl, rfl, x 0, dy0, _, rfl, hy0, cf_no _ _ _ (by decide +kernel) (by decide +kernel) (by decide +kernel), x 0, d 0, t0, b0, lo, hi, SS, rfl, c0, fun q1 nq1 => ?_⟩
      have sq1 : ∀ o, Same Hg (upd Hg q1 o) := fun _ => same_new (Same.refl Hg) nq1
      refine ⟨_, rfl, .tuple [.int (lo + leastP SS t0 b0), .int (hi + mostP SS t0 b0)], .tuple [.int A, .int B], .tup (SqT.of upd_same) (.cons (.int _) (.cons (.int _) .nil)), .tup (SqT.of ((sq1 _) _ _ hqg)) (.cons (.int _) (.cons (.int _) .nil)), rfl, rfl, _, rfl, iteBF (by rw [eqv_two eA.symm eB.symm]; rfl) ?_⟩
      have w8 := wg.ofSame (sq1 (.tup [.int (lo + leastP SS t0 b0), .int (hi + mostP SS t0 b0)]))
      have hD8 := (sq1 (.tup [.int (lo + leastP SS t0 b0), .int (hi + mostP SS t0 b0)])) _ _ hDg
      have hq8 := (sq1 (.tup [.int (lo + leastP SS t0 b0), .int (hi + mostP SS t0 b0)])) _ _ hqg
      have S8 := sq1 (.tup [.int (lo + leastP SS t0 b0), .int (hi + mostP SS t0 b0)])
      generalize (upd Hg q1 (.tup [.int (lo + leastP SS t0 b0), .int (hi + mostP SS t0 b0)])) = Hh at w8 hD8 hq8 S8 ⊢
      refine ⟨_, rfl, sl, _, 0, _, rfl, rfl, SqL.of w8.hl, rfl, _, rfl, sl, _, 1, _, rfl, rfl, SqL.of w8.hl, rfl, x 0, x 1, dy0, dy1, _, _, rfl, rfl, S8 _ _ hy0, S8 _ _ hy1, x 0, x 1, d 0, d 1, t0, b0, SS, lo, hi, rfl, c0.same S8, c1.same S8, true, rfl, _, rfl, iteF ?_⟩
      -- a lesser drift
      refine ⟨_, rfl, sl, _, 2, _, rfl, rfl, SqL.of w8.hl, rfl, x 2, dy2, _, rfl, S8 _ _ hy2, cf_no _ _ _ (by decide +kernel) (by decide +kernel) (by decide +kernel), x 2, d 2, t2, b2, lo, hi, SS, rfl, c2.same S8, fun q2 nq2 => ?_⟩
      have sq2 : ∀ o, Same Hh (upd Hh q2 o) := fun _ => same_new (Same.refl Hh) nq2
      have l1 := least_lesser (n := SS) e00 e01 e20 e21 S0 hle
      have l2 := most_lesser (n := SS) e00 e01 e20 e21 S0 hle
      have l3 := least_le_n (n := SS) e20 e21 S0
      have l4 := most_nn (n := SS) e20 e21 S0
      have hq9 := (sq2 (.tup [.int (lo + leastP SS t2 b2), .int (hi + mostP SS t2 b2)])) _ _ hq8
      refine ⟨_, rfl, pq, _, 0, _, rfl, rfl, SqT.of hq9, rfl, _, rfl, q2, _, 0, _, rfl, rfl, SqT.of upd_same, rfl, _, _, rfl, rfl, _, rfl, iteDT (by omega) ?_⟩
      refine ⟨_, rfl, q2, _, 1, _, rfl, rfl, SqT.of upd_same, rfl, _, _, rfl, rfl, _, rfl, iteDT (by omega) ?_⟩
      refine ⟨_, rfl, pq, _, 1, _, rfl, rfl, SqT.of hq9, rfl, _, _, rfl, rfl, _, rfl, iteNS (by omega) ?_⟩
      have w9 := w8.ofSame (sq2 (.tup [.int (lo + leastP SS t2 b2), .int (hi + mostP SS t2 b2)]))
      have hD9 := (sq2 (.tup [.int (lo + leastP SS t2 b2), .int (hi + mostP SS t2 b2)])) _ _ hD8
      have S9 := S8.trans (sq2 (.tup [.int (lo + leastP SS t2 b2), .int (hi + mostP SS t2 b2)]))
      generalize (upd Hh q2 (.tup [.int (lo + leastP SS t2 b2), .int (hi + mostP SS t2 b2)])) = Hi at w9 hD9 S9 ⊢
      -- no drift
      refine ⟨_, rfl, sl, _, 3, _, rfl, rfl, SqL.of w9.hl, rfl, x 3, dy3, _, rfl, S9 _ _ hy3, cf_no _ _ _ (by decide +kernel) (by decide +kernel) (by decide +kernel), x 3, d 3, 0, 1, lo, hi, SS, rfl, c3.same S9, fun q3 nq3 => ?_⟩
      have sq3 : ∀ o, Same Hi (upd Hi q3 o) := fun _ => same_new (Same.refl Hi) nq3
      have hD10 := (sq3 (.tup [.int (lo + leastP SS 0 1), .int (hi + mostP SS 0 1)])) _ _ hD9
      refine ⟨_, rfl, _, rfl, D, ps, rfl, SqL.of hD10, lo, _, rfl, rfl, _, rfl, _, rfl, D, ps, rfl, SqL.of hD10, hi, _, rfl, rfl, len2, fun q4 nq4 => ?_⟩
      have sq4 : ∀ o, Same (upd Hi q3 (.tup [.int (lo + leastP SS 0 1), .int (hi + mostP SS 0 1)])) (upd (upd Hi q3 (.tup [.int (lo + leastP SS 0 1), .int (hi + mostP SS 0 1)])) q4 o) := fun _ => same_new (Same.refl _) nq4
      refine ⟨.tuple [.int (lo + leastP SS 0 1), .int (hi + mostP SS 0 1)], .tuple [.int (lo + ps.sum), .int (hi + ps.sum)], .tup (SqT.of ((sq4 _) _ _ upd_same)) (.cons (.int _) (.cons (.int _) .nil)), .tup (SqT.of upd_same) (.cons (.int _) (.cons (.int _) .nil)), rfl, rfl, _, rfl, iteBF (by rw [eqv_two (by rw [least_one, hSS]) (by rw [most_one, hSS])]; rfl) ?_⟩
      exact ⟨(w9.ofSame ((sq3 _).trans (sq4 _))).sm, _, _, _, _, _, _, _, _, _, _, _, _, _, rfl⟩
    · rintro σ H1 ⟨s1, v1, v2, v3, v4, v5, v6, v7, v8, v9, v10, v11, v12, v13, rfl⟩
      exact q _

theorem all_mk {l : PySem.W.OpenLaw} {w : World} {K : PySem.W.Frag} {h : Heap} {mg : Str → Option Value} {fa : Addr} {f0 f1 f2 f3 f4 f5 f6 f7 f8 f9 f10 f11 f12 f13 f14 f15 f16 f17 f18 f19 f20 f21 : Addr} (X : K.In h) (G : h.Ns mainGlobals mg) (hfa : mg "law" = some (.ref fa))
    {od0 od1 od2 od3 od4 od5 od6 od7 od8 od9 od10 od11 od12 od13 od14 od15 od16 od17 od18 od19 od20 od21 : Option Addr} {an0 an1 an2 an3 an4 an5 an6 an7 an8 an9 an10 an11 an12 an13 an14 an15 an16 an17 an18 an19 an20 an21 : Option Addr} {sl0 sl1 sl2 sl3 sl4 sl5 sl6 sl7 sl8 sl9 sl10 sl11 sl12 sl13 sl14 sl15 sl16 sl17 sl18 sl19 sl20 sl21 : Array (Option Value)} {oc0 kV0 dc0 pm0 cd0 ct0 oc1 kV1 dc1 pm1 cd1 ct1 oc2 kV2 dc2 pm2 cd2 ct2 oc3 kV3 dc3 pm3 cd3 ct3 oc4 kV4 dc4 pm4 cd4 ct4 oc5 kV5 dc5 pm5 cd5 ct5 oc6 kV6 dc6 pm6 cd6 ct6 oc7 kV7 dc7 pm7 cd7 ct7 oc8 kV8 dc8 pm8 cd8 ct8 oc9 kV9 dc9 pm9 cd9 ct9 oc10 kV10 dc10 pm10 cd10 ct10 oc11 kV11 dc11 pm11 cd11 ct11 oc12 kV12 dc12 pm12 cd12 ct12 oc13 kV13 dc13 pm13 cd13 ct13 oc14 kV14 dc14 pm14 cd14 ct14 oc15 kV15 dc15 pm15 cd15 ct15 oc16 kV16 dc16 pm16 cd16 ct16 oc17 kV17 dc17 pm17 cd17 ct17 oc18 kV18 dc18 pm18 cd18 ct18 oc19 kV19 dc19 pm19 cd19 ct19 oc20 kV20 dc20 pm20 cd20 ct20 oc21 kV21 dc21 pm21 cd21 ct21 : Value}
    {fC : Addr}
    {nC : Addr} {nmC qC : Str} {bsC : List Value} {hdC abC : Bool} {snC : List Str} {subC : List Value} {colC : Option Bool} {ddC : Option Addr} {y0 y1 y2 y3 y5 : Option Value} {newC : String} {ocN : Value} {odN : Option Addr} {esN : Array DictEntry} {epN : Nat} {slN : Array (Option Value)}
    {f23 : Addr} {od23 : Option Addr} {n23 : Nat} {sl23 : Array (Option Value)} {t23_0 t23_1 : Tok}
    {t24 : Tok}
    {f25 : Addr} {od25 : Option Addr} {n25 : Nat} {sl25 : Array (Option Value)} {t25_0 t25_1 : Tok}
    {T9 : Addr} {odT9 : Option Addr} {ocT9 : Value} {nT9 : Nat} {slT9 : Array (Option Value)} 
    {T12 : Addr} {odT12 : Option Addr} {ocT12 : Value} {nT12 : Nat} {slT12 : Array (Option Value)} {tT12_0 : Tok}
    (g23 : PySem.W.nsIn K mainGlobals "WHOLE" = some (some (.ref f23))) (l23 : K.lookup f23 = some ⟨.type "tuple", od23, .seq #[.int 1 t23_0, .int 1 t23_1] n23, sl23⟩)
    (g24 : PySem.W.nsIn K mainGlobals "MOST_BOTTOM" = some (some (.int 1000 t24)))
    (g25 : PySem.W.nsIn K mainGlobals "DRIFT" = some (some (.ref f25))) (l25 : K.lookup f25 = some ⟨.type "tuple", od25, .seq #[.int 1 t25_0, .int 100 t25_1] n25, sl25⟩)
    (aC : PySem.W.nsIn K mainGlobals "Clock" = some (some (.ref fC))) (pg : PySem.W.plainGet K fC Str.empty = true) (hd : PySem.W.hasDictIn K fC = true) (po : PySem.W.plainOver K fC = true) (sa : PySem.W.findIn K (.ref fC) "__setattr__" = some (some (.builtin "object.__setattr__"))) (mk : PySem.W.makesIn K fC = true) (kc : PySem.W.keepIn K (.ref fC) = true)
    (nf_most_drift : PySem.W.findIn K (.ref fC) "most_drift" = some none)
    (nf_stands : PySem.W.findIn K (.ref fC) "stands" = some none)
    (nf_counted : PySem.W.findIn K (.ref fC) "counted" = some none)
    (a0 : PySem.W.nsIn K mainGlobals "is_whole" = some (some (.ref f0)))
    (l0 : K.lookup f0 = some ⟨oc0, od0, .func (PySem.W.fnOf "is_whole" "is_whole" (defArgs s_is_whole) (defBody s_is_whole) (defScope s_is_whole) .none kV0 dc0 pm0 an0 cd0 ct0), sl0⟩) (c0 : PySem.W.codeIn K cd0 "is_whole" = true) (k0 : PySem.W.keepIn K (.ref f0) = true)
    (a1 : PySem.W.nsIn K mainGlobals "is_count" = some (some (.ref f1)))
    (l1 : K.lookup f1 = some ⟨oc1, od1, .func (PySem.W.fnOf "is_count" "is_count" (defArgs s_is_count) (defBody s_is_count) (defScope s_is_count) .none kV1 dc1 pm1 an1 cd1 ct1), sl1⟩) (c1 : PySem.W.codeIn K cd1 "is_count" = true) (k1 : PySem.W.keepIn K (.ref f1) = true)
    (a2 : PySem.W.nsIn K mainGlobals "is_from_to" = some (some (.ref f2)))
    (l2 : K.lookup f2 = some ⟨oc2, od2, .func (PySem.W.fnOf "is_from_to" "is_from_to" (defArgs s_is_from_to) (defBody s_is_from_to) (defScope s_is_from_to) .none kV2 dc2 pm2 an2 cd2 ct2), sl2⟩) (c2 : PySem.W.codeIn K cd2 "is_from_to" = true) (k2 : PySem.W.keepIn K (.ref f2) = true)
    (a3 : PySem.W.nsIn K mainGlobals "common_divisor" = some (some (.ref f3)))
    (l3 : K.lookup f3 = some ⟨oc3, od3, .func (PySem.W.fnOf "common_divisor" "common_divisor" (defArgs s_common_divisor) (defBody s_common_divisor) (defScope s_common_divisor) .none kV3 dc3 pm3 an3 cd3 ct3), sl3⟩) (c3 : PySem.W.codeIn K cd3 "common_divisor" = true) (k3 : PySem.W.keepIn K (.ref f3) = true)
    (a4 : PySem.W.nsIn K mainGlobals "is_share" = some (some (.ref f4)))
    (l4 : K.lookup f4 = some ⟨oc4, od4, .func (PySem.W.fnOf "is_share" "is_share" (defArgs s_is_share) (defBody s_is_share) (defScope s_is_share) .none kV4 dc4 pm4 an4 cd4 ct4), sl4⟩) (c4 : PySem.W.codeIn K cd4 "is_share" = true) (k4 : PySem.W.keepIn K (.ref f4) = true)
    (a5 : PySem.W.nsIn K mainGlobals "is_drift" = some (some (.ref f5)))
    (l5 : K.lookup f5 = some ⟨oc5, od5, .func (PySem.W.fnOf "is_drift" "is_drift" (defArgs s_is_drift) (defBody s_is_drift) (defScope s_is_drift) .none kV5 dc5 pm5 an5 cd5 ct5), sl5⟩) (c5 : PySem.W.codeIn K cd5 "is_drift" = true) (k5 : PySem.W.keepIn K (.ref f5) = true)
    (a6 : PySem.W.nsIn K mainGlobals "refuse_no_count" = some (some (.ref f6)))
    (l6 : K.lookup f6 = some ⟨oc6, od6, .func (PySem.W.fnOf "refuse_no_count" "refuse_no_count" (defArgs s_refuse_no_count) (defBody s_refuse_no_count) (defScope s_refuse_no_count) .none kV6 dc6 pm6 an6 cd6 ct6), sl6⟩) (c6 : PySem.W.codeIn K cd6 "refuse_no_count" = true) (k6 : PySem.W.keepIn K (.ref f6) = true)
    (a7 : PySem.W.nsIn K mainGlobals "least_of" = some (some (.ref f7)))
    (l7 : K.lookup f7 = some ⟨oc7, od7, .func (PySem.W.fnOf "least_of" "least_of" (defArgs s_least_of) (defBody s_least_of) (defScope s_least_of) .none kV7 dc7 pm7 an7 cd7 ct7), sl7⟩) (c7 : PySem.W.codeIn K cd7 "least_of" = true) (k7 : PySem.W.keepIn K (.ref f7) = true)
    (a8 : PySem.W.nsIn K mainGlobals "most_of" = some (some (.ref f8)))
    (l8 : K.lookup f8 = some ⟨oc8, od8, .func (PySem.W.fnOf "most_of" "most_of" (defArgs s_most_of) (defBody s_most_of) (defScope s_most_of) .none kV8 dc8 pm8 an8 cd8 ct8), sl8⟩) (c8 : PySem.W.codeIn K cd8 "most_of" = true) (k8 : PySem.W.keepIn K (.ref f8) = true)
    (a9 : PySem.W.findIn K (.ref fC) "__init__" = some (some (.ref f9))) (i9 : PySem.W.isFn K (.ref f9) = true)
    (l9 : K.lookup f9 = some ⟨oc9, od9, .func (PySem.W.fnOf "__init__" "Clock.__init__" (defArgs s_Clock___init__) (defBody s_Clock___init__) (defScope s_Clock___init__) (.ref T9) kV9 dc9 pm9 an9 cd9 ct9), sl9⟩) (c9 : PySem.W.codeIn K cd9 "Clock.__init__" = true) (k9 : PySem.W.keepIn K (.ref f9) = true)
    (lT9 : K.lookup T9 = some ⟨ocT9, odT9, .seq #[.ref f25] nT9, slT9⟩)
    (a10 : PySem.W.findIn K (.ref fC) "is_set" = some (some (.ref f10))) (i10 : PySem.W.isFn K (.ref f10) = true)
    (l10 : K.lookup f10 = some ⟨oc10, od10, .func (PySem.W.fnOf "is_set" "Clock.is_set" (defArgs s_Clock_is_set) (defBody s_Clock_is_set) (defScope s_Clock_is_set) .none kV10 dc10 pm10 an10 cd10 ct10), sl10⟩) (c10 : PySem.W.codeIn K cd10 "Clock.is_set" = true) (k10 : PySem.W.keepIn K (.ref f10) = true)
    (a11 : PySem.W.findIn K (.ref fC) "set_to" = some (some (.ref f11))) (i11 : PySem.W.isFn K (.ref f11) = true)
    (l11 : K.lookup f11 = some ⟨oc11, od11, .func (PySem.W.fnOf "set_to" "Clock.set_to" (defArgs s_Clock_set_to) (defBody s_Clock_set_to) (defScope s_Clock_set_to) .none kV11 dc11 pm11 an11 cd11 ct11), sl11⟩) (c11 : PySem.W.codeIn K cd11 "Clock.set_to" = true) (k11 : PySem.W.keepIn K (.ref f11) = true)
    (a12 : PySem.W.findIn K (.ref fC) "tick" = some (some (.ref f12))) (i12 : PySem.W.isFn K (.ref f12) = true)
    (l12 : K.lookup f12 = some ⟨oc12, od12, .func (PySem.W.fnOf "tick" "Clock.tick" (defArgs s_Clock_tick) (defBody s_Clock_tick) (defScope s_Clock_tick) (.ref T12) kV12 dc12 pm12 an12 cd12 ct12), sl12⟩) (c12 : PySem.W.codeIn K cd12 "Clock.tick" = true) (k12 : PySem.W.keepIn K (.ref f12) = true)
    (lT12 : K.lookup T12 = some ⟨ocT12, odT12, .seq #[.int 1 tT12_0] nT12, slT12⟩)
    (a13 : PySem.W.findIn K (.ref fC) "bounds" = some (some (.ref f13))) (i13 : PySem.W.isFn K (.ref f13) = true)
    (l13 : K.lookup f13 = some ⟨oc13, od13, .func (PySem.W.fnOf "bounds" "Clock.bounds" (defArgs s_Clock_bounds) (defBody s_Clock_bounds) (defScope s_Clock_bounds) .none kV13 dc13 pm13 an13 cd13 ct13), sl13⟩) (c13 : PySem.W.codeIn K cd13 "Clock.bounds" = true) (k13 : PySem.W.keepIn K (.ref f13) = true)
    (a14 : PySem.W.findIn K (.ref fC) "__eq__" = some (some (.ref f14))) (i14 : PySem.W.isFn K (.ref f14) = true)
    (l14 : K.lookup f14 = some ⟨oc14, od14, .func (PySem.W.fnOf "__eq__" "Clock.__eq__" (defArgs s_Clock___eq__) (defBody s_Clock___eq__) (defScope s_Clock___eq__) .none kV14 dc14 pm14 an14 cd14 ct14), sl14⟩) (c14 : PySem.W.codeIn K cd14 "Clock.__eq__" = true) (k14 : PySem.W.keepIn K (.ref f14) = true)
    (a15 : PySem.W.nsIn K mainGlobals "_law_bag" = some (some (.ref f15)))
    (l15 : K.lookup f15 = some ⟨oc15, od15, .func (PySem.W.fnOf "_law_bag" "_law_bag" (defArgs s_l_bag) (defBody s_l_bag) (defScope s_l_bag) .none kV15 dc15 pm15 an15 cd15 ct15), sl15⟩) (c15 : PySem.W.codeIn K cd15 "_law_bag" = true) (k15 : PySem.W.keepIn K (.ref f15) = true)
    (a16 : PySem.W.nsIn K mainGlobals "_law_out" = some (some (.ref f16)))
    (l16 : K.lookup f16 = some ⟨oc16, od16, .func (PySem.W.fnOf "_law_out" "_law_out" (defArgs s_l_out) (defBody s_l_out) (defScope s_l_out) .none kV16 dc16 pm16 an16 cd16 ct16), sl16⟩) (c16 : PySem.W.codeIn K cd16 "_law_out" = true) (k16 : PySem.W.keepIn K (.ref f16) = true)
    (a17 : PySem.W.nsIn K mainGlobals "_law_drift" = some (some (.ref f17)))
    (l17 : K.lookup f17 = some ⟨oc17, od17, .func (PySem.W.fnOf "_law_drift" "_law_drift" (defArgs s_l_drift) (defBody s_l_drift) (defScope s_l_drift) .none kV17 dc17 pm17 an17 cd17 ct17), sl17⟩) (c17 : PySem.W.codeIn K cd17 "_law_drift" = true) (k17 : PySem.W.keepIn K (.ref f17) = true)
    (a18 : PySem.W.nsIn K mainGlobals "_law_less" = some (some (.ref f18)))
    (l18 : K.lookup f18 = some ⟨oc18, od18, .func (PySem.W.fnOf "_law_less" "_law_less" (defArgs s_l_less) (defBody s_l_less) (defScope s_l_less) .none kV18 dc18 pm18 an18 cd18 ct18), sl18⟩) (c18 : PySem.W.codeIn K cd18 "_law_less" = true) (k18 : PySem.W.keepIn K (.ref f18) = true)
    (a19 : PySem.W.nsIn K mainGlobals "law" = some (some (.ref f19)))
    (l19 : K.lookup f19 = some ⟨oc19, od19, .func (PySem.W.fnOf "law" "law" (defArgs s_law) (defBody s_law) (defScope s_law) .none kV19 dc19 pm19 an19 cd19 ct19), sl19⟩) (c19 : PySem.W.codeIn K cd19 "law" = true) (k19 : PySem.W.keepIn K (.ref f19) = true)
    (a20 : PySem.W.nsIn K mainGlobals "bounds_behind" = some (some (.ref f20)))
    (l20 : K.lookup f20 = some ⟨oc20, od20, .func (PySem.W.fnOf "bounds_behind" "bounds_behind" (defArgs s_bounds_behind) (defBody s_bounds_behind) (defScope s_bounds_behind) .none kV20 dc20 pm20 an20 cd20 ct20), sl20⟩) (c20 : PySem.W.codeIn K cd20 "bounds_behind" = true) (k20 : PySem.W.keepIn K (.ref f20) = true)
    (a21 : PySem.W.nsIn K mainGlobals "set_between" = some (some (.ref f21)))
    (l21 : K.lookup f21 = some ⟨oc21, od21, .func (PySem.W.fnOf "set_between" "set_between" (defArgs s_set_between) (defBody s_set_between) (defScope s_set_between) .none kV21 dc21 pm21 an21 cd21 ct21), sl21⟩) (c21 : PySem.W.codeIn K cd21 "set_between" = true) (k21 : PySem.W.keepIn K (.ref f21) = true)
    (z_max : PySem.W.nsIn K mainGlobals "max" = some none)
    (z_min : PySem.W.nsIn K mainGlobals "min" = some none)
    (z_len : PySem.W.nsIn K mainGlobals "len" = some none)
    (z_int : PySem.W.nsIn K mainGlobals "int" = some none)
    (z_range : PySem.W.nsIn K mainGlobals "range" = some none)
    (z_isinstance : PySem.W.nsIn K mainGlobals "isinstance" = some none)
    (z_bool : PySem.W.nsIn K mainGlobals "bool" = some none)
    (z_tuple : PySem.W.nsIn K mainGlobals "tuple" = some none)
    (z_all : PySem.W.nsIn K mainGlobals "all" = some none)
    (z_sum : PySem.W.nsIn K mainGlobals "sum" = some none)
    (xC : K.lookup fC = some (excClassObj nmC qC fC nC bsC [.type "object"] hdC snC subC abC colC ddC y0 y1 y2 y3 y5 newC)) (lN : K.lookup nC = some ⟨ocN, odN, .dict esN epN, slN⟩) (alN : (esN.all fun e => match e.key with | .str _ _ => true | _ => false) = true) (eqC : PySem.W.nsIn K nC "__eq__" = some (some (.ref f14))) (neC : PySem.W.nsIn K nC "__ne__" = some none) (tyE : oc14 = .type "function")
    (j1 : PySem.W.findIn K (.ref fC) "__class__" = some (some (.builtin "object.__class__"))) (j2 : PySem.W.specialIn K (.builtin "object.__class__") "__get__" = some (some (.builtin "getset_descriptor.__get__"))) (j3 : PySem.W.takesIn K (.builtin "object.__class__") = some true) (j4 : PySem.W.mroIn K fC (.type "object") = some true)
    : ∃ fd : FuncData, (∀ (s : Shared) (v : Value), BindsTo s fd ⟨[v], []⟩ [("_law_script", v)]) ∧ ∀ base : Heap, K.In base → base.Ns mainGlobals mg → FnOk l.prog w K mg base CX0 8 fa fd ["_law_script"] (spLaw K) := by
  have e := hfa.symm.trans (PySem.W.mg_of X G a19)
  cases e
  have F0 := fun_mk (st := s_is_whole) l0 c0 k0
  have b0 := F0.binds (ps := ["thing"]) fun _ _ _ _ _ _ us hl => match us, hl with | [_], _ => rfl
  have F1 := fun_mk (st := s_is_count) l1 c1 k1
  have b1 := F1.binds (ps := ["thing"]) fun _ _ _ _ _ _ us hl => match us, hl with | [_], _ => rfl
  have F2 := fun_mk (st := s_is_from_to) l2 c2 k2
  have b2 := F2.binds (ps := ["thing", "least", "most"]) fun _ _ _ _ _ _ us hl => match us, hl with | [_, _, _], _ => rfl
  have F3 := fun_mk (st := s_common_divisor) l3 c3 k3
  have b3 := F3.binds (ps := ["first", "second"]) fun _ _ _ _ _ _ us hl => match us, hl with | [_, _], _ => rfl
  have F4 := fun_mk (st := s_is_share) l4 c4 k4
  have b4 := F4.binds (ps := ["thing"]) fun _ _ _ _ _ _ us hl => match us, hl with | [_], _ => rfl
  have F5 := fun_mk (st := s_is_drift) l5 c5 k5
  have b5 := F5.binds (ps := ["thing"]) fun _ _ _ _ _ _ us hl => match us, hl with | [_], _ => rfl
  have F6 := fun_mk (st := s_refuse_no_count) l6 c6 k6
  have b6 := F6.binds (ps := ["thing"]) fun _ _ _ _ _ _ us hl => match us, hl with | [_], _ => rfl
  have F7 := fun_mk (st := s_least_of) l7 c7 k7
  have b7 := F7.binds (ps := ["ticks", "drift"]) fun _ _ _ _ _ _ us hl => match us, hl with | [_, _], _ => rfl
  have F8 := fun_mk (st := s_most_of) l8 c8 k8
  have b8 := F8.binds (ps := ["ticks", "drift"]) fun _ _ _ _ _ _ us hl => match us, hl with | [_, _], _ => rfl
  have F9 : FunD K "__init__" "Clock.__init__" (defArgs s_Clock___init__) (defBody s_Clock___init__) (defScope s_Clock___init__) [V.ref f25] [] f9 (PySem.W.fnOf "__init__" "Clock.__init__" (defArgs s_Clock___init__) (defBody s_Clock___init__) (defScope s_Clock___init__) (.ref T9) kV9 dc9 pm9 an9 cd9 ct9) := ⟨⟨_, _, _, _, _, _, _, _, _, _, rfl, l9, c9, .inr ⟨by simp, _, _, [Value.ref f25], _, rfl, lT9, rfl, (.cons rfl .nil)⟩, .inl rfl⟩, k9⟩
  have b9 : Binds K (PySem.W.fnOf "__init__" "Clock.__init__" (defArgs s_Clock___init__) (defBody s_Clock___init__) (defScope s_Clock___init__) (.ref T9) kV9 dc9 pm9 an9 cd9 ct9) ["self", "drift"] [] := by
    obtain ⟨ds, v, b⟩ := F9.binds1 (ps := ["self", "drift"]) 2 1 (by simp) rfl (fun T kV dc pm an cdv ct us its hu hi => match us, hu, its, hi with | [_, _], _, [_], _ => ⟨_, rfl, rfl⟩)
    cases v
    exact b
  have c'9 : ∃ ds, Vals [V.ref f25] ds ∧ Binds K (PySem.W.fnOf "__init__" "Clock.__init__" (defArgs s_Clock___init__) (defBody s_Clock___init__) (defScope s_Clock___init__) (.ref T9) kV9 dc9 pm9 an9 cd9 ct9) ["self", "drift"] ds := F9.binds1 (ps := ["self", "drift"]) 1 0 (by simp) rfl (fun T kV dc pm an cdv ct us its hu hi => match us, hu, its, hi with | [_], _, [_], _ => ⟨_, rfl, rfl⟩)
  have F10 := fun_mk (st := s_Clock_is_set) l10 c10 k10
  have b10 := F10.binds (ps := ["self"]) fun _ _ _ _ _ _ us hl => match us, hl with | [_], _ => rfl
  have F11 := fun_mk (st := s_Clock_set_to) l11 c11 k11
  have b11 := F11.binds (ps := ["self", "low", "high"]) fun _ _ _ _ _ _ us hl => match us, hl with | [_, _, _], _ => rfl
  have F12 : FunD K "tick" "Clock.tick" (defArgs s_Clock_tick) (defBody s_Clock_tick) (defScope s_Clock_tick) [V.int 1] [] f12 (PySem.W.fnOf "tick" "Clock.tick" (defArgs s_Clock_tick) (defBody s_Clock_tick) (defScope s_Clock_tick) (.ref T12) kV12 dc12 pm12 an12 cd12 ct12) := ⟨⟨_, _, _, _, _, _, _, _, _, _, rfl, l12, c12, .inr ⟨by simp, _, _, [Value.int 1 tT12_0], _, rfl, lT12, rfl, (.cons ⟨_, rfl⟩ .nil)⟩, .inl rfl⟩, k12⟩
  have b12 : Binds K (PySem.W.fnOf "tick" "Clock.tick" (defArgs s_Clock_tick) (defBody s_Clock_tick) (defScope s_Clock_tick) (.ref T12) kV12 dc12 pm12 an12 cd12 ct12) ["self", "many"] [] := by
    obtain ⟨ds, v, b⟩ := F12.binds1 (ps := ["self", "many"]) 2 1 (by simp) rfl (fun T kV dc pm an cdv ct us its hu hi => match us, hu, its, hi with | [_, _], _, [_], _ => ⟨_, rfl, rfl⟩)
    cases v
    exact b
  have c'12 : ∃ ds, Vals [V.int 1] ds ∧ Binds K (PySem.W.fnOf "tick" "Clock.tick" (defArgs s_Clock_tick) (defBody s_Clock_tick) (defScope s_Clock_tick) (.ref T12) kV12 dc12 pm12 an12 cd12 ct12) ["self", "many"] ds := F12.binds1 (ps := ["self", "many"]) 1 0 (by simp) rfl (fun T kV dc pm an cdv ct us its hu hi => match us, hu, its, hi with | [_], _, [_], _ => ⟨_, rfl, rfl⟩)
  have F13 := fun_mk (st := s_Clock_bounds) l13 c13 k13
  have b13 := F13.binds (ps := ["self"]) fun _ _ _ _ _ _ us hl => match us, hl with | [_], _ => rfl
  have F14 := fun_mk (st := s_Clock___eq__) l14 c14 k14
  have b14 := F14.binds (ps := ["self", "other"]) fun _ _ _ _ _ _ us hl => match us, hl with | [_, _], _ => rfl
  have F15 := fun_mk (st := s_l_bag) l15 c15 k15
  have b15 := F15.binds (ps := ["_law_script", "_law_k"]) fun _ _ _ _ _ _ us hl => match us, hl with | [_, _], _ => rfl
  have F16 := fun_mk (st := s_l_out) l16 c16 k16
  have b16 := F16.binds (ps := ["_law_bag_here", "_law_many"]) fun _ _ _ _ _ _ us hl => match us, hl with | [_, _], _ => rfl
  have F17 := fun_mk (st := s_l_drift) l17 c17 k17
  have b17 := F17.binds (ps := ["_law_bag_here"]) fun _ _ _ _ _ _ us hl => match us, hl with | [_], _ => rfl
  have F18 := fun_mk (st := s_l_less) l18 c18 k18
  have b18 := F18.binds (ps := ["_law_bag_here", "_law_drift_here"]) fun _ _ _ _ _ _ us hl => match us, hl with | [_, _], _ => rfl
  have F19 := fun_mk (st := s_law) l19 c19 k19
  have b19 := F19.binds (ps := ["_law_script"]) fun _ _ _ _ _ _ us hl => match us, hl with | [_], _ => rfl
  have F20 := fun_mk (st := s_bounds_behind) l20 c20 k20
  have b20 := F20.binds (ps := ["stands", "counted", "drift"]) fun _ _ _ _ _ _ us hl => match us, hl with | [_, _, _], _ => rfl
  have F21 := fun_mk (st := s_set_between) l21 c21 k21
  have b21 := F21.binds (ps := ["told", "low", "high"]) fun _ _ _ _ _ _ us hl => match us, hl with | [_, _, _], _ => rfl

  let a : Nat → Addr := fun i => match i with | 0 => f0 | 1 => f1 | 2 => f2 | 3 => f3 | 4 => f4 | 5 => f5 | 6 => f6 | 7 => f7 | 8 => f8 | 9 => f9 | 10 => f10 | 11 => f11 | 12 => f12 | 13 => f13 | 14 => f14 | 15 => f15 | 16 => f16 | 17 => f17 | 18 => f18 | 19 => fa | 20 => f20 | 21 => f21 | 60 => nC | 22 => fC | 23 => f23 | 25 => f25 | _ => 0
  let d : Nat → FuncData := fun i => match i with | 0 => (PySem.W.fnOf "is_whole" "is_whole" (defArgs s_is_whole) (defBody s_is_whole) (defScope s_is_whole) .none kV0 dc0 pm0 an0 cd0 ct0) | 1 => (PySem.W.fnOf "is_count" "is_count" (defArgs s_is_count) (defBody s_is_count) (defScope s_is_count) .none kV1 dc1 pm1 an1 cd1 ct1) | 2 => (PySem.W.fnOf "is_from_to" "is_from_to" (defArgs s_is_from_to) (defBody s_is_from_to) (defScope s_is_from_to) .none kV2 dc2 pm2 an2 cd2 ct2) | 3 => (PySem.W.fnOf "common_divisor" "common_divisor" (defArgs s_common_divisor) (defBody s_common_divisor) (defScope s_common_divisor) .none kV3 dc3 pm3 an3 cd3 ct3) | 4 => (PySem.W.fnOf "is_share" "is_share" (defArgs s_is_share) (defBody s_is_share) (defScope s_is_share) .none kV4 dc4 pm4 an4 cd4 ct4) | 5 => (PySem.W.fnOf "is_drift" "is_drift" (defArgs s_is_drift) (defBody s_is_drift) (defScope s_is_drift) .none kV5 dc5 pm5 an5 cd5 ct5) | 6 => (PySem.W.fnOf "refuse_no_count" "refuse_no_count" (defArgs s_refuse_no_count) (defBody s_refuse_no_count) (defScope s_refuse_no_count) .none kV6 dc6 pm6 an6 cd6 ct6) | 7 => (PySem.W.fnOf "least_of" "least_of" (defArgs s_least_of) (defBody s_least_of) (defScope s_least_of) .none kV7 dc7 pm7 an7 cd7 ct7) | 8 => (PySem.W.fnOf "most_of" "most_of" (defArgs s_most_of) (defBody s_most_of) (defScope s_most_of) .none kV8 dc8 pm8 an8 cd8 ct8) | 9 => (PySem.W.fnOf "__init__" "Clock.__init__" (defArgs s_Clock___init__) (defBody s_Clock___init__) (defScope s_Clock___init__) (.ref T9) kV9 dc9 pm9 an9 cd9 ct9) | 10 => (PySem.W.fnOf "is_set" "Clock.is_set" (defArgs s_Clock_is_set) (defBody s_Clock_is_set) (defScope s_Clock_is_set) .none kV10 dc10 pm10 an10 cd10 ct10) | 11 => (PySem.W.fnOf "set_to" "Clock.set_to" (defArgs s_Clock_set_to) (defBody s_Clock_set_to) (defScope s_Clock_set_to) .none kV11 dc11 pm11 an11 cd11 ct11) | 12 => (PySem.W.fnOf "tick" "Clock.tick" (defArgs s_Clock_tick) (defBody s_Clock_tick) (defScope s_Clock_tick) (.ref T12) kV12 dc12 pm12 an12 cd12 ct12) | 13 => (PySem.W.fnOf "bounds" "Clock.bounds" (defArgs s_Clock_bounds) (defBody s_Clock_bounds) (defScope s_Clock_bounds) .none kV13 dc13 pm13 an13 cd13 ct13) | 14 => (PySem.W.fnOf "__eq__" "Clock.__eq__" (defArgs s_Clock___eq__) (defBody s_Clock___eq__) (defScope s_Clock___eq__) .none kV14 dc14 pm14 an14 cd14 ct14) | 15 => (PySem.W.fnOf "_law_bag" "_law_bag" (defArgs s_l_bag) (defBody s_l_bag) (defScope s_l_bag) .none kV15 dc15 pm15 an15 cd15 ct15) | 16 => (PySem.W.fnOf "_law_out" "_law_out" (defArgs s_l_out) (defBody s_l_out) (defScope s_l_out) .none kV16 dc16 pm16 an16 cd16 ct16) | 17 => (PySem.W.fnOf "_law_drift" "_law_drift" (defArgs s_l_drift) (defBody s_l_drift) (defScope s_l_drift) .none kV17 dc17 pm17 an17 cd17 ct17) | 18 => (PySem.W.fnOf "_law_less" "_law_less" (defArgs s_l_less) (defBody s_l_less) (defScope s_l_less) .none kV18 dc18 pm18 an18 cd18 ct18) | 19 => (PySem.W.fnOf "law" "law" (defArgs s_law) (defBody s_law) (defScope s_law) .none kV19 dc19 pm19 an19 cd19 ct19) | 20 => (PySem.W.fnOf "bounds_behind" "bounds_behind" (defArgs s_bounds_behind) (defBody s_bounds_behind) (defScope s_bounds_behind) .none kV20 dc20 pm20 an20 cd20 ct20) | 21 => (PySem.W.fnOf "set_between" "set_between" (defArgs s_set_between) (defBody s_set_between) (defScope s_set_between) .none kV21 dc21 pm21 an21 cd21 ct21)  | _ => (PySem.W.fnOf "law" "law" (defArgs s_law) (defBody s_law) (defScope s_law) .none kV19 dc19 pm19 an19 cd19 ct19)
  have T : Txt K mg a d := ⟨PySem.W.mg_of X G a0, F0, b0, PySem.W.mg_of X G a1, F1, b1, PySem.W.mg_of X G a2, F2, b2, PySem.W.mg_of X G a3, F3, b3, PySem.W.mg_of X G a4, F4, b4, PySem.W.mg_of X G a5, F5, b5, PySem.W.mg_of X G a6, F6, b6, PySem.W.mg_of X G a7, F7, b7, PySem.W.mg_of X G a8, F8, b8, F9, c'9, b9, ⟨mk, a9, i9, kc⟩, F10, b10, ⟨a10, i10, k10⟩, F11, b11, ⟨a11, i11, k11⟩, F12, c'12, b12, ⟨a12, i12, k12⟩, F13, b13, ⟨a13, i13, k13⟩, F14, b14, ⟨a14, i14, k14⟩, PySem.W.mg_of X G a15, F15, b15, PySem.W.mg_of X G a16, F16, b16, PySem.W.mg_of X G a17, F17, b17, PySem.W.mg_of X G a18, F18, b18, PySem.W.mg_of X G a19, F19, b19, PySem.W.mg_of X G a20, F20, b20, PySem.W.mg_of X G a21, F21, b21, PySem.W.mg_of X G aC, ⟨pg, hd, po, sa⟩, nf_most_drift, nf_stands, nf_counted, PySem.W.mg_of X G g23, fun H => .inr ⟨_, _, _, l23, rfl, rfl, (by show 2 ≤ sizeLine; decide), (.cons ⟨_, rfl⟩ (.cons ⟨_, rfl⟩ .nil))⟩, ⟨_, PySem.W.mg_of X G g24⟩, PySem.W.mg_of X G g25, fun H => .inr ⟨_, _, _, l25, rfl, rfl, (by show 2 ≤ sizeLine; decide), (.cons ⟨_, rfl⟩ (.cons ⟨_, rfl⟩ .nil))⟩, PySem.W.mg_none_of X G z_max, PySem.W.mg_none_of X G z_min, PySem.W.mg_none_of X G z_len, PySem.W.mg_none_of X G z_int, PySem.W.mg_none_of X G z_range, PySem.W.mg_none_of X G z_isinstance, PySem.W.mg_none_of X G z_bool, PySem.W.mg_none_of X G z_tuple, PySem.W.mg_none_of X G z_all, PySem.W.mg_none_of X G z_sum, ⟨nmC, qC, bsC, hdC, snC, subC, abC, colC, ddC, y0, y1, y2, y3, y5, newC, xC⟩, nsok_of lN alN, eqC, neC, ⟨_, l14, tyE⟩, j1, j2, j3, j4, kit_self⟩
  exact ⟨(PySem.W.fnOf "law" "law" (defArgs s_law) (defBody s_law) (defScope s_law) .none kV19 dc19 pm19 an19 cd19 ct19), fun s v => .of_eq rfl, fun base _ _ => ok_law T⟩
theorem walk {l : PySem.W.OpenLaw} {q : Program} {loose : List Str} {XP : (Str → Option Value) → Heap → Prop} {YP : World → Heap → Prop} {d : DefRec} {K : Params → PySem.W.Frag} (hn : l.most = some 63) (hdf : d.params.defaults = [])
    (hY : ∀ (w : World) (h : Heap), YP w h → (K w.params).In h)
    (F : ∀ (w : World) (mg : Str → Option Value) (fa : Addr) (h : Heap), (K w.params).In h → h.Ns mainGlobals mg → mg d.name = some (.ref fa) →
      ∃ fd : FuncData, (∀ (s : Shared) (u : Value), BindsTo s fd ⟨[u], []⟩ [("_law_script", u)]) ∧ ∀ base : Heap, (K w.params).In base → base.Ns mainGlobals mg → FnOk l.prog w (K w.params) mg base CX0 8 fa fd ["_law_script"] (spLaw (K w.params))) :
    PySem.W.WalkO q loose XP YP l.row.toRowW d [] (fun f vs => PySem.call f vs) :=
  L2.walk_of (n := 63) (k := 8) (x := "_law_script") (CX := fun _ => CX0) (sp := fun w => (spLaw (K w.params))) hn (by decide) hdf ⟨rfl, by decide, by decide⟩ hY F (fun _ _ a ns hl _ hS => ⟨a, ns, rfl, hS, hl, fun _ => rfl⟩) fun _ _ _ _ _ z => z
end M

open PySem PySem.W PyProof.Rows in
set_option maxRecDepth 100000 in
set_option maxHeartbeats 0 in
theorem PySem.Challenge.cw_stampedwait_k11_whole_counted_at_once_or_holds : PySem.Challenge.rw_stampedwait_k11_whole_counted_at_once_or.Holds := by
  w_on; o_law; k_head; (case hw => w_witness2)
  k_fill
  refine M.walk (l := PySem.Challenge.rw_stampedwait_k11_whole_counted_at_once_or) rfl rfl (fun w h Y => PySem.W.kIn_of Y) ?F
  case F =>
    intro w mg fa h KX G hmg
    refine' M.all_mk KX G hmg ?g23 ?l23 ?g24 ?g25 ?l25 ?aC ?pg ?hd ?po ?sa ?mk ?kc ?nf_most_drift ?nf_stands ?nf_counted ?a0 ?l0 ?c0 ?k0 ?a1 ?l1 ?c1 ?k1 ?a2 ?l2 ?c2 ?k2 ?a3 ?l3 ?c3 ?k3 ?a4 ?l4 ?c4 ?k4 ?a5 ?l5 ?c5 ?k5 ?a6 ?l6 ?c6 ?k6 ?a7 ?l7 ?c7 ?k7 ?a8 ?l8 ?c8 ?k8 ?a9 ?i9 ?l9 ?c9 ?k9 ?lT9 ?a10 ?i10 ?l10 ?c10 ?k10 ?a11 ?i11 ?l11 ?c11 ?k11 ?a12 ?i12 ?l12 ?c12 ?k12 ?lT12 ?a13 ?i13 ?l13 ?c13 ?k13 ?a14 ?i14 ?l14 ?c14 ?k14 ?a15 ?l15 ?c15 ?k15 ?a16 ?l16 ?c16 ?k16 ?a17 ?l17 ?c17 ?k17 ?a18 ?l18 ?c18 ?k18 ?a19 ?l19 ?c19 ?k19 ?a20 ?l20 ?c20 ?k20 ?a21 ?l21 ?c21 ?k21 ?z_max ?z_min ?z_len ?z_int ?z_range ?z_isinstance ?z_bool ?z_tuple ?z_all ?z_sum ?xC ?lN ?alN ?eqC ?neC ?tyE ?j1 ?j2 ?j3 ?j4
    (case g23 => k_is)
    (case l23 => k_is)
    (case g24 => k_is)
    (case g25 => k_is)
    (case l25 => k_is)
    (case aC => k_is)
    (case pg => k_is)
    (case hd => k_is)
    (case po => k_is)
    (case sa => k_is)
    (case mk => k_is)
    (case kc => k_is)
    (case nf_most_drift => k_is)
    (case nf_stands => k_is)
    (case nf_counted => k_is)
    (case a0 => k_is)
    (case l0 => k_is)
    (case c0 => k_is)
    (case k0 => k_is)
    (case a1 => k_is)
    (case l1 => k_is)
    (case c1 => k_is)
    (case k1 => k_is)
    (case a2 => k_is)
    (case l2 => k_is)
    (case c2 => k_is)
    (case k2 => k_is)
    (case a3 => k_is)
    (case l3 => k_is)
    (case c3 => k_is)
    (case k3 => k_is)
    (case a4 => k_is)
    (case l4 => k_is)
    (case c4 => k_is)
    (case k4 => k_is)
    (case a5 => k_is)
    (case l5 => k_is)
    (case c5 => k_is)
    (case k5 => k_is)
    (case a6 => k_is)
    (case l6 => k_is)
    (case c6 => k_is)
    (case k6 => k_is)
    (case a7 => k_is)
    (case l7 => k_is)
    (case c7 => k_is)
    (case k7 => k_is)
    (case a8 => k_is)
    (case l8 => k_is)
    (case c8 => k_is)
    (case k8 => k_is)
    (case a9 => k_is)
    (case i9 => k_is)
    (case l9 => k_is)
    (case c9 => k_is)
    (case k9 => k_is)
    (case lT9 => k_is)
    (case a10 => k_is)
    (case i10 => k_is)
    (case l10 => k_is)
    (case c10 => k_is)
    (case k10 => k_is)
    (case a11 => k_is)
    (case i11 => k_is)
    (case l11 => k_is)
    (case c11 => k_is)
    (case k11 => k_is)
    (case a12 => k_is)
    (case i12 => k_is)
    (case l12 => k_is)
    (case c12 => k_is)
    (case k12 => k_is)
    (case lT12 => k_is)
    (case a13 => k_is)
    (case i13 => k_is)
    (case l13 => k_is)
    (case c13 => k_is)
    (case k13 => k_is)
    (case a14 => k_is)
    (case i14 => k_is)
    (case l14 => k_is)
    (case c14 => k_is)
    (case k14 => k_is)
    (case a15 => k_is)
    (case l15 => k_is)
    (case c15 => k_is)
    (case k15 => k_is)
    (case a16 => k_is)
    (case l16 => k_is)
    (case c16 => k_is)
    (case k16 => k_is)
    (case a17 => k_is)
    (case l17 => k_is)
    (case c17 => k_is)
    (case k17 => k_is)
    (case a18 => k_is)
    (case l18 => k_is)
    (case c18 => k_is)
    (case k18 => k_is)
    (case a19 => k_is)
    (case l19 => k_is)
    (case c19 => k_is)
    (case k19 => k_is)
    (case a20 => k_is)
    (case l20 => k_is)
    (case c20 => k_is)
    (case k20 => k_is)
    (case a21 => k_is)
    (case l21 => k_is)
    (case c21 => k_is)
    (case k21 => k_is)
    (case z_max => k_is)
    (case z_min => k_is)
    (case z_len => k_is)
    (case z_int => k_is)
    (case z_range => k_is)
    (case z_isinstance => k_is)
    (case z_bool => k_is)
    (case z_tuple => k_is)
    (case z_all => k_is)
    (case z_sum => k_is)
    (case xC => k_is)
    (case lN => k_is)
    (case alN => first | rfl | simp)
    (case eqC => k_is)
    (case neC => k_is)
    (case tyE => rfl)
    (case j1 => k_is)
    (case j2 => k_is)
    (case j3 => k_is)
    (case j4 => k_is)
