import PyProof.Rows.All
import Wide.All
import OpenK.AllK
import Wide.FinOn
import HandS.ForMost
import HandS.Wide
import HandS.IsInst
import HandS.Defaults
import PySem.Challenge.RW_stampedwait_k12_whole_two_clocks_never_a
set_option Elab.async false
set_option linter.all false
set_option maxRecDepth 100000
set_option maxHeartbeats 4000000
namespace M
open PySem L2


section
open PySem PySem.Spec PyProof.Rows L2
variable {X : Cx} {ea eb ec ed : Expr} {ta tb tc td : TE} {pos : Pos}
/-- three comparisons in a row -/
def tChain3 (r r' r'' : R2) (ta tb tc td : TE) : TE := fun σ H Q => ta σ H fun x H1 => tb σ H1 fun y H2 => r x y H2 fun z H3 => ∃ k, z = .bl k ∧
  (if k = true then tc σ H3 fun u H4 => r' y u H4 fun z2 H5 => ∃ k2, z2 = .bl k2 ∧ (if k2 = true then td σ H5 fun v H6 => r'' u v H6 Q else Q (.bl false) H5) else Q (.bl false) H3)
theorem pt_chain3 {op op' op'' : CmpOp} {r r' r'' : R2} (ho : OpR X (compareOp op) r) (ho' : OpR X (compareOp op') r') (ho'' : OpR X (compareOp op'') r'') (ha : PE X ea ta) (hb : PE X eb tb) (hc : PE X ec tc) (hd : PE X ed td)
    (hm : lastMarks [op, op', op''] [eb, ec, ed] = false := by with_unfolding_all rfl) : PT X (.Compare ea [op, op', op''] [eb, ec, ed] pos) (tTest (tChain3 r r' r'' ta tb tc td)) := by
  refine ⟨fun pins s σ H Q I h => ?_⟩
  refine isTrue_chain (thn (ha.run pins s σ H _ I h) fun v s1 ⟨x, H1, I1, r1, q1⟩ => test_link (thn (hb.run pins s1 σ H1 _ I1 q1) fun u s2 ⟨y, H2, I2, r2, q2⟩ =>
    thn (ho pins s2 σ H2 x y v u _ I2 r1 r2 q2) fun d s3 ⟨z, H3, I3, r3, k, e, q3⟩ => ?_)) hm
  subst e
  cases r3
  refine wpAny_truthy_bool ?_
  cases k with
  | false =>
    obtain ⟨k', e', q'⟩ := q3
    cases e'
    exact ite_ff ⟨H3, I3, q'⟩
  | true =>
    refine ite_tt (test_link (thn (hc.run pins s3 σ H3 _ I3 q3) fun w' s4 ⟨z', H4, I4, r4, q4⟩ => thn (ho' pins s4 σ H4 y z' u w' _ I4 r2 r4 q4) fun d' s5 ⟨z2, H5, I5, r5, k2, e2, q5⟩ => ?_))
    subst e2
    cases r5
    refine wpAny_truthy_bool ?_
    cases k2 with
    | false =>
      obtain ⟨k', e', q'⟩ := q5
      cases e'
      exact ite_ff ⟨H5, I5, q'⟩
    | true =>
      refine ite_tt (test_last (thn (hd.run pins s5 σ H5 _ I5 q5) fun v' s6 ⟨z3, H6, I6, r6, q6⟩ => thn (ho'' pins s6 σ H6 z' z3 w' v' _ I6 r4 r6 q6) fun d'' s7 ⟨z4, H7, I7, r7, k3, e3, q7⟩ => ?_))
      subst e3
      cases r7
      exact wpAny_truthy_bool ⟨H7, I7, q7⟩
end

def top (i : Nat) : Stmt := PySem.Challenge.pw_stampedwait_k12_whole_two_clocks_never_a.main.body.getD i (.Pass ⟨0, 0, 0, 0⟩)
abbrev s_is_whole : Stmt := top 10
abbrev s_is_count : Stmt := top 11
abbrev s_is_from_to : Stmt := top 12
abbrev s_common_divisor : Stmt := top 13
abbrev s_is_share : Stmt := top 14
abbrev s_is_drift : Stmt := top 15
abbrev s_refuse_no_count : Stmt := top 16
abbrev s_least_of : Stmt := top 17
abbrev s_most_of : Stmt := top 18
abbrev s_Clock___init__ : Stmt := inClass (top 23) 0
abbrev s_Clock_is_set : Stmt := inClass (top 23) 2
abbrev s_Clock_set_to : Stmt := inClass (top 23) 3
abbrev s_Clock_tick : Stmt := inClass (top 23) 4
abbrev s_Clock_bounds : Stmt := inClass (top 23) 5
abbrev s_Clock_is_past : Stmt := inClass (top 23) 6
abbrev s_Clock_is_ahead : Stmt := inClass (top 23) 7
abbrev s_l_bag : Stmt := top 25
abbrev s_l_out : Stmt := top 26
abbrev s_l_drift : Stmt := top 27
abbrev s_l_gone : Stmt := top 28
abbrev s_l_right : Stmt := top 29
abbrev s_law : Stmt := top 30
abbrev s_bounds_behind : Stmt := top 21
abbrev s_set_between : Stmt := top 22
theorem sc_is_whole : FnScope ["thing"] ["thing"] (defScope s_is_whole) := ⟨rfl, rfl, rfl, by decide +kernel, rfl, by decide +kernel, by decide +kernel⟩
theorem sc_is_count : FnScope ["thing"] ["thing"] (defScope s_is_count) := ⟨rfl, rfl, rfl, by decide +kernel, rfl, by decide +kernel, by decide +kernel⟩
theorem sc_is_from_to : FnScope ["thing", "least", "most"] ["thing", "least", "most"] (defScope s_is_from_to) := ⟨rfl, rfl, rfl, by decide +kernel, rfl, by decide +kernel, by decide +kernel⟩
theorem sc_common_divisor : FnScope ["first", "second"] ["first", "second"] (defScope s_common_divisor) := ⟨rfl, rfl, rfl, by decide +kernel, rfl, by decide +kernel, by decide +kernel⟩
theorem sc_is_share : FnScope ["thing", "top", "bottom"] ["thing"] (defScope s_is_share) := ⟨rfl, rfl, rfl, by decide +kernel, rfl, by decide +kernel, by decide +kernel⟩
theorem sc_is_drift : FnScope ["thing"] ["thing"] (defScope s_is_drift) := ⟨rfl, rfl, rfl, by decide +kernel, rfl, by decide +kernel, by decide +kernel⟩
theorem sc_refuse_no_count : FnScope ["thing"] ["thing"] (defScope s_refuse_no_count) := ⟨rfl, rfl, rfl, by decide +kernel, rfl, by decide +kernel, by decide +kernel⟩
theorem sc_least_of : FnScope ["ticks", "drift", "top", "bottom"] ["ticks", "drift"] (defScope s_least_of) := ⟨rfl, rfl, rfl, by decide +kernel, rfl, by decide +kernel, by decide +kernel⟩
theorem sc_most_of : FnScope ["ticks", "drift", "top", "bottom"] ["ticks", "drift"] (defScope s_most_of) := ⟨rfl, rfl, rfl, by decide +kernel, rfl, by decide +kernel, by decide +kernel⟩
theorem sc_Clock___init__ : FnScope ["self", "drift"] ["self", "drift"] (defScope s_Clock___init__) := ⟨rfl, rfl, rfl, by decide +kernel, rfl, by decide +kernel, by decide +kernel⟩
theorem sc_Clock_is_set : FnScope ["self"] ["self"] (defScope s_Clock_is_set) := ⟨rfl, rfl, rfl, by decide +kernel, rfl, by decide +kernel, by decide +kernel⟩
theorem sc_Clock_set_to : FnScope ["self", "low", "high", "told"] ["self", "low", "high"] (defScope s_Clock_set_to) := ⟨rfl, rfl, rfl, by decide +kernel, rfl, by decide +kernel, by decide +kernel⟩
theorem sc_Clock_tick : FnScope ["self", "many"] ["self", "many"] (defScope s_Clock_tick) := ⟨rfl, rfl, rfl, by decide +kernel, rfl, by decide +kernel, by decide +kernel⟩
theorem sc_Clock_bounds : FnScope ["self"] ["self"] (defScope s_Clock_bounds) := ⟨rfl, rfl, rfl, by decide +kernel, rfl, by decide +kernel, by decide +kernel⟩
theorem sc_Clock_is_past : FnScope ["self", "time"] ["self", "time"] (defScope s_Clock_is_past) := ⟨rfl, rfl, rfl, by decide +kernel, rfl, by decide +kernel, by decide +kernel⟩
theorem sc_Clock_is_ahead : FnScope ["self", "time"] ["self", "time"] (defScope s_Clock_is_ahead) := ⟨rfl, rfl, rfl, by decide +kernel, rfl, by decide +kernel, by decide +kernel⟩
theorem sc_l_bag : FnScope ["_law_script", "_law_k", "_law_cell", "_law_great"] ["_law_script", "_law_k"] (defScope s_l_bag) := ⟨rfl, rfl, rfl, by decide +kernel, rfl, by decide +kernel, by decide +kernel⟩
theorem sc_l_out : FnScope ["_law_bag_here", "_law_many", "_law_found"] ["_law_bag_here", "_law_many"] (defScope s_l_out) := ⟨rfl, rfl, rfl, by decide +kernel, rfl, by decide +kernel, by decide +kernel⟩
theorem sc_l_drift : FnScope ["_law_bag_here", "_law_bottom", "_law_top", "_law_one", "_law_other"] ["_law_bag_here"] (defScope s_l_drift) := ⟨rfl, rfl, rfl, by decide +kernel, rfl, by decide +kernel, by decide +kernel⟩
theorem sc_l_gone : FnScope ["_law_bag_here", "_law_clock", "_law_drift_here", "_law_state", "_law_ticks", "_law_top", "_law_bottom", "_law_pace", "_law_ahead"] ["_law_bag_here", "_law_clock", "_law_drift_here", "_law_state", "_law_ticks"] (defScope s_l_gone) := ⟨rfl, rfl, rfl, by decide +kernel, rfl, by decide +kernel, by decide +kernel⟩
theorem sc_l_right : FnScope ["_law_one", "_law_other", "_law_time", "_law_first", "_law_second", "_law_moment"] ["_law_one", "_law_other", "_law_time"] (defScope s_l_right) := ⟨rfl, rfl, rfl, by decide +kernel, rfl, by decide +kernel, by decide +kernel⟩
theorem sc_law : FnScope ["_law_script", "_law_k", "_law_bag_here", "_law_drifts", "_law_clocks", "_law_time", "_law_clock", "_law_states", "_law_turn", "_law_ticks", "_law_at", "_law_own", "_law_low", "_law_high", "_law_top", "_law_bottom", "_law_more"] ["_law_script"] (defScope s_law) := ⟨rfl, rfl, rfl, by decide +kernel, rfl, by decide +kernel, by decide +kernel⟩
theorem sc_bounds_behind : FnScope ["stands", "counted", "drift"] ["stands", "counted", "drift"] (defScope s_bounds_behind) := ⟨rfl, rfl, rfl, by decide +kernel, rfl, by decide +kernel, by decide +kernel⟩
theorem sc_set_between : FnScope ["told", "low", "high", "least", "most"] ["told", "low", "high"] (defScope s_set_between) := ⟨rfl, rfl, rfl, by decide +kernel, rfl, by decide +kernel, by decide +kernel⟩
/-- what the top has written -/
structure Txt (K : PySem.W.Frag) (mg : Str → Option Value) (a : Nat → Addr) (d : Nat → FuncData) : Prop where
  g_is_whole : mg "is_whole" = some (.ref (a 0))
  F_is_whole : Fun K "is_whole" "is_whole" s_is_whole (a 0) (d 0)
  b_is_whole : Binds K (d 0) ["thing"] []
  g_is_count : mg "is_count" = some (.ref (a 1))
  F_is_count : Fun K "is_count" "is_count" s_is_count (a 1) (d 1)
  b_is_count : Binds K (d 1) ["thing"] []
  g_is_from_to : mg "is_from_to" = some (.ref (a 2))
  F_is_from_to : Fun K "is_from_to" "is_from_to" s_is_from_to (a 2) (d 2)
  b_is_from_to : Binds K (d 2) ["thing", "least", "most"] []
  g_common_divisor : mg "common_divisor" = some (.ref (a 3))
  F_common_divisor : Fun K "common_divisor" "common_divisor" s_common_divisor (a 3) (d 3)
  b_common_divisor : Binds K (d 3) ["first", "second"] []
  g_is_share : mg "is_share" = some (.ref (a 4))
  F_is_share : Fun K "is_share" "is_share" s_is_share (a 4) (d 4)
  b_is_share : Binds K (d 4) ["thing"] []
  g_is_drift : mg "is_drift" = some (.ref (a 5))
  F_is_drift : Fun K "is_drift" "is_drift" s_is_drift (a 5) (d 5)
  b_is_drift : Binds K (d 5) ["thing"] []
  g_refuse_no_count : mg "refuse_no_count" = some (.ref (a 6))
  F_refuse_no_count : Fun K "refuse_no_count" "refuse_no_count" s_refuse_no_count (a 6) (d 6)
  b_refuse_no_count : Binds K (d 6) ["thing"] []
  g_least_of : mg "least_of" = some (.ref (a 7))
  F_least_of : Fun K "least_of" "least_of" s_least_of (a 7) (d 7)
  b_least_of : Binds K (d 7) ["ticks", "drift"] []
  g_most_of : mg "most_of" = some (.ref (a 8))
  F_most_of : Fun K "most_of" "most_of" s_most_of (a 8) (d 8)
  b_most_of : Binds K (d 8) ["ticks", "drift"] []
  F_Clock___init__ : FunD K "__init__" "Clock.__init__" (defArgs s_Clock___init__) (defBody s_Clock___init__) (defScope s_Clock___init__) [.ref (a 27)] [] (a 9) (d 9)
  c_Clock___init__ : ∃ ds, Vals [.ref (a 27)] ds ∧ Binds K (d 9) ["self", "drift"] ds
  b_Clock___init__ : Binds K (d 9) ["self", "drift"] []
  m_Clock___init__ : Mk K (a 24) (a 9)
  F_Clock_is_set : Fun K "is_set" "Clock.is_set" s_Clock_is_set (a 10) (d 10)
  b_Clock_is_set : Binds K (d 10) ["self"] []
  m_Clock_is_set : Meth K (a 24) "is_set" (a 10)
  F_Clock_set_to : Fun K "set_to" "Clock.set_to" s_Clock_set_to (a 11) (d 11)
  b_Clock_set_to : Binds K (d 11) ["self", "low", "high"] []
  m_Clock_set_to : Meth K (a 24) "set_to" (a 11)
  F_Clock_tick : FunD K "tick" "Clock.tick" (defArgs s_Clock_tick) (defBody s_Clock_tick) (defScope s_Clock_tick) [.int 1] [] (a 12) (d 12)
  c_Clock_tick : ∃ ds, Vals [.int 1] ds ∧ Binds K (d 12) ["self", "many"] ds
  b_Clock_tick : Binds K (d 12) ["self", "many"] []
  m_Clock_tick : Meth K (a 24) "tick" (a 12)
  F_Clock_bounds : Fun K "bounds" "Clock.bounds" s_Clock_bounds (a 13) (d 13)
  b_Clock_bounds : Binds K (d 13) ["self"] []
  m_Clock_bounds : Meth K (a 24) "bounds" (a 13)
  F_Clock_is_past : Fun K "is_past" "Clock.is_past" s_Clock_is_past (a 14) (d 14)
  b_Clock_is_past : Binds K (d 14) ["self", "time"] []
  m_Clock_is_past : Meth K (a 24) "is_past" (a 14)
  F_Clock_is_ahead : Fun K "is_ahead" "Clock.is_ahead" s_Clock_is_ahead (a 15) (d 15)
  b_Clock_is_ahead : Binds K (d 15) ["self", "time"] []
  m_Clock_is_ahead : Meth K (a 24) "is_ahead" (a 15)
  g_l_bag : mg "_law_bag" = some (.ref (a 16))
  F_l_bag : Fun K "_law_bag" "_law_bag" s_l_bag (a 16) (d 16)
  b_l_bag : Binds K (d 16) ["_law_script", "_law_k"] []
  g_l_out : mg "_law_out" = some (.ref (a 17))
  F_l_out : Fun K "_law_out" "_law_out" s_l_out (a 17) (d 17)
  b_l_out : Binds K (d 17) ["_law_bag_here", "_law_many"] []
  g_l_drift : mg "_law_drift" = some (.ref (a 18))
  F_l_drift : Fun K "_law_drift" "_law_drift" s_l_drift (a 18) (d 18)
  b_l_drift : Binds K (d 18) ["_law_bag_here"] []
  g_l_gone : mg "_law_gone" = some (.ref (a 19))
  F_l_gone : Fun K "_law_gone" "_law_gone" s_l_gone (a 19) (d 19)
  b_l_gone : Binds K (d 19) ["_law_bag_here", "_law_clock", "_law_drift_here", "_law_state", "_law_ticks"] []
  g_l_right : mg "_law_right" = some (.ref (a 20))
  F_l_right : Fun K "_law_right" "_law_right" s_l_right (a 20) (d 20)
  b_l_right : Binds K (d 20) ["_law_one", "_law_other", "_law_time"] []
  g_law : mg "law" = some (.ref (a 21))
  F_law : Fun K "law" "law" s_law (a 21) (d 21)
  b_law : Binds K (d 21) ["_law_script"] []
  g_bounds_behind : mg "bounds_behind" = some (.ref (a 22))
  F_bounds_behind : Fun K "bounds_behind" "bounds_behind" s_bounds_behind (a 22) (d 22)
  b_bounds_behind : Binds K (d 22) ["stands", "counted", "drift"] []
  g_set_between : mg "set_between" = some (.ref (a 23))
  F_set_between : Fun K "set_between" "set_between" s_set_between (a 23) (d 23)
  b_set_between : Binds K (d 23) ["told", "low", "high"] []
  g_Clock : mg "Clock" = some (.ref (a 24))
  cl : Cls K (a 24)
  n_most_drift : NoAttr K (a 24) "most_drift"
  n_stands : NoAttr K (a 24) "stands"
  n_counted : NoAttr K (a 24) "counted"
  g_WHOLE : mg "WHOLE" = some (.ref (a 25))
  k_WHOLE : ∀ H : Hp, SqT K H (a 25) [V.int 1, V.int 1]
  g_MOST_BOTTOM : ∃ t, mg "MOST_BOTTOM" = some (.int 1000 t)
  g_DRIFT : mg "DRIFT" = some (.ref (a 27))
  k_DRIFT : ∀ H : Hp, SqT K H (a 27) [V.int 1, V.int 100]
  z_max : mg "max" = none
  z_min : mg "min" = none
  z_len : mg "len" = none
  z_int : mg "int" = none
  z_range : mg "range" = none
  z_isinstance : mg "isinstance" = none
  z_bool : mg "bool" = none
  z_tuple : mg "tuple" = none
  z_all : mg "all" = none

theorem bl_of {Q : VK} {H : Hp} {c : Prop} [Decidable c] (h : c) (q : Q (.bl true) H) : Q (.bl (decide c)) H := by
  rw [decide_eq_true h]
  exact q
theorem bl_no {Q : VK} {H : Hp} {c : Prop} [Decidable c] (h : ¬ c) (q : Q (.bl false) H) : Q (.bl (decide c)) H := by
  rw [decide_eq_false h]
  exact q
theorem iteDT {c A B : Prop} [Decidable c] (h : c) (a : A) : if decide c = true then A else B := by
  rw [if_pos (decide_eq_true h)]
  exact a
theorem iteDF {c A B : Prop} [Decidable c] (h : ¬ c) (b : B) : if decide c = true then A else B := by
  rw [decide_eq_false h]
  exact iteF b
theorem iteND {c A B : Prop} [Decidable c] (h : ¬ c) (a : A) : if (!decide c) = true then A else B := by
  rw [decide_eq_false h]
  exact iteT a
theorem iteBT {c : Bool} {A B : Prop} (h : c = true) (a : A) : if c = true then A else B := by
  rw [if_pos h]
  exact a
theorem iteBF {c : Bool} {A B : Prop} (h : c = false) (b : B) : if c = true then A else B := by
  rw [h]
  exact iteF b
theorem len3 : 3 ≤ sizeLine := by decide
theorem len2 : 2 ≤ sizeLine := by decide
theorem len1 : 1 ≤ sizeLine := by decide
theorem m64 {i : Int} (a : -18446744073709551616 < i) (b : i < 18446744073709551616) : -(2 ^ 64) < i ∧ i < 2 ^ 64 := by
  have e : (2 : Int) ^ 64 = 18446744073709551616 := by decide
  rw [e]
  exact ⟨a, b⟩
theorem divW {i j : Int} (h : 0 < j) (hb : j ≤ 1000000000000000000000000000000) : CDivW i j := wide_div (b := 200) h (by
  have e : (j.natAbs : Int) = j := by omega
  have q : (j.natAbs : Int) < ((2 ^ 200 : Nat) : Int) := by rw [e]; exact Int.lt_of_le_of_lt hb (by decide)
  exact Int.ofNat_lt.mp q) (by decide) (by decide)
/-! ### heaps -/
/-- all that was tracked but x stands -/
def Fr (x : Addr) (H H' : Hp) : Prop := ∀ b o, b ≠ x → H b = some o → H' b = some o
theorem Fr.refl (x : Addr) (H : Hp) : Fr x H H := fun _ _ _ e => e
theorem Fr.trans {x : Addr} {H H1 H2 : Hp} (a : Fr x H H1) (b : Fr x H1 H2) : Fr x H H2 := fun c o n e => b c o n (a c o n e)
theorem fr_same {x : Addr} {H H' : Hp} (s : Same H H') : Fr x H H' := fun b o _ e => s b o e
theorem Fr.new {x p : Addr} {H H1 : Hp} {o : HO} (k : Fr x H H1) (hp : H1 p = none) : Fr x H (upd H1 p o) := fun b u n e => by
  rw [upd_ne (ne_of_none (k b u n e) hp)]
  exact k b u n e
theorem Fr.put {x : Addr} {H H1 : Hp} {o : HO} (k : Fr x H H1) : Fr x H (upd H1 x o) := fun b u n e => by
  rw [upd_ne n]
  exact k b u n e
theorem Fr.over {x : Addr} {H0 H H1 : Hp} (a : Same H0 H) (hx : H0 x = none) (k : Fr x H H1) : Same H0 H1 := fun b o e => k b o (ne_of_none e hx) (a b o e)
theorem same_new {H0 H : Hp} {p : Addr} {o : HO} (a : Same H0 H) (hp : H p = none) : Same H0 (upd H p o) := fun b u e => by
  rw [upd_ne (ne_of_none (a b u e) hp)]
  exact a b u e
/-- a thing that may be changed -/
def Mut : HO → Prop
  | .lst _ => True
  | .ins _ _ _ => True
  | _ => False
theorem Fr.tup {x p : Addr} {H H' : Hp} {o : HO} {xs : List V} (k : Fr x H H') (hx : H x = some o) (m : Mut o) (hp : H p = some (.tup xs)) : H' p = some (.tup xs) :=
  k p _ (ne_of hp hx (by intro e; subst e; exact m)) hp
theorem Fr.sqt {K : PySem.W.Frag} {x p : Addr} {H H' : Hp} {o : HO} {xs : List V} (k : Fr x H H') (hx : H x = some o) (m : Mut o) (h : SqT K H p xs) : SqT K H' p xs := by
  rcases h with (h | ⟨u, h⟩) | h
  · exact .inl (.inl (k p _ (ne_of h hx (by intro e; subst e; exact m)) h))
  · exact .inl (.inr ⟨u, k p _ (ne_of h hx (by intro e; subst e; exact m)) h⟩)
  · exact .inr h
theorem same_sqt {K : PySem.W.Frag} {p : Addr} {H H' : Hp} {xs : List V} (k : Same H H') (h : SqT K H p xs) : SqT K H' p xs := by
  rcases h with (h | ⟨u, h⟩) | h
  · exact .inl (.inl (k p _ h))
  · exact .inl (.inr ⟨u, k p _ h⟩)
  · exact .inr h
theorem sqt_ty {K : PySem.W.Frag} {H : Hp} {p : Addr} {xs : List V} (h : SqT K H p xs) : TyX K H (.ref p) (.type "tuple") := by
  rcases h with (h | ⟨u, h⟩) | ⟨o, its, n, h1, h2, _⟩
  · exact .base (.tup h)
  · exact .fTuple h
  · exact .kTuple h1 h2
/-! ### draws -/
def BagAt (H : Hp) (s : Addr) : Prop := ∃ a b : Int, H s = some (.lst [.int a, .int b]) ∧ 0 ≤ b ∧ b < 2147483647
theorem BagAt.ex {H : Hp} {s : Addr} (h : BagAt H s) : ∃ o, H s = some o ∧ Mut o := by
  obtain ⟨a, b, e, _⟩ := h
  exact ⟨_, e, trivial⟩
theorem BagAt.same {H H' : Hp} {s : Addr} (h : BagAt H s) (k : Same H H') : BagAt H' s := by
  obtain ⟨a, b, e, r⟩ := h
  exact ⟨a, b, k _ _ e, r⟩
theorem BagAt.new {H : Hp} {s p : Addr} {o : HO} (h : BagAt H s) (hp : H p = none) : BagAt (upd H p o) s := h.same (same_new (Same.refl H) hp)
theorem BagAt.ne_new {H : Hp} {s p : Addr} (h : BagAt H s) (hp : H p = none) : p ≠ s := by
  obtain ⟨a, b, e, _⟩ := h
  exact (ne_of_none e hp).symm
theorem BagAt.fr {H H' : Hp} {s x : Addr} (h : BagAt H s) (k : Fr x H H') (ne : s ≠ x) : BagAt H' s := by
  obtain ⟨a, b, e, r⟩ := h
  exact ⟨a, b, k _ _ ne e, r⟩
theorem BagAt.some_ {H : Hp} {s : Addr} (h : BagAt H s) : ∃ o, H s = some o := by
  obtain ⟨a, b, e, _⟩ := h
  exact ⟨_, e⟩
theorem BagAt.ne_none {H : Hp} {s p : Addr} (h : BagAt H s) (hp : H p = none) : s ≠ p := (h.ne_new hp).symm
theorem same_make {H : Hp} {x dx : Addr} {o1 o2 : HO} (nx : H x = none) (ndx : H dx = none) : Same H (upd (upd H dx o1) x o2) := fun b o e => by
  rw [upd_ne (ne_of_none e nx), upd_ne (ne_of_none e ndx)]
  exact e
def spBag (K : PySem.W.Frag) : Sp := fun vs H Q _ => ∃ (l : Addr) (ns : List Int) (k : Int), vs = [.ref l, .int k] ∧ SqL K H l (ns.map V.int) ∧ 0 ≤ k ∧ k ≤ 100 ∧ ∀ (p : Addr) (H' : Hp), H p = none → Same H H' → BagAt H' p → Q (.ref p) H'
def spOut : Sp := fun vs H Q _ => ∃ (s : Addr) (m : Int), vs = [.ref s, .int m] ∧ BagAt H s ∧ 0 < m ∧ m ≤ 1000000000000000000000000000000 ∧ ∀ (r : Int) (H' : Hp), 0 ≤ r → r < m → Fr s H H' → BagAt H' s → Q (.int r) H'
def DrOk (K : PySem.W.Frag) (H : Hp) (p : Addr) (t b : Int) : Prop := SqT K H p [.int t, .int b] ∧ 0 ≤ t ∧ t < b ∧ b ≤ 1000 ∧ Int.gcd t b = 1
theorem DrOk.same {K : PySem.W.Frag} {H H' : Hp} {p : Addr} {t b : Int} (h : DrOk K H p t b) (k : Same H H') : DrOk K H' p t b := ⟨same_sqt k h.1, h.2⟩
theorem DrOk.fr {K : PySem.W.Frag} {H H' : Hp} {p x : Addr} {o : HO} {t b : Int} (h : DrOk K H p t b) (k : Fr x H H') (hx : H x = some o) (m : Mut o) : DrOk K H' p t b := ⟨k.sqt hx m h.1, h.2⟩
theorem DrOk.bag {K : PySem.W.Frag} {H H' : Hp} {p s : Addr} {t b : Int} (h : DrOk K H p t b) (k : Fr s H H') (bs : BagAt H s) : DrOk K H' p t b := by
  obtain ⟨o, e, m⟩ := bs.ex
  exact h.fr k e m
def spLDrift (K : PySem.W.Frag) : Sp := fun vs H Q _ => ∃ s : Addr, vs = [.ref s] ∧ BagAt H s ∧ ∀ (t b : Int) (p : Addr) (H' : Hp), Fr s H H' → BagAt H' s → DrOk K H' p t b → H' p = some (.tup [.int t, .int b]) → Q (.ref p) H'
/-! ### numbers -/
theorem pos_of_mul {g x l : Int} (hg : 0 < g) (hl : 0 < l) (e : l = g * x) : 0 < x := by
  rcases Int.lt_or_le 0 x with h | h
  · exact h
  · have := Int.mul_nonpos_of_nonneg_of_nonpos (Int.le_of_lt hg) h
    omega
theorem nn_of_mul {g x l : Int} (hg : 0 < g) (hl : 0 ≤ l) (e : l = g * x) : 0 ≤ x := by
  rcases Int.lt_or_le x 0 with h | h
  · have := Int.mul_neg_of_pos_of_neg hg h
    omega
  · exact h
theorem le_of_gmul {g x l : Int} (hg : 0 < g) (hx : 0 ≤ x) (e : l = g * x) : x ≤ l := by
  have := Int.mul_le_mul_of_nonneg_right (show 1 ≤ g by omega) hx
  omega
theorem le_cancel {g x y : Int} (hg : 0 < g) (h : g * x ≤ g * y) : x ≤ y := Int.le_of_mul_le_mul_left h hg
theorem lt_cancel {g x y : Int} (hg : 0 < g) (h : g * x < g * y) : x < y := Int.lt_of_mul_lt_mul_left h (Int.le_of_lt hg)
theorem gcd_turn {h t : Int} (h0 : 0 ≤ h) (t0 : 0 < t) : Int.gcd t (h % t) = Int.gcd h t := by
  obtain ⟨a, rfl⟩ := Int.eq_ofNat_of_zero_le h0
  obtain ⟨b, rfl⟩ := Int.eq_ofNat_of_zero_le (Int.le_of_lt t0)
  show Nat.gcd b (a % b) = Nat.gcd a b
  rw [Nat.gcd_comm a b, Nat.gcd_rec b a, Nat.gcd_comm]
theorem low_end {u l h : Int} (u0 : 0 ≤ u) (l0 : 0 < l) (h0 : 0 ≤ h) (e : Int.gcd h 0 = Int.gcd u l) : 0 < h ∧ u = h * (u / h) ∧ l = h * (l / h) ∧ Int.gcd (u / h) (l / h) = 1 ∧ h ≤ l := by
  have e1 : (h : Int) = (Int.gcd u l : Nat) := by
    have : Int.gcd h 0 = h.natAbs := Int.gcd_zero_right h
    rw [this] at e
    omega
  have hp : 0 < Int.gcd u l := Int.gcd_pos_of_ne_zero_right u (by omega)
  have d1 : h ∣ u := by rw [e1]; exact Int.gcd_dvd_left u l
  have d2 : h ∣ l := by rw [e1]; exact Int.gcd_dvd_right u l
  have hp' : 0 < h := by omega
  refine ⟨hp', (Int.mul_ediv_cancel' d1).symm, (Int.mul_ediv_cancel' d2).symm, ?_, Int.le_of_dvd l0 d2⟩
  rw [e1]
  exact Int.gcd_ediv_gcd_ediv_gcd hp
def leastP (n t b : Int) : Int := -(-n * b / (b + t))
def mostP (n t b : Int) : Int := ((n + 1) * b - 1) / (b - t)
theorem least_le {n t b p : Int} (t0 : 0 ≤ t) (tb : t < b) (h : n * b ≤ p * (b + t)) : leastP n t b ≤ p := by
  unfold leastP
  have q4 : -p ≤ -n * b / (b + t) := (Int.le_ediv_iff_mul_le (by omega)).mpr (by
    have z1 : -p * (b + t) = -(p * (b + t)) := by grind
    have z2 : -n * b = -(n * b) := by grind
    rw [z1, z2]
    omega)
  omega
theorem least_ge {n t b : Int} (t0 : 0 ≤ t) (tb : t < b) : n * b ≤ leastP n t b * (b + t) := by
  unfold leastP
  have q := Int.ediv_mul_le (-n * b) (show b + t ≠ 0 by omega)
  have z2 : -n * b = -(n * b) := by grind
  have z3 : -(-n * b / (b + t)) * (b + t) = -(-n * b / (b + t) * (b + t)) := by grind
  rw [z3]
  omega
theorem le_most {n t b p : Int} (t0 : 0 ≤ t) (tb : t < b) (h : p * (b - t) < (n + 1) * b) : p ≤ mostP n t b := by
  unfold mostP
  exact (Int.le_ediv_iff_mul_le (by omega)).mpr (by omega)
theorem most_lt {n t b : Int} (t0 : 0 ≤ t) (tb : t < b) : mostP n t b * (b - t) < (n + 1) * b := by
  unfold mostP
  have q := Int.ediv_mul_le ((n + 1) * b - 1) (show b - t ≠ 0 by omega)
  omega
theorem least_mono {n m t b : Int} (t0 : 0 ≤ t) (tb : t < b) (h : n ≤ m) : leastP n t b ≤ leastP m t b :=
  least_le t0 tb (Int.le_trans (Int.mul_le_mul_of_nonneg_right h (by omega)) (least_ge t0 tb))
theorem most_mono {n m t b : Int} (t0 : 0 ≤ t) (tb : t < b) (h : n ≤ m) : mostP n t b ≤ mostP m t b :=
  le_most t0 tb (Int.lt_of_lt_of_le (most_lt t0 tb) (Int.mul_le_mul_of_nonneg_right (by omega) (by omega)))
theorem least_nn {n t b : Int} (t0 : 0 ≤ t) (tb : t < b) (h : 0 ≤ n) : 0 ≤ leastP n t b := by
  have q := least_ge (n := n) t0 tb
  have z : 0 ≤ n * b := Int.mul_nonneg h (by omega)
  rcases Int.lt_or_le (leastP n t b) 0 with c | c
  · have := Int.mul_neg_of_neg_of_pos c (show 0 < b + t by omega)
    omega
  · exact c
theorem least_zero {t b : Int} (t0 : 0 ≤ t) (tb : t < b) : leastP 0 t b = 0 := by
  have h1 := least_le (n := 0) (p := 0) t0 tb (by simp)
  have h2 := least_nn (n := 0) t0 tb (by decide)
  omega
theorem most_nn {n t b : Int} (t0 : 0 ≤ t) (tb : t < b) (h : 0 ≤ n) : n ≤ mostP n t b :=
  le_most t0 tb (by
    have z1 : n * (b - t) ≤ n * b := Int.mul_le_mul_of_nonneg_left (by omega) h
    have z2 : (n + 1) * b = n * b + b := by grind
    omega)
theorem least_le_n {n t b : Int} (t0 : 0 ≤ t) (tb : t < b) (h : 0 ≤ n) : leastP n t b ≤ n :=
  least_le t0 tb (Int.mul_le_mul_of_nonneg_left (by omega) h)
/-! ### promises of times -/
def spWhole : Sp := fun vs H Q _ => ∃ n : Int, vs = [.int n] ∧ Q (.bl true) H
def spCount : Sp := fun vs H Q _ => ∃ n : Int, vs = [.int n] ∧ 0 ≤ n ∧ Q (.bl true) H
def spRef : Sp := fun vs H Q _ => ∃ n : Int, vs = [.int n] ∧ 0 ≤ n ∧ Q .non H
def spLeast (K : PySem.W.Frag) : Sp := fun vs H Q _ => ∃ (n t b : Int) (p : Addr), vs = [.int n, .ref p] ∧ 0 ≤ n ∧ DrOk K H p t b ∧ Q (.int (leastP n t b)) H
def spMost (K : PySem.W.Frag) : Sp := fun vs H Q _ => ∃ (n t b : Int) (p : Addr), vs = [.int n, .ref p] ∧ 0 ≤ n ∧ DrOk K H p t b ∧ Q (.int (mostP n t b)) H
def spRow (K : PySem.W.Frag) : Sp := fun vs H Q _ => ∃ (p : Addr) (t b : Int), vs = [.ref p, .int 2, .int 2] ∧ SqT K H p [.int t, .int b] ∧ ∀ H', Same H H' → Q (.bl true) H'
def spFromTo : Sp := fun vs H Q _ => ∃ n lo hi : Int, vs = [.int n, .int lo, .int hi] ∧ lo ≤ n ∧ n ≤ hi ∧ Q (.bl true) H
def spCd : Sp := fun vs H Q _ => ∃ (x y : Int), vs = [.int x, .int y] ∧ 0 ≤ x ∧ 0 ≤ y ∧ Q (.int (Int.gcd x y)) H
def spShare (K : PySem.W.Frag) : Sp := fun vs H Q _ => ∃ (p : Addr) (t b : Int), vs = [.ref p] ∧ DrOk K H p t b ∧ ∀ H', Same H H' → Q (.bl true) H'
theorem two_at {t b : Int} {i : Nat} {x : V} (h : [V.int t, V.int b][i]? = some x) : ∃ n : Int, x = .int n := by
  match i, h with
  | 0, h => exact ⟨t, (Option.some.inj h).symm⟩
  | 1, h => exact ⟨b, (Option.some.inj h).symm⟩
  | n + 2, h => simp at h
/-! ### a clock -/
theorem ne_cs : ¬ (("counted" : Str) = "stands") := by decide +kernel
theorem ne_cm : ¬ (("counted" : Str) = "most_drift") := by decide +kernel
theorem ne_sc : ¬ (("stands" : Str) = "counted") := by decide +kernel
theorem ne_sm : ¬ (("stands" : Str) = "most_drift") := by decide +kernel
theorem ne_mc : ¬ (("most_drift" : Str) = "counted") := by decide +kernel
theorem ne_ms : ¬ (("most_drift" : Str) = "stands") := by decide +kernel
def cf (dr : V) (sv : V) (n : Int) : List (Str × V) := putF "counted" (.int n) (putF "stands" sv (putF "most_drift" dr []))
theorem cf_eq (dr sv : V) (n : Int) : cf dr sv n = ([("most_drift", dr), ("stands", sv), ("counted", V.int n)] : List (Str × V)) := by
  unfold cf
  simp only [putF, if_neg ne_ms, if_neg ne_mc, if_neg ne_sc]
theorem cf_len (dr sv : V) (n : Int) : (cf dr sv n).length < 1000 := by
  rw [cf_eq]
  show 3 < 1000
  decide
theorem cf_m (dr sv : V) (n : Int) : (cf dr sv n).lookup ("most_drift" : Str) = some dr := by
  unfold cf
  rw [lookup_putF, if_neg ne_mc, lookup_putF, if_neg ne_ms, lookup_putF, if_pos rfl]
theorem cf_s (dr sv : V) (n : Int) : (cf dr sv n).lookup ("stands" : Str) = some sv := by
  unfold cf
  rw [lookup_putF, if_neg ne_sc, lookup_putF, if_pos rfl]
theorem cf_c (dr sv : V) (n : Int) : (cf dr sv n).lookup ("counted" : Str) = some (.int n) := by
  unfold cf
  rw [lookup_putF, if_pos rfl]
theorem cf_no (dr sv : V) (n : Int) {m : Str} (h1 : ¬ m = "counted") (h2 : ¬ m = "stands") (h3 : ¬ m = "most_drift") : (cf dr sv n).lookup m = none := by
  unfold cf
  rw [lookup_putF, if_neg h1, lookup_putF, if_neg h2, lookup_putF, if_neg h3]
  all_goals rfl
theorem cf_put_s (dr sv sv' : V) (n : Int) : putF "stands" sv' (cf dr sv n) = cf dr sv' n := by
  rw [cf_eq, cf_eq]
  simp only [putF, if_neg ne_ms, if_pos]
theorem cf_put_c (dr sv : V) (n n' : Int) : putF "counted" (.int n') (cf dr sv n) = cf dr sv n' := by
  rw [cf_eq, cf_eq]
  simp only [putF, if_neg ne_mc, if_neg ne_sc, if_pos]
def SvAt (K : PySem.W.Frag) (H : Hp) (sv : V) : Option (Int × Int) → Prop
  | none => sv = .non
  | some z => ∃ p, sv = .ref p ∧ SqT K H p [.int z.1, .int z.2]
/-- a clock at c: its drift's tuple at dr, what it stands set to, its count -/
structure CkAt (K : PySem.W.Frag) (C : Addr) (H : Hp) (c dr : Addr) (t b : Int) (st : Option (Int × Int)) (n : Int) : Prop where
  at_ : ∃ (dx : Addr) (sv : V), H c = some (.ins C dx (cf (.ref dr) sv n)) ∧ SvAt K H sv st
  dr_ : DrOk K H dr t b
  nn : 0 ≤ n
theorem CkAt.ex {K : PySem.W.Frag} {C : Addr} {H : Hp} {c dr : Addr} {t b : Int} {st : Option (Int × Int)} {n : Int} (h : CkAt K C H c dr t b st n) : ∃ o, H c = some o ∧ Mut o := by
  obtain ⟨dx, sv, e, _⟩ := h.at_
  exact ⟨_, e, trivial⟩
theorem SvAt.fr {K : PySem.W.Frag} {H H' : Hp} {x : Addr} {o : HO} {sv : V} {st : Option (Int × Int)} (h : SvAt K H sv st) (k : Fr x H H') (hx : H x = some o) (m : Mut o) : SvAt K H' sv st := by
  cases st with
  | none => exact h
  | some z =>
    obtain ⟨p, e, q⟩ := h
    exact ⟨p, e, k.sqt hx m q⟩
/-- a clock stays where another changeable thing is changed -/
theorem CkAt.fr {K : PySem.W.Frag} {C : Addr} {H H' : Hp} {c dr x : Addr} {o : HO} {t b : Int} {st : Option (Int × Int)} {n : Int} (h : CkAt K C H c dr t b st n) (k : Fr x H H') (hx : H x = some o) (m : Mut o) (ne : c ≠ x) : CkAt K C H' c dr t b st n := by
  obtain ⟨⟨dx, sv, e, q⟩, d, nn⟩ := h
  exact ⟨⟨dx, sv, k _ _ ne e, q.fr k hx m⟩, d.fr k hx m, nn⟩
theorem CkAt.same {K : PySem.W.Frag} {C : Addr} {H H' : Hp} {c dr : Addr} {t b : Int} {st : Option (Int × Int)} {n : Int} (h : CkAt K C H c dr t b st n) (k : Same H H') : CkAt K C H' c dr t b st n := by
  obtain ⟨⟨dx, sv, e, q⟩, d, nn⟩ := h
  refine ⟨⟨dx, sv, k _ _ e, ?_⟩, d.same k, nn⟩
  cases st with
  | none => exact q
  | some z =>
    obtain ⟨p, e, q⟩ := q
    exact ⟨p, e, same_sqt k q⟩
theorem CkAt.bag {K : PySem.W.Frag} {C : Addr} {H H' : Hp} {c dr s : Addr} {t b : Int} {st : Option (Int × Int)} {n : Int} (h : CkAt K C H c dr t b st n) (k : Fr s H H') (bs : BagAt H s) : CkAt K C H' c dr t b st n := by
  obtain ⟨dx, sv, e, _⟩ := h.at_
  obtain ⟨x, y, e2, _⟩ := bs
  exact h.fr k e2 trivial (ne_of e e2 (by intro z; cases z))
theorem BagAt.ck {K : PySem.W.Frag} {C : Addr} {H H' : Hp} {c dr s : Addr} {t b : Int} {st : Option (Int × Int)} {n : Int} (bs : BagAt H s) (k : Fr c H H') (h : CkAt K C H c dr t b st n) : BagAt H' s := by
  obtain ⟨dx, sv, e, _⟩ := h.at_
  obtain ⟨x, y, e2, r⟩ := bs
  exact ⟨x, y, k _ _ (ne_of e2 e (by intro z; cases z)) e2, r⟩
theorem CkAt.ne_bag {K : PySem.W.Frag} {C : Addr} {H : Hp} {c dr s : Addr} {t b : Int} {st : Option (Int × Int)} {n : Int} (h : CkAt K C H c dr t b st n) (bs : BagAt H s) : c ≠ s := by
  obtain ⟨dx, sv, e, _⟩ := h.at_
  obtain ⟨x, y, e2, _⟩ := bs
  exact ne_of e e2 (by intro z; cases z)
/-! ### promises of Clock -/
/-- what bounds_behind tells -/
def bbQ (H : Hp) (Q : VK) (n t b : Int) : Option (Int × Int) → Prop
  | none => Q .non H
  | some z => ∀ p, H p = none → Q (.ref p) (upd H p (.tup [.int (z.1 + leastP n t b), .int (z.2 + mostP n t b)]))
def spBB (K : PySem.W.Frag) : Sp := fun vs H Q _ => ∃ (sv : V) (st : Option (Int × Int)) (n : Int) (dr : Addr) (t b : Int), vs = [sv, .int n, .ref dr] ∧ SvAt K H sv st ∧ 0 ≤ n ∧ DrOk K H dr t b ∧ bbQ H Q n t b st
def btwL (low : Int) : Option (Int × Int) → Int
  | none => low
  | some z => if z.1 > low then z.1 else low
def btwH (high : Int) : Option (Int × Int) → Int
  | none => high
  | some z => if z.2 < high then z.2 else high
def spSB (K : PySem.W.Frag) : Sp := fun vs H Q _ => ∃ (tv : V) (st : Option (Int × Int)) (low high : Int), vs = [tv, .int low, .int high] ∧ SvAt K H tv st ∧ low ≤ high ∧ btwL low st ≤ btwH high st ∧ ∀ p, H p = none → Q (.ref p) (upd H p (.tup [.int (btwL low st), .int (btwH high st)]))
def spInit (K : PySem.W.Frag) (C : Addr) : Sp := fun vs H Q _ => ∃ (x dr dx : Addr) (t b : Int), vs = [.ref x, .ref dr] ∧ H x = some (.ins C dx []) ∧ DrOk K H dr t b ∧ ∀ H', Fr x H H' → CkAt K C H' x dr t b none 0 → Q .non H'
def spIsSet (K : PySem.W.Frag) (C : Addr) : Sp := fun vs H Q _ => ∃ (c dr : Addr) (t b : Int) (st : Option (Int × Int)) (n : Int), vs = [.ref c] ∧ CkAt K C H c dr t b st n ∧ Q (.bl st.isSome) H
def spBounds (K : PySem.W.Frag) (C : Addr) : Sp := fun vs H Q _ => ∃ (c dr : Addr) (t b lo hi n : Int), vs = [.ref c] ∧ CkAt K C H c dr t b (some (lo, hi)) n ∧ ∀ p, H p = none → Q (.ref p) (upd H p (.tup [.int (lo + leastP n t b), .int (hi + mostP n t b)]))
def spTick (K : PySem.W.Frag) (C : Addr) : Sp := fun vs H Q _ => ∃ (c dr : Addr) (t b : Int) (st : Option (Int × Int)) (n m : Int), vs = [.ref c, .int m] ∧ CkAt K C H c dr t b st n ∧ 0 ≤ m ∧ ∀ H', Fr c H H' → CkAt K C H' c dr t b st (n + m) → Q .non H'
def setLow (low : Int) (st : Option (Int × Int)) (t b n : Int) : Int := match st with
  | none => low
  | some z => if z.1 + leastP n t b > low then z.1 + leastP n t b else low
def setHigh (high : Int) (st : Option (Int × Int)) (t b n : Int) : Int := match st with
  | none => high
  | some z => if z.2 + mostP n t b < high then z.2 + mostP n t b else high
def spSet (K : PySem.W.Frag) (C : Addr) : Sp := fun vs H Q _ => ∃ (c dr : Addr) (t b : Int) (st : Option (Int × Int)) (n low high : Int), vs = [.ref c, .int low, .int high] ∧ CkAt K C H c dr t b st n ∧ low ≤ high ∧ setLow low st t b n ≤ setHigh high st t b n ∧
  ∀ H', Fr c H H' → CkAt K C H' c dr t b (some (setLow low st t b n, setHigh high st t b n)) 0 → Q .non H'
def spPast (K : PySem.W.Frag) (C : Addr) : Sp := fun vs H Q _ => ∃ (c dr : Addr) (t b lo hi n m : Int), vs = [.ref c, .int m] ∧ CkAt K C H c dr t b (some (lo, hi)) n ∧ ∀ H', Same H H' → Q (.bl (decide (m < lo + leastP n t b))) H'
def spAhead (K : PySem.W.Frag) (C : Addr) : Sp := fun vs H Q _ => ∃ (c dr : Addr) (t b lo hi n m : Int), vs = [.ref c, .int m] ∧ CkAt K C H c dr t b (some (lo, hi)) n ∧ ∀ H', Same H H' → Q (.bl (decide (hi + mostP n t b < m))) H'
def spLaw (K : PySem.W.Frag) : Sp := fun vs H Q _ => ∃ (a : Addr) (ns : List Int), vs = [.ref a] ∧ SqL K H a (ns.map V.int) ∧ ns.length ≤ 63 ∧ ∀ H', Q (.bl true) H'

/-- the true time T, made so many parts of a tick since it was set, p true ticks ago -/
def Tr (t b lo hi n T made : Int) : Prop := 0 ≤ made ∧ n = made / b ∧ ∃ p, 0 ≤ p ∧ lo ≤ T - p ∧ T - p ≤ hi ∧ (b - t) * p ≤ made ∧ made ≤ (b + t) * p
theorem Tr.start {t b lo hi T : Int} (h1 : lo ≤ T) (h2 : T ≤ hi) : Tr t b lo hi 0 T 0 := ⟨by decide, by simp, 0, by decide, by omega, by omega, by simp, by simp⟩
theorem Tr.low {t b lo hi n T made : Int} (h : Tr t b lo hi n T made) (t0 : 0 ≤ t) (tb : t < b) : lo + leastP n t b ≤ T := by
  obtain ⟨m0, rfl, p, p0, l1, l2, a1, a2⟩ := h
  have z1 := Int.ediv_mul_le made (show b ≠ 0 by omega)
  have z2 : (b + t) * p = p * (b + t) := Int.mul_comm _ _
  have := least_le (n := made / b) (p := p) t0 tb (by omega)
  omega
theorem Tr.high {t b lo hi n T made : Int} (h : Tr t b lo hi n T made) (t0 : 0 ≤ t) (tb : t < b) : T ≤ hi + mostP n t b := by
  obtain ⟨m0, rfl, p, p0, l1, l2, a1, a2⟩ := h
  have z1 := Int.lt_ediv_add_one_mul_self made (show 0 < b by omega)
  have z2 : (b - t) * p = p * (b - t) := Int.mul_comm _ _
  have := le_most (n := made / b) (p := p) t0 tb (by omega)
  omega
theorem Tr.nn {t b lo hi n T made : Int} (h : Tr t b lo hi n T made) (tb : 0 < b) : 0 ≤ n := by
  obtain ⟨m0, rfl, _⟩ := h
  exact Int.ediv_nonneg m0 (by omega)
theorem made_le {t b made k pc : Int} (t0 : 0 ≤ t) (tb : t < b) (k0 : 0 ≤ k) (h1 : b - t ≤ pc) : made ≤ made + k * pc := by
  have := Int.mul_nonneg k0 (show 0 ≤ pc by omega)
  omega
theorem Tr.more {t b lo hi n T made k pc : Int} (h : Tr t b lo hi n T made) (t0 : 0 ≤ t) (tb : t < b) (k0 : 0 ≤ k) (h1 : b - t ≤ pc) (h2 : pc ≤ b + t) : Tr t b lo hi (n + ((made + k * pc) / b - made / b)) (T + k) (made + k * pc) := by
  obtain ⟨m0, rfl, p, p0, l1, l2, a1, a2⟩ := h
  have z1 := Int.mul_le_mul_of_nonneg_left h1 k0
  have z2 := Int.mul_le_mul_of_nonneg_left h2 k0
  have z3 := made_le (made := made) t0 tb k0 h1
  have e1 : (b - t) * (p + k) = (b - t) * p + k * (b - t) := by grind
  have e2 : (b + t) * (p + k) = (b + t) * p + k * (b + t) := by grind
  exact ⟨by omega, by omega, p + k, by omega, by omega, by omega, by omega, by omega⟩

def ix (i : Bool) : Int := if i then 1 else 0
theorem at_ix {α : Type} (f : Bool → α) (i : Bool) : atI [f false, f true] (ix i) = some (f i) := by cases i <;> rfl
def upB {α : Type} (f : Bool → α) (i : Bool) (v : α) : Bool → α := fun j => if j = i then v else f j
theorem upB_same {α : Type} (f : Bool → α) (i : Bool) (v : α) : upB f i v i = v := if_pos rfl
theorem upB_ne {α : Type} (f : Bool → α) {i j : Bool} (v : α) (h : j ≠ i) : upB f i v j = f j := if_neg h
/-- two clocks, their drifts' list, their own list, a bag -/
structure W0 (K : PySem.W.Frag) (C : Addr) (H0 H : Hp) (s dl cl : Addr) (x d : Bool → Addr) (t b : Bool → Int) (st : Bool → Option (Int × Int)) (n : Bool → Int) : Prop where
  sm : Same H0 H
  bag : BagAt H s
  c : ∀ i, CkAt K C H (x i) (d i) (t i) (b i) (st i) (n i)
  ne : x false ≠ x true
  hdl : H dl = some (.lst [.ref (d false), .ref (d true)])
  hcl : H cl = some (.lst [.ref (x false), .ref (x true)])
  fs : H0 s = none
  fx : ∀ i, H0 (x i) = none
section
variable {K : PySem.W.Frag} {C : Addr} {H0 H H' : Hp} {s dl cl sl : Addr} {x d m : Bool → Addr} {t b n made : Bool → Int} {st : Bool → Option (Int × Int)}
theorem xne (ne : x false ≠ x true) {i j : Bool} (h : j ≠ i) : x j ≠ x i := by
  cases i <;> cases j
  · exact absurd rfl h
  · exact ne.symm
  · exact ne
  · exact absurd rfl h
theorem W0.ofSame (h : W0 K C H0 H s dl cl x d t b st n) (k : Same H H') : W0 K C H0 H' s dl cl x d t b st n :=
  ⟨h.sm.trans k, h.bag.same k, fun i => (h.c i).same k, h.ne, k _ _ h.hdl, k _ _ h.hcl, h.fs, h.fx⟩
theorem refs_ne_bag {p : Addr} {u v : Addr} (hb : BagAt H s) (hp : H p = some (.lst [.ref u, .ref v])) : p ≠ s := by
  obtain ⟨a, c, e, _⟩ := hb
  exact ne_of hp e (by intro z; injection z with z; injection z with z; cases z)
theorem lst_ne_ck {p : Addr} {xs : List V} {c dr : Addr} {t b n : Int} {st : Option (Int × Int)} (hc : CkAt K C H c dr t b st n) (hp : H p = some (.lst xs)) : p ≠ c := by
  obtain ⟨dx, sv, e, _⟩ := hc.at_
  exact ne_of hp e (by intro z; cases z)
theorem W0.ofBag (h : W0 K C H0 H s dl cl x d t b st n) (k : Fr s H H') (b' : BagAt H' s) : W0 K C H0 H' s dl cl x d t b st n :=
  ⟨k.over h.sm h.fs, b', fun i => (h.c i).bag k h.bag, h.ne, k _ _ (refs_ne_bag h.bag h.hdl) h.hdl, k _ _ (refs_ne_bag h.bag h.hcl) h.hcl, h.fs, h.fx⟩
theorem W0.ofCk (h : W0 K C H0 H s dl cl x d t b st n) {i : Bool} {st' : Option (Int × Int)} {n' : Int} (k : Fr (x i) H H') (c' : CkAt K C H' (x i) (d i) (t i) (b i) st' n') :
    W0 K C H0 H' s dl cl x d t b (upB st i st') (upB n i n') := by
  obtain ⟨o, eo, mo⟩ := (h.c i).ex
  refine ⟨k.over h.sm (h.fx i), h.bag.ck k (h.c i), fun j => ?_, h.ne, k _ _ (lst_ne_ck (h.c i) h.hdl) h.hdl, k _ _ (lst_ne_ck (h.c i) h.hcl) h.hcl, h.fs, h.fx⟩
  by_cases e : j = i
  · subst e
    rw [upB_same, upB_same]
    exact c'
  · rw [upB_ne _ _ e, upB_ne _ _ e]
    exact (h.c j).fr k eo mo (xne h.ne e)
/-- what is made of each clock's ticks -/
structure Ss (H0 H : Hp) (sl dl cl : Addr) (m : Bool → Addr) (made : Bool → Int) : Prop where
  hsl : H sl = some (.lst [.ref (m false), .ref (m true)])
  hm : ∀ i, H (m i) = some (.lst [.int (made i)])
  nm : m false ≠ m true
  nsd : sl ≠ dl
  nsc : sl ≠ cl
  fsl : H0 sl = none
  fm : ∀ i, H0 (m i) = none
theorem one_ne_bag {p : Addr} {u : V} (hb : BagAt H s) (hp : H p = some (.lst [u])) : p ≠ s := by
  obtain ⟨a, c, e, _⟩ := hb
  exact ne_of hp e (by intro z; injection z with z; injection z with z1 z2; cases z2)
theorem two_ne_one {p q : Addr} {u v w : V} (hp : H p = some (.lst [u, v])) (hq : H q = some (.lst [w])) : p ≠ q :=
  ne_of hp hq (by intro z; injection z with z; injection z with z1 z2; cases z2)
theorem Ss.ofSame (h : Ss H0 H sl dl cl m made) (k : Same H H') : Ss H0 H' sl dl cl m made := ⟨k _ _ h.hsl, fun i => k _ _ (h.hm i), h.nm, h.nsd, h.nsc, h.fsl, h.fm⟩
theorem Ss.ofBag (h : Ss H0 H sl dl cl m made) (hb : BagAt H s) (k : Fr s H H') : Ss H0 H' sl dl cl m made :=
  ⟨k _ _ (refs_ne_bag hb h.hsl) h.hsl, fun i => k _ _ (one_ne_bag hb (h.hm i)) (h.hm i), h.nm, h.nsd, h.nsc, h.fsl, h.fm⟩
theorem Ss.ofCk (h : Ss H0 H sl dl cl m made) {c dr : Addr} {t b n : Int} {st : Option (Int × Int)} (hc : CkAt K C H c dr t b st n) (k : Fr c H H') : Ss H0 H' sl dl cl m made :=
  ⟨k _ _ (lst_ne_ck hc h.hsl) h.hsl, fun i => k _ _ (lst_ne_ck hc (h.hm i)) (h.hm i), h.nm, h.nsd, h.nsc, h.fsl, h.fm⟩
/-- a state is changed -/
theorem Ss.ofM (h : Ss H0 H sl dl cl m made) {i : Bool} {v : Int} (k : Fr (m i) H H') (e : H' (m i) = some (.lst [.int v])) : Ss H0 H' sl dl cl m (upB made i v) := by
  refine ⟨k _ _ (two_ne_one h.hsl (h.hm i)) h.hsl, fun j => ?_, h.nm, h.nsd, h.nsc, h.fsl, h.fm⟩
  by_cases c : j = i
  · subst c
    rw [upB_same]
    exact e
  · rw [upB_ne _ _ c]
    exact k _ _ (xne h.nm c) (h.hm j)
theorem W0.ofM (h : W0 K C H0 H s dl cl x d t b st n) {p : Addr} {u : V} (hp : H p = some (.lst [u])) (fp : H0 p = none) (k : Fr p H H') : W0 K C H0 H' s dl cl x d t b st n :=
  ⟨k.over h.sm fp, h.bag.fr k (one_ne_bag h.bag hp).symm, fun i => (h.c i).fr k hp trivial (lst_ne_ck (h.c i) hp).symm, h.ne, k _ _ (two_ne_one h.hdl hp) h.hdl, k _ _ (two_ne_one h.hcl hp) h.hcl, h.fs, h.fx⟩
/-- a new state in the stead of an old one -/
theorem Ss.ofSet (h : Ss H0 H sl dl cl m made) {i : Bool} {p : Addr} {v : Int} (hp : H p = some (.lst [.int v])) (fp : H0 p = none) (np : ∀ j, p ≠ m j) :
    Ss H0 (upd H sl (.lst [.ref (upB m i p false), .ref (upB m i p true)])) sl dl cl (upB m i p) (upB made i v) := by
  refine ⟨upd_same, fun j => ?_, ?_, h.nsd, h.nsc, h.fsl, fun j => ?_⟩
  · by_cases c : j = i
    · subst c
      rw [upB_same, upB_same, upd_ne (two_ne_one h.hsl hp).symm]
      exact hp
    · rw [upB_ne _ _ c, upB_ne _ _ c, upd_ne (two_ne_one h.hsl (h.hm j)).symm]
      exact h.hm j
  · cases i
    · exact np true
    · exact (np false).symm
  · by_cases c : j = i
    · subst c
      rw [upB_same]
      exact fp
    · rw [upB_ne _ _ c]
      exact h.fm j
theorem W0.ofSl (h : W0 K C H0 H s dl cl x d t b st n) {u v : Addr} {o : HO} (hs : H sl = some (.lst [.ref u, .ref v])) (nsd : sl ≠ dl) (nsc : sl ≠ cl) (fsl : H0 sl = none) : W0 K C H0 (upd H sl o) s dl cl x d t b st n :=
  have k : Fr sl H (upd H sl o) := (Fr.refl sl H).put
  ⟨k.over h.sm fsl, h.bag.fr k (refs_ne_bag h.bag hs).symm, fun i => (h.c i).fr k hs trivial (lst_ne_ck (h.c i) hs).symm, h.ne, k _ _ nsd.symm h.hdl, k _ _ nsc.symm h.hcl, h.fs, h.fx⟩
end
theorem set_ix (m : Bool → Addr) (i : Bool) (p : Addr) : ∃ j, ixN 2 (ix i) = some j ∧ [V.ref (m false), V.ref (m true)].set j (.ref p) = [V.ref (upB m i p false), V.ref (upB m i p true)] := by
  cases i
  · exact ⟨0, rfl, rfl⟩
  · exact ⟨1, rfl, rfl⟩
/-- each clock holds its true time -/
def Trs (t b : Bool → Int) (st : Bool → Option (Int × Int)) (n T made : Bool → Int) (i : Bool) : Prop := ∃ lo hi, st i = some (lo, hi) ∧ Tr (t i) (b i) lo hi (n i) (T i) (made i)
def spGone (K : PySem.W.Frag) (C : Addr) : Sp := fun vs H Q _ => ∃ (s c dr m : Addr) (k t b lo hi n T made : Int), vs = [.ref s, .ref c, .ref dr, .ref m, .int k] ∧ BagAt H s ∧ CkAt K C H c dr t b (some (lo, hi)) n ∧ H m = some (.lst [.int made]) ∧ Tr t b lo hi n T made ∧ 0 ≤ k ∧ k ≤ 1000 ∧
  ∀ (H1 H2 H3 : Hp) (n' made' : Int), Fr s H H1 → BagAt H1 s → Fr m H1 H2 → H2 m = some (.lst [.int made']) → Fr c H2 H3 → CkAt K C H3 c dr t b (some (lo, hi)) n' → Tr t b lo hi n' (T + k) made' → Q .non H3
def spRight (K : PySem.W.Frag) (C : Addr) : Sp := fun vs H Q _ => ∃ (c c' dr dr' : Addr) (t b lo hi n t' b' lo' hi' n' T : Int), vs = [.ref c, .ref c', .int T] ∧ CkAt K C H c dr t b (some (lo, hi)) n ∧ CkAt K C H c' dr' t' b' (some (lo', hi')) n' ∧
  lo + leastP n t b ≤ T ∧ T ≤ hi + mostP n t b ∧ lo' + leastP n' t' b' ≤ T ∧ T ≤ hi' + mostP n' t' b' ∧ ∀ H', Same H H' → Q (.bl true) H'
theorem eqv_two {a b c d : Int} (h1 : a = c) (h2 : b = d) : PyData.eqv (.tuple [.int a, .int b]) (.tuple [.int c, .int d]) = true := by
  subst h1 h2
  simp [PyData.eqv, PyData.eqvAll]

theorem ok_is_whole {P : Program} {w : World} {K : PySem.W.Frag} {mg : Str → Option Value} {base : Heap} {a : Nat → Addr} {d : Nat → FuncData} (T : Txt K mg a d) : FnOk P w K mg base CX0 1 (a 0) (d 0) ["thing"] spWhole := by
  refine T.F_is_whole.ok sc_is_whole (fun vs H Q E h => ?_) (fun cdv A outer s0 H vs Q E hr h => ?_)
  · obtain ⟨n, rfl, q⟩ := h
    rfl
  · obtain ⟨n, rfl, q⟩ := h
    refine ⟨_, (pss_one (ps_ret (pe_and (pe_callB call_isi (by rfl) T.z_isinstance (by decide +kernel) (pa_cons (pv 0) (pa_cons (pe_bltn (v := .ty "int") (by rfl) T.z_int (by decide +kernel) rfl) pa_nil))) (pe_one (pe_not (pe_callB call_isi (by rfl) T.z_isinstance (by decide +kernel) (pa_cons (pv 0) (pa_cons (pe_bltn (v := .ty "bool") (by rfl) T.z_bool (by decide +kernel) rfl) pa_nil)))))))), ?_⟩
    refine ⟨_, rfl, _, _, .type "int", .type "int", true, rfl, .ty "int", .base (.int n), kit_ty (by decide +kernel), true, rfl, iteT ?_⟩
    refine ⟨_, rfl, _, _, .type "int", .type "bool", false, rfl, .ty "bool", .base (.int n), kit_ty (by decide +kernel), false, rfl, ?_⟩
    exact q

theorem ok_is_count {P : Program} {w : World} {K : PySem.W.Frag} {mg : Str → Option Value} {base : Heap} {a : Nat → Addr} {d : Nat → FuncData} (T : Txt K mg a d) : FnOk P w K mg base CX0 2 (a 1) (d 1) ["thing"] spCount := by
  refine T.F_is_count.ok sc_is_count (fun vs H Q E h => ?_) (fun cdv A outer s0 H vs Q E hr h => ?_)
  · obtain ⟨n, rfl, n0, q⟩ := h
    rfl
  · obtain ⟨n, rfl, n0, q⟩ := h
    refine ⟨_, (pss_one (ps_ret (pe_and (pe_call (ok_is_whole T) (hr.mono (by decide)) (by rfl) T.g_is_whole T.F_is_whole.kp T.b_is_whole .nil pass0 (pa_cons (pv 0) pa_nil)) (pe_one (pe_cmpR op_ge (pv 0) pe_int (nomark _)))))), ?_⟩
    refine ⟨_, rfl, n, rfl, true, rfl, iteT ?_⟩
    exact ⟨_, rfl, n, 0, rfl, rfl, bl_of (Q := Q) n0 q⟩

theorem ok_is_from_to {P : Program} {w : World} {K : PySem.W.Frag} {mg : Str → Option Value} {base : Heap} {a : Nat → Addr} {d : Nat → FuncData} (T : Txt K mg a d) : FnOk P w K mg base CX0 1 (a 2) (d 2) ["thing", "least", "most"] spFromTo := by
  refine T.F_is_from_to.ok sc_is_from_to (fun vs H Q E h => ?_) (fun cdv A outer s0 H vs Q E hr h => ?_)
  · obtain ⟨n, lo, hi, rfl, h1, h2, q⟩ := h
    rfl
  · obtain ⟨n, lo, hi, rfl, h1, h2, q⟩ := h
    refine ⟨_, (pss_one (ps_ret (pe_and (pe_callB call_isi (by rfl) T.z_isinstance (by decide +kernel) (pa_cons (pv 0) (pa_cons (pe_bltn (v := .ty "int") (by rfl) T.z_int (by decide +kernel) rfl) pa_nil))) (pe_and (pe_not (pe_callB call_isi (by rfl) T.z_isinstance (by decide +kernel) (pa_cons (pv 0) (pa_cons (pe_bltn (v := .ty "bool") (by rfl) T.z_bool (by decide +kernel) rfl) pa_nil)))) (pe_one (pe_chain op_le op_le (pv 1) (pv 0) (pv 2))))))), ?_⟩
    refine ⟨_, rfl, _, _, .type "int", .type "int", true, rfl, .ty "int", .base (.int n), kit_ty (by decide +kernel), true, rfl, iteT ?_⟩
    refine ⟨_, rfl, _, _, .type "int", .type "bool", false, rfl, .ty "bool", .base (.int n), kit_ty (by decide +kernel), false, rfl, true, rfl, iteT ?_⟩
    refine ⟨_, rfl, _, rfl, lo, n, rfl, rfl, _, rfl, iteDT h1 ?_⟩
    exact ⟨_, rfl, n, hi, rfl, rfl, bl_of (Q := Q) h2 q⟩

theorem ok_common_divisor {P : Program} {w : World} {K : PySem.W.Frag} {mg : Str → Option Value} {base : Heap} {a : Nat → Addr} {d : Nat → FuncData} (T : Txt K mg a d) : FnOk P w K mg base CX0 1 (a 3) (d 3) ["first", "second"] spCd := by
  refine T.F_common_divisor.ok sc_common_divisor (fun vs H Q E h => ?_) (fun cdv A outer s0 H vs Q E hr h => ?_)
  · obtain ⟨x, y, rfl, x0, y0, q⟩ := h
    rfl
  · obtain ⟨x, y, rfl, x0, y0, q⟩ := h
    refine ⟨_, (pss_cons (ps_while PassesOwn.never (pt_truth (pv 1) (by intro _; rfl)) (pss_one (ps_par (i := 0) (j := 1) (by rfl) sc_common_divisor.nd rfl rfl (by decide) rfl rfl (pa_cons (pv 1) (pa_cons (pe_op op_mod (pv 0) (pv 1)) pa_nil)) (by rfl)))) (pss_one (ps_ret (pv 0)))), ?_⟩
    refine ⟨fun m σ H' => H' = H ∧ ∃ h t : Int, σ = [some (.int h), some (.int t)] ∧ m = t.toNat ∧ 0 ≤ h ∧ 0 ≤ t ∧ Int.gcd h t = Int.gcd x y, ⟨_, rfl, x, y, rfl, rfl, x0, y0, rfl⟩, ?_⟩
    rintro m σ H' ⟨rfl, h, t, rfl, rfl, h0, t0, eg⟩
    refine ⟨_, rfl, _, rfl, ?_⟩
    by_cases hz : t = 0
    · subst hz
      refine iteBF rfl ?_
      have e1 : (Int.gcd x y : Int) = h := by
        rw [← eg, Int.gcd_zero_right]
        omega
      refine ⟨_, rfl, ?_⟩
      rw [e1] at q
      exact q
    · have tp : 0 < t := by omega
      refine iteBT (by simpa using hz) ?_
      refine ⟨_, fun _ _ z => z, ?_⟩
      refine ⟨_, rfl, _, rfl, _, rfl, h, t, rfl, rfl, tp, _, _, rfl, ?_⟩
      have e0 := Int.emod_nonneg h (show t ≠ 0 by omega)
      have e1 := Int.emod_lt_of_pos h tp
      exact ⟨(h % t).toNat, by omega, rfl, t, h % t, rfl, rfl, t0, e0, (gcd_turn h0 tp).trans eg⟩

theorem ok_is_share {P : Program} {w : World} {K : PySem.W.Frag} {mg : Str → Option Value} {base : Heap} {a : Nat → Addr} {d : Nat → FuncData} (T : Txt K mg a d) : FnOk P w K mg base CX0 3 (a 4) (d 4) ["thing"] (spShare K) := by
  refine T.F_is_share.ok sc_is_share (fun vs H Q E h => ?_) (fun cdv A outer s0 H vs Q E hr h => ?_)
  · obtain ⟨p, t, b, rfl, hd, q⟩ := h
    rfl
  · obtain ⟨p, t, b, rfl, hd, q⟩ := h
    refine ⟨_, (pss_cons (ps_if (PW.pt (pw_or (pt_not (pt_truth (pe_callB call_isi (by rfl) T.z_isinstance (by decide +kernel) (pa_cons (pv 0) (pa_cons (pe_bltn (v := .ty "tuple") (by rfl) T.z_tuple (by decide +kernel) rfl) pa_nil))) (by intro _; rfl))) (pw_or1 (pt_cmpR op_ne (pe_callB call_len_seq (by rfl) T.z_len PySem.boot_len (pa_cons (pv 0) pa_nil)) pe_int (nomark _))))) (pss_one (ps_ret pe_bl)) pss_nil) (pss_cons (ps_asg (pv 0) (pg_tup (by rfl) (pgs_cons (pg_name (i := 1) sc_is_share.nd rfl (.inl rfl)) (pgs_cons (pg_name (i := 2) sc_is_share.nd rfl (.inl rfl)) pgs_nil)))) (pss_cons (ps_if (PW.pt (pw_or (pt_not (pt_truth (pe_call (ok_is_from_to T) (hr.mono (by decide)) (by rfl) T.g_is_from_to T.F_is_from_to.kp T.b_is_from_to .nil pass0 (pa_cons (pv 2) (pa_cons pe_int (pa_cons (pe_glob (v := .int 1000) (by rfl) (Exists.choose_spec T.g_MOST_BOTTOM) ⟨_, rfl⟩) pa_nil)))) (by intro _; rfl))) (pw_or1 (pt_not (pt_truth (pe_call (ok_is_from_to T) (hr.mono (by decide)) (by rfl) T.g_is_from_to T.F_is_from_to.kp T.b_is_from_to .nil pass0 (pa_cons (pv 1) (pa_cons pe_int (pa_cons (pv 2) pa_nil)))) (by intro _; rfl)))))) (pss_one (ps_ret pe_bl)) pss_nil) (pss_one (ps_ret (pe_or (pe_cmpR op_eq (pv 1) pe_int (nomark _)) (pe_one (pe_cmpR op_eq (pe_call (ok_common_divisor T) (hr.mono (by decide)) (by rfl) T.g_common_divisor T.F_common_divisor.kp T.b_common_divisor .nil pass0 (pa_cons (pv 1) (pa_cons (pv 2) pa_nil))) pe_int (nomark _))))))))), ?_⟩
    obtain ⟨hS, t0, tb, b1, hg⟩ := hd
    refine ⟨_, rfl, _, _, .type "tuple", .type "tuple", true, rfl, .ty "tuple", sqt_ty hS, kit_ty (by decide +kernel), true, rfl, iteF ?_⟩
    refine ⟨_, rfl, p, _, rfl, .inr hS, rfl, _, rfl, iteNS rfl ?_⟩
    refine ⟨_, rfl, p, _, rfl, hS, rfl, _, _, rfl, _, _, rfl, rfl, ?_⟩
    refine ⟨_, rfl, b, 1, 1000, rfl, by omega, by omega, true, rfl, iteF ?_⟩
    refine ⟨_, rfl, _, rfl, t, 0, b, rfl, by omega, by omega, true, rfl, iteF ?_⟩
    refine ⟨_, rfl, rfl, _, rfl, ?_⟩
    refine ite2 (fun h => ?_) (fun h => ?_)
    · exact q H (Same.refl H)
    refine ⟨_, rfl, _, rfl, t, b, rfl, t0, by omega, rfl, ?_⟩
    have e : (V.int (Int.gcd t b : Nat) = V.int 1) := by rw [hg]; rfl
    exact bl_of (Q := Q) e (q H (Same.refl H))

theorem ok_is_drift {P : Program} {w : World} {K : PySem.W.Frag} {mg : Str → Option Value} {base : Heap} {a : Nat → Addr} {d : Nat → FuncData} (T : Txt K mg a d) : FnOk P w K mg base CX0 4 (a 5) (d 5) ["thing"] (spShare K) := by
  refine T.F_is_drift.ok sc_is_drift (fun vs H Q E h => ?_) (fun cdv A outer s0 H vs Q E hr h => ?_)
  · obtain ⟨p, t, b, rfl, hd, q⟩ := h
    rfl
  · obtain ⟨p, t, b, rfl, hd, q⟩ := h
    refine ⟨_, (pss_one (ps_ret (pe_and (pe_call (ok_is_share T) (hr.mono (by decide)) (by rfl) T.g_is_share T.F_is_share.kp T.b_is_share .nil pass0 (pa_cons (pv 0) pa_nil)) (pe_one (pe_cmpR (op_neD hr.units) (pv 0) (pe_glob (v := .ref (a 25)) (by rfl) T.g_WHOLE rfl) (nomark _)))))), ?_⟩
    refine ⟨_, rfl, p, t, b, rfl, hd, fun H1 s1 => ⟨true, rfl, iteT ?_⟩⟩
    have hS1 := same_sqt s1 hd.1
    refine ⟨_, rfl, .tuple [.int t, .int b], .tuple [.int 1, .int 1], .tup hS1 (.cons (.int _) (.cons (.int _) .nil)), .tup (T.k_WHOLE _) (.cons (.int _) (.cons (.int _) .nil)), rfl, rfl, ?_⟩
    have e : PyData.eqv (.tuple [.int t, .int b]) (.tuple [.int 1, .int 1]) = false := by
      have := hd.2.2.1
      by_cases ht : t = 1
      · have hb : b ≠ 1 := by omega
        simp [PyData.eqv, PyData.eqvAll, hb]
      · simp [PyData.eqv, PyData.eqvAll, ht]
    show Q (V.bl (!PyData.eqv (.tuple [.int t, .int b]) (.tuple [.int 1, .int 1]))) H1
    rw [e]
    exact q H1 s1

theorem ok_refuse_no_count {P : Program} {w : World} {K : PySem.W.Frag} {mg : Str → Option Value} {base : Heap} {a : Nat → Addr} {d : Nat → FuncData} (T : Txt K mg a d) : FnOk P w K mg base CX0 3 (a 6) (d 6) ["thing"] spRef := by
  refine T.F_refuse_no_count.ok sc_refuse_no_count (fun vs H Q E h => ?_) (fun cdv A outer s0 H vs Q E hr h => ?_)
  · obtain ⟨n, rfl, n0, q⟩ := h
    rfl
  · obtain ⟨n, rfl, n0, q⟩ := h
    refine ⟨_, (pss_one (ps_if (pt_not (pt_truth (pe_call (ok_is_count T) (hr.mono (by decide)) (by rfl) T.g_is_count T.F_is_count.kp T.b_is_count .nil pass0 (pa_cons (pv 0) pa_nil)) (by intro _; rfl))) (pss_one ps_never) pss_nil)), ?_⟩
    refine ⟨_, rfl, n, rfl, n0, true, rfl, iteF ?_⟩
    exact q

theorem ok_least_of {P : Program} {w : World} {K : PySem.W.Frag} {mg : Str → Option Value} {base : Heap} {a : Nat → Addr} {d : Nat → FuncData} (T : Txt K mg a d) : FnOk P w K mg base CX0 1 (a 7) (d 7) ["ticks", "drift"] (spLeast K) := by
  refine T.F_least_of.ok sc_least_of (fun vs H Q E h => ?_) (fun cdv A outer s0 H vs Q E hr h => ?_)
  · obtain ⟨n, t, b, p, rfl, n0, ⟨hd, t0, tb, b1, _⟩, q⟩ := h
    rfl
  · obtain ⟨n, t, b, p, rfl, n0, ⟨hd, t0, tb, b1, _⟩, q⟩ := h
    refine ⟨_, (pss_cons (ps_asg (pv 1) (pg_tup (by rfl) (pgs_cons (pg_name (i := 2) sc_least_of.nd rfl (.inl rfl)) (pgs_cons (pg_name (i := 3) sc_least_of.nd rfl (.inl rfl)) pgs_nil)))) (pss_one (ps_ret (pe_un un_neg (pe_op op_fdivW (pe_op op_mul (pe_un un_neg (pv 0)) (pv 3)) (pe_op op_add (pv 3) (pv 2))))))), ?_⟩
    refine ⟨_, rfl, p, _, rfl, hd, rfl, _, _, rfl, _, _, rfl, rfl, ?_⟩
    refine ⟨_, rfl, n, rfl, _, rfl, -n, b, rfl, rfl, .inr (m64 (by omega) (by omega)), _, rfl, _, rfl, b, t, rfl, rfl, _, _, rfl, rfl, divW (by omega) (by omega), _, rfl, ?_⟩
    exact q

theorem ok_most_of {P : Program} {w : World} {K : PySem.W.Frag} {mg : Str → Option Value} {base : Heap} {a : Nat → Addr} {d : Nat → FuncData} (T : Txt K mg a d) : FnOk P w K mg base CX0 1 (a 8) (d 8) ["ticks", "drift"] (spMost K) := by
  refine T.F_most_of.ok sc_most_of (fun vs H Q E h => ?_) (fun cdv A outer s0 H vs Q E hr h => ?_)
  · obtain ⟨n, t, b, p, rfl, n0, ⟨hd, t0, tb, b1, _⟩, q⟩ := h
    rfl
  · obtain ⟨n, t, b, p, rfl, n0, ⟨hd, t0, tb, b1, _⟩, q⟩ := h
    refine ⟨_, (pss_cons (ps_asg (pv 1) (pg_tup (by rfl) (pgs_cons (pg_name (i := 2) sc_most_of.nd rfl (.inl rfl)) (pgs_cons (pg_name (i := 3) sc_most_of.nd rfl (.inl rfl)) pgs_nil)))) (pss_one (ps_ret (pe_op op_fdivW (pe_op op_sub (pe_op op_mul (pe_op op_add (pv 0) pe_int) (pv 3)) pe_int) (pe_op op_sub (pv 3) (pv 2)))))), ?_⟩
    refine ⟨_, rfl, p, _, rfl, hd, rfl, _, _, rfl, _, _, rfl, rfl, ?_⟩
    refine ⟨_, rfl, n, 1, rfl, rfl, _, rfl, _, b, rfl, rfl, .inr (m64 (by omega) (by omega)), _, 1, rfl, rfl, _, rfl, _, rfl, b, t, rfl, rfl, _, _, rfl, rfl, divW (by omega) (by omega), ?_⟩
    exact q

theorem ok_bounds_behind {P : Program} {w : World} {K : PySem.W.Frag} {mg : Str → Option Value} {base : Heap} {a : Nat → Addr} {d : Nat → FuncData} (T : Txt K mg a d) : FnOk P w K mg base CX0 2 (a 22) (d 22) ["stands", "counted", "drift"] (spBB K) := by
  refine T.F_bounds_behind.ok sc_bounds_behind (fun vs H Q E h => ?_) (fun cdv A outer s0 H vs Q E hr h => ?_)
  · obtain ⟨sv, st, n, dr, t, b, rfl, hs, n0, hd, q⟩ := h
    rfl
  · obtain ⟨sv, st, n, dr, t, b, rfl, hs, n0, hd, q⟩ := h
    refine ⟨_, (pss_cons (ps_if (pt_cmpR op_isN (pv 0) pe_non (nomark _)) (pss_one (ps_ret pe_non)) pss_nil) (pss_one (ps_ret (pe_tup (pa_cons (pe_op op_add (pe_ix ix_tup (pv 0) pe_int (fun _ _ => rfl)) (pe_call (ok_least_of T) (hr.mono (by decide)) (by rfl) T.g_least_of T.F_least_of.kp T.b_least_of .nil pass0 (pa_cons (pv 1) (pa_cons (pv 2) pa_nil)))) (pa_cons (pe_op op_add (pe_ix ix_tup (pv 0) pe_int (fun _ _ => rfl)) (pe_call (ok_most_of T) (hr.mono (by decide)) (by rfl) T.g_most_of T.F_most_of.kp T.b_most_of .nil pass0 (pa_cons (pv 1) (pa_cons (pv 2) pa_nil)))) pa_nil)))))), ?_⟩
    cases st with
    | none =>
      have e : sv = V.non := hs
      subst e
      refine ⟨_, rfl, rfl, _, rfl, iteT ?_⟩
      exact q
    | some z =>
      obtain ⟨sp, e, hs⟩ := hs
      subst e
      refine ⟨_, rfl, rfl, _, rfl, iteF ?_⟩
      refine ⟨_, rfl, sp, _, 0, _, rfl, rfl, hs, rfl, _, rfl, _, rfl, n, t, b, dr, rfl, n0, hd, _, _, rfl, rfl, ?_⟩
      refine ⟨_, rfl, sp, _, 1, _, rfl, rfl, hs, rfl, _, rfl, _, rfl, n, t, b, dr, rfl, n0, hd, _, _, rfl, rfl, len2, fun p np => ?_⟩
      exact q p np

theorem ok_set_between {P : Program} {w : World} {K : PySem.W.Frag} {mg : Str → Option Value} {base : Heap} {a : Nat → Addr} {d : Nat → FuncData} (T : Txt K mg a d) : FnOk P w K mg base CX0 2 (a 23) (d 23) ["told", "low", "high"] (spSB K) := by
  refine T.F_set_between.ok sc_set_between (fun vs H Q E h => ?_) (fun cdv A outer s0 H vs Q E hr h => ?_)
  · obtain ⟨tv, st, low, high, rfl, hs, hlh, hle, q⟩ := h
    rfl
  · obtain ⟨tv, st, low, high, rfl, hs, hlh, hle, q⟩ := h
    refine ⟨_, (pss_cons (ps_if (PW.pt (pw_or (pt_not (pt_truth (pe_call (ok_is_whole T) (hr.mono (by decide)) (by rfl) T.g_is_whole T.F_is_whole.kp T.b_is_whole .nil pass0 (pa_cons (pv 1) pa_nil)) (by intro _; rfl))) (pw_or (pt_not (pt_truth (pe_call (ok_is_whole T) (hr.mono (by decide)) (by rfl) T.g_is_whole T.F_is_whole.kp T.b_is_whole .nil pass0 (pa_cons (pv 2) pa_nil)) (by intro _; rfl))) (pw_or1 (pt_cmpR op_gt (pv 1) (pv 2) (nomark _)))))) (pss_one ps_never) pss_nil) (pss_cons (ps_if (pt_cmpR op_isN (pv 0) pe_non (nomark _)) (pss_one (ps_ret (pe_tup (pa_cons (pv 1) (pa_cons (pv 2) pa_nil))))) pss_nil) (pss_cons (ps_set (i := 3) sc_set_between.nd rfl (Or.inl rfl) (pe_callB (call_max2 rfl) (by rfl) T.z_max (by decide +kernel) (pa_cons (pv 1) (pa_cons (pe_ix ix_tup (pv 0) pe_int (fun _ _ => rfl)) pa_nil)))) (pss_cons (ps_set (i := 4) sc_set_between.nd rfl (Or.inl rfl) (pe_callB (call_min2 rfl) (by rfl) T.z_min (by decide +kernel) (pa_cons (pv 2) (pa_cons (pe_ix ix_tup (pv 0) pe_int (fun _ _ => rfl)) pa_nil)))) (pss_cons (ps_if (pt_cmpR op_gt (pv 3) (pv 4) (nomark _)) (pss_one ps_never) pss_nil) (pss_one (ps_ret (pe_tup (pa_cons (pv 3) (pa_cons (pv 4) pa_nil)))))))))), ?_⟩
    refine ⟨_, rfl, low, rfl, true, rfl, iteF ?_⟩
    refine ⟨_, rfl, high, rfl, true, rfl, iteF ?_⟩
    refine ⟨_, rfl, _, rfl, low, high, rfl, rfl, _, rfl, iteDF (by omega) ?_⟩
    cases st with
    | none =>
      have e : tv = V.non := hs
      subst e
      refine ⟨_, rfl, rfl, _, rfl, iteT ?_⟩
      exact ⟨_, rfl, _, rfl, len2, fun p np => q p np⟩
    | some z =>
      obtain ⟨sp, e, hs⟩ := hs
      subst e
      refine ⟨_, rfl, rfl, _, rfl, iteF ?_⟩
      refine ⟨_, rfl, _, rfl, sp, _, 0, _, rfl, rfl, hs, rfl, low, _, rfl, ?_⟩
      refine ⟨_, rfl, _, rfl, sp, _, 1, _, rfl, rfl, hs, rfl, high, _, rfl, ?_⟩
      refine ⟨_, rfl, _, rfl, _, _, rfl, rfl, _, rfl, iteDF (Int.not_lt.mpr hle) ?_⟩
      exact ⟨_, rfl, _, rfl, len2, fun p np => q p np⟩

theorem ok_Clock___init__ {P : Program} {w : World} {K : PySem.W.Frag} {mg : Str → Option Value} {base : Heap} {a : Nat → Addr} {d : Nat → FuncData} (T : Txt K mg a d) : FnOk P w K mg base CX0 5 (a 9) (d 9) ["self", "drift"] (spInit K (a 24)) := by
  refine T.F_Clock___init__.ok (CX := CX0) sc_Clock___init__ (fun vs H Q E h => ?_) (fun cdv A outer s0 H vs Q E hr h => ?_)
  · obtain ⟨x, dr, dx, t, b, rfl, hx, hd, q⟩ := h
    rfl
  · obtain ⟨x, dr, dx, t, b, rfl, hx, hd, q⟩ := h
    refine ⟨_, PSs.nox (pss_cons (ps_if (pt_not (pt_truth (pe_call (ok_is_drift T) (hr.mono (by decide)) (by rfl) T.g_is_drift T.F_is_drift.kp T.b_is_drift .nil pass0 (pa_cons (pv 1) pa_nil)) (by intro _; rfl))) (pss_one ps_never) pss_nil) (pss_cons (ps_fld (pv 0) (pv 1) rfl) (pss_cons (ps_fld (pv 0) pe_non rfl) (pss_one (ps_fld (pv 0) pe_int rfl))))), ?_⟩
    refine ⟨_, rfl, dr, t, b, rfl, hd, fun H1 s1 => ⟨true, rfl, iteF ?_⟩⟩
    refine ⟨_, rfl, _, rfl, x, _, dx, _, rfl, s1 _ _ hx, T.cl, T.n_most_drift, (by decide), ?_⟩
    refine ⟨_, rfl, x, _, dx, _, rfl, upd_same, T.cl, T.n_stands, (by show 1 < 1000; decide), ?_⟩
    refine ⟨_, rfl, x, _, dx, _, rfl, upd_same, T.cl, T.n_counted, (by simp only [putF, if_neg ne_ms]; show 2 < 1000; decide), ?_⟩
    have f1 : ∀ o1 o2 o3, Fr x H (upd (upd (upd H1 x o1) x o2) x o3) := fun _ _ _ => (((fr_same s1).put).put).put
    exact q _ (f1 _ _ _) ⟨⟨dx, .non, upd_same, rfl⟩, hd.fr (f1 _ _ _) hx trivial, Int.le_refl 0⟩

theorem ok_Clock_bounds {P : Program} {w : World} {K : PySem.W.Frag} {mg : Str → Option Value} {base : Heap} {a : Nat → Addr} {d : Nat → FuncData} (T : Txt K mg a d) : FnOk P w K mg base CX0 5 (a 13) (d 13) ["self"] (spBounds K (a 24)) := by
  refine T.F_Clock_bounds.ok sc_Clock_bounds (fun vs H Q E h => ?_) (fun cdv A outer s0 H vs Q E hr h => ?_)
  · obtain ⟨c, dr, t, b, lo, hi, n, rfl, hk, q⟩ := h
    rfl
  · obtain ⟨c, dr, t, b, lo, hi, n, rfl, hk, q⟩ := h
    obtain ⟨⟨dx, sv, hc, hs⟩, hd, nn⟩ := id hk
    obtain ⟨sp, rfl, hs'⟩ := id hs
    refine ⟨_, (pss_cons (ps_if (pt_cmpR op_isN (pe_fld (pv 0) rfl) pe_non (nomark _)) (pss_one ps_never) pss_nil) (pss_one (ps_ret (pe_call (ok_bounds_behind T) (hr.mono (by decide)) (by rfl) T.g_bounds_behind T.F_bounds_behind.kp T.b_bounds_behind .nil pass0 (pa_cons (pe_fld (pv 0) rfl) (pa_cons (pe_fld (pv 0) rfl) (pa_cons (pe_fld (pv 0) rfl) pa_nil))))))), ?_⟩
    refine ⟨_, rfl, c, _, dx, _, _, rfl, hc, T.cl, T.n_stands, cf_s _ _ _, rfl, _, rfl, iteF ?_⟩
    refine ⟨_, rfl, c, _, dx, _, _, rfl, hc, T.cl, T.n_stands, cf_s _ _ _, _, rfl, c, _, dx, _, _, rfl, hc, T.cl, T.n_counted, cf_c _ _ _, _, rfl, c, _, dx, _, _, rfl, hc, T.cl, T.n_most_drift, cf_m _ _ _, ?_⟩
    exact ⟨_, some (lo, hi), n, dr, t, b, rfl, hs, nn, hd, fun p np => q p np⟩

theorem ok_Clock_set_to {P : Program} {w : World} {K : PySem.W.Frag} {mg : Str → Option Value} {base : Heap} {a : Nat → Addr} {d : Nat → FuncData} (T : Txt K mg a d) : FnOk P w K mg base CX0 6 (a 11) (d 11) ["self", "low", "high"] (spSet K (a 24)) := by
  refine T.F_Clock_set_to.ok sc_Clock_set_to (fun vs H Q E h => ?_) (fun cdv A outer s0 H vs Q E hr h => ?_)
  · obtain ⟨c, dr, t, b, st, n, low, high, rfl, hk, hlh, hle, q⟩ := h
    rfl
  · obtain ⟨c, dr, t, b, st, n, low, high, rfl, hk, hlh, hle, q⟩ := h
    refine ⟨_, (pss_cons (ps_set (i := 3) sc_Clock_set_to.nd rfl (Or.inl rfl) (pe_call (ok_bounds_behind T) (hr.mono (by decide)) (by rfl) T.g_bounds_behind T.F_bounds_behind.kp T.b_bounds_behind .nil pass0 (pa_cons (pe_fld (pv 0) rfl) (pa_cons (pe_fld (pv 0) rfl) (pa_cons (pe_fld (pv 0) rfl) pa_nil))))) (pss_cons (ps_fld (pv 0) (pe_call (ok_set_between T) (hr.mono (by decide)) (by rfl) T.g_set_between T.F_set_between.kp T.b_set_between .nil pass0 (pa_cons (pv 3) (pa_cons (pv 1) (pa_cons (pv 2) pa_nil)))) rfl) (pss_one (ps_fld (pv 0) pe_int rfl)))), ?_⟩
    obtain ⟨⟨dx, sv, hc, hs⟩, hd, nn⟩ := id hk
    refine ⟨_, rfl, c, _, dx, _, _, rfl, hc, T.cl, T.n_stands, cf_s _ _ _, _, rfl, c, _, dx, _, _, rfl, hc, T.cl, T.n_counted, cf_c _ _ _, _, rfl, c, _, dx, _, _, rfl, hc, T.cl, T.n_most_drift, cf_m _ _ _, ?_⟩
    refine ⟨_, st, n, dr, t, b, rfl, hs, nn, hd, ?_⟩
    cases st with
    | none =>
      refine ⟨_, rfl, _, rfl, _, rfl, _, none, low, high, rfl, rfl, hlh, hle, fun p np => ?_⟩
      have npc : c ≠ p := ne_of_none hc np
      refine ⟨_, rfl, c, _, dx, _, rfl, (by rw [upd_ne npc]; exact hc), T.cl, T.n_stands, cf_len _ _ _, ?_⟩
      refine ⟨_, rfl, c, _, dx, _, rfl, upd_same, T.cl, T.n_counted, (by rw [cf_put_s]; exact cf_len _ _ _), ?_⟩
      rw [cf_put_s, cf_put_c]
      have f1 : Fr c H (upd (upd (upd H p (.tup [.int low, .int high])) c (.ins (a 24) dx (cf (.ref dr) (.ref p) n))) c (.ins (a 24) dx (cf (.ref dr) (.ref p) 0))) := (((Fr.refl c H).new np).put).put
      exact q _ f1 ⟨⟨dx, .ref p, upd_same, p, rfl, SqT.of (by rw [upd_ne npc.symm, upd_ne npc.symm]; exact upd_same)⟩, hd.fr f1 hc trivial, Int.le_refl 0⟩
    | some z =>
      obtain ⟨lo, hi⟩ := z
      intro p1 np1
      refine ⟨_, rfl, _, rfl, _, rfl, _, some (lo + leastP n t b, hi + mostP n t b), low, high, rfl, ⟨p1, rfl, SqT.of upd_same⟩, hlh, hle, fun p np => ?_⟩
      have hc1 : upd H p1 (.tup [.int (lo + leastP n t b), .int (hi + mostP n t b)]) c = some (.ins (a 24) dx (cf (.ref dr) sv n)) := by
        rw [upd_ne (ne_of_none hc np1)]
        exact hc
      have npc : c ≠ p := ne_of_none hc1 np
      refine ⟨_, rfl, c, _, dx, _, rfl, (by rw [upd_ne npc]; exact hc1), T.cl, T.n_stands, cf_len _ _ _, ?_⟩
      refine ⟨_, rfl, c, _, dx, _, rfl, upd_same, T.cl, T.n_counted, (by rw [cf_put_s]; exact cf_len _ _ _), ?_⟩
      rw [cf_put_s, cf_put_c]
      have f1 : Fr c H (upd (upd (upd (upd H p1 (.tup [.int (lo + leastP n t b), .int (hi + mostP n t b)])) p (.tup [.int (setLow low (some (lo, hi)) t b n), .int (setHigh high (some (lo, hi)) t b n)])) c (.ins (a 24) dx (cf (.ref dr) (.ref p) n))) c (.ins (a 24) dx (cf (.ref dr) (.ref p) 0))) := ((((Fr.refl c H).new np1).new np).put).put
      exact q _ f1 ⟨⟨dx, .ref p, upd_same, p, rfl, SqT.of (by rw [upd_ne npc.symm, upd_ne npc.symm]; exact upd_same)⟩, hd.fr f1 hc trivial, Int.le_refl 0⟩

theorem ok_Clock_tick {P : Program} {w : World} {K : PySem.W.Frag} {mg : Str → Option Value} {base : Heap} {a : Nat → Addr} {d : Nat → FuncData} (T : Txt K mg a d) : FnOk P w K mg base CX0 4 (a 12) (d 12) ["self", "many"] (spTick K (a 24)) := by
  refine T.F_Clock_tick.ok (CX := CX0) sc_Clock_tick (fun vs H Q E h => ?_) (fun cdv A outer s0 H vs Q E hr h => ?_)
  · obtain ⟨c, dr, t, b, st, n, m, rfl, hk, m0, q⟩ := h
    rfl
  · obtain ⟨c, dr, t, b, st, n, m, rfl, hk, m0, q⟩ := h
    obtain ⟨⟨dx, sv, hc, hs⟩, hd, nn⟩ := id hk
    refine ⟨_, PSs.nox (pss_cons (ps_expr (pe_call (ok_refuse_no_count T) (hr.mono (by decide)) (by rfl) T.g_refuse_no_count T.F_refuse_no_count.kp T.b_refuse_no_count .nil pass0 (pa_cons (pv 1) pa_nil))) (pss_one (ps_fldaug (pv 0) (pv 1) in_add))), ?_⟩
    refine ⟨_, rfl, m, rfl, m0, ?_⟩
    refine ⟨_, rfl, c, _, dx, _, _, rfl, hc, T.cl, T.n_counted, cf_c _ _ _, _, rfl, n, m, rfl, rfl, dx, _, hc, cf_len _ _ _, ?_⟩
    rw [cf_put_c]
    have f1 : Fr c H (upd H c (.ins (a 24) dx (cf (.ref dr) sv (n + m)))) := (Fr.refl c H).put
    exact q _ f1 ⟨⟨dx, sv, upd_same, hs.fr f1 hc trivial⟩, hd.fr f1 hc trivial, by omega⟩

theorem ok_Clock_is_past {P : Program} {w : World} {K : PySem.W.Frag} {mg : Str → Option Value} {base : Heap} {a : Nat → Addr} {d : Nat → FuncData} (T : Txt K mg a d) : FnOk P w K mg base CX0 6 (a 14) (d 14) ["self", "time"] (spPast K (a 24)) := by
  refine T.F_Clock_is_past.ok sc_Clock_is_past (fun vs H Q E h => ?_) (fun cdv A outer s0 H vs Q E hr h => ?_)
  · obtain ⟨c, dr, t, b, lo, hi, n, m, rfl, hk, q⟩ := h
    rfl
  · obtain ⟨c, dr, t, b, lo, hi, n, m, rfl, hk, q⟩ := h
    obtain ⟨⟨dx, sv, hc, hs⟩, hd, nn⟩ := id hk
    refine ⟨_, (pss_one (ps_ret (pe_cmpR op_gt (pe_ix ix_tup (pe_meth0 (pv 0) T.cl T.m_Clock_bounds (ok_Clock_bounds T) (hr.mono (by decide)) T.b_Clock_bounds .nil pass0) pe_int (fun _ _ => rfl)) (pv 1) (nomark _)))), ?_⟩
    refine ⟨_, rfl, c, dx, _, rfl, hc, cf_no _ _ _ (by decide +kernel) (by decide +kernel) (by decide +kernel), c, dr, t, b, lo, hi, n, rfl, hk, fun p np => ?_⟩
    refine ⟨p, _, 0, _, rfl, rfl, SqT.of upd_same, rfl, _, rfl, _, _, rfl, rfl, ?_⟩
    exact q _ (same_new (Same.refl H) np)

theorem ok_Clock_is_ahead {P : Program} {w : World} {K : PySem.W.Frag} {mg : Str → Option Value} {base : Heap} {a : Nat → Addr} {d : Nat → FuncData} (T : Txt K mg a d) : FnOk P w K mg base CX0 6 (a 15) (d 15) ["self", "time"] (spAhead K (a 24)) := by
  refine T.F_Clock_is_ahead.ok sc_Clock_is_ahead (fun vs H Q E h => ?_) (fun cdv A outer s0 H vs Q E hr h => ?_)
  · obtain ⟨c, dr, t, b, lo, hi, n, m, rfl, hk, q⟩ := h
    rfl
  · obtain ⟨c, dr, t, b, lo, hi, n, m, rfl, hk, q⟩ := h
    obtain ⟨⟨dx, sv, hc, hs⟩, hd, nn⟩ := id hk
    refine ⟨_, (pss_one (ps_ret (pe_cmpR op_lt (pe_ix ix_tup (pe_meth0 (pv 0) T.cl T.m_Clock_bounds (ok_Clock_bounds T) (hr.mono (by decide)) T.b_Clock_bounds .nil pass0) pe_int (fun _ _ => rfl)) (pv 1) (nomark _)))), ?_⟩
    refine ⟨_, rfl, c, dx, _, rfl, hc, cf_no _ _ _ (by decide +kernel) (by decide +kernel) (by decide +kernel), c, dr, t, b, lo, hi, n, rfl, hk, fun p np => ?_⟩
    refine ⟨p, _, 1, _, rfl, rfl, SqT.of upd_same, rfl, _, rfl, _, _, rfl, rfl, ?_⟩
    exact q _ (same_new (Same.refl H) np)

theorem ok_l_bag {P : Program} {w : World} {K : PySem.W.Frag} {mg : Str → Option Value} {base : Heap} {a : Nat → Addr} {d : Nat → FuncData} (T : Txt K mg a d) : FnOk P w K mg base CX0 1 (a 16) (d 16) ["_law_script", "_law_k"] (spBag K) := by
  refine T.F_l_bag.ok sc_l_bag (fun vs H Q E h => ?_) (fun cdv A outer s0 H vs Q E hr h => ?_)
  · obtain ⟨l, ns, k, rfl, hS, hk0, hk1, q⟩ := h
    rfl
  · obtain ⟨l, ns, k, rfl, hS, hk0, hk1, q⟩ := h
    obtain ⟨k, rfl⟩ := Int.eq_ofNat_of_zero_le hk0
    refine ⟨_, (pss_cons (ps_set (i := 2) sc_l_bag.nd rfl (Or.inl rfl) pe_int) (pss_cons (ps_if (pt_cmpR op_lt (pv 1) (pe_callB call_len_seq (by rfl) T.z_len PySem.boot_len (pa_cons (pv 0) pa_nil)) (nomark _)) (pss_one (ps_set (i := 2) sc_l_bag.nd rfl (Or.inl rfl) (pe_ix ix_list (pv 0) (pv 1) (fun _ _ => rfl)))) pss_nil) (pss_cons (ps_set (i := 3) sc_l_bag.nd rfl (Or.inl rfl) pe_int) (pss_cons (ps_if (pt_cmpR op_ge (pv 2) (pe_op op_pow pe_int pe_int) (nomark _)) (pss_one (ps_set (i := 3) sc_l_bag.nd rfl (Or.inl rfl) (pv 2))) pss_nil) (pss_one (ps_ret (pe_lst (pa_cons (pv 3) (pa_cons (pe_op op_mod (pe_op op_pow (pe_op op_add (pe_op op_add (pe_op op_mod (pv 2) pe_int) (pe_op op_mul pe_int (pv 1))) pe_int) pe_int) pe_int) pa_nil))))))))), ?_⟩
    have fin : ∀ cell great : Int, ∀ p4, H p4 = none → BagAt (upd H p4 (.lst [.int great, .int ((cell % 998244353 + 7368787 * (k : Int) + 41) ^ (3 : Int).toNat % 2147483629)])) p4 := fun cell great p4 n4 =>
      ⟨_, _, upd_same, Int.emod_nonneg _ (by decide), Int.lt_trans (Int.emod_lt_of_pos _ (by decide)) (by decide)⟩
    have pw : ∀ cell : Int, (cell % 998244353 + 7368787 * (k : Int) + 41).natAbs < 2 ^ 64 := fun cell => by
      have h1 := Int.emod_nonneg cell (show (998244353 : Int) ≠ 0 by decide)
      have h2 := Int.emod_lt_of_pos cell (show (0 : Int) < 998244353 by decide)
      have e : (2 : Nat) ^ 64 = 18446744073709551616 := by decide
      rw [e]
      omega
    refine ⟨_, rfl, _, rfl, l, _, rfl, .inl hS, _, _, rfl, rfl, _, rfl, ?_⟩
    refine ite2 (fun hlt => ?_) (fun hlt => ?_)
    · have hlt' : k < ns.length := by
        have z := of_decide_eq_true hlt
        rw [List.length_map] at z
        omega
      refine ⟨_, rfl, _, rfl, l, _, _, _, rfl, rfl, hS, atI_nat (j := k) (v := .int ns[k]) (by rw [List.getElem?_map, List.getElem?_eq_getElem hlt']; rfl), ?_⟩
      refine ⟨_, rfl, 10, 18, rfl, rfl, ⟨by decide, by decide, by decide⟩, _, _, rfl, rfl, _, rfl, ?_⟩
      refine ite2 (fun _ => ?_) (fun _ => ?_)
      · refine ⟨_, rfl, ?_⟩
        refine ⟨_, rfl, _, rfl, _, _, rfl, rfl, (by show (0 : Int) < 998244353; decide), _, rfl, _, k, rfl, rfl, .inl (m64 (by decide) (by decide)), _, _, rfl, rfl, _, 41, rfl, rfl, _, 3, rfl, rfl, ⟨by decide, by decide, pw _⟩, _, _, rfl, rfl, (by show (0 : Int) < 2147483629; decide), len2, fun p4 n4 => ?_⟩
        exact q p4 _ n4 (same_new (Same.refl H) n4) (fin _ _ p4 n4)
      · refine ⟨_, rfl, _, rfl, _, _, rfl, rfl, (by show (0 : Int) < 998244353; decide), _, rfl, _, k, rfl, rfl, .inl (m64 (by decide) (by decide)), _, _, rfl, rfl, _, 41, rfl, rfl, _, 3, rfl, rfl, ⟨by decide, by decide, pw _⟩, _, _, rfl, rfl, (by show (0 : Int) < 2147483629; decide), len2, fun p4 n4 => ?_⟩
        exact q p4 _ n4 (same_new (Same.refl H) n4) (fin _ _ p4 n4)
    · refine ⟨_, rfl, 10, 18, rfl, rfl, ⟨by decide, by decide, by decide⟩, _, _, rfl, rfl, _, rfl, ?_⟩
      refine iteDF (by decide) ?_
      refine ⟨_, rfl, _, rfl, _, _, rfl, rfl, (by show (0 : Int) < 998244353; decide), _, rfl, _, k, rfl, rfl, .inl (m64 (by decide) (by decide)), _, _, rfl, rfl, _, 41, rfl, rfl, _, 3, rfl, rfl, ⟨by decide, by decide, pw _⟩, _, _, rfl, rfl, (by show (0 : Int) < 2147483629; decide), len2, fun p4 n4 => ?_⟩
      exact q p4 _ n4 (same_new (Same.refl H) n4) (fin _ _ p4 n4)

theorem ok_l_out {P : Program} {w : World} {K : PySem.W.Frag} {mg : Str → Option Value} {base : Heap} {a : Nat → Addr} {d : Nat → FuncData} (T : Txt K mg a d) : FnOk P w K mg base CX0 1 (a 17) (d 17) ["_law_bag_here", "_law_many"] spOut := by
  refine T.F_l_out.ok sc_l_out (fun vs H Q E h => ?_) (fun cdv A outer s0 H vs Q E hr h => ?_)
  · obtain ⟨s, m, rfl, ⟨x, y, hs, y0, y1⟩, m0, m1, q⟩ := h
    rfl
  · obtain ⟨s, m, rfl, ⟨x, y, hs, y0, y1⟩, m0, m1, q⟩ := h
    refine ⟨_, (pss_cons (ps_if (pt_cmpR op_gt (pe_ix ix_list (pv 0) pe_int (fun _ _ => rfl)) pe_int (nomark _)) (pss_cons (ps_set (i := 2) sc_l_out.nd rfl (Or.inl rfl) (pe_op op_mod (pe_ix ix_list (pv 0) pe_int (fun _ _ => rfl)) (pv 1))) (pss_cons (ps_asg (pe_op op_fdivW (pe_ix ix_list (pv 0) pe_int (fun _ _ => rfl)) (pv 1)) (pg_sub (pv 0) pe_int set_list)) (pss_one (ps_ret (pv 2))))) pss_nil) (pss_cons (ps_asg (pe_op op_mod (pe_op op_add (pe_op op_mul (pe_ix ix_list (pv 0) pe_int (fun _ _ => rfl)) pe_int) pe_int) pe_int) (pg_sub (pv 0) pe_int set_list)) (pss_one (ps_ret (pe_op op_mod (pe_op op_fdiv (pe_op op_mod (pe_op op_mul (pe_ix ix_list (pv 0) pe_int (fun _ _ => rfl)) (pe_op op_add (pe_op op_fdiv (pe_ix ix_list (pv 0) pe_int (fun _ _ => rfl)) pe_int) pe_int)) pe_int) pe_int) (pv 1)))))), ?_⟩
    refine ⟨_, rfl, s, _, 0, _, rfl, rfl, SqL.of hs, rfl, x, 0, rfl, rfl, _, rfl, ?_⟩
    refine ite2 (fun _ => ?_) (fun _ => ?_)
    · refine ⟨_, rfl, s, _, 0, _, rfl, rfl, SqL.of hs, rfl, _, rfl, x, m, rfl, rfl, m0, ?_⟩
      refine ⟨_, rfl, s, _, 0, _, rfl, rfl, SqL.of hs, rfl, _, rfl, x, m, rfl, rfl, divW m0 m1, _, rfl, s, _, 0, 0, rfl, rfl, hs, rfl, ?_⟩
      refine ⟨_, rfl, ?_⟩
      exact q _ _ (Int.emod_nonneg _ (by omega)) (Int.emod_lt_of_pos _ m0) (Fr.refl s H).put ⟨_, _, upd_same, y0, y1⟩
    · refine ⟨_, rfl, s, _, 1, _, rfl, rfl, SqL.of hs, rfl, y, 40692, rfl, rfl, .inr (m64 (by decide) (by decide)), _, 12345, rfl, rfl, _, 2147483399, rfl, rfl, (by show (0 : Int) < 2147483399; decide), _, rfl, s, _, 1, 1, rfl, rfl, hs, rfl, ?_⟩
      have e0 : 0 ≤ (y * 40692 + 12345) % 2147483399 := Int.emod_nonneg _ (by decide)
      have e1 : (y * 40692 + 12345) % 2147483399 < 2147483399 := Int.emod_lt_of_pos _ (by decide)
      refine ⟨_, rfl, s, _, 1, _, rfl, rfl, SqL.of upd_same, rfl, _, rfl, s, _, 1, _, rfl, rfl, SqL.of upd_same, rfl, _, 1024, rfl, rfl, ⟨by decide, by decide⟩, _, 7, rfl, rfl, _, _, rfl, rfl, .inl (m64 (by omega) (by omega)), _, 2147483647, rfl, rfl, (by show (0 : Int) < 2147483647; decide), _, 32, rfl, rfl, ⟨by decide, by decide⟩, _, rfl, _, m, rfl, rfl, m0, ?_⟩
      exact q _ _ (Int.emod_nonneg _ (by omega)) (Int.emod_lt_of_pos _ m0) (Fr.refl s H).put ⟨_, _, upd_same, e0, by omega⟩

theorem ok_l_drift {P : Program} {w : World} {K : PySem.W.Frag} {mg : Str → Option Value} {base : Heap} {a : Nat → Addr} {d : Nat → FuncData} (T : Txt K mg a d) : FnOk P w K mg base CX0 2 (a 18) (d 18) ["_law_bag_here"] (spLDrift K) := by
  refine T.F_l_drift.ok sc_l_drift (fun vs H Q E h => ?_) (fun cdv A outer s0 H vs Q E hr h => ?_)
  · obtain ⟨s, rfl, hs, q⟩ := h
    rfl
  · obtain ⟨s, rfl, hs, q⟩ := h
    refine ⟨_, (pss_cons (ps_set (i := 1) sc_l_drift.nd rfl (Or.inl rfl) (pe_op op_add pe_int (pe_call (ok_l_out T) (hr.mono (by decide)) (by rfl) T.g_l_out T.F_l_out.kp T.b_l_out .nil pass0 (pa_cons (pv 0) (pa_cons (pe_ix ix_list (pe_lst (pa_cons pe_int (pa_cons pe_int (pa_cons pe_int (pa_cons pe_int pa_nil))))) (pe_call (ok_l_out T) (hr.mono (by decide)) (by rfl) T.g_l_out T.F_l_out.kp T.b_l_out .nil pass0 (pa_cons (pv 0) (pa_cons pe_int pa_nil))) (fun _ _ => rfl)) pa_nil))))) (pss_cons (ps_set (i := 2) sc_l_drift.nd rfl (Or.inl rfl) (pe_call (ok_l_out T) (hr.mono (by decide)) (by rfl) T.g_l_out T.F_l_out.kp T.b_l_out .nil pass0 (pa_cons (pv 0) (pa_cons (pv 1) pa_nil)))) (pss_cons (ps_set (i := 3) sc_l_drift.nd rfl (Or.inl rfl) (pv 2)) (pss_cons (ps_set (i := 4) sc_l_drift.nd rfl (Or.inl rfl) (pv 1)) (pss_cons (ps_while PassesOwn.never (pt_cmpR op_gt (pv 4) pe_int (nomark _)) (pss_one (ps_par (i := 3) (j := 4) (by rfl) sc_l_drift.nd rfl rfl (by decide) rfl rfl (pa_cons (pv 4) (pa_cons (pe_op op_mod (pv 3) (pv 4)) pa_nil)) (by rfl)))) (pss_one (ps_ret (pe_tup (pa_cons (pe_op op_fdivW (pv 2) (pv 3)) (pa_cons (pe_op op_fdivW (pv 1) (pv 3)) pa_nil)))))))))), ?_⟩
    refine ⟨_, rfl, (by decide : 4 ≤ sizeLine), fun p1 n1 => ?_⟩
    refine ⟨_, rfl, s, 4, rfl, hs.new n1, (by decide), (by decide), fun r1 H1 r10 r11 k1 b1 => ?_⟩
    have g1 : H1 p1 = some (.lst [.int 1, .int 9, .int 100, .int 1000]) := k1 _ _ (hs.ne_new n1) upd_same
    obtain ⟨z, hz, z0, z1⟩ : ∃ z : Int, atI [V.int 1, V.int 9, V.int 100, V.int 1000] r1 = some (V.int z) ∧ 0 < z ∧ z ≤ 1000 := by
      have : r1 = 0 ∨ r1 = 1 ∨ r1 = 2 ∨ r1 = 3 := by omega
      rcases this with rfl | rfl | rfl | rfl
      · exact ⟨1, rfl, by decide, by decide⟩
      · exact ⟨9, rfl, by decide, by decide⟩
      · exact ⟨100, rfl, by decide, by decide⟩
      · exact ⟨1000, rfl, by decide, by decide⟩
    have f1 : Fr s H H1 := ((Fr.refl s H).new n1).trans k1
    refine ⟨p1, _, r1, _, rfl, rfl, SqL.of g1, hz, ?_⟩
    refine ⟨s, z, rfl, b1, z0, by omega, fun r2 H2 r20 r21 k2 b2 => ?_⟩
    have f2 := f1.trans k2
    refine ⟨1, r2, rfl, rfl, ?_⟩
    refine ⟨_, rfl, _, rfl, s, _, rfl, b2, by omega, by omega, fun r3 H3 r30 r31 k3 b3 => ?_⟩
    have f3 := f2.trans k3
    refine ⟨_, rfl, _, rfl, ?_⟩
    refine ⟨fun m σ H' => H' = H3 ∧ ∃ h t : Int, σ = [some (.ref s), some (.int (1 + r2)), some (.int r3), some (.int h), some (.int t)] ∧ m = t.toNat ∧ 0 ≤ h ∧ 0 ≤ t ∧ Int.gcd h t = Int.gcd r3 (1 + r2), ⟨_, rfl, r3, 1 + r2, rfl, rfl, r30, by omega, rfl⟩, ?_⟩
    rintro m σ H' ⟨rfl, h, t, rfl, rfl, h0, t0, eg⟩
    refine ⟨_, rfl, t, 0, rfl, rfl, _, rfl, ?_⟩
    by_cases tp : 0 < t
    · refine iteDT tp ?_
      refine ⟨_, fun _ _ z => z, ?_⟩
      refine ⟨_, rfl, _, rfl, _, rfl, h, t, rfl, rfl, tp, _, _, rfl, ?_⟩
      have e0 := Int.emod_nonneg h (show t ≠ 0 by omega)
      have e1 := Int.emod_lt_of_pos h tp
      exact ⟨(h % t).toNat, by omega, rfl, t, h % t, rfl, rfl, t0, e0, (gcd_turn h0 tp).trans eg⟩
    · refine iteDF tp ?_
      have hz : t = 0 := by omega
      subst hz
      obtain ⟨hp, e1, e2, e3, hl⟩ := low_end r30 (by omega) h0 eg
      refine ⟨_, rfl, _, rfl, r3, h, rfl, rfl, divW hp (by omega), _, rfl, _, rfl, 1 + r2, h, rfl, rfl, divW hp (by omega), len2, fun p np => ?_⟩
      have t0' := nn_of_mul hp r30 e1
      have l0 := pos_of_mul hp (show 0 < 1 + r2 by omega) e2
      have l1 := le_of_gmul hp (Int.le_of_lt l0) e2
      exact q _ _ p _ (f3.new np) (b3.new np) ⟨SqT.of upd_same, t0', lt_cancel hp (by omega), by omega, e3⟩ upd_same

theorem ok_l_gone {P : Program} {w : World} {K : PySem.W.Frag} {mg : Str → Option Value} {base : Heap} {a : Nat → Addr} {d : Nat → FuncData} (T : Txt K mg a d) : FnOk P w K mg base CX0 5 (a 19) (d 19) ["_law_bag_here", "_law_clock", "_law_drift_here", "_law_state", "_law_ticks"] (spGone K (a 24)) := by
  refine T.F_l_gone.ok sc_l_gone (fun vs H Q E h => ?_) (fun cdv A outer s0 H vs Q E hr h => ?_)
  · obtain ⟨s, c, dr, m, k, t, b, lo, hi, n, T0, made, rfl, hs, hk, hm, tr, k0, k1, q⟩ := h
    rfl
  · obtain ⟨s, c, dr, m, k, t, b, lo, hi, n, T0, made, rfl, hs, hk, hm, tr, k0, k1, q⟩ := h
    obtain ⟨hS, t0, tb, b1, _⟩ := id hk.dr_
    refine ⟨_, (pss_cons (ps_asg (pv 2) (pg_tup (by rfl) (pgs_cons (pg_name (i := 5) sc_l_gone.nd rfl (.inl rfl)) (pgs_cons (pg_name (i := 6) sc_l_gone.nd rfl (.inl rfl)) pgs_nil)))) (pss_cons (ps_set (i := 7) sc_l_gone.nd rfl (Or.inl rfl) (pe_op op_add (pe_op op_sub (pv 6) (pv 5)) (pe_call (ok_l_out T) (hr.mono (by decide)) (by rfl) T.g_l_out T.F_l_out.kp T.b_l_out .nil pass0 (pa_cons (pv 0) (pa_cons (pe_op op_add (pe_op op_mul pe_int (pv 5)) pe_int) pa_nil))))) (pss_cons (ps_set (i := 8) sc_l_gone.nd rfl (Or.inl rfl) (pe_op op_fdivW (pe_ix ix_list (pv 3) pe_int (fun _ _ => rfl)) (pv 6))) (pss_cons (ps_asg (pe_op op_add (pe_ix ix_list (pv 3) pe_int (fun _ _ => rfl)) (pe_op op_mul (pv 4) (pv 7))) (pg_sub (pv 3) pe_int set_list)) (pss_one (ps_expr (pe_meth (pv 1) T.cl T.m_Clock_tick (ok_Clock_tick T) (hr.mono (by decide)) T.b_Clock_tick .nil pass0 (pa_cons (pe_op op_sub (pe_op op_fdivW (pe_ix ix_list (pv 3) pe_int (fun _ _ => rfl)) (pv 6)) (pv 8)) pa_nil)))))))), ?_⟩
    refine ⟨_, rfl, dr, _, rfl, hS, rfl, _, _, rfl, _, _, rfl, rfl, ?_⟩
    refine ⟨_, rfl, _, rfl, b, t, rfl, rfl, _, rfl, _, rfl, 2, t, rfl, rfl, .inl (m64 (by decide) (by decide)), 2 * t, 1, rfl, rfl, s, _, rfl, hs, (by omega), (by omega), fun r1 H1 r10 r11 k1' bs1 => ⟨b - t, r1, rfl, rfl, ?_⟩⟩
    have hk1 := hk.bag k1' hs
    have hm1 : H1 m = some (.lst [.int made]) := k1' _ _ (one_ne_bag hs hm) hm
    refine ⟨_, rfl, m, _, 0, _, rfl, rfl, SqL.of hm1, rfl, _, rfl, made, b, rfl, rfl, divW (by omega) (by omega), ?_⟩
    refine ⟨_, rfl, m, _, 0, _, rfl, rfl, SqL.of hm1, rfl, _, rfl, _, rfl, k, b - t + r1, rfl, rfl, .inl (m64 (by omega) (by omega)), made, _, rfl, rfl, _, rfl, m, _, 0, 0, rfl, rfl, hm1, rfl, ?_⟩
    have f2 : ∀ o, Fr m H1 (upd H1 m o) := fun _ => (Fr.refl m H1).put
    have hk2 : ∀ o, CkAt K (a 24) (upd H1 m o) c dr t b (some (lo, hi)) n := fun o => hk1.fr (f2 o) hm1 trivial (lst_ne_ck hk1 hm1).symm
    obtain ⟨dx, sv, hc, _⟩ := (hk2 (.lst [.int (made + k * (b - t + r1))])).at_
    have mm : made / b ≤ (made + k * (b - t + r1)) / b := Int.ediv_le_ediv (by omega) (made_le t0 tb k0 (by omega))
    refine ⟨_, rfl, c, dx, _, rfl, hc, cf_no _ _ _ (by decide +kernel) (by decide +kernel) (by decide +kernel), _, rfl, m, _, 0, _, rfl, rfl, SqL.of upd_same, rfl, _, rfl, _, b, rfl, rfl, divW (by omega) (by omega), _, rfl, _, _, rfl, rfl, c, dr, t, b, _, n, _, rfl, hk2 _, by omega, fun H3 k3 hk3 => ?_⟩
    exact q H1 _ H3 _ _ k1' bs1 (f2 _) upd_same k3 hk3 (tr.more t0 tb k0 (by omega) (by omega))

theorem ok_l_right {P : Program} {w : World} {K : PySem.W.Frag} {mg : Str → Option Value} {base : Heap} {a : Nat → Addr} {d : Nat → FuncData} (T : Txt K mg a d) : FnOk P w K mg base CX0 7 (a 20) (d 20) ["_law_one", "_law_other", "_law_time"] (spRight K (a 24)) := by
  refine T.F_l_right.ok sc_l_right (fun vs H Q E h => ?_) (fun cdv A outer s0 H vs Q E hr h => ?_)
  · obtain ⟨c, c', dr, dr', t, b, lo, hi, n, t', b', lo', hi', n', T0, rfl, hk, hk', h1, h2, h3, h4, q⟩ := h
    rfl
  · obtain ⟨c, c', dr, dr', t, b, lo, hi, n, t', b', lo', hi', n', T0, rfl, hk, hk', h1, h2, h3, h4, q⟩ := h
    refine ⟨_, (pss_cons (ps_set (i := 3) sc_l_right.nd rfl (Or.inl rfl) (pe_meth0 (pv 0) T.cl T.m_Clock_bounds (ok_Clock_bounds T) (hr.mono (by decide)) T.b_Clock_bounds .nil pass0)) (pss_cons (ps_set (i := 4) sc_l_right.nd rfl (Or.inl rfl) (pe_meth0 (pv 1) T.cl T.m_Clock_bounds (ok_Clock_bounds T) (hr.mono (by decide)) T.b_Clock_bounds .nil pass0)) (pss_cons (ps_if (PW.pt (pw_or (pt_cmpR op_gt (pe_callB (call_max2 rfl) (by rfl) T.z_max (by decide +kernel) (pa_cons (pe_ix ix_tup (pv 3) pe_int (fun _ _ => rfl)) (pa_cons (pe_ix ix_tup (pv 4) pe_int (fun _ _ => rfl)) pa_nil))) (pv 2) (nomark _)) (pw_or1 (pt_cmpR op_lt (pe_callB (call_min2 rfl) (by rfl) T.z_min (by decide +kernel) (pa_cons (pe_ix ix_tup (pv 3) pe_int (fun _ _ => rfl)) (pa_cons (pe_ix ix_tup (pv 4) pe_int (fun _ _ => rfl)) pa_nil))) (pv 2) (nomark _))))) (pss_one (ps_ret pe_bl)) pss_nil) (pss_cons (ps_for PassesOwn.never rfl (pi_list (pe_lst (pa_cons (pe_op op_sub (pe_ix ix_tup (pv 3) pe_int (fun _ _ => rfl)) pe_int) (pa_cons (pe_ix ix_tup (pv 3) pe_int (fun _ _ => rfl)) (pa_cons (pe_ix ix_tup (pv 3) pe_int (fun _ _ => rfl)) (pa_cons (pe_op op_sub (pe_ix ix_tup (pv 4) pe_int (fun _ _ => rfl)) pe_int) (pa_cons (pe_ix ix_tup (pv 4) pe_int (fun _ _ => rfl)) (pa_cons (pe_op op_add (pe_ix ix_tup (pv 4) pe_int (fun _ _ => rfl)) pe_int) (pa_cons (pv 2) pa_nil))))))))) (pg_name (i := 5) sc_l_right.nd rfl (.inl rfl)) (pss_one (ps_if (PW.pt (pw_or (PW.pt (pw_and (pt_truth (pe_meth (pv 0) T.cl T.m_Clock_is_past (ok_Clock_is_past T) (hr.mono (by decide)) T.b_Clock_is_past .nil pass0 (pa_cons (pv 5) pa_nil)) (by intro _; rfl)) (pw_and1 (pt_truth (pe_meth (pv 1) T.cl T.m_Clock_is_ahead (ok_Clock_is_ahead T) (hr.mono (by decide)) T.b_Clock_is_ahead .nil pass0 (pa_cons (pv 5) pa_nil)) (by intro _; rfl))))) (pw_or1 (PW.pt (pw_and (pt_truth (pe_meth (pv 0) T.cl T.m_Clock_is_ahead (ok_Clock_is_ahead T) (hr.mono (by decide)) T.b_Clock_is_ahead .nil pass0 (pa_cons (pv 5) pa_nil)) (by intro _; rfl)) (pw_and1 (pt_truth (pe_meth (pv 1) T.cl T.m_Clock_is_past (ok_Clock_is_past T) (hr.mono (by decide)) T.b_Clock_is_past .nil pass0 (pa_cons (pv 5) pa_nil)) (by intro _; rfl)))))))) (pss_one (ps_ret pe_bl)) pss_nil))) (pss_one (ps_ret pe_bl)))))), ?_⟩
    obtain ⟨dx, sv, hc, _⟩ := hk.at_
    obtain ⟨dx', sv', hc', _⟩ := hk'.at_
    refine ⟨_, rfl, c, dx, _, rfl, hc, cf_no _ _ _ (by decide +kernel) (by decide +kernel) (by decide +kernel), c, dr, t, b, lo, hi, n, rfl, hk, fun p np => ?_⟩
    have s1 : Same H (upd H p (.tup [.int (lo + leastP n t b), .int (hi + mostP n t b)])) := same_new (Same.refl H) np
    refine ⟨_, rfl, c', dx', _, rfl, s1 _ _ hc', cf_no _ _ _ (by decide +kernel) (by decide +kernel) (by decide +kernel), c', dr', t', b', lo', hi', n', rfl, hk'.same s1, fun p' np' => ?_⟩
    have s2 : ∀ o, Same (upd H p (.tup [.int (lo + leastP n t b), .int (hi + mostP n t b)])) (upd (upd H p (.tup [.int (lo + leastP n t b), .int (hi + mostP n t b)])) p' o) := fun _ => same_new (Same.refl _) np'
    have hp := (s2 (.tup [.int (lo' + leastP n' t' b'), .int (hi' + mostP n' t' b')])) _ _ (upd_same (H := H) (a := p) (o := .tup [.int (lo + leastP n t b), .int (hi + mostP n t b)]))
    refine ⟨_, rfl, p, _, 0, _, rfl, rfl, SqT.of hp, rfl, _, rfl, p', _, 0, _, rfl, rfl, SqT.of upd_same, rfl, _, _, rfl, _, rfl, _, _, rfl, rfl, _, rfl, iteDF (by split <;> omega) ?_⟩
    refine ⟨_, rfl, p, _, 1, _, rfl, rfl, SqT.of hp, rfl, _, rfl, p', _, 1, _, rfl, rfl, SqT.of upd_same, rfl, _, _, rfl, _, rfl, _, _, rfl, rfl, _, rfl, iteDF (by split <;> omega) ?_⟩
    refine ⟨_, rfl, p, _, 0, _, rfl, rfl, SqT.of hp, rfl, _, 1, rfl, rfl, _, rfl, p, _, 0, _, rfl, rfl, SqT.of hp, rfl, _, rfl, p, _, 1, _, rfl, rfl, SqT.of hp, rfl, ?_⟩
    refine ⟨_, rfl, p', _, 0, _, rfl, rfl, SqT.of upd_same, rfl, _, 1, rfl, rfl, _, rfl, p', _, 1, _, rfl, rfl, SqT.of upd_same, rfl, _, rfl, p', _, 1, _, rfl, rfl, SqT.of upd_same, rfl, _, 1, rfl, rfl, _, rfl, (by decide : 7 ≤ sizeLine), fun pl npl => ?_⟩
    refine ⟨pl, rfl, ⟨_, SqL.of upd_same⟩, ?_⟩
    have s3 : Same H _ := same_new (o := .lst (([lo + leastP n t b - 1, lo + leastP n t b, hi + mostP n t b, lo' + leastP n' t' b' - 1, hi' + mostP n' t' b', hi' + mostP n' t' b' + 1, T0] : List Int).map V.int)) (s1.trans (s2 (.tup [.int (lo' + leastP n' t' b'), .int (hi' + mostP n' t' b')]))) npl
    refine for_list (K := K) (a := pl) (xs := ([lo + leastP n t b - 1, lo + leastP n t b, hi + mostP n t b, lo' + leastP n' t' b' - 1, hi' + mostP n' t' b', hi' + mostP n' t' b' + 1, T0] : List Int).map V.int) (fun i σ H' => (Same H H' ∧ H' pl = some (.lst (([lo + leastP n t b - 1, lo + leastP n t b, hi + mostP n t b, lo' + leastP n' t' b' - 1, hi' + mostP n' t' b', hi' + mostP n' t' b' + 1, T0] : List Int).map V.int))) ∧ ∃ v : Option V, σ = [some (.ref c), some (.ref c'), some (.int T0), some (.ref p), some (.ref p'), v])
      ⟨⟨s3, upd_same⟩, none, rfl⟩ (fun i σ H' _ z => SqL.of z.1.2) ?_ ?_
    · rintro i y σ H1 hiy ⟨⟨sa, hpl⟩, v, rfl⟩
      obtain ⟨u, rfl⟩ : ∃ u, y = V.int u := by
        rw [List.getElem?_map] at hiy
        cases e : ([lo + leastP n t b - 1, lo + leastP n t b, hi + mostP n t b, lo' + leastP n' t' b' - 1, hi' + mostP n' t' b', hi' + mostP n' t' b' + 1, T0] : List Int)[i]? with
        | none =>
          rw [e] at hiy
          cases hiy
        | some u =>
          rw [e] at hiy
          exact ⟨u, (Option.some.inj hiy).symm⟩
      have past0 : ∀ {H1 : Hp}, Same H H1 → H1 c = some (.ins (a 24) dx (cf (.ref dr) sv n)) := fun z => z _ _ hc
      have past1 : ∀ {H1 : Hp}, Same H H1 → H1 c' = some (.ins (a 24) dx' (cf (.ref dr') sv' n')) := fun z => z _ _ hc'
      have rest : ∀ {H1 : Hp}, Same H H1 → H1 pl = some (.lst (([lo + leastP n t b - 1, lo + leastP n t b, hi + mostP n t b, lo' + leastP n' t' b' - 1, hi' + mostP n' t' b', hi' + mostP n' t' b' + 1, T0] : List Int).map V.int)) →
          (Same H H1 ∧ H1 pl = some (.lst (([lo + leastP n t b - 1, lo + leastP n t b, hi + mostP n t b, lo' + leastP n' t' b' - 1, hi' + mostP n' t' b', hi' + mostP n' t' b' + 1, T0] : List Int).map V.int))) ∧ ∃ v : Option V, [some (V.ref c), some (.ref c'), some (.int T0), some (.ref p), some (.ref p'), some (.int u)] = [some (.ref c), some (.ref c'), some (.int T0), some (.ref p), some (.ref p'), v] := fun z1 z2 => ⟨⟨z1, z2⟩, _, rfl⟩
      refine ⟨_, rfl, c, dx, _, rfl, past0 sa, cf_no _ _ _ (by decide +kernel) (by decide +kernel) (by decide +kernel), _, rfl, c, dr, t, b, lo, hi, n, u, rfl, hk.same sa, fun H2 s2' => ⟨_, rfl, ?_⟩⟩
      have sb := sa.trans s2'
      refine ite2 (fun e1 => ?_) (fun e1 => ?_)
      · have z1 := of_decide_eq_true e1
        refine ⟨_, rfl, c', dx', _, rfl, past1 sb, cf_no _ _ _ (by decide +kernel) (by decide +kernel) (by decide +kernel), _, rfl, c', dr', t', b', lo', hi', n', u, rfl, hk'.same sb, fun H3 s3' => ⟨_, rfl, iteDF (by omega) ?_⟩⟩
        have sc := sb.trans s3'
        refine ⟨_, rfl, c, dx, _, rfl, past0 sc, cf_no _ _ _ (by decide +kernel) (by decide +kernel) (by decide +kernel), _, rfl, c, dr, t, b, lo, hi, n, u, rfl, hk.same sc, fun H4 s4' => ⟨_, rfl, iteDF (by omega) ?_⟩⟩
        exact rest (sc.trans s4') ((s2'.trans (s3'.trans s4')) _ _ hpl)
      · refine iteF ?_
        refine ⟨_, rfl, c, dx, _, rfl, past0 sb, cf_no _ _ _ (by decide +kernel) (by decide +kernel) (by decide +kernel), _, rfl, c, dr, t, b, lo, hi, n, u, rfl, hk.same sb, fun H3 s3' => ⟨_, rfl, ?_⟩⟩
        have sc := sb.trans s3'
        refine ite2 (fun e2 => ?_) (fun e2 => ?_)
        · have z2 := of_decide_eq_true e2
          refine ⟨_, rfl, c', dx', _, rfl, past1 sc, cf_no _ _ _ (by decide +kernel) (by decide +kernel) (by decide +kernel), _, rfl, c', dr', t', b', lo', hi', n', u, rfl, hk'.same sc, fun H4 s4' => ⟨_, rfl, iteDF (by omega) ?_⟩⟩
          exact rest (sc.trans s4') ((s2'.trans (s3'.trans s4')) _ _ hpl)
        · refine iteF ?_
          exact rest sc ((s2'.trans s3') _ _ hpl)
    · rintro σ H1 ⟨⟨sa, _⟩, v, rfl⟩
      exact q H1 sa

theorem ok_law {P : Program} {w : World} {K : PySem.W.Frag} {mg : Str → Option Value} {base : Heap} {a : Nat → Addr} {d : Nat → FuncData} (T : Txt K mg a d) : FnOk P w K mg base CX0 8 (a 21) (d 21) ["_law_script"] (spLaw K) := by
  refine T.F_law.ok sc_law (fun vs H Q E h => ?_) (fun cdv A outer s0 H vs Q E hr h => ?_)
  · obtain ⟨l, ns, rfl, hS, hl, q⟩ := h
    rfl
  · obtain ⟨l, ns, rfl, hS, hl, q⟩ := h
    refine ⟨_, (pss_cons (ps_for PassesOwn.never rfl (pi_range1 (by rfl) T.z_range (pa_cons (pe_callB (call_max2 rfl) (by rfl) T.z_max (by decide +kernel) (pa_cons pe_int (pa_cons (pe_callB (call_min2 rfl) (by rfl) T.z_min (by decide +kernel) (pa_cons (pe_callB call_len_seq (by rfl) T.z_len PySem.boot_len (pa_cons (pv 0) pa_nil)) (pa_cons pe_int pa_nil))) pa_nil))) pa_nil)) (pg_name (i := 1) sc_law.nd rfl (.inl rfl)) (pss_cons (ps_set (i := 2) sc_law.nd rfl (Or.inl rfl) (pe_call (ok_l_bag T) (hr.mono (by decide)) (by rfl) T.g_l_bag T.F_l_bag.kp T.b_l_bag .nil pass0 (pa_cons (pv 0) (pa_cons (pv 1) pa_nil)))) (pss_cons (ps_set (i := 3) sc_law.nd rfl (Or.inl rfl) (pe_lst (pa_cons (pe_call (ok_l_drift T) (hr.mono (by decide)) (by rfl) T.g_l_drift T.F_l_drift.kp T.b_l_drift .nil pass0 (pa_cons (pv 2) pa_nil)) (pa_cons (pe_call (ok_l_drift T) (hr.mono (by decide)) (by rfl) T.g_l_drift T.F_l_drift.kp T.b_l_drift .nil pass0 (pa_cons (pv 2) pa_nil)) pa_nil)))) (pss_cons (ps_set (i := 4) sc_law.nd rfl (Or.inl rfl) (pe_lst (pa_cons (pe_make T.m_Clock___init__ (ok_Clock___init__ T) (hr.mono (by decide)) (by rfl) T.g_Clock T.b_Clock___init__ .nil pass0 (pa_cons (pe_ix ix_list (pv 3) pe_int (fun _ _ => rfl)) pa_nil)) (pa_cons (pe_make T.m_Clock___init__ (ok_Clock___init__ T) (hr.mono (by decide)) (by rfl) T.g_Clock T.b_Clock___init__ .nil pass0 (pa_cons (pe_ix ix_list (pv 3) pe_int (fun _ _ => rfl)) pa_nil)) pa_nil)))) (pss_cons (ps_set (i := 5) sc_law.nd rfl (Or.inl rfl) (pe_call (ok_l_out T) (hr.mono (by decide)) (by rfl) T.g_l_out T.F_l_out.kp T.b_l_out .nil pass0 (pa_cons (pv 2) (pa_cons pe_int pa_nil)))) (pss_cons (ps_for PassesOwn.never rfl (pi_list (pv 4)) (pg_name (i := 6) sc_law.nd rfl (.inl rfl)) (pss_one (ps_expr (pe_meth (pv 6) T.cl T.m_Clock_set_to (ok_Clock_set_to T) (hr.mono (by decide)) T.b_Clock_set_to .nil pass0 (pa_cons (pe_op op_sub (pv 5) (pe_call (ok_l_out T) (hr.mono (by decide)) (by rfl) T.g_l_out T.F_l_out.kp T.b_l_out .nil pass0 (pa_cons (pv 2) (pa_cons pe_int pa_nil)))) (pa_cons (pe_op op_add (pv 5) (pe_call (ok_l_out T) (hr.mono (by decide)) (by rfl) T.g_l_out T.F_l_out.kp T.b_l_out .nil pass0 (pa_cons (pv 2) (pa_cons pe_int pa_nil)))) pa_nil)))))) (pss_cons (ps_set (i := 7) sc_law.nd rfl (Or.inl rfl) (pe_lst (pa_cons (pe_lst (pa_cons pe_int pa_nil)) (pa_cons (pe_lst (pa_cons pe_int pa_nil)) pa_nil)))) (pss_one (ps_for PassesOwn.never rfl (pi_range1 (by rfl) T.z_range (pa_cons (pe_op op_add pe_int (pe_call (ok_l_out T) (hr.mono (by decide)) (by rfl) T.g_l_out T.F_l_out.kp T.b_l_out .nil pass0 (pa_cons (pv 2) (pa_cons pe_int pa_nil)))) pa_nil)) (pg_name (i := 8) sc_law.nd rfl (.inl rfl)) (pss_cons (ps_set (i := 9) sc_law.nd rfl (Or.inl rfl) (pe_op op_add pe_int (pe_call (ok_l_out T) (hr.mono (by decide)) (by rfl) T.g_l_out T.F_l_out.kp T.b_l_out .nil pass0 (pa_cons (pv 2) (pa_cons pe_int pa_nil))))) (pss_cons (ps_set (i := 5) sc_law.nd rfl (Or.inl rfl) (pe_op op_add (pv 5) (pv 9))) (pss_cons (ps_for PassesOwn.never rfl (pi_range1 (by rfl) T.z_range (pa_cons pe_int pa_nil)) (pg_name (i := 10) sc_law.nd rfl (.inl rfl)) (pss_one (ps_expr (pe_call (ok_l_gone T) (hr.mono (by decide)) (by rfl) T.g_l_gone T.F_l_gone.kp T.b_l_gone .nil pass0 (pa_cons (pv 2) (pa_cons (pe_ix ix_list (pv 4) (pv 10) (fun _ _ => rfl)) (pa_cons (pe_ix ix_list (pv 3) (pv 10) (fun _ _ => rfl)) (pa_cons (pe_ix ix_list (pv 7) (pv 10) (fun _ _ => rfl)) (pa_cons (pv 9) pa_nil))))))))) (pss_cons (ps_if (pt_not (pt_truth (pe_call (ok_l_right T) (hr.mono (by decide)) (by rfl) T.g_l_right T.F_l_right.kp T.b_l_right .nil pass0 (pa_cons (pe_ix ix_list (pv 4) pe_int (fun _ _ => rfl)) (pa_cons (pe_ix ix_list (pv 4) pe_int (fun _ _ => rfl)) (pa_cons (pv 5) pa_nil)))) (by intro _; rfl))) (pss_one (ps_ret pe_bl)) pss_nil) (pss_one (ps_if (pt_cmpR op_eq (pe_call (ok_l_out T) (hr.mono (by decide)) (by rfl) T.g_l_out T.F_l_out.kp T.b_l_out .nil pass0 (pa_cons (pv 2) (pa_cons pe_int pa_nil))) pe_int (nomark _)) (pss_cons (ps_set (i := 10) sc_law.nd rfl (Or.inl rfl) (pe_call (ok_l_out T) (hr.mono (by decide)) (by rfl) T.g_l_out T.F_l_out.kp T.b_l_out .nil pass0 (pa_cons (pv 2) (pa_cons pe_int pa_nil)))) (pss_cons (ps_set (i := 11) sc_law.nd rfl (Or.inl rfl) (pe_meth0 (pe_ix ix_list (pv 4) (pv 10) (fun _ _ => rfl)) T.cl T.m_Clock_bounds (ok_Clock_bounds T) (hr.mono (by decide)) T.b_Clock_bounds .nil pass0)) (pss_cons (ps_asg (pe_meth0 (pe_ix ix_list (pv 4) (pe_op op_sub pe_int (pv 10)) (fun _ _ => rfl)) T.cl T.m_Clock_bounds (ok_Clock_bounds T) (hr.mono (by decide)) T.b_Clock_bounds .nil pass0) (pg_tup (by rfl) (pgs_cons (pg_name (i := 12) sc_law.nd rfl (.inl rfl)) (pgs_cons (pg_name (i := 13) sc_law.nd rfl (.inl rfl)) pgs_nil)))) (pss_cons (ps_expr (pe_meth (pe_ix ix_list (pv 4) (pv 10) (fun _ _ => rfl)) T.cl T.m_Clock_set_to (ok_Clock_set_to T) (hr.mono (by decide)) T.b_Clock_set_to .nil pass0 (pa_cons (pv 12) (pa_cons (pv 13) pa_nil)))) (pss_cons (ps_asg (pe_lst (pa_cons pe_int pa_nil)) (pg_sub (pv 7) (pv 10) set_list)) (pss_cons (ps_asg (pe_ix ix_list (pv 3) (pv 10) (fun _ _ => rfl)) (pg_tup (by rfl) (pgs_cons (pg_name (i := 14) sc_law.nd rfl (.inl rfl)) (pgs_cons (pg_name (i := 15) sc_law.nd rfl (.inl rfl)) pgs_nil)))) (pss_cons (ps_set (i := 16) sc_law.nd rfl (Or.inl rfl) (pe_op op_fdivW (pe_op op_sub (pv 15) pe_int) (pe_op op_sub (pv 15) (pv 14)))) (pss_one (ps_if (pt_cmpR (op_neD hr.units) (pe_meth0 (pe_ix ix_list (pv 4) (pv 10) (fun _ _ => rfl)) T.cl T.m_Clock_bounds (ok_Clock_bounds T) (hr.mono (by decide)) T.b_Clock_bounds .nil pass0) (pe_tup (pa_cons (pe_callB (call_max2 rfl) (by rfl) T.z_max (by decide +kernel) (pa_cons (pe_ix ix_tup (pv 11) pe_int (fun _ _ => rfl)) (pa_cons (pv 12) pa_nil))) (pa_cons (pe_op op_add (pe_callB (call_min2 rfl) (by rfl) T.z_min (by decide +kernel) (pa_cons (pe_ix ix_tup (pv 11) pe_int (fun _ _ => rfl)) (pa_cons (pv 13) pa_nil))) (pv 16)) pa_nil))) (nomark _)) (pss_one (ps_ret pe_bl)) pss_nil))))))))) pss_nil))))))))))))))) (pss_one (ps_ret pe_bl))), ?_⟩
    refine ⟨_, rfl, l, _, rfl, .inl hS, _, 10, rfl, 1, _, rfl, _, rfl, ?_, ?_, ?_⟩
    · rw [List.length_map]; (repeat' split) <;> omega
    · rw [List.length_map]; (repeat' split) <;> omega
    have hN : (if (if (10 : Int) < ((ns.map V.int).length : Int) then (10 : Int) else ((ns.map V.int).length : Int)) > 1 then (if (10 : Int) < ((ns.map V.int).length : Int) then (10 : Int) else ((ns.map V.int).length : Int)) else (1 : Int)).toNat ≤ 63 := by
      rw [List.length_map]; (repeat' split) <;> omega
    refine for_range (fun i σ H' => Same H H' ∧ ∃ v1 v2 v3 v4 v5 v6 v7 v8 v9 v10 v11 v12 v13 v14 v15 v16 : Option V, σ = [some (.ref l), v1, v2, v3, v4, v5, v6, v7, v8, v9, v10, v11, v12, v13, v14, v15, v16]) ⟨Same.refl H, none, none, none, none, none, none, none, none, none, none, none, none, none, none, none, none, rfl⟩ ?_ ?_
    · rintro i σ H1 hi ⟨s1, v1, v2, v3, v4, v5, v6, v7, v8, v9, v10, v11, v12, v13, v14, v15, v16, rfl⟩
      refine ⟨_, rfl, _, rfl, l, ns, _, rfl, s1.seq hS, by omega, by omega, fun s H2 ns0 s2 bs2 => ?_⟩
      have sH2 : Same H H2 := s1.trans s2
      have hs0 : H s = none := s1.free ns0
      -- two drifts
      refine ⟨_, rfl, s, rfl, bs2, fun t0 b0 d0 H3 k3 b3 hd0 ed0 => ?_⟩
      have sH3 : Same H H3 := k3.over sH2 hs0
      refine ⟨_, rfl, s, rfl, b3, fun t1 b1 d1 H4 k4 b4 hd1 ed1 => ?_⟩
      have sH4 : Same H H4 := k4.over sH3 hs0
      have hd0' := hd0.bag k4 b3
      refine ⟨len2, fun dl ndl => ?_⟩
      have sdl : ∀ o, Same H4 (upd H4 dl o) := fun _ => same_new (Same.refl H4) ndl
      -- two clocks
      refine ⟨_, rfl, dl, _, 0, _, rfl, rfl, SqL.of upd_same, rfl, fun x0 dx0 nx0 ndx0 nex0 => ?_⟩
      have sm0 : Same _ (upd (upd (upd H4 dl (.lst [.ref d0, .ref d1])) dx0 (.own x0)) x0 (.ins (a 24) dx0 [])) := same_make nx0 ndx0
      have sA : Same H4 _ := (sdl (.lst [.ref d0, .ref d1])).trans sm0
      have hx0 : H x0 = none := (sH4.trans (sdl _)).free nx0
      refine ⟨x0, d0, dx0, t0, b0, rfl, upd_same, hd0'.same sA, fun H5 k5 hk5 => ⟨rfl, ?_⟩⟩
      have sH5 : Same H H5 := k5.over (sH4.trans sA) hx0
      have nedl0 : dl ≠ x0 := ne_of_none (upd_same (H := H4) (a := dl) (o := .lst [.ref d0, .ref d1])) nx0
      have hdl5 : H5 dl = some (.lst [.ref d0, .ref d1]) := k5 _ _ nedl0 (sm0 _ _ upd_same)
      have b5 : BagAt H5 s := (b4.same sA).fr k5 (b4.same (sdl (.lst [.ref d0, .ref d1])) |>.ne_none nx0)
      have hd15 : DrOk K H5 d1 t1 b1 := (hd1.same sA).fr k5 upd_same trivial
      refine ⟨_, rfl, dl, _, 1, _, rfl, rfl, SqL.of hdl5, rfl, fun x1 dx1 nx1 ndx1 nex1 => ?_⟩
      have sm1 : Same H5 (upd (upd H5 dx1 (.own x1)) x1 (.ins (a 24) dx1 [])) := same_make nx1 ndx1
      have hx1 : H x1 = none := sH5.free nx1
      obtain ⟨ox0, ex0, mx0⟩ := hk5.ex
      have nx01 : x0 ≠ x1 := ne_of_none ex0 nx1
      refine ⟨x1, d1, dx1, t1, b1, rfl, upd_same, hd15.same sm1, fun H6 k6 hk6 => ⟨rfl, ?_⟩⟩
      have sH6 : Same H H6 := k6.over (sH5.trans sm1) hx1
      have hdl6 : H6 dl = some (.lst [.ref d0, .ref d1]) := k6 _ _ (ne_of_none hdl5 nx1) (sm1 _ _ hdl5)
      have b6 : BagAt H6 s := (b5.same sm1).fr k6 (b5.ne_none nx1)
      have hk06 : CkAt K (a 24) H6 x0 d0 t0 b0 none 0 := (hk5.same sm1).fr k6 upd_same trivial nx01
      refine ⟨len2, fun cl ncl => ?_⟩
      have scl : ∀ o, Same H6 (upd H6 cl o) := fun _ => same_new (Same.refl H6) ncl
      have w1 : W0 K (a 24) H (upd H6 cl (.lst [.ref x0, .ref x1])) s dl cl (fun i => if i then x1 else x0) (fun i => if i then d1 else d0) (fun i => if i then t1 else t0) (fun i => if i then b1 else b0) (fun _ => none) (fun _ => 0) :=
        ⟨sH6.trans (scl _), b6.same (scl _), fun i => by cases i; exact hk06.same (scl _); exact hk6.same (scl _), nx01, (scl _) _ _ hdl6, upd_same, hs0, fun i => by cases i; exact hx0; exact hx1⟩
      have nlc : dl ≠ cl := ne_of_none hdl6 ncl
      generalize hX : (fun i : Bool => if i then x1 else x0) = x at w1
      generalize hD : (fun i : Bool => if i then d1 else d0) = d' at w1
      generalize hT : (fun i : Bool => if i then t1 else t0) = t at w1
      generalize hB : (fun i : Bool => if i then b1 else b0) = b at w1
      generalize (upd H6 cl (.lst [.ref x0, .ref x1])) = H7 at w1 ⊢
      -- time
      refine ⟨_, rfl, s, 50, rfl, w1.bag, (by decide), (by decide), fun T0 H8 _ _ k8 b8 => ?_⟩
      have w2 := w1.ofBag k8 b8
      -- both are set
      refine ⟨_, rfl, cl, rfl, ⟨_, SqL.of w2.hcl⟩, for_list (K := K) (a := cl) (xs := [.ref (x false), .ref (x true)]) (fun j σ H' => ∃ (st : Bool → Option (Int × Int)) (v6 : Option V), σ = [some (.ref l), some (.int (0 + (i : Int))), some (.ref s), some (.ref dl), some (.ref cl), some (.int T0), v6, v7, v8, v9, v10, v11, v12, v13, v14, v15, v16] ∧ W0 K (a 24) H H' s dl cl x d' t b st (fun _ => 0) ∧
          (∀ e : Bool, ((if e then 1 else 0 : Nat) < j → ∃ lo hi, st e = some (lo, hi) ∧ lo ≤ T0 ∧ T0 ≤ hi) ∧ (¬ ((if e then 1 else 0 : Nat) < j) → st e = none)))
        ⟨fun _ => none, v6, rfl, w2, fun e => ⟨fun z => absurd z (Nat.not_lt_zero _), fun _ => rfl⟩⟩ (fun j σ H' _ ⟨_, _, _, w, _⟩ => SqL.of w.hcl) ?_ ?_⟩
      · rintro j y σ Ha hj ⟨st, v6, rfl, w, hst⟩
        obtain ⟨e, rfl, rfl⟩ : ∃ e : Bool, j = (if e then 1 else 0 : Nat) ∧ y = V.ref (x e) := by
          match j, hj with
          | 0, hj => exact ⟨false, rfl, (Option.some.inj hj).symm⟩
          | 1, hj => exact ⟨true, rfl, (Option.some.inj hj).symm⟩
          | n + 2, hj => simp at hj
        obtain ⟨dx, sv, hc, _⟩ := (w.c e).at_
        have sn : st e = none := (hst e).2 (Nat.lt_irrefl _)
        refine ⟨_, rfl, x e, dx, _, rfl, hc, cf_no _ _ _ (by decide +kernel) (by decide +kernel) (by decide +kernel), _, rfl, _, rfl, s, 5, rfl, w.bag, (by decide), (by decide), fun r1 Hb r10 r11 kb bb => ?_⟩
        have wb := w.ofBag kb bb
        refine ⟨T0, r1, rfl, rfl, _, rfl, _, rfl, s, 5, rfl, bb, (by decide), (by decide), fun r2 Hc r20 r21 kc bc => ?_⟩
        have wc := wb.ofBag kc bc
        have ce := wc.c e
        rw [sn] at ce
        refine ⟨T0, r2, rfl, rfl, x e, d' e, t e, b e, none, 0, T0 - r1, T0 + r2, rfl, ce, by omega, (by show T0 - r1 ≤ T0 + r2; omega), fun Hd kd hkd => ?_⟩
        have wd := wc.ofCk kd hkd
        have en : upB (fun _ => (0 : Int)) e 0 = fun _ => 0 := by funext z; unfold upB; split <;> rfl
        rw [en] at wd
        refine ⟨_, _, rfl, wd, fun e' => ?_⟩
        by_cases ee : e' = e
        · subst ee
          refine ⟨fun _ => ⟨T0 - r1, T0 + r2, upB_same _ _ _, by omega, by omega⟩, fun z => absurd (Nat.lt_succ_self _) z⟩
        · rw [upB_ne _ _ ee]
          refine ⟨fun z => (hst e').1 ?_, fun z => (hst e').2 fun y => z (Nat.lt_succ_of_lt y)⟩
          cases e <;> cases e' <;> first | exact absurd rfl ee | (simp at z ⊢)
      rintro σ Ha ⟨st, v6, rfl, w, hst⟩
      have hst0 : ∀ e : Bool, ∃ lo hi, st e = some (lo, hi) ∧ lo ≤ T0 ∧ T0 ≤ hi := fun e => (hst e).1 (by cases e; exact (by decide : 0 < 2); exact (by decide : 1 < 2))
      -- states
      refine ⟨len1, fun m0 nm0 => ⟨len1, fun m1 nm1 => ⟨len2, fun sl nsl => ?_⟩⟩⟩
      have sa0 : ∀ o, Same Ha (upd Ha m0 o) := fun _ => same_new (Same.refl Ha) nm0
      have sa1 : ∀ o, Same (upd Ha m0 (.lst [.int 0])) (upd (upd Ha m0 (.lst [.int 0])) m1 o) := fun _ => same_new (Same.refl _) nm1
      have sa2 : ∀ o, Same (upd (upd Ha m0 (.lst [.int 0])) m1 (.lst [.int 0])) (upd (upd (upd Ha m0 (.lst [.int 0])) m1 (.lst [.int 0])) sl o) := fun _ => same_new (Same.refl _) nsl
      have w3 := w.ofSame (((sa0 _).trans (sa1 _)).trans (sa2 (.lst [.ref m0, .ref m1])))
      have f0 : H m0 = none := w.sm.free nm0
      have f1 : H m1 = none := (w.sm.trans (sa0 _)).free nm1
      have f2 : H sl = none := ((w.sm.trans (sa0 _)).trans (sa1 _)).free nsl
      have hne01 : m0 ≠ m1 := ne_of_none (upd_same (H := Ha) (a := m0) (o := .lst [.int 0])) nm1
      have ss : Ss H (upd (upd (upd Ha m0 (.lst [.int 0])) m1 (.lst [.int 0])) sl (.lst [.ref m0, .ref m1])) sl dl cl (fun i => if i then m1 else m0) (fun _ => 0) :=
        ⟨upd_same, fun i => by cases i; exact (sa2 _) _ _ ((sa1 _) _ _ upd_same); exact (sa2 _) _ _ upd_same, hne01, (ne_of_none ((sa1 _) _ _ ((sa0 _) _ _ w.hdl)) nsl).symm, (ne_of_none ((sa1 _) _ _ ((sa0 _) _ _ w.hcl)) nsl).symm, f2, fun i => by cases i; exact f0; exact f1⟩
      generalize (fun i : Bool => if i then m1 else m0) = m at ss
      generalize (upd (upd (upd Ha m0 (.lst [.int 0])) m1 (.lst [.int 0])) sl (.lst [.ref m0, .ref m1])) = H9 at w3 ss ⊢
      have db : ∀ e : Bool, 0 ≤ t e ∧ t e < b e ∧ b e ≤ 1000 := fun e => ⟨(w.c e).dr_.2.1, (w.c e).dr_.2.2.1, (w.c e).dr_.2.2.2.1⟩
      refine ⟨_, rfl, s, 20, rfl, w3.bag, (by decide), (by decide), fun r3 Hb r30 r31 kb bb => ⟨1, r3, rfl, rfl, _, rfl, by omega, by omega, ?_⟩⟩
      refine for_range (fun j σ H' => ∃ (T1 : Int) (m : Bool → Addr) (st : Bool → Option (Int × Int)) (n made : Bool → Int) (v6 v8 v9 v10 v11 v12 v13 v14 v15 v16 : Option V), σ = [some (.ref l), some (.int (0 + (i : Int))), some (.ref s), some (.ref dl), some (.ref cl), some (.int T1), v6, some (.ref sl), v8, v9, v10, v11, v12, v13, v14, v15, v16] ∧ W0 K (a 24) H H' s dl cl x d' t b st n ∧ Ss H H' sl dl cl m made ∧ ∀ e, Trs t b st n (fun _ => T1) made e)
        ⟨T0, m, st, fun _ => 0, fun _ => 0, v6, v8, v9, v10, v11, v12, v13, v14, v15, v16, rfl, w3.ofBag kb bb, ss.ofBag w3.bag kb, fun e => by
          obtain ⟨lo, hi, e1, e2, e3⟩ := hst0 e
          exact ⟨lo, hi, e1, Tr.start e2 e3⟩⟩ ?_ ?_
      · rintro j σ Hc hj ⟨T1, m, st, n, made, v6, v8, v9, v10, v11, v12, v13, v14, v15, v16, rfl, wc, sc, tr⟩
        refine ⟨_, rfl, s, 30, rfl, wc.bag, (by decide), (by decide), fun kk Hd kk0 kk1 kd bd => ⟨1, kk, rfl, rfl, ?_⟩⟩
        have wd := wc.ofBag kd bd
        have sd := sc.ofBag wc.bag kd
        refine ⟨_, rfl, _, rfl, T1, 1 + kk, rfl, rfl, ?_⟩
        -- each clock goes on
        refine ⟨2, rfl, by decide, by decide, for_range (n := 2) (fun j' σ H' => ∃ (n made : Bool → Int) (v10 : Option V), σ = [some (.ref l), some (.int (0 + (i : Int))), some (.ref s), some (.ref dl), some (.ref cl), some (.int (T1 + (1 + kk))), v6, some (.ref sl), some (.int (0 + (j : Int))), some (.int (1 + kk)), v10, v11, v12, v13, v14, v15, v16] ∧ W0 K (a 24) H H' s dl cl x d' t b st n ∧ Ss H H' sl dl cl m made ∧ ∀ e, Trs t b st n (fun e => if (if e then 1 else 0 : Nat) < j' then T1 + (1 + kk) else T1) made e)
          ⟨n, made, v10, rfl, wd, sd, tr⟩ ?_ ?_⟩
        · rintro j' σ He hj' ⟨n, made, v10, rfl, we, se, te⟩
          obtain ⟨e, ej, ei⟩ : ∃ e : Bool, j' = (if e then 1 else 0 : Nat) ∧ (0 : Int) + (j' : Int) = ix e := by
            match j', hj' with
            | 0, _ => exact ⟨false, rfl, rfl⟩
            | 1, _ => exact ⟨true, rfl, rfl⟩
          rw [ei]
          obtain ⟨lo, hi, es, tre⟩ := te e
          have ce := we.c e
          rw [es] at ce
          have tre' : Tr (t e) (b e) lo hi (n e) T1 (made e) := by
            have z : (fun e' : Bool => if (if e' then 1 else 0 : Nat) < j' then T1 + (1 + kk) else T1) e = T1 := if_neg (by rw [ej]; exact Nat.lt_irrefl _)
            rw [← z]
            exact tre
          refine ⟨_, rfl, _, rfl, _, rfl, cl, _, _, _, rfl, rfl, SqL.of we.hcl, at_ix (fun i => V.ref (x i)) e, ?_⟩
          refine ⟨_, rfl, _, rfl, dl, _, _, _, rfl, rfl, SqL.of we.hdl, at_ix (fun i => V.ref (d' i)) e, ?_⟩
          refine ⟨_, rfl, _, rfl, sl, _, _, _, rfl, rfl, SqL.of se.hsl, at_ix (fun i => V.ref (m i)) e, ?_⟩
          refine ⟨_, rfl, s, x e, d' e, m e, 1 + kk, t e, b e, lo, hi, n e, T1, made e, rfl, we.bag, ce, se.hm e, tre', by omega, by omega, fun Hf Hg Hh n' made' kf bf kg eg kh hkh trn => ?_⟩
          have wf := we.ofBag kf bf
          have sf := se.ofBag we.bag kf
          have wg := wf.ofM (sf.hm e) (sf.fm e) kg
          have sg := sf.ofM kg eg
          have wh := wg.ofCk kh hkh
          have sh := sg.ofCk (wg.c e) kh
          have est : upB st e (some (lo, hi)) = st := by
            funext z
            unfold upB
            split
            · next q => rw [q, es]
            · rfl
          rw [est] at wh
          refine ⟨upB n e n', upB made e made', _, rfl, wh, sh, fun e' => ?_⟩
          by_cases ee : e' = e
          · subst ee
            refine ⟨lo, hi, es, ?_⟩
            rw [upB_same, upB_same]
            have z : (fun e'' : Bool => if (if e'' then 1 else 0 : Nat) < j' + 1 then T1 + (1 + kk) else T1) e' = T1 + (1 + kk) := if_pos (by rw [ej]; exact Nat.lt_succ_self _)
            rw [z]
            exact trn
          · obtain ⟨lo', hi', es', tr'⟩ := te e'
            refine ⟨lo', hi', es', ?_⟩
            rw [upB_ne _ _ ee, upB_ne _ _ ee]
            have z : (fun e'' : Bool => if (if e'' then 1 else 0 : Nat) < j' + 1 then T1 + (1 + kk) else T1) e' = (fun e'' : Bool => if (if e'' then 1 else 0 : Nat) < j' then T1 + (1 + kk) else T1) e' := by
              rw [ej]
              cases e <;> cases e' <;> first | exact absurd rfl ee | rfl
            rw [z]
            exact tr'
        rintro σ He ⟨n, made, v10, rfl, we, se, te⟩
        have te' : ∀ e, ∃ lo hi, st e = some (lo, hi) ∧ Tr (t e) (b e) lo hi (n e) (T1 + (1 + kk)) (made e) := fun e => by
          obtain ⟨lo, hi, e1, e2⟩ := te e
          refine ⟨lo, hi, e1, ?_⟩
          cases e <;> exact e2
        generalize hT2 : T1 + (1 + kk) = T2 at te' ⊢
        obtain ⟨lo0, hi0, es0, tr0⟩ := te' false
        obtain ⟨lo1, hi1, es1, tr1⟩ := te' true
        have c0 := we.c false
        have c1 := we.c true
        rw [es0] at c0
        rw [es1] at c1
        have q0 := tr0.low (db false).1 (db false).2.1
        have q1 := tr0.high (db false).1 (db false).2.1
        have q2 := tr1.low (db true).1 (db true).2.1
        have q3 := tr1.high (db true).1 (db true).2.1
        refine ⟨_, rfl, cl, _, 0, _, rfl, rfl, SqL.of we.hcl, rfl, _, rfl, cl, _, 1, _, rfl, rfl, SqL.of we.hcl, rfl, _, rfl, x false, x true, d' false, d' true, t false, b false, lo0, hi0, n false, t true, b true, lo1, hi1, n true, T2, rfl, c0, c1, q0, q1, q2, q3, fun Hf sf => ⟨true, rfl, iteF ?_⟩⟩
        have wf := we.ofSame sf
        have ssf := se.ofSame sf
        refine ⟨_, rfl, s, 4, rfl, wf.bag, (by decide), (by decide), fun r4 Hg _ _ kg bg => ⟨rfl, _, rfl, ite2 (fun _ => ?_) (fun _ => ?_)⟩⟩
        · have wg := wf.ofBag kg bg
          have ssg := ssf.ofBag wf.bag kg
          refine ⟨_, rfl, s, 2, rfl, wg.bag, (by decide), (by decide), fun r5 Hh r50 r51 kh bh => ?_⟩
          have wh := wg.ofBag kh bh
          have ssh := ssg.ofBag wg.bag kh
          obtain ⟨e, ee, ene⟩ : ∃ e : Bool, r5 = ix e ∧ (1 : Int) - r5 = ix (!e) := by
            have : r5 = 0 ∨ r5 = 1 := by omega
            rcases this with rfl | rfl
            · exact ⟨false, rfl, rfl⟩
            · exact ⟨true, rfl, rfl⟩
          subst ee
          obtain ⟨lo, hi, es, tre⟩ := te' e
          obtain ⟨lo', hi', es', tre'⟩ := te' (!e)
          have ce := wh.c e
          have ce' := wh.c (!e)
          rw [es] at ce
          rw [es'] at ce'
          obtain ⟨dx, sv, hc, _⟩ := ce.at_
          obtain ⟨dx', sv', hc', _⟩ := ce'.at_
          have a0 := tre.low (db e).1 (db e).2.1
          have a1 := tre.high (db e).1 (db e).2.1
          have a2 := tre'.low (db (!e)).1 (db (!e)).2.1
          have a3 := tre'.high (db (!e)).1 (db (!e)).2.1
          refine ⟨_, rfl, _, rfl, cl, _, _, _, rfl, rfl, SqL.of wh.hcl, at_ix (fun i => V.ref (x i)) e, x e, dx, _, rfl, hc, cf_no _ _ _ (by decide +kernel) (by decide +kernel) (by decide +kernel), x e, d' e, t e, b e, lo, hi, n e, rfl, ce, fun p1 np1 => ?_⟩
          have sp1 : ∀ o, Same Hh (upd Hh p1 o) := fun _ => same_new (Same.refl Hh) np1
          have wi := wh.ofSame (sp1 (.tup [.int (lo + leastP (n e) (t e) (b e)), .int (hi + mostP (n e) (t e) (b e))]))
          have ssi := ssh.ofSame (sp1 (.tup [.int (lo + leastP (n e) (t e) (b e)), .int (hi + mostP (n e) (t e) (b e))]))
          have hp1 : (upd Hh p1 (.tup [.int (lo + leastP (n e) (t e) (b e)), .int (hi + mostP (n e) (t e) (b e))])) p1 = some (.tup [.int (lo + leastP (n e) (t e) (b e)), .int (hi + mostP (n e) (t e) (b e))]) := upd_same
          have hci := (sp1 (.tup [.int (lo + leastP (n e) (t e) (b e)), .int (hi + mostP (n e) (t e) (b e))])) _ _ hc'
          generalize (upd Hh p1 (.tup [.int (lo + leastP (n e) (t e) (b e)), .int (hi + mostP (n e) (t e) (b e))])) = Hi at wi ssi hp1 hci ⊢
          have cie' := wi.c (!e)
          rw [es'] at cie'
          refine ⟨_, rfl, _, rfl, 1, _, rfl, rfl, cl, _, _, _, rfl, rfl, SqL.of wi.hcl, (by rw [ene]; exact at_ix (fun i => V.ref (x i)) (!e)), x (!e), dx', _, rfl, hci, cf_no _ _ _ (by decide +kernel) (by decide +kernel) (by decide +kernel), x (!e), d' (!e), t (!e), b (!e), lo', hi', n (!e), rfl, cie', fun p2 np2 => ⟨p2, _, rfl, SqT.of upd_same, rfl, _, _, rfl, _, _, rfl, rfl, ?_⟩⟩
          have sp2 : ∀ o, Same Hi (upd Hi p2 o) := fun _ => same_new (Same.refl Hi) np2
          have wj := wi.ofSame (sp2 (.tup [.int (lo' + leastP (n (!e)) (t (!e)) (b (!e))), .int (hi' + mostP (n (!e)) (t (!e)) (b (!e)))]))
          have ssj := ssi.ofSame (sp2 (.tup [.int (lo' + leastP (n (!e)) (t (!e)) (b (!e))), .int (hi' + mostP (n (!e)) (t (!e)) (b (!e)))]))
          have hp1j := (sp2 (.tup [.int (lo' + leastP (n (!e)) (t (!e)) (b (!e))), .int (hi' + mostP (n (!e)) (t (!e)) (b (!e)))])) _ _ hp1
          generalize (upd Hi p2 (.tup [.int (lo' + leastP (n (!e)) (t (!e)) (b (!e))), .int (hi' + mostP (n (!e)) (t (!e)) (b (!e)))])) = Hj at wj ssj hp1j ⊢
          generalize eL : lo' + leastP (n (!e)) (t (!e)) (b (!e)) = low at a2 ⊢
          generalize eH : hi' + mostP (n (!e)) (t (!e)) (b (!e)) = high at a3 ⊢
          have cj := wj.c e
          rw [es] at cj
          obtain ⟨dxj, svj, hcj, _⟩ := cj.at_
          have L1 : setLow low (some (lo, hi)) (t e) (b e) (n e) ≤ T2 ∧ (if low > lo + leastP (n e) (t e) (b e) then low else lo + leastP (n e) (t e) (b e)) = setLow low (some (lo, hi)) (t e) (b e) (n e) := by
            unfold setLow
            dsimp only
            constructor <;> (repeat' split) <;> omega
          have L2 : T2 ≤ setHigh high (some (lo, hi)) (t e) (b e) (n e) ∧ (if high < hi + mostP (n e) (t e) (b e) then high else hi + mostP (n e) (t e) (b e)) = setHigh high (some (lo, hi)) (t e) (b e) (n e) := by
            unfold setHigh
            dsimp only
            constructor <;> (repeat' split) <;> omega
          refine ⟨_, rfl, _, rfl, cl, _, _, _, rfl, rfl, SqL.of wj.hcl, at_ix (fun i => V.ref (x i)) e, x e, dxj, _, rfl, hcj, cf_no _ _ _ (by decide +kernel) (by decide +kernel) (by decide +kernel), _, rfl, _, rfl, x e, d' e, t e, b e, _, n e, low, high, rfl, cj, by omega, by omega, fun Hk kk' hkk => ?_⟩
          have wk := wj.ofCk kk' hkk
          have ssk := ssj.ofCk cj kk'
          have hp1k : Hk p1 = _ := kk'.tup hcj trivial hp1j
          generalize eSL : setLow low (some (lo, hi)) (t e) (b e) (n e) = sL at L1 wk hkk
          generalize eSH : setHigh high (some (lo, hi)) (t e) (b e) (n e) = sH at L2 wk hkk
          -- states[at] = [0]
          obtain ⟨jx, hjx, hset⟩ : ∃ jx, ixN 2 (ix e) = some jx ∧ ∀ p, [V.ref (m false), V.ref (m true)].set jx (.ref p) = [V.ref (upB m e p false), V.ref (upB m e p true)] := by
            cases e
            · exact ⟨0, rfl, fun _ => rfl⟩
            · exact ⟨1, rfl, fun _ => rfl⟩
          refine ⟨len1, fun p3 np3 => ?_⟩
          have sp3 : ∀ o, Same Hk (upd Hk p3 o) := fun _ => same_new (Same.refl Hk) np3
          have wl := wk.ofSame (sp3 (.lst [.int 0]))
          have ssl := ssk.ofSame (sp3 (.lst [.int 0]))
          refine ⟨_, rfl, _, rfl, sl, _, _, jx, rfl, rfl, ssl.hsl, hjx, ?_⟩
          rw [hset]
          have fp3 : H p3 = none := wk.sm.free np3
          have wm := wl.ofSl (o := .lst [.ref (upB m e p3 false), .ref (upB m e p3 true)]) ssl.hsl ssl.nsd ssl.nsc ssl.fsl
          have ssm := ssl.ofSet (i := e) (p := p3) (v := 0) upd_same fp3 (fun j' => (ne_of_none (ssk.hm j') np3).symm)
          have hp1m : (upd (upd Hk p3 (.lst [.int 0])) sl (.lst [.ref (upB m e p3 false), .ref (upB m e p3 true)])) p1 = some (.tup [.int (lo + leastP (n e) (t e) (b e)), .int (hi + mostP (n e) (t e) (b e))]) := by
            rw [upd_ne (ne_of hp1k ssk.hsl (by intro z; cases z)), upd_ne (ne_of_none hp1k np3)]
            exact hp1k
          generalize (upd (upd Hk p3 (.lst [.int 0])) sl (.lst [.ref (upB m e p3 false), .ref (upB m e p3 true)])) = Hm at wm ssm hp1m ⊢
          have cm := wm.c e
          rw [upB_same, upB_same] at cm
          obtain ⟨dxm, svm, hcm, _⟩ := cm.at_
          obtain ⟨dS, _⟩ := id cm.dr_
          have dbe := db e
          refine ⟨_, rfl, _, rfl, dl, _, _, _, rfl, rfl, SqL.of wm.hdl, at_ix (fun i => V.ref (d' i)) e, d' e, _, rfl, dS, rfl, _, _, rfl, _, _, rfl, rfl, ?_⟩
          refine ⟨_, rfl, b e, 1, rfl, rfl, _, rfl, _, rfl, b e, t e, rfl, rfl, _, _, rfl, rfl, divW (by omega) (by omega), ?_⟩
          refine ⟨_, rfl, _, rfl, cl, _, _, _, rfl, rfl, SqL.of wm.hcl, at_ix (fun i => V.ref (x i)) e, x e, dxm, _, rfl, hcm, cf_no _ _ _ (by decide +kernel) (by decide +kernel) (by decide +kernel), x e, d' e, t e, b e, sL, sH, 0, rfl, cm, fun p4 np4 => ?_⟩
          have sp4 : ∀ o, Same Hm (upd Hm p4 o) := fun _ => same_new (Same.refl Hm) np4
          refine ⟨_, rfl, p1, _, 0, _, rfl, rfl, SqT.of ((sp4 _) _ _ hp1m), rfl, _, rfl, _, _, rfl, ?_⟩
          refine ⟨_, rfl, p1, _, 1, _, rfl, rfl, SqT.of ((sp4 _) _ _ hp1m), rfl, _, rfl, _, _, rfl, _, rfl, _, _, rfl, rfl, len2, fun p5 np5 => ?_⟩
          have sp5 : ∀ o, Same (upd Hm p4 (.tup [.int (sL + leastP 0 (t e) (b e)), .int (sH + mostP 0 (t e) (b e))])) (upd (upd Hm p4 (.tup [.int (sL + leastP 0 (t e) (b e)), .int (sH + mostP 0 (t e) (b e))])) p5 o) := fun _ => same_new (Same.refl _) np5
          refine ⟨_, _, .tup (SqT.of ((sp5 _) _ _ upd_same)) (.cons (.int _) (.cons (.int _) .nil)), .tup (SqT.of upd_same) (.cons (.int _) (.cons (.int _) .nil)), rfl, rfl, _, rfl, ?_⟩
          have lz := least_zero (t := t e) (b := b e) dbe.1 dbe.2.1
          refine iteBF ?_ ?_
          · rw [eqv_two]
            · rfl
            · rw [L1.2, lz]; omega
            · rw [L2.2]
              unfold mostP
              rw [show (0 + 1) * b e - 1 = b e - 1 by omega]
          refine ⟨T2, upB m e p3, _, _, _, _, _, _, _, _, _, _, _, _, _, rfl, (wm.ofSame (sp4 _)).ofSame (sp5 _), (ssm.ofSame (sp4 _)).ofSame (sp5 _), fun e' => ?_⟩
          by_cases ee : e' = e
          · subst ee
            refine ⟨sL, sH, upB_same _ _ _, ?_⟩
            rw [upB_same, upB_same]
            exact Tr.start L1.1 L2.1
          · obtain ⟨lo2, hi2, es2, tr2⟩ := te' e'
            refine ⟨lo2, hi2, by rw [upB_ne _ _ ee]; exact es2, ?_⟩
            rw [upB_ne _ _ ee, upB_ne _ _ ee]
            exact tr2
        · exact ⟨T2, m, st, n, made, _, _, _, _, _, _, _, _, _, _, rfl, wf.ofBag kg bg, ssf.ofBag wf.bag kg, te'⟩
      · rintro σ Hc ⟨T1, m, st, n, made, v6, v8, v9, v10, v11, v12, v13, v14, v15, v16, rfl, wc, _⟩
        exact ⟨wc.sm, _, _, _, _, _, _, _, _, _, _, _, _, _, _, _, _, rfl⟩
    · rintro σ H1 ⟨s1, v1, v2, v3, v4, v5, v6, v7, v8, v9, v10, v11, v12, v13, v14, v15, v16, rfl⟩
      exact q _

theorem all_mk {l : PySem.W.OpenLaw} {w : World} {K : PySem.W.Frag} {h : Heap} {mg : Str → Option Value} {fa : Addr} {f0 f1 f2 f3 f4 f5 f6 f7 f8 f9 f10 f11 f12 f13 f14 f15 f16 f17 f18 f19 f20 f21 f22 f23 : Addr} (X : K.In h) (G : h.Ns mainGlobals mg) (hfa : mg "law" = some (.ref fa))
    {od0 od1 od2 od3 od4 od5 od6 od7 od8 od9 od10 od11 od12 od13 od14 od15 od16 od17 od18 od19 od20 od21 od22 od23 : Option Addr} {an0 an1 an2 an3 an4 an5 an6 an7 an8 an9 an10 an11 an12 an13 an14 an15 an16 an17 an18 an19 an20 an21 an22 an23 : Option Addr} {sl0 sl1 sl2 sl3 sl4 sl5 sl6 sl7 sl8 sl9 sl10 sl11 sl12 sl13 sl14 sl15 sl16 sl17 sl18 sl19 sl20 sl21 sl22 sl23 : Array (Option Value)} {oc0 kV0 dc0 pm0 cd0 ct0 oc1 kV1 dc1 pm1 cd1 ct1 oc2 kV2 dc2 pm2 cd2 ct2 oc3 kV3 dc3 pm3 cd3 ct3 oc4 kV4 dc4 pm4 cd4 ct4 oc5 kV5 dc5 pm5 cd5 ct5 oc6 kV6 dc6 pm6 cd6 ct6 oc7 kV7 dc7 pm7 cd7 ct7 oc8 kV8 dc8 pm8 cd8 ct8 oc9 kV9 dc9 pm9 cd9 ct9 oc10 kV10 dc10 pm10 cd10 ct10 oc11 kV11 dc11 pm11 cd11 ct11 oc12 kV12 dc12 pm12 cd12 ct12 oc13 kV13 dc13 pm13 cd13 ct13 oc14 kV14 dc14 pm14 cd14 ct14 oc15 kV15 dc15 pm15 cd15 ct15 oc16 kV16 dc16 pm16 cd16 ct16 oc17 kV17 dc17 pm17 cd17 ct17 oc18 kV18 dc18 pm18 cd18 ct18 oc19 kV19 dc19 pm19 cd19 ct19 oc20 kV20 dc20 pm20 cd20 ct20 oc21 kV21 dc21 pm21 cd21 ct21 oc22 kV22 dc22 pm22 cd22 ct22 oc23 kV23 dc23 pm23 cd23 ct23 : Value}
    {fC : Addr}
    {f25 : Addr} {od25 : Option Addr} {n25 : Nat} {sl25 : Array (Option Value)} {t25_0 t25_1 : Tok}
    {t26 : Tok}
    {f27 : Addr} {od27 : Option Addr} {n27 : Nat} {sl27 : Array (Option Value)} {t27_0 t27_1 : Tok}
    {T9 : Addr} {odT9 : Option Addr} {ocT9 : Value} {nT9 : Nat} {slT9 : Array (Option Value)} 
    {T12 : Addr} {odT12 : Option Addr} {ocT12 : Value} {nT12 : Nat} {slT12 : Array (Option Value)} {tT12_0 : Tok}
    (g25 : PySem.W.nsIn K mainGlobals "WHOLE" = some (some (.ref f25))) (l25 : K.lookup f25 = some ⟨.type "tuple", od25, .seq #[.int 1 t25_0, .int 1 t25_1] n25, sl25⟩)
    (g26 : PySem.W.nsIn K mainGlobals "MOST_BOTTOM" = some (some (.int 1000 t26)))
    (g27 : PySem.W.nsIn K mainGlobals "DRIFT" = some (some (.ref f27))) (l27 : K.lookup f27 = some ⟨.type "tuple", od27, .seq #[.int 1 t27_0, .int 100 t27_1] n27, sl27⟩)
    (aC : PySem.W.nsIn K mainGlobals "Clock" = some (some (.ref fC))) (pg : PySem.W.plainGet K fC Str.empty = true) (hd : PySem.W.hasDictIn K fC = true) (po : PySem.W.plainOver K fC = true) (sa : PySem.W.findIn K (.ref fC) "__setattr__" = some (some (.builtin "object.__setattr__"))) (mk : PySem.W.makesIn K fC = true) (kc : PySem.W.keepIn K (.ref fC) = true)
    (nf_most_drift : PySem.W.findIn K (.ref fC) "most_drift" = some none)
    (nf_stands : PySem.W.findIn K (.ref fC) "stands" = some none)
    (nf_counted : PySem.W.findIn K (.ref fC) "counted" = some none)
    (a0 : PySem.W.nsIn K mainGlobals "is_whole" = some (some (.ref f0)))
    (l0 : K.lookup f0 = some ⟨oc0, od0, .func (PySem.W.fnOf "is_whole" "is_whole" (defArgs s_is_whole) (defBody s_is_whole) (defScope s_is_whole) .none kV0 dc0 pm0 an0 cd0 ct0), sl0⟩) (c0 : PySem.W.codeIn K cd0 "is_whole" = true) (k0 : PySem.W.keepIn K (.ref f0) = true)
    (a1 : PySem.W.nsIn K mainGlobals "is_count" = some (some (.ref f1)))
    (l1 : K.lookup f1 = some ⟨oc1, od1, .func (PySem.W.fnOf "is_count" "is_count" (defArgs s_is_count) (defBody s_is_count) (defScope s_is_count) .none kV1 dc1 pm1 an1 cd1 ct1), sl1⟩) (c1 : PySem.W.codeIn K cd1 "is_count" = true) (k1 : PySem.W.keepIn K (.ref f1) = true)
    (a2 : PySem.W.nsIn K mainGlobals "is_from_to" = some (some (.ref f2)))
    (l2 : K.lookup f2 = some ⟨oc2, od2, .func (PySem.W.fnOf "is_from_to" "is_from_to" (defArgs s_is_from_to) (defBody s_is_from_to) (defScope s_is_from_to) .none kV2 dc2 pm2 an2 cd2 ct2), sl2⟩) (c2 : PySem.W.codeIn K cd2 "is_from_to" = true) (k2 : PySem.W.keepIn K (.ref f2) = true)
    (a3 : PySem.W.nsIn K mainGlobals "common_divisor" = some (some (.ref f3)))
    (l3 : K.lookup f3 = some ⟨oc3, od3, .func (PySem.W.fnOf "common_divisor" "common_divisor" (defArgs s_common_divisor) (defBody s_common_divisor) (defScope s_common_divisor) .none kV3 dc3 pm3 an3 cd3 ct3), sl3⟩) (c3 : PySem.W.codeIn K cd3 "common_divisor" = true) (k3 : PySem.W.keepIn K (.ref f3) = true)
    (a4 : PySem.W.nsIn K mainGlobals "is_share" = some (some (.ref f4)))
    (l4 : K.lookup f4 = some ⟨oc4, od4, .func (PySem.W.fnOf "is_share" "is_share" (defArgs s_is_share) (defBody s_is_share) (defScope s_is_share) .none kV4 dc4 pm4 an4 cd4 ct4), sl4⟩) (c4 : PySem.W.codeIn K cd4 "is_share" = true) (k4 : PySem.W.keepIn K (.ref f4) = true)
    (a5 : PySem.W.nsIn K mainGlobals "is_drift" = some (some (.ref f5)))
    (l5 : K.lookup f5 = some ⟨oc5, od5, .func (PySem.W.fnOf "is_drift" "is_drift" (defArgs s_is_drift) (defBody s_is_drift) (defScope s_is_drift) .none kV5 dc5 pm5 an5 cd5 ct5), sl5⟩) (c5 : PySem.W.codeIn K cd5 "is_drift" = true) (k5 : PySem.W.keepIn K (.ref f5) = true)
    (a6 : PySem.W.nsIn K mainGlobals "refuse_no_count" = some (some (.ref f6)))
    (l6 : K.lookup f6 = some ⟨oc6, od6, .func (PySem.W.fnOf "refuse_no_count" "refuse_no_count" (defArgs s_refuse_no_count) (defBody s_refuse_no_count) (defScope s_refuse_no_count) .none kV6 dc6 pm6 an6 cd6 ct6), sl6⟩) (c6 : PySem.W.codeIn K cd6 "refuse_no_count" = true) (k6 : PySem.W.keepIn K (.ref f6) = true)
    (a7 : PySem.W.nsIn K mainGlobals "least_of" = some (some (.ref f7)))
    (l7 : K.lookup f7 = some ⟨oc7, od7, .func (PySem.W.fnOf "least_of" "least_of" (defArgs s_least_of) (defBody s_least_of) (defScope s_least_of) .none kV7 dc7 pm7 an7 cd7 ct7), sl7⟩) (c7 : PySem.W.codeIn K cd7 "least_of" = true) (k7 : PySem.W.keepIn K (.ref f7) = true)
    (a8 : PySem.W.nsIn K mainGlobals "most_of" = some (some (.ref f8)))
    (l8 : K.lookup f8 = some ⟨oc8, od8, .func (PySem.W.fnOf "most_of" "most_of" (defArgs s_most_of) (defBody s_most_of) (defScope s_most_of) .none kV8 dc8 pm8 an8 cd8 ct8), sl8⟩) (c8 : PySem.W.codeIn K cd8 "most_of" = true) (k8 : PySem.W.keepIn K (.ref f8) = true)
    (a9 : PySem.W.findIn K (.ref fC) "__init__" = some (some (.ref f9))) (i9 : PySem.W.isFn K (.ref f9) = true)
    (l9 : K.lookup f9 = some ⟨oc9, od9, .func (PySem.W.fnOf "__init__" "Clock.__init__" (defArgs s_Clock___init__) (defBody s_Clock___init__) (defScope s_Clock___init__) (.ref T9) kV9 dc9 pm9 an9 cd9 ct9), sl9⟩) (c9 : PySem.W.codeIn K cd9 "Clock.__init__" = true) (k9 : PySem.W.keepIn K (.ref f9) = true)
    (lT9 : K.lookup T9 = some ⟨ocT9, odT9, .seq #[.ref f27] nT9, slT9⟩)
    (a10 : PySem.W.findIn K (.ref fC) "is_set" = some (some (.ref f10))) (i10 : PySem.W.isFn K (.ref f10) = true)
    (l10 : K.lookup f10 = some ⟨oc10, od10, .func (PySem.W.fnOf "is_set" "Clock.is_set" (defArgs s_Clock_is_set) (defBody s_Clock_is_set) (defScope s_Clock_is_set) .none kV10 dc10 pm10 an10 cd10 ct10), sl10⟩) (c10 : PySem.W.codeIn K cd10 "Clock.is_set" = true) (k10 : PySem.W.keepIn K (.ref f10) = true)
    (a11 : PySem.W.findIn K (.ref fC) "set_to" = some (some (.ref f11))) (i11 : PySem.W.isFn K (.ref f11) = true)
    (l11 : K.lookup f11 = some ⟨oc11, od11, .func (PySem.W.fnOf "set_to" "Clock.set_to" (defArgs s_Clock_set_to) (defBody s_Clock_set_to) (defScope s_Clock_set_to) .none kV11 dc11 pm11 an11 cd11 ct11), sl11⟩) (c11 : PySem.W.codeIn K cd11 "Clock.set_to" = true) (k11 : PySem.W.keepIn K (.ref f11) = true)
    (a12 : PySem.W.findIn K (.ref fC) "tick" = some (some (.ref f12))) (i12 : PySem.W.isFn K (.ref f12) = true)
    (l12 : K.lookup f12 = some ⟨oc12, od12, .func (PySem.W.fnOf "tick" "Clock.tick" (defArgs s_Clock_tick) (defBody s_Clock_tick) (defScope s_Clock_tick) (.ref T12) kV12 dc12 pm12 an12 cd12 ct12), sl12⟩) (c12 : PySem.W.codeIn K cd12 "Clock.tick" = true) (k12 : PySem.W.keepIn K (.ref f12) = true)
    (lT12 : K.lookup T12 = some ⟨ocT12, odT12, .seq #[.int 1 tT12_0] nT12, slT12⟩)
    (a13 : PySem.W.findIn K (.ref fC) "bounds" = some (some (.ref f13))) (i13 : PySem.W.isFn K (.ref f13) = true)
    (l13 : K.lookup f13 = some ⟨oc13, od13, .func (PySem.W.fnOf "bounds" "Clock.bounds" (defArgs s_Clock_bounds) (defBody s_Clock_bounds) (defScope s_Clock_bounds) .none kV13 dc13 pm13 an13 cd13 ct13), sl13⟩) (c13 : PySem.W.codeIn K cd13 "Clock.bounds" = true) (k13 : PySem.W.keepIn K (.ref f13) = true)
    (a14 : PySem.W.findIn K (.ref fC) "is_past" = some (some (.ref f14))) (i14 : PySem.W.isFn K (.ref f14) = true)
    (l14 : K.lookup f14 = some ⟨oc14, od14, .func (PySem.W.fnOf "is_past" "Clock.is_past" (defArgs s_Clock_is_past) (defBody s_Clock_is_past) (defScope s_Clock_is_past) .none kV14 dc14 pm14 an14 cd14 ct14), sl14⟩) (c14 : PySem.W.codeIn K cd14 "Clock.is_past" = true) (k14 : PySem.W.keepIn K (.ref f14) = true)
    (a15 : PySem.W.findIn K (.ref fC) "is_ahead" = some (some (.ref f15))) (i15 : PySem.W.isFn K (.ref f15) = true)
    (l15 : K.lookup f15 = some ⟨oc15, od15, .func (PySem.W.fnOf "is_ahead" "Clock.is_ahead" (defArgs s_Clock_is_ahead) (defBody s_Clock_is_ahead) (defScope s_Clock_is_ahead) .none kV15 dc15 pm15 an15 cd15 ct15), sl15⟩) (c15 : PySem.W.codeIn K cd15 "Clock.is_ahead" = true) (k15 : PySem.W.keepIn K (.ref f15) = true)
    (a16 : PySem.W.nsIn K mainGlobals "_law_bag" = some (some (.ref f16)))
    (l16 : K.lookup f16 = some ⟨oc16, od16, .func (PySem.W.fnOf "_law_bag" "_law_bag" (defArgs s_l_bag) (defBody s_l_bag) (defScope s_l_bag) .none kV16 dc16 pm16 an16 cd16 ct16), sl16⟩) (c16 : PySem.W.codeIn K cd16 "_law_bag" = true) (k16 : PySem.W.keepIn K (.ref f16) = true)
    (a17 : PySem.W.nsIn K mainGlobals "_law_out" = some (some (.ref f17)))
    (l17 : K.lookup f17 = some ⟨oc17, od17, .func (PySem.W.fnOf "_law_out" "_law_out" (defArgs s_l_out) (defBody s_l_out) (defScope s_l_out) .none kV17 dc17 pm17 an17 cd17 ct17), sl17⟩) (c17 : PySem.W.codeIn K cd17 "_law_out" = true) (k17 : PySem.W.keepIn K (.ref f17) = true)
    (a18 : PySem.W.nsIn K mainGlobals "_law_drift" = some (some (.ref f18)))
    (l18 : K.lookup f18 = some ⟨oc18, od18, .func (PySem.W.fnOf "_law_drift" "_law_drift" (defArgs s_l_drift) (defBody s_l_drift) (defScope s_l_drift) .none kV18 dc18 pm18 an18 cd18 ct18), sl18⟩) (c18 : PySem.W.codeIn K cd18 "_law_drift" = true) (k18 : PySem.W.keepIn K (.ref f18) = true)
    (a19 : PySem.W.nsIn K mainGlobals "_law_gone" = some (some (.ref f19)))
    (l19 : K.lookup f19 = some ⟨oc19, od19, .func (PySem.W.fnOf "_law_gone" "_law_gone" (defArgs s_l_gone) (defBody s_l_gone) (defScope s_l_gone) .none kV19 dc19 pm19 an19 cd19 ct19), sl19⟩) (c19 : PySem.W.codeIn K cd19 "_law_gone" = true) (k19 : PySem.W.keepIn K (.ref f19) = true)
    (a20 : PySem.W.nsIn K mainGlobals "_law_right" = some (some (.ref f20)))
    (l20 : K.lookup f20 = some ⟨oc20, od20, .func (PySem.W.fnOf "_law_right" "_law_right" (defArgs s_l_right) (defBody s_l_right) (defScope s_l_right) .none kV20 dc20 pm20 an20 cd20 ct20), sl20⟩) (c20 : PySem.W.codeIn K cd20 "_law_right" = true) (k20 : PySem.W.keepIn K (.ref f20) = true)
    (a21 : PySem.W.nsIn K mainGlobals "law" = some (some (.ref f21)))
    (l21 : K.lookup f21 = some ⟨oc21, od21, .func (PySem.W.fnOf "law" "law" (defArgs s_law) (defBody s_law) (defScope s_law) .none kV21 dc21 pm21 an21 cd21 ct21), sl21⟩) (c21 : PySem.W.codeIn K cd21 "law" = true) (k21 : PySem.W.keepIn K (.ref f21) = true)
    (a22 : PySem.W.nsIn K mainGlobals "bounds_behind" = some (some (.ref f22)))
    (l22 : K.lookup f22 = some ⟨oc22, od22, .func (PySem.W.fnOf "bounds_behind" "bounds_behind" (defArgs s_bounds_behind) (defBody s_bounds_behind) (defScope s_bounds_behind) .none kV22 dc22 pm22 an22 cd22 ct22), sl22⟩) (c22 : PySem.W.codeIn K cd22 "bounds_behind" = true) (k22 : PySem.W.keepIn K (.ref f22) = true)
    (a23 : PySem.W.nsIn K mainGlobals "set_between" = some (some (.ref f23)))
    (l23 : K.lookup f23 = some ⟨oc23, od23, .func (PySem.W.fnOf "set_between" "set_between" (defArgs s_set_between) (defBody s_set_between) (defScope s_set_between) .none kV23 dc23 pm23 an23 cd23 ct23), sl23⟩) (c23 : PySem.W.codeIn K cd23 "set_between" = true) (k23 : PySem.W.keepIn K (.ref f23) = true)
    (z_max : PySem.W.nsIn K mainGlobals "max" = some none)
    (z_min : PySem.W.nsIn K mainGlobals "min" = some none)
    (z_len : PySem.W.nsIn K mainGlobals "len" = some none)
    (z_int : PySem.W.nsIn K mainGlobals "int" = some none)
    (z_range : PySem.W.nsIn K mainGlobals "range" = some none)
    (z_isinstance : PySem.W.nsIn K mainGlobals "isinstance" = some none)
    (z_bool : PySem.W.nsIn K mainGlobals "bool" = some none)
    (z_tuple : PySem.W.nsIn K mainGlobals "tuple" = some none)
    (z_all : PySem.W.nsIn K mainGlobals "all" = some none)
    : ∃ fd : FuncData, (∀ (s : Shared) (v : Value), BindsTo s fd ⟨[v], []⟩ [("_law_script", v)]) ∧ ∀ base : Heap, K.In base → base.Ns mainGlobals mg → FnOk l.prog w K mg base CX0 8 fa fd ["_law_script"] (spLaw K) := by
  have e := hfa.symm.trans (PySem.W.mg_of X G a21)
  cases e
  have F0 := fun_mk (st := s_is_whole) l0 c0 k0
  have b0 := F0.binds (ps := ["thing"]) fun _ _ _ _ _ _ us hl => match us, hl with | [_], _ => rfl
  have F1 := fun_mk (st := s_is_count) l1 c1 k1
  have b1 := F1.binds (ps := ["thing"]) fun _ _ _ _ _ _ us hl => match us, hl with | [_], _ => rfl
  have F2 := fun_mk (st := s_is_from_to) l2 c2 k2
  have b2 := F2.binds (ps := ["thing", "least", "most"]) fun _ _ _ _ _ _ us hl => match us, hl with | [_, _, _], _ => rfl
  have F3 := fun_mk (st := s_common_divisor) l3 c3 k3
  have b3 := F3.binds (ps := ["first", "second"]) fun _ _ _ _ _ _ us hl => match us, hl with | [_, _], _ => rfl
  have F4 := fun_mk (st := s_is_share) l4 c4 k4
  have b4 := F4.binds (ps := ["thing"]) fun _ _ _ _ _ _ us hl => match us, hl with | [_], _ => rfl
  have F5 := fun_mk (st := s_is_drift) l5 c5 k5
  have b5 := F5.binds (ps := ["thing"]) fun _ _ _ _ _ _ us hl => match us, hl with | [_], _ => rfl
  have F6 := fun_mk (st := s_refuse_no_count) l6 c6 k6
  have b6 := F6.binds (ps := ["thing"]) fun _ _ _ _ _ _ us hl => match us, hl with | [_], _ => rfl
  have F7 := fun_mk (st := s_least_of) l7 c7 k7
  have b7 := F7.binds (ps := ["ticks", "drift"]) fun _ _ _ _ _ _ us hl => match us, hl with | [_, _], _ => rfl
  have F8 := fun_mk (st := s_most_of) l8 c8 k8
  have b8 := F8.binds (ps := ["ticks", "drift"]) fun _ _ _ _ _ _ us hl => match us, hl with | [_, _], _ => rfl
  have F9 : FunD K "__init__" "Clock.__init__" (defArgs s_Clock___init__) (defBody s_Clock___init__) (defScope s_Clock___init__) [V.ref f27] [] f9 (PySem.W.fnOf "__init__" "Clock.__init__" (defArgs s_Clock___init__) (defBody s_Clock___init__) (defScope s_Clock___init__) (.ref T9) kV9 dc9 pm9 an9 cd9 ct9) := ⟨⟨_, _, _, _, _, _, _, _, _, _, rfl, l9, c9, .inr ⟨by simp, _, _, [Value.ref f27], _, rfl, lT9, rfl, (.cons rfl .nil)⟩, .inl rfl⟩, k9⟩
  have b9 : Binds K (PySem.W.fnOf "__init__" "Clock.__init__" (defArgs s_Clock___init__) (defBody s_Clock___init__) (defScope s_Clock___init__) (.ref T9) kV9 dc9 pm9 an9 cd9 ct9) ["self", "drift"] [] := by
    obtain ⟨ds, v, b⟩ := F9.binds1 (ps := ["self", "drift"]) 2 1 (by simp) rfl (fun T kV dc pm an cdv ct us its hu hi => match us, hu, its, hi with | [_, _], _, [_], _ => ⟨_, rfl, rfl⟩)
    cases v
    exact b
  have c'9 : ∃ ds, Vals [V.ref f27] ds ∧ Binds K (PySem.W.fnOf "__init__" "Clock.__init__" (defArgs s_Clock___init__) (defBody s_Clock___init__) (defScope s_Clock___init__) (.ref T9) kV9 dc9 pm9 an9 cd9 ct9) ["self", "drift"] ds := F9.binds1 (ps := ["self", "drift"]) 1 0 (by simp) rfl (fun T kV dc pm an cdv ct us its hu hi => match us, hu, its, hi with | [_], _, [_], _ => ⟨_, rfl, rfl⟩)
  have F10 := fun_mk (st := s_Clock_is_set) l10 c10 k10
  have b10 := F10.binds (ps := ["self"]) fun _ _ _ _ _ _ us hl => match us, hl with | [_], _ => rfl
  have F11 := fun_mk (st := s_Clock_set_to) l11 c11 k11
  have b11 := F11.binds (ps := ["self", "low", "high"]) fun _ _ _ _ _ _ us hl => match us, hl with | [_, _, _], _ => rfl
  have F12 : FunD K "tick" "Clock.tick" (defArgs s_Clock_tick) (defBody s_Clock_tick) (defScope s_Clock_tick) [V.int 1] [] f12 (PySem.W.fnOf "tick" "Clock.tick" (defArgs s_Clock_tick) (defBody s_Clock_tick) (defScope s_Clock_tick) (.ref T12) kV12 dc12 pm12 an12 cd12 ct12) := ⟨⟨_, _, _, _, _, _, _, _, _, _, rfl, l12, c12, .inr ⟨by simp, _, _, [Value.int 1 tT12_0], _, rfl, lT12, rfl, (.cons ⟨_, rfl⟩ .nil)⟩, .inl rfl⟩, k12⟩
  have b12 : Binds K (PySem.W.fnOf "tick" "Clock.tick" (defArgs s_Clock_tick) (defBody s_Clock_tick) (defScope s_Clock_tick) (.ref T12) kV12 dc12 pm12 an12 cd12 ct12) ["self", "many"] [] := by
    obtain ⟨ds, v, b⟩ := F12.binds1 (ps := ["self", "many"]) 2 1 (by simp) rfl (fun T kV dc pm an cdv ct us its hu hi => match us, hu, its, hi with | [_, _], _, [_], _ => ⟨_, rfl, rfl⟩)
    cases v
    exact b
  have c'12 : ∃ ds, Vals [V.int 1] ds ∧ Binds K (PySem.W.fnOf "tick" "Clock.tick" (defArgs s_Clock_tick) (defBody s_Clock_tick) (defScope s_Clock_tick) (.ref T12) kV12 dc12 pm12 an12 cd12 ct12) ["self", "many"] ds := F12.binds1 (ps := ["self", "many"]) 1 0 (by simp) rfl (fun T kV dc pm an cdv ct us its hu hi => match us, hu, its, hi with | [_], _, [_], _ => ⟨_, rfl, rfl⟩)
  have F13 := fun_mk (st := s_Clock_bounds) l13 c13 k13
  have b13 := F13.binds (ps := ["self"]) fun _ _ _ _ _ _ us hl => match us, hl with | [_], _ => rfl
  have F14 := fun_mk (st := s_Clock_is_past) l14 c14 k14
  have b14 := F14.binds (ps := ["self", "time"]) fun _ _ _ _ _ _ us hl => match us, hl with | [_, _], _ => rfl
  have F15 := fun_mk (st := s_Clock_is_ahead) l15 c15 k15
  have b15 := F15.binds (ps := ["self", "time"]) fun _ _ _ _ _ _ us hl => match us, hl with | [_, _], _ => rfl
  have F16 := fun_mk (st := s_l_bag) l16 c16 k16
  have b16 := F16.binds (ps := ["_law_script", "_law_k"]) fun _ _ _ _ _ _ us hl => match us, hl with | [_, _], _ => rfl
  have F17 := fun_mk (st := s_l_out) l17 c17 k17
  have b17 := F17.binds (ps := ["_law_bag_here", "_law_many"]) fun _ _ _ _ _ _ us hl => match us, hl with | [_, _], _ => rfl
  have F18 := fun_mk (st := s_l_drift) l18 c18 k18
  have b18 := F18.binds (ps := ["_law_bag_here"]) fun _ _ _ _ _ _ us hl => match us, hl with | [_], _ => rfl
  have F19 := fun_mk (st := s_l_gone) l19 c19 k19
  have b19 := F19.binds (ps := ["_law_bag_here", "_law_clock", "_law_drift_here", "_law_state", "_law_ticks"]) fun _ _ _ _ _ _ us hl => match us, hl with | [_, _, _, _, _], _ => rfl
  have F20 := fun_mk (st := s_l_right) l20 c20 k20
  have b20 := F20.binds (ps := ["_law_one", "_law_other", "_law_time"]) fun _ _ _ _ _ _ us hl => match us, hl with | [_, _, _], _ => rfl
  have F21 := fun_mk (st := s_law) l21 c21 k21
  have b21 := F21.binds (ps := ["_law_script"]) fun _ _ _ _ _ _ us hl => match us, hl with | [_], _ => rfl
  have F22 := fun_mk (st := s_bounds_behind) l22 c22 k22
  have b22 := F22.binds (ps := ["stands", "counted", "drift"]) fun _ _ _ _ _ _ us hl => match us, hl with | [_, _, _], _ => rfl
  have F23 := fun_mk (st := s_set_between) l23 c23 k23
  have b23 := F23.binds (ps := ["told", "low", "high"]) fun _ _ _ _ _ _ us hl => match us, hl with | [_, _, _], _ => rfl
  let a : Nat → Addr := fun i => match i with | 0 => f0 | 1 => f1 | 2 => f2 | 3 => f3 | 4 => f4 | 5 => f5 | 6 => f6 | 7 => f7 | 8 => f8 | 9 => f9 | 10 => f10 | 11 => f11 | 12 => f12 | 13 => f13 | 14 => f14 | 15 => f15 | 16 => f16 | 17 => f17 | 18 => f18 | 19 => f19 | 20 => f20 | 21 => fa | 22 => f22 | 23 => f23 | 24 => fC | 25 => f25 | 27 => f27 | _ => 0
  let d : Nat → FuncData := fun i => match i with | 0 => (PySem.W.fnOf "is_whole" "is_whole" (defArgs s_is_whole) (defBody s_is_whole) (defScope s_is_whole) .none kV0 dc0 pm0 an0 cd0 ct0) | 1 => (PySem.W.fnOf "is_count" "is_count" (defArgs s_is_count) (defBody s_is_count) (defScope s_is_count) .none kV1 dc1 pm1 an1 cd1 ct1) | 2 => (PySem.W.fnOf "is_from_to" "is_from_to" (defArgs s_is_from_to) (defBody s_is_from_to) (defScope s_is_from_to) .none kV2 dc2 pm2 an2 cd2 ct2) | 3 => (PySem.W.fnOf "common_divisor" "common_divisor" (defArgs s_common_divisor) (defBody s_common_divisor) (defScope s_common_divisor) .none kV3 dc3 pm3 an3 cd3 ct3) | 4 => (PySem.W.fnOf "is_share" "is_share" (defArgs s_is_share) (defBody s_is_share) (defScope s_is_share) .none kV4 dc4 pm4 an4 cd4 ct4) | 5 => (PySem.W.fnOf "is_drift" "is_drift" (defArgs s_is_drift) (defBody s_is_drift) (defScope s_is_drift) .none kV5 dc5 pm5 an5 cd5 ct5) | 6 => (PySem.W.fnOf "refuse_no_count" "refuse_no_count" (defArgs s_refuse_no_count) (defBody s_refuse_no_count) (defScope s_refuse_no_count) .none kV6 dc6 pm6 an6 cd6 ct6) | 7 => (PySem.W.fnOf "least_of" "least_of" (defArgs s_least_of) (defBody s_least_of) (defScope s_least_of) .none kV7 dc7 pm7 an7 cd7 ct7) | 8 => (PySem.W.fnOf "most_of" "most_of" (defArgs s_most_of) (defBody s_most_of) (defScope s_most_of) .none kV8 dc8 pm8 an8 cd8 ct8) | 9 => (PySem.W.fnOf "__init__" "Clock.__init__" (defArgs s_Clock___init__) (defBody s_Clock___init__) (defScope s_Clock___init__) (.ref T9) kV9 dc9 pm9 an9 cd9 ct9) | 10 => (PySem.W.fnOf "is_set" "Clock.is_set" (defArgs s_Clock_is_set) (defBody s_Clock_is_set) (defScope s_Clock_is_set) .none kV10 dc10 pm10 an10 cd10 ct10) | 11 => (PySem.W.fnOf "set_to" "Clock.set_to" (defArgs s_Clock_set_to) (defBody s_Clock_set_to) (defScope s_Clock_set_to) .none kV11 dc11 pm11 an11 cd11 ct11) | 12 => (PySem.W.fnOf "tick" "Clock.tick" (defArgs s_Clock_tick) (defBody s_Clock_tick) (defScope s_Clock_tick) (.ref T12) kV12 dc12 pm12 an12 cd12 ct12) | 13 => (PySem.W.fnOf "bounds" "Clock.bounds" (defArgs s_Clock_bounds) (defBody s_Clock_bounds) (defScope s_Clock_bounds) .none kV13 dc13 pm13 an13 cd13 ct13) | 14 => (PySem.W.fnOf "is_past" "Clock.is_past" (defArgs s_Clock_is_past) (defBody s_Clock_is_past) (defScope s_Clock_is_past) .none kV14 dc14 pm14 an14 cd14 ct14) | 15 => (PySem.W.fnOf "is_ahead" "Clock.is_ahead" (defArgs s_Clock_is_ahead) (defBody s_Clock_is_ahead) (defScope s_Clock_is_ahead) .none kV15 dc15 pm15 an15 cd15 ct15) | 16 => (PySem.W.fnOf "_law_bag" "_law_bag" (defArgs s_l_bag) (defBody s_l_bag) (defScope s_l_bag) .none kV16 dc16 pm16 an16 cd16 ct16) | 17 => (PySem.W.fnOf "_law_out" "_law_out" (defArgs s_l_out) (defBody s_l_out) (defScope s_l_out) .none kV17 dc17 pm17 an17 cd17 ct17) | 18 => (PySem.W.fnOf "_law_drift" "_law_drift" (defArgs s_l_drift) (defBody s_l_drift) (defScope s_l_drift) .none kV18 dc18 pm18 an18 cd18 ct18) | 19 => (PySem.W.fnOf "_law_gone" "_law_gone" (defArgs s_l_gone) (defBody s_l_gone) (defScope s_l_gone) .none kV19 dc19 pm19 an19 cd19 ct19) | 20 => (PySem.W.fnOf "_law_right" "_law_right" (defArgs s_l_right) (defBody s_l_right) (defScope s_l_right) .none kV20 dc20 pm20 an20 cd20 ct20) | 21 => (PySem.W.fnOf "law" "law" (defArgs s_law) (defBody s_law) (defScope s_law) .none kV21 dc21 pm21 an21 cd21 ct21) | 22 => (PySem.W.fnOf "bounds_behind" "bounds_behind" (defArgs s_bounds_behind) (defBody s_bounds_behind) (defScope s_bounds_behind) .none kV22 dc22 pm22 an22 cd22 ct22) | 23 => (PySem.W.fnOf "set_between" "set_between" (defArgs s_set_between) (defBody s_set_between) (defScope s_set_between) .none kV23 dc23 pm23 an23 cd23 ct23) | _ => (PySem.W.fnOf "law" "law" (defArgs s_law) (defBody s_law) (defScope s_law) .none kV21 dc21 pm21 an21 cd21 ct21)
  have T : Txt K mg a d := ⟨PySem.W.mg_of X G a0, F0, b0, PySem.W.mg_of X G a1, F1, b1, PySem.W.mg_of X G a2, F2, b2, PySem.W.mg_of X G a3, F3, b3, PySem.W.mg_of X G a4, F4, b4, PySem.W.mg_of X G a5, F5, b5, PySem.W.mg_of X G a6, F6, b6, PySem.W.mg_of X G a7, F7, b7, PySem.W.mg_of X G a8, F8, b8, F9, c'9, b9, ⟨mk, a9, i9, kc⟩, F10, b10, ⟨a10, i10, k10⟩, F11, b11, ⟨a11, i11, k11⟩, F12, c'12, b12, ⟨a12, i12, k12⟩, F13, b13, ⟨a13, i13, k13⟩, F14, b14, ⟨a14, i14, k14⟩, F15, b15, ⟨a15, i15, k15⟩, PySem.W.mg_of X G a16, F16, b16, PySem.W.mg_of X G a17, F17, b17, PySem.W.mg_of X G a18, F18, b18, PySem.W.mg_of X G a19, F19, b19, PySem.W.mg_of X G a20, F20, b20, PySem.W.mg_of X G a21, F21, b21, PySem.W.mg_of X G a22, F22, b22, PySem.W.mg_of X G a23, F23, b23, PySem.W.mg_of X G aC, ⟨pg, hd, po, sa⟩, nf_most_drift, nf_stands, nf_counted, PySem.W.mg_of X G g25, fun H => .inr ⟨_, _, _, l25, rfl, rfl, (by show 2 ≤ sizeLine; decide), (.cons ⟨_, rfl⟩ (.cons ⟨_, rfl⟩ .nil))⟩, ⟨_, PySem.W.mg_of X G g26⟩, PySem.W.mg_of X G g27, fun H => .inr ⟨_, _, _, l27, rfl, rfl, (by show 2 ≤ sizeLine; decide), (.cons ⟨_, rfl⟩ (.cons ⟨_, rfl⟩ .nil))⟩, PySem.W.mg_none_of X G z_max, PySem.W.mg_none_of X G z_min, PySem.W.mg_none_of X G z_len, PySem.W.mg_none_of X G z_int, PySem.W.mg_none_of X G z_range, PySem.W.mg_none_of X G z_isinstance, PySem.W.mg_none_of X G z_bool, PySem.W.mg_none_of X G z_tuple, PySem.W.mg_none_of X G z_all⟩
  exact ⟨(PySem.W.fnOf "law" "law" (defArgs s_law) (defBody s_law) (defScope s_law) .none kV21 dc21 pm21 an21 cd21 ct21), fun s v => .of_eq rfl, fun base _ _ => ok_law T⟩
theorem walk {l : PySem.W.OpenLaw} {q : Program} {loose : List Str} {XP : (Str → Option Value) → Heap → Prop} {YP : World → Heap → Prop} {d : DefRec} {K : Params → PySem.W.Frag} (hn : l.most = some 63) (hdf : d.params.defaults = [])
    (hY : ∀ (w : World) (h : Heap), YP w h → (K w.params).In h)
    (F : ∀ (w : World) (mg : Str → Option Value) (fa : Addr) (h : Heap), (K w.params).In h → h.Ns mainGlobals mg → mg d.name = some (.ref fa) →
      ∃ fd : FuncData, (∀ (s : Shared) (u : Value), BindsTo s fd ⟨[u], []⟩ [("_law_script", u)]) ∧ ∀ base : Heap, (K w.params).In base → base.Ns mainGlobals mg → FnOk l.prog w (K w.params) mg base CX0 8 fa fd ["_law_script"] (spLaw (K w.params))) :
    PySem.W.WalkO q loose XP YP l.row.toRowW d [] (fun f vs => PySem.call f vs) :=
  L2.walk_of (n := 63) (k := 8) (x := "_law_script") (CX := fun _ => CX0) (sp := fun w => (spLaw (K w.params))) hn (by decide) hdf ⟨rfl, by decide, by decide⟩ hY F (fun _ _ a ns hl _ hS => ⟨a, ns, rfl, hS, hl, fun _ => rfl⟩) fun _ _ _ _ _ z => z
end M

open PySem PySem.W PyProof.Rows in
set_option maxRecDepth 100000 in
set_option maxHeartbeats 0 in
theorem PySem.Challenge.cw_stampedwait_k12_whole_two_clocks_never_a_holds : PySem.Challenge.rw_stampedwait_k12_whole_two_clocks_never_a.Holds := by
  w_on; o_law; k_head; (case hw => w_witness2)
  k_fill
  refine M.walk (l := PySem.Challenge.rw_stampedwait_k12_whole_two_clocks_never_a) rfl rfl (fun w h Y => PySem.W.kIn_of Y) ?F
  case F =>
    intro w mg fa h KX G hmg
    refine' M.all_mk KX G hmg ?g25 ?l25 ?g26 ?g27 ?l27 ?aC ?pg ?hd ?po ?sa ?mk ?kc ?nf_most_drift ?nf_stands ?nf_counted ?a0 ?l0 ?c0 ?k0 ?a1 ?l1 ?c1 ?k1 ?a2 ?l2 ?c2 ?k2 ?a3 ?l3 ?c3 ?k3 ?a4 ?l4 ?c4 ?k4 ?a5 ?l5 ?c5 ?k5 ?a6 ?l6 ?c6 ?k6 ?a7 ?l7 ?c7 ?k7 ?a8 ?l8 ?c8 ?k8 ?a9 ?i9 ?l9 ?c9 ?k9 ?lT9 ?a10 ?i10 ?l10 ?c10 ?k10 ?a11 ?i11 ?l11 ?c11 ?k11 ?a12 ?i12 ?l12 ?c12 ?k12 ?lT12 ?a13 ?i13 ?l13 ?c13 ?k13 ?a14 ?i14 ?l14 ?c14 ?k14 ?a15 ?i15 ?l15 ?c15 ?k15 ?a16 ?l16 ?c16 ?k16 ?a17 ?l17 ?c17 ?k17 ?a18 ?l18 ?c18 ?k18 ?a19 ?l19 ?c19 ?k19 ?a20 ?l20 ?c20 ?k20 ?a21 ?l21 ?c21 ?k21 ?a22 ?l22 ?c22 ?k22 ?a23 ?l23 ?c23 ?k23 ?z_max ?z_min ?z_len ?z_int ?z_range ?z_isinstance ?z_bool ?z_tuple ?z_all
    (case g25 => k_is)
    (case l25 => k_is)
    (case g26 => k_is)
    (case g27 => k_is)
    (case l27 => k_is)
    (case aC => k_is)
    (case pg => k_is)
    (case hd => k_is)
    (case po => k_is)
    (case sa => k_is)
    (case mk => k_is)
    (case kc => k_is)
    (case nf_most_drift => k_is)
    (case nf_stands => k_is)
    (case nf_counted => k_is)
    (case a0 => k_is)
    (case l0 => k_is)
    (case c0 => k_is)
    (case k0 => k_is)
    (case a1 => k_is)
    (case l1 => k_is)
    (case c1 => k_is)
    (case k1 => k_is)
    (case a2 => k_is)
    (case l2 => k_is)
    (case c2 => k_is)
    (case k2 => k_is)
    (case a3 => k_is)
    (case l3 => k_is)
    (case c3 => k_is)
    (case k3 => k_is)
    (case a4 => k_is)
    (case l4 => k_is)
    (case c4 => k_is)
    (case k4 => k_is)
    (case a5 => k_is)
    (case l5 => k_is)
    (case c5 => k_is)
    (case k5 => k_is)
    (case a6 => k_is)
    (case l6 => k_is)
    (case c6 => k_is)
    (case k6 => k_is)
    (case a7 => k_is)
    (case l7 => k_is)
    (case c7 => k_is)
    (case k7 => k_is)
    (case a8 => k_is)
    (case l8 => k_is)
    (case c8 => k_is)
    (case k8 => k_is)
    (case a9 => k_is)
    (case i9 => k_is)
    (case l9 => k_is)
    (case c9 => k_is)
    (case k9 => k_is)
    (case lT9 => k_is)
    (case a10 => k_is)
    (case i10 => k_is)
    (case l10 => k_is)
    (case c10 => k_is)
    (case k10 => k_is)
    (case a11 => k_is)
    (case i11 => k_is)
    (case l11 => k_is)
    (case c11 => k_is)
    (case k11 => k_is)
    (case a12 => k_is)
    (case i12 => k_is)
    (case l12 => k_is)
    (case c12 => k_is)
    (case k12 => k_is)
    (case lT12 => k_is)
    (case a13 => k_is)
    (case i13 => k_is)
    (case l13 => k_is)
    (case c13 => k_is)
    (case k13 => k_is)
    (case a14 => k_is)
    (case i14 => k_is)
    (case l14 => k_is)
    (case c14 => k_is)
    (case k14 => k_is)
    (case a15 => k_is)
    (case i15 => k_is)
    (case l15 => k_is)
    (case c15 => k_is)
    (case k15 => k_is)
    (case a16 => k_is)
    (case l16 => k_is)
    (case c16 => k_is)
    (case k16 => k_is)
    (case a17 => k_is)
    (case l17 => k_is)
    (case c17 => k_is)
    (case k17 => k_is)
    (case a18 => k_is)
    (case l18 => k_is)
    (case c18 => k_is)
    (case k18 => k_is)
    (case a19 => k_is)
    (case l19 => k_is)
    (case c19 => k_is)
    (case k19 => k_is)
    (case a20 => k_is)
    (case l20 => k_is)
    (case c20 => k_is)
    (case k20 => k_is)
    (case a21 => k_is)
    (case l21 => k_is)
    (case c21 => k_is)
    (case k21 => k_is)
    (case a22 => k_is)
    (case l22 => k_is)
    (case c22 => k_is)
    (case k22 => k_is)
    (case a23 => k_is)
    (case l23 => k_is)
    (case c23 => k_is)
    (case k23 => k_is)
    (case z_max => k_is)
    (case z_min => k_is)
    (case z_len => k_is)
    (case z_int => k_is)
    (case z_range => k_is)
    (case z_isinstance => k_is)
    (case z_bool => k_is)
    (case z_tuple => k_is)
    (case z_all => k_is)
