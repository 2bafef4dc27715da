import PyProof.Rows.All
import Wide.All
import OpenK.AllK
import Wide.FinOn
import HandS.ForMost
import HandS.Wide
import HandS.IsInst
import HandS.Defaults
import HandS.MakeKwOnly
import HandS.Flow
import HandS.TupLe
import HandS.OwnEq
import HandS.More
import HandS.Small
import HandS.EndBits
import HandS.RaiseMore
import HandS.Walk
import HandS.Conv
import HandS.DictComp
import HandS.SortInts
import HandS.CallSlots
import HandS.Evl
import HandS.Steps
import PyProof.InstSpecial
import PyProof.ReprRoads
import PyProof.WalksMore
import PyProof.ReprLen
import PySem.Challenge.RW_stampedwait_k23_whole_never_barred_holds
set_option Elab.async false
set_option linter.all false
set_option maxRecDepth 100000
set_option maxHeartbeats 4000000
namespace M
open PySem L2

section
open PySem PySem.Spec PyProof.Rows L2
variable {X : Cx}
/-- d == {}, d != {} -/
def rEqDE : R2 := fun x y H Q => ∃ a b kvs, x = .ref a ∧ y = .ref b ∧ H a = some (.dK kvs) ∧ H b = some (.dK []) ∧ Q (.bl kvs.isEmpty) H
def rNeDE : R2 := fun x y H Q => ∃ a b kvs, x = .ref a ∧ y = .ref b ∧ H a = some (.dK kvs) ∧ H b = some (.dK []) ∧ Q (.bl (!kvs.isEmpty)) H
theorem kv_nil {vs : List (Key × Value)} (r : KV ([] : List (Key × V)) vs) : vs = [] := by
  unfold KV at r
  cases r
  rfl
theorem kv_emp {kvs : List (Key × V)} {vs : List (Key × Value)} (r : KV kvs vs) : (vs.length == 0) = kvs.isEmpty := by
  rw [← r.length]
  cases kvs <;> rfl
theorem op_eq_dE (hu : X.A.units < cLine) : OpR X (compareOp .Eq) rEqDE := by
  intro pins s σ H x y v u Q I rx ry h
  obtain ⟨a, b, ks, rfl, rfl, ea, eb, q⟩ := h
  obtain rfl : v = Value.ref a := rx
  obtain rfl : u = Value.ref b := ry
  obtain ⟨_, ya, va, ra, da⟩ := (show ObjOk X.prog X.w H s.heap a (.dK ks) from I.hok a _ ea)
  obtain ⟨_, yb, vb, rb, db⟩ := (show ObjOk X.prog X.w H s.heap b (.dK []) from I.hok b _ eb)
  have e := kv_nil rb
  subst e
  refine PySem.W.keq_eq (knd := mixKind X.prog X.w) (r := true) ya yb da db hu (fun hl => ?_) (fin_bl I q (by rw [Bool.and_true]; exact (kv_emp ra).symm))
  rw [List.eq_nil_of_length_eq_zero hl]
  exact .nil
theorem op_ne_dE (hu : X.A.units < cLine) : OpR X (compareOp .NotEq) rNeDE := by
  intro pins s σ H x y v u Q I rx ry h
  obtain ⟨a, b, ks, rfl, rfl, ea, eb, q⟩ := h
  obtain rfl : v = Value.ref a := rx
  obtain rfl : u = Value.ref b := ry
  obtain ⟨_, ya, va, ra, da⟩ := (show ObjOk X.prog X.w H s.heap a (.dK ks) from I.hok a _ ea)
  obtain ⟨_, yb, vb, rb, db⟩ := (show ObjOk X.prog X.w H s.heap b (.dK []) from I.hok b _ eb)
  have e := kv_nil rb
  subst e
  refine PySem.W.keq_ne (knd := mixKind X.prog X.w) (r := true) ya yb da db hu (fun hl => ?_) (fin_bl I q (by rw [Bool.and_true]; exact congrArg (!·) (kv_emp ra).symm))
  rw [List.eq_nil_of_length_eq_zero hl]
  exact .nil
end
section
open PySem PySem.Spec PyProof.Rows L2
variable {X : Cx}
theorem room66' {k : Nat} {A : Around} (r : Room k A) : A.units + 66 < cLine := by have := r.un; omega
theorem hits_data {pins : List (Addr × Obj)} {σ : L2.St} {H : Hp} {s : Shared} {kvs : List (Key × V)} {vb : List (Key × Value)} (I : Inv X pins σ H s) (hu : X.A.units + 66 < cLine) (rb : KV kvs vb) {ks : List (Key × V)} {va : List (Key × Value)} (ra : KV ks va) :
    (∀ p ∈ ks, ∃ v d e, valV kvs p.1 = some v ∧ Dp X.K H p.2 d ∧ Dp X.K H v e ∧ SeqAt.shaped d = true ∧ SeqAt.shaped e = true ∧ PyData.eqv d e = true) → PySem.W.KeqHits X.A.in1 s vb va true := by
  unfold KV at ra
  induction ra with
  | nil => intro _; exact .nil
  | @cons p q ps qs h t ih =>
    intro hp
    obtain ⟨h1, h2⟩ := h
    obtain ⟨w, d, e, ev, h3, h4, h5, h6, h7⟩ := hp p List.mem_cons_self
    have rr : RelO (some w) (valueAt vb p.1) := by rw [← ev]; exact rb.val p.1
    obtain ⟨y, hy, ry⟩ := rr.some_of
    obtain ⟨k, v⟩ := q
    have h1' : p.1 = k := h1
    rw [h1'] at hy
    obtain ⟨as, r1⟩ := Dp.reads I d _ v h3 h2
    obtain ⟨bs, r2⟩ := Dp.reads I e _ y h4 ry
    have q1 := PySem.W.keq_at (A := X.A) r1 r2 h5 h6 (by show X.A.units + 1 + 64 < cLine; omega)
    rw [h7] at q1
    show PySem.W.KeqHits X.A.in1 s vb ((k, v) :: qs) (true && true)
    exact .hit hy q1 (ih fun p' hm => hp p' (List.mem_cons_of_mem _ hm))
/-- dicts with data for values, the same -/
def SameD (K : PySem.W.Frag) (H : Hp) (a b : Addr) : Prop := ∃ ks ls, H a = some (.dK ks) ∧ H b = some (.dK ls) ∧ ks.length = ls.length ∧ ∀ p ∈ ks, ∃ v d e, valV ls p.1 = some v ∧ Dp K H p.2 d ∧ Dp K H v e ∧ SeqAt.shaped d = true ∧ SeqAt.shaped e = true ∧ PyData.eqv d e = true
def rEqDD (K : PySem.W.Frag) : R2 := fun x y H Q => ∃ a b, x = .ref a ∧ y = .ref b ∧ SameD K H a b ∧ Q (.bl true) H
def rNeDD (K : PySem.W.Frag) : R2 := fun x y H Q => ∃ a b, x = .ref a ∧ y = .ref b ∧ SameD K H a b ∧ Q (.bl false) H
theorem op_eq_dD (hu : X.A.units + 66 < cLine) : OpR X (compareOp .Eq) (rEqDD X.K) := by
  intro pins s σ H x y v u Q I rx ry h
  obtain ⟨a, b, rfl, rfl, ⟨ks, ls, ea, eb, hlen, hp⟩, q⟩ := h
  obtain rfl : v = Value.ref a := rx
  obtain rfl : u = Value.ref b := ry
  obtain ⟨_, ya, va, ra, da⟩ := (show ObjOk X.prog X.w H s.heap a (.dK ks) from I.hok a _ ea)
  obtain ⟨_, yb, vb, rb, db⟩ := (show ObjOk X.prog X.w H s.heap b (.dK ls) from I.hok b _ eb)
  have hl : va.length = vb.length := by rw [← ra.length, ← rb.length]; exact hlen
  exact PySem.W.keq_eq (knd := mixKind X.prog X.w) (r := true) ya yb da db (by omega) (fun _ => hits_data I hu rb ra hp) (fin_bl I q (by simp [hl]))
theorem op_ne_dD (hu : X.A.units + 66 < cLine) : OpR X (compareOp .NotEq) (rNeDD X.K) := by
  intro pins s σ H x y v u Q I rx ry h
  obtain ⟨a, b, rfl, rfl, ⟨ks, ls, ea, eb, hlen, hp⟩, q⟩ := h
  obtain rfl : v = Value.ref a := rx
  obtain rfl : u = Value.ref b := ry
  obtain ⟨_, ya, va, ra, da⟩ := (show ObjOk X.prog X.w H s.heap a (.dK ks) from I.hok a _ ea)
  obtain ⟨_, yb, vb, rb, db⟩ := (show ObjOk X.prog X.w H s.heap b (.dK ls) from I.hok b _ eb)
  have hl : va.length = vb.length := by rw [← ra.length, ← rb.length]; exact hlen
  exact PySem.W.keq_ne (knd := mixKind X.prog X.w) (r := true) ya yb da db (by omega) (fun _ => hits_data I hu rb ra hp) (fin_bl I q (by simp [hl]))
end
section
open PySem PySem.Spec PyProof.Rows L2
/-- o.m(e, .., k = v, ..): n values by place, o among them -/
def tMethN (C : Addr) (m : Str) (n c : Nat) (sp : Sp) (gV : List V → List V → List V) (E : XK) (ta : TE) (t tk : TA) : TE := fun σ H Q => ta σ H fun x H1 => ∃ a dx fs, x = .ref a ∧ H1 a = some (.ins C dx fs) ∧ fs.lookup m = none ∧
  t σ H1 fun vs H2 => tk σ H2 fun zs H3 => vs.length + 1 = n ∧ zs.length = c ∧ sp (gV (.ref a :: vs) zs) H3 Q E
theorem pe_methN {X : Cx} {CX : CXT} {k n : Nat} {f C : Addr} {fd : FuncData} {ps ks : List Str} {sp : Sp} {E : XK} {m : Str} {pos apos : Pos} {e o : Expr} {es : List Expr} {kws : List Keyword} {ta : TE} {t tk : TA} {pl : Sem Bool} {g : List Value → List Value → List Value} {gV : List V → List V → List V}
    (he : PE X o ta) (c : Cls X.K C) (hm : Meth X.K C m f) (F : FnOk X.prog X.w X.K X.mg X.base CX k f fd ps sp) (hr : Room k X.A) (hb : KBn X.K fd ps n ks g gV) (hx : Passes CX X E) (ha : PA X (e :: es) t) (hkw : PK X kws tk)
    (hall : (backToKw pos (keywordEach kws X.env)).all (·.1.isSome) = true := by rfl) (hks : (backToKw pos (keywordEach kws X.env)).filterMap (·.1) = ks := by rfl) (hst : starEach (e :: es) X.env = (false, eval e X.env) :: starEach es X.env := by rfl)
    (hpl : ((backTo pos (starEach (e :: es) X.env)).any (·.1) || (backToKw pos (keywordEach kws X.env)).any (·.1.isNone)) = false := by rfl)
    (ht : eval (.Call (.Attribute o m apos) (e :: es) kws pos) X.env = (do let ov ← eval o X.env; standAt apos.atName; let (f, first) ← holding [ov] (getMethod ov m pl); callWith pos f first (backTo pos (starEach (e :: es) X.env)) (backToKw pos (keywordEach kws X.env))) := by rfl) :
    PE X (.Call (.Attribute o m apos) (e :: es) kws pos) (tMethN C m n ks.length sp gV E ta t tk) := by
  constructor
  intro pins s σ H Q I h
  refine PySem.W.methodCall_KW (pl := pl) (thn (he.run pins s σ H _ I h) ?_) ht
  rintro u s1 ⟨x, H1, I1, rx, a, dx, fs, rfl, ea, l, q⟩
  cases rx
  apply getmeth_ok I1 ea c hm l
  refine PySem.W.callWith_KW (first := [.ref a]) (h₀ := X.base) I.ok.mod.kin hm.kp hall (thn (ha.run pos pins s1 σ H1 _ I1 q) ?_) hpl hst
  rintro us s2 ⟨vs, H2, I2, r, q2⟩
  refine thn (hkw.run pos pins s2 σ H2 _ I2 q2) ?_
  rintro ws s3 ⟨zs, H3, I3, rz, l1, l2, q3⟩
  refine ⟨I3.kIn, ?_⟩
  rw [hks]
  exact run_fnN (us := .ref a :: us) (vs := .ref a :: vs) F hr hb hx I3 (.cons rfl r) rz l1 l2 q3
end

def top (i : Nat) : Stmt := PySem.Challenge.pw_stampedwait_k23_whole_never_barred_holds.main.body.getD i (.Pass ⟨0, 0, 0, 0⟩)
abbrev s_bars : Stmt := top 7
abbrev s_is_enough : Stmt := top 8
abbrev s_Holds___init__ : Stmt := inClass (top 9) 0
abbrev s_Holds_wait_no_more : Stmt := inClass (top 9) 8
abbrev s_Holds_call_off : Stmt := inClass (top 9) 7
abbrev s_Holds_outlasts : Stmt := inClass (top 9) 6
abbrev s_Holds_barring : Stmt := inClass (top 9) 5
abbrev s_Holds_ask : Stmt := inClass (top 9) 2
abbrev s_Holds_pledge : Stmt := inClass (top 9) 9
abbrev s_Holds_free : Stmt := inClass (top 9) 11
abbrev s_Holds_of : Stmt := inClass (top 9) 12
abbrev s_Holds_waiting : Stmt := inClass (top 9) 13
abbrev s_Holds_called_off : Stmt := inClass (top 9) 15
abbrev s_Holds_pledged : Stmt := inClass (top 9) 16
abbrev s_Holds_make_own : Stmt := inClass (top 9) 1
abbrev s_Holds_way_of : Stmt := inClass (top 9) 4
abbrev s_Holds_hold_so : Stmt := inClass (top 9) 3
abbrev s_l_bag : Stmt := top 11
abbrev s_l_out : Stmt := top 12
abbrev s_l_step : Stmt := top 13
abbrev s_l_keys_right : Stmt := top 14
abbrev s_l_waits_right : Stmt := top 15
abbrev s_law : Stmt := top 16
theorem sc_bars : FnScope ["mode", "other_mode"] ["mode", "other_mode"] (defScope s_bars) := ⟨rfl, rfl, rfl, by decide +kernel, rfl, by decide +kernel, by decide +kernel⟩
theorem sc_is_enough : FnScope ["has", "mode"] ["has", "mode"] (defScope s_is_enough) := ⟨rfl, rfl, rfl, by decide +kernel, rfl, by decide +kernel, by decide +kernel⟩
theorem sc_Holds___init__ : FnScope ["self"] ["self"] (defScope s_Holds___init__) := ⟨rfl, rfl, rfl, by decide +kernel, rfl, by decide +kernel, by decide +kernel⟩
theorem sc_Holds_wait_no_more : FnScope ["self", "dealing"] ["self", "dealing"] (defScope s_Holds_wait_no_more) := ⟨rfl, rfl, rfl, by decide +kernel, rfl, by decide +kernel, by decide +kernel⟩
theorem sc_Holds_call_off : FnScope ["self", "dealing"] ["self", "dealing"] (defScope s_Holds_call_off) := ⟨rfl, rfl, rfl, by decide +kernel, rfl, by decide +kernel, by decide +kernel⟩
theorem sc_Holds_outlasts : FnScope ["self", "other", "dealing"] ["self", "other", "dealing"] (defScope s_Holds_outlasts) := ⟨rfl, rfl, rfl, by decide +kernel, rfl, by decide +kernel, by decide +kernel⟩
theorem sc_Holds_barring : FnScope ["self", "dealing", "key", "mode", "other"] ["self", "dealing", "key", "mode"] (defScope s_Holds_barring) := ⟨rfl, rfl, rfl, by decide +kernel, rfl, by decide +kernel, by decide +kernel⟩
theorem sc_Holds_ask : FnScope ["self", "dealing", "key", "mode", "age", "barring", "off", "other"] ["self", "dealing", "key", "mode", "age"] (defScope s_Holds_ask) := ⟨rfl, rfl, rfl, by decide +kernel, rfl, by decide +kernel, by decide +kernel⟩
theorem sc_Holds_pledge : FnScope ["self", "dealing"] ["self", "dealing"] (defScope s_Holds_pledge) := ⟨rfl, rfl, rfl, by decide +kernel, rfl, by decide +kernel, by decide +kernel⟩
theorem sc_Holds_free : FnScope ["self", "dealing", "forget"] ["self", "dealing", "forget"] (defScope s_Holds_free) := ⟨rfl, rfl, rfl, by decide +kernel, rfl, by decide +kernel, by decide +kernel⟩
theorem sc_Holds_of : FnScope ["self", "dealing", "mine", "key"] ["self", "dealing"] (defScope s_Holds_of) := ⟨rfl, rfl, rfl, by decide +kernel, rfl, by decide +kernel, by decide +kernel⟩
theorem sc_Holds_waiting : FnScope ["self", "told", "dealing", "key", "mode", "others", "other"] ["self"] (defScope s_Holds_waiting) := ⟨rfl, rfl, rfl, by decide +kernel, rfl, by decide +kernel, by decide +kernel⟩
theorem sc_Holds_called_off : FnScope ["self"] ["self"] (defScope s_Holds_called_off) := ⟨rfl, rfl, rfl, by decide +kernel, rfl, by decide +kernel, by decide +kernel⟩
theorem sc_Holds_pledged : FnScope ["self"] ["self"] (defScope s_Holds_pledged) := ⟨rfl, rfl, rfl, by decide +kernel, rfl, by decide +kernel, by decide +kernel⟩
theorem sc_Holds_make_own : FnScope ["self"] ["self"] (defScope s_Holds_make_own) := ⟨rfl, rfl, rfl, by decide +kernel, rfl, by decide +kernel, by decide +kernel⟩
theorem sc_Holds_way_of : FnScope ["self", "dealing", "key", "mine"] ["self", "dealing", "key"] (defScope s_Holds_way_of) := ⟨rfl, rfl, rfl, by decide +kernel, rfl, by decide +kernel, by decide +kernel⟩
theorem sc_Holds_hold_so : FnScope ["self", "dealing", "key", "mode", "mine"] ["self", "dealing", "key", "mode"] (defScope s_Holds_hold_so) := ⟨rfl, rfl, rfl, by decide +kernel, rfl, by decide +kernel, by decide +kernel⟩
theorem sc_l_bag : FnScope ["_law_script", "_law_k", "_law_cell", "_law_great"] ["_law_script", "_law_k"] (defScope s_l_bag) := ⟨rfl, rfl, rfl, by decide +kernel, rfl, by decide +kernel, by decide +kernel⟩
theorem sc_l_out : FnScope ["_law_bag_here", "_law_many", "_law_found"] ["_law_bag_here", "_law_many"] (defScope s_l_out) := ⟨rfl, rfl, rfl, by decide +kernel, rfl, by decide +kernel, by decide +kernel⟩
theorem sc_l_step : FnScope ["_law_bag_here", "_law_holds", "_law_dealing", "_law_way"] ["_law_bag_here", "_law_holds"] (defScope s_l_step) := ⟨rfl, rfl, rfl, by decide +kernel, rfl, by decide +kernel, by decide +kernel⟩
theorem sc_l_keys_right : FnScope ["_law_holds", "_law_key", "_law_modes", "_law_dealing"] ["_law_holds"] (defScope s_l_keys_right) := ⟨rfl, rfl, rfl, by decide +kernel, rfl, by decide +kernel, by decide +kernel⟩
theorem sc_l_waits_right : FnScope ["_law_holds", "_law_some", "_law_fast", "_law_dealing", "_law_ends", "_law_other"] ["_law_holds"] (defScope s_l_waits_right) := ⟨rfl, rfl, rfl, by decide +kernel, rfl, by decide +kernel, by decide +kernel⟩
theorem sc_law : FnScope ["_law_script", "_law_holds", "_law_k", "_law_bag_here"] ["_law_script"] (defScope s_law) := ⟨rfl, rfl, rfl, by decide +kernel, rfl, by decide +kernel, by decide +kernel⟩
/-- what the top has written -/
structure Txt (K : PySem.W.Frag) (mg : Str → Option Value) (a : Nat → Addr) (d : Nat → FuncData) : Prop where
  g_bars : mg "bars" = some (.ref (a 0))
  F_bars : Fun K "bars" "bars" s_bars (a 0) (d 0)
  b_bars : Binds K (d 0) ["mode", "other_mode"] []
  g_is_enough : mg "is_enough" = some (.ref (a 1))
  F_is_enough : Fun K "is_enough" "is_enough" s_is_enough (a 1) (d 1)
  b_is_enough : Binds K (d 1) ["has", "mode"] []
  F_Holds___init__ : Fun K "__init__" "Holds.__init__" s_Holds___init__ (a 2) (d 2)
  b_Holds___init__ : Binds K (d 2) ["self"] []
  m_Holds___init__ : Mk K (a 23) (a 2)
  F_Holds_wait_no_more : Fun K "wait_no_more" "Holds.wait_no_more" s_Holds_wait_no_more (a 3) (d 3)
  b_Holds_wait_no_more : Binds K (d 3) ["self", "dealing"] []
  m_Holds_wait_no_more : Meth K (a 23) "wait_no_more" (a 3)
  F_Holds_call_off : Fun K "call_off" "Holds.call_off" s_Holds_call_off (a 4) (d 4)
  b_Holds_call_off : Binds K (d 4) ["self", "dealing"] []
  m_Holds_call_off : Meth K (a 23) "call_off" (a 4)
  F_Holds_outlasts : Fun K "outlasts" "Holds.outlasts" s_Holds_outlasts (a 5) (d 5)
  b_Holds_outlasts : Binds K (d 5) ["self", "other", "dealing"] []
  m_Holds_outlasts : Meth K (a 23) "outlasts" (a 5)
  F_Holds_barring : Fun K "barring" "Holds.barring" s_Holds_barring (a 6) (d 6)
  b_Holds_barring : Binds K (d 6) ["self", "dealing", "key", "mode"] []
  m_Holds_barring : Meth K (a 23) "barring" (a 6)
  F_Holds_ask : FunD K "ask" "Holds.ask" (defArgs s_Holds_ask) (defBody s_Holds_ask) (defScope s_Holds_ask) [] [("age", .non)] (a 7) (d 7)
  c_Holds_ask : ∃ ds, Vals [.non] ds ∧ Binds K (d 7) ["self", "dealing", "key", "mode", "age"] ds
  k_Holds_ask : ∃ mv : List Value, KBn K (d 7) ["self", "dealing", "key", "mode", "age"] 4 ["age"] (fun us ws => us ++ (mv ++ ws)) (fun vs zs => vs ++ ([] ++ zs))
  m_Holds_ask : Meth K (a 23) "ask" (a 7)
  F_Holds_pledge : Fun K "pledge" "Holds.pledge" s_Holds_pledge (a 8) (d 8)
  b_Holds_pledge : Binds K (d 8) ["self", "dealing"] []
  m_Holds_pledge : Meth K (a 23) "pledge" (a 8)
  F_Holds_free : FunD K "free" "Holds.free" (defArgs s_Holds_free) (defBody s_Holds_free) (defScope s_Holds_free) [] [("forget", .bl false)] (a 9) (d 9)
  c_Holds_free : ∃ ds, Vals [.bl false] ds ∧ Binds K (d 9) ["self", "dealing", "forget"] ds
  k_Holds_free : ∃ mv : List Value, KBn K (d 9) ["self", "dealing", "forget"] 2 ["forget"] (fun us ws => us ++ (mv ++ ws)) (fun vs zs => vs ++ ([] ++ zs))
  m_Holds_free : Meth K (a 23) "free" (a 9)
  F_Holds_of : Fun K "of" "Holds.of" s_Holds_of (a 10) (d 10)
  b_Holds_of : Binds K (d 10) ["self", "dealing"] []
  m_Holds_of : Meth K (a 23) "of" (a 10)
  F_Holds_waiting : Fun K "waiting" "Holds.waiting" s_Holds_waiting (a 11) (d 11)
  b_Holds_waiting : Binds K (d 11) ["self"] []
  m_Holds_waiting : Meth K (a 23) "waiting" (a 11)
  F_Holds_called_off : Fun K "called_off" "Holds.called_off" s_Holds_called_off (a 12) (d 12)
  b_Holds_called_off : Binds K (d 12) ["self"] []
  m_Holds_called_off : Meth K (a 23) "called_off" (a 12)
  F_Holds_pledged : Fun K "pledged" "Holds.pledged" s_Holds_pledged (a 13) (d 13)
  b_Holds_pledged : Binds K (d 13) ["self"] []
  m_Holds_pledged : Meth K (a 23) "pledged" (a 13)
  F_Holds_make_own : Fun K "make_own" "Holds.make_own" s_Holds_make_own (a 14) (d 14)
  b_Holds_make_own : Binds K (d 14) ["self"] []
  m_Holds_make_own : Meth K (a 23) "make_own" (a 14)
  F_Holds_way_of : Fun K "way_of" "Holds.way_of" s_Holds_way_of (a 15) (d 15)
  b_Holds_way_of : Binds K (d 15) ["self", "dealing", "key"] []
  m_Holds_way_of : Meth K (a 23) "way_of" (a 15)
  F_Holds_hold_so : Fun K "hold_so" "Holds.hold_so" s_Holds_hold_so (a 16) (d 16)
  b_Holds_hold_so : Binds K (d 16) ["self", "dealing", "key", "mode"] []
  m_Holds_hold_so : Meth K (a 23) "hold_so" (a 16)
  g_l_bag : mg "_law_bag" = some (.ref (a 17))
  F_l_bag : Fun K "_law_bag" "_law_bag" s_l_bag (a 17) (d 17)
  b_l_bag : Binds K (d 17) ["_law_script", "_law_k"] []
  g_l_out : mg "_law_out" = some (.ref (a 18))
  F_l_out : Fun K "_law_out" "_law_out" s_l_out (a 18) (d 18)
  b_l_out : Binds K (d 18) ["_law_bag_here", "_law_many"] []
  g_l_step : mg "_law_step" = some (.ref (a 19))
  F_l_step : Fun K "_law_step" "_law_step" s_l_step (a 19) (d 19)
  b_l_step : Binds K (d 19) ["_law_bag_here", "_law_holds"] []
  g_l_keys_right : mg "_law_keys_right" = some (.ref (a 20))
  F_l_keys_right : Fun K "_law_keys_right" "_law_keys_right" s_l_keys_right (a 20) (d 20)
  b_l_keys_right : Binds K (d 20) ["_law_holds"] []
  g_l_waits_right : mg "_law_waits_right" = some (.ref (a 21))
  F_l_waits_right : Fun K "_law_waits_right" "_law_waits_right" s_l_waits_right (a 21) (d 21)
  b_l_waits_right : Binds K (d 21) ["_law_holds"] []
  g_law : mg "law" = some (.ref (a 22))
  F_law : Fun K "law" "law" s_law (a 22) (d 22)
  b_law : Binds K (d 22) ["_law_script"] []
  g_Holds : mg "Holds" = some (.ref (a 23))
  cl : Cls K (a 23)
  n_held : NoAttr K (a 23) "held"
  n_ages : NoAttr K (a 23) "ages"
  n_askings : NoAttr K (a 23) "askings"
  n_offs : NoAttr K (a 23) "offs"
  n_bound : NoAttr K (a 23) "bound"
  n_lent : NoAttr K (a 23) "lent"
  g_WRITE : ∃ t, mg "WRITE" = some (.str "write" t)
  g_HELD : ∃ t, mg "HELD" = some (.str "held" t)
  g_WAITS : ∃ t, mg "WAITS" = some (.str "waits" t)
  z_max : mg "max" = none
  z_min : mg "min" = none
  z_len : mg "len" = none
  z_range : mg "range" = none
  z_sorted : mg "sorted" = none
  z_list : mg "list" = none
  z_dict : mg "dict" = none

theorem bl_of {Q : VK} {H : Hp} {c : Prop} [Decidable c] (h : c) (q : Q (.bl true) H) : Q (.bl (decide c)) H := by
  rw [decide_eq_true h]
  exact q
theorem bl_no {Q : VK} {H : Hp} {c : Prop} [Decidable c] (h : ¬ c) (q : Q (.bl false) H) : Q (.bl (decide c)) H := by
  rw [decide_eq_false h]
  exact q
theorem iteDT {c A B : Prop} [Decidable c] (h : c) (a : A) : if decide c = true then A else B := by
  rw [if_pos (decide_eq_true h)]
  exact a
theorem iteDF {c A B : Prop} [Decidable c] (h : ¬ c) (b : B) : if decide c = true then A else B := by
  rw [decide_eq_false h]
  exact iteF b
theorem iteND {c A B : Prop} [Decidable c] (h : ¬ c) (a : A) : if (!decide c) = true then A else B := by
  rw [decide_eq_false h]
  exact iteT a
theorem iteBT {c : Bool} {A B : Prop} (h : c = true) (a : A) : if c = true then A else B := by
  rw [if_pos h]
  exact a
theorem iteBF {c : Bool} {A B : Prop} (h : c = false) (b : B) : if c = true then A else B := by
  rw [h]
  exact iteF b
theorem len3 : 3 ≤ sizeLine := by decide
theorem len2 : 2 ≤ sizeLine := by decide
theorem len1 : 1 ≤ sizeLine := by decide
theorem m64 {i : Int} (a : -18446744073709551616 < i) (b : i < 18446744073709551616) : -(2 ^ 64) < i ∧ i < 2 ^ 64 := by
  have e : (2 : Int) ^ 64 = 18446744073709551616 := by decide
  rw [e]
  exact ⟨a, b⟩
theorem divW {i j : Int} (h : 0 < j) (hb : j ≤ 1000000000000000000000000000000) : CDivW i j := wide_div (b := 200) h (by
  have e : (j.natAbs : Int) = j := by omega
  have q : (j.natAbs : Int) < ((2 ^ 200 : Nat) : Int) := by rw [e]; exact Int.lt_of_le_of_lt hb (by decide)
  exact Int.ofNat_lt.mp q) (by decide) (by decide)
/-! ### heaps -/
/-- all that was tracked but x stands -/
def Fr (x : Addr) (H H' : Hp) : Prop := ∀ b o, b ≠ x → H b = some o → H' b = some o
theorem Fr.refl (x : Addr) (H : Hp) : Fr x H H := fun _ _ _ e => e
theorem Fr.trans {x : Addr} {H H1 H2 : Hp} (a : Fr x H H1) (b : Fr x H1 H2) : Fr x H H2 := fun c o n e => b c o n (a c o n e)
theorem fr_same {x : Addr} {H H' : Hp} (s : Same H H') : Fr x H H' := fun b o _ e => s b o e
theorem Fr.new {x p : Addr} {H H1 : Hp} {o : HO} (k : Fr x H H1) (hp : H1 p = none) : Fr x H (upd H1 p o) := fun b u n e => by
  rw [upd_ne (ne_of_none (k b u n e) hp)]
  exact k b u n e
theorem Fr.put {x : Addr} {H H1 : Hp} {o : HO} (k : Fr x H H1) : Fr x H (upd H1 x o) := fun b u n e => by
  rw [upd_ne n]
  exact k b u n e
theorem Fr.over {x : Addr} {H0 H H1 : Hp} (a : Same H0 H) (hx : H0 x = none) (k : Fr x H H1) : Same H0 H1 := fun b o e => k b o (ne_of_none e hx) (a b o e)
theorem same_new {H0 H : Hp} {p : Addr} {o : HO} (a : Same H0 H) (hp : H p = none) : Same H0 (upd H p o) := fun b u e => by
  rw [upd_ne (ne_of_none (a b u e) hp)]
  exact a b u e
/-- a thing that may be changed -/
def Mut : HO → Prop
  | .lst _ => True
  | .ins _ _ _ => True
  | _ => False
theorem Fr.tup {x p : Addr} {H H' : Hp} {o : HO} {xs : List V} (k : Fr x H H') (hx : H x = some o) (m : Mut o) (hp : H p = some (.tup xs)) : H' p = some (.tup xs) :=
  k p _ (ne_of hp hx (by intro e; subst e; exact m)) hp
theorem Fr.sqt {K : PySem.W.Frag} {x p : Addr} {H H' : Hp} {o : HO} {xs : List V} (k : Fr x H H') (hx : H x = some o) (m : Mut o) (h : SqT K H p xs) : SqT K H' p xs := by
  rcases h with (h | ⟨u, h⟩) | h
  · exact .inl (.inl (k p _ (ne_of h hx (by intro e; subst e; exact m)) h))
  · exact .inl (.inr ⟨u, k p _ (ne_of h hx (by intro e; subst e; exact m)) h⟩)
  · exact .inr h
theorem same_sqt {K : PySem.W.Frag} {p : Addr} {H H' : Hp} {xs : List V} (k : Same H H') (h : SqT K H p xs) : SqT K H' p xs := by
  rcases h with (h | ⟨u, h⟩) | h
  · exact .inl (.inl (k p _ h))
  · exact .inl (.inr ⟨u, k p _ h⟩)
  · exact .inr h
theorem sqt_ty {K : PySem.W.Frag} {H : Hp} {p : Addr} {xs : List V} (h : SqT K H p xs) : TyX K H (.ref p) (.type "tuple") := by
  rcases h with (h | ⟨u, h⟩) | ⟨o, its, n, h1, h2, _⟩
  · exact .base (.tup h)
  · exact .fTuple h
  · exact .kTuple h1 h2
/-! ### draws -/
def BagAt (H : Hp) (s : Addr) : Prop := ∃ a b : Int, H s = some (.lst [.int a, .int b]) ∧ 0 ≤ b ∧ b < 2147483647
theorem BagAt.ex {H : Hp} {s : Addr} (h : BagAt H s) : ∃ o, H s = some o ∧ Mut o := by
  obtain ⟨a, b, e, _⟩ := h
  exact ⟨_, e, trivial⟩
theorem BagAt.same {H H' : Hp} {s : Addr} (h : BagAt H s) (k : Same H H') : BagAt H' s := by
  obtain ⟨a, b, e, r⟩ := h
  exact ⟨a, b, k _ _ e, r⟩
theorem BagAt.new {H : Hp} {s p : Addr} {o : HO} (h : BagAt H s) (hp : H p = none) : BagAt (upd H p o) s := h.same (same_new (Same.refl H) hp)
theorem BagAt.ne_new {H : Hp} {s p : Addr} (h : BagAt H s) (hp : H p = none) : p ≠ s := by
  obtain ⟨a, b, e, _⟩ := h
  exact (ne_of_none e hp).symm
theorem BagAt.fr {H H' : Hp} {s x : Addr} (h : BagAt H s) (k : Fr x H H') (ne : s ≠ x) : BagAt H' s := by
  obtain ⟨a, b, e, r⟩ := h
  exact ⟨a, b, k _ _ ne e, r⟩
theorem BagAt.some_ {H : Hp} {s : Addr} (h : BagAt H s) : ∃ o, H s = some o := by
  obtain ⟨a, b, e, _⟩ := h
  exact ⟨_, e⟩
theorem BagAt.ne_none {H : Hp} {s p : Addr} (h : BagAt H s) (hp : H p = none) : s ≠ p := (h.ne_new hp).symm
theorem same_make {H : Hp} {x dx : Addr} {o1 o2 : HO} (nx : H x = none) (ndx : H dx = none) : Same H (upd (upd H dx o1) x o2) := fun b o e => by
  rw [upd_ne (ne_of_none e nx), upd_ne (ne_of_none e ndx)]
  exact e
def spBag (K : PySem.W.Frag) : Sp := fun vs H Q _ => ∃ (l : Addr) (ns : List Int) (k : Int), vs = [.ref l, .int k] ∧ SqL K H l (ns.map V.int) ∧ 0 ≤ k ∧ k ≤ 100 ∧ ∀ (p : Addr) (H' : Hp), H p = none → Same H H' → BagAt H' p → Q (.ref p) H'
def spOut : Sp := fun vs H Q _ => ∃ (s : Addr) (m : Int), vs = [.ref s, .int m] ∧ BagAt H s ∧ 0 < m ∧ m ≤ 1000000000000000000000000000000 ∧ ∀ (r : Int) (H' : Hp), 0 ≤ r → r < m → Fr s H H' → BagAt H' s → Q (.int r) H'
def spLaw (K : PySem.W.Frag) : Sp := fun vs H Q _ => ∃ (a : Addr) (ns : List Int), vs = [.ref a] ∧ SqL K H a (ns.map V.int) ∧ ns.length ≤ 63 ∧ ∀ H', Q (.bl true) H'
/-! ### dicts as functions -/
structure Good (us : List Key) (kv : List (Key × V)) : Prop where
  nd : (kv.map (·.1)).Nodup
  ks : ∀ p ∈ kv, p.1 ∈ us
theorem nodup_le {α : Type} [DecidableEq α] : ∀ {l us : List α}, l.Nodup → (∀ x ∈ l, x ∈ us) → l.length ≤ us.length
  | [], us, _, _ => Nat.zero_le _
  | a :: l, us, h, hs => by
    rw [List.nodup_cons] at h
    have ha : a ∈ us := hs a (List.mem_cons_self ..)
    have z := nodup_le (us := us.erase a) h.2 fun x hx => (List.mem_erase_of_ne (fun e : x = a => h.1 (e ▸ hx))).mpr (hs x (List.mem_cons_of_mem _ hx))
    rw [List.length_erase_of_mem ha] at z
    have : 0 < us.length := List.length_pos_of_mem ha
    rw [List.length_cons]
    omega
theorem Good.len {us : List Key} {kv : List (Key × V)} (g : Good us kv) : kv.length ≤ us.length := by
  have z := nodup_le g.nd fun x hx => by
    obtain ⟨p, hp, rfl⟩ := List.mem_map.mp hx
    exact g.ks p hp
  rwa [List.length_map] at z
theorem Good.nil (us : List Key) : Good us [] := ⟨by simp, fun p hp => by cases hp⟩
theorem val_mem {kv : List (Key × V)} {k : Key} {v : V} (h : valV kv k = some v) : (k, v) ∈ kv := by
  unfold valV at h
  obtain ⟨p, hp, e⟩ := Option.map_eq_some_iff.mp h
  have z := List.find?_some hp
  have y := List.mem_of_find?_eq_some hp
  have z' : p.1 = k := of_decide_eq_true z
  rw [← z', ← e]
  exact y
theorem val_none {kv : List (Key × V)} {k : Key} (h : valV kv k = none) : ¬ k ∈ kv.map (·.1) := valV_not h
theorem mem_val {kv : List (Key × V)} (nd : (kv.map (·.1)).Nodup) {p : Key × V} (hp : p ∈ kv) : valV kv p.1 = some p.2 := val_nodup nd p hp
theorem Good.put {us : List Key} {kv : List (Key × V)} {k : Key} (g : Good us kv) (h : k ∈ us) (v : V) : Good us (putK kv k v) := by
  unfold putK
  split
  · rename_i c
    refine ⟨?_, fun p hp => ?_⟩
    · rw [List.map_map]
      have e : kv.map ((fun p : Key × V => p.1) ∘ fun p => if p.1 = k then (p.1, v) else p) = kv.map (·.1) := List.map_congr_left fun p _ => by
        by_cases z : p.1 = k <;> simp [z]
      rw [e]
      exact g.nd
    · obtain ⟨q, hq, rfl⟩ := List.mem_map.mp hp
      by_cases z : q.1 = k
      · rw [if_pos z]; exact g.ks q hq
      · rw [if_neg z]; exact g.ks q hq
  · rename_i c
    rw [valV_any] at c
    have c' : valV kv k = none := by
      cases e : valV kv k with
      | none => rfl
      | some v => rw [e] at c; exact absurd rfl c
    refine ⟨?_, fun p hp => ?_⟩
    · rw [List.map_append, List.nodup_append]
      refine ⟨g.nd, by simp, fun a ha b hb e => ?_⟩
      rw [List.mem_singleton.mp hb] at e
      have e' : a = k := e
      exact val_none c' (e' ▸ ha)
    · rcases List.mem_append.mp hp with hq | hq
      · exact g.ks p hq
      · rw [List.mem_singleton.mp hq]; exact h
theorem Good.drop {us : List Key} {kv : List (Key × V)} (g : Good us kv) (k : Key) : Good us (dropK kv k) := by
  unfold dropK
  exact ⟨((List.filter_sublist (l := kv)).map _).nodup g.nd, fun p hp => g.ks p (List.mem_filter.mp hp).1⟩
theorem val_drop (k j : Key) : ∀ kv : List (Key × V), valV (dropK kv k) j = if j = k then none else valV kv j
  | [] => by split <;> rfl
  | p :: r => by
    have ih := val_drop k j r
    unfold dropK at ih ⊢
    rw [List.filter_cons]
    by_cases h : p.1 = k
    · rw [if_neg (by simp [h]), ih]
      by_cases e : j = k
      · rw [if_pos e, if_pos e]
      · rw [if_neg e, if_neg e, valV_neg (fun z => e (z.symm.trans h))]
    · rw [if_pos (by simp [h])]
      by_cases e : p.1 = j
      · rw [valV_pos e, valV_pos e, if_neg (fun z => h (e.trans z))]
      · rw [valV_neg e, valV_neg e, ih]
/-- a dict at a that holds what f tells -/
def DAt (us : List Key) (H : Hp) (a : Addr) (f : Key → Option V) : Prop := ∃ kv, H a = some (.dK kv) ∧ Good us kv ∧ ∀ k, valV kv k = f k
theorem DAt.keep {us : List Key} {H H' : Hp} {a : Addr} {f : Key → Option V} (h : DAt us H a f) (e : ∀ o, H a = some o → H' a = some o) : DAt us H' a f := by
  obtain ⟨kv, ha, g, v⟩ := h
  exact ⟨kv, e _ ha, g, v⟩
theorem DAt.ne {us : List Key} {H : Hp} {a q : Addr} {o : HO} {f : Key → Option V} (h : DAt us H a f) (n : a ≠ q) : DAt us (upd H q o) a f :=
  h.keep fun u e => by rw [upd_ne n]; exact e
def kI (f : Int → Option V) : Key → Option V
  | .inl i => f i
  | .inr _ => none
def kS (f : Str → Option V) : Key → Option V
  | .inr z => f z
  | .inl _ => none
theorem kI_put {kv : List (Key × V)} {g : Int → Option V} (h : ∀ k, valV kv k = kI g k) (i : Int) (v : V) : ∀ k, valV (putK kv (Sum.inl i) v) k = kI (fun j => if j = i then some v else g j) k := fun k => by
  rw [valV_put, h]
  cases k with
  | inl j =>
    by_cases e : j = i
    · subst e; rw [if_pos rfl]; show _ = if j = j then some v else g j; rw [if_pos rfl]
    · rw [if_neg (fun z => e (Sum.inl.inj z))]; show _ = if j = i then some v else g j; rw [if_neg e]; rfl
  | inr z => rw [if_neg (fun q => by cases q)]; rfl
theorem kI_drop {kv : List (Key × V)} {g : Int → Option V} (h : ∀ k, valV kv k = kI g k) (i : Int) : ∀ k, valV (dropK kv (Sum.inl i)) k = kI (fun j => if j = i then none else g j) k := fun k => by
  rw [val_drop, h]
  cases k with
  | inl j =>
    by_cases e : j = i
    · subst e; rw [if_pos rfl]; show _ = if j = j then none else g j; rw [if_pos rfl]
    · rw [if_neg (fun z => e (Sum.inl.inj z))]; show _ = if j = i then none else g j; rw [if_neg e]; rfl
  | inr z => rw [if_neg (fun q => by cases q)]; rfl
theorem kS_put {kv : List (Key × V)} {g : Str → Option V} (h : ∀ k, valV kv k = kS g k) (i : Str) (v : V) : ∀ k, valV (putK kv (Sum.inr i) v) k = kS (fun j => if j = i then some v else g j) k := fun k => by
  rw [valV_put, h]
  cases k with
  | inr j =>
    by_cases e : j = i
    · subst e; rw [if_pos rfl]; show _ = if j = j then some v else g j; rw [if_pos rfl]
    · rw [if_neg (fun z => e (Sum.inr.inj z))]; show _ = if j = i then some v else g j; rw [if_neg e]; rfl
  | inl z => rw [if_neg (fun q => by cases q)]; rfl
/-- dropping what isn't there -/
theorem kI_drop_none {kv : List (Key × V)} {g : Int → Option V} (h : ∀ k, valV kv k = kI g k) {i : Int} (n : valV kv (Sum.inl i) = none) : ∀ k, valV kv k = kI (fun j => if j = i then none else g j) k := fun k => by
  rw [h]
  cases k with
  | inl j =>
    show g j = if j = i then none else g j
    by_cases e : j = i
    · subst e; rw [if_pos rfl, ← n, h]; rfl
    · rw [if_neg e]
  | inr z => rfl
/-! ### holds as functions -/
structure HS where
  held : Int → Str → Option Str
  ages : Int → Option Int
  asks : Int → Option (Str × Str)
  offs : Int → Bool
  bnd : Int → Bool
def HS.none : HS := ⟨fun _ _ => .none, fun _ => .none, fun _ => .none, fun _ => false, fun _ => false⟩
def HS.setAge (s : HS) (d a : Int) : HS := { s with ages := fun i => if i = d then some a else s.ages i }
def HS.noAge (s : HS) (d : Int) : HS := { s with ages := fun i => if i = d then .none else s.ages i }
def HS.noAsk (s : HS) (d : Int) : HS := { s with asks := fun i => if i = d then .none else s.asks i }
def HS.setAsk (s : HS) (d : Int) (k m : Str) : HS := { s with asks := fun i => if i = d then some (k, m) else s.asks i }
def HS.setOff (s : HS) (d : Int) : HS := { s with offs := fun i => if i = d then true else s.offs i }
def HS.noOff (s : HS) (d : Int) : HS := { s with offs := fun i => if i = d then false else s.offs i }
def HS.setBnd (s : HS) (d : Int) : HS := { s with bnd := fun i => if i = d then true else s.bnd i }
def HS.noBnd (s : HS) (d : Int) : HS := { s with bnd := fun i => if i = d then false else s.bnd i }
def HS.noHeld (s : HS) (d : Int) : HS := { s with held := fun i => if i = d then fun _ => .none else s.held i }
def HS.hold (s : HS) (d : Int) (k m : Str) : HS := { s with held := fun i z => if i = d then (if z = k then some m else s.held d z) else s.held i z }
structure HA where
  h : Addr
  g : Addr
  k : Addr
  o : Addr
  b : Addr
def HA.all (A : HA) : List Addr := [A.h, A.g, A.k, A.o, A.b]
structure HA.Ne (A : HA) : Prop where
  hg : A.h ≠ A.g
  hk : A.h ≠ A.k
  ho : A.h ≠ A.o
  hb : A.h ≠ A.b
  gk : A.g ≠ A.k
  go : A.g ≠ A.o
  gb : A.g ≠ A.b
  ko : A.k ≠ A.o
  kb : A.k ≠ A.b
  ob : A.o ≠ A.b
theorem HA.inH (A : HA) : A.h ∈ A.all := by simp [HA.all]
theorem HA.inG (A : HA) : A.g ∈ A.all := by simp [HA.all]
theorem HA.inK (A : HA) : A.k ∈ A.all := by simp [HA.all]
theorem HA.inO (A : HA) : A.o ∈ A.all := by simp [HA.all]
theorem HA.inB (A : HA) : A.b ∈ A.all := by simp [HA.all]
structure Un where
  ds : List Int
  ks : List Str
def Un.di (U : Un) : List Key := U.ds.map Sum.inl
def Un.ki (U : Un) : List Key := U.ks.map Sum.inr
theorem Un.inI {U : Un} {i : Int} (h : i ∈ U.ds) : (Sum.inl i : Key) ∈ U.di := List.mem_map.mpr ⟨i, h, rfl⟩
theorem Un.inS {U : Un} {i : Str} (h : i ∈ U.ks) : (Sum.inr i : Key) ∈ U.ki := List.mem_map.mpr ⟨i, h, rfl⟩
def hne (a b : Str) : Prop := ¬ a = b
theorem n_hg : ¬ (("held" : Str) = "ages") := by decide +kernel
theorem n_hk : ¬ (("held" : Str) = "askings") := by decide +kernel
theorem n_ho : ¬ (("held" : Str) = "offs") := by decide +kernel
theorem n_hb : ¬ (("held" : Str) = "bound") := by decide +kernel
theorem n_gk : ¬ (("ages" : Str) = "askings") := by decide +kernel
theorem n_go : ¬ (("ages" : Str) = "offs") := by decide +kernel
theorem n_gb : ¬ (("ages" : Str) = "bound") := by decide +kernel
theorem n_ko : ¬ (("askings" : Str) = "offs") := by decide +kernel
theorem n_kb : ¬ (("askings" : Str) = "bound") := by decide +kernel
theorem n_ob : ¬ (("offs" : Str) = "bound") := by decide +kernel
theorem n_hl : ¬ (("held" : Str) = "lent") := by decide +kernel
theorem n_gl : ¬ (("ages" : Str) = "lent") := by decide +kernel
theorem n_kl : ¬ (("askings" : Str) = "lent") := by decide +kernel
theorem n_ol : ¬ (("offs" : Str) = "lent") := by decide +kernel
theorem n_bl : ¬ (("bound" : Str) = "lent") := by decide +kernel
def hf (A : HA) : List (Str × V) := putF "lent" (.bl false) (putF "bound" (.ref A.b) (putF "offs" (.ref A.o) (putF "askings" (.ref A.k) (putF "ages" (.ref A.g) (putF "held" (.ref A.h) [])))))
theorem hf_h (A : HA) : (hf A).lookup ("held" : Str) = some (.ref A.h) := by
  unfold hf
  rw [lookup_putF, if_neg n_hl, lookup_putF, if_neg n_hb, lookup_putF, if_neg n_ho, lookup_putF, if_neg n_hk, lookup_putF, if_neg n_hg, lookup_putF, if_pos rfl]
theorem hf_g (A : HA) : (hf A).lookup ("ages" : Str) = some (.ref A.g) := by
  unfold hf
  rw [lookup_putF, if_neg n_gl, lookup_putF, if_neg n_gb, lookup_putF, if_neg n_go, lookup_putF, if_neg n_gk, lookup_putF, if_pos rfl]
theorem hf_k (A : HA) : (hf A).lookup ("askings" : Str) = some (.ref A.k) := by
  unfold hf
  rw [lookup_putF, if_neg n_kl, lookup_putF, if_neg n_kb, lookup_putF, if_neg n_ko, lookup_putF, if_pos rfl]
theorem hf_o (A : HA) : (hf A).lookup ("offs" : Str) = some (.ref A.o) := by
  unfold hf
  rw [lookup_putF, if_neg n_ol, lookup_putF, if_neg n_ob, lookup_putF, if_pos rfl]
theorem hf_b (A : HA) : (hf A).lookup ("bound" : Str) = some (.ref A.b) := by
  unfold hf
  rw [lookup_putF, if_neg n_bl, lookup_putF, if_pos rfl]
theorem hf_l (A : HA) : (hf A).lookup ("lent" : Str) = some (.bl false) := by
  unfold hf
  rw [lookup_putF, if_pos rfl]
theorem hf_no (A : HA) {m : Str} (h1 : ¬ m = "held") (h2 : ¬ m = "ages") (h3 : ¬ m = "askings") (h4 : ¬ m = "offs") (h5 : ¬ m = "bound") (h6 : ¬ m = "lent") : (hf A).lookup m = none := by
  unfold hf
  rw [lookup_putF, if_neg h6, lookup_putF, if_neg h5, lookup_putF, if_neg h4, lookup_putF, if_neg h3, lookup_putF, if_neg h2, lookup_putF, if_neg h1]
  rfl
def vB (f : Int → Bool) : Int → Option V := fun i => if f i = true then some (.bl true) else none
def vI (f : Int → Option Int) : Int → Option V := fun i => (f i).map V.int
def vR (f : Int → Option Addr) : Int → Option V := fun i => (f i).map V.ref
def vS (f : Str → Option Str) : Str → Option V := fun z => (f z).map V.str
/-- who holds what -/
structure HeldAt (U : Un) (S : Addr → Prop) (A : HA) (H : Hp) (f : Int → Str → Option Str) (rf : Int → Option Addr) : Prop where
  d : DAt U.di H A.h (kI (vR rf))
  inj : ∀ i j r, rf i = some r → rf j = some r → i = j
  no : ∀ i, rf i = none → f i = fun _ => none
  yes : ∀ i r, rf i = some r → S r ∧ ¬ r ∈ A.all ∧ DAt U.ki H r (kS (vS (f i)))
structure AsksAt (U : Un) (S : Addr → Prop) (A : HA) (H : Hp) (f : Int → Option (Str × Str)) (tf : Int → Option Addr) : Prop where
  d : DAt U.di H A.k (kI (vR tf))
  no : ∀ i, tf i = none → f i = none
  yes : ∀ i p, tf i = some p → S p ∧ ∃ k m, f i = some (k, m) ∧ H p = some (.tup [.str k, .str m])
structure HoldsAt (C : Addr) (U : Un) (S : Addr → Prop) (H : Hp) (x : Addr) (A : HA) (s : HS) : Prop where
  ins : ∃ dx, H x = some (.ins C dx (hf A))
  hd : ∃ rf, HeldAt U S A H s.held rf
  ag : DAt U.di H A.g (kI (vI s.ages))
  ak : ∃ tf, AsksAt U S A H s.asks tf
  of : DAt U.di H A.o (kI (vB s.offs))
  bd : DAt U.di H A.b (kI (vB s.bnd))
  ne : A.Ne
  own : S x ∧ S A.h ∧ S A.g ∧ S A.k ∧ S A.o ∧ S A.b
  al : ∀ b, S b → ∃ o, H b = some o
  sm : U.ds.length ≤ 60 ∧ U.ks.length ≤ 60
theorem Un.lenI {U : Un} {kv : List (Key × V)} (g : Good U.di kv) (h : U.ds.length ≤ 60) : kv.length ≤ 60 := by
  have := g.len
  unfold Un.di at this
  rw [List.length_map] at this
  omega
theorem Un.lenS {U : Un} {kv : List (Key × V)} (g : Good U.ki kv) (h : U.ks.length ≤ 60) : kv.length ≤ 60 := by
  have := g.len
  unfold Un.ki at this
  rw [List.length_map] at this
  omega
theorem lt_line {n : Nat} (h : n ≤ 60) : n < sizeLine := by rw [sizeLine_eq]; omega
section
variable {C : Addr} {U : Un} {S S' : Addr → Prop} {H H' : Hp} {x : Addr} {A : HA} {s : HS} {f : Int → Str → Option Str} {rf tf : Int → Option Addr} {fa : Int → Option (Str × Str)}
theorem HeldAt.keep (h : HeldAt U S A H f rf) (hs : ∀ b, S b → S' b) (e : ∀ b o, (b = A.h ∨ (S b ∧ ¬ b ∈ A.all)) → H b = some o → H' b = some o) : HeldAt U S' A H' f rf :=
  ⟨h.d.keep fun o => e _ o (.inl rfl), h.inj, h.no, fun i r z => ⟨hs _ (h.yes i r z).1, (h.yes i r z).2.1, (h.yes i r z).2.2.keep fun o => e _ o (.inr ⟨(h.yes i r z).1, (h.yes i r z).2.1⟩)⟩⟩
theorem AsksAt.keep (h : AsksAt U S A H fa tf) (hs : ∀ b, S b → S' b) (e1 : ∀ o, H A.k = some o → H' A.k = some o) (e2 : ∀ b xs, S b → H b = some (.tup xs) → H' b = some (.tup xs)) : AsksAt U S' A H' fa tf :=
  ⟨h.d.keep e1, h.no, fun i p z => ⟨hs _ (h.yes i p z).1, by
    obtain ⟨k, m, a, b⟩ := (h.yes i p z).2
    exact ⟨k, m, a, e2 _ _ (h.yes i p z).1 b⟩⟩⟩
/-- what isn't its own may change -/
theorem HoldsAt.keep (h : HoldsAt C U S H x A s) (e : ∀ b o, S b → H b = some o → H' b = some o) : HoldsAt C U S H' x A s := by
  obtain ⟨o1, o2, o3, o4, o5, o6⟩ := h.own
  obtain ⟨dx, hx⟩ := h.ins
  obtain ⟨rf, hr⟩ := h.hd
  obtain ⟨tf, ht⟩ := h.ak
  exact ⟨⟨dx, e _ _ o1 hx⟩, ⟨rf, hr.keep (fun _ z => z) fun b o c => e b o (c.elim (fun z => z ▸ o2) (·.1))⟩, h.ag.keep fun o => e _ o o3, ⟨tf, ht.keep (fun _ z => z) (fun o => e _ o o4) fun b xs z => e b _ z⟩,
    h.of.keep fun o => e _ o o5, h.bd.keep fun o => e _ o o6, h.ne, h.own, fun b z => by
      obtain ⟨o, eo⟩ := h.al b z
      exact ⟨o, e _ _ z eo⟩, h.sm⟩
theorem HoldsAt.same (h : HoldsAt C U S H x A s) (e : Same H H') : HoldsAt C U S H' x A s := h.keep fun b o _ z => e b o z
theorem HoldsAt.not_own (h : HoldsAt C U S H x A s) {p : Addr} (n : H p = none) : ¬ S p := fun z => by
  obtain ⟨o, e⟩ := h.al p z
  rw [n] at e
  cases e
theorem upd_al (h : ∀ b, S b → ∃ o, H b = some o) {q : Addr} {u : HO} : ∀ b, S b → ∃ o, upd H q u b = some o := fun b z => by
  by_cases e : b = q
  · subst e; exact ⟨u, upd_same⟩
  · rw [upd_ne e]; exact h b z
/-- one of the five dicts changed; what else stands -/
theorem HoldsAt.rest (h : HoldsAt C U S H x A s) {q : Addr} {kv kv' : List (Key × V)} (hq : q ∈ A.all) (e : H q = some (.dK kv)) : (∃ dx, upd H q (.dK kv') x = some (.ins C dx (hf A))) ∧ (∀ b, S b → ∃ o, upd H q (.dK kv') b = some o) ∧
    (q ≠ A.h → ∃ rf, HeldAt U S A (upd H q (.dK kv')) s.held rf) ∧ (q ≠ A.k → ∃ tf, AsksAt U S A (upd H q (.dK kv')) s.asks tf) := by
  obtain ⟨dx, hx⟩ := h.ins
  refine ⟨⟨dx, by rw [upd_ne (ne_of hx e (by intro z; cases z))]; exact hx⟩, upd_al h.al, fun n => ?_, fun n => ?_⟩
  · obtain ⟨rf, hr⟩ := h.hd
    refine ⟨rf, hr.keep (fun _ z => z) fun b o c eo => ?_⟩
    rw [upd_ne (fun z => ?_)]
    · exact eo
    · rcases c with rfl | c
      · exact n z.symm
      · exact c.2 (z ▸ hq)
  · obtain ⟨tf, ht⟩ := h.ak
    refine ⟨tf, ht.keep (fun _ z => z) (fun o eo => by rw [upd_ne (Ne.symm n)]; exact eo) fun b xs _ eo => ?_⟩
    rw [upd_ne (ne_of eo e (by intro z; cases z))]
    exact eo
theorem HoldsAt.putG (h : HoldsAt C U S H x A s) {kv kv' : List (Key × V)} {g : Int → Option Int} (e : H A.g = some (.dK kv)) (gd : Good U.di kv') (hv : ∀ k, valV kv' k = kI (vI g) k) : HoldsAt C U S (upd H A.g (.dK kv')) x A { s with ages := g } := by
  obtain ⟨r1, r2, r3, r4⟩ := h.rest (kv' := kv') A.inG e
  exact ⟨r1, r3 h.ne.hg.symm, ⟨kv', upd_same, gd, hv⟩, r4 h.ne.gk, h.of.ne h.ne.go.symm, h.bd.ne h.ne.gb.symm, h.ne, h.own, r2, h.sm⟩
theorem HoldsAt.putO (h : HoldsAt C U S H x A s) {kv kv' : List (Key × V)} {g : Int → Bool} (e : H A.o = some (.dK kv)) (gd : Good U.di kv') (hv : ∀ k, valV kv' k = kI (vB g) k) : HoldsAt C U S (upd H A.o (.dK kv')) x A { s with offs := g } := by
  obtain ⟨r1, r2, r3, r4⟩ := h.rest (kv' := kv') A.inO e
  exact ⟨r1, r3 h.ne.ho.symm, h.ag.ne h.ne.go, r4 h.ne.ko.symm, ⟨kv', upd_same, gd, hv⟩, h.bd.ne h.ne.ob.symm, h.ne, h.own, r2, h.sm⟩
theorem HoldsAt.putB (h : HoldsAt C U S H x A s) {kv kv' : List (Key × V)} {g : Int → Bool} (e : H A.b = some (.dK kv)) (gd : Good U.di kv') (hv : ∀ k, valV kv' k = kI (vB g) k) : HoldsAt C U S (upd H A.b (.dK kv')) x A { s with bnd := g } := by
  obtain ⟨r1, r2, r3, r4⟩ := h.rest (kv' := kv') A.inB e
  exact ⟨r1, r3 h.ne.hb.symm, h.ag.ne h.ne.gb, r4 h.ne.kb.symm, h.of.ne h.ne.ob, ⟨kv', upd_same, gd, hv⟩, h.ne, h.own, r2, h.sm⟩
theorem HoldsAt.dropK (h : HoldsAt C U S H x A s) {kv : List (Key × V)} (d : Int) (e : H A.k = some (.dK kv)) : HoldsAt C U S (upd H A.k (.dK (L2.dropK kv (Sum.inl d)))) x A (s.noAsk d) := by
  obtain ⟨r1, r2, r3, r4⟩ := h.rest (kv' := L2.dropK kv (Sum.inl d)) A.inK e
  obtain ⟨tf, ht⟩ := h.ak
  obtain ⟨kv0, e0, gd, hv⟩ := ht.d
  rw [e] at e0
  cases e0
  refine ⟨r1, r3 h.ne.hk.symm, h.ag.ne h.ne.gk, ⟨fun i => if i = d then none else tf i, ⟨⟨_, upd_same, gd.drop _, fun k => ?_⟩, fun i z => ?_, fun i p z => ?_⟩⟩, h.of.ne h.ne.ko.symm, h.bd.ne h.ne.kb.symm, h.ne, h.own, r2, h.sm⟩
  · rw [kI_drop hv]
    cases k with
    | inl i => show (if i = d then none else vR tf i) = vR (fun i => if i = d then none else tf i) i; unfold vR; by_cases c : i = d <;> simp [c]
    | inr _ => rfl
  · show (if i = d then none else s.asks i) = none
    by_cases c : i = d
    · rw [if_pos c]
    · rw [if_neg c]; exact ht.no i (by simpa [c] using z)
  · by_cases c : i = d
    · simp [c] at z
    · have z' : tf i = some p := by simpa [c] using z
      obtain ⟨sp, k, m, a, b⟩ := ht.yes i p z'
      refine ⟨sp, k, m, ?_, ?_⟩
      · show (if i = d then none else s.asks i) = _; rw [if_neg c]; exact a
      · rw [upd_ne (ne_of b e (by intro z; cases z))]; exact b
theorem noAsk_none (s : HS) {d : Int} (h : s.asks d = none) : s.noAsk d = s := by
  unfold HS.noAsk
  have : (fun i => if i = d then .none else s.asks i) = s.asks := by
    funext i
    by_cases c : i = d
    · subst c; rw [if_pos rfl, h]
    · rw [if_neg c]
  rw [this]
theorem HoldsAt.putK (h : HoldsAt C U S H x A s) {kv : List (Key × V)} {d : Int} {t : Addr} {k m : Str} (e : H A.k = some (.dK kv)) (hd : d ∈ U.ds) (ht : H t = some (.tup [.str k, .str m])) : HoldsAt C U (fun b => S b ∨ b = t) (upd H A.k (.dK (L2.putK kv (Sum.inl d) (.ref t)))) x A (s.setAsk d k m) := by
  obtain ⟨r1, r2, r3, r4⟩ := h.rest (kv' := L2.putK kv (Sum.inl d) (.ref t)) A.inK e
  obtain ⟨tf, hk⟩ := h.ak
  obtain ⟨kv0, e0, gd, hv⟩ := hk.d
  rw [e] at e0
  cases e0
  have nt : t ≠ A.k := ne_of ht e (by intro z; cases z)
  obtain ⟨o1, o2, o3, o4, o5, o6⟩ := h.own
  obtain ⟨rf, hr⟩ := r3 h.ne.hk.symm
  refine ⟨r1, ⟨rf, hr.keep (fun _ z => .inl z) fun _ _ _ z => z⟩, h.ag.ne h.ne.gk, ⟨fun i => if i = d then some t else tf i, ⟨⟨_, upd_same, gd.put (Un.inI hd) _, fun k => ?_⟩, fun i z => ?_, fun i p z => ?_⟩⟩, h.of.ne h.ne.ko.symm, h.bd.ne h.ne.kb.symm, h.ne, ⟨.inl o1, .inl o2, .inl o3, .inl o4, .inl o5, .inl o6⟩, fun b z => ?_, h.sm⟩
  · rw [kI_put hv]
    cases k with
    | inl i => show (if i = d then some (V.ref t) else vR tf i) = vR (fun i => if i = d then some t else tf i) i; unfold vR; by_cases c : i = d <;> simp [c]
    | inr _ => rfl
  · show (if i = d then some (k, m) else s.asks i) = none
    by_cases c : i = d
    · simp [c] at z
    · rw [if_neg c]; exact hk.no i (by simpa [c] using z)
  · by_cases c : i = d
    · have z' : t = p := by simpa [c] using z
      subst z'
      refine ⟨.inr rfl, k, m, ?_, ?_⟩
      · show (if i = d then some (k, m) else s.asks i) = _; rw [if_pos c]
      · rw [upd_ne nt]; exact ht
    · have z' : tf i = some p := by simpa [c] using z
      obtain ⟨sp, k', m', a, b⟩ := hk.yes i p z'
      refine ⟨.inl sp, k', m', ?_, ?_⟩
      · show (if i = d then some (k, m) else s.asks i) = _; rw [if_neg c]; exact a
      · rw [upd_ne (ne_of b e (by intro z; cases z))]; exact b
  · rcases z with z | rfl
    · exact r2 b z
    · exact ⟨_, by rw [upd_ne nt]; exact ht⟩
theorem HoldsAt.dropH (h : HoldsAt C U S H x A s) {kv : List (Key × V)} (d : Int) (e : H A.h = some (.dK kv)) : HoldsAt C U S (upd H A.h (.dK (L2.dropK kv (Sum.inl d)))) x A (s.noHeld d) := by
  obtain ⟨r1, r2, r3, r4⟩ := h.rest (kv' := L2.dropK kv (Sum.inl d)) A.inH e
  obtain ⟨rf, hr⟩ := h.hd
  obtain ⟨kv0, e0, gd, hv⟩ := hr.d
  rw [e] at e0
  cases e0
  refine ⟨r1, ⟨fun i => if i = d then none else rf i, ⟨⟨_, upd_same, gd.drop _, fun k => ?_⟩, fun i j r zi zj => ?_, fun i z => ?_, fun i p z => ?_⟩⟩, h.ag.ne h.ne.hg.symm, r4 h.ne.hk, h.of.ne h.ne.ho.symm, h.bd.ne h.ne.hb.symm, h.ne, h.own, r2, h.sm⟩
  · rw [kI_drop hv]
    cases k with
    | inl i => show (if i = d then none else vR rf i) = vR (fun i => if i = d then none else rf i) i; unfold vR; by_cases c : i = d <;> simp [c]
    | inr _ => rfl
  · by_cases c : i = d
    · simp [c] at zi
    · by_cases c' : j = d
      · simp [c'] at zj
      · exact hr.inj i j r (by simpa [c] using zi) (by simpa [c'] using zj)
  · show (if i = d then fun _ => none else s.held i) = _
    by_cases c : i = d
    · rw [if_pos c]
    · rw [if_neg c]; exact hr.no i (by simpa [c] using z)
  · by_cases c : i = d
    · simp [c] at z
    · have z' : rf i = some p := by simpa [c] using z
      obtain ⟨sp, np, dp⟩ := hr.yes i p z'
      refine ⟨sp, np, ?_⟩
      have e1 : (s.noHeld d).held i = s.held i := by show (if i = d then fun _ => none else s.held i) = _; rw [if_neg c]
      rw [e1]
      exact dp.ne fun q => np (q ▸ A.inH)
theorem noHeld_none (s : HS) {d : Int} (h : s.held d = fun _ => .none) : s.noHeld d = s := by
  unfold HS.noHeld
  have : (fun i => if i = d then fun _ => .none else s.held i) = s.held := by
    funext i
    by_cases c : i = d
    · subst c; rw [if_pos rfl, h]
    · rw [if_neg c]
  rw [this]
/-- mine[key] = mode; held[d] = mine: mine is the one at d, or new -/
theorem HoldsAt.hold (h : HoldsAt C U S H x A s) {kv kr : List (Key × V)} {d : Int} {r : Addr} {k m : Str} (e : H A.h = some (.dK kv)) (er : H r = some (.dK kr)) (hd : d ∈ U.ds) (hk : k ∈ U.ks) (gr : Good U.ki kr) (vr : ∀ z, valV kr z = kS (vS (s.held d)) z)
    (hr : valV kv (Sum.inl d) = some (.ref r) ∨ ¬ S r) :
    HoldsAt C U (fun b => S b ∨ b = r) (upd (upd H r (.dK (L2.putK kr (Sum.inr k) (.str m)))) A.h (.dK (L2.putK kv (Sum.inl d) (.ref r)))) x A (s.hold d k m) := by
  obtain ⟨rf, hf0⟩ := h.hd
  obtain ⟨kv0, e0, gd, hv⟩ := hf0.d
  rw [e] at e0
  cases e0
  obtain ⟨o1, o2, o3, o4, o5, o6⟩ := h.own
  have rfd : rf d = some r ∨ ¬ S r := by
    rcases hr with z | n
    · rw [hv] at z
      have z' : (rf d).map V.ref = some (.ref r) := z
      obtain ⟨q, hq, eq⟩ := Option.map_eq_some_iff.mp z'
      cases eq
      exact .inl hq
    · exact .inr n
  have nr : ¬ r ∈ A.all := by
    rcases rfd with z | n
    · exact (hf0.yes d r z).2.1
    · intro z
      simp only [HA.all, List.mem_cons, List.mem_nil_iff, or_false] at z
      rcases z with rfl | rfl | rfl | rfl | rfl
      · exact n o2
      · exact n o3
      · exact n o4
      · exact n o5
      · exact n o6
  have other : ∀ i p, i ≠ d → rf i = some p → p ≠ r := fun i p c z q => by
    subst q
    rcases rfd with y | n
    · exact c (hf0.inj _ _ _ z y)
    · exact n (hf0.yes i p z).1
  obtain ⟨dx, hx⟩ := h.ins
  obtain ⟨tf, ht⟩ := h.ak
  have nh : r ≠ A.h := fun q => nr (q ▸ A.inH)
  have U1 : ∀ {b : Addr} {o : HO}, b ≠ r → b ≠ A.h → H b = some o → (upd (upd H r (.dK (L2.putK kr (Sum.inr k) (.str m)))) A.h (.dK (L2.putK kv (Sum.inl d) (.ref r)))) b = some o := fun n1 n2 z => by
    rw [upd_ne n2, upd_ne n1]; exact z
  have n5 : ∀ {q : Addr}, q ∈ A.all → q ≠ r := fun hq z => nr (z ▸ hq)
  refine ⟨⟨dx, U1 (ne_of hx er (by intro z; cases z)) (ne_of hx e (by intro z; cases z)) hx⟩, ⟨fun i => if i = d then some r else rf i, ⟨⟨_, upd_same, gd.put (Un.inI hd) _, fun z => ?_⟩, fun i j q zi zj => ?_, fun i z => ?_, fun i p z => ?_⟩⟩,
    h.ag.keep fun o => U1 (n5 A.inG) h.ne.hg.symm, ⟨tf, ht.keep (fun _ z => .inl z) (fun o => U1 (n5 A.inK) h.ne.hk.symm) fun b xs _ z => U1 (ne_of z er (by intro z; cases z)) (ne_of z e (by intro z; cases z)) z⟩,
    h.of.keep fun o => U1 (n5 A.inO) h.ne.ho.symm, h.bd.keep fun o => U1 (n5 A.inB) h.ne.hb.symm, h.ne, ⟨.inl o1, .inl o2, .inl o3, .inl o4, .inl o5, .inl o6⟩, fun b z => ?_, h.sm⟩
  · rw [kI_put hv]
    cases z with
    | inl i => show (if i = d then some (V.ref r) else vR rf i) = vR (fun i => if i = d then some r else rf i) i; unfold vR; by_cases c : i = d <;> simp [c]
    | inr _ => rfl
  · by_cases c : i = d
    · by_cases c' : j = d
      · rw [c, c']
      · have zi' : r = q := by simpa [c] using zi
        subst zi'
        exact absurd rfl (other j r c' (by simpa [c'] using zj))
    · by_cases c' : j = d
      · have zj' : r = q := by simpa [c'] using zj
        subst zj'
        exact absurd rfl (other i r c (by simpa [c] using zi))
      · exact hf0.inj i j q (by simpa [c] using zi) (by simpa [c'] using zj)
  · by_cases c : i = d
    · simp [c] at z
    · have y := hf0.no i (by simpa [c] using z)
      show (fun z => if i = d then (if z = k then some m else s.held d z) else s.held i z) = _
      simp only [if_neg c]
      exact y
  · by_cases c : i = d
    · have z' : r = p := by simpa [c] using z
      subst z'
      refine ⟨.inr rfl, nr, ⟨_, by rw [upd_ne nh]; exact upd_same, gr.put (Un.inS hk) _, fun y => ?_⟩⟩
      rw [kS_put vr]
      cases y with
      | inl _ => rfl
      | inr y =>
        show (if y = k then some (V.str m) else vS (s.held d) y) = Option.map V.str (if i = d then (if y = k then some m else s.held d y) else s.held i y)
        rw [if_pos c]
        unfold vS
        by_cases q : y = k <;> simp [q]
    · have z' : rf i = some p := by simpa [c] using z
      obtain ⟨sp, np, dp⟩ := hf0.yes i p z'
      refine ⟨.inl sp, np, ?_⟩
      have e1 : (s.hold d k m).held i = s.held i := by
        show (fun z => if i = d then (if z = k then some m else s.held d z) else s.held i z) = _
        simp only [if_neg c]
      rw [e1]
      exact dp.keep fun o => U1 (other i p c z') (fun q => np (q ▸ A.inH))
  · by_cases c : b = A.h
    · exact ⟨_, by rw [c]; exact upd_same⟩
    · by_cases c' : b = r
      · exact ⟨_, by rw [upd_ne c, c']; exact upd_same⟩
      · rcases z with z | z
        · obtain ⟨o, eo⟩ := h.al b z
          exact ⟨o, U1 c' c eo⟩
        · exact absurd z c'
end
/-! ### one step of it -/
/-- s' behind a step from H: it may own new things; what wasn't its own stands -/
structure Nx (C : Addr) (U : Un) (S : Addr → Prop) (H : Hp) (x : Addr) (A : HA) (s' : HS) (S' : Addr → Prop) (H' : Hp) : Prop where
  at_ : HoldsAt C U S' H' x A s'
  ow : ∀ b, S' b → S b ∨ H b = none
  fr : ∀ b o, ¬ S b → H b = some o → H' b = some o
  lv : ∀ b, H' b = none → H b = none
section
variable {C : Addr} {U : Un} {S S1 S2 : Addr → Prop} {H H1 H2 : Hp} {x : Addr} {A : HA} {s s1 s2 : HS}
theorem Nx.refl (h : HoldsAt C U S H x A s) : Nx C U S H x A s S H := ⟨h, fun _ z => .inl z, fun _ _ _ z => z, fun _ z => z⟩
theorem Nx.trans (a : Nx C U S H x A s1 S1 H1) (b : Nx C U S1 H1 x A s2 S2 H2) : Nx C U S H x A s2 S2 H2 := by
  refine ⟨b.at_, fun c z => ?_, fun c o n z => b.fr c o (fun y => ?_) (a.fr c o n z), fun c z => a.lv c (b.lv c z)⟩
  · rcases b.ow c z with y | y
    · exact a.ow c y
    · by_cases q : S c
      · exact .inl q
      · right
        cases e : H c with
        | none => rfl
        | some o =>
          rw [a.fr c o q e] at y
          cases y
  · rcases a.ow c y with y | y
    · exact n y
    · rw [z] at y; cases y
theorem Nx.same (a : Nx C U S H x A s1 S1 H1) (e : Same H1 H2) : Nx C U S H x A s1 S1 H2 := ⟨a.at_.same e, a.ow, fun b o n z => e b o (a.fr b o n z), fun b z => a.lv b (e.free z)⟩
/-- a thing that isn't its own stays none of it -/
theorem Nx.out (a : Nx C U S H x A s1 S1 H1) {p : Addr} {o : HO} (n : ¬ S p) (z : H p = some o) : ¬ S1 p ∧ H1 p = some o :=
  ⟨fun y => (a.ow p y).elim n (fun y => by
    rw [z] at y
    cases y), a.fr p o n z⟩
end
/-! ### who bars whom -/
def bars (m n : Str) : Bool := decide (m = "write") || decide (n = "write")
def enough (o : Option Str) (m : Str) : Bool := match o with
  | none => false
  | some h => decide (h = m) || decide (h = "write")
def bar (s : HS) (d : Int) (k m : Str) (o : Int) : Bool := !decide (o = d) && (match s.held o k with
  | none => false
  | some n => bars m n)
def outl (s : HS) (o d : Int) : Bool := s.bnd o || (match s.ages o, s.ages d with
  | some a, some b => decide (a < b) || (decide (a = b) && decide (o < d))
  | _, _ => false)
/-- l: just those of whom p tells yes, rising -/
structure IsL (p : Int → Bool) (l : List Int) : Prop where
  up : l.Pairwise (· < ·)
  mem : ∀ i, i ∈ l ↔ p i = true
theorem isL_of {p : Int → Bool} {l l' : List Int} (pm : l'.Perm l) (so : l'.Pairwise (· ≤ ·)) (nd : l.Nodup) (h : ∀ i, i ∈ l ↔ p i = true) : IsL p l' := by
  have nd' : l'.Nodup := pm.nodup_iff.mpr nd
  refine ⟨?_, fun i => (pm.mem_iff).trans (h i)⟩
  have z := so.and nd'
  exact z.imp fun {a b} h => by
    have := h.1
    have := h.2
    omega
theorem IsL.nodup {p : Int → Bool} {l : List Int} (h : IsL p l) : l.Nodup := h.up.imp fun {a b} z e => by omega
theorem IsL.uniq {p : Int → Bool} : ∀ {l l' : List Int}, IsL p l → IsL p l' → l = l' := by
  have go : ∀ {l l' : List Int}, l.Pairwise (· < ·) → l'.Pairwise (· < ·) → (∀ i, i ∈ l ↔ i ∈ l') → l = l' := by
    intro l
    induction l with
    | nil =>
      intro l' _ _ h
      cases l' with
      | nil => rfl
      | cons a r => exact absurd ((h a).mpr (List.mem_cons_self ..)) (by simp)
    | cons a r ih =>
      intro l' h1 h2 h
      cases l' with
      | nil => exact absurd ((h a).mp (List.mem_cons_self ..)) (by simp)
      | cons b r' =>
        rw [List.pairwise_cons] at h1 h2
        have e : a = b := by
          rcases List.mem_cons.mp ((h a).mp (List.mem_cons_self ..)) with z | z
          · exact z
          · rcases List.mem_cons.mp ((h b).mpr (List.mem_cons_self ..)) with y | y
            · exact y.symm
            · have := h2.1 a z
              have := h1.1 b y
              omega
        subst e
        rw [ih h1.2 h2.2 fun i => ⟨fun z => ?_, fun z => ?_⟩]
        · rcases List.mem_cons.mp ((h i).mp (List.mem_cons_of_mem _ z)) with y | y
          · have := h1.1 i z
            omega
          · exact y
        · rcases List.mem_cons.mp ((h i).mpr (List.mem_cons_of_mem _ z)) with y | y
          · have := h2.1 i z
            omega
          · exact y
  intro l l' h h'
  exact go h.up h'.up fun i => (h.mem i).trans (h'.mem i).symm
theorem IsL.congr {p q : Int → Bool} {l : List Int} (h : IsL p l) (e : ∀ i, p i = q i) : IsL q l := ⟨h.up, fun i => by rw [h.mem, e]⟩
/-- called off, all of l -/
def HS.offL (s : HS) (l : List Int) : HS := { s with held := fun i => if i ∈ l then fun _ => .none else s.held i, asks := fun i => if i ∈ l then .none else s.asks i, offs := fun i => if i ∈ l then true else s.offs i }
def HS.off (s : HS) (d : Int) : HS := ((s.noHeld d).noAsk d).setOff d
theorem offL_nil (s : HS) : s.offL [] = s := by
  unfold HS.offL
  simp
theorem offL_snoc (s : HS) (l : List Int) (o : Int) : (s.offL l).off o = s.offL (l ++ [o]) := by
  unfold HS.offL HS.off HS.setOff HS.noAsk HS.noHeld
  simp only [HS.mk.injEq, true_and, and_true]
  refine ⟨funext fun i => ?_, funext fun i => ?_, funext fun i => ?_⟩
  · by_cases a : i = o <;> by_cases b : i ∈ l <;> simp [a, b]
  · by_cases a : i = o <;> by_cases b : i ∈ l <;> simp [a, b]
  · by_cases a : i = o <;> by_cases b : i ∈ l <;> simp [a, b]
/-- who holds or asks has an age -/
structure WF (s : HS) : Prop where
  h : ∀ o k v, s.held o k = some v → s.bnd o = true ∨ ∃ a, s.ages o = some a
  a : ∀ d k m, s.asks d = some (k, m) → ∃ a, s.ages d = some a
def HS.aged (s : HS) (d : Int) (age : Option Int) : HS := match s.ages d with
  | some _ => s
  | none => s.setAge d (age.getD d)
def ageV : Option Int → V
  | none => .non
  | some a => .int a
/-- what A's dict of holds tells of i -/
def hv (H : Hp) (A : HA) (i : Int) : Option V := match H A.h with
  | some (.dK kv) => valV kv (Sum.inl i)
  | _ => none
def spBars : Sp := fun vs H Q _ => ∃ (m n : Str), vs = [.str m, .str n] ∧ ∀ H', Same H H' → Q (.bl (bars m n)) H'
def hasV : Option Str → V
  | none => .non
  | some h => .str h
def spEnough : Sp := fun vs H Q _ => ∃ (o : Option Str) (m : Str), vs = [hasV o, .str m] ∧ ∀ H', Same H H' → Q (.bl (enough o m)) H'
def spInitH (C : Addr) : Sp := fun vs H Q _ => ∃ (x dx : Addr), vs = [.ref x] ∧ H x = some (.ins C dx []) ∧ ∀ (A : HA) (H' : Hp), (∀ U : Un, U.ds.length ≤ 60 → U.ks.length ≤ 60 → ∃ S, HoldsAt C U S H' x A HS.none ∧ ∀ b, S b → b = x ∨ H b = none) → (∀ b o, b ≠ x → H b = some o → H' b = some o) → Q .non H'
def spWnm (C : Addr) : Sp := fun vs H Q _ => ∃ (x : Addr) (U : Un) (S : Addr → Prop) (A : HA) (s : HS) (d : Int), vs = [.ref x, .int d] ∧ HoldsAt C U S H x A s ∧ ∀ S' H', Nx C U S H x A (s.noAsk d) S' H' → (∀ b, b ≠ A.k → H' b = H b) → Q .non H'
def spCallOff (C : Addr) : Sp := fun vs H Q _ => ∃ (x : Addr) (U : Un) (S : Addr → Prop) (A : HA) (s : HS) (d : Int), vs = [.ref x, .int d] ∧ HoldsAt C U S H x A s ∧ d ∈ U.ds ∧ ∀ S' H', Nx C U S H x A (s.off d) S' H' → (∀ i, i ≠ d → hv H' A i = hv H A i) → Q .non H'
def spPledge (C : Addr) : Sp := fun vs H Q _ => ∃ (x : Addr) (U : Un) (S : Addr → Prop) (A : HA) (s : HS) (d : Int), vs = [.ref x, .int d] ∧ HoldsAt C U S H x A s ∧ d ∈ U.ds ∧ ∀ S' H', Nx C U S H x A ((s.setBnd d).noAsk d) S' H' → Q .non H'
def HS.free (s : HS) (d : Int) (f : Bool) : HS := if f = true then ((((s.noHeld d).noAge d).noBnd d).noAsk d).noOff d else (((s.noHeld d).noAge d).noBnd d).noAsk d
def spFree (C : Addr) : Sp := fun vs H Q _ => ∃ (x : Addr) (U : Un) (S : Addr → Prop) (A : HA) (s : HS) (d : Int) (f : Bool), vs = [.ref x, .int d, .bl f] ∧ HoldsAt C U S H x A s ∧ ∀ S' H', Nx C U S H x A (s.free d f) S' H' → Q .non H'
def spOutl (C : Addr) : Sp := fun vs H Q _ => ∃ (x : Addr) (U : Un) (S : Addr → Prop) (A : HA) (s : HS) (o d : Int), vs = [.ref x, .int o, .int d] ∧ HoldsAt C U S H x A s ∧ (s.bnd o = true ∨ ∃ a, s.ages o = some a) ∧ (∃ b, s.ages d = some b) ∧ ∀ H', Same H H' → Q (.bl (outl s o d)) H'
def spBarring (C : Addr) : Sp := fun vs H Q _ => ∃ (x : Addr) (U : Un) (S : Addr → Prop) (A : HA) (s : HS) (d : Int) (k m : Str), vs = [.ref x, .int d, .str k, .str m] ∧ HoldsAt C U S H x A s ∧
  ∀ (p : Addr) (l : List Int) (H' : Hp), IsL (bar s d k m) l → l.length ≤ 60 → H p = none → Same H H' → H' p = some (.lst (l.map V.int)) → Q (.ref p) H'
def spList (C : Addr) (g : HS → Int → Bool) : Sp := fun vs H Q _ => ∃ (x : Addr) (U : Un) (S : Addr → Prop) (A : HA) (s : HS), vs = [.ref x] ∧ HoldsAt C U S H x A s ∧
  ∀ (p : Addr) (l : List Int) (H' : Hp), IsL (g s) l → l.length ≤ 60 → H p = none → Same H H' → H' p = some (.lst (l.map V.int)) → Q (.ref p) H'
def ofKv (s : HS) (d : Int) (ks : List Str) : List (Key × V) := ks.map fun k => (Sum.inr k, V.str ((s.held d k).getD ""))
def spOf (C : Addr) : Sp := fun vs H Q _ => ∃ (x : Addr) (U : Un) (S : Addr → Prop) (A : HA) (s : HS) (d : Int), vs = [.ref x, .int d] ∧ HoldsAt C U S H x A s ∧
  ∀ (p : Addr) (ks : List Str) (H' : Hp), ks.Nodup → PyProof.Rows.sortedS ks = true → ks.length ≤ 60 → (∀ k, k ∈ ks ↔ (s.held d k).isSome = true) → H p = none → Same H H' → H' p = some (.dK (ofKv s d ks)) → Q (.ref p) H'
structure WaitL (s : HS) (ws : List (Int × Addr × List Int)) : Prop where
  up : (ws.map (·.1)).Pairwise (· < ·)
  to : ∀ w ∈ ws, ∃ k m, s.asks w.1 = some (k, m) ∧ IsL (fun o => bar s w.1 k m o && outl s o w.1) w.2.2 ∧ w.2.2 ≠ []
  of : ∀ d k m, s.asks d = some (k, m) → (∃ o, (bar s d k m o && outl s o d) = true) → d ∈ ws.map (·.1)
def spWaiting (C : Addr) : Sp := fun vs H Q _ => ∃ (x : Addr) (U : Un) (S : Addr → Prop) (A : HA) (s : HS), vs = [.ref x] ∧ HoldsAt C U S H x A s ∧ WF s ∧
  ∀ (p : Addr) (ws : List (Int × Addr × List Int)) (H' : Hp), WaitL s ws → ws.length ≤ 60 → H p = none → Same H H' → H' p = some (.dK (ws.map fun w => (Sum.inl w.1, V.ref w.2.1))) → (∀ w ∈ ws, H w.2.1 = none ∧ H' w.2.1 = some (.lst (w.2.2.map V.int)) ∧ w.2.2.length ≤ 60) → Q (.ref p) H'
/-- ask, where the dealing is neither called off nor pledged -/
def spAsk (C : Addr) : Sp := fun vs H Q _ => ∃ (x : Addr) (U : Un) (S : Addr → Prop) (A : HA) (s : HS) (d : Int) (k m : Str) (age : Option Int), vs = [.ref x, .int d, .str k, .str m, ageV age] ∧ HoldsAt C U S H x A s ∧ WF s ∧ s.offs d = false ∧ s.bnd d = false ∧ d ∈ U.ds ∧ k ∈ U.ks ∧
  (enough (s.held d k) m = true → ∀ S' H' t l, Nx C U S H x A ((s.aged d age).noAsk d) S' H' → H' t = some (.tup [.str "held", .ref l]) → H' l = some (.lst []) → H l = none → ¬ S' l → H t = none → Q (.ref t) H') ∧
  (enough (s.held d k) m = false → ∀ off bl, IsL (fun o => bar (s.aged d age) d k m o && !outl (s.aged d age) o d) off → IsL (bar ((s.aged d age).offL off) d k m) bl → off.length ≤ 60 →
    (bl = [] → ∀ S' H' t l, Nx C U S H x A ((((s.aged d age).offL off).noAsk d).hold d k m) S' H' → H' t = some (.tup [.str "held", .ref l]) → H' l = some (.lst (off.map V.int)) → H l = none → ¬ S' l → H t = none → Q (.ref t) H') ∧
    (bl ≠ [] → ∀ S' H' t l, Nx C U S H x A (((s.aged d age).offL off).setAsk d k m) S' H' → H' t = some (.tup [.str "waits", .ref l]) → H' l = some (.lst (off.map V.int)) → H l = none → ¬ S' l → H t = none → Q (.ref t) H'))

def spOwn (C : Addr) : Sp := fun vs H Q _ => ∃ (x : Addr) (U : Un) (S : Addr → Prop) (A : HA) (s : HS), vs = [.ref x] ∧ HoldsAt C U S H x A s ∧ Q .non H
def spWay (C : Addr) : Sp := fun vs H Q _ => ∃ (x : Addr) (U : Un) (S : Addr → Prop) (A : HA) (s : HS) (d : Int) (k : Str), vs = [.ref x, .int d, .str k] ∧ HoldsAt C U S H x A s ∧ Q (hasV (s.held d k)) H
def spHoldSo (C : Addr) : Sp := fun vs H Q _ => ∃ (x : Addr) (U : Un) (S : Addr → Prop) (A : HA) (s : HS) (d : Int) (k m : Str), vs = [.ref x, .int d, .str k, .str m] ∧ HoldsAt C U S H x A s ∧ d ∈ U.ds ∧ k ∈ U.ks ∧ ∀ S' H', Nx C U S H x A (s.hold d k m) S' H' → Q .non H'
theorem upd_app (H : Hp) (a : Addr) (o : HO) (b : Addr) : upd H a o b = if b = a then some o else H b := by
  by_cases e : b = a
  · subst e; rw [if_pos rfl]; exact upd_same
  · rw [if_neg e]; exact upd_ne e
theorem hv_same {H H' : Hp} {A : HA} {i : Int} (e : H' A.h = H A.h) : hv H' A i = hv H A i := by
  unfold hv
  rw [e]
theorem beq_str (a b : Str) : (a == b) = decide (a = b) := by
  by_cases e : a = b
  · subst e; simp
  · rw [decide_eq_false e]; exact beq_eq_false_iff_ne.mpr e
theorem in_bars (m n : Str) : inV (.str "write") [.str m, .str n] = bars m n := by
  unfold inV bars
  simp only [List.any_cons, List.any_nil, eqV, beq_str, Bool.or_false]
theorem in_enough (o : Option Str) (m : Str) : inV (hasV o) [.str m, .str "write"] = enough o m := by
  cases o with
  | none => rfl
  | some h =>
    unfold inV enough hasV
    simp only [List.any_cons, List.any_nil, eqV, beq_str, Bool.or_false]
    rw [decide_eq_decide.mpr (show m = h ↔ h = m from eq_comm), decide_eq_decide.mpr (show "write" = h ↔ h = "write" from eq_comm)]
theorem lex_outl {s : HS} {o d a b : Int} (c : s.bnd o = false) (ha : s.ages o = some a) (hb : s.ages d = some b) : HT.lexLt [a, o] [b, d] = outl s o d := by
  unfold outl
  rw [c, ha, hb]
  show (if a = b then (if o = d then false else decide (o < d)) else decide (a < b)) = (false || (decide (a < b) || (decide (a = b) && decide (o < d))))
  by_cases e : a = b
  · rw [if_pos e]
    by_cases f : o = d
    · rw [if_pos f]; subst e f; simp
    · rw [if_neg f]; subst e; simp
  · rw [if_neg e]; simp [e]
theorem iteNDF {c A B : Prop} [Decidable c] (h : c) (b : B) : if (!decide c) = true then A else B := by
  rw [decide_eq_true h]
  exact iteF b
theorem lock_same {H H2 : Hp} {a : Addr} {od : Obj} {u : HO} (e : H a = some u) (s : Same (upd H a (.frz od u)) H2) : Same H (upd H2 a u) := fun b o z => by
  by_cases c : b = a
  · subst c
    rw [upd_same, ← z]
    exact e.symm
  · rw [upd_ne c]
    exact s _ _ (by rw [upd_ne c]; exact z)
theorem Good.ints {U : Un} {kv : List (Key × V)} (g : Good U.di kv) : ∃ ns : List Int, kv.map (·.1) = ns.map Sum.inl := by
  have h : ∀ p ∈ kv, ∃ i, p.1 = Sum.inl i := fun p hp => by
    obtain ⟨i, _, e⟩ := List.mem_map.mp (g.ks p hp)
    exact ⟨i, e.symm⟩
  clear g
  induction kv with
  | nil => exact ⟨[], rfl⟩
  | cons p r ih =>
    obtain ⟨ns, e⟩ := ih fun q hq => h q (List.mem_cons_of_mem _ hq)
    obtain ⟨i, ei⟩ := h p (List.mem_cons_self ..)
    exact ⟨i :: ns, by rw [List.map_cons, List.map_cons, e, ei]⟩
theorem Good.strs {U : Un} {kv : List (Key × V)} (g : Good U.ki kv) : ∃ ns : List Str, kv.map (·.1) = ns.map Sum.inr := by
  have h : ∀ p ∈ kv, ∃ i, p.1 = Sum.inr i := fun p hp => by
    obtain ⟨i, _, e⟩ := List.mem_map.mp (g.ks p hp)
    exact ⟨i, e.symm⟩
  clear g
  induction kv with
  | nil => exact ⟨[], rfl⟩
  | cons p r ih =>
    obtain ⟨ns, e⟩ := ih fun q hq => h q (List.mem_cons_of_mem _ hq)
    obtain ⟨i, ei⟩ := h p (List.mem_cons_self ..)
    exact ⟨i :: ns, by rw [List.map_cons, List.map_cons, e, ei]⟩
theorem key_at {α : Type} {f : α → Key} {kv : List (Key × V)} {ns : List α} (h : kv.map (·.1) = ns.map f) {i : Nat} {key : Key} {v : V} (e : kv[i]? = some (key, v)) : ∃ j, ns[i]? = some j ∧ key = f j := by
  have z : (kv.map (·.1))[i]? = some key := by rw [List.getElem?_map, e]; rfl
  rw [h, List.getElem?_map] at z
  obtain ⟨j, hj, e2⟩ := Option.map_eq_some_iff.mp z
  exact ⟨j, hj, e2.symm⟩
theorem take_filter {p : Int → Bool} {ns : List Int} {i : Nat} {j : Int} (h : ns[i]? = some j) : (ns.take (i + 1)).filter p = (ns.take i).filter p ++ (if p j = true then [j] else []) := by
  rw [List.take_add_one, h, List.filter_append]
  congr 1
  show [j].filter p = _
  rw [List.filter_cons]
  rfl
theorem ints_len {U : Un} {kv : List (Key × V)} {ns : List Int} (h : kv.map (·.1) = ns.map Sum.inl) (g : Good U.di kv) (l : U.ds.length ≤ 60) : ns.length ≤ 60 := by
  have z := congrArg List.length h
  rw [List.length_map, List.length_map] at z
  rw [← z]
  exact Un.lenI g l
theorem strs_len {U : Un} {kv : List (Key × V)} {ns : List Str} (h : kv.map (·.1) = ns.map Sum.inr) (g : Good U.ki kv) (l : U.ks.length ≤ 60) : ns.length ≤ 60 := by
  have z := congrArg List.length h
  rw [List.length_map, List.length_map] at z
  rw [← z]
  exact Un.lenS g l
theorem nodup_unmap {α β : Type} {f : α → β} : ∀ {l : List α}, (l.map f).Nodup → l.Nodup
  | [], _ => by simp
  | a :: l, h => by
    rw [List.map_cons, List.nodup_cons] at h
    rw [List.nodup_cons]
    exact ⟨fun z => h.1 (List.mem_map_of_mem z), nodup_unmap h.2⟩
theorem ints_nd {us : List Key} {kv : List (Key × V)} {α : Type} {f : α → Key} {ns : List α} (h : kv.map (·.1) = ns.map f) (g : Good us kv) : ns.Nodup := nodup_unmap (f := f) (h ▸ g.nd)
theorem ints_mem {kv : List (Key × V)} {ns : List Int} (h : kv.map (·.1) = ns.map Sum.inl) {i : Int} (z : (Sum.inl i : Key) ∈ kv.map (·.1)) : i ∈ ns := by
  rw [h] at z
  obtain ⟨j, hj, e⟩ := List.mem_map.mp z
  cases e
  exact hj
theorem strs_mem {kv : List (Key × V)} {ns : List Str} (h : kv.map (·.1) = ns.map Sum.inr) {i : Str} (z : (Sum.inr i : Key) ∈ kv.map (·.1)) : i ∈ ns := by
  rw [h] at z
  obtain ⟨j, hj, e⟩ := List.mem_map.mp z
  cases e
  exact hj
section
variable {C : Addr} {U : Un} {S : Addr → Prop} {H : Hp} {x : Addr} {A : HA} {s : HS} {kv : List (Key × V)} {Q : VK} {z : V} {d : Int}
theorem upd_lv {H : Hp} {q b : Addr} {u : HO} (e : upd H q u b = none) : H b = none := by
  rw [upd_app] at e
  by_cases c : b = q
  · rw [if_pos c] at e; cases e
  · rw [if_neg c] at e; exact e
theorem nx_upd {q : Addr} {u : HO} {s' : HS} (h : HoldsAt C U S (upd H q u) x A s') (hq : S q) : Nx C U S H x A s' S (upd H q u) := ⟨h, fun _ z => .inl z, fun b o n e => by
  rw [upd_ne (fun y : b = q => n (y ▸ hq))]
  exact e, fun b e => upd_lv e⟩
theorem HoldsAt.popK (h : HoldsAt C U S H x A s) (e : H A.k = some (.dK kv)) (hq : ∀ v H1, Nx C U S H x A (s.noAsk d) S H1 → (∀ b, b ≠ A.k → H1 b = H b) → Q v H1) :
    (∀ v, valV kv (Sum.inl d) = some v → Q v (upd H A.k (.dK (L2.dropK kv (Sum.inl d))))) ∧ (valV kv (Sum.inl d) = none → Q z H) := by
  refine ⟨fun v _ => hq v _ (nx_upd (h.dropK d e) h.own.2.2.2.1) fun b n => upd_ne n, fun n => hq z H (Nx.refl ?_) fun _ _ => rfl⟩
  obtain ⟨tf, ht⟩ := h.ak
  obtain ⟨kv0, e0, gd, hv⟩ := ht.d
  rw [e] at e0
  cases e0
  rw [hv] at n
  have n' : (tf d).map V.ref = none := n
  rw [noAsk_none s (ht.no d (Option.map_eq_none_iff.mp n'))]
  exact h
theorem HoldsAt.popH (h : HoldsAt C U S H x A s) (e : H A.h = some (.dK kv)) (hq : ∀ v H1, Nx C U S H x A (s.noHeld d) S H1 → (∀ b, b ≠ A.h → H1 b = H b) → (∀ i, i ≠ d → hv H1 A i = hv H A i) → Q v H1) :
    (∀ v, valV kv (Sum.inl d) = some v → Q v (upd H A.h (.dK (L2.dropK kv (Sum.inl d))))) ∧ (valV kv (Sum.inl d) = none → Q z H) := by
  refine ⟨fun v _ => hq v _ (nx_upd (h.dropH d e) h.own.2.1) (fun b n => upd_ne n) fun i hi => ?_, fun n => hq z H (Nx.refl ?_) (fun _ _ => rfl) fun _ _ => rfl⟩
  · unfold hv
    rw [upd_same, e]
    show valV (L2.dropK kv (Sum.inl d)) (Sum.inl i) = valV kv (Sum.inl i)
    rw [val_drop, if_neg (fun y => hi (Sum.inl.inj y))]
  · obtain ⟨tf, ht⟩ := h.hd
    obtain ⟨kv0, e0, gd, hv⟩ := ht.d
    rw [e] at e0
    cases e0
    rw [hv] at n
    have n' : (tf d).map V.ref = none := n
    rw [noHeld_none s (ht.no d (Option.map_eq_none_iff.mp n'))]
    exact h
theorem HoldsAt.popG (h : HoldsAt C U S H x A s) (e : H A.g = some (.dK kv)) (hq : ∀ v H1, Nx C U S H x A (s.noAge d) S H1 → Q v H1) :
    (∀ v, valV kv (Sum.inl d) = some v → Q v (upd H A.g (.dK (L2.dropK kv (Sum.inl d))))) ∧ (valV kv (Sum.inl d) = none → Q z H) := by
  obtain ⟨kv0, e0, gd, hv⟩ := h.ag
  rw [e] at e0
  cases e0
  have key : ∀ k, kI (fun j => if j = d then none else vI s.ages j) k = kI (vI (fun i => if i = d then none else s.ages i)) k := fun k => by
    cases k with
    | inl i => show (if i = d then none else vI s.ages i) = Option.map V.int (if i = d then none else s.ages i); unfold vI; by_cases c : i = d <;> simp [c]
    | inr _ => rfl
  refine ⟨fun v _ => hq v _ (nx_upd (h.putG e (gd.drop _) fun k => (kI_drop hv d k).trans (key k)) h.own.2.2.1), fun n => hq z H (Nx.refl ?_)⟩
  have y : s.noAge d = s := by
    unfold HS.noAge
    have : (fun i => if i = d then .none else s.ages i) = s.ages := by
      funext i
      by_cases c : i = d
      · subst c
        rw [hv] at n
        have n' : (s.ages i).map V.int = none := n
        rw [if_pos rfl, Option.map_eq_none_iff.mp n']
      · rw [if_neg c]
    rw [this]
  rw [y]
  exact h
theorem vB_not {f : Int → Bool} {i : Int} (h : vB f i = none) : f i = false := by
  unfold vB at h
  cases e : f i with
  | false => rfl
  | true => rw [e, if_pos rfl] at h; cases h
theorem vB_drop (f : Int → Bool) (d : Int) (k : Key) : kI (fun j => if j = d then none else vB f j) k = kI (vB (fun i => if i = d then false else f i)) k := by
  cases k with
  | inl i => show (if i = d then none else vB f i) = vB (fun i => if i = d then false else f i) i; unfold vB; by_cases c : i = d <;> simp [c]
  | inr _ => rfl
theorem vB_put (f : Int → Bool) (d : Int) (k : Key) : kI (fun j => if j = d then some (.bl true) else vB f j) k = kI (vB (fun i => if i = d then true else f i)) k := by
  cases k with
  | inl i => show (if i = d then some (.bl true) else vB f i) = vB (fun i => if i = d then true else f i) i; unfold vB; by_cases c : i = d <;> simp [c]
  | inr _ => rfl
theorem off_same {f : Int → Bool} {d : Int} (h : f d = false) : (fun i => if i = d then false else f i) = f := by
  funext i
  by_cases c : i = d
  · subst c; rw [if_pos rfl, h]
  · rw [if_neg c]
theorem HoldsAt.popB (h : HoldsAt C U S H x A s) (e : H A.b = some (.dK kv)) (hq : ∀ v H1, Nx C U S H x A (s.noBnd d) S H1 → Q v H1) :
    (∀ v, valV kv (Sum.inl d) = some v → Q v (upd H A.b (.dK (L2.dropK kv (Sum.inl d))))) ∧ (valV kv (Sum.inl d) = none → Q z H) := by
  obtain ⟨kv0, e0, gd, hv⟩ := h.bd
  rw [e] at e0
  cases e0
  refine ⟨fun v _ => hq v _ (nx_upd (h.putB e (gd.drop _) fun k => (kI_drop hv d k).trans (vB_drop _ _ k)) h.own.2.2.2.2.2), fun n => hq z H (Nx.refl ?_)⟩
  rw [hv] at n
  have y : s.noBnd d = s := by unfold HS.noBnd; rw [off_same (vB_not n)]
  rw [y]
  exact h
theorem HoldsAt.popO (h : HoldsAt C U S H x A s) (e : H A.o = some (.dK kv)) (hq : ∀ v H1, Nx C U S H x A (s.noOff d) S H1 → Q v H1) :
    (∀ v, valV kv (Sum.inl d) = some v → Q v (upd H A.o (.dK (L2.dropK kv (Sum.inl d))))) ∧ (valV kv (Sum.inl d) = none → Q z H) := by
  obtain ⟨kv0, e0, gd, hv⟩ := h.of
  rw [e] at e0
  cases e0
  refine ⟨fun v _ => hq v _ (nx_upd (h.putO e (gd.drop _) fun k => (kI_drop hv d k).trans (vB_drop _ _ k)) h.own.2.2.2.2.1), fun n => hq z H (Nx.refl ?_)⟩
  rw [hv] at n
  have y : s.noOff d = s := by unfold HS.noOff; rw [off_same (vB_not n)]
  rw [y]
  exact h
theorem HoldsAt.setOffN (h : HoldsAt C U S H x A s) (hd : d ∈ U.ds) (e : H A.o = some (.dK kv)) (g : Good U.di kv) (v : ∀ k, valV kv k = kI (vB s.offs) k) : Nx C U S H x A (s.setOff d) S (upd H A.o (.dK (L2.putK kv (Sum.inl d) (.bl true)))) :=
  nx_upd (h.putO e (g.put (Un.inI hd) _) fun k => (kI_put v d _ k).trans (vB_put _ _ k)) h.own.2.2.2.2.1
theorem HoldsAt.setBndN (h : HoldsAt C U S H x A s) (hd : d ∈ U.ds) (e : H A.b = some (.dK kv)) (g : Good U.di kv) (v : ∀ k, valV kv k = kI (vB s.bnd) k) : Nx C U S H x A (s.setBnd d) S (upd H A.b (.dK (L2.putK kv (Sum.inl d) (.bl true)))) :=
  nx_upd (h.putB e (g.put (Un.inI hd) _) fun k => (kI_put v d _ k).trans (vB_put _ _ k)) h.own.2.2.2.2.2
theorem HoldsAt.setAgeN (h : HoldsAt C U S H x A s) (hd : d ∈ U.ds) (e : H A.g = some (.dK kv)) (g : Good U.di kv) (v : ∀ k, valV kv k = kI (vI s.ages) k) (a : Int) : Nx C U S H x A (s.setAge d a) S (upd H A.g (.dK (L2.putK kv (Sum.inl d) (.int a)))) :=
  nx_upd (h.putG e (g.put (Un.inI hd) _) fun k => (kI_put v d _ k).trans (by
    cases k with
    | inl i => show (if i = d then some (.int a) else vI s.ages i) = Option.map V.int (if i = d then some a else s.ages i); unfold vI; by_cases c : i = d <;> simp [c]
    | inr _ => rfl)) h.own.2.2.1
/-- held.get(d, {}) -/
theorem HoldsAt.mine (h : HoldsAt C U S H x A s) (e : H A.h = some (.dK kv)) {D : Addr} (n : H D = none) : ∃ r kr, (valV kv (Sum.inl d)).getD (.ref D) = .ref r ∧ (upd H D (.dK [])) r = some (.dK kr) ∧ Good U.ki kr ∧ (∀ z, valV kr z = kS (vS (s.held d)) z) ∧ ((valV kv (Sum.inl d) = some (.ref r) ∧ r ≠ D) ∨ (valV kv (Sum.inl d) = none ∧ r = D)) := by
  obtain ⟨rf, ht⟩ := h.hd
  obtain ⟨kv0, e0, gd, hv⟩ := ht.d
  rw [e] at e0
  cases e0
  cases c : rf d with
  | none =>
    have y : valV kv (Sum.inl d) = none := by rw [hv]; show (rf d).map V.ref = none; rw [c]; rfl
    refine ⟨D, [], by rw [y]; rfl, upd_same, Good.nil _, fun z => ?_, .inr ⟨y, rfl⟩⟩
    rw [ht.no d c]
    cases z <;> rfl
  | some r =>
    have y : valV kv (Sum.inl d) = some (.ref r) := by rw [hv]; show (rf d).map V.ref = _; rw [c]; rfl
    obtain ⟨_, _, kr, er, gr, vr⟩ := ht.yes d r c
    have nr := ne_of_none er n
    exact ⟨r, kr, by rw [y]; rfl, by rw [upd_ne nr]; exact er, gr, vr, .inl ⟨y, nr⟩⟩
end
section
variable {J : It} {n : Nat} {G : Hp → Prop} {Y : Nat → Hp → V → Hp → Prop}
theorem dc_it (w : Walk J n G Y) {g : TG} {tt : TT} {tk tv : TE} {vs : List Nat} {σ : L2.St} {H1 : Hp} {D : Addr} {Qd : Hp → Prop} (Pv : Nat → Hp → Prop) (h0 : Pv 0 (upd H1 D (.dK []))) (hG : ∀ i H, i ≤ n → Pv i H → G H)
    (hs : ∀ i x H H', i < n → Pv i H → Y i H x H' → g x (wipe σ vs) H' fun σ2 H2 => wipe σ2 vs = wipe σ vs ∧ tt σ2 H2 fun b H3 =>
      if b = true then tk σ2 H3 fun y H4 => tv σ2 H4 fun z H5 => ∃ kvs k, y = kV k ∧ H5 D = some (.dK kvs) ∧ kvs.length < sizeLine ∧ Pv (i + 1) (upd H5 D (.dK (putK kvs k z))) else Pv (i + 1) H3) (hd : ∀ H, Pv n H → Qd H) :
    ∃ W : Nat → Nat → Hp → Prop, (∃ m, W 0 m (upd H1 D (.dK []))) ∧ ∀ i m H, W i m H →
      (J.stop i H ∧ Qd H) ∨ (J.go i H ∧ ∃ Nx : Hp → Prop, (∀ H', Nx H' → ∃ m', m' < m ∧ W (i + 1) m' H') ∧ ∀ x H', J.yld i H x H' → g x (wipe σ vs) H' fun σ2 H2 => wipe σ2 vs = wipe σ vs ∧ tt σ2 H2 fun b H3 =>
        if b = true then tk σ2 H3 fun y H4 => tv σ2 H4 fun z H5 => ∃ kvs k, y = kV k ∧ H5 D = some (.dK kvs) ∧ kvs.length < sizeLine ∧ Nx (upd H5 D (.dK (putK kvs k z))) else Nx H3) := by
  refine ⟨fun i m H => m = n - i ∧ i ≤ n ∧ Pv i H, ⟨n, by simp, Nat.zero_le _, h0⟩, ?_⟩
  rintro i m H ⟨rfl, hi, p⟩
  have q := hG i H hi p
  by_cases hlt : i < n
  · refine .inr ⟨w.goes i H hlt q, Pv (i + 1), fun H' p' => ⟨n - (i + 1), by omega, rfl, hlt, p'⟩, fun x H' y => hs i x H H' hlt p (w.yields i H x H' hlt q y)⟩
  · have e : i = n := by omega
    subst e
    exact .inl ⟨w.stops H q, hd H p⟩
end
theorem take_notin {α : Type} : ∀ {l : List α} {i : Nat} {x : α}, l.Nodup → l[i]? = some x → ¬ x ∈ l.take i
  | [], _, _, _, h => by simp at h
  | a :: l, 0, x, _, h => by simp
  | a :: l, i + 1, x, nd, h => by
    rw [List.nodup_cons] at nd
    rw [List.take_succ_cons]
    intro z
    have h' : l[i]? = some x := by simpa using h
    rcases List.mem_cons.mp z with e | e
    · exact nd.1 (e ▸ List.mem_of_getElem? h')
    · exact take_notin nd.2 h' e
theorem val_keys {kv : List (Key × V)} {k : Key} (h : ¬ k ∈ kv.map (·.1)) : valV kv k = none := by
  cases e : valV kv k with
  | none => rfl
  | some v => exact absurd (valV_in e) h
theorem ofKv_put {s : HS} {d : Int} {ys : List Str} {i : Nat} {k m : Str} (hm : s.held d k = some m) (nd : ys.Nodup) (h : ys[i]? = some k) : putK (ofKv s d (ys.take i)) (Sum.inr k) (.str m) = ofKv s d (ys.take (i + 1)) := by
  rw [putK_new, List.take_add_one, h]
  · unfold ofKv
    rw [List.map_append]
    congr 1
    show _ = [(Sum.inr k, V.str ((s.held d k).getD ""))]
    rw [hm]
    rfl
  · refine val_keys fun z => ?_
    unfold ofKv at z
    rw [List.map_map] at z
    obtain ⟨y, hy, e⟩ := List.mem_map.mp z
    have e' : y = k := Sum.inr.inj e
    exact take_notin nd h (e' ▸ hy)
theorem putF_le (f : Str) (v : V) : ∀ l : List (Str × V), (putF f v l).length ≤ l.length + 1
  | [] => by show 1 ≤ 1; decide
  | p :: l => by
    have ih := putF_le f v l
    simp only [putF]
    split
    · simp
    · simp only [List.length_cons]; omega
theorem few0 : ([] : List (Str × V)).length ≤ 0 := by simp
theorem few_up {l : List (Str × V)} {n : Nat} (h : l.length ≤ n) (f : Str) (v : V) : (putF f v l).length ≤ n + 1 := Nat.le_trans (putF_le f v l) (by omega)
theorem IsL.filter {p q : Int → Bool} {l : List Int} (h : IsL p l) : IsL (fun o => p o && q o) (l.filter q) := ⟨h.up.sublist (List.filter_sublist (l := l)), fun i => by
  rw [List.mem_filter, h.mem, Bool.and_eq_true]⟩
def kvW (ws : List (Int × Addr × List Int)) : List (Key × V) := ws.map fun w => (Sum.inl w.1, V.ref w.2.1)
theorem kvW_put {ws : List (Int × Addr × List Int)} {d : Int} {p : Addr} {os : List Int} (h : ¬ d ∈ ws.map (·.1)) : putK (kvW ws) (Sum.inl d) (.ref p) = kvW (ws ++ [(d, p, os)]) := by
  rw [putK_new]
  · unfold kvW
    rw [List.map_append]
    rfl
  · refine val_keys fun z => h ?_
    unfold kvW at z
    rw [List.map_map] at z
    obtain ⟨w, hw, e⟩ := List.mem_map.mp z
    have e' : w.1 = d := Sum.inl.inj e
    exact List.mem_map.mpr ⟨w, hw, e'⟩
/-- what is told of the first askers -/
structure WaitJ (s : HS) (ds : List Int) (ws : List (Int × Addr × List Int)) : Prop where
  sub : (ws.map (·.1)).Sublist ds
  to : ∀ w ∈ ws, ∃ k m, s.asks w.1 = some (k, m) ∧ IsL (fun o => bar s w.1 k m o && outl s o w.1) w.2.2 ∧ w.2.2 ≠ []
  of : ∀ d ∈ ds, ∀ k m, s.asks d = some (k, m) → (∃ o, (bar s d k m o && outl s o d) = true) → d ∈ ws.map (·.1)
theorem WaitJ.no {s : HS} {ds : List Int} {ws : List (Int × Addr × List Int)} {d : Int} {k m : Str} (h : WaitJ s ds ws) (e : s.asks d = some (k, m)) (n : IsL (fun o => bar s d k m o && outl s o d) []) : WaitJ s (ds ++ [d]) ws := by
  refine ⟨h.sub.trans (List.sublist_append_left ..), h.to, fun d' hd' k' m' e' ⟨o, ho⟩ => ?_⟩
  rcases List.mem_append.mp hd' with z | z
  · exact h.of d' z k' m' e' ⟨o, ho⟩
  · rw [List.mem_singleton.mp z] at e' ho
    rw [e] at e'
    cases e'
    exact absurd ((n.mem o).mpr ho) (by simp)
theorem WaitJ.yes {s : HS} {ds : List Int} {ws : List (Int × Addr × List Int)} {d : Int} {k m : Str} {p : Addr} {os : List Int} (h : WaitJ s ds ws) (e : s.asks d = some (k, m)) (n : IsL (fun o => bar s d k m o && outl s o d) os) (hne : os ≠ []) : WaitJ s (ds ++ [d]) (ws ++ [(d, p, os)]) := by
  refine ⟨?_, fun w hw => ?_, fun d' hd' k' m' e' ho => ?_⟩
  · rw [List.map_append]
    exact h.sub.append (List.Sublist.refl _)
  · rcases List.mem_append.mp hw with z | z
    · exact h.to w z
    · rw [List.mem_singleton.mp z]
      exact ⟨k, m, e, n, hne⟩
  · rw [List.map_append]
    rcases List.mem_append.mp hd' with z | z
    · exact List.mem_append_left _ (h.of d' z k' m' e' ho)
    · rw [List.mem_singleton.mp z]
      exact List.mem_append_right _ (by simp)
theorem aged_some (s : HS) {d a : Int} {age : Option Int} (h : s.ages d = some a) : s.aged d age = s := by unfold HS.aged; rw [h]
theorem aged_none (s : HS) {d : Int} {age : Option Int} (h : s.ages d = none) : s.aged d age = s.setAge d (age.getD d) := by unfold HS.aged; rw [h]
theorem aged_held (s : HS) (d : Int) (age : Option Int) : (s.aged d age).held = s.held := by unfold HS.aged; split <;> rfl
theorem aged_asks (s : HS) (d : Int) (age : Option Int) : (s.aged d age).asks = s.asks := by unfold HS.aged; split <;> rfl
theorem aged_offs (s : HS) (d : Int) (age : Option Int) : (s.aged d age).offs = s.offs := by unfold HS.aged; split <;> rfl
theorem aged_bnd (s : HS) (d : Int) (age : Option Int) : (s.aged d age).bnd = s.bnd := by unfold HS.aged; split <;> rfl
theorem aged_age (s : HS) (d : Int) (age : Option Int) : ∃ a, (s.aged d age).ages d = some a := by
  cases n : s.ages d with
  | some b => rw [aged_some s n]; exact ⟨b, n⟩
  | none =>
    rw [aged_none s n]
    exact ⟨_, by show (if d = d then _ else _) = _; rw [if_pos rfl]⟩
theorem aged_ages (s : HS) (d : Int) (age : Option Int) {o a : Int} (h : s.ages o = some a) : (s.aged d age).ages o = some a := by
  cases n : s.ages d with
  | some b => rw [aged_some s n]; exact h
  | none =>
    rw [aged_none s n]
    show (if o = d then _ else s.ages o) = _
    by_cases c : o = d
    · rw [c, n] at h; cases h
    · rw [if_neg c]; exact h
theorem WF.aged {s : HS} (h : WF s) (d : Int) (age : Option Int) : WF (s.aged d age) := by
  refine ⟨fun o k v e => ?_, fun o k m e => ?_⟩
  · rw [aged_held] at e
    rw [aged_bnd]
    rcases h.h o k v e with z | ⟨a, z⟩
    · exact .inl z
    · exact .inr ⟨a, aged_ages s d age z⟩
  · rw [aged_asks] at e
    obtain ⟨a, z⟩ := h.a o k m e
    exact ⟨a, aged_ages s d age z⟩
section
variable {C : Addr} {U : Un} {S : Addr → Prop} {H : Hp} {x : Addr} {A : HA} {s : HS} {d : Int} {r : Addr}
theorem HoldsAt.mineAt (h : HoldsAt C U S H x A s) (e : hv H A d = some (.ref r)) : ∃ kv kr, H A.h = some (.dK kv) ∧ valV kv (Sum.inl d) = some (.ref r) ∧ H r = some (.dK kr) ∧ Good U.ki kr ∧ (∀ z, valV kr z = kS (vS (s.held d)) z) := by
  obtain ⟨rf, ht⟩ := h.hd
  obtain ⟨kv, ek, gd, vv⟩ := ht.d
  unfold hv at e
  rw [ek] at e
  have e' : valV kv (Sum.inl d) = some (.ref r) := e
  have e2 := e'
  rw [vv] at e2
  have e3 : (rf d).map V.ref = some (.ref r) := e2
  obtain ⟨r', hr, er⟩ := Option.map_eq_some_iff.mp e3
  cases er
  obtain ⟨_, _, kr, ekr, gr, vr⟩ := ht.yes d r hr
  exact ⟨kv, kr, ek, e', ekr, gr, vr⟩
end
theorem bar_ne {s : HS} {d o : Int} {k m : Str} (h : bar s d k m o = true) : o ≠ d := fun e => by
  unfold bar at h
  rw [decide_eq_true e] at h
  cases h
theorem bar_held {s : HS} {d o : Int} {k m : Str} (h : bar s d k m o = true) : ∃ n, s.held o k = some n ∧ bars m n = true := by
  unfold bar at h
  rw [Bool.and_eq_true] at h
  cases e : s.held o k with
  | none => rw [e] at h; cases h.2
  | some n => rw [e] at h; exact ⟨n, rfl, h.2⟩
theorem offL_held {s : HS} {l : List Int} {d : Int} (h : ¬ d ∈ l) : (s.offL l).held d = s.held d := by
  show (if d ∈ l then _ else s.held d) = _
  rw [if_neg h]
theorem getD_has (o : Option Str) : (o.map V.str).getD .non = hasV o := by cases o <;> rfl
theorem HoldsAt.inU {C : Addr} {U : Un} {S : Addr → Prop} {H : Hp} {x : Addr} {A : HA} {s : HS} (h : HoldsAt C U S H x A s) {o : Int} {k v : Str} (e : s.held o k = some v) : o ∈ U.ds := by
  obtain ⟨rf, ht⟩ := h.hd
  obtain ⟨kv, ek, gd, vv⟩ := ht.d
  cases c : rf o with
  | none => rw [ht.no o c] at e; cases e
  | some r =>
    have y : valV kv (Sum.inl o) = some (.ref r) := by rw [vv]; show (rf o).map V.ref = _; rw [c]; rfl
    obtain ⟨i, hi, ei⟩ := List.mem_map.mp (gd.ks _ (val_mem y))
    cases ei
    exact hi
theorem HoldsAt.rS {C : Addr} {U : Un} {S : Addr → Prop} {H : Hp} {x : Addr} {A : HA} {s : HS} (h : HoldsAt C U S H x A s) {d : Int} {r : Addr} (e : hv H A d = some (.ref r)) : S r ∧ ∀ q, q ∈ A.all → q ≠ r := by
  obtain ⟨rf, ht⟩ := h.hd
  obtain ⟨kv, ek, gd, vv⟩ := ht.d
  unfold hv at e
  rw [ek] at e
  have e' : valV kv (Sum.inl d) = some (.ref r) := e
  rw [vv] at e'
  have e3 : (rf d).map V.ref = some (.ref r) := e'
  obtain ⟨r', hr, er⟩ := Option.map_eq_some_iff.mp e3
  cases er
  exact ⟨(ht.yes d r hr).1, fun q hq z => (ht.yes d r hr).2.1 (z ▸ hq)⟩
/-- an asking noted -/
theorem Nx.asked {C : Addr} {U : Un} {S : Addr → Prop} {H : Hp} {x : Addr} {A : HA} {s : HS} (h : HoldsAt C U S H x A s) {d : Int} {t : Addr} {k m : Str} {kv : List (Key × V)} (ek : H A.k = some (.dK kv)) (hd : d ∈ U.ds) (nt : H t = none) :
    Nx C U S H x A (s.setAsk d k m) (fun b => S b ∨ b = t) (upd (upd H t (.tup [.str k, .str m])) A.k (.dK (putK kv (Sum.inl d) (.ref t)))) := by
  have nk := ne_of_none ek nt
  have h1 : HoldsAt C U S (upd H t (.tup [.str k, .str m])) x A s := h.same (same_new (Same.refl H) nt)
  refine ⟨h1.putK (by rw [upd_ne nk]; exact ek) hd upd_same, fun b z => ?_, fun b o n e => ?_, fun b e => upd_lv (upd_lv e)⟩
  · rcases z with z | rfl
    · exact .inl z
    · exact .inr nt
  · rw [upd_ne (fun z : b = A.k => n (z ▸ h.own.2.2.2.1)), upd_ne (ne_of_none e nt)]
    exact e
theorem dpall_ints {K : PySem.W.Frag} {H : Hp} : ∀ (ns : List Int), DpAll K H (ns.map V.int) (ns.map PyData.int)
  | [] => .nil
  | n :: r => .cons (.int n) (dpall_ints r)
theorem all_flat (ns : List Int) : (ns.map V.int).all flatV = true := by
  rw [List.all_map, List.all_eq_true]
  intro x _
  rfl
theorem all_flatS (ns : List Str) : (ns.map V.str).all flatV = true := by
  rw [List.all_map, List.all_eq_true]
  intro x _
  rfl
theorem in_ints (d : Int) (ns : List Int) : inV (.int d) (ns.map V.int) = decide (d ∈ ns) := by
  unfold inV
  rw [List.any_map]
  by_cases c : d ∈ ns
  · rw [decide_eq_true c, List.any_eq_true]
    exact ⟨d, c, by simp [eqV]⟩
  · rw [decide_eq_false c, List.any_eq_false]
    intro x hx
    simp only [Function.comp, eqV, beq_iff_eq]
    intro e
    exact c (e ▸ hx)
theorem in_strs (d : Str) (ns : List Str) : inV (.str d) (ns.map V.str) = decide (d ∈ ns) := by
  unfold inV
  rw [List.any_map]
  by_cases c : d ∈ ns
  · rw [decide_eq_true c, List.any_eq_true]
    exact ⟨d, c, by simp [eqV]⟩
  · rw [decide_eq_false c, List.any_eq_false]
    intro x hx
    simp only [Function.comp, eqV, beq_iff_eq]
    intro e
    exact c (e ▸ hx)
theorem eqv_nil (ns : List Int) : PyData.eqv (.list (ns.map PyData.int)) (.list []) = ns.isEmpty := by
  cases ns <;> simp [PyData.eqv, PyData.eqvAll]
theorem val_map {α : Type} {f : α → Key} {g : α → V} (inj : ∀ a b, f a = f b → a = b) {l : List α} {a : α} (h : a ∈ l) : valV (l.map fun x => (f x, g x)) (f a) = some (g a) := by
  induction l with
  | nil => cases h
  | cons b r ih =>
    rw [List.map_cons]
    by_cases c : b = a
    · subst c; exact valV_pos (p := (f b, g b)) rfl
    · rw [valV_neg (p := (f b, g b)) (fun z => c (inj _ _ z))]
      exact ih ((List.mem_cons.mp h).resolve_left (Ne.symm c))
theorem ofKv_val {s : HS} {d : Int} {ks : List Str} (mem : ∀ k, k ∈ ks ↔ (s.held d k).isSome = true) (k : Str) : valV (ofKv s d ks) (Sum.inr k) = (s.held d k).map V.str := by
  cases e : s.held d k with
  | none =>
    refine val_keys fun z => ?_
    unfold ofKv at z
    rw [List.map_map] at z
    obtain ⟨y, hy, ey⟩ := List.mem_map.mp z
    have ey' : y = k := Sum.inr.inj ey
    have := (mem y).mp hy
    rw [ey', e] at this
    cases this
  | some m =>
    have := val_map (f := fun k : Str => (Sum.inr k : Key)) (g := fun k => V.str ((s.held d k).getD "")) (fun a b z => Sum.inr.inj z) ((mem k).mpr (by rw [e]; rfl))
    unfold ofKv
    rw [this, e]
    rfl
theorem kvW_val {ws : List (Int × Addr × List Int)} (nd : (ws.map (·.1)).Nodup) {w : Int × Addr × List Int} (h : w ∈ ws) : valV (kvW ws) (Sum.inl w.1) = some (.ref w.2.1) := by
  have z : (kvW ws).map (·.1) = (ws.map (·.1)).map Sum.inl := by unfold kvW; rw [List.map_map, List.map_map]; rfl
  have y : ((kvW ws).map (·.1)).Nodup := by
    rw [z]
    rw [List.nodup_iff_pairwise_ne] at nd ⊢
    rw [List.pairwise_map]
    exact nd.imp fun {a b} h e => h (Sum.inl.inj e)
  exact mem_val y (p := (Sum.inl w.1, V.ref w.2.1)) (List.mem_map.mpr ⟨w, h, rfl⟩)
theorem kvW_has (ws : List (Int × Addr × List Int)) (o : Int) : (valV (kvW ws) (Sum.inl o)).isSome = decide (o ∈ ws.map (·.1)) := by
  have z : (kvW ws).map (·.1) = (ws.map (·.1)).map Sum.inl := by unfold kvW; rw [List.map_map, List.map_map]; rfl
  by_cases c : o ∈ ws.map (·.1)
  · rw [decide_eq_true c]
    cases e : valV (kvW ws) (Sum.inl o) with
    | some v => rfl
    | none => exact absurd (by rw [z]; exact List.mem_map.mpr ⟨o, c, rfl⟩) (val_none e)
  · rw [decide_eq_false c, val_keys]
    · rfl
    · intro y
      rw [z] at y
      obtain ⟨i, hi, e⟩ := List.mem_map.mp y
      cases e
      exact c hi
theorem WaitL.nd {s : HS} {ws : List (Int × Addr × List Int)} (h : WaitL s ws) : (ws.map (·.1)).Nodup := h.up.imp fun {a b} z e => by omega

theorem offL_bar {s : HS} {d : Int} {k m : Str} {off lb : List Int} {ou : Int → Bool} (hl : IsL (bar s d k m) lb) (ho : IsL (fun o => bar s d k m o && !ou o) off) : IsL (bar (s.offL off) d k m) (lb.filter ou) := by
  have h1 : IsL (fun o => bar s d k m o && ou o) (lb.filter ou) := hl.filter
  refine h1.congr fun o => ?_
  have z := ho.mem o
  unfold bar HS.offL at *
  by_cases c : o ∈ off
  · have y := z.mp c
    rw [Bool.and_eq_true, Bool.not_eq_true'] at y
    rw [y.2, Bool.and_false]
    simp only [c, if_true, Bool.and_false]
  · simp only [c, if_false]
    cases e : ou o with
    | true => rw [Bool.and_true]
    | false =>
      rw [Bool.and_false]
      cases e2 : (!decide (o = d) && match s.held o k with
          | none => false
          | some n => bars m n) with
      | false => rfl
      | true => exact absurd (z.mpr (by rw [e2, e]; rfl)) c
theorem split_len (f : Int → Bool) : ∀ l : List Int, (l.filter f).length + (l.filter fun o => !f o).length = l.length
  | [] => rfl
  | a :: r => by
    have ih := split_len f r
    rw [List.filter_cons, List.filter_cons]
    cases f a <;> simp <;> omega
/-! ### what stays in the law of barred holds -/
structure In23 (s : HS) : Prop where
  wf : WF s
  ag : ∀ d a, s.ages d = some a → a = d
  ex : ∀ o o' k n n', o ≠ o' → s.held o k = some n → s.held o' k = some n' → bars n n' = false
  of : ∀ d, s.offs d = true → (s.held d = fun _ => none) ∧ s.asks d = none
  bd : ∀ d, s.bnd d = true → s.asks d = none
theorem bars_comm (m n : Str) : bars m n = bars n m := by unfold bars; rw [Bool.or_comm]
theorem In23.new : In23 HS.none := ⟨⟨fun o k v e => (by cases e), fun d k m e => (by cases e)⟩, fun d a e => (by cases e), fun o o' k n n' _ e => (by cases e), fun d e => (by cases e), fun d e => (by cases e)⟩
theorem ifh {p : Prop} [Decidable p] {f g : Str → Option Str} {k v : Str} (h : (if p then f else g) k = some v) : (p ∧ f k = some v) ∨ (¬ p ∧ g k = some v) := by
  by_cases c : p
  · rw [if_pos c] at h; exact .inl ⟨c, h⟩
  · rw [if_neg c] at h; exact .inr ⟨c, h⟩
theorem In23.free {s : HS} (h : In23 s) (d : Int) : In23 (s.free d true) := by
  have eh : (s.free d true).held = fun i => if i = d then fun _ => .none else s.held i := rfl
  have eg : (s.free d true).ages = fun i => if i = d then .none else s.ages i := rfl
  have ea : (s.free d true).asks = fun i => if i = d then .none else s.asks i := rfl
  have eo : (s.free d true).offs = fun i => if i = d then false else s.offs i := rfl
  have eb : (s.free d true).bnd = fun i => if i = d then false else s.bnd i := rfl
  have hh : ∀ {o k v}, (s.free d true).held o k = some v → ¬ o = d ∧ s.held o k = some v := fun {o k v} e => by
    rw [eh] at e
    rcases ifh e with ⟨_, z⟩ | z
    · cases z
    · exact z
  refine ⟨⟨fun o k v e => ?_, fun o k m e => ?_⟩, fun o a e => ?_, fun o o' k n n' ne e e' => ?_, fun o e => ?_, fun o e => ?_⟩
  · obtain ⟨c, z⟩ := hh e
    rw [eb, eg]
    simp only [if_neg c]
    exact h.wf.h o k v z
  · rw [ea] at e
    rw [eg]
    by_cases c : o = d
    · simp [c] at e
    · simp only [if_neg c] at e ⊢
      exact h.wf.a o k m e
  · rw [eg] at e
    by_cases c : o = d
    · simp [c] at e
    · simp only [if_neg c] at e
      exact h.ag o a e
  · exact h.ex o o' k n n' ne (hh e).2 (hh e').2
  · rw [eo] at e
    by_cases c : o = d
    · simp [c] at e
    · simp only [if_neg c] at e
      rw [eh, ea]
      simp only [if_neg c]
      exact h.of o e
  · rw [eb] at e
    by_cases c : o = d
    · simp [c] at e
    · simp only [if_neg c] at e
      rw [ea]
      simp only [if_neg c]
      exact h.bd o e
theorem noAsk_asks {s : HS} {d o : Int} {p : Str × Str} (h : (s.noAsk d).asks o = some p) : s.asks o = some p := by
  have h' : (if o = d then .none else s.asks o) = some p := h
  by_cases c : o = d
  · rw [if_pos c] at h'; cases h'
  · rw [if_neg c] at h'; exact h'
theorem noAsk_no {s : HS} {d o : Int} (h : s.asks o = none) : (s.noAsk d).asks o = none := by
  show (if o = d then .none else s.asks o) = _
  by_cases c : o = d
  · rw [if_pos c]
  · rw [if_neg c]; exact h
theorem In23.noAsk {s : HS} (h : In23 s) (d : Int) : In23 (s.noAsk d) :=
  ⟨⟨h.wf.h, fun o k m e => h.wf.a o k m (noAsk_asks e)⟩, h.ag, h.ex, fun o e => ⟨(h.of o e).1, noAsk_no (h.of o e).2⟩, fun o e => noAsk_no (h.bd o e)⟩
theorem In23.pledge {s : HS} (h : In23 s) (d : Int) : In23 ((s.setBnd d).noAsk d) := by
  refine ⟨⟨fun o k v e => ?_, fun o k m e => h.wf.a o k m (noAsk_asks (s := s.setBnd d) e)⟩, h.ag, h.ex, fun o e => ⟨(h.of o e).1, noAsk_no (s := s.setBnd d) (h.of o e).2⟩, fun o e => ?_⟩
  · show (if o = d then true else s.bnd o) = true ∨ _
    by_cases c : o = d
    · exact .inl (by rw [if_pos c])
    · rw [if_neg c]
      exact h.wf.h o k v e
  · have e' : (if o = d then true else s.bnd o) = true := e
    show (if o = d then .none else s.asks o) = _
    by_cases c : o = d
    · rw [if_pos c]
    · rw [if_neg c] at e' ⊢
      exact h.bd o e'
theorem In23.aged {s : HS} (h : In23 s) (d : Int) : In23 (s.aged d none) := by
  refine ⟨h.wf.aged d none, fun o a e => ?_, fun o o' k n n' ne e e' => ?_, fun o e => ?_, fun o e => ?_⟩
  · cases c : s.ages d with
    | some b => rw [aged_some s c] at e; exact h.ag o a e
    | none =>
      rw [aged_none s c] at e
      have e' : (if o = d then some d else s.ages o) = some a := e
      by_cases c2 : o = d
      · rw [if_pos c2] at e'; cases e'; exact c2.symm
      · rw [if_neg c2] at e'; exact h.ag o a e'
  · rw [aged_held] at e e'; exact h.ex o o' k n n' ne e e'
  · rw [aged_offs] at e; rw [aged_held, aged_asks]; exact h.of o e
  · rw [aged_bnd] at e; rw [aged_asks]; exact h.bd o e
theorem In23.offL {s : HS} (h : In23 s) (l : List Int) : In23 (s.offL l) := by
  have hh : ∀ {o k v}, (s.offL l).held o k = some v → ¬ o ∈ l ∧ s.held o k = some v := fun {o k v} e => by
    have e' : (if o ∈ l then fun _ => .none else s.held o) k = some v := e
    rcases ifh e' with ⟨_, z⟩ | z
    · cases z
    · exact z
  have ha : ∀ {o p}, (s.offL l).asks o = some p → s.asks o = some p := fun {o p} e => by
    have e' : (if o ∈ l then .none else s.asks o) = some p := e
    by_cases c : o ∈ l
    · rw [if_pos c] at e'; cases e'
    · rw [if_neg c] at e'; exact e'
  have hn : ∀ {o}, s.asks o = none → (s.offL l).asks o = none := fun {o} e => by
    show (if o ∈ l then .none else s.asks o) = _
    by_cases c : o ∈ l
    · rw [if_pos c]
    · rw [if_neg c]; exact e
  refine ⟨⟨fun o k v e => h.wf.h o k v (hh e).2, fun o k m e => h.wf.a o k m (ha e)⟩, h.ag, fun o o' k n n' ne e e' => h.ex o o' k n n' ne (hh e).2 (hh e').2, fun o e => ?_, fun o e => hn (h.bd o e)⟩
  have e' : (if o ∈ l then true else s.offs o) = true := e
  show ((if o ∈ l then fun _ => .none else s.held o) = fun _ => .none) ∧ (if o ∈ l then .none else s.asks o) = .none
  by_cases c : o ∈ l
  · rw [if_pos c, if_pos c]; exact ⟨rfl, rfl⟩
  · rw [if_neg c] at e' ⊢
    rw [if_neg c]
    exact h.of o e'
theorem offL_offs {s : HS} {l : List Int} {d : Int} (h : ¬ d ∈ l) : (s.offL l).offs d = s.offs d := by
  show (if d ∈ l then true else s.offs d) = _
  rw [if_neg h]
theorem In23.setAsk {s : HS} (h : In23 s) {d : Int} {k m : Str} (ho : s.offs d = false) (hb : s.bnd d = false) (ha : ∃ a, s.ages d = some a) : In23 (s.setAsk d k m) := by
  refine ⟨⟨h.wf.h, fun o k' m' e => ?_⟩, h.ag, h.ex, fun o e => ⟨(h.of o e).1, ?_⟩, fun o e => ?_⟩
  · have e' : (if o = d then some (k, m) else s.asks o) = some (k', m') := e
    by_cases c : o = d
    · rw [c]; exact ha
    · rw [if_neg c] at e'; exact h.wf.a o k' m' e'
  · show (if o = d then some (k, m) else s.asks o) = none
    rw [if_neg (fun c => by
      have e' : s.offs o = true := e
      rw [c, ho] at e'; cases e')]
    exact (h.of o e).2
  · show (if o = d then some (k, m) else s.asks o) = none
    rw [if_neg (fun c => by
      have e' : s.bnd o = true := e
      rw [c, hb] at e'; cases e')]
    exact h.bd o e
theorem hold_held {s : HS} {d o : Int} {k m k' v : Str} (h : (s.hold d k m).held o k' = some v) : (o = d ∧ k' = k ∧ v = m) ∨ s.held o k' = some v := by
  have e : (if o = d then (if k' = k then some m else s.held d k') else s.held o k') = some v := h
  by_cases c : o = d
  · rw [if_pos c] at e
    by_cases c2 : k' = k
    · rw [if_pos c2] at e
      exact .inl ⟨c, c2, (Option.some.inj e).symm⟩
    · rw [if_neg c2] at e
      exact .inr (c ▸ e)
  · rw [if_neg c] at e
    exact .inr e
theorem In23.hold {s : HS} (h : In23 s) {d : Int} {k m : Str} (ho : s.offs d = false) (ha : ∃ a, s.ages d = some a) (nb : ∀ o, bar s d k m o = false) : In23 (s.hold d k m) := by
  have clear : ∀ {o n}, o ≠ d → s.held o k = some n → bars m n = false := fun {o n} ne e => by
    have z := nb o
    unfold bar at z
    rw [e, decide_eq_false ne] at z
    exact z
  refine ⟨⟨fun o k' v e => ?_, h.wf.a⟩, h.ag, fun o o' k' n n' ne e e' => ?_, fun o e => ⟨?_, (h.of o e).2⟩, h.bd⟩
  · rcases hold_held e with ⟨c, _, _⟩ | z
    · exact .inr (c ▸ ha)
    · exact h.wf.h o k' v z
  · rcases hold_held e with ⟨c, ck, cv⟩ | z <;> rcases hold_held e' with ⟨c', ck', cv'⟩ | z'
    · exact absurd (c.trans c'.symm) ne
    · rw [cv]
      exact clear (fun y => ne (c.trans y.symm)) (ck ▸ z')
    · rw [cv', bars_comm]
      exact clear (fun y => ne (y.trans c'.symm)) (ck' ▸ z)
    · exact h.ex o o' k' n n' ne z z'
  · have e' : s.offs o = true := e
    have c : ¬ o = d := fun c => by rw [c, ho] at e'; cases e'
    funext z
    show (if o = d then _ else s.held o z) = _
    rw [if_neg c, (h.of o e').1]
theorem In23.outl {s : HS} (h : In23 s) {o d : Int} (e : outl s o d = true) : s.bnd o = true ∨ o < d := by
  unfold M.outl at e
  rw [Bool.or_eq_true] at e
  rcases e with e | e
  · exact .inl e
  · right
    cases c1 : s.ages o with
    | none => rw [c1] at e; cases e
    | some a =>
      cases c2 : s.ages d with
      | none => rw [c1, c2] at e; cases e
      | some b =>
        rw [c1, c2] at e
        have := h.ag o a c1
        have := h.ag d b c2
        simp only [Bool.or_eq_true, Bool.and_eq_true, decide_eq_true_eq] at e
        omega
def modes (s : HS) (k : Str) (n : Nat) : List Str := (List.range n).filterMap fun j : Nat => s.held (j : Int) k
theorem modes_succ (s : HS) (k : Str) (n : Nat) : modes s k (n + 1) = modes s k n ++ (match s.held (n : Int) k with | none => [] | some m => [m]) := by
  unfold modes
  rw [List.range_succ, List.filterMap_append]
  congr 1
  cases e : s.held (n : Int) k with
  | none => simp [e]
  | some m => simp [e]
theorem modes_len (s : HS) (k : Str) (n : Nat) : (modes s k n).length ≤ n := by
  unfold modes
  exact Nat.le_trans (List.length_filterMap_le ..) (by simp)
theorem In23.modes {s : HS} (h : In23 s) (k : Str) (n : Nat) (hw : ("write" : Str) ∈ modes s k n) : (modes s k n).length ≤ 1 := by
  have hp : (M.modes s k n).Pairwise fun a b => bars a b = false := by
    unfold M.modes
    rw [List.pairwise_filterMap]
    have nd : (List.range n).Pairwise (· ≠ ·) := List.nodup_range
    exact List.Pairwise.imp (S := fun (i j : Nat) => ∀ a, s.held (i : Int) k = some a → ∀ b, s.held (j : Int) k = some b → bars a b = false) (fun {i j} ne a ha b hb => h.ex i j k a b (fun z => ne (Int.ofNat.inj z)) ha hb) nd
  generalize M.modes s k n = l at hw hp
  match l, hw, hp with
  | [], _, _ => exact Nat.zero_le _
  | [x], _, _ => exact Nat.le_refl _
  | x :: y :: r, hw, hp =>
    exfalso
    rw [List.pairwise_cons] at hp
    rcases List.mem_cons.mp hw with e | e
    · have z := hp.1 y (List.mem_cons_self ..)
      rw [← e] at z
      cases z
    · have z := hp.1 _ e
      rw [bars_comm] at z
      cases z
def U23 : Un := ⟨[0, 1, 2, 3, 4, 5, 6, 7], ["a", "b", "c", "d"]⟩
theorem u23 {r : Int} (h0 : 0 ≤ r) (h1 : r < 8) : r ∈ U23.ds := by
  have : r = 0 ∨ r = 1 ∨ r = 2 ∨ r = 3 ∨ r = 4 ∨ r = 5 ∨ r = 6 ∨ r = 7 := by omega
  rcases this with rfl | rfl | rfl | rfl | rfl | rfl | rfl | rfl <;> decide
/-- some that wait, wait for none that waits -/
theorem In23.ends {s : HS} (h : In23 s) {ws : List (Int × Addr × List Int)} (w : WaitL s ws) (hne : ws ≠ []) : (ws.filter fun w => (w.2.2.filter fun o => decide (o ∈ ws.map (·.1))).isEmpty) ≠ [] := by
  match ws, hne, w with
  | x :: r, _, w =>
    intro z
    have hx : ((x.2.2.filter fun o => decide (o ∈ (x :: r).map (·.1))).isEmpty) = true := by
      rw [List.isEmpty_iff, List.filter_eq_nil_iff]
      intro o ho c
      have c := of_decide_eq_true c
      obtain ⟨k, m, e, il, _⟩ := w.to x (List.mem_cons_self ..)
      have y := (il.mem o).mp ho
      rw [Bool.and_eq_true] at y
      rcases h.outl y.2 with b | b
      · obtain ⟨x', hx', e'⟩ := List.mem_map.mp c
        obtain ⟨k', m', ea, _⟩ := w.to x' hx'
        rw [show x'.1 = o from e', h.bd o b] at ea
        cases ea
      · have up := w.up
        rw [List.map_cons, List.pairwise_cons] at up
        rw [List.map_cons] at c
        rcases List.mem_cons.mp c with c | c
        · omega
        · have := up.1 o c
          omega
    rw [List.filter_cons, if_pos hx] at z
    cases z
def spStep23 (C : Addr) : Sp := fun vs H Q _ => ∃ (b x : Addr) (S : Addr → Prop) (A : HA) (s : HS), vs = [.ref b, .ref x] ∧ BagAt H b ∧ ¬ S b ∧ HoldsAt C U23 S H x A s ∧ In23 s ∧
  ∀ (s' : HS) (S' : Addr → Prop) (H' : Hp), HoldsAt C U23 S' H' x A s' → In23 s' → (∀ c, S' c → S c ∨ H c = none) → (∀ c o, ¬ S c → c ≠ b → H c = some o → H' c = some o) → Q .non H'
def spRight23 (C : Addr) : Sp := fun vs H Q _ => ∃ (x : Addr) (U : Un) (S : Addr → Prop) (A : HA) (s : HS), vs = [.ref x] ∧ HoldsAt C U S H x A s ∧ In23 s ∧ ∀ H', Same H H' → Q (.bl true) H'

theorem ok_bars {P : Program} {w : World} {K : PySem.W.Frag} {mg : Str → Option Value} {base : Heap} {a : Nat → Addr} {d : Nat → FuncData} (T : Txt K mg a d) : FnOk P w K mg base CX0 1 (a 0) (d 0) ["mode", "other_mode"] spBars := by
  refine T.F_bars.ok sc_bars (fun vs H Q E h => ?_) (fun cdv A outer s0 H vs Q E hr h => ?_)
  · obtain ⟨m, n, rfl, q⟩ := h
    rfl
  · obtain ⟨m, n, rfl, q⟩ := h
    refine ⟨_, (pss_one (ps_ret (pe_or (pe_cmpR op_eq (pv 0) (pe_glob (v := .str "write") (by rfl) (Exists.choose_spec T.g_WRITE) ⟨_, rfl⟩) (nomark _)) (pe_one (pe_cmpR op_eq (pv 1) (pe_glob (v := .str "write") (by rfl) (Exists.choose_spec T.g_WRITE) ⟨_, rfl⟩) (nomark _)))))), ?_⟩
    refine ⟨_, rfl, rfl, _, rfl, ?_⟩
    have e0 : ∀ z : Str, decide (V.str z = V.str "write") = decide (z = "write") := fun z => decide_eq_decide.mpr ⟨fun h => V.str.inj h, fun h => by rw [h]⟩
    have z := q H (Same.refl H)
    unfold bars at z
    rw [e0]
    cases c : decide (m = "write") with
    | true =>
      rw [c] at z
      exact iteT z
    | false =>
      rw [c] at z
      refine iteF ⟨_, rfl, rfl, ?_⟩
      rw [e0]
      exact z

theorem ok_is_enough {P : Program} {w : World} {K : PySem.W.Frag} {mg : Str → Option Value} {base : Heap} {a : Nat → Addr} {d : Nat → FuncData} (T : Txt K mg a d) : FnOk P w K mg base CX0 1 (a 1) (d 1) ["has", "mode"] spEnough := by
  refine T.F_is_enough.ok sc_is_enough (fun vs H Q E h => ?_) (fun cdv A outer s0 H vs Q E hr h => ?_)
  · obtain ⟨o, m, rfl, q⟩ := h
    rfl
  · obtain ⟨o, m, rfl, q⟩ := h
    refine ⟨_, (pss_one (ps_ret (pe_or (pe_cmpR op_eq (pv 0) (pv 1) (nomark _)) (pe_one (pe_cmpR op_eq (pv 0) (pe_glob (v := .str "write") (by rfl) (Exists.choose_spec T.g_WRITE) ⟨_, rfl⟩) (nomark _)))))), ?_⟩
    have e0 : ∀ z y : Str, decide (V.str z = V.str y) = decide (z = y) := fun z y => decide_eq_decide.mpr ⟨fun h => V.str.inj h, fun h => by rw [h]⟩
    have z := q H (Same.refl H)
    cases o with
    | none =>
      refine ⟨_, rfl, _, rfl, rfl, _, rfl, iteF ⟨_, rfl, rfl, ?_⟩⟩
      exact z
    | some h =>
      refine ⟨_, rfl, _, rfl, rfl, _, rfl, ?_⟩
      unfold enough at z
      rw [show decide (hasV (some h) = V.str m) = decide (h = m) from e0 h m]
      cases c : decide (h = m) with
      | true =>
        simp only [c, Bool.true_or] at z
        exact iteT z
      | false =>
        simp only [c, Bool.false_or] at z
        refine iteF ⟨_, rfl, rfl, ?_⟩
        show Q (V.bl (decide (V.str h = V.str "write"))) H
        rw [e0]
        exact z

theorem ok_Holds___init__ {P : Program} {w : World} {K : PySem.W.Frag} {mg : Str → Option Value} {base : Heap} {a : Nat → Addr} {d : Nat → FuncData} (T : Txt K mg a d) : FnOk P w K mg base CX0 1 (a 2) (d 2) ["self"] (spInitH (a 23)) := by
  refine T.F_Holds___init__.ok sc_Holds___init__ (fun vs H Q E h => ?_) (fun cdv A outer s0 H vs Q E hr h => ?_)
  · obtain ⟨x, dx, rfl, hx, q⟩ := h
    rfl
  · obtain ⟨x, dx, rfl, hx, q⟩ := h
    refine ⟨_, (pss_cons (ps_fld (pv 0) pe_dnewK rfl) (pss_cons (ps_fld (pv 0) pe_dnewK rfl) (pss_cons (ps_fld (pv 0) pe_dnewK rfl) (pss_cons (ps_fld (pv 0) pe_dnewK rfl) (pss_cons (ps_fld (pv 0) pe_dnewK rfl) (pss_one (ps_fld (pv 0) pe_bl rfl))))))), ?_⟩
    intro a1 n1
    have x1 : x ≠ a1 := ne_of_none hx n1
    refine ⟨_, rfl, x, _, dx, _, rfl, (by rw [upd_ne x1]; exact hx), T.cl, T.n_held, Nat.lt_of_le_of_lt (few0) (by decide), ?_⟩
    intro a2 n2
    have h1 : H a1 = none := n1
    have z2 := n2
    rw [upd_app] at z2
    have x2 : x ≠ a2 := fun e => by rw [e] at z2; simp at z2
    rw [if_neg (Ne.symm x2), upd_app] at z2
    have a12 : a1 ≠ a2 := fun e => by rw [e] at z2; simp at z2
    rw [if_neg (Ne.symm a12)] at z2
    refine ⟨_, rfl, x, _, dx, _, rfl, (by rw [upd_ne x2]; exact upd_same), T.cl, T.n_ages, Nat.lt_of_le_of_lt (few_up (few0) _ _) (by decide), ?_⟩
    intro a3 n3
    have z3 := n3
    rw [upd_app] at z3
    have x3 : x ≠ a3 := fun e => by rw [e] at z3; simp at z3
    rw [if_neg (Ne.symm x3), upd_app] at z3
    have a23 : a2 ≠ a3 := fun e => by rw [e] at z3; simp at z3
    rw [if_neg (Ne.symm a23), upd_app, if_neg (Ne.symm x3), upd_app] at z3
    have a13 : a1 ≠ a3 := fun e => by rw [e] at z3; simp at z3
    rw [if_neg (Ne.symm a13)] at z3
    refine ⟨_, rfl, x, _, dx, _, rfl, (by rw [upd_ne x3]; exact upd_same), T.cl, T.n_askings, Nat.lt_of_le_of_lt (few_up (few_up (few0) _ _) _ _) (by decide), ?_⟩
    intro a4 n4
    have z4 := n4
    rw [upd_app] at z4
    have x4 : x ≠ a4 := fun e => by rw [e] at z4; simp at z4
    rw [if_neg (Ne.symm x4), upd_app] at z4
    have a34 : a3 ≠ a4 := fun e => by rw [e] at z4; simp at z4
    rw [if_neg (Ne.symm a34), upd_app, if_neg (Ne.symm x4), upd_app] at z4
    have a24 : a2 ≠ a4 := fun e => by rw [e] at z4; simp at z4
    rw [if_neg (Ne.symm a24), upd_app, if_neg (Ne.symm x4), upd_app] at z4
    have a14 : a1 ≠ a4 := fun e => by rw [e] at z4; simp at z4
    rw [if_neg (Ne.symm a14)] at z4
    refine ⟨_, rfl, x, _, dx, _, rfl, (by rw [upd_ne x4]; exact upd_same), T.cl, T.n_offs, Nat.lt_of_le_of_lt (few_up (few_up (few_up (few0) _ _) _ _) _ _) (by decide), ?_⟩
    intro a5 n5
    have z5 := n5
    rw [upd_app] at z5
    have x5 : x ≠ a5 := fun e => by rw [e] at z5; simp at z5
    rw [if_neg (Ne.symm x5), upd_app] at z5
    have a45 : a4 ≠ a5 := fun e => by rw [e] at z5; simp at z5
    rw [if_neg (Ne.symm a45), upd_app, if_neg (Ne.symm x5), upd_app] at z5
    have a35 : a3 ≠ a5 := fun e => by rw [e] at z5; simp at z5
    rw [if_neg (Ne.symm a35), upd_app, if_neg (Ne.symm x5), upd_app] at z5
    have a25 : a2 ≠ a5 := fun e => by rw [e] at z5; simp at z5
    rw [if_neg (Ne.symm a25), upd_app, if_neg (Ne.symm x5), upd_app] at z5
    have a15 : a1 ≠ a5 := fun e => by rw [e] at z5; simp at z5
    rw [if_neg (Ne.symm a15)] at z5
    refine ⟨_, rfl, x, _, dx, _, rfl, (by rw [upd_ne x5]; exact upd_same), T.cl, T.n_bound, Nat.lt_of_le_of_lt (few_up (few_up (few_up (few_up (few0) _ _) _ _) _ _) _ _) (by decide), ?_⟩
    refine ⟨_, rfl, x, _, dx, _, rfl, upd_same, T.cl, T.n_lent, Nat.lt_of_le_of_lt (few_up (few_up (few_up (few_up (few_up (few0) _ _) _ _) _ _) _ _) _ _) (by decide), ?_⟩
    refine q ⟨a1, a2, a3, a4, a5⟩ _ (fun U hU1 hU2 => ⟨fun b => b = x ∨ b = a1 ∨ b = a2 ∨ b = a3 ∨ b = a4 ∨ b = a5, ?_, fun b hb => ?_⟩) (fun b o n e => ?_)
    · have e1 : ∀ {f : Int → Option V}, (∀ i, f i = none) → ∀ k : Key, valV [] k = kI f k := fun h k => by
        cases k with
        | inl i => exact (h i).symm
        | inr _ => rfl
      refine ⟨⟨dx, upd_same⟩, ⟨fun _ => none, ⟨⟨[], ?_, Good.nil _, e1 fun _ => rfl⟩, fun i j r z => (by cases z), fun _ _ => rfl, fun i r z => (by cases z)⟩⟩, ⟨[], ?_, Good.nil _, e1 fun _ => rfl⟩, ⟨fun _ => none, ⟨⟨[], ?_, Good.nil _, e1 fun _ => rfl⟩, fun _ _ => rfl, fun i r z => (by cases z)⟩⟩, ⟨[], ?_, Good.nil _, e1 fun _ => rfl⟩, ⟨[], ?_, Good.nil _, e1 fun _ => rfl⟩, ⟨a12, a13, a14, a15, a23, a24, a25, a34, a35, a45⟩, ⟨.inl rfl, .inr (.inl rfl), .inr (.inr (.inl rfl)), .inr (.inr (.inr (.inl rfl))), .inr (.inr (.inr (.inr (.inl rfl)))), .inr (.inr (.inr (.inr (.inr rfl))))⟩, fun b hb => ?_, ⟨hU1, hU2⟩⟩
      · simp [upd_app, Ne.symm x1, a12, a13, a14, a15]
      · simp [upd_app, Ne.symm x2, a23, a24, a25]
      · simp [upd_app, Ne.symm x3, a34, a35]
      · simp [upd_app, Ne.symm x4, a45]
      · simp [upd_app, Ne.symm x5]
      · rcases hb with rfl | rfl | rfl | rfl | rfl | rfl
        · exact ⟨_, upd_same⟩
        · exact ⟨.dK [], by simp [upd_app, Ne.symm x1, a12, a13, a14, a15]⟩
        · exact ⟨.dK [], by simp [upd_app, Ne.symm x2, a23, a24, a25]⟩
        · exact ⟨.dK [], by simp [upd_app, Ne.symm x3, a34, a35]⟩
        · exact ⟨.dK [], by simp [upd_app, Ne.symm x4, a45]⟩
        · exact ⟨.dK [], by simp [upd_app, Ne.symm x5]⟩
    · rcases hb with rfl | rfl | rfl | rfl | rfl | rfl
      · exact .inl rfl
      · exact .inr h1
      · exact .inr z2
      · exact .inr z3
      · exact .inr z4
      · exact .inr z5
    · have b1 := ne_of_none e h1
      have b2 := ne_of_none e z2
      have b3 := ne_of_none e z3
      have b4 := ne_of_none e z4
      have b5 := ne_of_none e z5
      simp only [upd_app, if_neg n, if_neg b1, if_neg b2, if_neg b3, if_neg b4, if_neg b5]
      exact e

theorem ok_Holds_make_own {P : Program} {w : World} {K : PySem.W.Frag} {mg : Str → Option Value} {base : Heap} {a : Nat → Addr} {d : Nat → FuncData} (T : Txt K mg a d) : FnOk P w K mg base CX0 1 (a 14) (d 14) ["self"] (spOwn (a 23)) := by
  refine T.F_Holds_make_own.ok sc_Holds_make_own (fun vs H Q E h => ?_) (fun cdv A outer s0 H vs Q E hr h => ?_)
  · obtain ⟨x, U, S, A, s, rfl, hh, q⟩ := h
    rfl
  · obtain ⟨x, U, S, A, s, rfl, hh, q⟩ := h
    obtain ⟨dx, hx⟩ := hh.ins
    refine ⟨_, (pss_one (ps_if (pt_truth (pe_fld (pv 0) rfl) (by intro _; rfl)) (pss_cons (ps_fld (pv 0) (pe_callTy call_dictD (by rfl) T.z_dict (by decide +kernel) (pa_cons (pe_fld (pv 0) rfl) pa_nil)) rfl) (pss_cons (ps_fld (pv 0) (pe_callTy call_dictD (by rfl) T.z_dict (by decide +kernel) (pa_cons (pe_fld (pv 0) rfl) pa_nil)) rfl) (pss_cons (ps_fld (pv 0) (pe_callTy call_dictD (by rfl) T.z_dict (by decide +kernel) (pa_cons (pe_fld (pv 0) rfl) pa_nil)) rfl) (pss_cons (ps_fld (pv 0) (pe_callTy call_dictD (by rfl) T.z_dict (by decide +kernel) (pa_cons (pe_fld (pv 0) rfl) pa_nil)) rfl) (pss_cons (ps_fld (pv 0) (pe_callTy call_dictD (by rfl) T.z_dict (by decide +kernel) (pa_cons (pe_fld (pv 0) rfl) pa_nil)) rfl) (pss_one (ps_fld (pv 0) pe_bl rfl))))))) pss_nil)), ?_⟩
    exact ⟨_, rfl, x, _, dx, _, _, rfl, hx, T.cl, T.n_lent, hf_l A, _, rfl, iteF q⟩

theorem ok_Holds_way_of {P : Program} {w : World} {K : PySem.W.Frag} {mg : Str → Option Value} {base : Heap} {a : Nat → Addr} {d : Nat → FuncData} (T : Txt K mg a d) : FnOk P w K mg base CX0 1 (a 15) (d 15) ["self", "dealing", "key"] (spWay (a 23)) := by
  refine T.F_Holds_way_of.ok sc_Holds_way_of (fun vs H Q E h => ?_) (fun cdv A outer s0 H vs Q E hr h => ?_)
  · obtain ⟨x, U, S, A, s, d, k, rfl, hh, q⟩ := h
    rfl
  · obtain ⟨x, U, S, A, s, d, k, rfl, hh, q⟩ := h
    obtain ⟨dx, hx⟩ := hh.ins
    obtain ⟨rf, ht⟩ := hh.hd
    obtain ⟨kv, ek, gd, vv⟩ := ht.d
    refine ⟨_, (pss_cons (ps_set (i := 3) sc_Holds_way_of.nd rfl (Or.inl rfl) (pe_dget1 (hu_of hr) (pe_fld (pv 0) rfl) (pv 1) ⟨rfl, rfl, rfl, rfl⟩)) (pss_one (ps_ret (pe_ifExp (pt_cmpR op_isN (pv 3) pe_non (nomark _)) pe_non (pe_dget1 (hu_of hr) (pv 3) (pv 2) ⟨rfl, rfl, rfl, rfl⟩))))), ?_⟩
    refine ⟨_, rfl, x, _, dx, _, _, rfl, hx, T.cl, T.n_held, hf_h A, A.h, rfl, .inl ⟨kv, .inl ek⟩, _, rfl, _, DGet.k (k := Sum.inl d) ek, ?_⟩
    have e1 : valV kv (Sum.inl d) = (rf d).map V.ref := by rw [vv]; rfl
    rw [e1]
    cases c : rf d with
    | none =>
      have e2 := ht.no d c
      refine ⟨_, rfl, rfl, _, rfl, iteT ?_⟩
      rw [e2] at q
      exact q
    | some r =>
      obtain ⟨_, _, kr, er, gr, vr⟩ := ht.yes d r c
      refine ⟨_, rfl, rfl, _, rfl, iteF ⟨_, rfl, r, rfl, .inl ⟨kr, .inl er⟩, _, rfl, _, DGet.k (k := Sum.inr k) er, ?_⟩⟩
      have e3 : valV kr (Sum.inr k) = (s.held d k).map V.str := by rw [vr]; rfl
      rw [e3, getD_has]
      exact q

theorem ok_Holds_hold_so {P : Program} {w : World} {K : PySem.W.Frag} {mg : Str → Option Value} {base : Heap} {a : Nat → Addr} {d : Nat → FuncData} (T : Txt K mg a d) : FnOk P w K mg base CX0 1 (a 16) (d 16) ["self", "dealing", "key", "mode"] (spHoldSo (a 23)) := by
  refine T.F_Holds_hold_so.ok sc_Holds_hold_so (fun vs H Q E h => ?_) (fun cdv A outer s0 H vs Q E hr h => ?_)
  · obtain ⟨x, U, S, A, s, d, k, m, rfl, hh, hd, hk, q⟩ := h
    rfl
  · obtain ⟨x, U, S, A, s, d, k, m, rfl, hh, hd, hk, q⟩ := h
    obtain ⟨dx, hx⟩ := hh.ins
    obtain ⟨rf, ht⟩ := hh.hd
    obtain ⟨kv, ek, gd, vv⟩ := ht.d
    refine ⟨_, (pss_cons (ps_set (i := 4) sc_Holds_hold_so.nd rfl (Or.inl rfl) (pe_callTy call_dictD (by rfl) T.z_dict (by decide +kernel) (pa_cons (pe_dget2 (hu_of hr) (pe_fld (pv 0) rfl) (pv 1) pe_dnewK ⟨rfl, rfl, rfl, rfl⟩) pa_nil))) (pss_cons (ps_dput (hu_of hr) (pv 4) (pv 2) (pv 3) rfl) (pss_one (ps_dput (hu_of hr) (pe_fld (pv 0) rfl) (pv 1) (pv 4) rfl)))), ?_⟩
    refine ⟨_, rfl, x, _, dx, _, _, rfl, hx, T.cl, T.n_held, hf_h A, A.h, rfl, .inl ⟨kv, .inl ek⟩, _, rfl, fun D0 n0 => ?_⟩
    have s0 : Same H (upd H D0 (.dK [])) := same_new (Same.refl H) n0
    obtain ⟨r, kr, e1, er, gr, vr, hmine⟩ := hh.mine (d := d) ek n0
    generalize (upd H D0 (.dK [])) = H1 at s0 er ⊢
    refine ⟨_, DGet.k (k := Sum.inl d) (s0 _ _ ek), ?_⟩
    rw [e1]
    refine ⟨r, kr, rfl, .inl er, fun p np => ?_⟩
    have s1 : Same H (upd H1 p (.dK kr)) := s0.trans (same_new (Same.refl H1) np)
    have fp : H p = none := s0.free np
    have hp : (upd H1 p (.dK kr)) p = some (.dK kr) := upd_same
    generalize (upd H1 p (.dK kr)) = H2 at s1 hp ⊢
    have hh2 := hh.same s1
    have nS := hh.not_own fp
    have nh : A.h ≠ p := fun z => nS (z ▸ hh.own.2.1)
    have ek2 := s1 _ _ ek
    have hx2 := s1 _ _ hx
    refine ⟨_, rfl, _, rfl, _, rfl, p, _, rfl, DPut.k (k := Sum.inr k) hp (lt_line (Un.lenS gr hh.sm.2)), ?_⟩
    refine ⟨_, rfl, _, rfl, x, _, dx, _, _, rfl, (by rw [upd_ne (ne_of hx2 hp (by intro z; cases z))]; exact hx2), T.cl, T.n_held, hf_h A, _, rfl, A.h, _, rfl, DPut.k (k := Sum.inl d) (by rw [upd_ne nh]; exact ek2) (lt_line (Un.lenI gd hh.sm.1)), ?_⟩
    have h9 := hh2.hold (m := m) ek2 hp hd hk gr vr (.inr nS)
    refine q _ _ ⟨h9, fun b z => ?_, fun b o n e => ?_, fun b e => s1.free (upd_lv (upd_lv e))⟩
    · rcases z with z | rfl
      · exact .inl z
      · exact .inr fp
    · rw [upd_ne (fun z : b = A.h => n (z ▸ hh.own.2.1)), upd_ne (ne_of_none e fp)]
      exact s1 _ _ e

theorem ok_Holds_wait_no_more {P : Program} {w : World} {K : PySem.W.Frag} {mg : Str → Option Value} {base : Heap} {a : Nat → Addr} {d : Nat → FuncData} (T : Txt K mg a d) : FnOk P w K mg base CX0 1 (a 3) (d 3) ["self", "dealing"] (spWnm (a 23)) := by
  refine T.F_Holds_wait_no_more.ok sc_Holds_wait_no_more (fun vs H Q E h => ?_) (fun cdv A outer s0 H vs Q E hr h => ?_)
  · obtain ⟨x, U, S, A, s, d, rfl, hh, q⟩ := h
    rfl
  · obtain ⟨x, U, S, A, s, d, rfl, hh, q⟩ := h
    obtain ⟨dx, hx⟩ := hh.ins
    obtain ⟨tf, ht⟩ := hh.ak
    obtain ⟨kv, ek, gd, vv⟩ := ht.d
    refine ⟨_, (pss_one (ps_expr (pe_dpop2 (pe_fld (pv 0) rfl) (pv 1) pe_non ⟨rfl, rfl, rfl, rfl⟩))), ?_⟩
    exact ⟨_, rfl, x, _, dx, _, _, rfl, hx, T.cl, T.n_askings, hf_k A, A.k, rfl, .inl ⟨kv, .inl ek⟩, _, rfl, kv, Sum.inl d, ek, rfl, hh.popK (z := .non) ek fun v H1 n1 f1 => q S H1 n1 f1⟩

theorem ok_Holds_call_off {P : Program} {w : World} {K : PySem.W.Frag} {mg : Str → Option Value} {base : Heap} {a : Nat → Addr} {d : Nat → FuncData} (T : Txt K mg a d) : FnOk P w K mg base CX0 2 (a 4) (d 4) ["self", "dealing"] (spCallOff (a 23)) := by
  refine T.F_Holds_call_off.ok sc_Holds_call_off (fun vs H Q E h => ?_) (fun cdv A outer s0 H vs Q E hr h => ?_)
  · obtain ⟨x, U, S, A, s, d, rfl, hh, hd, q⟩ := h
    rfl
  · obtain ⟨x, U, S, A, s, d, rfl, hh, hd, q⟩ := h
    obtain ⟨dx, hx⟩ := hh.ins
    obtain ⟨rf, ht⟩ := hh.hd
    obtain ⟨kv, ek, gd, vv⟩ := ht.d
    refine ⟨_, (pss_cons (ps_expr (pe_dpop2 (pe_fld (pv 0) rfl) (pv 1) pe_non ⟨rfl, rfl, rfl, rfl⟩)) (pss_cons (ps_expr (pe_meth (pv 0) T.cl T.m_Holds_wait_no_more (ok_Holds_wait_no_more T) (hr.mono (by decide)) T.b_Holds_wait_no_more .nil pass0 (pa_cons (pv 1) pa_nil))) (pss_one (ps_dput (hu_of hr) (pe_fld (pv 0) rfl) (pv 1) pe_bl rfl)))), ?_⟩
    refine ⟨_, rfl, x, _, dx, _, _, rfl, hx, T.cl, T.n_held, hf_h A, A.h, rfl, .inl ⟨kv, .inl ek⟩, _, rfl, kv, Sum.inl d, ek, rfl, hh.popH (z := .non) ek fun v H1 n1 f1 w1 => ?_⟩
    obtain ⟨dx1, hx1⟩ := n1.at_.ins
    refine ⟨_, rfl, x, dx1, _, rfl, hx1, hf_no _ (by decide +kernel) (by decide +kernel) (by decide +kernel) (by decide +kernel) (by decide +kernel) (by decide +kernel), _, rfl, x, U, S, A, _, d, rfl, n1.at_, fun S2 H2 n2 f2 => ?_⟩
    obtain ⟨dx2, hx2⟩ := n2.at_.ins
    obtain ⟨ko, eo, go, vo⟩ := n2.at_.of
    refine ⟨_, rfl, x, _, dx2, _, _, rfl, hx2, T.cl, T.n_offs, hf_o A, _, rfl, A.o, _, rfl, DPut.k (k := Sum.inl d) eo (lt_line (Un.lenI go n2.at_.sm.1)), ?_⟩
    refine q S2 _ ((n1.trans n2).trans (n2.at_.setOffN hd eo go vo)) fun i hi => ?_
    rw [hv_same (by rw [upd_ne n2.at_.ne.ho]), hv_same (f2 _ n2.at_.ne.hk), w1 i hi]

theorem ok_Holds_outlasts {P : Program} {w : World} {K : PySem.W.Frag} {mg : Str → Option Value} {base : Heap} {a : Nat → Addr} {d : Nat → FuncData} (T : Txt K mg a d) : FnOk P w K mg base CX0 1 (a 5) (d 5) ["self", "other", "dealing"] (spOutl (a 23)) := by
  refine T.F_Holds_outlasts.ok sc_Holds_outlasts (fun vs H Q E h => ?_) (fun cdv A outer s0 H vs Q E hr h => ?_)
  · obtain ⟨x, U, S, A, s, o, d, rfl, hh, ho, ⟨b, hb⟩, q⟩ := h
    rfl
  · obtain ⟨x, U, S, A, s, o, d, rfl, hh, ho, ⟨b, hb⟩, q⟩ := h
    obtain ⟨dx, hx⟩ := hh.ins
    obtain ⟨kb, eb, gb, vb⟩ := hh.bd
    obtain ⟨kg, eg, gg, vg⟩ := hh.ag
    refine ⟨_, (pss_cons (ps_if (pt_cmp (pc_din (hu_of hr) (pv 1) (pe_fld (pv 0) rfl))) (pss_one (ps_ret pe_bl)) pss_nil) (pss_one (ps_ret (pe_cmpR (op_ltT hr.units0) (pe_tup (pa_cons (pe_dget (hu_of hr) (pe_fld (pv 0) rfl) (pv 1) (fun _ _ => rfl)) (pa_cons (pv 1) pa_nil))) (pe_tup (pa_cons (pe_dget (hu_of hr) (pe_fld (pv 0) rfl) (pv 2) (fun _ _ => rfl)) (pa_cons (pv 2) pa_nil))) (nomark _))))), ?_⟩
    refine ⟨_, rfl, _, rfl, x, _, dx, _, _, rfl, hx, T.cl, T.n_bound, hf_b A, A.b, _, rfl, DGet.k (k := Sum.inl o) eb, _, rfl, ?_⟩
    have eb1 : (valV kb (Sum.inl o)).isSome = s.bnd o := by rw [vb]; show (vB s.bnd o).isSome = _; unfold vB; cases s.bnd o <;> rfl
    rw [eb1]
    cases c : s.bnd o with
    | true =>
      refine iteT ?_
      have e : outl s o d = true := by unfold outl; rw [c]; rfl
      have z := q H (Same.refl H)
      rw [e] at z
      exact z
    | false =>
      refine iteF ?_
      rcases ho with ho | ⟨a, ha⟩
      · rw [c] at ho; cases ho
      have g1 : valV kg (Sum.inl o) = some (.int a) := by rw [vg]; show vI s.ages o = _; unfold vI; rw [ha]; rfl
      have g2 : valV kg (Sum.inl d) = some (.int b) := by rw [vg]; show vI s.ages d = _; unfold vI; rw [hb]; rfl
      refine ⟨_, rfl, x, _, dx, _, _, rfl, hx, T.cl, T.n_ages, hf_g A, _, rfl, A.g, .int a, rfl, .inl ⟨kg, Sum.inl o, .inl eg, rfl, g1.symm⟩, _, rfl, len2, fun t1 n1 => ?_⟩
      have s1 : Same H (upd H t1 (.tup [.int a, .int o])) := same_new (Same.refl H) n1
      have ht1 : (upd H t1 (.tup [.int a, .int o])) t1 = some (.tup [.int a, .int o]) := upd_same
      generalize (upd H t1 (.tup [.int a, .int o])) = H1 at s1 ht1 ⊢
      have hx1 := s1 _ _ hx
      refine ⟨_, rfl, x, _, dx, _, _, rfl, hx1, T.cl, T.n_ages, hf_g A, _, rfl, A.g, .int b, rfl, .inl ⟨kg, Sum.inl d, .inl (s1 _ _ eg), rfl, g2.symm⟩, _, rfl, len2, fun t2 n2 => ?_⟩
      have s2 := same_new (o := .tup [.int b, .int d]) (Same.refl H1) n2
      refine ⟨t1, t2, [a, o], [b, d], rfl, rfl, SqT.of (s2 _ _ ht1), SqT.of upd_same, ?_⟩
      have e : HT.lexLt [a, o] [b, d] = outl s o d := lex_outl c ha hb
      rw [e]
      exact q _ (s1.trans s2)

theorem ok_Holds_barring {P : Program} {w : World} {K : PySem.W.Frag} {mg : Str → Option Value} {base : Heap} {a : Nat → Addr} {d : Nat → FuncData} (T : Txt K mg a d) : FnOk P w K mg base CX0 2 (a 6) (d 6) ["self", "dealing", "key", "mode"] (spBarring (a 23)) := by
  refine T.F_Holds_barring.ok sc_Holds_barring (fun vs H Q E h => ?_) (fun cdv A outer s0 H vs Q E hr h => ?_)
  · obtain ⟨x, U, S, A, s, d, k, m, rfl, hh, q⟩ := h
    rfl
  · obtain ⟨x, U, S, A, s, d, k, m, rfl, hh, q⟩ := h
    obtain ⟨dx, hx⟩ := hh.ins
    obtain ⟨rf, ht⟩ := hh.hd
    obtain ⟨kv, ek, gd, vv⟩ := ht.d
    obtain ⟨ns, hns⟩ := gd.ints
    refine ⟨_, (pss_one (ps_ret (pe_callB cr_sortedI (by rfl) T.z_sorted (by decide +kernel) (pa_cons (pe_lock (pe_lc (own := [("other", 4)]) (g := gName 4) (te := (tVar 4)) (tt := (tAnd (tTest (tOp rNe (tVar 4) (tVar 1))) (tAnd (tB (tDIn (tVar 2) (tDGet (tFld K (tVar 0) "held") (tVar 4)))) (tTru K (tCall spBars [] E0 (tCons (tVar 3) (tCons (tDGet (tDGet (tFld K (tVar 0) "held") (tVar 4)) (tVar 2)) tNil))))))) (by rfl) sc_Holds_barring.nd (pi_keys (pe_fld (pv 0) rfl)) (blkOk_by (own := [("other", 4)]) (N := ["self", "dealing", "key", "mode", "other"]) (sc := defScope s_Holds_barring) (by decide +kernel)) (fun _ _ _ _ _ => (pg_name (i := 4) sc_Holds_barring.nd rfl (.inl rfl))) (fun _ _ _ _ _ => (pts_one (PW.pt (pw_and (pt_cmpR op_ne (pv 4) (pv 1) (nomark _)) (pw_and (pt_cmp (pc_din (hu_of hr) (pv 2) (pe_dget (hu_of hr) (pe_fld (pv 0) rfl) (pv 4) (fun _ _ => rfl)))) (pw_and1 (pt_truth (pe_call (ok_bars T) (hr.mono (by decide)) (by rfl) T.g_bars T.F_bars.kp T.b_bars .nil pass0 (pa_cons (pv 3) (pa_cons (pe_dget (hu_of hr) (pe_dget (hu_of hr) (pe_fld (pv 0) rfl) (pv 4) (fun _ _ => rfl)) (pv 2) (fun _ _ => rfl)) pa_nil))) (by intro _; rfl)))))))) (fun _ _ _ _ _ => (pv 4)))) pa_nil)))), ?_⟩
    refine ⟨A.h, _, ek, trivial, fun od => ?_⟩
    have hfz : (upd H A.h (.frz od (.dK kv))) A.h = some (.frz od (.dK kv)) := upd_same
    have back : ∀ {b : Addr} {o : HO}, b ≠ A.h → H b = some o → (upd H A.h (.frz od (.dK kv))) b = some o := fun n e => by rw [upd_ne n]; exact e
    have tail : ∀ H', Same (upd H A.h (.frz od (.dK kv))) H' → Same H (upd H' A.h (.dK kv)) := fun H' s => lock_same ek s
    have hxf := back (ne_of hx ek (by intro z; cases z)) hx
    have inn : ∀ j r, rf j = some r → DAt U.ki (upd H A.h (.frz od (.dK kv))) r (kS (vS (s.held j))) := fun j r z => (ht.yes j r z).2.2.keep fun o => back fun e => (ht.yes j r z).2.1 (e ▸ A.inH)
    generalize (upd H A.h (.frz od (.dK kv))) = Hf at hfz tail hxf inn ⊢
    refine ⟨_, rfl, x, _, dx, _, _, rfl, hxf, T.cl, T.n_held, hf_h A, A.h, od, rfl, .inl ⟨kv, hfz, fun D nD => ?_⟩⟩
    refine lc_it walk_keys (fun i H' => Same Hf H' ∧ H' D = some (.lst (((ns.take i).filter (bar s d k m)).map V.int))) ⟨same_new (Same.refl Hf) nD, by rw [List.take_zero]; exact upd_same⟩ (fun i H' _ z => z.1 _ _ hfz) ?_ ?_
    · rintro i kx H2 H2' hi ⟨s2, hD⟩ ⟨rfl, key, v, hkv, rfl⟩
      obtain ⟨j, hj, rfl⟩ := key_at hns hkv
      have hv1 : valV kv (Sum.inl j) = some v := mem_val gd.nd (List.mem_of_getElem? hkv)
      have hv2 : Option.map V.ref (rf j) = some v := by rw [← hv1, vv]; rfl
      obtain ⟨r, hr1, rfl⟩ := Option.map_eq_some_iff.mp hv2
      obtain ⟨kr, er, gr, vr⟩ := inn j r hr1
      have er2 := s2 _ _ er
      have hx2 := s2 _ _ hxf
      have hz2 := s2 _ _ hfz
      have nxt : (ns.take (i + 1)).filter (bar s d k m) = (ns.take i).filter (bar s d k m) ++ (if bar s d k m j = true then [j] else []) := take_filter hj
      have vk : valV kr (Sum.inr k) = (s.held j k).map V.str := by rw [vr]; rfl
      refine ⟨rfl, _, rfl, _, rfl, rfl, _, rfl, ?_⟩
      by_cases c1 : j = d
      · refine iteNDF (congrArg V.int c1) ?_
        have b0 : bar s d k m j = false := by unfold bar; rw [decide_eq_true c1]; rfl
        refine iteF ⟨s2, ?_⟩
        rw [nxt, b0, if_neg (by decide), List.append_nil]
        exact hD
      · refine iteND (fun z => c1 (V.int.inj z)) ?_
        refine ⟨_, rfl, _, rfl, x, _, dx, _, _, rfl, hx2, T.cl, T.n_held, hf_h A, _, rfl, A.h, .ref r, rfl, .inl ⟨kv, Sum.inl j, .inr ⟨od, hz2⟩, rfl, hv1.symm⟩, r, _, rfl, DGet.k (k := Sum.inr k) er2, _, rfl, ?_⟩
        rw [vk]
        cases c2 : s.held j k with
        | none =>
          refine iteF (iteF ⟨s2, ?_⟩)
          have b0 : bar s d k m j = false := by unfold bar; rw [c2]; simp
          rw [nxt, b0, if_neg (by decide), List.append_nil]
          exact hD
        | some n =>
          refine iteT ?_
          refine ⟨_, rfl, _, rfl, x, _, dx, _, _, rfl, hx2, T.cl, T.n_held, hf_h A, _, rfl, A.h, .ref r, rfl, .inl ⟨kv, Sum.inl j, .inr ⟨od, hz2⟩, rfl, hv1.symm⟩, _, rfl, r, .str n, rfl, .inl ⟨kr, Sum.inr k, .inl er2, rfl, by rw [vk, c2]; rfl⟩, m, n, rfl, fun H3 s3 => ⟨bars m n, rfl, ?_⟩⟩
          have bj : bar s d k m j = bars m n := by unfold bar; rw [c2, decide_eq_false c1]; rfl
          have hD3 := s3 _ _ hD
          cases c3 : bars m n with
          | true =>
            refine iteT ⟨_, rfl, _, hD3, ?_, ?_⟩
            · rw [List.length_map]
              exact lt_line (Nat.le_trans (List.length_filter_le ..) (Nat.le_trans (List.length_take_le' ..) (ints_len hns gd hh.sm.1)))
            · refine ⟨fun b o e => ?_, ?_⟩
              · rw [upd_ne (ne_of_none e nD)]
                exact s3 _ _ (s2 _ _ e)
              · rw [upd_same, nxt, bj, c3, if_pos rfl, List.map_append]
                rfl
          | false =>
            refine iteF ⟨s2.trans s3, ?_⟩
            rw [nxt, bj, c3, if_neg (by decide), List.append_nil]
            exact hD3
    · rintro H2 ⟨s2, hD⟩
      refine ⟨s2 _ _ hfz, ?_⟩
      have hnl : kv.length = ns.length := by
        have z := congrArg List.length hns
        rw [List.length_map, List.length_map] at z
        exact z
      rw [hnl, List.take_length] at hD
      have t2 := tail H2 s2
      have hDr : D ≠ A.h := fun z => by rw [z, hfz] at nD; cases nD
      refine ⟨D, ns.filter (bar s d k m), rfl, SqL.of (by rw [upd_ne hDr]; exact hD), fun ns' p pm so np => ?_⟩
      refine q p ns' _ (isL_of pm so ((List.filter_sublist (l := ns)).nodup (ints_nd hns gd)) fun i => ?_) ?_ (t2.free np) (t2.trans (same_new (Same.refl _) np)) upd_same
      · rw [List.mem_filter]
        refine ⟨fun z => z.2, fun z => ⟨?_, z⟩⟩
        cases e : rf i with
        | none =>
          exfalso
          have y := ht.no i e
          unfold bar at z
          rw [y] at z
          simp at z
        | some r =>
          have y : valV kv (Sum.inl i) = some (.ref r) := by rw [vv]; show Option.map V.ref (rf i) = _; rw [e]; rfl
          exact ints_mem hns (valV_in y)
      · rw [pm.length_eq]
        exact Nat.le_trans (List.length_filter_le ..) (ints_len hns gd hh.sm.1)

theorem ok_Holds_pledge {P : Program} {w : World} {K : PySem.W.Frag} {mg : Str → Option Value} {base : Heap} {a : Nat → Addr} {d : Nat → FuncData} (T : Txt K mg a d) : FnOk P w K mg base CX0 2 (a 8) (d 8) ["self", "dealing"] (spPledge (a 23)) := by
  refine T.F_Holds_pledge.ok sc_Holds_pledge (fun vs H Q E h => ?_) (fun cdv A outer s0 H vs Q E hr h => ?_)
  · obtain ⟨x, U, S, A, s, d, rfl, hh, hd, q⟩ := h
    rfl
  · obtain ⟨x, U, S, A, s, d, rfl, hh, hd, q⟩ := h
    obtain ⟨dx, hx⟩ := hh.ins
    obtain ⟨kb, eb, gb, vb⟩ := hh.bd
    refine ⟨_, (pss_cons (ps_expr (pe_meth0 (pv 0) T.cl T.m_Holds_make_own (ok_Holds_make_own T) (hr.mono (by decide)) T.b_Holds_make_own .nil pass0)) (pss_cons (ps_dput (hu_of hr) (pe_fld (pv 0) rfl) (pv 1) pe_bl rfl) (pss_one (ps_expr (pe_meth (pv 0) T.cl T.m_Holds_wait_no_more (ok_Holds_wait_no_more T) (hr.mono (by decide)) T.b_Holds_wait_no_more .nil pass0 (pa_cons (pv 1) pa_nil)))))), ?_⟩
    refine ⟨_, rfl, x, dx, _, rfl, hx, hf_no _ (by decide +kernel) (by decide +kernel) (by decide +kernel) (by decide +kernel) (by decide +kernel) (by decide +kernel), x, U, S, A, s, rfl, hh, ?_⟩
    refine ⟨_, rfl, x, _, dx, _, _, rfl, hx, T.cl, T.n_bound, hf_b A, _, rfl, A.b, _, rfl, DPut.k (k := Sum.inl d) eb (lt_line (Un.lenI gb hh.sm.1)), ?_⟩
    have n1 := hh.setBndN hd eb gb vb
    generalize (upd H A.b (.dK (putK kb (Sum.inl d) (.bl true)))) = H1 at n1 ⊢
    obtain ⟨dx1, hx1⟩ := n1.at_.ins
    exact ⟨_, rfl, x, dx1, _, rfl, hx1, hf_no _ (by decide +kernel) (by decide +kernel) (by decide +kernel) (by decide +kernel) (by decide +kernel) (by decide +kernel), _, rfl, x, U, S, A, _, d, rfl, n1.at_, fun S2 H2 n2 _ => q S2 H2 (n1.trans n2)⟩

theorem ok_Holds_free {P : Program} {w : World} {K : PySem.W.Frag} {mg : Str → Option Value} {base : Heap} {a : Nat → Addr} {d : Nat → FuncData} (T : Txt K mg a d) : FnOk P w K mg base CX0 2 (a 9) (d 9) ["self", "dealing", "forget"] (spFree (a 23)) := by
  refine T.F_Holds_free.ok (CX := CX0) sc_Holds_free (fun vs H Q E h => ?_) (fun cdv A outer s0 H vs Q E hr h => ?_)
  · obtain ⟨x, U, S, A, s, d, f, rfl, hh, q⟩ := h
    rfl
  · obtain ⟨x, U, S, A, s, d, f, rfl, hh, q⟩ := h
    obtain ⟨dx, hx⟩ := hh.ins
    obtain ⟨rf, ht⟩ := hh.hd
    obtain ⟨kv, ek, gd, vv⟩ := ht.d
    refine ⟨_, PSs.nox (pss_cons (ps_expr (pe_meth0 (pv 0) T.cl T.m_Holds_make_own (ok_Holds_make_own T) (hr.mono (by decide)) T.b_Holds_make_own .nil pass0)) (pss_cons (ps_expr (pe_dpop2 (pe_fld (pv 0) rfl) (pv 1) pe_non ⟨rfl, rfl, rfl, rfl⟩)) (pss_cons (ps_expr (pe_dpop2 (pe_fld (pv 0) rfl) (pv 1) pe_non ⟨rfl, rfl, rfl, rfl⟩)) (pss_cons (ps_expr (pe_dpop2 (pe_fld (pv 0) rfl) (pv 1) pe_non ⟨rfl, rfl, rfl, rfl⟩)) (pss_cons (ps_expr (pe_meth (pv 0) T.cl T.m_Holds_wait_no_more (ok_Holds_wait_no_more T) (hr.mono (by decide)) T.b_Holds_wait_no_more .nil pass0 (pa_cons (pv 1) pa_nil))) (pss_one (ps_if (pt_truth (pv 2) (by intro _; rfl)) (pss_one (ps_expr (pe_dpop2 (pe_fld (pv 0) rfl) (pv 1) pe_non ⟨rfl, rfl, rfl, rfl⟩))) pss_nil))))))), ?_⟩
    refine ⟨_, rfl, x, dx, _, rfl, hx, hf_no _ (by decide +kernel) (by decide +kernel) (by decide +kernel) (by decide +kernel) (by decide +kernel) (by decide +kernel), x, U, S, A, s, rfl, hh, ?_⟩
    refine ⟨_, rfl, x, _, dx, _, _, rfl, hx, T.cl, T.n_held, hf_h A, A.h, rfl, .inl ⟨kv, .inl ek⟩, _, rfl, kv, Sum.inl d, ek, rfl, hh.popH (z := .non) ek fun v H1 n1 f1 w1 => ?_⟩
    obtain ⟨dx1, hx1⟩ := n1.at_.ins
    obtain ⟨kg, eg, gg, vg⟩ := n1.at_.ag
    refine ⟨_, rfl, x, _, dx1, _, _, rfl, hx1, T.cl, T.n_ages, hf_g A, A.g, rfl, .inl ⟨kg, .inl eg⟩, _, rfl, kg, Sum.inl d, eg, rfl, n1.at_.popG (z := .non) eg fun v H2 n2 => ?_⟩
    obtain ⟨dx2, hx2⟩ := n2.at_.ins
    obtain ⟨kb, eb, gb, vb⟩ := n2.at_.bd
    refine ⟨_, rfl, x, _, dx2, _, _, rfl, hx2, T.cl, T.n_bound, hf_b A, A.b, rfl, .inl ⟨kb, .inl eb⟩, _, rfl, kb, Sum.inl d, eb, rfl, n2.at_.popB (z := .non) eb fun v H3 n3 => ?_⟩
    obtain ⟨dx3, hx3⟩ := n3.at_.ins
    refine ⟨_, rfl, x, dx3, _, rfl, hx3, hf_no _ (by decide +kernel) (by decide +kernel) (by decide +kernel) (by decide +kernel) (by decide +kernel) (by decide +kernel), _, rfl, x, U, S, A, _, d, rfl, n3.at_, fun S4 H4 n4 _ => ?_⟩
    have n := ((n1.trans n2).trans n3).trans n4
    obtain ⟨dx4, hx4⟩ := n4.at_.ins
    refine ⟨_, rfl, f, rfl, ?_⟩
    cases f with
    | false => exact iteF (q S4 H4 n)
    | true =>
      refine iteT ?_
      obtain ⟨ko, eo, go, vo⟩ := n4.at_.of
      exact ⟨_, rfl, x, _, dx4, _, _, rfl, hx4, T.cl, T.n_offs, hf_o A, A.o, rfl, .inl ⟨ko, .inl eo⟩, _, rfl, ko, Sum.inl d, eo, rfl, n4.at_.popO (z := .non) eo fun v H5 n5 => q S4 H5 (n.trans n5)⟩

theorem ok_Holds_called_off {P : Program} {w : World} {K : PySem.W.Frag} {mg : Str → Option Value} {base : Heap} {a : Nat → Addr} {d : Nat → FuncData} (T : Txt K mg a d) : FnOk P w K mg base CX0 1 (a 12) (d 12) ["self"] (spList (a 23) HS.offs) := by
  refine T.F_Holds_called_off.ok sc_Holds_called_off (fun vs H Q E h => ?_) (fun cdv A outer s0 H vs Q E hr h => ?_)
  · obtain ⟨x, U, S, A, s, rfl, hh, q⟩ := h
    rfl
  · obtain ⟨x, U, S, A, s, rfl, hh, q⟩ := h
    obtain ⟨dx, hx⟩ := hh.ins
    obtain ⟨kv, ek, gd, vv⟩ := hh.of
    obtain ⟨ns, hns⟩ := gd.ints
    refine ⟨_, (pss_one (ps_ret (pe_callB cr_sortedI (by rfl) T.z_sorted (by decide +kernel) (pa_cons (pe_callTy (call_list_dK rfl) (by rfl) T.z_list (by decide +kernel) (pa_cons (pe_fld (pv 0) rfl) pa_nil)) pa_nil)))), ?_⟩
    refine ⟨_, rfl, x, _, dx, _, _, rfl, hx, T.cl, T.n_offs, hf_o A, A.o, kv, rfl, ek, fun l nl => ?_⟩
    have e1 : kv.map (fun p => kV p.1) = ns.map V.int := by
      have z := congrArg (List.map kV) hns
      rw [List.map_map, List.map_map] at z
      exact z
    rw [e1]
    have s1 : Same H (upd H l (.lst (ns.map V.int))) := same_new (Same.refl H) nl
    refine ⟨l, ns, rfl, SqL.of upd_same, fun ns' p pm so np => ?_⟩
    refine q p ns' _ (isL_of pm so (ints_nd hns gd) fun i => ?_) ?_ (s1.free np) (s1.trans (same_new (Same.refl _) np)) upd_same
    · have z : (valV kv (Sum.inl i)).isSome = HS.offs s i := by rw [vv]; show (vB (HS.offs s) i).isSome = _; unfold vB; cases HS.offs s i <;> rfl
      rw [← z]
      refine ⟨fun y => ?_, fun y => ?_⟩
      · have y' : (Sum.inl i : Key) ∈ kv.map (·.1) := by rw [hns]; exact List.mem_map.mpr ⟨i, y, rfl⟩
        obtain ⟨q0, hq, e⟩ := List.mem_map.mp y'
        have := mem_val gd.nd hq
        rw [show q0.1 = Sum.inl i from e] at this
        rw [this]
        rfl
      · obtain ⟨v, ev⟩ := Option.isSome_iff_exists.mp y
        exact ints_mem hns (valV_in ev)
    · rw [pm.length_eq]
      exact ints_len hns gd hh.sm.1

theorem ok_Holds_pledged {P : Program} {w : World} {K : PySem.W.Frag} {mg : Str → Option Value} {base : Heap} {a : Nat → Addr} {d : Nat → FuncData} (T : Txt K mg a d) : FnOk P w K mg base CX0 1 (a 13) (d 13) ["self"] (spList (a 23) HS.bnd) := by
  refine T.F_Holds_pledged.ok sc_Holds_pledged (fun vs H Q E h => ?_) (fun cdv A outer s0 H vs Q E hr h => ?_)
  · obtain ⟨x, U, S, A, s, rfl, hh, q⟩ := h
    rfl
  · obtain ⟨x, U, S, A, s, rfl, hh, q⟩ := h
    obtain ⟨dx, hx⟩ := hh.ins
    obtain ⟨kv, ek, gd, vv⟩ := hh.bd
    obtain ⟨ns, hns⟩ := gd.ints
    refine ⟨_, (pss_one (ps_ret (pe_callB cr_sortedI (by rfl) T.z_sorted (by decide +kernel) (pa_cons (pe_callTy (call_list_dK rfl) (by rfl) T.z_list (by decide +kernel) (pa_cons (pe_fld (pv 0) rfl) pa_nil)) pa_nil)))), ?_⟩
    refine ⟨_, rfl, x, _, dx, _, _, rfl, hx, T.cl, T.n_bound, hf_b A, A.b, kv, rfl, ek, fun l nl => ?_⟩
    have e1 : kv.map (fun p => kV p.1) = ns.map V.int := by
      have z := congrArg (List.map kV) hns
      rw [List.map_map, List.map_map] at z
      exact z
    rw [e1]
    have s1 : Same H (upd H l (.lst (ns.map V.int))) := same_new (Same.refl H) nl
    refine ⟨l, ns, rfl, SqL.of upd_same, fun ns' p pm so np => ?_⟩
    refine q p ns' _ (isL_of pm so (ints_nd hns gd) fun i => ?_) ?_ (s1.free np) (s1.trans (same_new (Same.refl _) np)) upd_same
    · have z : (valV kv (Sum.inl i)).isSome = HS.bnd s i := by rw [vv]; show (vB (HS.bnd s) i).isSome = _; unfold vB; cases HS.bnd s i <;> rfl
      rw [← z]
      refine ⟨fun y => ?_, fun y => ?_⟩
      · have y' : (Sum.inl i : Key) ∈ kv.map (·.1) := by rw [hns]; exact List.mem_map.mpr ⟨i, y, rfl⟩
        obtain ⟨q0, hq, e⟩ := List.mem_map.mp y'
        have := mem_val gd.nd hq
        rw [show q0.1 = Sum.inl i from e] at this
        rw [this]
        rfl
      · obtain ⟨v, ev⟩ := Option.isSome_iff_exists.mp y
        exact ints_mem hns (valV_in ev)
    · rw [pm.length_eq]
      exact ints_len hns gd hh.sm.1

theorem ok_Holds_of {P : Program} {w : World} {K : PySem.W.Frag} {mg : Str → Option Value} {base : Heap} {a : Nat → Addr} {d : Nat → FuncData} (T : Txt K mg a d) : FnOk P w K mg base CX0 1 (a 10) (d 10) ["self", "dealing"] (spOf (a 23)) := by
  refine T.F_Holds_of.ok sc_Holds_of (fun vs H Q E h => ?_) (fun cdv A outer s0 H vs Q E hr h => ?_)
  · obtain ⟨x, U, S, A, s, d, rfl, hh, q⟩ := h
    rfl
  · obtain ⟨x, U, S, A, s, d, rfl, hh, q⟩ := h
    obtain ⟨dx, hx⟩ := hh.ins
    obtain ⟨rf, ht⟩ := hh.hd
    obtain ⟨kv, ek, gd, vv⟩ := ht.d
    refine ⟨_, (pss_cons (ps_set (i := 2) sc_Holds_of.nd rfl (Or.inr rfl) (pe_dget2 (hu_of hr) (pe_fld (pv 0) rfl) (pv 1) pe_dnewK ⟨rfl, rfl, rfl, rfl⟩)) (pss_one (ps_ret (pe_dc (own := [("key", 3)]) (g := (gName 3)) (tk := (tVar 3)) (tv := (tDGet (tVar 2) (tVar 3))) (by rfl) sc_Holds_of.nd (pi_list (pe_callB cr_sortedS (by rfl) T.z_sorted (by decide +kernel) (pa_cons (pe_callTy (call_list_dK rfl) (by rfl) T.z_list (by decide +kernel) (pa_cons (pv 2) pa_nil)) pa_nil))) (blkOk_by (own := [("key", 3)]) (N := ["self", "dealing", "mine", "key"]) (sc := defScope s_Holds_of) (by decide +kernel)) (fun _ _ _ _ _ => (pg_name (i := 3) sc_Holds_of.nd rfl (.inl rfl))) (fun _ _ _ _ _ => pts_nil) (fun _ _ _ _ _ => (pv 3)) (fun _ _ _ _ _ => (pe_dget (hu_of hr) (pv 2) (pv 3) (fun _ _ => rfl))))))), ?_⟩
    refine ⟨_, rfl, x, _, dx, _, _, rfl, hx, T.cl, T.n_held, hf_h A, A.h, rfl, .inl ⟨kv, .inl ek⟩, _, rfl, fun D0 n0 => ?_⟩
    have s0 : Same H (upd H D0 (.dK [])) := same_new (Same.refl H) n0
    obtain ⟨r, kr, e1, er, gr, vr, _⟩ := hh.mine (d := d) ek n0
    generalize (upd H D0 (.dK [])) = H0 at s0 er ⊢
    refine ⟨_, DGet.k (k := Sum.inl d) (s0 _ _ ek), ?_⟩
    rw [e1]
    obtain ⟨ks, hks⟩ := gr.strs
    refine ⟨_, rfl, r, kr, rfl, er, fun l nl => ?_⟩
    have e2 : kr.map (fun p => kV p.1) = ks.map V.str := by
      have z := congrArg (List.map kV) hks
      rw [List.map_map, List.map_map] at z
      exact z
    rw [e2]
    have s1 : Same H0 (upd H0 l (.lst (ks.map V.str))) := same_new (Same.refl H0) nl
    refine ⟨l, ks, rfl, SqL.of upd_same, Nat.lt_of_le_of_lt (strs_len hks gr hh.sm.2) (by decide), fun ys p pm so np => ?_⟩
    have s2 : Same H0 (upd (upd H0 l (.lst (ks.map V.str))) p (.lst (ys.map V.str))) := s1.trans (same_new (Same.refl _) np)
    have hp : (upd (upd H0 l (.lst (ks.map V.str))) p (.lst (ys.map V.str))) p = some (.lst (ys.map V.str)) := upd_same
    generalize (upd (upd H0 l (.lst (ks.map V.str))) p (.lst (ys.map V.str))) = H2 at s2 hp ⊢
    have er2 := s2 _ _ er
    have ynd : ys.Nodup := pm.nodup_iff.mpr (ints_nd hks gr)
    have yl : ys.length ≤ 60 := by rw [pm.length_eq]; exact strs_len hks gr hh.sm.2
    have hmem : ∀ k, k ∈ ys ↔ (s.held d k).isSome = true := fun k => by
      have z : (valV kr (Sum.inr k)).isSome = (s.held d k).isSome := by rw [vr]; show (Option.map V.str (s.held d k)).isSome = _; rw [Option.isSome_map]
      rw [pm.mem_iff, ← z]
      refine ⟨fun y => ?_, fun y => ?_⟩
      · have y' : (Sum.inr k : Key) ∈ kr.map (·.1) := by rw [hks]; exact List.mem_map.mpr ⟨k, y, rfl⟩
        obtain ⟨q0, hq, e⟩ := List.mem_map.mp y'
        have := mem_val gr.nd hq
        rw [show q0.1 = Sum.inr k from e] at this
        rw [this]
        rfl
      · obtain ⟨v, ev⟩ := Option.isSome_iff_exists.mp y
        exact strs_mem hks (valV_in ev)
    refine ⟨p, rfl, ⟨_, SqL.of hp⟩, fun D nD => ?_⟩
    refine dc_it (walk_list (xs := ys.map V.str)) (fun i H' => Same H2 H' ∧ H' D = some (.dK (ofKv s d (ys.take i)))) ⟨same_new (Same.refl H2) nD, by rw [List.take_zero]; exact upd_same⟩ (fun i H' _ z => SqL.of (z.1 _ _ hp)) ?_ ?_
    · rintro i kx H3 H3' hi ⟨s3, hD⟩ ⟨rfl, hk⟩
      rw [List.getElem?_map] at hk
      obtain ⟨k, hk1, rfl⟩ := Option.map_eq_some_iff.mp hk
      obtain ⟨m, hm⟩ := Option.isSome_iff_exists.mp ((hmem k).mp (List.mem_of_getElem? hk1))
      have vk : valV kr (Sum.inr k) = some (.str m) := by rw [vr]; show Option.map V.str (s.held d k) = _; rw [hm]; rfl
      refine ⟨rfl, _, rfl, _, rfl, _, rfl, r, .str m, rfl, .inl ⟨kr, Sum.inr k, .inl (s3 _ _ er2), rfl, vk.symm⟩, _, Sum.inr k, rfl, hD, ?_, fun b o e => ?_, ?_⟩
      · unfold ofKv
        rw [List.length_map]
        exact lt_line (Nat.le_trans (List.length_take_le' ..) yl)
      · rw [upd_ne (ne_of_none e nD)]
        exact s3 _ _ e
      · rw [upd_same, ofKv_put hm ynd hk1]
    · rintro H3 ⟨s3, hD⟩
      rw [List.length_map, List.take_length] at hD
      exact q D ys H3 ynd so yl hmem (s0.free (s2.free nD)) (s0.trans (s2.trans s3)) hD

theorem ok_Holds_waiting {P : Program} {w : World} {K : PySem.W.Frag} {mg : Str → Option Value} {base : Heap} {a : Nat → Addr} {d : Nat → FuncData} (T : Txt K mg a d) : FnOk P w K mg base CX0 3 (a 11) (d 11) ["self"] (spWaiting (a 23)) := by
  refine T.F_Holds_waiting.ok sc_Holds_waiting (fun vs H Q E h => ?_) (fun cdv A outer s0 H vs Q E hr h => ?_)
  · obtain ⟨x, U, S, A, s, rfl, hh, wf, q⟩ := h
    rfl
  · obtain ⟨x, U, S, A, s, rfl, hh, wf, q⟩ := h
    obtain ⟨dx, hx⟩ := hh.ins
    obtain ⟨tf, ht⟩ := hh.ak
    obtain ⟨kv, ek, gd, vv⟩ := ht.d
    obtain ⟨ns, hns⟩ := gd.ints
    refine ⟨_, (pss_cons (ps_set (i := 1) sc_Holds_waiting.nd rfl (Or.inl rfl) pe_dnewK) (pss_cons (ps_for PassesOwn.never rfl (pi_list (pe_callB cr_sortedI (by rfl) T.z_sorted (by decide +kernel) (pa_cons (pe_callTy (call_list_dK rfl) (by rfl) T.z_list (by decide +kernel) (pa_cons (pe_fld (pv 0) rfl) pa_nil)) pa_nil))) (pg_name (i := 2) sc_Holds_waiting.nd rfl (.inr rfl)) (pss_cons (ps_asg (pe_dget (hu_of hr) (pe_fld (pv 0) rfl) (pv 2) (fun _ _ => rfl)) (pg_tup (by rfl) (pgs_cons (pg_name (i := 3) sc_Holds_waiting.nd rfl (.inl rfl)) (pgs_cons (pg_name (i := 4) sc_Holds_waiting.nd rfl (.inl rfl)) pgs_nil)))) (pss_cons (ps_setLc (i := 5) (own := [("other", 6)]) (g := gName 6) (te := (tVar 6)) (tt := (tTru K (tMeth (a 23) "outlasts" (spOutl (a 23)) [] E0 (tVar 0) (tCons (tVar 6) (tCons (tVar 2) tNil))))) (by rfl) sc_Holds_waiting.nd rfl rfl (sw_true rfl rfl rfl (by decide +kernel)) (pi_list (pe_meth (pv 0) T.cl T.m_Holds_barring (ok_Holds_barring T) (hr.mono (by decide)) T.b_Holds_barring .nil pass0 (pa_cons (pv 2) (pa_cons (pv 3) (pa_cons (pv 4) pa_nil))))) (blkOk_by (own := [("other", 6)]) (N := ["self", "told", "dealing", "key", "mode", "others", "other"]) (sc := defScope s_Holds_waiting) (by decide +kernel)) (fun _ _ _ _ _ => (pg_name (i := 6) sc_Holds_waiting.nd rfl (.inl rfl))) (fun _ _ _ _ _ => (pts_one (pt_truth (pe_meth (pv 0) T.cl T.m_Holds_outlasts (ok_Holds_outlasts T) (hr.mono (by decide)) T.b_Holds_outlasts .nil pass0 (pa_cons (pv 6) (pa_cons (pv 2) pa_nil))) (by intro _; rfl)))) (fun _ _ _ _ _ => (pv 6))) (pss_one (ps_if (pt_truth (pv 5) (by intro _; rfl)) (pss_one (ps_dput (hu_of hr) (pv 1) (pv 2) (pv 5) rfl)) pss_nil))))) (pss_one (ps_ret (pv 1))))), ?_⟩
    intro D nD
    have s1 : Same H (upd H D (.dK [])) := same_new (Same.refl H) nD
    have hD1 : (upd H D (.dK [])) D = some (.dK []) := upd_same
    generalize (upd H D (.dK [])) = H1 at s1 hD1 ⊢
    have hx1 := s1 _ _ hx
    refine ⟨_, rfl, x, _, dx, _, _, rfl, hx1, T.cl, T.n_askings, hf_k A, A.k, kv, rfl, s1 _ _ ek, fun l nl => ?_⟩
    have e1 : kv.map (fun p => kV p.1) = ns.map V.int := by
      have z := congrArg (List.map kV) hns
      rw [List.map_map, List.map_map] at z
      exact z
    rw [e1]
    have s2 : Same H1 (upd H1 l (.lst (ns.map V.int))) := same_new (Same.refl H1) nl
    refine ⟨l, ns, rfl, SqL.of upd_same, fun ns' p pm so np => ?_⟩
    have s3 : Same H1 (upd (upd H1 l (.lst (ns.map V.int))) p (.lst (ns'.map V.int))) := s2.trans (same_new (Same.refl _) np)
    have hp3 : (upd (upd H1 l (.lst (ns.map V.int))) p (.lst (ns'.map V.int))) p = some (.lst (ns'.map V.int)) := upd_same
    generalize (upd (upd H1 l (.lst (ns.map V.int))) p (.lst (ns'.map V.int))) = H2 at s3 hp3 ⊢
    have S2 := s1.trans s3
    have hD2 := s3 _ _ hD1
    have pD : p ≠ D := ne_of hp3 hD2 (by intro z; cases z)
    have nown : ¬ S D := hh.not_own nD
    have nl' : ns'.length ≤ 60 := by rw [pm.length_eq]; exact ints_len hns gd hh.sm.1
    have nd' : ns'.Nodup := pm.nodup_iff.mpr (ints_nd hns gd)
    have up' : ns'.Pairwise (· < ·) := (so.and nd').imp fun {a b} h => by
      have := h.1
      have := h.2
      omega
    refine ⟨p, rfl, ⟨_, SqL.of hp3⟩, ?_⟩
    refine for_list (K := K) (a := p) (xs := ns'.map V.int) (fun j σ H' => ∃ (ws : List (Int × Addr × List Int)) (v2 v3 v4 v5 v6 : Option V), σ = [some (.ref x), some (.ref D), v2, v3, v4, v5, v6] ∧ (∀ b o, H2 b = some o → b ≠ D → H' b = some o) ∧ H' D = some (.dK (kvW ws)) ∧ WaitJ s (ns'.take j) ws ∧ ∀ w ∈ ws, H w.2.1 = none ∧ H' w.2.1 = some (.lst (w.2.2.map V.int)) ∧ w.2.2.length ≤ 60)
      ⟨[], none, none, none, none, none, rfl, fun b o e _ => e, hD2, ⟨List.nil_sublist _, fun w hw => (by cases hw), fun d hd => (by rw [List.take_zero] at hd; cases hd)⟩, fun w hw => by cases hw⟩ (fun j σ H' _ z => by
        obtain ⟨ws, _, _, _, _, _, _, f, _⟩ := z
        exact SqL.of (f _ _ hp3 pD)) ?_ ?_
    · rintro j dv σ H3 hj ⟨ws, v2, v3, v4, v5, v6, rfl, f3, hD3, wj, wl⟩
      rw [List.getElem?_map] at hj
      obtain ⟨d, hd, rfl⟩ := Option.map_eq_some_iff.mp hj
      have hh3 : HoldsAt (a 23) U S H3 x A s := hh.keep fun b o sb e => f3 _ _ (S2 _ _ e) (fun z => nown (z ▸ sb))
      have dns : d ∈ ns := pm.mem_iff.mp (List.mem_of_getElem? hd)
      obtain ⟨t, htf⟩ : ∃ t, tf d = some t := by
        have y' : (Sum.inl d : Key) ∈ kv.map (·.1) := by rw [hns]; exact List.mem_map.mpr ⟨d, dns, rfl⟩
        obtain ⟨q0, hq, e⟩ := List.mem_map.mp y'
        have y := mem_val gd.nd hq
        rw [show q0.1 = Sum.inl d from e, vv] at y
        have y2 : (tf d).map V.ref = some q0.2 := y
        obtain ⟨t, h1, _⟩ := Option.map_eq_some_iff.mp y2
        exact ⟨t, h1⟩
      obtain ⟨st, k, m, hak, htp⟩ := ht.yes d t htf
      have vd : valV kv (Sum.inl d) = some (.ref t) := by rw [vv]; show (tf d).map V.ref = _; rw [htf]; rfl
      have ek3 := f3 _ _ (S2 _ _ ek) (fun z => nown (z ▸ hh.own.2.2.2.1))
      have hx3 := f3 _ _ (S2 _ _ hx) (fun z => nown (z ▸ hh.own.1))
      have ht3 := f3 _ _ (S2 _ _ htp) (fun z => nown (z ▸ st))
      have wj' : ns'.take (j + 1) = ns'.take j ++ [d] := by rw [List.take_add_one, hd]; rfl
      show ∃ v, _
      refine ⟨_, rfl, x, _, dx, _, _, rfl, hx3, T.cl, T.n_askings, hf_k A, _, rfl, A.k, .ref t, rfl, .inl ⟨kv, Sum.inl d, .inl ek3, rfl, vd.symm⟩, t, _, rfl, SqT.of ht3, rfl, _, _, rfl, _, _, rfl, rfl, ?_⟩
      refine ⟨_, rfl, x, dx, _, rfl, hx3, hf_no _ (by decide +kernel) (by decide +kernel) (by decide +kernel) (by decide +kernel) (by decide +kernel) (by decide +kernel), _, rfl, _, rfl, _, rfl, x, U, S, A, s, d, k, m, rfl, hh3, fun pb lb H4 isl lbl npb s4 hpb => ?_⟩
      refine ⟨pb, rfl, ⟨_, SqL.of hpb⟩, fun D2 nD2 => ?_⟩
      refine lc_it (walk_list (xs := lb.map V.int)) (fun i H' => Same H4 H' ∧ H' D2 = some (.lst (((lb.take i).filter (fun o => outl s o d)).map V.int))) ⟨same_new (Same.refl H4) nD2, by rw [List.take_zero]; exact upd_same⟩ (fun i H' _ z => SqL.of (z.1 _ _ hpb)) ?_ ?_
      · rintro i ov H5 H5' hi ⟨s5, hL⟩ ⟨rfl, ho⟩
        rw [List.getElem?_map] at ho
        obtain ⟨o, ho1, rfl⟩ := Option.map_eq_some_iff.mp ho
        have hbo := (isl.mem o).mp (List.mem_of_getElem? ho1)
        obtain ⟨n, hn, _⟩ := bar_held hbo
        have nxt : (lb.take (i + 1)).filter (fun o => outl s o d) = (lb.take i).filter (fun o => outl s o d) ++ (if outl s o d = true then [o] else []) := take_filter ho1
        refine ⟨rfl, _, rfl, x, dx, _, rfl, s5 _ _ (s4 _ _ hx3), hf_no _ (by decide +kernel) (by decide +kernel) (by decide +kernel) (by decide +kernel) (by decide +kernel) (by decide +kernel), _, rfl, _, rfl, x, U, S, A, s, o, d, rfl, (hh3.same s4).same s5, wf.h o k n hn, wf.a d k m hak, fun H6 s6 => ⟨outl s o d, rfl, ?_⟩⟩
        have hL6 := s6 _ _ hL
        cases c : outl s o d with
        | true =>
          refine iteT ⟨_, rfl, _, hL6, ?_, fun b u e => ?_, ?_⟩
          · rw [List.length_map]
            exact lt_line (Nat.le_trans (List.length_filter_le ..) (Nat.le_trans (List.length_take_le' ..) lbl))
          · rw [upd_ne (ne_of_none e nD2)]
            exact s6 _ _ (s5 _ _ e)
          · rw [upd_same, nxt, c, if_pos rfl, List.map_append]
            rfl
        | false =>
          refine iteF ⟨s5.trans s6, ?_⟩
          rw [nxt, c, if_neg (by decide), List.append_nil]
          exact hL6
      · rintro H5 ⟨s5, hL⟩
        rw [List.length_map, List.take_length] at hL
        have isf : IsL (fun o => bar s d k m o && outl s o d) (lb.filter fun o => outl s o d) := isl.filter
        have S35 := s4.trans s5
        have hD5 := S35 _ _ hD3
        have nD2' : D2 ≠ D := fun z => by rw [z] at nD2; rw [s4 _ _ hD3] at nD2; cases nD2
        have fl : (lb.filter fun o => outl s o d).length ≤ 60 := Nat.le_trans (List.length_filter_le ..) lbl
        refine ⟨_, rfl, _, .inl ⟨_, SqL.of hL, rfl⟩, ?_⟩
        generalize (lb.filter fun o => outl s o d) = os at isf hL fl ⊢
        have free2 : H D2 = none := by
          cases e : H D2 with
          | none => rfl
          | some o =>
            have y := s4 _ _ (f3 _ _ (S2 _ _ e) nD2')
            rw [nD2] at y
            cases y
        cases os with
        | nil =>
          refine iteF ⟨ws, _, _, _, _, _, rfl, fun b o e n => S35 _ _ (f3 b o e n), hD5, ?_, fun w hw => ⟨(wl w hw).1, S35 _ _ (wl w hw).2.1, (wl w hw).2.2⟩⟩
          rw [wj']
          exact wj.no hak isf
        | cons o0 os0 =>
          refine iteT ⟨_, rfl, _, rfl, _, rfl, D, _, rfl, DPut.k (k := Sum.inl d) hD5 ?_, ?_⟩
          · unfold kvW
            rw [List.length_map]
            have z := wj.sub.length_le
            rw [List.length_map] at z
            exact lt_line (Nat.le_trans z (Nat.le_trans (List.length_take_le' ..) nl'))
          · have dn : ¬ d ∈ ws.map (·.1) := fun z => take_notin nd' hd (wj.sub.subset z)
            refine ⟨ws ++ [(d, D2, o0 :: os0)], _, _, _, _, _, rfl, fun b o e n => ?_, ?_, ?_, fun w hw => ?_⟩
            · rw [upd_ne n]
              exact S35 _ _ (f3 b o e n)
            · rw [upd_same, kvW_put (os := o0 :: os0) dn]
            · rw [wj']
              exact wj.yes hak isf (by simp)
            · rcases List.mem_append.mp hw with z | z
              · have y := wl w z
                refine ⟨y.1, ?_, y.2.2⟩
                rw [upd_ne (ne_of y.2.1 hD3 (by intro z; cases z))]
                exact S35 _ _ y.2.1
              · rw [List.mem_singleton.mp z]
                refine ⟨free2, ?_, fl⟩
                rw [upd_ne nD2']
                exact hL
    · rintro σ H3 ⟨ws, v2, v3, v4, v5, v6, rfl, f3, hD3, wj, wl⟩
      rw [List.length_map, List.take_length] at wj
      refine ⟨_, rfl, q D ws H3 ⟨up'.sublist wj.sub, wj.to, fun d k m e ho => ?_⟩ ?_ nD (fun b o e => f3 _ _ (S2 _ _ e) (ne_of_none e nD)) hD3 wl⟩
      · refine wj.of d (pm.mem_iff.mpr ?_) k m e ho
        cases c : tf d with
        | none =>
          have := ht.no d c
          rw [e] at this
          cases this
        | some t =>
          have y : valV kv (Sum.inl d) = some (.ref t) := by rw [vv]; show (tf d).map V.ref = _; rw [c]; rfl
          exact ints_mem hns (valV_in y)
      · have z := wj.sub.length_le
        rw [List.length_map] at z
        exact Nat.le_trans z nl'

theorem ok_Holds_ask {P : Program} {w : World} {K : PySem.W.Frag} {mg : Str → Option Value} {base : Heap} {a : Nat → Addr} {d : Nat → FuncData} (T : Txt K mg a d) : FnOk P w K mg base CX0 3 (a 7) (d 7) ["self", "dealing", "key", "mode", "age"] (spAsk (a 23)) := by
  refine T.F_Holds_ask.ok (CX := CX0) sc_Holds_ask (fun vs H Q E h => ?_) (fun cdv A outer s0 H vs Q E hr h => ?_)
  · obtain ⟨x, U, S, A, s, d, k, m, age, rfl, hh, wf, hoff, hbnd, hd, hk, q1, q2⟩ := h
    rfl
  · obtain ⟨x, U, S, A, s, d, k, m, age, rfl, hh, wf, hoff, hbnd, hd, hk, q1, q2⟩ := h
    obtain ⟨dx, hx⟩ := hh.ins
    obtain ⟨ko, eo, go, vo⟩ := hh.of
    obtain ⟨kb, eb, gb, vb⟩ := hh.bd
    obtain ⟨kg, eg, gg, vg⟩ := hh.ag
    refine ⟨_, PSs.nox (pss_cons (ps_if (PW.pt (pw_or (pt_cmp (pc_din (hu_of hr) (pv 1) (pe_fld (pv 0) rfl))) (pw_or1 (pt_cmp (pc_din (hu_of hr) (pv 1) (pe_fld (pv 0) rfl)))))) (pss_one ps_never) pss_nil) (pss_cons (ps_expr (pe_meth0 (pv 0) T.cl T.m_Holds_make_own (ok_Holds_make_own T) (hr.mono (by decide)) T.b_Holds_make_own .nil pass0)) (Evl.pss_cut (ps_if (pt_cmp (pc_dnotin (hu_of hr) (pv 1) (pe_fld (pv 0) rfl))) (pss_one (ps_dput (hu_of hr) (pe_fld (pv 0) rfl) (pv 1) (pe_ifExp (pt_cmpR op_isN (pv 4) pe_non (nomark _)) (pv 1) (pv 4)) rfl)) pss_nil) (pss_cons (ps_if (pt_truth (pe_call (ok_is_enough T) (hr.mono (by decide)) (by rfl) T.g_is_enough T.F_is_enough.kp T.b_is_enough .nil pass0 (pa_cons (pe_meth (pv 0) T.cl T.m_Holds_way_of (ok_Holds_way_of T) (hr.mono (by decide)) T.b_Holds_way_of .nil pass0 (pa_cons (pv 1) (pa_cons (pv 2) pa_nil))) (pa_cons (pv 3) pa_nil))) (by intro _; rfl)) (pss_cons (ps_expr (pe_meth (pv 0) T.cl T.m_Holds_wait_no_more (ok_Holds_wait_no_more T) (hr.mono (by decide)) T.b_Holds_wait_no_more .nil pass0 (pa_cons (pv 1) pa_nil))) (pss_one (ps_ret (pe_tup (pa_cons (pe_glob (v := .str "held") (by rfl) (Exists.choose_spec T.g_HELD) ⟨_, rfl⟩) (pa_cons (pe_lst pa_nil) pa_nil)))))) pss_nil) (pss_cons (ps_set (i := 5) sc_Holds_ask.nd rfl (Or.inl rfl) (pe_meth (pv 0) T.cl T.m_Holds_barring (ok_Holds_barring T) (hr.mono (by decide)) T.b_Holds_barring .nil pass0 (pa_cons (pv 1) (pa_cons (pv 2) (pa_cons (pv 3) pa_nil))))) (pss_cons (ps_setLc (i := 6) (own := [("other", 7)]) (g := gName 7) (te := (tVar 7)) (tt := (tNot (tTru K (tMeth (a 23) "outlasts" (spOutl (a 23)) [] E0 (tVar 0) (tCons (tVar 7) (tCons (tVar 1) tNil)))))) (by rfl) sc_Holds_ask.nd rfl rfl (sw_true rfl rfl rfl (by decide +kernel)) (pi_list (pv 5)) (blkOk_by (own := [("other", 7)]) (N := ["self", "dealing", "key", "mode", "age", "barring", "off", "other"]) (sc := defScope s_Holds_ask) (by decide +kernel)) (fun _ _ _ _ _ => (pg_name (i := 7) sc_Holds_ask.nd rfl (.inl rfl))) (fun _ _ _ _ _ => (pts_one (pt_not (pt_truth (pe_meth (pv 0) T.cl T.m_Holds_outlasts (ok_Holds_outlasts T) (hr.mono (by decide)) T.b_Holds_outlasts .nil pass0 (pa_cons (pv 7) (pa_cons (pv 1) pa_nil))) (by intro _; rfl))))) (fun _ _ _ _ _ => (pv 7))) (pss_cons (ps_for PassesOwn.never rfl (pi_list (pv 6)) (pg_name (i := 7) sc_Holds_ask.nd rfl (.inl rfl)) (pss_one (ps_expr (pe_meth (pv 0) T.cl T.m_Holds_call_off (ok_Holds_call_off T) (hr.mono (by decide)) T.b_Holds_call_off .nil pass0 (pa_cons (pv 7) pa_nil))))) (pss_cons (ps_if (pt_cmpR op_lt (pe_callB call_len_seq (by rfl) T.z_len PySem.boot_len (pa_cons (pv 6) pa_nil)) (pe_callB call_len_seq (by rfl) T.z_len PySem.boot_len (pa_cons (pv 5) pa_nil)) (nomark _)) (pss_cons (ps_dput (hu_of hr) (pe_fld (pv 0) rfl) (pv 1) (pe_tup (pa_cons (pv 2) (pa_cons (pv 3) pa_nil))) rfl) (pss_one (ps_ret (pe_tup (pa_cons (pe_glob (v := .str "waits") (by rfl) (Exists.choose_spec T.g_WAITS) ⟨_, rfl⟩) (pa_cons (pv 6) pa_nil)))))) pss_nil) (pss_cons (ps_expr (pe_meth (pv 0) T.cl T.m_Holds_wait_no_more (ok_Holds_wait_no_more T) (hr.mono (by decide)) T.b_Holds_wait_no_more .nil pass0 (pa_cons (pv 1) pa_nil))) (pss_cons (ps_expr (pe_meth (pv 0) T.cl T.m_Holds_hold_so (ok_Holds_hold_so T) (hr.mono (by decide)) T.b_Holds_hold_so .nil pass0 (pa_cons (pv 1) (pa_cons (pv 2) (pa_cons (pv 3) pa_nil))))) (pss_one (ps_ret (pe_tup (pa_cons (pe_glob (v := .str "held") (by rfl) (Exists.choose_spec T.g_HELD) ⟨_, rfl⟩) (pa_cons (pv 6) pa_nil))))))))))))))), ?_⟩
    have o1 : (valV ko (Sum.inl d)).isSome = false := by rw [vo]; show (vB s.offs d).isSome = _; unfold vB; rw [hoff]; rfl
    have b1 : (valV kb (Sum.inl d)).isSome = false := by rw [vb]; show (vB s.bnd d).isSome = _; unfold vB; rw [hbnd]; rfl
    refine ⟨_, rfl, _, rfl, x, _, dx, _, _, rfl, hx, T.cl, T.n_offs, hf_o A, A.o, _, rfl, DGet.k (k := Sum.inl d) eo, _, rfl, iteBF o1 ⟨_, rfl, _, rfl, x, _, dx, _, _, rfl, hx, T.cl, T.n_bound, hf_b A, A.b, _, rfl, DGet.k (k := Sum.inl d) eb, _, rfl, iteBF b1 ?_⟩⟩
    refine ⟨_, rfl, x, dx, _, rfl, hx, hf_no _ (by decide +kernel) (by decide +kernel) (by decide +kernel) (by decide +kernel) (by decide +kernel) (by decide +kernel), x, U, S, A, s, rfl, hh, ?_⟩
    refine ⟨fun σ' H' => σ' = [some (.ref x), some (.int d), some (.str k), some (.str m), some (ageV age), none, none, none] ∧ Nx (a 23) U S H x A (s.aged d age) S H', ?_, ?_⟩
    · refine ⟨_, rfl, _, rfl, x, _, dx, _, _, rfl, hx, T.cl, T.n_ages, hf_g A, A.g, _, rfl, DGet.k (k := Sum.inl d) eg, _, rfl, ?_⟩
      have g1 : (valV kg (Sum.inl d)).isSome = (s.ages d).isSome := by rw [vg]; show (Option.map V.int (s.ages d)).isSome = _; rw [Option.isSome_map]
      rw [g1]
      cases c : s.ages d with
      | some a0 =>
        refine iteF ⟨rfl, ?_⟩
        rw [aged_some s c]
        exact Nx.refl hh
      | none =>
        refine iteT ?_
        rw [aged_none s c]
        cases age with
        | none =>
          refine ⟨_, rfl, rfl, _, rfl, iteDT rfl ⟨_, rfl, _, rfl, x, _, dx, _, _, rfl, hx, T.cl, T.n_ages, hf_g A, _, rfl, A.g, _, rfl, DPut.k (k := Sum.inl d) eg (lt_line (Un.lenI gg hh.sm.1)), rfl, ?_⟩⟩
          exact hh.setAgeN hd eg gg vg d
        | some a0 =>
          refine ⟨_, rfl, rfl, _, rfl, iteDF (by intro z; cases z) ⟨_, rfl, _, rfl, x, _, dx, _, _, rfl, hx, T.cl, T.n_ages, hf_g A, _, rfl, A.g, _, rfl, DPut.k (k := Sum.inl d) eg (lt_line (Un.lenI gg hh.sm.1)), rfl, ?_⟩⟩
          exact hh.setAgeN hd eg gg vg a0
    rintro σ' H1 ⟨rfl, n1⟩
    obtain ⟨dx1, hx1⟩ := n1.at_.ins
    obtain ⟨rf, ht⟩ := n1.at_.hd
    obtain ⟨kv, ek, gd, vv⟩ := ht.d
    have hs1 : (s.aged d age).held = s.held := aged_held s d age
    have wf1 := wf.aged d age
    have hage := aged_age s d age
    generalize s.aged d age = s1 at n1 ht q1 q2 hs1 wf1 hage
    have hs2 : s1.held d k = s.held d k := by rw [hs1]
    refine ⟨_, rfl, x, dx1, _, rfl, hx1, hf_no _ (by decide +kernel) (by decide +kernel) (by decide +kernel) (by decide +kernel) (by decide +kernel) (by decide +kernel), _, rfl, _, rfl, x, U, S, A, s1, d, k, rfl, n1.at_, _, rfl, s1.held d k, m, rfl, fun H3 s3 => ⟨_, rfl, ?_⟩⟩
    rw [hs2]
    have n3 := n1.same s3
    have hx3 := s3 _ _ hx1
    cases c : enough (s.held d k) m with
    | true =>
      refine iteT ⟨_, rfl, x, dx1, _, rfl, hx3, hf_no _ (by decide +kernel) (by decide +kernel) (by decide +kernel) (by decide +kernel) (by decide +kernel) (by decide +kernel), _, rfl, x, U, S, A, s1, d, rfl, n3.at_, fun S4 H4 n4 _ => ?_⟩
      refine ⟨Nat.zero_le _, fun l nl => ⟨len2, fun t nt => ?_⟩⟩
      have n34 := n3.trans n4
      have sl : Same H4 (upd H4 l (.lst [])) := same_new (Same.refl H4) nl
      have st := same_new (o := .tup [.str "held", .ref l]) (Same.refl (upd H4 l (.lst []))) nt
      exact q1 c S4 _ t l (n34.same (sl.trans st)) upd_same (st _ _ upd_same) (n34.lv _ nl) (n4.at_.not_own nl) (n34.lv _ (upd_lv nt))
    | false =>
      refine iteF ?_
      have q2 := q2 c
      refine ⟨_, rfl, x, dx1, _, rfl, hx3, hf_no _ (by decide +kernel) (by decide +kernel) (by decide +kernel) (by decide +kernel) (by decide +kernel) (by decide +kernel), _, rfl, _, rfl, _, rfl, x, U, S, A, s1, d, k, m, rfl, n3.at_, fun pb lb H4 isl lbl npb s4 hpb => ?_⟩
      refine ⟨_, rfl, pb, rfl, ⟨_, SqL.of hpb⟩, fun D2 nD2 => ?_⟩
      have nSb := n3.at_.not_own npb
      have n4 := n3.same s4
      have nS2 := n4.at_.not_own nD2
      have f2 := n4.lv _ nD2
      refine lc_it (walk_list (xs := lb.map V.int)) (fun i H' => Same H4 H' ∧ H' D2 = some (.lst (((lb.take i).filter (fun o => !outl s1 o d)).map V.int))) ⟨same_new (Same.refl H4) nD2, by rw [List.take_zero]; exact upd_same⟩ (fun i H' _ z => SqL.of (z.1 _ _ hpb)) ?_ ?_
      · rintro i ov H5 H5' hi ⟨s5, hL⟩ ⟨rfl, ho⟩
        rw [List.getElem?_map] at ho
        obtain ⟨o, ho1, rfl⟩ := Option.map_eq_some_iff.mp ho
        have hbo := (isl.mem o).mp (List.mem_of_getElem? ho1)
        obtain ⟨n, hn, _⟩ := bar_held hbo
        have nxt : (lb.take (i + 1)).filter (fun o => !outl s1 o d) = (lb.take i).filter (fun o => !outl s1 o d) ++ (if (!outl s1 o d) = true then [o] else []) := take_filter ho1
        refine ⟨rfl, _, rfl, x, dx1, _, rfl, s5 _ _ (s4 _ _ hx3), hf_no _ (by decide +kernel) (by decide +kernel) (by decide +kernel) (by decide +kernel) (by decide +kernel) (by decide +kernel), _, rfl, _, rfl, x, U, S, A, s1, o, d, rfl, n4.at_.same s5, wf1.h o k n hn, hage, fun H6 s6 => ⟨outl s1 o d, rfl, ?_⟩⟩
        have hL6 := s6 _ _ hL
        cases c2 : outl s1 o d with
        | false =>
          refine iteT ⟨_, rfl, _, hL6, ?_, fun b u e => ?_, ?_⟩
          · rw [List.length_map]
            exact lt_line (Nat.le_trans (List.length_filter_le ..) (Nat.le_trans (List.length_take_le' ..) lbl))
          · rw [upd_ne (ne_of_none e nD2)]
            exact s6 _ _ (s5 _ _ e)
          · rw [upd_same, nxt, c2, if_pos (show (!false) = true from rfl), List.map_append]
            rfl
        | true =>
          refine iteF ⟨s5.trans s6, ?_⟩
          rw [nxt, c2, if_neg (by decide), List.append_nil]
          exact hL6
      · rintro H5 ⟨s5, hL⟩
        rw [List.length_map, List.take_length] at hL
        have isf : IsL (fun o => bar s1 d k m o && !outl s1 o d) (lb.filter fun o => !outl s1 o d) := isl.filter (q := fun o => !outl s1 o d)
        have fl : (lb.filter fun o => !outl s1 o d).length ≤ 60 := Nat.le_trans (List.length_filter_le ..) lbl
        have spl := split_len (fun o => outl s1 o d) lb
        have isl2 : IsL (bar (s1.offL (lb.filter fun o => !outl s1 o d)) d k m) (lb.filter fun o => outl s1 o d) := offL_bar isl isf
        generalize (lb.filter fun o => !outl s1 o d) = off at isf hL fl isl2 spl ⊢
        generalize (lb.filter fun o => outl s1 o d) = l2 at isl2 spl
        have n5 := n4.same s5
        have dno : ¬ d ∈ off := fun z => by
          have y := (isf.mem d).mp z
          rw [Bool.and_eq_true] at y
          exact bar_ne y.1 rfl
        have hpb5 := s5 _ _ hpb
        refine ⟨_, rfl, D2, rfl, ⟨_, SqL.of hL⟩, ?_⟩
        refine for_list (K := K) (a := D2) (xs := off.map V.int) (fun j σ H' => ∃ (S' : Addr → Prop) (v7 : Option V), σ = [some (.ref x), some (.int d), some (.str k), some (.str m), some (ageV age), some (.ref pb), some (.ref D2), v7] ∧ Nx (a 23) U S H5 x A (s1.offL (off.take j)) S' H' ∧ ∀ i, ¬ i ∈ off.take j → hv H' A i = hv H5 A i)
          ⟨S, _, rfl, by rw [List.take_zero, offL_nil]; exact Nx.refl n5.at_, fun _ _ => rfl⟩ (fun j σ H' _ z => by
            obtain ⟨_, _, _, nj, _⟩ := z
            exact SqL.of (nj.out nS2 hL).2) ?_ ?_
        · rintro j ov σ H6 hj ⟨S6, v7, rfl, n6, w6⟩
          rw [List.getElem?_map] at hj
          obtain ⟨o, ho, rfl⟩ := Option.map_eq_some_iff.mp hj
          obtain ⟨dx6, hx6⟩ := n6.at_.ins
          have hbo := (isf.mem o).mp (List.mem_of_getElem? ho)
          rw [Bool.and_eq_true] at hbo
          obtain ⟨n, hn, _⟩ := bar_held hbo.1
          have tk : off.take (j + 1) = off.take j ++ [o] := by rw [List.take_add_one, ho]; rfl
          show ∃ v, _
          refine ⟨_, rfl, x, dx6, _, rfl, hx6, hf_no _ (by decide +kernel) (by decide +kernel) (by decide +kernel) (by decide +kernel) (by decide +kernel) (by decide +kernel), _, rfl, x, U, S6, A, _, o, rfl, n6.at_, n5.at_.inU hn, fun S7 H7 n7 w7 => ⟨S7, _, rfl, ?_, fun i hi => ?_⟩⟩
          · rw [tk, ← offL_snoc]
            exact n6.trans n7
          · rw [tk] at hi
            rw [w7 i (fun z => hi (by rw [z]; simp)), w6 i (fun z => hi (List.mem_append_left _ z))]
        · rintro σ H6 ⟨S6, v7, rfl, n6, w6⟩
          rw [List.length_map, List.take_length] at n6 w6
          obtain ⟨dx6, hx6⟩ := n6.at_.ins
          have hD6 := n6.out nS2 hL
          have hpb6 := n6.out nSb hpb5
          refine ⟨_, rfl, D2, _, rfl, .inl (SqL.of hD6.2), _, rfl, pb, _, rfl, .inl (SqL.of hpb6.2), _, _, rfl, rfl, _, rfl, ?_⟩
          have n7 := n6
          have n57 := n5.trans n7
          have hD7 := hD6.2
          have hx7 := hx6
          have q2 := q2 off l2 isf isl2 fl
          rw [List.length_map, List.length_map]
          cases l2 with
          | cons o0 l2 =>
            refine iteDT (by rw [List.length_cons] at spl; omega) ?_
            refine ⟨_, rfl, _, rfl, len2, fun t nt => ?_⟩
            obtain ⟨tf7, ht7⟩ := n7.at_.ak
            obtain ⟨kk, ekk, gk, vk⟩ := ht7.d
            refine ⟨_, rfl, x, _, dx6, _, _, rfl, (by rw [upd_ne (ne_of_none hx7 nt)]; exact hx7), T.cl, T.n_askings, hf_k A, _, rfl, A.k, _, rfl, DPut.k (k := Sum.inl d) (by rw [upd_ne (ne_of_none ekk nt)]; exact ekk) (lt_line (Un.lenI gk n7.at_.sm.1)), ?_⟩
            have n8 := Nx.asked (k := k) (m := m) n7.at_ ekk hd nt
            generalize (upd (upd H6 t (.tup [.str k, .str m])) A.k (.dK (putK kk (Sum.inl d) (.ref t)))) = H8 at n8 ⊢
            refine ⟨_, rfl, len2, fun t2 nt2 => ?_⟩
            have hD8 := n8.out hD6.1 hD7
            have st := same_new (o := .tup [.str "waits", .ref D2]) (Same.refl H8) nt2
            exact q2.2 (by simp) _ _ t2 D2 ((n57.trans n8).same st) upd_same (st _ _ hD8.2) f2 hD8.1 ((n57.trans n8).lv _ nt2)
          | nil =>
            refine iteDF (by rw [List.length_nil] at spl; omega) ?_
            refine ⟨_, rfl, x, dx6, _, rfl, hx7, hf_no _ (by decide +kernel) (by decide +kernel) (by decide +kernel) (by decide +kernel) (by decide +kernel) (by decide +kernel), _, rfl, x, U, S6, A, _, d, rfl, n7.at_, fun S8 H8 n8 f8 => ?_⟩
            have n58 := n57.trans n8
            obtain ⟨dx8, hx8⟩ := n8.at_.ins
            have hD8 := n8.out hD6.1 hD7
            refine ⟨_, rfl, x, dx8, _, rfl, hx8, hf_no _ (by decide +kernel) (by decide +kernel) (by decide +kernel) (by decide +kernel) (by decide +kernel) (by decide +kernel), _, rfl, _, rfl, _, rfl, x, U, S8, A, _, d, k, m, rfl, n8.at_, hd, hk, fun S9 H9 n9 => ?_⟩
            have n59 := n58.trans n9
            have hD9 := n9.out hD8.1 hD8.2
            refine ⟨_, rfl, len2, fun t2 nt2 => ?_⟩
            have st := same_new (o := .tup [.str "held", .ref D2]) (Same.refl H9) nt2
            exact q2.1 rfl _ _ t2 D2 (n59.same st) upd_same (st _ _ hD9.2) f2 hD9.1 (n59.lv _ nt2)

theorem ok_l_bag {P : Program} {w : World} {K : PySem.W.Frag} {mg : Str → Option Value} {base : Heap} {a : Nat → Addr} {d : Nat → FuncData} (T : Txt K mg a d) : FnOk P w K mg base CX0 1 (a 17) (d 17) ["_law_script", "_law_k"] (spBag K) := by
  refine T.F_l_bag.ok sc_l_bag (fun vs H Q E h => ?_) (fun cdv A outer s0 H vs Q E hr h => ?_)
  · obtain ⟨l, ns, k, rfl, hS, hk0, hk1, q⟩ := h
    rfl
  · obtain ⟨l, ns, k, rfl, hS, hk0, hk1, q⟩ := h
    obtain ⟨k, rfl⟩ := Int.eq_ofNat_of_zero_le hk0
    refine ⟨_, (pss_cons (ps_set (i := 2) sc_l_bag.nd rfl (Or.inl rfl) pe_int) (pss_cons (ps_if (pt_cmpR op_lt (pv 1) (pe_callB call_len_seq (by rfl) T.z_len PySem.boot_len (pa_cons (pv 0) pa_nil)) (nomark _)) (pss_one (ps_set (i := 2) sc_l_bag.nd rfl (Or.inl rfl) (pe_ix ix_list (pv 0) (pv 1) (fun _ _ => rfl)))) pss_nil) (pss_cons (ps_set (i := 3) sc_l_bag.nd rfl (Or.inl rfl) pe_int) (pss_cons (ps_if (pt_cmpR op_ge (pv 2) (pe_op op_pow pe_int pe_int) (nomark _)) (pss_one (ps_set (i := 3) sc_l_bag.nd rfl (Or.inl rfl) (pv 2))) pss_nil) (pss_one (ps_ret (pe_lst (pa_cons (pv 3) (pa_cons (pe_op op_mod (pe_op op_pow (pe_op op_add (pe_op op_add (pe_op op_mod (pv 2) pe_int) (pe_op op_mul pe_int (pv 1))) pe_int) pe_int) pe_int) pa_nil))))))))), ?_⟩
    have fin : ∀ cell great : Int, ∀ p4, H p4 = none → BagAt (upd H p4 (.lst [.int great, .int ((cell % 998244353 + 7368787 * (k : Int) + 41) ^ (3 : Int).toNat % 2147483629)])) p4 := fun cell great p4 n4 =>
      ⟨_, _, upd_same, Int.emod_nonneg _ (by decide), Int.lt_trans (Int.emod_lt_of_pos _ (by decide)) (by decide)⟩
    have pw : ∀ cell : Int, (cell % 998244353 + 7368787 * (k : Int) + 41).natAbs < 2 ^ 64 := fun cell => by
      have h1 := Int.emod_nonneg cell (show (998244353 : Int) ≠ 0 by decide)
      have h2 := Int.emod_lt_of_pos cell (show (0 : Int) < 998244353 by decide)
      have e : (2 : Nat) ^ 64 = 18446744073709551616 := by decide
      rw [e]
      omega
    refine ⟨_, rfl, _, rfl, l, _, rfl, .inl hS, _, _, rfl, rfl, _, rfl, ?_⟩
    refine ite2 (fun hlt => ?_) (fun hlt => ?_)
    · have hlt' : k < ns.length := by
        have z := of_decide_eq_true hlt
        rw [List.length_map] at z
        omega
      refine ⟨_, rfl, _, rfl, l, _, _, _, rfl, rfl, hS, atI_nat (j := k) (v := .int ns[k]) (by rw [List.getElem?_map, List.getElem?_eq_getElem hlt']; rfl), ?_⟩
      refine ⟨_, rfl, 10, 18, rfl, rfl, ⟨by decide, by decide, by decide⟩, _, _, rfl, rfl, _, rfl, ?_⟩
      refine ite2 (fun _ => ?_) (fun _ => ?_)
      · refine ⟨_, rfl, ?_⟩
        refine ⟨_, rfl, _, rfl, _, _, rfl, rfl, (by show (0 : Int) < 998244353; decide), _, rfl, _, k, rfl, rfl, .inl (m64 (by decide) (by decide)), _, _, rfl, rfl, _, 41, rfl, rfl, _, 3, rfl, rfl, ⟨by decide, by decide, pw _⟩, _, _, rfl, rfl, (by show (0 : Int) < 2147483629; decide), len2, fun p4 n4 => ?_⟩
        exact q p4 _ n4 (same_new (Same.refl H) n4) (fin _ _ p4 n4)
      · refine ⟨_, rfl, _, rfl, _, _, rfl, rfl, (by show (0 : Int) < 998244353; decide), _, rfl, _, k, rfl, rfl, .inl (m64 (by decide) (by decide)), _, _, rfl, rfl, _, 41, rfl, rfl, _, 3, rfl, rfl, ⟨by decide, by decide, pw _⟩, _, _, rfl, rfl, (by show (0 : Int) < 2147483629; decide), len2, fun p4 n4 => ?_⟩
        exact q p4 _ n4 (same_new (Same.refl H) n4) (fin _ _ p4 n4)
    · refine ⟨_, rfl, 10, 18, rfl, rfl, ⟨by decide, by decide, by decide⟩, _, _, rfl, rfl, _, rfl, ?_⟩
      refine iteDF (by decide) ?_
      refine ⟨_, rfl, _, rfl, _, _, rfl, rfl, (by show (0 : Int) < 998244353; decide), _, rfl, _, k, rfl, rfl, .inl (m64 (by decide) (by decide)), _, _, rfl, rfl, _, 41, rfl, rfl, _, 3, rfl, rfl, ⟨by decide, by decide, pw _⟩, _, _, rfl, rfl, (by show (0 : Int) < 2147483629; decide), len2, fun p4 n4 => ?_⟩
      exact q p4 _ n4 (same_new (Same.refl H) n4) (fin _ _ p4 n4)

theorem ok_l_out {P : Program} {w : World} {K : PySem.W.Frag} {mg : Str → Option Value} {base : Heap} {a : Nat → Addr} {d : Nat → FuncData} (T : Txt K mg a d) : FnOk P w K mg base CX0 1 (a 18) (d 18) ["_law_bag_here", "_law_many"] spOut := by
  refine T.F_l_out.ok sc_l_out (fun vs H Q E h => ?_) (fun cdv A outer s0 H vs Q E hr h => ?_)
  · obtain ⟨s, m, rfl, ⟨x, y, hs, y0, y1⟩, m0, m1, q⟩ := h
    rfl
  · obtain ⟨s, m, rfl, ⟨x, y, hs, y0, y1⟩, m0, m1, q⟩ := h
    refine ⟨_, (pss_cons (ps_if (pt_cmpR op_gt (pe_ix ix_list (pv 0) pe_int (fun _ _ => rfl)) pe_int (nomark _)) (pss_cons (ps_set (i := 2) sc_l_out.nd rfl (Or.inl rfl) (pe_op op_mod (pe_ix ix_list (pv 0) pe_int (fun _ _ => rfl)) (pv 1))) (pss_cons (ps_asg (pe_op op_fdivW (pe_ix ix_list (pv 0) pe_int (fun _ _ => rfl)) (pv 1)) (pg_sub (pv 0) pe_int set_list)) (pss_one (ps_ret (pv 2))))) pss_nil) (pss_cons (ps_asg (pe_op op_mod (pe_op op_add (pe_op op_mul (pe_ix ix_list (pv 0) pe_int (fun _ _ => rfl)) pe_int) pe_int) pe_int) (pg_sub (pv 0) pe_int set_list)) (pss_one (ps_ret (pe_op op_mod (pe_op op_fdiv (pe_op op_mod (pe_op op_mul (pe_ix ix_list (pv 0) pe_int (fun _ _ => rfl)) (pe_op op_add (pe_op op_fdiv (pe_ix ix_list (pv 0) pe_int (fun _ _ => rfl)) pe_int) pe_int)) pe_int) pe_int) (pv 1)))))), ?_⟩
    refine ⟨_, rfl, s, _, 0, _, rfl, rfl, SqL.of hs, rfl, x, 0, rfl, rfl, _, rfl, ?_⟩
    refine ite2 (fun _ => ?_) (fun _ => ?_)
    · refine ⟨_, rfl, s, _, 0, _, rfl, rfl, SqL.of hs, rfl, _, rfl, x, m, rfl, rfl, m0, ?_⟩
      refine ⟨_, rfl, s, _, 0, _, rfl, rfl, SqL.of hs, rfl, _, rfl, x, m, rfl, rfl, divW m0 m1, _, rfl, s, _, 0, 0, rfl, rfl, hs, rfl, ?_⟩
      refine ⟨_, rfl, ?_⟩
      exact q _ _ (Int.emod_nonneg _ (by omega)) (Int.emod_lt_of_pos _ m0) (Fr.refl s H).put ⟨_, _, upd_same, y0, y1⟩
    · refine ⟨_, rfl, s, _, 1, _, rfl, rfl, SqL.of hs, rfl, y, 40692, rfl, rfl, .inr (m64 (by decide) (by decide)), _, 12345, rfl, rfl, _, 2147483399, rfl, rfl, (by show (0 : Int) < 2147483399; decide), _, rfl, s, _, 1, 1, rfl, rfl, hs, rfl, ?_⟩
      have e0 : 0 ≤ (y * 40692 + 12345) % 2147483399 := Int.emod_nonneg _ (by decide)
      have e1 : (y * 40692 + 12345) % 2147483399 < 2147483399 := Int.emod_lt_of_pos _ (by decide)
      refine ⟨_, rfl, s, _, 1, _, rfl, rfl, SqL.of upd_same, rfl, _, rfl, s, _, 1, _, rfl, rfl, SqL.of upd_same, rfl, _, 1024, rfl, rfl, ⟨by decide, by decide⟩, _, 7, rfl, rfl, _, _, rfl, rfl, .inl (m64 (by omega) (by omega)), _, 2147483647, rfl, rfl, (by show (0 : Int) < 2147483647; decide), _, 32, rfl, rfl, ⟨by decide, by decide⟩, _, rfl, _, m, rfl, rfl, m0, ?_⟩
      exact q _ _ (Int.emod_nonneg _ (by omega)) (Int.emod_lt_of_pos _ m0) (Fr.refl s H).put ⟨_, _, upd_same, e0, by omega⟩

theorem ok_l_step {P : Program} {w : World} {K : PySem.W.Frag} {mg : Str → Option Value} {base : Heap} {a : Nat → Addr} {d : Nat → FuncData} (T : Txt K mg a d) : FnOk P w K mg base CX0 4 (a 19) (d 19) ["_law_bag_here", "_law_holds"] (spStep23 (a 23)) := by
  refine T.F_l_step.ok sc_l_step (fun vs H Q E h => ?_) (fun cdv A outer s0 H vs Q E hr h => ?_)
  · obtain ⟨b, x, S, A, s, rfl, hb, nb, hh, hi, q⟩ := h
    rfl
  · obtain ⟨b, x, S, A, s, rfl, hb, nb, hh, hi, q⟩ := h
    obtain ⟨dx, hx⟩ := hh.ins
    refine ⟨_, (pss_cons (ps_set (i := 2) sc_l_step.nd rfl (Or.inl rfl) (pe_call (ok_l_out T) (hr.mono (by decide)) (by rfl) T.g_l_out T.F_l_out.kp T.b_l_out .nil pass0 (pa_cons (pv 0) (pa_cons pe_int pa_nil)))) (pss_cons (ps_set (i := 3) sc_l_step.nd rfl (Or.inl rfl) (pe_call (ok_l_out T) (hr.mono (by decide)) (by rfl) T.g_l_out T.F_l_out.kp T.b_l_out .nil pass0 (pa_cons (pv 0) (pa_cons pe_int pa_nil)))) (pss_one (ps_if (pt_cmpR op_eq (pv 3) pe_int (nomark _)) (pss_one (ps_expr (pe_methN (pv 1) T.cl T.m_Holds_free (ok_Holds_free T) (hr.mono (by decide)) (Exists.choose_spec T.k_Holds_free) pass0 (pa_cons (pv 2) pa_nil) (pk_cons pe_bl pk_nil)))) (pss_one (ps_if (PW.pt (pw_and (pt_cmpR op_notIn_seq (pv 2) (pe_meth0 (pv 1) T.cl T.m_Holds_called_off (ok_Holds_called_off T) (hr.mono (by decide)) T.b_Holds_called_off .nil pass0) (by rfl)) (pw_and1 (pt_cmpR op_notIn_seq (pv 2) (pe_meth0 (pv 1) T.cl T.m_Holds_pledged (ok_Holds_pledged T) (hr.mono (by decide)) T.b_Holds_pledged .nil pass0) (by rfl))))) (pss_one (ps_if (pt_cmpR op_eq (pv 3) pe_int (nomark _)) (pss_one (ps_expr (pe_meth (pv 1) T.cl T.m_Holds_pledge (ok_Holds_pledge T) (hr.mono (by decide)) T.b_Holds_pledge .nil pass0 (pa_cons (pv 2) pa_nil)))) (pss_one (ps_expr (pe_meth (pv 1) T.cl T.m_Holds_ask (ok_Holds_ask T) (hr.mono (by decide)) (Exists.choose_spec T.c_Holds_ask).2 (Exists.choose_spec T.c_Holds_ask).1 pass0 (pa_cons (pv 2) (pa_cons (pe_ix ix_list (pe_lst (pa_cons pe_str (pa_cons pe_str (pa_cons pe_str (pa_cons pe_str pa_nil))))) (pe_call (ok_l_out T) (hr.mono (by decide)) (by rfl) T.g_l_out T.F_l_out.kp T.b_l_out .nil pass0 (pa_cons (pv 0) (pa_cons pe_int pa_nil))) (fun _ _ => rfl)) (pa_cons (pe_ix ix_list (pe_lst (pa_cons pe_str (pa_cons pe_str pa_nil))) (pe_call (ok_l_out T) (hr.mono (by decide)) (by rfl) T.g_l_out T.F_l_out.kp T.b_l_out .nil pass0 (pa_cons (pv 0) (pa_cons pe_int pa_nil))) (fun _ _ => rfl)) pa_nil)))))))) pss_nil)))))), ?_⟩
    have keep : ∀ {H1 H2 : Hp} {s : HS}, HoldsAt (a 23) U23 S H1 x A s → Fr b H1 H2 → HoldsAt (a 23) U23 S H2 x A s := fun h f => h.keep fun c o sc e => f c o (fun z => nb (z ▸ sc)) e
    refine ⟨_, rfl, b, 8, rfl, hb, by decide, by decide, fun d H1 d0 d1 f1 b1 => ?_⟩
    refine ⟨_, rfl, b, 9, rfl, b1, by decide, by decide, fun w H2 w0 w1 f2 b2 => ?_⟩
    have hh2 := keep (keep hh f1) f2
    have f12 := f1.trans f2
    have hd := u23 d0 d1
    obtain ⟨dx2, hx2⟩ := hh2.ins
    have fin : ∀ (s' : HS) (S' : Addr → Prop) (H3 H' : Hp), Fr b H H3 → (∀ c, H3 c = none → H c = none) → Nx (a 23) U23 S H3 x A s' S' H' → In23 s' → Q .non H' := fun s' S' H3 H' f lv n i => q s' S' H' n.at_ i (fun c z => (n.ow c z).imp id (lv c)) fun c o nc cb e => n.fr c o nc (f c o cb e)
    have lv2 : ∀ c, H2 c = none → H c = none := fun c z => by
      by_cases e : c = b
      · obtain ⟨_, _, eb, _⟩ := b2
        rw [e, eb] at z; cases z
      · cases e2 : H c with
        | none => rfl
        | some o => rw [f12 c o e e2] at z; cases z
    refine ⟨_, rfl, rfl, _, rfl, ?_⟩
    refine ite2 (fun _ => ?_) (fun _ => ?_)
    · exact ⟨_, rfl, x, dx2, _, rfl, hx2, hf_no _ (by decide +kernel) (by decide +kernel) (by decide +kernel) (by decide +kernel) (by decide +kernel) (by decide +kernel), _, rfl, rfl, rfl, x, U23, S, A, s, d, true, rfl, hh2, fun S' H' n => fin _ S' H2 H' f12 lv2 n (hi.free d)⟩
    refine ⟨_, rfl, _, rfl, x, dx2, _, rfl, hx2, hf_no _ (by decide +kernel) (by decide +kernel) (by decide +kernel) (by decide +kernel) (by decide +kernel) (by decide +kernel), x, U23, S, A, s, rfl, hh2, fun p1 l1 H3 is1 _ np1 s3 hp1 => ⟨p1, _, rfl, .inl (SqL.of hp1), rfl, all_flat _, _, rfl, ?_⟩⟩
    show if (!inV (.int d) (l1.map V.int)) = true then _ else _
    rw [in_ints]
    have hh3 := hh2.same s3
    have f3 : Fr b H H3 := f12.trans (fr_same s3)
    have lv3 : ∀ c, H3 c = none → H c = none := fun c z => lv2 c (s3.free z)
    by_cases c1 : d ∈ l1
    · refine iteNDF c1 (iteF ?_)
      exact fin s S H3 H3 f3 lv3 (Nx.refl hh3) hi
    refine iteND c1 ?_
    refine ⟨_, rfl, _, rfl, x, dx2, _, rfl, s3 _ _ hx2, hf_no _ (by decide +kernel) (by decide +kernel) (by decide +kernel) (by decide +kernel) (by decide +kernel) (by decide +kernel), x, U23, S, A, s, rfl, hh3, fun p2 l2 H4 is2 _ np2 s4 hp2 => ⟨p2, _, rfl, .inl (SqL.of hp2), rfl, all_flat _, _, rfl, ?_⟩⟩
    show if (!inV (.int d) (l2.map V.int)) = true then _ else _
    rw [in_ints]
    have hh4 := hh3.same s4
    have f4 : Fr b H H4 := f3.trans (fr_same s4)
    have lv4 : ∀ c, H4 c = none → H c = none := fun c z => lv3 c (s4.free z)
    by_cases c2 : d ∈ l2
    · refine iteNDF c2 ?_
      exact fin s S H4 H4 f4 lv4 (Nx.refl hh4) hi
    refine iteND c2 ?_
    have ho : s.offs d = false := by
      cases e : s.offs d with
      | false => rfl
      | true => exact absurd ((is1.mem d).mpr e) c1
    have hbd : s.bnd d = false := by
      cases e : s.bnd d with
      | false => rfl
      | true => exact absurd ((is2.mem d).mpr e) c2
    have hx4 := s4 _ _ (s3 _ _ hx2)
    have b4 : BagAt H4 b := (b2.same s3).same s4
    refine ⟨_, rfl, rfl, _, rfl, ?_⟩
    refine ite2 (fun _ => ?_) (fun _ => ?_)
    · exact ⟨_, rfl, x, dx2, _, rfl, hx4, hf_no _ (by decide +kernel) (by decide +kernel) (by decide +kernel) (by decide +kernel) (by decide +kernel) (by decide +kernel), _, rfl, x, U23, S, A, s, d, rfl, hh4, hd, fun S' H' n => fin _ S' H4 H' f4 lv4 n (hi.pledge d)⟩
    refine ⟨_, rfl, x, dx2, _, rfl, hx4, hf_no _ (by decide +kernel) (by decide +kernel) (by decide +kernel) (by decide +kernel) (by decide +kernel) (by decide +kernel), _, rfl, by decide, fun pk npk => ?_⟩
    have sk : Same H4 (upd H4 pk (.lst [.str "a", .str "b", .str "c", .str "d"])) := same_new (Same.refl H4) npk
    refine ⟨_, rfl, b, 4, rfl, b4.new npk, by decide, by decide, fun r H5 r0 r1 f5 b5 => ?_⟩
    have gk : H5 pk = some (.lst [.str "a", .str "b", .str "c", .str "d"]) := f5 _ _ (b4.ne_new npk) upd_same
    obtain ⟨k, hk1, hk2⟩ : ∃ k : Str, atI [V.str "a", V.str "b", V.str "c", V.str "d"] r = some (.str k) ∧ k ∈ U23.ks := by
      have : r = 0 ∨ r = 1 ∨ r = 2 ∨ r = 3 := by omega
      rcases this with rfl | rfl | rfl | rfl
      · exact ⟨"a", rfl, by decide +kernel⟩
      · exact ⟨"b", rfl, by decide +kernel⟩
      · exact ⟨"c", rfl, by decide +kernel⟩
      · exact ⟨"d", rfl, by decide +kernel⟩
    refine ⟨pk, _, r, _, rfl, rfl, SqL.of gk, hk1, len2, fun pm npm => ?_⟩
    have sk5 : Same H5 (upd H5 pm (.lst [.str "read", .str "write"])) := same_new (Same.refl H5) npm
    refine ⟨_, rfl, b, 2, rfl, b5.new npm, by decide, by decide, fun r' H6 r0' r1' f6 b6 => ?_⟩
    have gm : H6 pm = some (.lst [.str "read", .str "write"]) := f6 _ _ (b5.ne_new npm) upd_same
    obtain ⟨m, hm1⟩ : ∃ m : Str, atI [V.str "read", V.str "write"] r' = some (.str m) := by
      have : r' = 0 ∨ r' = 1 := by omega
      rcases this with rfl | rfl
      · exact ⟨"read", rfl⟩
      · exact ⟨"write", rfl⟩
    have f46 : Fr b H4 H6 := ((fr_same sk).trans f5).trans ((fr_same sk5).trans f6)
    have hh6 := keep hh4 f46
    have f06 : Fr b H H6 := f4.trans f46
    have lv6 : ∀ c, H6 c = none → H c = none := fun c z => by
      by_cases e : c = b
      · obtain ⟨_, _, eb, _⟩ := b6
        rw [e, eb] at z; cases z
      · cases e2 : H c with
        | none => rfl
        | some o => rw [f06 c o e e2] at z; cases z
    refine ⟨pm, _, r', _, rfl, rfl, SqL.of gm, hm1, x, U23, S, A, s, d, k, m, none, rfl, hh6, hi.wf, ho, hbd, hd, hk2, fun _ S' H' t l n _ _ _ _ _ => fin _ S' H6 H' f06 lv6 n ((hi.aged d).noAsk d), fun _ off bl iso isb _ => ⟨fun e S' H' t l n _ _ _ _ _ => fin _ S' H6 H' f06 lv6 n ?_, fun e S' H' t l n _ _ _ _ _ => fin _ S' H6 H' f06 lv6 n ?_⟩⟩
    · have dn : ¬ d ∈ off := fun z => by
        have y := (iso.mem d).mp z
        rw [Bool.and_eq_true] at y
        exact bar_ne y.1 rfl
      refine (((hi.aged d).offL off).noAsk d).hold ?_ (aged_age s d none) fun o => ?_
      · show ((s.aged d none).offL off).offs d = false
        rw [offL_offs dn, aged_offs]
        exact ho
      · cases e2 : bar ((s.aged d none).offL off) d k m o with
        | false => exact e2
        | true =>
          have := (isb.mem o).mpr e2
          rw [e] at this
          cases this
    · have dn : ¬ d ∈ off := fun z => by
        have y := (iso.mem d).mp z
        rw [Bool.and_eq_true] at y
        exact bar_ne y.1 rfl
      refine ((hi.aged d).offL off).setAsk ?_ ?_ (aged_age s d none)
      · rw [offL_offs dn, aged_offs]
        exact ho
      · show (s.aged d none).bnd d = false
        rw [aged_bnd]
        exact hbd

theorem ok_l_keys_right {P : Program} {w : World} {K : PySem.W.Frag} {mg : Str → Option Value} {base : Heap} {a : Nat → Addr} {d : Nat → FuncData} (T : Txt K mg a d) : FnOk P w K mg base CX0 2 (a 20) (d 20) ["_law_holds"] (spRight23 (a 23)) := by
  refine T.F_l_keys_right.ok sc_l_keys_right (fun vs H Q E h => ?_) (fun cdv A outer s0 H vs Q E hr h => ?_)
  · obtain ⟨x, U, S, A, s, rfl, hh, hi, q⟩ := h
    rfl
  · obtain ⟨x, U, S, A, s, rfl, hh, hi, q⟩ := h
    obtain ⟨dx, hx⟩ := hh.ins
    refine ⟨_, (pss_cons (ps_for PassesOwn.never rfl (pi_list (pe_lst (pa_cons pe_str (pa_cons pe_str (pa_cons pe_str (pa_cons pe_str pa_nil)))))) (pg_name (i := 1) sc_l_keys_right.nd rfl (.inr rfl)) (pss_cons (ps_setLc (i := 2) (own := [("_law_dealing", 3)]) (g := gName 3) (te := (tDGet (tMeth (a 23) "of" (spOf (a 23)) [] E0 (tVar 0) (tCons (tVar 3) tNil)) (tVar 1))) (tt := (tB (tDIn (tVar 1) (tMeth (a 23) "of" (spOf (a 23)) [] E0 (tVar 0) (tCons (tVar 3) tNil))))) (by rfl) sc_l_keys_right.nd rfl rfl (sw_true rfl rfl rfl (by decide +kernel)) (pi_range1 (by rfl) T.z_range (pa_cons pe_int pa_nil)) (blkOk_by (own := [("_law_dealing", 3)]) (N := ["_law_holds", "_law_key", "_law_modes", "_law_dealing"]) (sc := defScope s_l_keys_right) (by decide +kernel)) (fun _ _ _ _ _ => (pg_name (i := 3) sc_l_keys_right.nd rfl (.inl rfl))) (fun _ _ _ _ _ => (pts_one (pt_cmp (pc_din (hu_of hr) (pv 1) (pe_meth (pv 0) T.cl T.m_Holds_of (ok_Holds_of T) (hr.mono (by decide)) T.b_Holds_of .nil pass0 (pa_cons (pv 3) pa_nil)))))) (fun _ _ _ _ _ => (pe_dget (hu_of hr) (pe_meth (pv 0) T.cl T.m_Holds_of (ok_Holds_of T) (hr.mono (by decide)) T.b_Holds_of .nil pass0 (pa_cons (pv 3) pa_nil)) (pv 1) (fun _ _ => rfl)))) (pss_one (ps_if (PW.pt (pw_and (pt_cmpR op_in_seq pe_str (pv 2) (by rfl)) (pw_and1 (pt_cmpR op_gt (pe_callB call_len_seq (by rfl) T.z_len PySem.boot_len (pa_cons (pv 2) pa_nil)) pe_int (nomark _))))) (pss_one (ps_ret pe_bl)) pss_nil)))) (pss_one (ps_ret (pe_cmpR (op_eqD hr.units) (pe_lc (own := [("_law_dealing", 3)]) (g := gName 3) (te := (tVar 3)) (tt := (tTest (tOp rNeDE (tMeth (a 23) "of" (spOf (a 23)) [] E0 (tVar 0) (tCons (tVar 3) tNil)) tDNewK))) (by rfl) sc_l_keys_right.nd (pi_list (pe_meth0 (pv 0) T.cl T.m_Holds_called_off (ok_Holds_called_off T) (hr.mono (by decide)) T.b_Holds_called_off .nil pass0)) (blkOk_by (own := [("_law_dealing", 3)]) (N := ["_law_holds", "_law_key", "_law_modes", "_law_dealing"]) (sc := defScope s_l_keys_right) (by decide +kernel)) (fun _ _ _ _ _ => (pg_name (i := 3) sc_l_keys_right.nd rfl (.inl rfl))) (fun _ _ _ _ _ => (pts_one (pt_cmpR (op_ne_dE hr.units0) (pe_meth (pv 0) T.cl T.m_Holds_of (ok_Holds_of T) (hr.mono (by decide)) T.b_Holds_of .nil pass0 (pa_cons (pv 3) pa_nil)) pe_dnewK (nomark _)))) (fun _ _ _ _ _ => (pv 3))) (pe_lst pa_nil) (nomark _))))), ?_⟩
    refine ⟨by decide, fun pk npk => ?_⟩
    have sk : Same H (upd H pk (.lst [.str "a", .str "b", .str "c", .str "d"])) := same_new (Same.refl H) npk
    have hpk : (upd H pk (.lst [.str "a", .str "b", .str "c", .str "d"])) pk = some (.lst [.str "a", .str "b", .str "c", .str "d"]) := upd_same
    generalize (upd H pk (.lst [.str "a", .str "b", .str "c", .str "d"])) = H1 at sk hpk ⊢
    refine ⟨pk, rfl, ⟨_, SqL.of hpk⟩, ?_⟩
    refine for_list (K := K) (a := pk) (xs := [.str "a", .str "b", .str "c", .str "d"]) (fun j σ H' => (∃ v1 v2 v3 : Option V, σ = [some (.ref x), v1, v2, v3]) ∧ Same H1 H') ⟨⟨none, none, none, rfl⟩, Same.refl H1⟩ (fun j σ H' _ z => SqL.of (z.2 _ _ hpk)) ?_ ?_
    · rintro j kv σ H2 hj ⟨⟨v1, v2, v3, rfl⟩, s2⟩
      obtain ⟨k, rfl⟩ : ∃ k : Str, kv = .str k := by
        match j, hj with
        | 0, h => exact ⟨_, (Option.some.inj h).symm⟩
        | 1, h => exact ⟨_, (Option.some.inj h).symm⟩
        | 2, h => exact ⟨_, (Option.some.inj h).symm⟩
        | 3, h => exact ⟨_, (Option.some.inj h).symm⟩
        | n + 4, h => simp at h
      refine ⟨8, rfl, by decide, by decide, fun D nD => ?_⟩
      have hh2 := hh.same (sk.trans s2)
      have hx2 := s2 _ _ (sk _ _ hx)
      refine lc_range (lo := 0) (n := 8) (fun i H' => Same H2 H' ∧ H' D = some (.lst ((modes s k i).map V.str))) ⟨same_new (Same.refl H2) nD, upd_same⟩ ?_ ?_
      · rintro i H3 hi8 ⟨s3, hD⟩
        have hx3 := s3 _ _ hx2
        have hh3 := hh2.same s3
        have ei : (0 + (i : Int)) = (i : Int) := by omega
        rw [ei]
        refine ⟨rfl, _, rfl, _, rfl, x, dx, _, rfl, hx3, hf_no _ (by decide +kernel) (by decide +kernel) (by decide +kernel) (by decide +kernel) (by decide +kernel) (by decide +kernel), _, rfl, x, U, S, A, s, i, rfl, hh3, fun p ks H4 _ _ _ mem _ s4 hp => ⟨p, _, rfl, DGet.k (k := Sum.inr k) hp, _, rfl, ?_⟩⟩
        rw [ofKv_val mem]
        have hD4 := s4 _ _ hD
        cases e : s.held i k with
        | none =>
          refine iteF ⟨s3.trans s4, ?_⟩
          rw [modes_succ, e, List.append_nil]
          exact hD4
        | some m =>
          refine iteT ⟨_, rfl, x, dx, _, rfl, s4 _ _ hx3, hf_no _ (by decide +kernel) (by decide +kernel) (by decide +kernel) (by decide +kernel) (by decide +kernel) (by decide +kernel), _, rfl, x, U, S, A, s, i, rfl, hh3.same s4, fun p ks H5 _ _ _ mem _ s5 hp => ⟨_, rfl, p, .str m, rfl, .inl ⟨_, Sum.inr k, .inl hp, rfl, by rw [ofKv_val mem, e]; rfl⟩, ?_⟩⟩
          refine ⟨_, s5 _ _ hD4, ?_, fun b o z => ?_, ?_⟩
          · rw [List.length_map]
            have := modes_len s k i
            exact lt_line (by omega)
          · rw [upd_ne (ne_of_none z nD)]
            exact s5 _ _ (s4 _ _ (s3 _ _ z))
          · rw [upd_same, modes_succ, e, List.map_append]
            rfl
      · rintro H3 ⟨s3, hD⟩
        have nx : ∀ {v}, (∃ v1 v2 v3 : Option V, [some (V.ref x), some (.str k), v, none] = [some (.ref x), v1, v2, v3]) := ⟨_, _, _, rfl⟩
        refine ⟨_, rfl, D, _, rfl, .inl (SqL.of hD), rfl, all_flatS _, _, rfl, ?_⟩
        show if inV (.str "write") ((modes s k 8).map V.str) = true then _ else _
        rw [in_strs]
        by_cases c : ("write" : Str) ∈ modes s k 8
        · refine iteDT c ?_
          refine ⟨_, rfl, D, _, rfl, .inl (SqL.of hD), _, 1, rfl, rfl, _, rfl, iteDF ?_ ?_⟩
          · rw [List.length_map]
            have := hi.modes k 8 c
            omega
          · exact ⟨⟨_, _, _, rfl⟩, s2.trans s3⟩
        · refine iteDF c (iteF ?_)
          exact ⟨⟨_, _, _, rfl⟩, s2.trans s3⟩
    · rintro σ H2 ⟨⟨v1, v2, v3, rfl⟩, s2⟩
      have S2 := sk.trans s2
      have hx2 := S2 _ _ hx
      refine ⟨_, rfl, x, dx, _, rfl, hx2, hf_no _ (by decide +kernel) (by decide +kernel) (by decide +kernel) (by decide +kernel) (by decide +kernel) (by decide +kernel), x, U, S, A, s, rfl, hh.same S2, fun p l H3 isl _ np s3 hp => ?_⟩
      refine ⟨p, rfl, ⟨_, SqL.of hp⟩, fun D nD => ?_⟩
      have hx3 := s3 _ _ hx2
      have hh3 := (hh.same S2).same s3
      refine lc_it (walk_list (xs := l.map V.int)) (fun i H' => Same H3 H' ∧ H' D = some (.lst [])) ⟨same_new (Same.refl H3) nD, upd_same⟩ (fun i H' _ z => SqL.of (z.1 _ _ hp)) ?_ ?_
      · rintro i dv H4 H4' hi4 ⟨s4, hD⟩ ⟨rfl, hd⟩
        rw [List.getElem?_map] at hd
        obtain ⟨d, hd1, rfl⟩ := Option.map_eq_some_iff.mp hd
        have off := hi.of d ((isl.mem d).mp (List.mem_of_getElem? hd1))
        refine ⟨rfl, _, rfl, x, dx, _, rfl, s4 _ _ hx3, hf_no _ (by decide +kernel) (by decide +kernel) (by decide +kernel) (by decide +kernel) (by decide +kernel) (by decide +kernel), _, rfl, x, U, S, A, s, d, rfl, hh3.same s4, fun p2 ks H5 _ _ _ mem _ s5 hp2 e0 ne0 => ?_⟩
        have hks : ks = [] := by
          cases ks with
          | nil => rfl
          | cons y r =>
            have := (mem y).mp (List.mem_cons_self ..)
            rw [off.1] at this
            cases this
        subst hks
        have s6 : Same H5 (upd H5 e0 (.dK [])) := same_new (Same.refl H5) ne0
        refine ⟨p2, e0, _, rfl, rfl, s6 _ _ hp2, upd_same, _, rfl, iteF ⟨(s4.trans s5).trans s6, s6 _ _ (s5 _ _ hD)⟩⟩
      · rintro H4 ⟨s4, hD⟩
        refine ⟨Nat.zero_le _, fun pe npe => ?_⟩
        have se : Same H4 (upd H4 pe (.lst [])) := same_new (Same.refl H4) npe
        exact ⟨.list [], .list [], .lst (SqL.of (se _ _ hD)) .nil, .lst (SqL.of upd_same) .nil, rfl, rfl, q _ ((S2.trans s3).trans (s4.trans se))⟩

theorem ok_l_waits_right {P : Program} {w : World} {K : PySem.W.Frag} {mg : Str → Option Value} {base : Heap} {a : Nat → Addr} {d : Nat → FuncData} (T : Txt K mg a d) : FnOk P w K mg base CX0 4 (a 21) (d 21) ["_law_holds"] (spRight23 (a 23)) := by
  refine T.F_l_waits_right.ok sc_l_waits_right (fun vs H Q E h => ?_) (fun cdv A outer s0 H vs Q E hr h => ?_)
  · obtain ⟨x, U, S, A, s, rfl, hh, hi, q⟩ := h
    rfl
  · obtain ⟨x, U, S, A, s, rfl, hh, hi, q⟩ := h
    obtain ⟨dx, hx⟩ := hh.ins
    refine ⟨_, (pss_cons (ps_set (i := 1) sc_l_waits_right.nd rfl (Or.inr rfl) (pe_meth0 (pv 0) T.cl T.m_Holds_waiting (ok_Holds_waiting T) (hr.mono (by decide)) T.b_Holds_waiting .nil pass0)) (pss_cons (ps_set (i := 2) sc_l_waits_right.nd rfl (Or.inr rfl) (pe_meth0 (pv 0) T.cl T.m_Holds_pledged (ok_Holds_pledged T) (hr.mono (by decide)) T.b_Holds_pledged .nil pass0)) (pss_cons (ps_lock (ps_for PassesOwn.never rfl (pi_keys (pv 1)) (pg_name (i := 3) sc_l_waits_right.nd rfl (.inr rfl)) (pss_cons (ps_if (PW.pt (pw_or (pt_cmpR (op_eqD hr.units) (pe_dget (hu_of hr) (pv 1) (pv 3) (fun _ _ => rfl)) (pe_lst pa_nil) (nomark _)) (pw_or (pt_cmpR op_in_seq (pv 3) (pv 2) (by rfl)) (pw_or1 (pt_cmpR op_in_seq (pv 3) (pe_meth0 (pv 0) T.cl T.m_Holds_called_off (ok_Holds_called_off T) (hr.mono (by decide)) T.b_Holds_called_off .nil pass0) (by rfl)))))) (pss_one (ps_ret pe_bl)) pss_nil) (pss_cons (ps_if (pt_cmpR (op_neD hr.units) (pe_lc (own := [("_law_other", 5)]) (g := gName 5) (te := (tVar 5)) (tt := (tAnd (tTest (tOp (rI0 fun i j => .bl (decide (j ≤ i))) (tVar 5) (tVar 3))) (tTest (tOp (rIn K true) (tVar 5) (tVar 2))))) (by rfl) sc_l_waits_right.nd (pi_list (pe_dget (hu_of hr) (pv 1) (pv 3) (fun _ _ => rfl))) (blkOk_by (own := [("_law_other", 5)]) (N := ["_law_holds", "_law_some", "_law_fast", "_law_dealing", "_law_ends", "_law_other"]) (sc := defScope s_l_waits_right) (by decide +kernel)) (fun _ _ _ _ _ => (pg_name (i := 5) sc_l_waits_right.nd rfl (.inl rfl))) (fun _ _ _ _ _ => (pts_one (PW.pt (pw_and (pt_cmpR op_ge (pv 5) (pv 3) (nomark _)) (pw_and1 (pt_cmpR op_notIn_seq (pv 5) (pv 2) (by rfl))))))) (fun _ _ _ _ _ => (pv 5))) (pe_lst pa_nil) (nomark _)) (pss_one (ps_ret pe_bl)) pss_nil) (pss_one (ps_if (pt_cmpR (op_neD hr.units) (pe_lc (own := [("_law_other", 5)]) (g := gName 5) (te := (tVar 5)) (tt := (tTest (tOp rEqDE (tMeth (a 23) "of" (spOf (a 23)) [] E0 (tVar 0) (tCons (tVar 5) tNil)) tDNewK))) (by rfl) sc_l_waits_right.nd (pi_list (pe_dget (hu_of hr) (pv 1) (pv 3) (fun _ _ => rfl))) (blkOk_by (own := [("_law_other", 5)]) (N := ["_law_holds", "_law_some", "_law_fast", "_law_dealing", "_law_ends", "_law_other"]) (sc := defScope s_l_waits_right) (by decide +kernel)) (fun _ _ _ _ _ => (pg_name (i := 5) sc_l_waits_right.nd rfl (.inl rfl))) (fun _ _ _ _ _ => (pts_one (pt_cmpR (op_eq_dE hr.units0) (pe_meth (pv 0) T.cl T.m_Holds_of (ok_Holds_of T) (hr.mono (by decide)) T.b_Holds_of .nil pass0 (pa_cons (pv 5) pa_nil)) pe_dnewK (nomark _)))) (fun _ _ _ _ _ => (pv 5))) (pe_lst pa_nil) (nomark _)) (pss_one (ps_ret pe_bl)) pss_nil)))))) (pss_cons (ps_lock (ps_setLc (i := 4) (own := [("_law_dealing", 3)]) (g := gName 3) (te := (tVar 3)) (tt := (tTest (tOp (rEqD K) (tLc (iList K (tDGet (tVar 1) (tVar 3))) (gName 5) (tB (tDIn (tVar 5) (tVar 1))) (tVar 5) [5]) (tLst tNil)))) (by rfl) sc_l_waits_right.nd rfl rfl (sw_true rfl rfl rfl (by decide +kernel)) (pi_keys (pv 1)) (blkOk_by (own := [("_law_dealing", 3)]) (N := ["_law_holds", "_law_some", "_law_fast", "_law_dealing", "_law_ends", "_law_other"]) (sc := defScope s_l_waits_right) (by decide +kernel)) (fun _ _ _ _ _ => (pg_name (i := 3) sc_l_waits_right.nd rfl (.inl rfl))) (fun _ _ _ _ _ => (pts_one (pt_cmpR (op_eqD hr.units) (pe_lc (own := [("_law_other", 5)]) (g := gName 5) (te := (tVar 5)) (tt := (tB (tDIn (tVar 5) (tVar 1)))) (by rfl) sc_l_waits_right.nd (pi_list (pe_dget (hu_of hr) (pv 1) (pv 3) (fun _ _ => rfl))) (blkOk_by (own := [("_law_other", 5)]) (by rfl)) (fun _ _ _ _ _ => (pg_name (i := 5) sc_l_waits_right.nd rfl (.inl rfl))) (fun _ _ _ _ _ => (pts_one (pt_cmp (pc_din (hu_of hr) (pv 5) (pv 1))))) (fun _ _ _ _ _ => (pv 5))) (pe_lst pa_nil) (nomark _)))) (fun _ _ _ _ _ => (pv 3)))) (pss_one (ps_ret (pe_or (pe_cmpR (op_neD hr.units) (pv 4) (pe_lst pa_nil) (nomark _)) (pe_one (pe_cmpR op_eq (pe_callB call_lenD (by rfl) T.z_len PySem.boot_len (pa_cons (pv 1) pa_nil)) pe_int (nomark _)))))))))), ?_⟩
    refine ⟨_, rfl, x, dx, _, rfl, hx, hf_no _ (by decide +kernel) (by decide +kernel) (by decide +kernel) (by decide +kernel) (by decide +kernel) (by decide +kernel), x, U, S, A, s, rfl, hh, hi.wf, fun p ws H1 wl wn np s1 hp hw => ?_⟩
    refine ⟨_, rfl, x, dx, _, rfl, s1 _ _ hx, hf_no _ (by decide +kernel) (by decide +kernel) (by decide +kernel) (by decide +kernel) (by decide +kernel) (by decide +kernel), x, U, S, A, s, rfl, hh.same s1, fun pf lf H2 isf lfn npf s2 hpf => ?_⟩
    have S2 := s1.trans s2
    have hp2 : H2 p = some (.dK (kvW ws)) := s2 _ _ hp
    have hw2 : ∀ w ∈ ws, H2 w.2.1 = some (.lst (w.2.2.map V.int)) := fun w h => s2 _ _ (hw w h).2.1
    have hh2 := hh.same S2
    have nown : ¬ S p := hh.not_own np
    refine ⟨p, _, hp2, trivial, fun od => ?_⟩
    have hfz : (upd H2 p (.frz od (.dK (kvW ws)))) p = some (.frz od (.dK (kvW ws))) := upd_same
    have back : ∀ {b : Addr} {o : HO}, b ≠ p → H2 b = some o → (upd H2 p (.frz od (.dK (kvW ws)))) b = some o := fun n e => by rw [upd_ne n]; exact e
    have hwf : ∀ w ∈ ws, (upd H2 p (.frz od (.dK (kvW ws)))) w.2.1 = some (.lst (w.2.2.map V.int)) := fun w h => back (ne_of (hw2 w h) hp2 (by intro z; cases z)) (hw2 w h)
    have hpff := back (ne_of hpf hp2 (by intro z; cases z)) hpf
    have hhf : HoldsAt (a 23) U S (upd H2 p (.frz od (.dK (kvW ws)))) x A s := hh2.keep fun b o sb e => back (fun z => nown (z ▸ sb)) e
    have tail : ∀ H', Same (upd H2 p (.frz od (.dK (kvW ws)))) H' → Same H2 (upd H' p (.dK (kvW ws))) := fun H' s => lock_same hp2 s
    generalize (upd H2 p (.frz od (.dK (kvW ws)))) = Hf at hfz hwf hpff hhf tail ⊢
    obtain ⟨dxf, hxf⟩ := hhf.ins
    refine ⟨_, rfl, p, od, rfl, .inl ⟨_, hfz, ?_⟩⟩
    refine for_it walk_keys (fun j σ H' => (∃ v3 v4 v5 : Option V, σ = [some (.ref x), some (.ref p), some (.ref pf), v3, v4, v5]) ∧ Same Hf H') ⟨⟨none, none, none, rfl⟩, Same.refl Hf⟩ (fun i σ H' _ z => z.2 _ _ hfz) ?_ ?_
    · rintro i kx σ H3' H3 hi3 ⟨⟨v3, v4, v5, rfl⟩, s3⟩ ⟨rfl, key, v, hk, rfl⟩
      unfold kvW at hk
      rw [List.getElem?_map] at hk
      obtain ⟨⟨d, q0, os⟩, hwi, ew⟩ := Option.map_eq_some_iff.mp hk
      cases ew
      have hmem := List.mem_of_getElem? hwi
      have vd := kvW_val wl.nd hmem
      obtain ⟨k, m, hak, il, hne⟩ := wl.to _ hmem
      have hq3 := s3 _ _ (hwf _ hmem)
      have hz3 := s3 _ _ hfz
      have get : ∀ {H'}, Same Hf H' → DGet H' p (.int d) (some (.ref q0)) := fun s => .inl ⟨kvW ws, Sum.inl d, .inr ⟨od, s _ _ hfz⟩, rfl, vd.symm⟩
      show ∃ v, _
      refine ⟨_, rfl, _, rfl, p, .ref q0, rfl, get s3, Nat.zero_le _, fun pe npe => ?_⟩
      have se : Same H3 (upd H3 pe (.lst [])) := same_new (Same.refl H3) npe
      refine ⟨.list (os.map .int), .list [], .lst (SqL.of (se _ _ hq3)) (dpall_ints os), .lst (SqL.of upd_same) .nil, PySem.W.shaped_ints os, rfl, _, rfl, iteBF (by rw [eqv_nil]; cases os with | nil => exact absurd rfl hne | cons => rfl) ?_⟩
      have S4 := s3.trans se
      generalize (upd H3 pe (.lst [])) = H4 at se S4 ⊢
      have hpf4 := S4 _ _ hpff
      have dnf : ¬ d ∈ lf := fun z => by
        have y := hi.bd d ((isf.mem d).mp z)
        rw [hak] at y
        cases y
      refine ⟨_, rfl, _, rfl, pf, _, rfl, .inl (SqL.of hpf4), rfl, all_flat _, _, rfl, ?_⟩
      show if inV (.int d) (lf.map V.int) = true then _ else _
      rw [in_ints]
      refine iteDF dnf ?_
      refine ⟨_, rfl, _, rfl, x, dxf, _, rfl, S4 _ _ hxf, hf_no _ (by decide +kernel) (by decide +kernel) (by decide +kernel) (by decide +kernel) (by decide +kernel) (by decide +kernel), x, U, S, A, s, rfl, hhf.same S4, fun pc lc H5 isc _ npc s5 hpc => ⟨pc, _, rfl, .inl (SqL.of hpc), rfl, all_flat _, _, rfl, ?_⟩⟩
      show if inV (.int d) (lc.map V.int) = true then _ else _
      rw [in_ints]
      refine iteDF (fun z => by
        have y := (hi.of d ((isc.mem d).mp z)).2
        rw [hak] at y
        cases y) ?_
      have S5 := S4.trans s5
      have hq5 := S5 _ _ (hwf _ hmem)
      -- elder or pledged
      refine ⟨_, rfl, _, rfl, p, .ref q0, rfl, get S5, q0, rfl, ⟨_, SqL.of hq5⟩, fun D nD => ?_⟩
      refine lc_it (walk_list (xs := os.map V.int)) (fun i H' => Same H5 H' ∧ H' D = some (.lst [])) ⟨same_new (Same.refl H5) nD, upd_same⟩ (fun i H' _ z => SqL.of (z.1 _ _ hq5)) ?_ ?_
      · rintro i ov H6 H6' hi6 ⟨s6, hD⟩ ⟨rfl, ho⟩
        rw [List.getElem?_map] at ho
        obtain ⟨o, ho1, rfl⟩ := Option.map_eq_some_iff.mp ho
        have y := (il.mem o).mp (List.mem_of_getElem? ho1)
        rw [Bool.and_eq_true] at y
        refine ⟨rfl, _, rfl, _, rfl, o, d, rfl, rfl, _, rfl, ?_⟩
        by_cases c : d ≤ o
        · refine iteDT c ?_
          refine ⟨_, rfl, _, rfl, pf, _, rfl, .inl (SqL.of (s6 _ _ (S5 _ _ hpff))), rfl, all_flat _, _, rfl, ?_⟩
          show if (!inV (.int o) (lf.map V.int)) = true then _ else _
          rw [in_ints]
          refine iteNDF ((isf.mem o).mpr ?_) ⟨s6, hD⟩
          rcases hi.outl y.2 with b | b
          · exact b
          · omega
        · exact iteDF c (iteF ⟨s6, hD⟩)
      · rintro H6 ⟨s6, hD⟩
        refine ⟨Nat.zero_le _, fun pe npe => ?_⟩
        have se6 : Same H6 (upd H6 pe (.lst [])) := same_new (Same.refl H6) npe
        refine ⟨.list [], .list [], .lst (SqL.of (se6 _ _ hD)) .nil, .lst (SqL.of upd_same) .nil, rfl, rfl, _, rfl, iteF ?_⟩
        have S7 := (S5.trans s6).trans se6
        generalize (upd H6 pe (.lst [])) = H7 at S7 ⊢
        have hq7 := S7 _ _ (hwf _ hmem)
        refine ⟨_, rfl, _, rfl, p, .ref q0, rfl, get S7, q0, rfl, ⟨_, SqL.of hq7⟩, fun D2 nD2 => ?_⟩
        refine lc_it (walk_list (xs := os.map V.int)) (fun i H' => Same H7 H' ∧ H' D2 = some (.lst [])) ⟨same_new (Same.refl H7) nD2, upd_same⟩ (fun i H' _ z => SqL.of (z.1 _ _ hq7)) ?_ ?_
        · rintro i ov H8 H8' hi8 ⟨s8, hD8⟩ ⟨rfl, ho⟩
          rw [List.getElem?_map] at ho
          obtain ⟨o, ho1, rfl⟩ := Option.map_eq_some_iff.mp ho
          have y := (il.mem o).mp (List.mem_of_getElem? ho1)
          rw [Bool.and_eq_true] at y
          obtain ⟨n, hn, _⟩ := bar_held y.1
          have S8 := S7.trans s8
          refine ⟨rfl, _, rfl, x, dxf, _, rfl, S8 _ _ hxf, hf_no _ (by decide +kernel) (by decide +kernel) (by decide +kernel) (by decide +kernel) (by decide +kernel) (by decide +kernel), _, rfl, x, U, S, A, s, o, rfl, hhf.same S8, fun p2 ks H9 _ _ _ mem _ s9 hp9 e0 ne0 => ?_⟩
          have s10 : Same H9 (upd H9 e0 (.dK [])) := same_new (Same.refl H9) ne0
          refine ⟨p2, e0, _, rfl, rfl, s10 _ _ hp9, upd_same, _, rfl, iteBF ?_ ⟨(s8.trans s9).trans s10, s10 _ _ (s9 _ _ hD8)⟩⟩
          have hk2 : k ∈ ks := (mem k).mpr (by rw [hn]; rfl)
          cases ks with
          | nil => cases hk2
          | cons => rfl
        · rintro H8 ⟨s8, hD8⟩
          refine ⟨Nat.zero_le _, fun pe npe => ?_⟩
          have se8 : Same H8 (upd H8 pe (.lst [])) := same_new (Same.refl H8) npe
          refine ⟨.list [], .list [], .lst (SqL.of (se8 _ _ hD8)) .nil, .lst (SqL.of upd_same) .nil, rfl, rfl, _, rfl, iteF ?_⟩
          exact ⟨⟨_, _, _, rfl⟩, S7.trans (s8.trans se8)⟩
    · rintro σ H3 ⟨⟨v3, v4, v5, rfl⟩, s3⟩
      refine ⟨s3 _ _ hfz, ?_⟩
      have S3 := tail H3 s3
      have hp4 : (upd H3 p (.dK (kvW ws))) p = some (.dK (kvW ws)) := upd_same
      generalize (upd H3 p (.dK (kvW ws))) = H4 at S3 hp4 ⊢
      clear tail hhf hpff hwf hfz
      have hw4 : ∀ w ∈ ws, H4 w.2.1 = some (.lst (w.2.2.map V.int)) := fun w h => S3 _ _ (hw2 w h)
      refine ⟨p, _, hp4, trivial, fun od2 => ?_⟩
      have hfz : (upd H4 p (.frz od2 (.dK (kvW ws)))) p = some (.frz od2 (.dK (kvW ws))) := upd_same
      have hwf : ∀ w ∈ ws, (upd H4 p (.frz od2 (.dK (kvW ws)))) w.2.1 = some (.lst (w.2.2.map V.int)) := fun w h => by rw [upd_ne (ne_of (hw4 w h) hp4 (by intro z; cases z))]; exact hw4 w h
      have tail : ∀ H', Same (upd H4 p (.frz od2 (.dK (kvW ws)))) H' → Same H4 (upd H' p (.dK (kvW ws))) := fun H' s => lock_same hp4 s
      generalize (upd H4 p (.frz od2 (.dK (kvW ws)))) = Hg at hfz hwf tail ⊢
      refine ⟨_, rfl, p, od2, rfl, .inl ⟨_, hfz, fun D nD => ?_⟩⟩
      refine lc_it walk_keys (fun i H' => Same Hg H' ∧ H' D = some (.lst (((ws.take i).filter fun w => (w.2.2.filter fun o => decide (o ∈ ws.map (·.1))).isEmpty).map fun w => V.int w.1))) ⟨same_new (Same.refl Hg) nD, by rw [List.take_zero]; exact upd_same⟩ (fun i H' _ z => z.1 _ _ hfz) ?_ ?_
      · rintro i kx H5' H5 hi5 ⟨s5, hD⟩ ⟨rfl, key, v, hk, rfl⟩
        unfold kvW at hk
        rw [List.getElem?_map] at hk
        obtain ⟨⟨d, q0, os⟩, hwi, ew⟩ := Option.map_eq_some_iff.mp hk
        cases ew
        have hmem := List.mem_of_getElem? hwi
        have vd := kvW_val wl.nd hmem
        have hq5 := s5 _ _ (hwf _ hmem)
        have osl := (hw _ hmem).2.2
        refine ⟨rfl, _, rfl, _, rfl, p, .ref q0, rfl, .inl ⟨kvW ws, Sum.inl d, .inr ⟨od2, s5 _ _ hfz⟩, rfl, vd.symm⟩, q0, rfl, ⟨_, SqL.of hq5⟩, fun D2 nD2 => ?_⟩
        refine lc_it (walk_list (xs := os.map V.int)) (fun j H' => Same H5 H' ∧ H' D2 = some (.lst (((os.take j).filter fun o => decide (o ∈ ws.map (·.1))).map V.int))) ⟨same_new (Same.refl H5) nD2, by rw [List.take_zero]; exact upd_same⟩ (fun i H' _ z => SqL.of (z.1 _ _ hq5)) ?_ ?_
        · rintro j ov H6 H6' hj6 ⟨s6, hD6⟩ ⟨rfl, ho⟩
          rw [List.getElem?_map] at ho
          obtain ⟨o, ho1, rfl⟩ := Option.map_eq_some_iff.mp ho
          have nxt : (os.take (j + 1)).filter (fun o => decide (o ∈ ws.map (·.1))) = (os.take j).filter (fun o => decide (o ∈ ws.map (·.1))) ++ (if decide (o ∈ ws.map (·.1)) = true then [o] else []) := take_filter ho1
          refine ⟨rfl, _, rfl, _, rfl, p, _, rfl, .inl ⟨kvW ws, Sum.inl o, .inr ⟨od2, s6 _ _ (s5 _ _ hfz)⟩, rfl, rfl⟩, _, rfl, ?_⟩
          rw [kvW_has]
          by_cases c : o ∈ ws.map (·.1)
          · refine iteDT c ⟨_, rfl, _, hD6, ?_, fun b u e => ?_, ?_⟩
            · rw [List.length_map]
              exact lt_line (Nat.le_trans (List.length_filter_le ..) (Nat.le_trans (List.length_take_le' ..) osl))
            · rw [upd_ne (ne_of_none e nD2)]
              exact s6 _ _ e
            · rw [upd_same, nxt, if_pos (decide_eq_true c), List.map_append]
              rfl
          · refine iteDF c ⟨s6, ?_⟩
            rw [nxt, if_neg (by simpa using c), List.append_nil]
            exact hD6
        · rintro H6 ⟨s6, hD6⟩
          rw [List.length_map, List.take_length] at hD6
          refine ⟨Nat.zero_le _, fun pe npe => ?_⟩
          have se6 : Same H6 (upd H6 pe (.lst [])) := same_new (Same.refl H6) npe
          refine ⟨.list ((os.filter fun o => decide (o ∈ ws.map (·.1))).map .int), .list [], .lst (SqL.of (se6 _ _ hD6)) (dpall_ints _), .lst (SqL.of upd_same) .nil, PySem.W.shaped_ints _, rfl, _, rfl, ?_⟩
          rw [eqv_nil]
          have hD7 := se6 _ _ (s6 _ _ hD)
          have nxt : (ws.take (i + 1)).filter (fun w => (w.2.2.filter fun o => decide (o ∈ ws.map (·.1))).isEmpty) = (ws.take i).filter (fun w => (w.2.2.filter fun o => decide (o ∈ ws.map (·.1))).isEmpty) ++ (if (os.filter fun o => decide (o ∈ ws.map (·.1))).isEmpty = true then [(d, q0, os)] else []) := by
            rw [List.take_add_one, hwi, List.filter_append]
            congr 1
            show [(d, q0, os)].filter _ = _
            rw [List.filter_cons]
            rfl
          cases c : (os.filter fun o => decide (o ∈ ws.map (·.1))).isEmpty with
          | true =>
            refine iteT ⟨_, rfl, _, hD7, ?_, fun b u e => ?_, ?_⟩
            · rw [List.length_map]
              exact lt_line (Nat.le_trans (List.length_filter_le ..) (Nat.le_trans (List.length_take_le' ..) wn))
            · rw [upd_ne (ne_of_none e nD)]
              exact se6 _ _ (s6 _ _ (s5 _ _ e))
            · rw [upd_same, nxt, c, if_pos rfl, List.map_append]
              rfl
          | false =>
            refine iteF ⟨(s5.trans s6).trans se6, ?_⟩
            rw [nxt, c, if_neg (by decide), List.append_nil]
            exact hD7
      · rintro H5 ⟨s5, hD⟩
        have lk : (kvW ws).length = ws.length := by unfold kvW; rw [List.length_map]
        rw [lk, List.take_length] at hD
        refine ⟨s5 _ _ hfz, ?_⟩
        have S5 := tail H5 s5
        have nDp : D ≠ p := fun z => by rw [z, hfz] at nD; cases nD
        have hD6 : (upd H5 p (.dK (kvW ws))) D = some (.lst ((ws.filter fun w => (w.2.2.filter fun o => decide (o ∈ ws.map (·.1))).isEmpty).map fun w => V.int w.1)) := by rw [upd_ne nDp]; exact hD
        have hp6 : (upd H5 p (.dK (kvW ws))) p = some (.dK (kvW ws)) := upd_same
        generalize (upd H5 p (.dK (kvW ws))) = H6 at S5 hD6 hp6 ⊢
        refine ⟨_, rfl, Nat.zero_le _, fun pe npe => ?_⟩
        have se6 : Same H6 (upd H6 pe (.lst [])) := same_new (Same.refl H6) npe
        have em : ((ws.filter fun w => (w.2.2.filter fun o => decide (o ∈ ws.map (·.1))).isEmpty).map fun w => V.int w.1) = (((ws.filter fun w => (w.2.2.filter fun o => decide (o ∈ ws.map (·.1))).isEmpty).map (·.1)).map V.int) := by rw [List.map_map]; rfl
        rw [em] at hD6
        refine ⟨.list (((ws.filter fun w => (w.2.2.filter fun o => decide (o ∈ ws.map (·.1))).isEmpty).map (·.1)).map .int), .list [], .lst (SqL.of (se6 _ _ hD6)) (dpall_ints _), .lst (SqL.of upd_same) .nil, PySem.W.shaped_ints _, rfl, _, rfl, ?_⟩
        rw [eqv_nil]
        have SS := ((S2.trans S3).trans S5).trans se6
        by_cases c : ws = []
        · subst c
          refine iteF ⟨_, rfl, p, _, rfl, se6 _ _ hp6, rfl, ?_⟩
          exact q _ SS
        · have y := hi.ends wl c
          have z : (!((ws.filter fun w => (w.2.2.filter fun o => decide (o ∈ ws.map (·.1))).isEmpty).map (·.1)).isEmpty) = true := by
            cases e : (ws.filter fun w => (w.2.2.filter fun o => decide (o ∈ ws.map (·.1))).isEmpty) with
            | nil => exact absurd e y
            | cons => rfl
          exact iteBT z (q _ SS)

theorem ok_law {P : Program} {w : World} {K : PySem.W.Frag} {mg : Str → Option Value} {base : Heap} {a : Nat → Addr} {d : Nat → FuncData} (T : Txt K mg a d) : FnOk P w K mg base CX0 5 (a 22) (d 22) ["_law_script"] (spLaw K) := by
  refine T.F_law.ok sc_law (fun vs H Q E h => ?_) (fun cdv A outer s0 H vs Q E hr h => ?_)
  · obtain ⟨l, ns, rfl, hS, hl, q⟩ := h
    rfl
  · obtain ⟨l, ns, rfl, hS, hl, q⟩ := h
    refine ⟨_, (pss_cons (ps_set (i := 1) sc_law.nd rfl (Or.inl rfl) (pe_make0 T.m_Holds___init__ (ok_Holds___init__ T) (hr.mono (by decide)) (by rfl) T.g_Holds T.b_Holds___init__ .nil pass0)) (pss_cons (ps_for PassesOwn.never rfl (pi_range1 (by rfl) T.z_range (pa_cons (pe_callB (call_max2 rfl) (by rfl) T.z_max (by decide +kernel) (pa_cons pe_int (pa_cons (pe_callB (call_min2 rfl) (by rfl) T.z_min (by decide +kernel) (pa_cons (pe_callB call_len_seq (by rfl) T.z_len PySem.boot_len (pa_cons (pv 0) pa_nil)) (pa_cons pe_int pa_nil))) pa_nil))) pa_nil)) (pg_name (i := 2) sc_law.nd rfl (.inl rfl)) (pss_cons (ps_set (i := 3) sc_law.nd rfl (Or.inl rfl) (pe_call (ok_l_bag T) (hr.mono (by decide)) (by rfl) T.g_l_bag T.F_l_bag.kp T.b_l_bag .nil pass0 (pa_cons (pv 0) (pa_cons (pv 2) pa_nil)))) (pss_cons (ps_expr (pe_call (ok_l_step T) (hr.mono (by decide)) (by rfl) T.g_l_step T.F_l_step.kp T.b_l_step .nil pass0 (pa_cons (pv 3) (pa_cons (pv 1) pa_nil)))) (pss_one (ps_if (PW.pt (pw_or (pt_not (pt_truth (pe_call (ok_l_keys_right T) (hr.mono (by decide)) (by rfl) T.g_l_keys_right T.F_l_keys_right.kp T.b_l_keys_right .nil pass0 (pa_cons (pv 1) pa_nil)) (by intro _; rfl))) (pw_or1 (pt_not (pt_truth (pe_call (ok_l_waits_right T) (hr.mono (by decide)) (by rfl) T.g_l_waits_right T.F_l_waits_right.kp T.b_l_waits_right .nil pass0 (pa_cons (pv 1) pa_nil)) (by intro _; rfl)))))) (pss_one (ps_ret pe_bl)) pss_nil))))) (pss_one (ps_ret pe_bl)))), ?_⟩
    intro x dx nx ndx nex
    have sm : Same H (upd (upd H dx (.own x)) x (.ins (a 23) dx [])) := same_make nx ndx
    refine ⟨x, dx, rfl, upd_same, fun A H1 hU k1 => ⟨rfl, ?_⟩⟩
    obtain ⟨S, hh, hSx⟩ := hU U23 (by decide) (by decide)
    have S1 : Same H H1 := fun b o e => k1 b o (ne_of_none e nx) (sm b o e)
    have own1 : ∀ b, S b → H b = none := fun b z => by
      rcases hSx b z with rfl | y
      · exact nx
      · exact sm.free y
    refine ⟨_, rfl, l, _, rfl, .inl (S1.seq hS), _, 50, rfl, 1, _, rfl, _, rfl, ?_, ?_, ?_⟩
    · rw [List.length_map]; (repeat' split) <;> omega
    · rw [List.length_map]; (repeat' split) <;> omega
    have hN : (if (if (50 : Int) < ((ns.map V.int).length : Int) then (50 : Int) else ((ns.map V.int).length : Int)) > 1 then (if (50 : Int) < ((ns.map V.int).length : Int) then (50 : Int) else ((ns.map V.int).length : Int)) else (1 : Int)).toNat ≤ 63 := by
      rw [List.length_map]; (repeat' split) <;> omega
    refine for_range (fun i σ H' => (∃ v2 v3 : Option V, σ = [some (.ref l), some (.ref x), v2, v3]) ∧ Same H H' ∧ ∃ (S' : Addr → Prop) (s : HS), HoldsAt (a 23) U23 S' H' x A s ∧ In23 s ∧ ∀ b, S' b → H b = none) ⟨⟨none, none, rfl⟩, S1, S, _, hh, In23.new, own1⟩ ?_ ?_
    · rintro i σ H2 hi ⟨⟨v2, v3, rfl⟩, S2, S', s, hh2, in2, own2⟩
      refine ⟨_, rfl, _, rfl, l, ns, _, rfl, S2.seq hS, by omega, by omega, fun b H3 nb s3 b3 => ?_⟩
      refine ⟨_, rfl, _, rfl, b, x, S', A, s, rfl, b3, hh2.not_own nb, hh2.same s3, in2, fun s4 S4 H4 hh4 in4 ow4 fr4 => ?_⟩
      have fb : H b = none := S2.free nb
      have S4' : Same H H4 := fun c o e => fr4 c o (fun z => by
        have := own2 c z
        rw [e] at this
        cases this) (ne_of_none e fb) (s3 _ _ (S2 _ _ e))
      refine ⟨_, rfl, x, U23, S4, A, s4, rfl, hh4, in4, fun H5 s5 => ⟨true, rfl, iteF ?_⟩⟩
      refine ⟨_, rfl, x, U23, S4, A, s4, rfl, hh4.same s5, in4, fun H6 s6 => ⟨true, rfl, iteF ?_⟩⟩
      refine ⟨⟨_, _, rfl⟩, (S4'.trans s5).trans s6, S4, s4, (hh4.same s5).same s6, in4, fun c z => ?_⟩
      rcases ow4 c z with y | y
      · exact own2 c y
      · exact S2.free (s3.free y)
    · rintro σ H2 ⟨⟨v2, v3, rfl⟩, S2, S', s, hh2, in2, own2⟩
      exact q H2

theorem all_mk {l : PySem.W.OpenLaw} {w : World} {K : PySem.W.Frag} {h : Heap} {mg : Str → Option Value} {fa : Addr} {f0 f1 f2 f3 f4 f5 f6 f7 f8 f9 f10 f11 f12 f13 f14 f15 f16 f17 f18 f19 f20 f21 f22 : Addr} (X : K.In h) (G : h.Ns mainGlobals mg) (hfa : mg "law" = some (.ref fa))
    {od0 od1 od2 od3 od4 od5 od6 od7 od8 od9 od10 od11 od12 od13 od14 od15 od16 od17 od18 od19 od20 od21 od22 : Option Addr} {an0 an1 an2 an3 an4 an5 an6 an7 an8 an9 an10 an11 an12 an13 an14 an15 an16 an17 an18 an19 an20 an21 an22 : Option Addr} {sl0 sl1 sl2 sl3 sl4 sl5 sl6 sl7 sl8 sl9 sl10 sl11 sl12 sl13 sl14 sl15 sl16 sl17 sl18 sl19 sl20 sl21 sl22 : Array (Option Value)} {oc0 kV0 dc0 pm0 cd0 ct0 oc1 kV1 dc1 pm1 cd1 ct1 oc2 kV2 dc2 pm2 cd2 ct2 oc3 kV3 dc3 pm3 cd3 ct3 oc4 kV4 dc4 pm4 cd4 ct4 oc5 kV5 dc5 pm5 cd5 ct5 oc6 kV6 dc6 pm6 cd6 ct6 oc7 dc7 pm7 cd7 ct7 oc8 kV8 dc8 pm8 cd8 ct8 oc9 dc9 pm9 cd9 ct9 oc10 kV10 dc10 pm10 cd10 ct10 oc11 kV11 dc11 pm11 cd11 ct11 oc12 kV12 dc12 pm12 cd12 ct12 oc13 kV13 dc13 pm13 cd13 ct13 oc14 kV14 dc14 pm14 cd14 ct14 oc15 kV15 dc15 pm15 cd15 ct15 oc16 kV16 dc16 pm16 cd16 ct16 oc17 kV17 dc17 pm17 cd17 ct17 oc18 kV18 dc18 pm18 cd18 ct18 oc19 kV19 dc19 pm19 cd19 ct19 oc20 kV20 dc20 pm20 cd20 ct20 oc21 kV21 dc21 pm21 cd21 ct21 oc22 kV22 dc22 pm22 cd22 ct22 : Value}
    {fC : Addr}
    {t24 : Tok}
    {t25 : Tok}
    {t26 : Tok}
    (g24 : PySem.W.nsIn K mainGlobals "WRITE" = some (some (.str "write" t24)))
    (g25 : PySem.W.nsIn K mainGlobals "HELD" = some (some (.str "held" t25)))
    (g26 : PySem.W.nsIn K mainGlobals "WAITS" = some (some (.str "waits" t26)))
    (aC : PySem.W.nsIn K mainGlobals "Holds" = some (some (.ref fC))) (pg : PySem.W.plainGet K fC Str.empty = true) (hd : PySem.W.hasDictIn K fC = true) (po : PySem.W.plainOver K fC = true) (sa : PySem.W.findIn K (.ref fC) "__setattr__" = some (some (.builtin "object.__setattr__"))) (mk : PySem.W.makesIn K fC = true) (kc : PySem.W.keepIn K (.ref fC) = true)
    (nf_held : PySem.W.findIn K (.ref fC) "held" = some none)
    (nf_ages : PySem.W.findIn K (.ref fC) "ages" = some none)
    (nf_askings : PySem.W.findIn K (.ref fC) "askings" = some none)
    (nf_offs : PySem.W.findIn K (.ref fC) "offs" = some none)
    (nf_bound : PySem.W.findIn K (.ref fC) "bound" = some none)
    (nf_lent : PySem.W.findIn K (.ref fC) "lent" = some none)
    (a0 : PySem.W.nsIn K mainGlobals "bars" = some (some (.ref f0)))
    (l0 : K.lookup f0 = some ⟨oc0, od0, .func (PySem.W.fnOf "bars" "bars" (defArgs s_bars) (defBody s_bars) (defScope s_bars) .none kV0 dc0 pm0 an0 cd0 ct0), sl0⟩) (c0 : PySem.W.codeIn K cd0 "bars" = true) (k0 : PySem.W.keepIn K (.ref f0) = true)
    (a1 : PySem.W.nsIn K mainGlobals "is_enough" = some (some (.ref f1)))
    (l1 : K.lookup f1 = some ⟨oc1, od1, .func (PySem.W.fnOf "is_enough" "is_enough" (defArgs s_is_enough) (defBody s_is_enough) (defScope s_is_enough) .none kV1 dc1 pm1 an1 cd1 ct1), sl1⟩) (c1 : PySem.W.codeIn K cd1 "is_enough" = true) (k1 : PySem.W.keepIn K (.ref f1) = true)
    (a2 : PySem.W.findIn K (.ref fC) "__init__" = some (some (.ref f2))) (i2 : PySem.W.isFn K (.ref f2) = true)
    (l2 : K.lookup f2 = some ⟨oc2, od2, .func (PySem.W.fnOf "__init__" "Holds.__init__" (defArgs s_Holds___init__) (defBody s_Holds___init__) (defScope s_Holds___init__) .none kV2 dc2 pm2 an2 cd2 ct2), sl2⟩) (c2 : PySem.W.codeIn K cd2 "Holds.__init__" = true) (k2 : PySem.W.keepIn K (.ref f2) = true)
    (a3 : PySem.W.findIn K (.ref fC) "wait_no_more" = some (some (.ref f3))) (i3 : PySem.W.isFn K (.ref f3) = true)
    (l3 : K.lookup f3 = some ⟨oc3, od3, .func (PySem.W.fnOf "wait_no_more" "Holds.wait_no_more" (defArgs s_Holds_wait_no_more) (defBody s_Holds_wait_no_more) (defScope s_Holds_wait_no_more) .none kV3 dc3 pm3 an3 cd3 ct3), sl3⟩) (c3 : PySem.W.codeIn K cd3 "Holds.wait_no_more" = true) (k3 : PySem.W.keepIn K (.ref f3) = true)
    (a4 : PySem.W.findIn K (.ref fC) "call_off" = some (some (.ref f4))) (i4 : PySem.W.isFn K (.ref f4) = true)
    (l4 : K.lookup f4 = some ⟨oc4, od4, .func (PySem.W.fnOf "call_off" "Holds.call_off" (defArgs s_Holds_call_off) (defBody s_Holds_call_off) (defScope s_Holds_call_off) .none kV4 dc4 pm4 an4 cd4 ct4), sl4⟩) (c4 : PySem.W.codeIn K cd4 "Holds.call_off" = true) (k4 : PySem.W.keepIn K (.ref f4) = true)
    (a5 : PySem.W.findIn K (.ref fC) "outlasts" = some (some (.ref f5))) (i5 : PySem.W.isFn K (.ref f5) = true)
    (l5 : K.lookup f5 = some ⟨oc5, od5, .func (PySem.W.fnOf "outlasts" "Holds.outlasts" (defArgs s_Holds_outlasts) (defBody s_Holds_outlasts) (defScope s_Holds_outlasts) .none kV5 dc5 pm5 an5 cd5 ct5), sl5⟩) (c5 : PySem.W.codeIn K cd5 "Holds.outlasts" = true) (k5 : PySem.W.keepIn K (.ref f5) = true)
    (a6 : PySem.W.findIn K (.ref fC) "barring" = some (some (.ref f6))) (i6 : PySem.W.isFn K (.ref f6) = true)
    (l6 : K.lookup f6 = some ⟨oc6, od6, .func (PySem.W.fnOf "barring" "Holds.barring" (defArgs s_Holds_barring) (defBody s_Holds_barring) (defScope s_Holds_barring) .none kV6 dc6 pm6 an6 cd6 ct6), sl6⟩) (c6 : PySem.W.codeIn K cd6 "Holds.barring" = true) (k6 : PySem.W.keepIn K (.ref f6) = true)
    (a7 : PySem.W.findIn K (.ref fC) "ask" = some (some (.ref f7))) (i7 : PySem.W.isFn K (.ref f7) = true)
    {DK7 : Addr}
    (l7 : K.lookup f7 = some ⟨oc7, od7, .func (PySem.W.fnOf "ask" "Holds.ask" (defArgs s_Holds_ask) (defBody s_Holds_ask) (defScope s_Holds_ask) .none (.ref DK7) dc7 pm7 an7 cd7 ct7), sl7⟩) (c7 : PySem.W.codeIn K cd7 "Holds.ask" = true) (k7 : PySem.W.keepIn K (.ref f7) = true)
    (lK7_age : PySem.W.nsIn K DK7 "age" = some (some (.none)))
    (a8 : PySem.W.findIn K (.ref fC) "pledge" = some (some (.ref f8))) (i8 : PySem.W.isFn K (.ref f8) = true)
    (l8 : K.lookup f8 = some ⟨oc8, od8, .func (PySem.W.fnOf "pledge" "Holds.pledge" (defArgs s_Holds_pledge) (defBody s_Holds_pledge) (defScope s_Holds_pledge) .none kV8 dc8 pm8 an8 cd8 ct8), sl8⟩) (c8 : PySem.W.codeIn K cd8 "Holds.pledge" = true) (k8 : PySem.W.keepIn K (.ref f8) = true)
    (a9 : PySem.W.findIn K (.ref fC) "free" = some (some (.ref f9))) (i9 : PySem.W.isFn K (.ref f9) = true)
    {DK9 : Addr}
    (l9 : K.lookup f9 = some ⟨oc9, od9, .func (PySem.W.fnOf "free" "Holds.free" (defArgs s_Holds_free) (defBody s_Holds_free) (defScope s_Holds_free) .none (.ref DK9) dc9 pm9 an9 cd9 ct9), sl9⟩) (c9 : PySem.W.codeIn K cd9 "Holds.free" = true) (k9 : PySem.W.keepIn K (.ref f9) = true)
    (lK9_forget : PySem.W.nsIn K DK9 "forget" = some (some (.bool false)))
    (a10 : PySem.W.findIn K (.ref fC) "of" = some (some (.ref f10))) (i10 : PySem.W.isFn K (.ref f10) = true)
    (l10 : K.lookup f10 = some ⟨oc10, od10, .func (PySem.W.fnOf "of" "Holds.of" (defArgs s_Holds_of) (defBody s_Holds_of) (defScope s_Holds_of) .none kV10 dc10 pm10 an10 cd10 ct10), sl10⟩) (c10 : PySem.W.codeIn K cd10 "Holds.of" = true) (k10 : PySem.W.keepIn K (.ref f10) = true)
    (a11 : PySem.W.findIn K (.ref fC) "waiting" = some (some (.ref f11))) (i11 : PySem.W.isFn K (.ref f11) = true)
    (l11 : K.lookup f11 = some ⟨oc11, od11, .func (PySem.W.fnOf "waiting" "Holds.waiting" (defArgs s_Holds_waiting) (defBody s_Holds_waiting) (defScope s_Holds_waiting) .none kV11 dc11 pm11 an11 cd11 ct11), sl11⟩) (c11 : PySem.W.codeIn K cd11 "Holds.waiting" = true) (k11 : PySem.W.keepIn K (.ref f11) = true)
    (a12 : PySem.W.findIn K (.ref fC) "called_off" = some (some (.ref f12))) (i12 : PySem.W.isFn K (.ref f12) = true)
    (l12 : K.lookup f12 = some ⟨oc12, od12, .func (PySem.W.fnOf "called_off" "Holds.called_off" (defArgs s_Holds_called_off) (defBody s_Holds_called_off) (defScope s_Holds_called_off) .none kV12 dc12 pm12 an12 cd12 ct12), sl12⟩) (c12 : PySem.W.codeIn K cd12 "Holds.called_off" = true) (k12 : PySem.W.keepIn K (.ref f12) = true)
    (a13 : PySem.W.findIn K (.ref fC) "pledged" = some (some (.ref f13))) (i13 : PySem.W.isFn K (.ref f13) = true)
    (l13 : K.lookup f13 = some ⟨oc13, od13, .func (PySem.W.fnOf "pledged" "Holds.pledged" (defArgs s_Holds_pledged) (defBody s_Holds_pledged) (defScope s_Holds_pledged) .none kV13 dc13 pm13 an13 cd13 ct13), sl13⟩) (c13 : PySem.W.codeIn K cd13 "Holds.pledged" = true) (k13 : PySem.W.keepIn K (.ref f13) = true)
    (a14 : PySem.W.findIn K (.ref fC) "make_own" = some (some (.ref f14))) (i14 : PySem.W.isFn K (.ref f14) = true)
    (l14 : K.lookup f14 = some ⟨oc14, od14, .func (PySem.W.fnOf "make_own" "Holds.make_own" (defArgs s_Holds_make_own) (defBody s_Holds_make_own) (defScope s_Holds_make_own) .none kV14 dc14 pm14 an14 cd14 ct14), sl14⟩) (c14 : PySem.W.codeIn K cd14 "Holds.make_own" = true) (k14 : PySem.W.keepIn K (.ref f14) = true)
    (a15 : PySem.W.findIn K (.ref fC) "way_of" = some (some (.ref f15))) (i15 : PySem.W.isFn K (.ref f15) = true)
    (l15 : K.lookup f15 = some ⟨oc15, od15, .func (PySem.W.fnOf "way_of" "Holds.way_of" (defArgs s_Holds_way_of) (defBody s_Holds_way_of) (defScope s_Holds_way_of) .none kV15 dc15 pm15 an15 cd15 ct15), sl15⟩) (c15 : PySem.W.codeIn K cd15 "Holds.way_of" = true) (k15 : PySem.W.keepIn K (.ref f15) = true)
    (a16 : PySem.W.findIn K (.ref fC) "hold_so" = some (some (.ref f16))) (i16 : PySem.W.isFn K (.ref f16) = true)
    (l16 : K.lookup f16 = some ⟨oc16, od16, .func (PySem.W.fnOf "hold_so" "Holds.hold_so" (defArgs s_Holds_hold_so) (defBody s_Holds_hold_so) (defScope s_Holds_hold_so) .none kV16 dc16 pm16 an16 cd16 ct16), sl16⟩) (c16 : PySem.W.codeIn K cd16 "Holds.hold_so" = true) (k16 : PySem.W.keepIn K (.ref f16) = true)
    (a17 : PySem.W.nsIn K mainGlobals "_law_bag" = some (some (.ref f17)))
    (l17 : K.lookup f17 = some ⟨oc17, od17, .func (PySem.W.fnOf "_law_bag" "_law_bag" (defArgs s_l_bag) (defBody s_l_bag) (defScope s_l_bag) .none kV17 dc17 pm17 an17 cd17 ct17), sl17⟩) (c17 : PySem.W.codeIn K cd17 "_law_bag" = true) (k17 : PySem.W.keepIn K (.ref f17) = true)
    (a18 : PySem.W.nsIn K mainGlobals "_law_out" = some (some (.ref f18)))
    (l18 : K.lookup f18 = some ⟨oc18, od18, .func (PySem.W.fnOf "_law_out" "_law_out" (defArgs s_l_out) (defBody s_l_out) (defScope s_l_out) .none kV18 dc18 pm18 an18 cd18 ct18), sl18⟩) (c18 : PySem.W.codeIn K cd18 "_law_out" = true) (k18 : PySem.W.keepIn K (.ref f18) = true)
    (a19 : PySem.W.nsIn K mainGlobals "_law_step" = some (some (.ref f19)))
    (l19 : K.lookup f19 = some ⟨oc19, od19, .func (PySem.W.fnOf "_law_step" "_law_step" (defArgs s_l_step) (defBody s_l_step) (defScope s_l_step) .none kV19 dc19 pm19 an19 cd19 ct19), sl19⟩) (c19 : PySem.W.codeIn K cd19 "_law_step" = true) (k19 : PySem.W.keepIn K (.ref f19) = true)
    (a20 : PySem.W.nsIn K mainGlobals "_law_keys_right" = some (some (.ref f20)))
    (l20 : K.lookup f20 = some ⟨oc20, od20, .func (PySem.W.fnOf "_law_keys_right" "_law_keys_right" (defArgs s_l_keys_right) (defBody s_l_keys_right) (defScope s_l_keys_right) .none kV20 dc20 pm20 an20 cd20 ct20), sl20⟩) (c20 : PySem.W.codeIn K cd20 "_law_keys_right" = true) (k20 : PySem.W.keepIn K (.ref f20) = true)
    (a21 : PySem.W.nsIn K mainGlobals "_law_waits_right" = some (some (.ref f21)))
    (l21 : K.lookup f21 = some ⟨oc21, od21, .func (PySem.W.fnOf "_law_waits_right" "_law_waits_right" (defArgs s_l_waits_right) (defBody s_l_waits_right) (defScope s_l_waits_right) .none kV21 dc21 pm21 an21 cd21 ct21), sl21⟩) (c21 : PySem.W.codeIn K cd21 "_law_waits_right" = true) (k21 : PySem.W.keepIn K (.ref f21) = true)
    (a22 : PySem.W.nsIn K mainGlobals "law" = some (some (.ref f22)))
    (l22 : K.lookup f22 = some ⟨oc22, od22, .func (PySem.W.fnOf "law" "law" (defArgs s_law) (defBody s_law) (defScope s_law) .none kV22 dc22 pm22 an22 cd22 ct22), sl22⟩) (c22 : PySem.W.codeIn K cd22 "law" = true) (k22 : PySem.W.keepIn K (.ref f22) = true)
    (z_max : PySem.W.nsIn K mainGlobals "max" = some none)
    (z_min : PySem.W.nsIn K mainGlobals "min" = some none)
    (z_len : PySem.W.nsIn K mainGlobals "len" = some none)
    (z_range : PySem.W.nsIn K mainGlobals "range" = some none)
    (z_sorted : PySem.W.nsIn K mainGlobals "sorted" = some none)
    (z_list : PySem.W.nsIn K mainGlobals "list" = some none)
    (z_dict : PySem.W.nsIn K mainGlobals "dict" = some none)
    : ∃ fd : FuncData, (∀ (s : Shared) (v : Value), BindsTo s fd ⟨[v], []⟩ [("_law_script", v)]) ∧ ∀ base : Heap, K.In base → base.Ns mainGlobals mg → FnOk l.prog w K mg base CX0 5 fa fd ["_law_script"] (spLaw K) := by
  have e := hfa.symm.trans (PySem.W.mg_of X G a22)
  cases e
  have F0 := fun_mk (st := s_bars) l0 c0 k0
  have b0 := F0.binds (ps := ["mode", "other_mode"]) fun _ _ _ _ _ _ us hl => match us, hl with | [_, _], _ => rfl
  have F1 := fun_mk (st := s_is_enough) l1 c1 k1
  have b1 := F1.binds (ps := ["has", "mode"]) fun _ _ _ _ _ _ us hl => match us, hl with | [_, _], _ => rfl
  have F2 := fun_mk (st := s_Holds___init__) l2 c2 k2
  have b2 := F2.binds (ps := ["self"]) fun _ _ _ _ _ _ us hl => match us, hl with | [_], _ => rfl
  have F3 := fun_mk (st := s_Holds_wait_no_more) l3 c3 k3
  have b3 := F3.binds (ps := ["self", "dealing"]) fun _ _ _ _ _ _ us hl => match us, hl with | [_, _], _ => rfl
  have F4 := fun_mk (st := s_Holds_call_off) l4 c4 k4
  have b4 := F4.binds (ps := ["self", "dealing"]) fun _ _ _ _ _ _ us hl => match us, hl with | [_, _], _ => rfl
  have F5 := fun_mk (st := s_Holds_outlasts) l5 c5 k5
  have b5 := F5.binds (ps := ["self", "other", "dealing"]) fun _ _ _ _ _ _ us hl => match us, hl with | [_, _, _], _ => rfl
  have F6 := fun_mk (st := s_Holds_barring) l6 c6 k6
  have b6 := F6.binds (ps := ["self", "dealing", "key", "mode"]) fun _ _ _ _ _ _ us hl => match us, hl with | [_, _, _, _], _ => rfl
  have F7 : FunD K "ask" "Holds.ask" (defArgs s_Holds_ask) (defBody s_Holds_ask) (defScope s_Holds_ask) [] [("age", .non)] f7 (PySem.W.fnOf "ask" "Holds.ask" (defArgs s_Holds_ask) (defBody s_Holds_ask) (defScope s_Holds_ask) .none (.ref DK7) dc7 pm7 an7 cd7 ct7) := ⟨⟨_, _, _, _, _, _, _, _, _, _, rfl, l7, c7, .inl ⟨rfl, rfl⟩, .inr ⟨_, rfl, fun q hq => by cases List.mem_singleton.mp hq; exact ⟨_, lK7_age, rfl⟩⟩⟩, k7⟩
  have c'7 : ∃ ds, Vals [.non] ds ∧ Binds K (PySem.W.fnOf "ask" "Holds.ask" (defArgs s_Holds_ask) (defBody s_Holds_ask) (defScope s_Holds_ask) .none (.ref DK7) dc7 pm7 an7 cd7 ct7) ["self", "dealing", "key", "mode", "age"] ds := F7.binds0 (ps := ["self", "dealing", "key", "mode", "age"]) 4 (by simp) rfl (fun D doc pm an cdv ct us ks hu hk => match us, hu, ks, hk with | [_, _, _, _], _, [_], _ => ⟨_, _, _, _, _, _, rfl, rfl, rfl⟩)
  have k'7 : ∃ mv : List Value, KBn K (PySem.W.fnOf "ask" "Holds.ask" (defArgs s_Holds_ask) (defBody s_Holds_ask) (defScope s_Holds_ask) .none (.ref DK7) dc7 pm7 an7 cd7 ct7) ["self", "dealing", "key", "mode", "age"] 4 ["age"] (fun us ws => us ++ (mv ++ ws)) (fun vs zs => vs ++ ([] ++ zs)) := F7.kbinds0 (ps := ["self", "dealing", "key", "mode", "age"]) 4 ["age"] [] (fun us mv ws => us ++ (mv ++ ws)) (by simp) (fun q hq => by cases hq) (fun h1 h2 h3 => h1.append (h2.append h3)) (fun D doc pm an cdv ct us mv ws hu hm hw => match us, hu, mv, hm, ws, hw with | [_, _, _, _], _, [], _, [_], _ => rfl)
  have F8 := fun_mk (st := s_Holds_pledge) l8 c8 k8
  have b8 := F8.binds (ps := ["self", "dealing"]) fun _ _ _ _ _ _ us hl => match us, hl with | [_, _], _ => rfl
  have F9 : FunD K "free" "Holds.free" (defArgs s_Holds_free) (defBody s_Holds_free) (defScope s_Holds_free) [] [("forget", .bl false)] f9 (PySem.W.fnOf "free" "Holds.free" (defArgs s_Holds_free) (defBody s_Holds_free) (defScope s_Holds_free) .none (.ref DK9) dc9 pm9 an9 cd9 ct9) := ⟨⟨_, _, _, _, _, _, _, _, _, _, rfl, l9, c9, .inl ⟨rfl, rfl⟩, .inr ⟨_, rfl, fun q hq => by cases List.mem_singleton.mp hq; exact ⟨_, lK9_forget, rfl⟩⟩⟩, k9⟩
  have c'9 : ∃ ds, Vals [.bl false] ds ∧ Binds K (PySem.W.fnOf "free" "Holds.free" (defArgs s_Holds_free) (defBody s_Holds_free) (defScope s_Holds_free) .none (.ref DK9) dc9 pm9 an9 cd9 ct9) ["self", "dealing", "forget"] ds := F9.binds0 (ps := ["self", "dealing", "forget"]) 2 (by simp) rfl (fun D doc pm an cdv ct us ks hu hk => match us, hu, ks, hk with | [_, _], _, [_], _ => ⟨_, _, _, _, _, _, rfl, rfl, rfl⟩)
  have k'9 : ∃ mv : List Value, KBn K (PySem.W.fnOf "free" "Holds.free" (defArgs s_Holds_free) (defBody s_Holds_free) (defScope s_Holds_free) .none (.ref DK9) dc9 pm9 an9 cd9 ct9) ["self", "dealing", "forget"] 2 ["forget"] (fun us ws => us ++ (mv ++ ws)) (fun vs zs => vs ++ ([] ++ zs)) := F9.kbinds0 (ps := ["self", "dealing", "forget"]) 2 ["forget"] [] (fun us mv ws => us ++ (mv ++ ws)) (by simp) (fun q hq => by cases hq) (fun h1 h2 h3 => h1.append (h2.append h3)) (fun D doc pm an cdv ct us mv ws hu hm hw => match us, hu, mv, hm, ws, hw with | [_, _], _, [], _, [_], _ => rfl)
  have F10 := fun_mk (st := s_Holds_of) l10 c10 k10
  have b10 := F10.binds (ps := ["self", "dealing"]) fun _ _ _ _ _ _ us hl => match us, hl with | [_, _], _ => rfl
  have F11 := fun_mk (st := s_Holds_waiting) l11 c11 k11
  have b11 := F11.binds (ps := ["self"]) fun _ _ _ _ _ _ us hl => match us, hl with | [_], _ => rfl
  have F12 := fun_mk (st := s_Holds_called_off) l12 c12 k12
  have b12 := F12.binds (ps := ["self"]) fun _ _ _ _ _ _ us hl => match us, hl with | [_], _ => rfl
  have F13 := fun_mk (st := s_Holds_pledged) l13 c13 k13
  have b13 := F13.binds (ps := ["self"]) fun _ _ _ _ _ _ us hl => match us, hl with | [_], _ => rfl
  have F14 := fun_mk (st := s_Holds_make_own) l14 c14 k14
  have b14 := F14.binds (ps := ["self"]) fun _ _ _ _ _ _ us hl => match us, hl with | [_], _ => rfl
  have F15 := fun_mk (st := s_Holds_way_of) l15 c15 k15
  have b15 := F15.binds (ps := ["self", "dealing", "key"]) fun _ _ _ _ _ _ us hl => match us, hl with | [_, _, _], _ => rfl
  have F16 := fun_mk (st := s_Holds_hold_so) l16 c16 k16
  have b16 := F16.binds (ps := ["self", "dealing", "key", "mode"]) fun _ _ _ _ _ _ us hl => match us, hl with | [_, _, _, _], _ => rfl
  have F17 := fun_mk (st := s_l_bag) l17 c17 k17
  have b17 := F17.binds (ps := ["_law_script", "_law_k"]) fun _ _ _ _ _ _ us hl => match us, hl with | [_, _], _ => rfl
  have F18 := fun_mk (st := s_l_out) l18 c18 k18
  have b18 := F18.binds (ps := ["_law_bag_here", "_law_many"]) fun _ _ _ _ _ _ us hl => match us, hl with | [_, _], _ => rfl
  have F19 := fun_mk (st := s_l_step) l19 c19 k19
  have b19 := F19.binds (ps := ["_law_bag_here", "_law_holds"]) fun _ _ _ _ _ _ us hl => match us, hl with | [_, _], _ => rfl
  have F20 := fun_mk (st := s_l_keys_right) l20 c20 k20
  have b20 := F20.binds (ps := ["_law_holds"]) fun _ _ _ _ _ _ us hl => match us, hl with | [_], _ => rfl
  have F21 := fun_mk (st := s_l_waits_right) l21 c21 k21
  have b21 := F21.binds (ps := ["_law_holds"]) fun _ _ _ _ _ _ us hl => match us, hl with | [_], _ => rfl
  have F22 := fun_mk (st := s_law) l22 c22 k22
  have b22 := F22.binds (ps := ["_law_script"]) fun _ _ _ _ _ _ us hl => match us, hl with | [_], _ => rfl
  let a : Nat → Addr := fun i => match i with | 0 => f0 | 1 => f1 | 2 => f2 | 3 => f3 | 4 => f4 | 5 => f5 | 6 => f6 | 7 => f7 | 8 => f8 | 9 => f9 | 10 => f10 | 11 => f11 | 12 => f12 | 13 => f13 | 14 => f14 | 15 => f15 | 16 => f16 | 17 => f17 | 18 => f18 | 19 => f19 | 20 => f20 | 21 => f21 | 22 => fa | 23 => fC | _ => 0
  let d : Nat → FuncData := fun i => match i with | 0 => (PySem.W.fnOf "bars" "bars" (defArgs s_bars) (defBody s_bars) (defScope s_bars) .none kV0 dc0 pm0 an0 cd0 ct0) | 1 => (PySem.W.fnOf "is_enough" "is_enough" (defArgs s_is_enough) (defBody s_is_enough) (defScope s_is_enough) .none kV1 dc1 pm1 an1 cd1 ct1) | 2 => (PySem.W.fnOf "__init__" "Holds.__init__" (defArgs s_Holds___init__) (defBody s_Holds___init__) (defScope s_Holds___init__) .none kV2 dc2 pm2 an2 cd2 ct2) | 3 => (PySem.W.fnOf "wait_no_more" "Holds.wait_no_more" (defArgs s_Holds_wait_no_more) (defBody s_Holds_wait_no_more) (defScope s_Holds_wait_no_more) .none kV3 dc3 pm3 an3 cd3 ct3) | 4 => (PySem.W.fnOf "call_off" "Holds.call_off" (defArgs s_Holds_call_off) (defBody s_Holds_call_off) (defScope s_Holds_call_off) .none kV4 dc4 pm4 an4 cd4 ct4) | 5 => (PySem.W.fnOf "outlasts" "Holds.outlasts" (defArgs s_Holds_outlasts) (defBody s_Holds_outlasts) (defScope s_Holds_outlasts) .none kV5 dc5 pm5 an5 cd5 ct5) | 6 => (PySem.W.fnOf "barring" "Holds.barring" (defArgs s_Holds_barring) (defBody s_Holds_barring) (defScope s_Holds_barring) .none kV6 dc6 pm6 an6 cd6 ct6) | 7 => (PySem.W.fnOf "ask" "Holds.ask" (defArgs s_Holds_ask) (defBody s_Holds_ask) (defScope s_Holds_ask) .none (.ref DK7) dc7 pm7 an7 cd7 ct7) | 8 => (PySem.W.fnOf "pledge" "Holds.pledge" (defArgs s_Holds_pledge) (defBody s_Holds_pledge) (defScope s_Holds_pledge) .none kV8 dc8 pm8 an8 cd8 ct8) | 9 => (PySem.W.fnOf "free" "Holds.free" (defArgs s_Holds_free) (defBody s_Holds_free) (defScope s_Holds_free) .none (.ref DK9) dc9 pm9 an9 cd9 ct9) | 10 => (PySem.W.fnOf "of" "Holds.of" (defArgs s_Holds_of) (defBody s_Holds_of) (defScope s_Holds_of) .none kV10 dc10 pm10 an10 cd10 ct10) | 11 => (PySem.W.fnOf "waiting" "Holds.waiting" (defArgs s_Holds_waiting) (defBody s_Holds_waiting) (defScope s_Holds_waiting) .none kV11 dc11 pm11 an11 cd11 ct11) | 12 => (PySem.W.fnOf "called_off" "Holds.called_off" (defArgs s_Holds_called_off) (defBody s_Holds_called_off) (defScope s_Holds_called_off) .none kV12 dc12 pm12 an12 cd12 ct12) | 13 => (PySem.W.fnOf "pledged" "Holds.pledged" (defArgs s_Holds_pledged) (defBody s_Holds_pledged) (defScope s_Holds_pledged) .none kV13 dc13 pm13 an13 cd13 ct13) | 14 => (PySem.W.fnOf "make_own" "Holds.make_own" (defArgs s_Holds_make_own) (defBody s_Holds_make_own) (defScope s_Holds_make_own) .none kV14 dc14 pm14 an14 cd14 ct14) | 15 => (PySem.W.fnOf "way_of" "Holds.way_of" (defArgs s_Holds_way_of) (defBody s_Holds_way_of) (defScope s_Holds_way_of) .none kV15 dc15 pm15 an15 cd15 ct15) | 16 => (PySem.W.fnOf "hold_so" "Holds.hold_so" (defArgs s_Holds_hold_so) (defBody s_Holds_hold_so) (defScope s_Holds_hold_so) .none kV16 dc16 pm16 an16 cd16 ct16) | 17 => (PySem.W.fnOf "_law_bag" "_law_bag" (defArgs s_l_bag) (defBody s_l_bag) (defScope s_l_bag) .none kV17 dc17 pm17 an17 cd17 ct17) | 18 => (PySem.W.fnOf "_law_out" "_law_out" (defArgs s_l_out) (defBody s_l_out) (defScope s_l_out) .none kV18 dc18 pm18 an18 cd18 ct18) | 19 => (PySem.W.fnOf "_law_step" "_law_step" (defArgs s_l_step) (defBody s_l_step) (defScope s_l_step) .none kV19 dc19 pm19 an19 cd19 ct19) | 20 => (PySem.W.fnOf "_law_keys_right" "_law_keys_right" (defArgs s_l_keys_right) (defBody s_l_keys_right) (defScope s_l_keys_right) .none kV20 dc20 pm20 an20 cd20 ct20) | 21 => (PySem.W.fnOf "_law_waits_right" "_law_waits_right" (defArgs s_l_waits_right) (defBody s_l_waits_right) (defScope s_l_waits_right) .none kV21 dc21 pm21 an21 cd21 ct21) | 22 => (PySem.W.fnOf "law" "law" (defArgs s_law) (defBody s_law) (defScope s_law) .none kV22 dc22 pm22 an22 cd22 ct22) | _ => (PySem.W.fnOf "law" "law" (defArgs s_law) (defBody s_law) (defScope s_law) .none kV22 dc22 pm22 an22 cd22 ct22)
  have T : Txt K mg a d := ⟨PySem.W.mg_of X G a0, F0, b0, PySem.W.mg_of X G a1, F1, b1, F2, b2, ⟨mk, a2, i2, kc⟩, F3, b3, ⟨a3, i3, k3⟩, F4, b4, ⟨a4, i4, k4⟩, F5, b5, ⟨a5, i5, k5⟩, F6, b6, ⟨a6, i6, k6⟩, F7, c'7, k'7, ⟨a7, i7, k7⟩, F8, b8, ⟨a8, i8, k8⟩, F9, c'9, k'9, ⟨a9, i9, k9⟩, F10, b10, ⟨a10, i10, k10⟩, F11, b11, ⟨a11, i11, k11⟩, F12, b12, ⟨a12, i12, k12⟩, F13, b13, ⟨a13, i13, k13⟩, F14, b14, ⟨a14, i14, k14⟩, F15, b15, ⟨a15, i15, k15⟩, F16, b16, ⟨a16, i16, k16⟩, PySem.W.mg_of X G a17, F17, b17, PySem.W.mg_of X G a18, F18, b18, PySem.W.mg_of X G a19, F19, b19, PySem.W.mg_of X G a20, F20, b20, PySem.W.mg_of X G a21, F21, b21, PySem.W.mg_of X G a22, F22, b22, PySem.W.mg_of X G aC, ⟨pg, hd, po, sa⟩, nf_held, nf_ages, nf_askings, nf_offs, nf_bound, nf_lent, ⟨_, PySem.W.mg_of X G g24⟩, ⟨_, PySem.W.mg_of X G g25⟩, ⟨_, PySem.W.mg_of X G g26⟩, PySem.W.mg_none_of X G z_max, PySem.W.mg_none_of X G z_min, PySem.W.mg_none_of X G z_len, PySem.W.mg_none_of X G z_range, PySem.W.mg_none_of X G z_sorted, PySem.W.mg_none_of X G z_list, PySem.W.mg_none_of X G z_dict⟩
  exact ⟨(PySem.W.fnOf "law" "law" (defArgs s_law) (defBody s_law) (defScope s_law) .none kV22 dc22 pm22 an22 cd22 ct22), fun s v => .of_eq rfl, fun base _ _ => ok_law T⟩
theorem walk {l : PySem.W.OpenLaw} {q : Program} {loose : List Str} {XP : (Str → Option Value) → Heap → Prop} {YP : World → Heap → Prop} {d : DefRec} {K : Params → PySem.W.Frag} (hn : l.most = some 63) (hdf : d.params.defaults = [])
    (hY : ∀ (w : World) (h : Heap), YP w h → (K w.params).In h)
    (F : ∀ (w : World) (mg : Str → Option Value) (fa : Addr) (h : Heap), (K w.params).In h → h.Ns mainGlobals mg → mg d.name = some (.ref fa) →
      ∃ fd : FuncData, (∀ (s : Shared) (u : Value), BindsTo s fd ⟨[u], []⟩ [("_law_script", u)]) ∧ ∀ base : Heap, (K w.params).In base → base.Ns mainGlobals mg → FnOk l.prog w (K w.params) mg base CX0 5 fa fd ["_law_script"] (spLaw (K w.params))) :
    PySem.W.WalkO q loose XP YP l.row.toRowW d [] (fun f vs => PySem.call f vs) :=
  L2.walk_of (n := 63) (k := 5) (x := "_law_script") (CX := fun _ => CX0) (sp := fun w => (spLaw (K w.params))) hn (by decide) hdf ⟨rfl, by decide, by decide⟩ hY F (fun _ _ a ns hl _ hS => ⟨a, ns, rfl, hS, hl, fun _ => rfl⟩) fun _ _ _ _ _ z => z
end M

open PySem PySem.W PyProof.Rows in
set_option maxRecDepth 100000 in
set_option maxHeartbeats 0 in
theorem PySem.Challenge.cw_stampedwait_k23_whole_never_barred_holds_holds : PySem.Challenge.rw_stampedwait_k23_whole_never_barred_holds.Holds := by
  w_on; o_law; k_head; (case hw => w_witness2)
  k_fill
  refine M.walk (l := PySem.Challenge.rw_stampedwait_k23_whole_never_barred_holds) rfl rfl (fun w h Y => PySem.W.kIn_of Y) ?F
  case F =>
    intro w mg fa h KX G hmg
    refine' M.all_mk KX G hmg ?g24 ?g25 ?g26 ?aC ?pg ?hd ?po ?sa ?mk ?kc ?nf_held ?nf_ages ?nf_askings ?nf_offs ?nf_bound ?nf_lent ?a0 ?l0 ?c0 ?k0 ?a1 ?l1 ?c1 ?k1 ?a2 ?i2 ?l2 ?c2 ?k2 ?a3 ?i3 ?l3 ?c3 ?k3 ?a4 ?i4 ?l4 ?c4 ?k4 ?a5 ?i5 ?l5 ?c5 ?k5 ?a6 ?i6 ?l6 ?c6 ?k6 ?a7 ?i7 ?l7 ?c7 ?k7 ?lK7_age ?a8 ?i8 ?l8 ?c8 ?k8 ?a9 ?i9 ?l9 ?c9 ?k9 ?lK9_forget ?a10 ?i10 ?l10 ?c10 ?k10 ?a11 ?i11 ?l11 ?c11 ?k11 ?a12 ?i12 ?l12 ?c12 ?k12 ?a13 ?i13 ?l13 ?c13 ?k13 ?a14 ?i14 ?l14 ?c14 ?k14 ?a15 ?i15 ?l15 ?c15 ?k15 ?a16 ?i16 ?l16 ?c16 ?k16 ?a17 ?l17 ?c17 ?k17 ?a18 ?l18 ?c18 ?k18 ?a19 ?l19 ?c19 ?k19 ?a20 ?l20 ?c20 ?k20 ?a21 ?l21 ?c21 ?k21 ?a22 ?l22 ?c22 ?k22 ?z_max ?z_min ?z_len ?z_range ?z_sorted ?z_list ?z_dict
    (case g24 => k_is)
    (case g25 => k_is)
    (case g26 => k_is)
    (case aC => k_is)
    (case pg => k_is)
    (case hd => k_is)
    (case po => k_is)
    (case sa => k_is)
    (case mk => k_is)
    (case kc => k_is)
    (case nf_held => k_is)
    (case nf_ages => k_is)
    (case nf_askings => k_is)
    (case nf_offs => k_is)
    (case nf_bound => k_is)
    (case nf_lent => k_is)
    (case a0 => k_is)
    (case l0 => k_is)
    (case c0 => k_is)
    (case k0 => k_is)
    (case a1 => k_is)
    (case l1 => k_is)
    (case c1 => k_is)
    (case k1 => k_is)
    (case a2 => k_is)
    (case i2 => k_is)
    (case l2 => k_is)
    (case c2 => k_is)
    (case k2 => k_is)
    (case a3 => k_is)
    (case i3 => k_is)
    (case l3 => k_is)
    (case c3 => k_is)
    (case k3 => k_is)
    (case a4 => k_is)
    (case i4 => k_is)
    (case l4 => k_is)
    (case c4 => k_is)
    (case k4 => k_is)
    (case a5 => k_is)
    (case i5 => k_is)
    (case l5 => k_is)
    (case c5 => k_is)
    (case k5 => k_is)
    (case a6 => k_is)
    (case i6 => k_is)
    (case l6 => k_is)
    (case c6 => k_is)
    (case k6 => k_is)
    (case a7 => k_is)
    (case i7 => k_is)
    (case l7 => k_is)
    (case c7 => k_is)
    (case k7 => k_is)
    (case lK7_age => k_is)
    (case a8 => k_is)
    (case i8 => k_is)
    (case l8 => k_is)
    (case c8 => k_is)
    (case k8 => k_is)
    (case a9 => k_is)
    (case i9 => k_is)
    (case l9 => k_is)
    (case c9 => k_is)
    (case k9 => k_is)
    (case lK9_forget => k_is)
    (case a10 => k_is)
    (case i10 => k_is)
    (case l10 => k_is)
    (case c10 => k_is)
    (case k10 => k_is)
    (case a11 => k_is)
    (case i11 => k_is)
    (case l11 => k_is)
    (case c11 => k_is)
    (case k11 => k_is)
    (case a12 => k_is)
    (case i12 => k_is)
    (case l12 => k_is)
    (case c12 => k_is)
    (case k12 => k_is)
    (case a13 => k_is)
    (case i13 => k_is)
    (case l13 => k_is)
    (case c13 => k_is)
    (case k13 => k_is)
    (case a14 => k_is)
    (case i14 => k_is)
    (case l14 => k_is)
    (case c14 => k_is)
    (case k14 => k_is)
    (case a15 => k_is)
    (case i15 => k_is)
    (case l15 => k_is)
    (case c15 => k_is)
    (case k15 => k_is)
    (case a16 => k_is)
    (case i16 => k_is)
    (case l16 => k_is)
    (case c16 => k_is)
    (case k16 => k_is)
    (case a17 => k_is)
    (case l17 => k_is)
    (case c17 => k_is)
    (case k17 => k_is)
    (case a18 => k_is)
    (case l18 => k_is)
    (case c18 => k_is)
    (case k18 => k_is)
    (case a19 => k_is)
    (case l19 => k_is)
    (case c19 => k_is)
    (case k19 => k_is)
    (case a20 => k_is)
    (case l20 => k_is)
    (case c20 => k_is)
    (case k20 => k_is)
    (case a21 => k_is)
    (case l21 => k_is)
    (case c21 => k_is)
    (case k21 => k_is)
    (case a22 => k_is)
    (case l22 => k_is)
    (case c22 => k_is)
    (case k22 => k_is)
    (case z_max => k_is)
    (case z_min => k_is)
    (case z_len => k_is)
    (case z_range => k_is)
    (case z_sorted => k_is)
    (case z_list => k_is)
    (case z_dict => k_is)
