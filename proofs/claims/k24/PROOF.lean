import PyProof.Rows.All
import Wide.All
import OpenK.AllK
import Wide.FinOn
import HandS.ForMost
import HandS.Wide
import HandS.IsInst
import HandS.Defaults
import HandS.MakeKwOnly
import HandS.Flow
import HandS.TupLe
import HandS.OwnEq
import HandS.More
import HandS.Small
import HandS.EndBits
import HandS.RaiseMore
import HandS.Walk
import HandS.Conv
import HandS.DictComp
import HandS.SortInts
import HandS.CallSlots
import HandS.Evl
import HandS.Steps
import PyProof.InstSpecial
import PyProof.ReprRoads
import PyProof.WalksMore
import PyProof.ReprLen
import HandS.Style
import PySem.Challenge.RW_stampedwait_k24_whole_who_asks_again_hol
set_option Elab.async false
set_option linter.all false
set_option maxRecDepth 100000
set_option maxHeartbeats 4000000
namespace M
open PySem L2

section
open PySem PySem.Spec PyProof.Rows L2
variable {X : Cx}
/-- d == {}, d != {} -/
def rEqDE : R2 := fun x y H Q => ∃ a b kvs, x = .ref a ∧ y = .ref b ∧ H a = some (.dK kvs) ∧ H b = some (.dK []) ∧ Q (.bl kvs.isEmpty) H
def rNeDE : R2 := fun x y H Q => ∃ a b kvs, x = .ref a ∧ y = .ref b ∧ H a = some (.dK kvs) ∧ H b = some (.dK []) ∧ Q (.bl (!kvs.isEmpty)) H
theorem kv_nil {vs : List (Key × Value)} (r : KV ([] : List (Key × V)) vs) : vs = [] := by
  unfold KV at r
  cases r
  rfl
theorem kv_emp {kvs : List (Key × V)} {vs : List (Key × Value)} (r : KV kvs vs) : (vs.length == 0) = kvs.isEmpty := by
  rw [← r.length]
  cases kvs <;> rfl
theorem op_eq_dE (hu : X.A.units < cLine) : OpR X (compareOp .Eq) rEqDE := by
  intro pins s σ H x y v u Q I rx ry h
  obtain ⟨a, b, ks, rfl, rfl, ea, eb, q⟩ := h
  obtain rfl : v = Value.ref a := rx
  obtain rfl : u = Value.ref b := ry
  obtain ⟨_, ya, va, ra, da⟩ := (show ObjOk X.prog X.w H s.heap a (.dK ks) from I.hok a _ ea)
  obtain ⟨_, yb, vb, rb, db⟩ := (show ObjOk X.prog X.w H s.heap b (.dK []) from I.hok b _ eb)
  have e := kv_nil rb
  subst e
  refine PySem.W.keq_eq (knd := mixKind X.prog X.w) (r := true) ya yb da db hu (fun hl => ?_) (fin_bl I q (by rw [Bool.and_true]; exact (kv_emp ra).symm))
  rw [List.eq_nil_of_length_eq_zero hl]
  exact .nil
theorem op_ne_dE (hu : X.A.units < cLine) : OpR X (compareOp .NotEq) rNeDE := by
  intro pins s σ H x y v u Q I rx ry h
  obtain ⟨a, b, ks, rfl, rfl, ea, eb, q⟩ := h
  obtain rfl : v = Value.ref a := rx
  obtain rfl : u = Value.ref b := ry
  obtain ⟨_, ya, va, ra, da⟩ := (show ObjOk X.prog X.w H s.heap a (.dK ks) from I.hok a _ ea)
  obtain ⟨_, yb, vb, rb, db⟩ := (show ObjOk X.prog X.w H s.heap b (.dK []) from I.hok b _ eb)
  have e := kv_nil rb
  subst e
  refine PySem.W.keq_ne (knd := mixKind X.prog X.w) (r := true) ya yb da db hu (fun hl => ?_) (fin_bl I q (by rw [Bool.and_true]; exact congrArg (!·) (kv_emp ra).symm))
  rw [List.eq_nil_of_length_eq_zero hl]
  exact .nil
end
section
open PySem PySem.Spec PyProof.Rows L2
variable {X : Cx}
theorem room66' {k : Nat} {A : Around} (r : Room k A) : A.units + 66 < cLine := by have := r.un; omega
theorem hits_data {pins : List (Addr × Obj)} {σ : L2.St} {H : Hp} {s : Shared} {kvs : List (Key × V)} {vb : List (Key × Value)} (I : Inv X pins σ H s) (hu : X.A.units + 66 < cLine) (rb : KV kvs vb) {ks : List (Key × V)} {va : List (Key × Value)} (ra : KV ks va) :
    (∀ p ∈ ks, ∃ v d e, valV kvs p.1 = some v ∧ Dp X.K H p.2 d ∧ Dp X.K H v e ∧ SeqAt.shaped d = true ∧ SeqAt.shaped e = true ∧ PyData.eqv d e = true) → PySem.W.KeqHits X.A.in1 s vb va true := by
  unfold KV at ra
  induction ra with
  | nil => intro _; exact .nil
  | @cons p q ps qs h t ih =>
    intro hp
    obtain ⟨h1, h2⟩ := h
    obtain ⟨w, d, e, ev, h3, h4, h5, h6, h7⟩ := hp p List.mem_cons_self
    have rr : RelO (some w) (valueAt vb p.1) := by rw [← ev]; exact rb.val p.1
    obtain ⟨y, hy, ry⟩ := rr.some_of
    obtain ⟨k, v⟩ := q
    have h1' : p.1 = k := h1
    rw [h1'] at hy
    obtain ⟨as, r1⟩ := Dp.reads I d _ v h3 h2
    obtain ⟨bs, r2⟩ := Dp.reads I e _ y h4 ry
    have q1 := PySem.W.keq_at (A := X.A) r1 r2 h5 h6 (by show X.A.units + 1 + 64 < cLine; omega)
    rw [h7] at q1
    show PySem.W.KeqHits X.A.in1 s vb ((k, v) :: qs) (true && true)
    exact .hit hy q1 (ih fun p' hm => hp p' (List.mem_cons_of_mem _ hm))
/-- dicts with data for values, the same -/
def SameD (K : PySem.W.Frag) (H : Hp) (a b : Addr) : Prop := ∃ ks ls, H a = some (.dK ks) ∧ H b = some (.dK ls) ∧ ks.length = ls.length ∧ ∀ p ∈ ks, ∃ v d e, valV ls p.1 = some v ∧ Dp K H p.2 d ∧ Dp K H v e ∧ SeqAt.shaped d = true ∧ SeqAt.shaped e = true ∧ PyData.eqv d e = true
def rEqDD (K : PySem.W.Frag) : R2 := fun x y H Q => ∃ a b, x = .ref a ∧ y = .ref b ∧ SameD K H a b ∧ Q (.bl true) H
def rNeDD (K : PySem.W.Frag) : R2 := fun x y H Q => ∃ a b, x = .ref a ∧ y = .ref b ∧ SameD K H a b ∧ Q (.bl false) H
theorem op_eq_dD (hu : X.A.units + 66 < cLine) : OpR X (compareOp .Eq) (rEqDD X.K) := by
  intro pins s σ H x y v u Q I rx ry h
  obtain ⟨a, b, rfl, rfl, ⟨ks, ls, ea, eb, hlen, hp⟩, q⟩ := h
  obtain rfl : v = Value.ref a := rx
  obtain rfl : u = Value.ref b := ry
  obtain ⟨_, ya, va, ra, da⟩ := (show ObjOk X.prog X.w H s.heap a (.dK ks) from I.hok a _ ea)
  obtain ⟨_, yb, vb, rb, db⟩ := (show ObjOk X.prog X.w H s.heap b (.dK ls) from I.hok b _ eb)
  have hl : va.length = vb.length := by rw [← ra.length, ← rb.length]; exact hlen
  exact PySem.W.keq_eq (knd := mixKind X.prog X.w) (r := true) ya yb da db (by omega) (fun _ => hits_data I hu rb ra hp) (fin_bl I q (by simp [hl]))
theorem op_ne_dD (hu : X.A.units + 66 < cLine) : OpR X (compareOp .NotEq) (rNeDD X.K) := by
  intro pins s σ H x y v u Q I rx ry h
  obtain ⟨a, b, rfl, rfl, ⟨ks, ls, ea, eb, hlen, hp⟩, q⟩ := h
  obtain rfl : v = Value.ref a := rx
  obtain rfl : u = Value.ref b := ry
  obtain ⟨_, ya, va, ra, da⟩ := (show ObjOk X.prog X.w H s.heap a (.dK ks) from I.hok a _ ea)
  obtain ⟨_, yb, vb, rb, db⟩ := (show ObjOk X.prog X.w H s.heap b (.dK ls) from I.hok b _ eb)
  have hl : va.length = vb.length := by rw [← ra.length, ← rb.length]; exact hlen
  exact PySem.W.keq_ne (knd := mixKind X.prog X.w) (r := true) ya yb da db (by omega) (fun _ => hits_data I hu rb ra hp) (fin_bl I q (by simp [hl]))
end
section
open PySem PySem.Spec PyProof.Rows L2
/-- o.m(e, .., k = v, ..): n values by place, o among them -/
def tMethN (C : Addr) (m : Str) (n c : Nat) (sp : Sp) (gV : List V → List V → List V) (E : XK) (ta : TE) (t tk : TA) : TE := fun σ H Q => ta σ H fun x H1 => ∃ a dx fs, x = .ref a ∧ H1 a = some (.ins C dx fs) ∧ fs.lookup m = none ∧
  t σ H1 fun vs H2 => tk σ H2 fun zs H3 => vs.length + 1 = n ∧ zs.length = c ∧ sp (gV (.ref a :: vs) zs) H3 Q E
theorem pe_methN {X : Cx} {CX : CXT} {k n : Nat} {f C : Addr} {fd : FuncData} {ps ks : List Str} {sp : Sp} {E : XK} {m : Str} {pos apos : Pos} {e o : Expr} {es : List Expr} {kws : List Keyword} {ta : TE} {t tk : TA} {pl : Sem Bool} {g : List Value → List Value → List Value} {gV : List V → List V → List V}
    (he : PE X o ta) (c : Cls X.K C) (hm : Meth X.K C m f) (F : FnOk X.prog X.w X.K X.mg X.base CX k f fd ps sp) (hr : Room k X.A) (hb : KBn X.K fd ps n ks g gV) (hx : Passes CX X E) (ha : PA X (e :: es) t) (hkw : PK X kws tk)
    (hall : (backToKw pos (keywordEach kws X.env)).all (·.1.isSome) = true := by rfl) (hks : (backToKw pos (keywordEach kws X.env)).filterMap (·.1) = ks := by rfl) (hst : starEach (e :: es) X.env = (false, eval e X.env) :: starEach es X.env := by rfl)
    (hpl : ((backTo pos (starEach (e :: es) X.env)).any (·.1) || (backToKw pos (keywordEach kws X.env)).any (·.1.isNone)) = false := by rfl)
    (ht : eval (.Call (.Attribute o m apos) (e :: es) kws pos) X.env = (do let ov ← eval o X.env; standAt apos.atName; let (f, first) ← holding [ov] (getMethod ov m pl); callWith pos f first (backTo pos (starEach (e :: es) X.env)) (backToKw pos (keywordEach kws X.env))) := by rfl) :
    PE X (.Call (.Attribute o m apos) (e :: es) kws pos) (tMethN C m n ks.length sp gV E ta t tk) := by
  constructor
  intro pins s σ H Q I h
  refine PySem.W.methodCall_KW (pl := pl) (thn (he.run pins s σ H _ I h) ?_) ht
  rintro u s1 ⟨x, H1, I1, rx, a, dx, fs, rfl, ea, l, q⟩
  cases rx
  apply getmeth_ok I1 ea c hm l
  refine PySem.W.callWith_KW (first := [.ref a]) (h₀ := X.base) I.ok.mod.kin hm.kp hall (thn (ha.run pos pins s1 σ H1 _ I1 q) ?_) hpl hst
  rintro us s2 ⟨vs, H2, I2, r, q2⟩
  refine thn (hkw.run pos pins s2 σ H2 _ I2 q2) ?_
  rintro ws s3 ⟨zs, H3, I3, rz, l1, l2, q3⟩
  refine ⟨I3.kIn, ?_⟩
  rw [hks]
  exact run_fnN (us := .ref a :: us) (vs := .ref a :: vs) F hr hb hx I3 (.cons rfl r) rz l1 l2 q3
end

def top (i : Nat) : Stmt := PySem.Challenge.pw_stampedwait_k24_whole_who_asks_again_hol.main.body.getD i (.Pass ⟨0, 0, 0, 0⟩)
abbrev s_bars : Stmt := top 7
abbrev s_is_enough : Stmt := top 8
abbrev s_Holds___init__ : Stmt := inClass (top 9) 0
abbrev s_Holds_wait_no_more : Stmt := inClass (top 9) 8
abbrev s_Holds_call_off : Stmt := inClass (top 9) 7
abbrev s_Holds_outlasts : Stmt := inClass (top 9) 6
abbrev s_Holds_barring : Stmt := inClass (top 9) 5
abbrev s_Holds_ask : Stmt := inClass (top 9) 2
abbrev s_Holds_pledge : Stmt := inClass (top 9) 9
abbrev s_Holds_free : Stmt := inClass (top 9) 11
abbrev s_Holds_of : Stmt := inClass (top 9) 12
abbrev s_Holds_waiting : Stmt := inClass (top 9) 13
abbrev s_Holds_called_off : Stmt := inClass (top 9) 15
abbrev s_Holds_pledged : Stmt := inClass (top 9) 16
abbrev s_Holds_make_own : Stmt := inClass (top 9) 1
abbrev s_Holds_way_of : Stmt := inClass (top 9) 4
abbrev s_Holds_hold_so : Stmt := inClass (top 9) 3
abbrev s_l_bag : Stmt := top 11
abbrev s_l_out : Stmt := top 12
abbrev s_l_wishes : Stmt := top 13
abbrev s_l_round : Stmt := top 14
abbrev s_law : Stmt := top 15
theorem sc_bars : FnScope ["mode", "other_mode"] ["mode", "other_mode"] (defScope s_bars) := ⟨rfl, rfl, rfl, by decide +kernel, rfl, by decide +kernel, by decide +kernel⟩
theorem sc_is_enough : FnScope ["has", "mode"] ["has", "mode"] (defScope s_is_enough) := ⟨rfl, rfl, rfl, by decide +kernel, rfl, by decide +kernel, by decide +kernel⟩
theorem sc_Holds___init__ : FnScope ["self"] ["self"] (defScope s_Holds___init__) := ⟨rfl, rfl, rfl, by decide +kernel, rfl, by decide +kernel, by decide +kernel⟩
theorem sc_Holds_wait_no_more : FnScope ["self", "dealing"] ["self", "dealing"] (defScope s_Holds_wait_no_more) := ⟨rfl, rfl, rfl, by decide +kernel, rfl, by decide +kernel, by decide +kernel⟩
theorem sc_Holds_call_off : FnScope ["self", "dealing"] ["self", "dealing"] (defScope s_Holds_call_off) := ⟨rfl, rfl, rfl, by decide +kernel, rfl, by decide +kernel, by decide +kernel⟩
theorem sc_Holds_outlasts : FnScope ["self", "other", "dealing"] ["self", "other", "dealing"] (defScope s_Holds_outlasts) := ⟨rfl, rfl, rfl, by decide +kernel, rfl, by decide +kernel, by decide +kernel⟩
theorem sc_Holds_barring : FnScope ["self", "dealing", "key", "mode", "other"] ["self", "dealing", "key", "mode"] (defScope s_Holds_barring) := ⟨rfl, rfl, rfl, by decide +kernel, rfl, by decide +kernel, by decide +kernel⟩
theorem sc_Holds_ask : FnScope ["self", "dealing", "key", "mode", "age", "barring", "off", "other"] ["self", "dealing", "key", "mode", "age"] (defScope s_Holds_ask) := ⟨rfl, rfl, rfl, by decide +kernel, rfl, by decide +kernel, by decide +kernel⟩
theorem sc_Holds_pledge : FnScope ["self", "dealing"] ["self", "dealing"] (defScope s_Holds_pledge) := ⟨rfl, rfl, rfl, by decide +kernel, rfl, by decide +kernel, by decide +kernel⟩
theorem sc_Holds_free : FnScope ["self", "dealing", "forget"] ["self", "dealing", "forget"] (defScope s_Holds_free) := ⟨rfl, rfl, rfl, by decide +kernel, rfl, by decide +kernel, by decide +kernel⟩
theorem sc_Holds_of : FnScope ["self", "dealing", "mine", "key"] ["self", "dealing"] (defScope s_Holds_of) := ⟨rfl, rfl, rfl, by decide +kernel, rfl, by decide +kernel, by decide +kernel⟩
theorem sc_Holds_waiting : FnScope ["self", "told", "dealing", "key", "mode", "others", "other"] ["self"] (defScope s_Holds_waiting) := ⟨rfl, rfl, rfl, by decide +kernel, rfl, by decide +kernel, by decide +kernel⟩
theorem sc_Holds_called_off : FnScope ["self"] ["self"] (defScope s_Holds_called_off) := ⟨rfl, rfl, rfl, by decide +kernel, rfl, by decide +kernel, by decide +kernel⟩
theorem sc_Holds_pledged : FnScope ["self"] ["self"] (defScope s_Holds_pledged) := ⟨rfl, rfl, rfl, by decide +kernel, rfl, by decide +kernel, by decide +kernel⟩
theorem sc_Holds_make_own : FnScope ["self"] ["self"] (defScope s_Holds_make_own) := ⟨rfl, rfl, rfl, by decide +kernel, rfl, by decide +kernel, by decide +kernel⟩
theorem sc_Holds_way_of : FnScope ["self", "dealing", "key", "mine"] ["self", "dealing", "key"] (defScope s_Holds_way_of) := ⟨rfl, rfl, rfl, by decide +kernel, rfl, by decide +kernel, by decide +kernel⟩
theorem sc_Holds_hold_so : FnScope ["self", "dealing", "key", "mode", "mine"] ["self", "dealing", "key", "mode"] (defScope s_Holds_hold_so) := ⟨rfl, rfl, rfl, by decide +kernel, rfl, by decide +kernel, by decide +kernel⟩
theorem sc_l_bag : FnScope ["_law_script", "_law_k", "_law_cell", "_law_great"] ["_law_script", "_law_k"] (defScope s_l_bag) := ⟨rfl, rfl, rfl, by decide +kernel, rfl, by decide +kernel, by decide +kernel⟩
theorem sc_l_out : FnScope ["_law_bag_here", "_law_many", "_law_found"] ["_law_bag_here", "_law_many"] (defScope s_l_out) := ⟨rfl, rfl, rfl, by decide +kernel, rfl, by decide +kernel, by decide +kernel⟩
theorem sc_l_wishes : FnScope ["_law_bag_here", "_law_many", "_law_found", "_law_dealing", "_law_row", "_law_key"] ["_law_bag_here", "_law_many"] (defScope s_l_wishes) := ⟨rfl, rfl, rfl, by decide +kernel, rfl, by decide +kernel, by decide +kernel⟩
theorem sc_l_round : FnScope ["_law_holds", "_law_wishes_here", "_law_stands", "_law_dealing", "_law_key", "_law_mode"] ["_law_holds", "_law_wishes_here", "_law_stands"] (defScope s_l_round) := ⟨rfl, rfl, rfl, by decide +kernel, rfl, by decide +kernel, by decide +kernel⟩
theorem sc_law : FnScope ["_law_script", "_law_k", "_law_bag_here", "_law_wishes_here", "_law_holds", "_law_stands", "_law_most", "_law_turns", "_law_row", "_law_stand", "_law_dealing"] ["_law_script"] (defScope s_law) := ⟨rfl, rfl, rfl, by decide +kernel, rfl, by decide +kernel, by decide +kernel⟩
/-- what the top has written -/
structure Txt (K : PySem.W.Frag) (mg : Str → Option Value) (a : Nat → Addr) (d : Nat → FuncData) : Prop where
  g_bars : mg "bars" = some (.ref (a 0))
  F_bars : Fun K "bars" "bars" s_bars (a 0) (d 0)
  b_bars : Binds K (d 0) ["mode", "other_mode"] []
  g_is_enough : mg "is_enough" = some (.ref (a 1))
  F_is_enough : Fun K "is_enough" "is_enough" s_is_enough (a 1) (d 1)
  b_is_enough : Binds K (d 1) ["has", "mode"] []
  F_Holds___init__ : Fun K "__init__" "Holds.__init__" s_Holds___init__ (a 2) (d 2)
  b_Holds___init__ : Binds K (d 2) ["self"] []
  m_Holds___init__ : Mk K (a 22) (a 2)
  F_Holds_wait_no_more : Fun K "wait_no_more" "Holds.wait_no_more" s_Holds_wait_no_more (a 3) (d 3)
  b_Holds_wait_no_more : Binds K (d 3) ["self", "dealing"] []
  m_Holds_wait_no_more : Meth K (a 22) "wait_no_more" (a 3)
  F_Holds_call_off : Fun K "call_off" "Holds.call_off" s_Holds_call_off (a 4) (d 4)
  b_Holds_call_off : Binds K (d 4) ["self", "dealing"] []
  m_Holds_call_off : Meth K (a 22) "call_off" (a 4)
  F_Holds_outlasts : Fun K "outlasts" "Holds.outlasts" s_Holds_outlasts (a 5) (d 5)
  b_Holds_outlasts : Binds K (d 5) ["self", "other", "dealing"] []
  m_Holds_outlasts : Meth K (a 22) "outlasts" (a 5)
  F_Holds_barring : Fun K "barring" "Holds.barring" s_Holds_barring (a 6) (d 6)
  b_Holds_barring : Binds K (d 6) ["self", "dealing", "key", "mode"] []
  m_Holds_barring : Meth K (a 22) "barring" (a 6)
  F_Holds_ask : FunD K "ask" "Holds.ask" (defArgs s_Holds_ask) (defBody s_Holds_ask) (defScope s_Holds_ask) [] [("age", .non)] (a 7) (d 7)
  c_Holds_ask : ∃ ds, Vals [.non] ds ∧ Binds K (d 7) ["self", "dealing", "key", "mode", "age"] ds
  k_Holds_ask : ∃ mv : List Value, KBn K (d 7) ["self", "dealing", "key", "mode", "age"] 4 ["age"] (fun us ws => us ++ (mv ++ ws)) (fun vs zs => vs ++ ([] ++ zs))
  m_Holds_ask : Meth K (a 22) "ask" (a 7)
  F_Holds_pledge : Fun K "pledge" "Holds.pledge" s_Holds_pledge (a 8) (d 8)
  b_Holds_pledge : Binds K (d 8) ["self", "dealing"] []
  m_Holds_pledge : Meth K (a 22) "pledge" (a 8)
  F_Holds_free : FunD K "free" "Holds.free" (defArgs s_Holds_free) (defBody s_Holds_free) (defScope s_Holds_free) [] [("forget", .bl false)] (a 9) (d 9)
  c_Holds_free : ∃ ds, Vals [.bl false] ds ∧ Binds K (d 9) ["self", "dealing", "forget"] ds
  k_Holds_free : ∃ mv : List Value, KBn K (d 9) ["self", "dealing", "forget"] 2 ["forget"] (fun us ws => us ++ (mv ++ ws)) (fun vs zs => vs ++ ([] ++ zs))
  m_Holds_free : Meth K (a 22) "free" (a 9)
  F_Holds_of : Fun K "of" "Holds.of" s_Holds_of (a 10) (d 10)
  b_Holds_of : Binds K (d 10) ["self", "dealing"] []
  m_Holds_of : Meth K (a 22) "of" (a 10)
  F_Holds_waiting : Fun K "waiting" "Holds.waiting" s_Holds_waiting (a 11) (d 11)
  b_Holds_waiting : Binds K (d 11) ["self"] []
  m_Holds_waiting : Meth K (a 22) "waiting" (a 11)
  F_Holds_called_off : Fun K "called_off" "Holds.called_off" s_Holds_called_off (a 12) (d 12)
  b_Holds_called_off : Binds K (d 12) ["self"] []
  m_Holds_called_off : Meth K (a 22) "called_off" (a 12)
  F_Holds_pledged : Fun K "pledged" "Holds.pledged" s_Holds_pledged (a 13) (d 13)
  b_Holds_pledged : Binds K (d 13) ["self"] []
  m_Holds_pledged : Meth K (a 22) "pledged" (a 13)
  F_Holds_make_own : Fun K "make_own" "Holds.make_own" s_Holds_make_own (a 14) (d 14)
  b_Holds_make_own : Binds K (d 14) ["self"] []
  m_Holds_make_own : Meth K (a 22) "make_own" (a 14)
  F_Holds_way_of : Fun K "way_of" "Holds.way_of" s_Holds_way_of (a 15) (d 15)
  b_Holds_way_of : Binds K (d 15) ["self", "dealing", "key"] []
  m_Holds_way_of : Meth K (a 22) "way_of" (a 15)
  F_Holds_hold_so : Fun K "hold_so" "Holds.hold_so" s_Holds_hold_so (a 16) (d 16)
  b_Holds_hold_so : Binds K (d 16) ["self", "dealing", "key", "mode"] []
  m_Holds_hold_so : Meth K (a 22) "hold_so" (a 16)
  g_l_bag : mg "_law_bag" = some (.ref (a 17))
  F_l_bag : Fun K "_law_bag" "_law_bag" s_l_bag (a 17) (d 17)
  b_l_bag : Binds K (d 17) ["_law_script", "_law_k"] []
  g_l_out : mg "_law_out" = some (.ref (a 18))
  F_l_out : Fun K "_law_out" "_law_out" s_l_out (a 18) (d 18)
  b_l_out : Binds K (d 18) ["_law_bag_here", "_law_many"] []
  g_l_wishes : mg "_law_wishes" = some (.ref (a 19))
  F_l_wishes : Fun K "_law_wishes" "_law_wishes" s_l_wishes (a 19) (d 19)
  b_l_wishes : Binds K (d 19) ["_law_bag_here", "_law_many"] []
  g_l_round : mg "_law_round" = some (.ref (a 20))
  F_l_round : Fun K "_law_round" "_law_round" s_l_round (a 20) (d 20)
  b_l_round : Binds K (d 20) ["_law_holds", "_law_wishes_here", "_law_stands"] []
  g_law : mg "law" = some (.ref (a 21))
  F_law : Fun K "law" "law" s_law (a 21) (d 21)
  b_law : Binds K (d 21) ["_law_script"] []
  g_Holds : mg "Holds" = some (.ref (a 22))
  cl : Cls K (a 22)
  n_held : NoAttr K (a 22) "held"
  n_ages : NoAttr K (a 22) "ages"
  n_askings : NoAttr K (a 22) "askings"
  n_offs : NoAttr K (a 22) "offs"
  n_bound : NoAttr K (a 22) "bound"
  n_lent : NoAttr K (a 22) "lent"
  g_WRITE : ∃ t, mg "WRITE" = some (.str "write" t)
  g_HELD : ∃ t, mg "HELD" = some (.str "held" t)
  g_WAITS : ∃ t, mg "WAITS" = some (.str "waits" t)
  z_max : mg "max" = none
  z_min : mg "min" = none
  z_len : mg "len" = none
  z_range : mg "range" = none
  z_sorted : mg "sorted" = none
  z_list : mg "list" = none
  z_dict : mg "dict" = none

theorem bl_of {Q : VK} {H : Hp} {c : Prop} [Decidable c] (h : c) (q : Q (.bl true) H) : Q (.bl (decide c)) H := by
  rw [decide_eq_true h]
  exact q
theorem bl_no {Q : VK} {H : Hp} {c : Prop} [Decidable c] (h : ¬ c) (q : Q (.bl false) H) : Q (.bl (decide c)) H := by
  rw [decide_eq_false h]
  exact q
theorem iteDT {c A B : Prop} [Decidable c] (h : c) (a : A) : if decide c = true then A else B := by
  rw [if_pos (decide_eq_true h)]
  exact a
theorem iteDF {c A B : Prop} [Decidable c] (h : ¬ c) (b : B) : if decide c = true then A else B := by
  rw [decide_eq_false h]
  exact iteF b
theorem iteND {c A B : Prop} [Decidable c] (h : ¬ c) (a : A) : if (!decide c) = true then A else B := by
  rw [decide_eq_false h]
  exact iteT a
theorem iteBT {c : Bool} {A B : Prop} (h : c = true) (a : A) : if c = true then A else B := by
  rw [if_pos h]
  exact a
theorem iteBF {c : Bool} {A B : Prop} (h : c = false) (b : B) : if c = true then A else B := by
  rw [h]
  exact iteF b
theorem len3 : 3 ≤ sizeLine := by decide
theorem len2 : 2 ≤ sizeLine := by decide
theorem len1 : 1 ≤ sizeLine := by decide
theorem m64 {i : Int} (a : -18446744073709551616 < i) (b : i < 18446744073709551616) : -(2 ^ 64) < i ∧ i < 2 ^ 64 := by
  have e : (2 : Int) ^ 64 = 18446744073709551616 := by decide
  rw [e]
  exact ⟨a, b⟩
theorem divW {i j : Int} (h : 0 < j) (hb : j ≤ 1000000000000000000000000000000) : CDivW i j := wide_div (b := 200) h (by
  have e : (j.natAbs : Int) = j := by omega
  have q : (j.natAbs : Int) < ((2 ^ 200 : Nat) : Int) := by rw [e]; exact Int.lt_of_le_of_lt hb (by decide)
  exact Int.ofNat_lt.mp q) (by decide) (by decide)
/-! ### heaps -/
/-- all that was tracked but x stands -/
def Fr (x : Addr) (H H' : Hp) : Prop := ∀ b o, b ≠ x → H b = some o → H' b = some o
theorem Fr.refl (x : Addr) (H : Hp) : Fr x H H := fun _ _ _ e => e
theorem Fr.trans {x : Addr} {H H1 H2 : Hp} (a : Fr x H H1) (b : Fr x H1 H2) : Fr x H H2 := fun c o n e => b c o n (a c o n e)
theorem fr_same {x : Addr} {H H' : Hp} (s : Same H H') : Fr x H H' := fun b o _ e => s b o e
theorem Fr.new {x p : Addr} {H H1 : Hp} {o : HO} (k : Fr x H H1) (hp : H1 p = none) : Fr x H (upd H1 p o) := fun b u n e => by
  rw [upd_ne (ne_of_none (k b u n e) hp)]
  exact k b u n e
theorem Fr.put {x : Addr} {H H1 : Hp} {o : HO} (k : Fr x H H1) : Fr x H (upd H1 x o) := fun b u n e => by
  rw [upd_ne n]
  exact k b u n e
theorem Fr.over {x : Addr} {H0 H H1 : Hp} (a : Same H0 H) (hx : H0 x = none) (k : Fr x H H1) : Same H0 H1 := fun b o e => k b o (ne_of_none e hx) (a b o e)
theorem same_new {H0 H : Hp} {p : Addr} {o : HO} (a : Same H0 H) (hp : H p = none) : Same H0 (upd H p o) := fun b u e => by
  rw [upd_ne (ne_of_none (a b u e) hp)]
  exact a b u e
/-- a thing that may be changed -/
def Mut : HO → Prop
  | .lst _ => True
  | .ins _ _ _ => True
  | _ => False
theorem Fr.tup {x p : Addr} {H H' : Hp} {o : HO} {xs : List V} (k : Fr x H H') (hx : H x = some o) (m : Mut o) (hp : H p = some (.tup xs)) : H' p = some (.tup xs) :=
  k p _ (ne_of hp hx (by intro e; subst e; exact m)) hp
theorem Fr.sqt {K : PySem.W.Frag} {x p : Addr} {H H' : Hp} {o : HO} {xs : List V} (k : Fr x H H') (hx : H x = some o) (m : Mut o) (h : SqT K H p xs) : SqT K H' p xs := by
  rcases h with (h | ⟨u, h⟩) | h
  · exact .inl (.inl (k p _ (ne_of h hx (by intro e; subst e; exact m)) h))
  · exact .inl (.inr ⟨u, k p _ (ne_of h hx (by intro e; subst e; exact m)) h⟩)
  · exact .inr h
theorem same_sqt {K : PySem.W.Frag} {p : Addr} {H H' : Hp} {xs : List V} (k : Same H H') (h : SqT K H p xs) : SqT K H' p xs := by
  rcases h with (h | ⟨u, h⟩) | h
  · exact .inl (.inl (k p _ h))
  · exact .inl (.inr ⟨u, k p _ h⟩)
  · exact .inr h
theorem sqt_ty {K : PySem.W.Frag} {H : Hp} {p : Addr} {xs : List V} (h : SqT K H p xs) : TyX K H (.ref p) (.type "tuple") := by
  rcases h with (h | ⟨u, h⟩) | ⟨o, its, n, h1, h2, _⟩
  · exact .base (.tup h)
  · exact .fTuple h
  · exact .kTuple h1 h2
/-! ### draws -/
def BagAt (H : Hp) (s : Addr) : Prop := ∃ a b : Int, H s = some (.lst [.int a, .int b]) ∧ 0 ≤ b ∧ b < 2147483647
theorem BagAt.ex {H : Hp} {s : Addr} (h : BagAt H s) : ∃ o, H s = some o ∧ Mut o := by
  obtain ⟨a, b, e, _⟩ := h
  exact ⟨_, e, trivial⟩
theorem BagAt.same {H H' : Hp} {s : Addr} (h : BagAt H s) (k : Same H H') : BagAt H' s := by
  obtain ⟨a, b, e, r⟩ := h
  exact ⟨a, b, k _ _ e, r⟩
theorem BagAt.new {H : Hp} {s p : Addr} {o : HO} (h : BagAt H s) (hp : H p = none) : BagAt (upd H p o) s := h.same (same_new (Same.refl H) hp)
theorem BagAt.ne_new {H : Hp} {s p : Addr} (h : BagAt H s) (hp : H p = none) : p ≠ s := by
  obtain ⟨a, b, e, _⟩ := h
  exact (ne_of_none e hp).symm
theorem BagAt.fr {H H' : Hp} {s x : Addr} (h : BagAt H s) (k : Fr x H H') (ne : s ≠ x) : BagAt H' s := by
  obtain ⟨a, b, e, r⟩ := h
  exact ⟨a, b, k _ _ ne e, r⟩
theorem BagAt.some_ {H : Hp} {s : Addr} (h : BagAt H s) : ∃ o, H s = some o := by
  obtain ⟨a, b, e, _⟩ := h
  exact ⟨_, e⟩
theorem BagAt.ne_none {H : Hp} {s p : Addr} (h : BagAt H s) (hp : H p = none) : s ≠ p := (h.ne_new hp).symm
theorem same_make {H : Hp} {x dx : Addr} {o1 o2 : HO} (nx : H x = none) (ndx : H dx = none) : Same H (upd (upd H dx o1) x o2) := fun b o e => by
  rw [upd_ne (ne_of_none e nx), upd_ne (ne_of_none e ndx)]
  exact e
def spBag (K : PySem.W.Frag) : Sp := fun vs H Q _ => ∃ (l : Addr) (ns : List Int) (k : Int), vs = [.ref l, .int k] ∧ SqL K H l (ns.map V.int) ∧ 0 ≤ k ∧ k ≤ 100 ∧ ∀ (p : Addr) (H' : Hp), H p = none → Same H H' → BagAt H' p → Q (.ref p) H'
def spOut : Sp := fun vs H Q _ => ∃ (s : Addr) (m : Int), vs = [.ref s, .int m] ∧ BagAt H s ∧ 0 < m ∧ m ≤ 1000000000000000000000000000000 ∧ ∀ (r : Int) (H' : Hp), 0 ≤ r → r < m → Fr s H H' → BagAt H' s → Q (.int r) H'
def spLaw (K : PySem.W.Frag) : Sp := fun vs H Q _ => ∃ (a : Addr) (ns : List Int), vs = [.ref a] ∧ SqL K H a (ns.map V.int) ∧ ns.length ≤ 63 ∧ ∀ H', Q (.bl true) H'
/-! ### dicts as functions -/
structure Good (us : List Key) (kv : List (Key × V)) : Prop where
  nd : (kv.map (·.1)).Nodup
  ks : ∀ p ∈ kv, p.1 ∈ us
theorem nodup_le {α : Type} [DecidableEq α] : ∀ {l us : List α}, l.Nodup → (∀ x ∈ l, x ∈ us) → l.length ≤ us.length
  | [], us, _, _ => Nat.zero_le _
  | a :: l, us, h, hs => by
    rw [List.nodup_cons] at h
    have ha : a ∈ us := hs a (List.mem_cons_self ..)
    have z := nodup_le (us := us.erase a) h.2 fun x hx => (List.mem_erase_of_ne (fun e : x = a => h.1 (e ▸ hx))).mpr (hs x (List.mem_cons_of_mem _ hx))
    rw [List.length_erase_of_mem ha] at z
    have : 0 < us.length := List.length_pos_of_mem ha
    rw [List.length_cons]
    omega
theorem Good.len {us : List Key} {kv : List (Key × V)} (g : Good us kv) : kv.length ≤ us.length := by
  have z := nodup_le g.nd fun x hx => by
    obtain ⟨p, hp, rfl⟩ := List.mem_map.mp hx
    exact g.ks p hp
  rwa [List.length_map] at z
theorem Good.nil (us : List Key) : Good us [] := ⟨by simp, fun p hp => by cases hp⟩
theorem val_mem {kv : List (Key × V)} {k : Key} {v : V} (h : valV kv k = some v) : (k, v) ∈ kv := by
  unfold valV at h
  obtain ⟨p, hp, e⟩ := Option.map_eq_some_iff.mp h
  have z := List.find?_some hp
  have y := List.mem_of_find?_eq_some hp
  have z' : p.1 = k := of_decide_eq_true z
  rw [← z', ← e]
  exact y
theorem val_none {kv : List (Key × V)} {k : Key} (h : valV kv k = none) : ¬ k ∈ kv.map (·.1) := valV_not h
theorem mem_val {kv : List (Key × V)} (nd : (kv.map (·.1)).Nodup) {p : Key × V} (hp : p ∈ kv) : valV kv p.1 = some p.2 := val_nodup nd p hp
theorem Good.put {us : List Key} {kv : List (Key × V)} {k : Key} (g : Good us kv) (h : k ∈ us) (v : V) : Good us (putK kv k v) := by
  unfold putK
  split
  · rename_i c
    refine ⟨?_, fun p hp => ?_⟩
    · rw [List.map_map]
      have e : kv.map ((fun p : Key × V => p.1) ∘ fun p => if p.1 = k then (p.1, v) else p) = kv.map (·.1) := List.map_congr_left fun p _ => by
        by_cases z : p.1 = k <;> simp [z]
      rw [e]
      exact g.nd
    · obtain ⟨q, hq, rfl⟩ := List.mem_map.mp hp
      by_cases z : q.1 = k
      · rw [if_pos z]; exact g.ks q hq
      · rw [if_neg z]; exact g.ks q hq
  · rename_i c
    rw [valV_any] at c
    have c' : valV kv k = none := by
      cases e : valV kv k with
      | none => rfl
      | some v => rw [e] at c; exact absurd rfl c
    refine ⟨?_, fun p hp => ?_⟩
    · rw [List.map_append, List.nodup_append]
      refine ⟨g.nd, by simp, fun a ha b hb e => ?_⟩
      rw [List.mem_singleton.mp hb] at e
      have e' : a = k := e
      exact val_none c' (e' ▸ ha)
    · rcases List.mem_append.mp hp with hq | hq
      · exact g.ks p hq
      · rw [List.mem_singleton.mp hq]; exact h
theorem Good.drop {us : List Key} {kv : List (Key × V)} (g : Good us kv) (k : Key) : Good us (dropK kv k) := by
  unfold dropK
  exact ⟨((List.filter_sublist (l := kv)).map _).nodup g.nd, fun p hp => g.ks p (List.mem_filter.mp hp).1⟩
theorem val_drop (k j : Key) : ∀ kv : List (Key × V), valV (dropK kv k) j = if j = k then none else valV kv j
  | [] => by split <;> rfl
  | p :: r => by
    have ih := val_drop k j r
    unfold dropK at ih ⊢
    rw [List.filter_cons]
    by_cases h : p.1 = k
    · rw [if_neg (by simp [h]), ih]
      by_cases e : j = k
      · rw [if_pos e, if_pos e]
      · rw [if_neg e, if_neg e, valV_neg (fun z => e (z.symm.trans h))]
    · rw [if_pos (by simp [h])]
      by_cases e : p.1 = j
      · rw [valV_pos e, valV_pos e, if_neg (fun z => h (e.trans z))]
      · rw [valV_neg e, valV_neg e, ih]
/-- a dict at a that holds what f tells -/
def DAt (us : List Key) (H : Hp) (a : Addr) (f : Key → Option V) : Prop := ∃ kv, H a = some (.dK kv) ∧ Good us kv ∧ ∀ k, valV kv k = f k
theorem DAt.keep {us : List Key} {H H' : Hp} {a : Addr} {f : Key → Option V} (h : DAt us H a f) (e : ∀ o, H a = some o → H' a = some o) : DAt us H' a f := by
  obtain ⟨kv, ha, g, v⟩ := h
  exact ⟨kv, e _ ha, g, v⟩
theorem DAt.ne {us : List Key} {H : Hp} {a q : Addr} {o : HO} {f : Key → Option V} (h : DAt us H a f) (n : a ≠ q) : DAt us (upd H q o) a f :=
  h.keep fun u e => by rw [upd_ne n]; exact e
def kI (f : Int → Option V) : Key → Option V
  | .inl i => f i
  | .inr _ => none
def kS (f : Str → Option V) : Key → Option V
  | .inr z => f z
  | .inl _ => none
theorem kI_put {kv : List (Key × V)} {g : Int → Option V} (h : ∀ k, valV kv k = kI g k) (i : Int) (v : V) : ∀ k, valV (putK kv (Sum.inl i) v) k = kI (fun j => if j = i then some v else g j) k := fun k => by
  rw [valV_put, h]
  cases k with
  | inl j =>
    by_cases e : j = i
    · subst e; rw [if_pos rfl]; show _ = if j = j then some v else g j; rw [if_pos rfl]
    · rw [if_neg (fun z => e (Sum.inl.inj z))]; show _ = if j = i then some v else g j; rw [if_neg e]; rfl
  | inr z => rw [if_neg (fun q => by cases q)]; rfl
theorem kI_drop {kv : List (Key × V)} {g : Int → Option V} (h : ∀ k, valV kv k = kI g k) (i : Int) : ∀ k, valV (dropK kv (Sum.inl i)) k = kI (fun j => if j = i then none else g j) k := fun k => by
  rw [val_drop, h]
  cases k with
  | inl j =>
    by_cases e : j = i
    · subst e; rw [if_pos rfl]; show _ = if j = j then none else g j; rw [if_pos rfl]
    · rw [if_neg (fun z => e (Sum.inl.inj z))]; show _ = if j = i then none else g j; rw [if_neg e]; rfl
  | inr z => rw [if_neg (fun q => by cases q)]; rfl
theorem kS_put {kv : List (Key × V)} {g : Str → Option V} (h : ∀ k, valV kv k = kS g k) (i : Str) (v : V) : ∀ k, valV (putK kv (Sum.inr i) v) k = kS (fun j => if j = i then some v else g j) k := fun k => by
  rw [valV_put, h]
  cases k with
  | inr j =>
    by_cases e : j = i
    · subst e; rw [if_pos rfl]; show _ = if j = j then some v else g j; rw [if_pos rfl]
    · rw [if_neg (fun z => e (Sum.inr.inj z))]; show _ = if j = i then some v else g j; rw [if_neg e]; rfl
  | inl z => rw [if_neg (fun q => by cases q)]; rfl
/-- dropping what isn't there -/
theorem kI_drop_none {kv : List (Key × V)} {g : Int → Option V} (h : ∀ k, valV kv k = kI g k) {i : Int} (n : valV kv (Sum.inl i) = none) : ∀ k, valV kv k = kI (fun j => if j = i then none else g j) k := fun k => by
  rw [h]
  cases k with
  | inl j =>
    show g j = if j = i then none else g j
    by_cases e : j = i
    · subst e; rw [if_pos rfl, ← n, h]; rfl
    · rw [if_neg e]
  | inr z => rfl
/-! ### holds as functions -/
structure HS where
  held : Int → Str → Option Str
  ages : Int → Option Int
  asks : Int → Option (Str × Str)
  offs : Int → Bool
  bnd : Int → Bool
def HS.none : HS := ⟨fun _ _ => .none, fun _ => .none, fun _ => .none, fun _ => false, fun _ => false⟩
def HS.setAge (s : HS) (d a : Int) : HS := { s with ages := fun i => if i = d then some a else s.ages i }
def HS.noAge (s : HS) (d : Int) : HS := { s with ages := fun i => if i = d then .none else s.ages i }
def HS.noAsk (s : HS) (d : Int) : HS := { s with asks := fun i => if i = d then .none else s.asks i }
def HS.setAsk (s : HS) (d : Int) (k m : Str) : HS := { s with asks := fun i => if i = d then some (k, m) else s.asks i }
def HS.setOff (s : HS) (d : Int) : HS := { s with offs := fun i => if i = d then true else s.offs i }
def HS.noOff (s : HS) (d : Int) : HS := { s with offs := fun i => if i = d then false else s.offs i }
def HS.setBnd (s : HS) (d : Int) : HS := { s with bnd := fun i => if i = d then true else s.bnd i }
def HS.noBnd (s : HS) (d : Int) : HS := { s with bnd := fun i => if i = d then false else s.bnd i }
def HS.noHeld (s : HS) (d : Int) : HS := { s with held := fun i => if i = d then fun _ => .none else s.held i }
def HS.hold (s : HS) (d : Int) (k m : Str) : HS := { s with held := fun i z => if i = d then (if z = k then some m else s.held d z) else s.held i z }
structure HA where
  h : Addr
  g : Addr
  k : Addr
  o : Addr
  b : Addr
def HA.all (A : HA) : List Addr := [A.h, A.g, A.k, A.o, A.b]
structure HA.Ne (A : HA) : Prop where
  hg : A.h ≠ A.g
  hk : A.h ≠ A.k
  ho : A.h ≠ A.o
  hb : A.h ≠ A.b
  gk : A.g ≠ A.k
  go : A.g ≠ A.o
  gb : A.g ≠ A.b
  ko : A.k ≠ A.o
  kb : A.k ≠ A.b
  ob : A.o ≠ A.b
theorem HA.inH (A : HA) : A.h ∈ A.all := by simp [HA.all]
theorem HA.inG (A : HA) : A.g ∈ A.all := by simp [HA.all]
theorem HA.inK (A : HA) : A.k ∈ A.all := by simp [HA.all]
theorem HA.inO (A : HA) : A.o ∈ A.all := by simp [HA.all]
theorem HA.inB (A : HA) : A.b ∈ A.all := by simp [HA.all]
structure Un where
  ds : List Int
  ks : List Str
def Un.di (U : Un) : List Key := U.ds.map Sum.inl
def Un.ki (U : Un) : List Key := U.ks.map Sum.inr
theorem Un.inI {U : Un} {i : Int} (h : i ∈ U.ds) : (Sum.inl i : Key) ∈ U.di := List.mem_map.mpr ⟨i, h, rfl⟩
theorem Un.inS {U : Un} {i : Str} (h : i ∈ U.ks) : (Sum.inr i : Key) ∈ U.ki := List.mem_map.mpr ⟨i, h, rfl⟩
def hne (a b : Str) : Prop := ¬ a = b
theorem n_hg : ¬ (("held" : Str) = "ages") := by decide +kernel
theorem n_hk : ¬ (("held" : Str) = "askings") := by decide +kernel
theorem n_ho : ¬ (("held" : Str) = "offs") := by decide +kernel
theorem n_hb : ¬ (("held" : Str) = "bound") := by decide +kernel
theorem n_gk : ¬ (("ages" : Str) = "askings") := by decide +kernel
theorem n_go : ¬ (("ages" : Str) = "offs") := by decide +kernel
theorem n_gb : ¬ (("ages" : Str) = "bound") := by decide +kernel
theorem n_ko : ¬ (("askings" : Str) = "offs") := by decide +kernel
theorem n_kb : ¬ (("askings" : Str) = "bound") := by decide +kernel
theorem n_ob : ¬ (("offs" : Str) = "bound") := by decide +kernel
theorem n_hl : ¬ (("held" : Str) = "lent") := by decide +kernel
theorem n_gl : ¬ (("ages" : Str) = "lent") := by decide +kernel
theorem n_kl : ¬ (("askings" : Str) = "lent") := by decide +kernel
theorem n_ol : ¬ (("offs" : Str) = "lent") := by decide +kernel
theorem n_bl : ¬ (("bound" : Str) = "lent") := by decide +kernel
def hf (A : HA) : List (Str × V) := putF "lent" (.bl false) (putF "bound" (.ref A.b) (putF "offs" (.ref A.o) (putF "askings" (.ref A.k) (putF "ages" (.ref A.g) (putF "held" (.ref A.h) [])))))
theorem hf_h (A : HA) : (hf A).lookup ("held" : Str) = some (.ref A.h) := by
  unfold hf
  rw [lookup_putF, if_neg n_hl, lookup_putF, if_neg n_hb, lookup_putF, if_neg n_ho, lookup_putF, if_neg n_hk, lookup_putF, if_neg n_hg, lookup_putF, if_pos rfl]
theorem hf_g (A : HA) : (hf A).lookup ("ages" : Str) = some (.ref A.g) := by
  unfold hf
  rw [lookup_putF, if_neg n_gl, lookup_putF, if_neg n_gb, lookup_putF, if_neg n_go, lookup_putF, if_neg n_gk, lookup_putF, if_pos rfl]
theorem hf_k (A : HA) : (hf A).lookup ("askings" : Str) = some (.ref A.k) := by
  unfold hf
  rw [lookup_putF, if_neg n_kl, lookup_putF, if_neg n_kb, lookup_putF, if_neg n_ko, lookup_putF, if_pos rfl]
theorem hf_o (A : HA) : (hf A).lookup ("offs" : Str) = some (.ref A.o) := by
  unfold hf
  rw [lookup_putF, if_neg n_ol, lookup_putF, if_neg n_ob, lookup_putF, if_pos rfl]
theorem hf_b (A : HA) : (hf A).lookup ("bound" : Str) = some (.ref A.b) := by
  unfold hf
  rw [lookup_putF, if_neg n_bl, lookup_putF, if_pos rfl]
theorem hf_l (A : HA) : (hf A).lookup ("lent" : Str) = some (.bl false) := by
  unfold hf
  rw [lookup_putF, if_pos rfl]
theorem hf_no (A : HA) {m : Str} (h1 : ¬ m = "held") (h2 : ¬ m = "ages") (h3 : ¬ m = "askings") (h4 : ¬ m = "offs") (h5 : ¬ m = "bound") (h6 : ¬ m = "lent") : (hf A).lookup m = none := by
  unfold hf
  rw [lookup_putF, if_neg h6, lookup_putF, if_neg h5, lookup_putF, if_neg h4, lookup_putF, if_neg h3, lookup_putF, if_neg h2, lookup_putF, if_neg h1]
  rfl
def vB (f : Int → Bool) : Int → Option V := fun i => if f i = true then some (.bl true) else none
def vI (f : Int → Option Int) : Int → Option V := fun i => (f i).map V.int
def vR (f : Int → Option Addr) : Int → Option V := fun i => (f i).map V.ref
def vS (f : Str → Option Str) : Str → Option V := fun z => (f z).map V.str
/-- who holds what -/
structure HeldAt (U : Un) (S : Addr → Prop) (A : HA) (H : Hp) (f : Int → Str → Option Str) (rf : Int → Option Addr) : Prop where
  d : DAt U.di H A.h (kI (vR rf))
  inj : ∀ i j r, rf i = some r → rf j = some r → i = j
  no : ∀ i, rf i = none → f i = fun _ => none
  yes : ∀ i r, rf i = some r → S r ∧ ¬ r ∈ A.all ∧ DAt U.ki H r (kS (vS (f i)))
structure AsksAt (U : Un) (S : Addr → Prop) (A : HA) (H : Hp) (f : Int → Option (Str × Str)) (tf : Int → Option Addr) : Prop where
  d : DAt U.di H A.k (kI (vR tf))
  no : ∀ i, tf i = none → f i = none
  yes : ∀ i p, tf i = some p → S p ∧ ∃ k m, f i = some (k, m) ∧ H p = some (.tup [.str k, .str m])
structure HoldsAt (C : Addr) (U : Un) (S : Addr → Prop) (H : Hp) (x : Addr) (A : HA) (s : HS) : Prop where
  ins : ∃ dx, H x = some (.ins C dx (hf A))
  hd : ∃ rf, HeldAt U S A H s.held rf
  ag : DAt U.di H A.g (kI (vI s.ages))
  ak : ∃ tf, AsksAt U S A H s.asks tf
  of : DAt U.di H A.o (kI (vB s.offs))
  bd : DAt U.di H A.b (kI (vB s.bnd))
  ne : A.Ne
  own : S x ∧ S A.h ∧ S A.g ∧ S A.k ∧ S A.o ∧ S A.b
  al : ∀ b, S b → ∃ o, H b = some o
  sm : U.ds.length ≤ 60 ∧ U.ks.length ≤ 60
theorem Un.lenI {U : Un} {kv : List (Key × V)} (g : Good U.di kv) (h : U.ds.length ≤ 60) : kv.length ≤ 60 := by
  have := g.len
  unfold Un.di at this
  rw [List.length_map] at this
  omega
theorem Un.lenS {U : Un} {kv : List (Key × V)} (g : Good U.ki kv) (h : U.ks.length ≤ 60) : kv.length ≤ 60 := by
  have := g.len
  unfold Un.ki at this
  rw [List.length_map] at this
  omega
theorem lt_line {n : Nat} (h : n ≤ 60) : n < sizeLine := by rw [sizeLine_eq]; omega
section
variable {C : Addr} {U : Un} {S S' : Addr → Prop} {H H' : Hp} {x : Addr} {A : HA} {s : HS} {f : Int → Str → Option Str} {rf tf : Int → Option Addr} {fa : Int → Option (Str × Str)}
theorem HeldAt.keep (h : HeldAt U S A H f rf) (hs : ∀ b, S b → S' b) (e : ∀ b o, (b = A.h ∨ (S b ∧ ¬ b ∈ A.all)) → H b = some o → H' b = some o) : HeldAt U S' A H' f rf :=
  ⟨h.d.keep fun o => e _ o (.inl rfl), h.inj, h.no, fun i r z => ⟨hs _ (h.yes i r z).1, (h.yes i r z).2.1, (h.yes i r z).2.2.keep fun o => e _ o (.inr ⟨(h.yes i r z).1, (h.yes i r z).2.1⟩)⟩⟩
theorem AsksAt.keep (h : AsksAt U S A H fa tf) (hs : ∀ b, S b → S' b) (e1 : ∀ o, H A.k = some o → H' A.k = some o) (e2 : ∀ b xs, S b → H b = some (.tup xs) → H' b = some (.tup xs)) : AsksAt U S' A H' fa tf :=
  ⟨h.d.keep e1, h.no, fun i p z => ⟨hs _ (h.yes i p z).1, by
    obtain ⟨k, m, a, b⟩ := (h.yes i p z).2
    exact ⟨k, m, a, e2 _ _ (h.yes i p z).1 b⟩⟩⟩
/-- what isn't its own may change -/
theorem HoldsAt.keep (h : HoldsAt C U S H x A s) (e : ∀ b o, S b → H b = some o → H' b = some o) : HoldsAt C U S H' x A s := by
  obtain ⟨o1, o2, o3, o4, o5, o6⟩ := h.own
  obtain ⟨dx, hx⟩ := h.ins
  obtain ⟨rf, hr⟩ := h.hd
  obtain ⟨tf, ht⟩ := h.ak
  exact ⟨⟨dx, e _ _ o1 hx⟩, ⟨rf, hr.keep (fun _ z => z) fun b o c => e b o (c.elim (fun z => z ▸ o2) (·.1))⟩, h.ag.keep fun o => e _ o o3, ⟨tf, ht.keep (fun _ z => z) (fun o => e _ o o4) fun b xs z => e b _ z⟩,
    h.of.keep fun o => e _ o o5, h.bd.keep fun o => e _ o o6, h.ne, h.own, fun b z => by
      obtain ⟨o, eo⟩ := h.al b z
      exact ⟨o, e _ _ z eo⟩, h.sm⟩
theorem HoldsAt.same (h : HoldsAt C U S H x A s) (e : Same H H') : HoldsAt C U S H' x A s := h.keep fun b o _ z => e b o z
theorem HoldsAt.not_own (h : HoldsAt C U S H x A s) {p : Addr} (n : H p = none) : ¬ S p := fun z => by
  obtain ⟨o, e⟩ := h.al p z
  rw [n] at e
  cases e
theorem upd_al (h : ∀ b, S b → ∃ o, H b = some o) {q : Addr} {u : HO} : ∀ b, S b → ∃ o, upd H q u b = some o := fun b z => by
  by_cases e : b = q
  · subst e; exact ⟨u, upd_same⟩
  · rw [upd_ne e]; exact h b z
/-- one of the five dicts changed; what else stands -/
theorem HoldsAt.rest (h : HoldsAt C U S H x A s) {q : Addr} {kv kv' : List (Key × V)} (hq : q ∈ A.all) (e : H q = some (.dK kv)) : (∃ dx, upd H q (.dK kv') x = some (.ins C dx (hf A))) ∧ (∀ b, S b → ∃ o, upd H q (.dK kv') b = some o) ∧
    (q ≠ A.h → ∃ rf, HeldAt U S A (upd H q (.dK kv')) s.held rf) ∧ (q ≠ A.k → ∃ tf, AsksAt U S A (upd H q (.dK kv')) s.asks tf) := by
  obtain ⟨dx, hx⟩ := h.ins
  refine ⟨⟨dx, by rw [upd_ne (ne_of hx e (by intro z; cases z))]; exact hx⟩, upd_al h.al, fun n => ?_, fun n => ?_⟩
  · obtain ⟨rf, hr⟩ := h.hd
    refine ⟨rf, hr.keep (fun _ z => z) fun b o c eo => ?_⟩
    rw [upd_ne (fun z => ?_)]
    · exact eo
    · rcases c with rfl | c
      · exact n z.symm
      · exact c.2 (z ▸ hq)
  · obtain ⟨tf, ht⟩ := h.ak
    refine ⟨tf, ht.keep (fun _ z => z) (fun o eo => by rw [upd_ne (Ne.symm n)]; exact eo) fun b xs _ eo => ?_⟩
    rw [upd_ne (ne_of eo e (by intro z; cases z))]
    exact eo
theorem HoldsAt.putG (h : HoldsAt C U S H x A s) {kv kv' : List (Key × V)} {g : Int → Option Int} (e : H A.g = some (.dK kv)) (gd : Good U.di kv') (hv : ∀ k, valV kv' k = kI (vI g) k) : HoldsAt C U S (upd H A.g (.dK kv')) x A { s with ages := g } := by
  obtain ⟨r1, r2, r3, r4⟩ := h.rest (kv' := kv') A.inG e
  exact ⟨r1, r3 h.ne.hg.symm, ⟨kv', upd_same, gd, hv⟩, r4 h.ne.gk, h.of.ne h.ne.go.symm, h.bd.ne h.ne.gb.symm, h.ne, h.own, r2, h.sm⟩
theorem HoldsAt.putO (h : HoldsAt C U S H x A s) {kv kv' : List (Key × V)} {g : Int → Bool} (e : H A.o = some (.dK kv)) (gd : Good U.di kv') (hv : ∀ k, valV kv' k = kI (vB g) k) : HoldsAt C U S (upd H A.o (.dK kv')) x A { s with offs := g } := by
  obtain ⟨r1, r2, r3, r4⟩ := h.rest (kv' := kv') A.inO e
  exact ⟨r1, r3 h.ne.ho.symm, h.ag.ne h.ne.go, r4 h.ne.ko.symm, ⟨kv', upd_same, gd, hv⟩, h.bd.ne h.ne.ob.symm, h.ne, h.own, r2, h.sm⟩
theorem HoldsAt.putB (h : HoldsAt C U S H x A s) {kv kv' : List (Key × V)} {g : Int → Bool} (e : H A.b = some (.dK kv)) (gd : Good U.di kv') (hv : ∀ k, valV kv' k = kI (vB g) k) : HoldsAt C U S (upd H A.b (.dK kv')) x A { s with bnd := g } := by
  obtain ⟨r1, r2, r3, r4⟩ := h.rest (kv' := kv') A.inB e
  exact ⟨r1, r3 h.ne.hb.symm, h.ag.ne h.ne.gb, r4 h.ne.kb.symm, h.of.ne h.ne.ob, ⟨kv', upd_same, gd, hv⟩, h.ne, h.own, r2, h.sm⟩
theorem HoldsAt.dropK (h : HoldsAt C U S H x A s) {kv : List (Key × V)} (d : Int) (e : H A.k = some (.dK kv)) : HoldsAt C U S (upd H A.k (.dK (L2.dropK kv (Sum.inl d)))) x A (s.noAsk d) := by
  obtain ⟨r1, r2, r3, r4⟩ := h.rest (kv' := L2.dropK kv (Sum.inl d)) A.inK e
  obtain ⟨tf, ht⟩ := h.ak
  obtain ⟨kv0, e0, gd, hv⟩ := ht.d
  rw [e] at e0
  cases e0
  refine ⟨r1, r3 h.ne.hk.symm, h.ag.ne h.ne.gk, ⟨fun i => if i = d then none else tf i, ⟨⟨_, upd_same, gd.drop _, fun k => ?_⟩, fun i z => ?_, fun i p z => ?_⟩⟩, h.of.ne h.ne.ko.symm, h.bd.ne h.ne.kb.symm, h.ne, h.own, r2, h.sm⟩
  · rw [kI_drop hv]
    cases k with
    | inl i => show (if i = d then none else vR tf i) = vR (fun i => if i = d then none else tf i) i; unfold vR; by_cases c : i = d <;> simp [c]
    | inr _ => rfl
  · show (if i = d then none else s.asks i) = none
    by_cases c : i = d
    · rw [if_pos c]
    · rw [if_neg c]; exact ht.no i (by simpa [c] using z)
  · by_cases c : i = d
    · simp [c] at z
    · have z' : tf i = some p := by simpa [c] using z
      obtain ⟨sp, k, m, a, b⟩ := ht.yes i p z'
      refine ⟨sp, k, m, ?_, ?_⟩
      · show (if i = d then none else s.asks i) = _; rw [if_neg c]; exact a
      · rw [upd_ne (ne_of b e (by intro z; cases z))]; exact b
theorem noAsk_none (s : HS) {d : Int} (h : s.asks d = none) : s.noAsk d = s := by
  unfold HS.noAsk
  have : (fun i => if i = d then .none else s.asks i) = s.asks := by
    funext i
    by_cases c : i = d
    · subst c; rw [if_pos rfl, h]
    · rw [if_neg c]
  rw [this]
theorem HoldsAt.putK (h : HoldsAt C U S H x A s) {kv : List (Key × V)} {d : Int} {t : Addr} {k m : Str} (e : H A.k = some (.dK kv)) (hd : d ∈ U.ds) (ht : H t = some (.tup [.str k, .str m])) : HoldsAt C U (fun b => S b ∨ b = t) (upd H A.k (.dK (L2.putK kv (Sum.inl d) (.ref t)))) x A (s.setAsk d k m) := by
  obtain ⟨r1, r2, r3, r4⟩ := h.rest (kv' := L2.putK kv (Sum.inl d) (.ref t)) A.inK e
  obtain ⟨tf, hk⟩ := h.ak
  obtain ⟨kv0, e0, gd, hv⟩ := hk.d
  rw [e] at e0
  cases e0
  have nt : t ≠ A.k := ne_of ht e (by intro z; cases z)
  obtain ⟨o1, o2, o3, o4, o5, o6⟩ := h.own
  obtain ⟨rf, hr⟩ := r3 h.ne.hk.symm
  refine ⟨r1, ⟨rf, hr.keep (fun _ z => .inl z) fun _ _ _ z => z⟩, h.ag.ne h.ne.gk, ⟨fun i => if i = d then some t else tf i, ⟨⟨_, upd_same, gd.put (Un.inI hd) _, fun k => ?_⟩, fun i z => ?_, fun i p z => ?_⟩⟩, h.of.ne h.ne.ko.symm, h.bd.ne h.ne.kb.symm, h.ne, ⟨.inl o1, .inl o2, .inl o3, .inl o4, .inl o5, .inl o6⟩, fun b z => ?_, h.sm⟩
  · rw [kI_put hv]
    cases k with
    | inl i => show (if i = d then some (V.ref t) else vR tf i) = vR (fun i => if i = d then some t else tf i) i; unfold vR; by_cases c : i = d <;> simp [c]
    | inr _ => rfl
  · show (if i = d then some (k, m) else s.asks i) = none
    by_cases c : i = d
    · simp [c] at z
    · rw [if_neg c]; exact hk.no i (by simpa [c] using z)
  · by_cases c : i = d
    · have z' : t = p := by simpa [c] using z
      subst z'
      refine ⟨.inr rfl, k, m, ?_, ?_⟩
      · show (if i = d then some (k, m) else s.asks i) = _; rw [if_pos c]
      · rw [upd_ne nt]; exact ht
    · have z' : tf i = some p := by simpa [c] using z
      obtain ⟨sp, k', m', a, b⟩ := hk.yes i p z'
      refine ⟨.inl sp, k', m', ?_, ?_⟩
      · show (if i = d then some (k, m) else s.asks i) = _; rw [if_neg c]; exact a
      · rw [upd_ne (ne_of b e (by intro z; cases z))]; exact b
  · rcases z with z | rfl
    · exact r2 b z
    · exact ⟨_, by rw [upd_ne nt]; exact ht⟩
theorem HoldsAt.dropH (h : HoldsAt C U S H x A s) {kv : List (Key × V)} (d : Int) (e : H A.h = some (.dK kv)) : HoldsAt C U S (upd H A.h (.dK (L2.dropK kv (Sum.inl d)))) x A (s.noHeld d) := by
  obtain ⟨r1, r2, r3, r4⟩ := h.rest (kv' := L2.dropK kv (Sum.inl d)) A.inH e
  obtain ⟨rf, hr⟩ := h.hd
  obtain ⟨kv0, e0, gd, hv⟩ := hr.d
  rw [e] at e0
  cases e0
  refine ⟨r1, ⟨fun i => if i = d then none else rf i, ⟨⟨_, upd_same, gd.drop _, fun k => ?_⟩, fun i j r zi zj => ?_, fun i z => ?_, fun i p z => ?_⟩⟩, h.ag.ne h.ne.hg.symm, r4 h.ne.hk, h.of.ne h.ne.ho.symm, h.bd.ne h.ne.hb.symm, h.ne, h.own, r2, h.sm⟩
  · rw [kI_drop hv]
    cases k with
    | inl i => show (if i = d then none else vR rf i) = vR (fun i => if i = d then none else rf i) i; unfold vR; by_cases c : i = d <;> simp [c]
    | inr _ => rfl
  · by_cases c : i = d
    · simp [c] at zi
    · by_cases c' : j = d
      · simp [c'] at zj
      · exact hr.inj i j r (by simpa [c] using zi) (by simpa [c'] using zj)
  · show (if i = d then fun _ => none else s.held i) = _
    by_cases c : i = d
    · rw [if_pos c]
    · rw [if_neg c]; exact hr.no i (by simpa [c] using z)
  · by_cases c : i = d
    · simp [c] at z
    · have z' : rf i = some p := by simpa [c] using z
      obtain ⟨sp, np, dp⟩ := hr.yes i p z'
      refine ⟨sp, np, ?_⟩
      have e1 : (s.noHeld d).held i = s.held i := by show (if i = d then fun _ => none else s.held i) = _; rw [if_neg c]
      rw [e1]
      exact dp.ne fun q => np (q ▸ A.inH)
theorem noHeld_none (s : HS) {d : Int} (h : s.held d = fun _ => .none) : s.noHeld d = s := by
  unfold HS.noHeld
  have : (fun i => if i = d then fun _ => .none else s.held i) = s.held := by
    funext i
    by_cases c : i = d
    · subst c; rw [if_pos rfl, h]
    · rw [if_neg c]
  rw [this]
/-- mine[key] = mode; held[d] = mine: mine is the one at d, or new -/
theorem HoldsAt.hold (h : HoldsAt C U S H x A s) {kv kr : List (Key × V)} {d : Int} {r : Addr} {k m : Str} (e : H A.h = some (.dK kv)) (er : H r = some (.dK kr)) (hd : d ∈ U.ds) (hk : k ∈ U.ks) (gr : Good U.ki kr) (vr : ∀ z, valV kr z = kS (vS (s.held d)) z)
    (hr : valV kv (Sum.inl d) = some (.ref r) ∨ ¬ S r) :
    HoldsAt C U (fun b => S b ∨ b = r) (upd (upd H r (.dK (L2.putK kr (Sum.inr k) (.str m)))) A.h (.dK (L2.putK kv (Sum.inl d) (.ref r)))) x A (s.hold d k m) := by
  obtain ⟨rf, hf0⟩ := h.hd
  obtain ⟨kv0, e0, gd, hv⟩ := hf0.d
  rw [e] at e0
  cases e0
  obtain ⟨o1, o2, o3, o4, o5, o6⟩ := h.own
  have rfd : rf d = some r ∨ ¬ S r := by
    rcases hr with z | n
    · rw [hv] at z
      have z' : (rf d).map V.ref = some (.ref r) := z
      obtain ⟨q, hq, eq⟩ := Option.map_eq_some_iff.mp z'
      cases eq
      exact .inl hq
    · exact .inr n
  have nr : ¬ r ∈ A.all := by
    rcases rfd with z | n
    · exact (hf0.yes d r z).2.1
    · intro z
      simp only [HA.all, List.mem_cons, List.mem_nil_iff, or_false] at z
      rcases z with rfl | rfl | rfl | rfl | rfl
      · exact n o2
      · exact n o3
      · exact n o4
      · exact n o5
      · exact n o6
  have other : ∀ i p, i ≠ d → rf i = some p → p ≠ r := fun i p c z q => by
    subst q
    rcases rfd with y | n
    · exact c (hf0.inj _ _ _ z y)
    · exact n (hf0.yes i p z).1
  obtain ⟨dx, hx⟩ := h.ins
  obtain ⟨tf, ht⟩ := h.ak
  have nh : r ≠ A.h := fun q => nr (q ▸ A.inH)
  have U1 : ∀ {b : Addr} {o : HO}, b ≠ r → b ≠ A.h → H b = some o → (upd (upd H r (.dK (L2.putK kr (Sum.inr k) (.str m)))) A.h (.dK (L2.putK kv (Sum.inl d) (.ref r)))) b = some o := fun n1 n2 z => by
    rw [upd_ne n2, upd_ne n1]; exact z
  have n5 : ∀ {q : Addr}, q ∈ A.all → q ≠ r := fun hq z => nr (z ▸ hq)
  refine ⟨⟨dx, U1 (ne_of hx er (by intro z; cases z)) (ne_of hx e (by intro z; cases z)) hx⟩, ⟨fun i => if i = d then some r else rf i, ⟨⟨_, upd_same, gd.put (Un.inI hd) _, fun z => ?_⟩, fun i j q zi zj => ?_, fun i z => ?_, fun i p z => ?_⟩⟩,
    h.ag.keep fun o => U1 (n5 A.inG) h.ne.hg.symm, ⟨tf, ht.keep (fun _ z => .inl z) (fun o => U1 (n5 A.inK) h.ne.hk.symm) fun b xs _ z => U1 (ne_of z er (by intro z; cases z)) (ne_of z e (by intro z; cases z)) z⟩,
    h.of.keep fun o => U1 (n5 A.inO) h.ne.ho.symm, h.bd.keep fun o => U1 (n5 A.inB) h.ne.hb.symm, h.ne, ⟨.inl o1, .inl o2, .inl o3, .inl o4, .inl o5, .inl o6⟩, fun b z => ?_, h.sm⟩
  · rw [kI_put hv]
    cases z with
    | inl i => show (if i = d then some (V.ref r) else vR rf i) = vR (fun i => if i = d then some r else rf i) i; unfold vR; by_cases c : i = d <;> simp [c]
    | inr _ => rfl
  · by_cases c : i = d
    · by_cases c' : j = d
      · rw [c, c']
      · have zi' : r = q := by simpa [c] using zi
        subst zi'
        exact absurd rfl (other j r c' (by simpa [c'] using zj))
    · by_cases c' : j = d
      · have zj' : r = q := by simpa [c'] using zj
        subst zj'
        exact absurd rfl (other i r c (by simpa [c] using zi))
      · exact hf0.inj i j q (by simpa [c] using zi) (by simpa [c'] using zj)
  · by_cases c : i = d
    · simp [c] at z
    · have y := hf0.no i (by simpa [c] using z)
      show (fun z => if i = d then (if z = k then some m else s.held d z) else s.held i z) = _
      simp only [if_neg c]
      exact y
  · by_cases c : i = d
    · have z' : r = p := by simpa [c] using z
      subst z'
      refine ⟨.inr rfl, nr, ⟨_, by rw [upd_ne nh]; exact upd_same, gr.put (Un.inS hk) _, fun y => ?_⟩⟩
      rw [kS_put vr]
      cases y with
      | inl _ => rfl
      | inr y =>
        show (if y = k then some (V.str m) else vS (s.held d) y) = Option.map V.str (if i = d then (if y = k then some m else s.held d y) else s.held i y)
        rw [if_pos c]
        unfold vS
        by_cases q : y = k <;> simp [q]
    · have z' : rf i = some p := by simpa [c] using z
      obtain ⟨sp, np, dp⟩ := hf0.yes i p z'
      refine ⟨.inl sp, np, ?_⟩
      have e1 : (s.hold d k m).held i = s.held i := by
        show (fun z => if i = d then (if z = k then some m else s.held d z) else s.held i z) = _
        simp only [if_neg c]
      rw [e1]
      exact dp.keep fun o => U1 (other i p c z') (fun q => np (q ▸ A.inH))
  · by_cases c : b = A.h
    · exact ⟨_, by rw [c]; exact upd_same⟩
    · by_cases c' : b = r
      · exact ⟨_, by rw [upd_ne c, c']; exact upd_same⟩
      · rcases z with z | z
        · obtain ⟨o, eo⟩ := h.al b z
          exact ⟨o, U1 c' c eo⟩
        · exact absurd z c'
end
/-! ### one step of it -/
/-- s' behind a step from H: it may own new things; what wasn't its own stands -/
structure Nx (C : Addr) (U : Un) (S : Addr → Prop) (H : Hp) (x : Addr) (A : HA) (s' : HS) (S' : Addr → Prop) (H' : Hp) : Prop where
  at_ : HoldsAt C U S' H' x A s'
  ow : ∀ b, S' b → S b ∨ H b = none
  fr : ∀ b o, ¬ S b → H b = some o → H' b = some o
  lv : ∀ b, H' b = none → H b = none
section
variable {C : Addr} {U : Un} {S S1 S2 : Addr → Prop} {H H1 H2 : Hp} {x : Addr} {A : HA} {s s1 s2 : HS}
theorem Nx.refl (h : HoldsAt C U S H x A s) : Nx C U S H x A s S H := ⟨h, fun _ z => .inl z, fun _ _ _ z => z, fun _ z => z⟩
theorem Nx.trans (a : Nx C U S H x A s1 S1 H1) (b : Nx C U S1 H1 x A s2 S2 H2) : Nx C U S H x A s2 S2 H2 := by
  refine ⟨b.at_, fun c z => ?_, fun c o n z => b.fr c o (fun y => ?_) (a.fr c o n z), fun c z => a.lv c (b.lv c z)⟩
  · rcases b.ow c z with y | y
    · exact a.ow c y
    · by_cases q : S c
      · exact .inl q
      · right
        cases e : H c with
        | none => rfl
        | some o =>
          rw [a.fr c o q e] at y
          cases y
  · rcases a.ow c y with y | y
    · exact n y
    · rw [z] at y; cases y
theorem Nx.same (a : Nx C U S H x A s1 S1 H1) (e : Same H1 H2) : Nx C U S H x A s1 S1 H2 := ⟨a.at_.same e, a.ow, fun b o n z => e b o (a.fr b o n z), fun b z => a.lv b (e.free z)⟩
/-- a thing that isn't its own stays none of it -/
theorem Nx.out (a : Nx C U S H x A s1 S1 H1) {p : Addr} {o : HO} (n : ¬ S p) (z : H p = some o) : ¬ S1 p ∧ H1 p = some o :=
  ⟨fun y => (a.ow p y).elim n (fun y => by
    rw [z] at y
    cases y), a.fr p o n z⟩
end
/-! ### who bars whom -/
def bars (m n : Str) : Bool := decide (m = "write") || decide (n = "write")
def enough (o : Option Str) (m : Str) : Bool := match o with
  | none => false
  | some h => decide (h = m) || decide (h = "write")
def bar (s : HS) (d : Int) (k m : Str) (o : Int) : Bool := !decide (o = d) && (match s.held o k with
  | none => false
  | some n => bars m n)
def outl (s : HS) (o d : Int) : Bool := s.bnd o || (match s.ages o, s.ages d with
  | some a, some b => decide (a < b) || (decide (a = b) && decide (o < d))
  | _, _ => false)
/-- l: just those of whom p tells yes, rising -/
structure IsL (p : Int → Bool) (l : List Int) : Prop where
  up : l.Pairwise (· < ·)
  mem : ∀ i, i ∈ l ↔ p i = true
theorem isL_of {p : Int → Bool} {l l' : List Int} (pm : l'.Perm l) (so : l'.Pairwise (· ≤ ·)) (nd : l.Nodup) (h : ∀ i, i ∈ l ↔ p i = true) : IsL p l' := by
  have nd' : l'.Nodup := pm.nodup_iff.mpr nd
  refine ⟨?_, fun i => (pm.mem_iff).trans (h i)⟩
  have z := so.and nd'
  exact z.imp fun {a b} h => by
    have := h.1
    have := h.2
    omega
theorem IsL.nodup {p : Int → Bool} {l : List Int} (h : IsL p l) : l.Nodup := h.up.imp fun {a b} z e => by omega
theorem IsL.uniq {p : Int → Bool} : ∀ {l l' : List Int}, IsL p l → IsL p l' → l = l' := by
  have go : ∀ {l l' : List Int}, l.Pairwise (· < ·) → l'.Pairwise (· < ·) → (∀ i, i ∈ l ↔ i ∈ l') → l = l' := by
    intro l
    induction l with
    | nil =>
      intro l' _ _ h
      cases l' with
      | nil => rfl
      | cons a r => exact absurd ((h a).mpr (List.mem_cons_self ..)) (by simp)
    | cons a r ih =>
      intro l' h1 h2 h
      cases l' with
      | nil => exact absurd ((h a).mp (List.mem_cons_self ..)) (by simp)
      | cons b r' =>
        rw [List.pairwise_cons] at h1 h2
        have e : a = b := by
          rcases List.mem_cons.mp ((h a).mp (List.mem_cons_self ..)) with z | z
          · exact z
          · rcases List.mem_cons.mp ((h b).mpr (List.mem_cons_self ..)) with y | y
            · exact y.symm
            · have := h2.1 a z
              have := h1.1 b y
              omega
        subst e
        rw [ih h1.2 h2.2 fun i => ⟨fun z => ?_, fun z => ?_⟩]
        · rcases List.mem_cons.mp ((h i).mp (List.mem_cons_of_mem _ z)) with y | y
          · have := h1.1 i z
            omega
          · exact y
        · rcases List.mem_cons.mp ((h i).mpr (List.mem_cons_of_mem _ z)) with y | y
          · have := h2.1 i z
            omega
          · exact y
  intro l l' h h'
  exact go h.up h'.up fun i => (h.mem i).trans (h'.mem i).symm
theorem IsL.congr {p q : Int → Bool} {l : List Int} (h : IsL p l) (e : ∀ i, p i = q i) : IsL q l := ⟨h.up, fun i => by rw [h.mem, e]⟩
/-- called off, all of l -/
def HS.offL (s : HS) (l : List Int) : HS := { s with held := fun i => if i ∈ l then fun _ => .none else s.held i, asks := fun i => if i ∈ l then .none else s.asks i, offs := fun i => if i ∈ l then true else s.offs i }
def HS.off (s : HS) (d : Int) : HS := ((s.noHeld d).noAsk d).setOff d
theorem offL_nil (s : HS) : s.offL [] = s := by
  unfold HS.offL
  simp
theorem offL_snoc (s : HS) (l : List Int) (o : Int) : (s.offL l).off o = s.offL (l ++ [o]) := by
  unfold HS.offL HS.off HS.setOff HS.noAsk HS.noHeld
  simp only [HS.mk.injEq, true_and, and_true]
  refine ⟨funext fun i => ?_, funext fun i => ?_, funext fun i => ?_⟩
  · by_cases a : i = o <;> by_cases b : i ∈ l <;> simp [a, b]
  · by_cases a : i = o <;> by_cases b : i ∈ l <;> simp [a, b]
  · by_cases a : i = o <;> by_cases b : i ∈ l <;> simp [a, b]
/-- who holds or asks has an age -/
structure WF (s : HS) : Prop where
  h : ∀ o k v, s.held o k = some v → s.bnd o = true ∨ ∃ a, s.ages o = some a
  a : ∀ d k m, s.asks d = some (k, m) → ∃ a, s.ages d = some a
def HS.aged (s : HS) (d : Int) (age : Option Int) : HS := match s.ages d with
  | some _ => s
  | none => s.setAge d (age.getD d)
def ageV : Option Int → V
  | none => .non
  | some a => .int a
/-- what A's dict of holds tells of i -/
def hv (H : Hp) (A : HA) (i : Int) : Option V := match H A.h with
  | some (.dK kv) => valV kv (Sum.inl i)
  | _ => none
def spBars : Sp := fun vs H Q _ => ∃ (m n : Str), vs = [.str m, .str n] ∧ ∀ H', Same H H' → Q (.bl (bars m n)) H'
def hasV : Option Str → V
  | none => .non
  | some h => .str h
def spEnough : Sp := fun vs H Q _ => ∃ (o : Option Str) (m : Str), vs = [hasV o, .str m] ∧ ∀ H', Same H H' → Q (.bl (enough o m)) H'
def spInitH (C : Addr) : Sp := fun vs H Q _ => ∃ (x dx : Addr), vs = [.ref x] ∧ H x = some (.ins C dx []) ∧ ∀ (A : HA) (H' : Hp), (∀ U : Un, U.ds.length ≤ 60 → U.ks.length ≤ 60 → ∃ S, HoldsAt C U S H' x A HS.none ∧ ∀ b, S b → b = x ∨ H b = none) → (∀ b o, b ≠ x → H b = some o → H' b = some o) → Q .non H'
def spWnm (C : Addr) : Sp := fun vs H Q _ => ∃ (x : Addr) (U : Un) (S : Addr → Prop) (A : HA) (s : HS) (d : Int), vs = [.ref x, .int d] ∧ HoldsAt C U S H x A s ∧ ∀ S' H', Nx C U S H x A (s.noAsk d) S' H' → (∀ b, b ≠ A.k → H' b = H b) → Q .non H'
def spCallOff (C : Addr) : Sp := fun vs H Q _ => ∃ (x : Addr) (U : Un) (S : Addr → Prop) (A : HA) (s : HS) (d : Int), vs = [.ref x, .int d] ∧ HoldsAt C U S H x A s ∧ d ∈ U.ds ∧ ∀ S' H', Nx C U S H x A (s.off d) S' H' → (∀ i, i ≠ d → hv H' A i = hv H A i) → Q .non H'
def spPledge (C : Addr) : Sp := fun vs H Q _ => ∃ (x : Addr) (U : Un) (S : Addr → Prop) (A : HA) (s : HS) (d : Int), vs = [.ref x, .int d] ∧ HoldsAt C U S H x A s ∧ d ∈ U.ds ∧ ∀ S' H', Nx C U S H x A ((s.setBnd d).noAsk d) S' H' → Q .non H'
def HS.free (s : HS) (d : Int) (f : Bool) : HS := if f = true then ((((s.noHeld d).noAge d).noBnd d).noAsk d).noOff d else (((s.noHeld d).noAge d).noBnd d).noAsk d
def spFree (C : Addr) : Sp := fun vs H Q _ => ∃ (x : Addr) (U : Un) (S : Addr → Prop) (A : HA) (s : HS) (d : Int) (f : Bool), vs = [.ref x, .int d, .bl f] ∧ HoldsAt C U S H x A s ∧ ∀ S' H', Nx C U S H x A (s.free d f) S' H' → Q .non H'
def spOutl (C : Addr) : Sp := fun vs H Q _ => ∃ (x : Addr) (U : Un) (S : Addr → Prop) (A : HA) (s : HS) (o d : Int), vs = [.ref x, .int o, .int d] ∧ HoldsAt C U S H x A s ∧ (s.bnd o = true ∨ ∃ a, s.ages o = some a) ∧ (∃ b, s.ages d = some b) ∧ ∀ H', Same H H' → Q (.bl (outl s o d)) H'
def spBarring (C : Addr) : Sp := fun vs H Q _ => ∃ (x : Addr) (U : Un) (S : Addr → Prop) (A : HA) (s : HS) (d : Int) (k m : Str), vs = [.ref x, .int d, .str k, .str m] ∧ HoldsAt C U S H x A s ∧
  ∀ (p : Addr) (l : List Int) (H' : Hp), IsL (bar s d k m) l → l.length ≤ 60 → H p = none → Same H H' → H' p = some (.lst (l.map V.int)) → Q (.ref p) H'
def spList (C : Addr) (g : HS → Int → Bool) : Sp := fun vs H Q _ => ∃ (x : Addr) (U : Un) (S : Addr → Prop) (A : HA) (s : HS), vs = [.ref x] ∧ HoldsAt C U S H x A s ∧
  ∀ (p : Addr) (l : List Int) (H' : Hp), IsL (g s) l → l.length ≤ 60 → H p = none → Same H H' → H' p = some (.lst (l.map V.int)) → Q (.ref p) H'
def ofKv (s : HS) (d : Int) (ks : List Str) : List (Key × V) := ks.map fun k => (Sum.inr k, V.str ((s.held d k).getD ""))
def spOf (C : Addr) : Sp := fun vs H Q _ => ∃ (x : Addr) (U : Un) (S : Addr → Prop) (A : HA) (s : HS) (d : Int), vs = [.ref x, .int d] ∧ HoldsAt C U S H x A s ∧
  ∀ (p : Addr) (ks : List Str) (H' : Hp), ks.Nodup → PyProof.Rows.sortedS ks = true → ks.length ≤ 60 → (∀ k, k ∈ ks ↔ (s.held d k).isSome = true) → H p = none → Same H H' → H' p = some (.dK (ofKv s d ks)) → Q (.ref p) H'
structure WaitL (s : HS) (ws : List (Int × Addr × List Int)) : Prop where
  up : (ws.map (·.1)).Pairwise (· < ·)
  to : ∀ w ∈ ws, ∃ k m, s.asks w.1 = some (k, m) ∧ IsL (fun o => bar s w.1 k m o && outl s o w.1) w.2.2 ∧ w.2.2 ≠ []
  of : ∀ d k m, s.asks d = some (k, m) → (∃ o, (bar s d k m o && outl s o d) = true) → d ∈ ws.map (·.1)
def spWaiting (C : Addr) : Sp := fun vs H Q _ => ∃ (x : Addr) (U : Un) (S : Addr → Prop) (A : HA) (s : HS), vs = [.ref x] ∧ HoldsAt C U S H x A s ∧ WF s ∧
  ∀ (p : Addr) (ws : List (Int × Addr × List Int)) (H' : Hp), WaitL s ws → ws.length ≤ 60 → H p = none → Same H H' → H' p = some (.dK (ws.map fun w => (Sum.inl w.1, V.ref w.2.1))) → (∀ w ∈ ws, H w.2.1 = none ∧ H' w.2.1 = some (.lst (w.2.2.map V.int)) ∧ w.2.2.length ≤ 60) → Q (.ref p) H'
/-- ask, where the dealing is neither called off nor pledged -/
def spAsk (C : Addr) : Sp := fun vs H Q _ => ∃ (x : Addr) (U : Un) (S : Addr → Prop) (A : HA) (s : HS) (d : Int) (k m : Str) (age : Option Int), vs = [.ref x, .int d, .str k, .str m, ageV age] ∧ HoldsAt C U S H x A s ∧ WF s ∧ s.offs d = false ∧ s.bnd d = false ∧ d ∈ U.ds ∧ k ∈ U.ks ∧
  (enough (s.held d k) m = true → ∀ S' H' t l, Nx C U S H x A ((s.aged d age).noAsk d) S' H' → H' t = some (.tup [.str "held", .ref l]) → H' l = some (.lst []) → H l = none → ¬ S' l → H t = none → Q (.ref t) H') ∧
  (enough (s.held d k) m = false → ∀ off bl, IsL (fun o => bar (s.aged d age) d k m o && !outl (s.aged d age) o d) off → IsL (bar ((s.aged d age).offL off) d k m) bl → off.length ≤ 60 →
    (bl = [] → ∀ S' H' t l, Nx C U S H x A ((((s.aged d age).offL off).noAsk d).hold d k m) S' H' → H' t = some (.tup [.str "held", .ref l]) → H' l = some (.lst (off.map V.int)) → H l = none → ¬ S' l → H t = none → Q (.ref t) H') ∧
    (bl ≠ [] → ∀ S' H' t l, Nx C U S H x A (((s.aged d age).offL off).setAsk d k m) S' H' → H' t = some (.tup [.str "waits", .ref l]) → H' l = some (.lst (off.map V.int)) → H l = none → ¬ S' l → H t = none → Q (.ref t) H'))

def spOwn (C : Addr) : Sp := fun vs H Q _ => ∃ (x : Addr) (U : Un) (S : Addr → Prop) (A : HA) (s : HS), vs = [.ref x] ∧ HoldsAt C U S H x A s ∧ Q .non H
def spWay (C : Addr) : Sp := fun vs H Q _ => ∃ (x : Addr) (U : Un) (S : Addr → Prop) (A : HA) (s : HS) (d : Int) (k : Str), vs = [.ref x, .int d, .str k] ∧ HoldsAt C U S H x A s ∧ Q (hasV (s.held d k)) H
def spHoldSo (C : Addr) : Sp := fun vs H Q _ => ∃ (x : Addr) (U : Un) (S : Addr → Prop) (A : HA) (s : HS) (d : Int) (k m : Str), vs = [.ref x, .int d, .str k, .str m] ∧ HoldsAt C U S H x A s ∧ d ∈ U.ds ∧ k ∈ U.ks ∧ ∀ S' H', Nx C U S H x A (s.hold d k m) S' H' → Q .non H'
theorem upd_app (H : Hp) (a : Addr) (o : HO) (b : Addr) : upd H a o b = if b = a then some o else H b := by
  by_cases e : b = a
  · subst e; rw [if_pos rfl]; exact upd_same
  · rw [if_neg e]; exact upd_ne e
theorem hv_same {H H' : Hp} {A : HA} {i : Int} (e : H' A.h = H A.h) : hv H' A i = hv H A i := by
  unfold hv
  rw [e]
theorem beq_str (a b : Str) : (a == b) = decide (a = b) := by
  by_cases e : a = b
  · subst e; simp
  · rw [decide_eq_false e]; exact beq_eq_false_iff_ne.mpr e
theorem in_bars (m n : Str) : inV (.str "write") [.str m, .str n] = bars m n := by
  unfold inV bars
  simp only [List.any_cons, List.any_nil, eqV, beq_str, Bool.or_false]
theorem in_enough (o : Option Str) (m : Str) : inV (hasV o) [.str m, .str "write"] = enough o m := by
  cases o with
  | none => rfl
  | some h =>
    unfold inV enough hasV
    simp only [List.any_cons, List.any_nil, eqV, beq_str, Bool.or_false]
    rw [decide_eq_decide.mpr (show m = h ↔ h = m from eq_comm), decide_eq_decide.mpr (show "write" = h ↔ h = "write" from eq_comm)]
theorem lex_outl {s : HS} {o d a b : Int} (c : s.bnd o = false) (ha : s.ages o = some a) (hb : s.ages d = some b) : HT.lexLt [a, o] [b, d] = outl s o d := by
  unfold outl
  rw [c, ha, hb]
  show (if a = b then (if o = d then false else decide (o < d)) else decide (a < b)) = (false || (decide (a < b) || (decide (a = b) && decide (o < d))))
  by_cases e : a = b
  · rw [if_pos e]
    by_cases f : o = d
    · rw [if_pos f]; subst e f; simp
    · rw [if_neg f]; subst e; simp
  · rw [if_neg e]; simp [e]
theorem iteNDF {c A B : Prop} [Decidable c] (h : c) (b : B) : if (!decide c) = true then A else B := by
  rw [decide_eq_true h]
  exact iteF b
theorem lock_same {H H2 : Hp} {a : Addr} {od : Obj} {u : HO} (e : H a = some u) (s : Same (upd H a (.frz od u)) H2) : Same H (upd H2 a u) := fun b o z => by
  by_cases c : b = a
  · subst c
    rw [upd_same, ← z]
    exact e.symm
  · rw [upd_ne c]
    exact s _ _ (by rw [upd_ne c]; exact z)
theorem Good.ints {U : Un} {kv : List (Key × V)} (g : Good U.di kv) : ∃ ns : List Int, kv.map (·.1) = ns.map Sum.inl := by
  have h : ∀ p ∈ kv, ∃ i, p.1 = Sum.inl i := fun p hp => by
    obtain ⟨i, _, e⟩ := List.mem_map.mp (g.ks p hp)
    exact ⟨i, e.symm⟩
  clear g
  induction kv with
  | nil => exact ⟨[], rfl⟩
  | cons p r ih =>
    obtain ⟨ns, e⟩ := ih fun q hq => h q (List.mem_cons_of_mem _ hq)
    obtain ⟨i, ei⟩ := h p (List.mem_cons_self ..)
    exact ⟨i :: ns, by rw [List.map_cons, List.map_cons, e, ei]⟩
theorem Good.strs {U : Un} {kv : List (Key × V)} (g : Good U.ki kv) : ∃ ns : List Str, kv.map (·.1) = ns.map Sum.inr := by
  have h : ∀ p ∈ kv, ∃ i, p.1 = Sum.inr i := fun p hp => by
    obtain ⟨i, _, e⟩ := List.mem_map.mp (g.ks p hp)
    exact ⟨i, e.symm⟩
  clear g
  induction kv with
  | nil => exact ⟨[], rfl⟩
  | cons p r ih =>
    obtain ⟨ns, e⟩ := ih fun q hq => h q (List.mem_cons_of_mem _ hq)
    obtain ⟨i, ei⟩ := h p (List.mem_cons_self ..)
    exact ⟨i :: ns, by rw [List.map_cons, List.map_cons, e, ei]⟩
theorem key_at {α : Type} {f : α → Key} {kv : List (Key × V)} {ns : List α} (h : kv.map (·.1) = ns.map f) {i : Nat} {key : Key} {v : V} (e : kv[i]? = some (key, v)) : ∃ j, ns[i]? = some j ∧ key = f j := by
  have z : (kv.map (·.1))[i]? = some key := by rw [List.getElem?_map, e]; rfl
  rw [h, List.getElem?_map] at z
  obtain ⟨j, hj, e2⟩ := Option.map_eq_some_iff.mp z
  exact ⟨j, hj, e2.symm⟩
theorem take_filter {p : Int → Bool} {ns : List Int} {i : Nat} {j : Int} (h : ns[i]? = some j) : (ns.take (i + 1)).filter p = (ns.take i).filter p ++ (if p j = true then [j] else []) := by
  rw [List.take_add_one, h, List.filter_append]
  congr 1
  show [j].filter p = _
  rw [List.filter_cons]
  rfl
theorem ints_len {U : Un} {kv : List (Key × V)} {ns : List Int} (h : kv.map (·.1) = ns.map Sum.inl) (g : Good U.di kv) (l : U.ds.length ≤ 60) : ns.length ≤ 60 := by
  have z := congrArg List.length h
  rw [List.length_map, List.length_map] at z
  rw [← z]
  exact Un.lenI g l
theorem strs_len {U : Un} {kv : List (Key × V)} {ns : List Str} (h : kv.map (·.1) = ns.map Sum.inr) (g : Good U.ki kv) (l : U.ks.length ≤ 60) : ns.length ≤ 60 := by
  have z := congrArg List.length h
  rw [List.length_map, List.length_map] at z
  rw [← z]
  exact Un.lenS g l
theorem nodup_unmap {α β : Type} {f : α → β} : ∀ {l : List α}, (l.map f).Nodup → l.Nodup
  | [], _ => by simp
  | a :: l, h => by
    rw [List.map_cons, List.nodup_cons] at h
    rw [List.nodup_cons]
    exact ⟨fun z => h.1 (List.mem_map_of_mem z), nodup_unmap h.2⟩
theorem ints_nd {us : List Key} {kv : List (Key × V)} {α : Type} {f : α → Key} {ns : List α} (h : kv.map (·.1) = ns.map f) (g : Good us kv) : ns.Nodup := nodup_unmap (f := f) (h ▸ g.nd)
theorem ints_mem {kv : List (Key × V)} {ns : List Int} (h : kv.map (·.1) = ns.map Sum.inl) {i : Int} (z : (Sum.inl i : Key) ∈ kv.map (·.1)) : i ∈ ns := by
  rw [h] at z
  obtain ⟨j, hj, e⟩ := List.mem_map.mp z
  cases e
  exact hj
theorem strs_mem {kv : List (Key × V)} {ns : List Str} (h : kv.map (·.1) = ns.map Sum.inr) {i : Str} (z : (Sum.inr i : Key) ∈ kv.map (·.1)) : i ∈ ns := by
  rw [h] at z
  obtain ⟨j, hj, e⟩ := List.mem_map.mp z
  cases e
  exact hj
section
variable {C : Addr} {U : Un} {S : Addr → Prop} {H : Hp} {x : Addr} {A : HA} {s : HS} {kv : List (Key × V)} {Q : VK} {z : V} {d : Int}
theorem upd_lv {H : Hp} {q b : Addr} {u : HO} (e : upd H q u b = none) : H b = none := by
  rw [upd_app] at e
  by_cases c : b = q
  · rw [if_pos c] at e; cases e
  · rw [if_neg c] at e; exact e
theorem nx_upd {q : Addr} {u : HO} {s' : HS} (h : HoldsAt C U S (upd H q u) x A s') (hq : S q) : Nx C U S H x A s' S (upd H q u) := ⟨h, fun _ z => .inl z, fun b o n e => by
  rw [upd_ne (fun y : b = q => n (y ▸ hq))]
  exact e, fun b e => upd_lv e⟩
theorem HoldsAt.popK (h : HoldsAt C U S H x A s) (e : H A.k = some (.dK kv)) (hq : ∀ v H1, Nx C U S H x A (s.noAsk d) S H1 → (∀ b, b ≠ A.k → H1 b = H b) → Q v H1) :
    (∀ v, valV kv (Sum.inl d) = some v → Q v (upd H A.k (.dK (L2.dropK kv (Sum.inl d))))) ∧ (valV kv (Sum.inl d) = none → Q z H) := by
  refine ⟨fun v _ => hq v _ (nx_upd (h.dropK d e) h.own.2.2.2.1) fun b n => upd_ne n, fun n => hq z H (Nx.refl ?_) fun _ _ => rfl⟩
  obtain ⟨tf, ht⟩ := h.ak
  obtain ⟨kv0, e0, gd, hv⟩ := ht.d
  rw [e] at e0
  cases e0
  rw [hv] at n
  have n' : (tf d).map V.ref = none := n
  rw [noAsk_none s (ht.no d (Option.map_eq_none_iff.mp n'))]
  exact h
theorem HoldsAt.popH (h : HoldsAt C U S H x A s) (e : H A.h = some (.dK kv)) (hq : ∀ v H1, Nx C U S H x A (s.noHeld d) S H1 → (∀ b, b ≠ A.h → H1 b = H b) → (∀ i, i ≠ d → hv H1 A i = hv H A i) → Q v H1) :
    (∀ v, valV kv (Sum.inl d) = some v → Q v (upd H A.h (.dK (L2.dropK kv (Sum.inl d))))) ∧ (valV kv (Sum.inl d) = none → Q z H) := by
  refine ⟨fun v _ => hq v _ (nx_upd (h.dropH d e) h.own.2.1) (fun b n => upd_ne n) fun i hi => ?_, fun n => hq z H (Nx.refl ?_) (fun _ _ => rfl) fun _ _ => rfl⟩
  · unfold hv
    rw [upd_same, e]
    show valV (L2.dropK kv (Sum.inl d)) (Sum.inl i) = valV kv (Sum.inl i)
    rw [val_drop, if_neg (fun y => hi (Sum.inl.inj y))]
  · obtain ⟨tf, ht⟩ := h.hd
    obtain ⟨kv0, e0, gd, hv⟩ := ht.d
    rw [e] at e0
    cases e0
    rw [hv] at n
    have n' : (tf d).map V.ref = none := n
    rw [noHeld_none s (ht.no d (Option.map_eq_none_iff.mp n'))]
    exact h
theorem HoldsAt.popG (h : HoldsAt C U S H x A s) (e : H A.g = some (.dK kv)) (hq : ∀ v H1, Nx C U S H x A (s.noAge d) S H1 → Q v H1) :
    (∀ v, valV kv (Sum.inl d) = some v → Q v (upd H A.g (.dK (L2.dropK kv (Sum.inl d))))) ∧ (valV kv (Sum.inl d) = none → Q z H) := by
  obtain ⟨kv0, e0, gd, hv⟩ := h.ag
  rw [e] at e0
  cases e0
  have key : ∀ k, kI (fun j => if j = d then none else vI s.ages j) k = kI (vI (fun i => if i = d then none else s.ages i)) k := fun k => by
    cases k with
    | inl i => show (if i = d then none else vI s.ages i) = Option.map V.int (if i = d then none else s.ages i); unfold vI; by_cases c : i = d <;> simp [c]
    | inr _ => rfl
  refine ⟨fun v _ => hq v _ (nx_upd (h.putG e (gd.drop _) fun k => (kI_drop hv d k).trans (key k)) h.own.2.2.1), fun n => hq z H (Nx.refl ?_)⟩
  have y : s.noAge d = s := by
    unfold HS.noAge
    have : (fun i => if i = d then .none else s.ages i) = s.ages := by
      funext i
      by_cases c : i = d
      · subst c
        rw [hv] at n
        have n' : (s.ages i).map V.int = none := n
        rw [if_pos rfl, Option.map_eq_none_iff.mp n']
      · rw [if_neg c]
    rw [this]
  rw [y]
  exact h
theorem vB_not {f : Int → Bool} {i : Int} (h : vB f i = none) : f i = false := by
  unfold vB at h
  cases e : f i with
  | false => rfl
  | true => rw [e, if_pos rfl] at h; cases h
theorem vB_drop (f : Int → Bool) (d : Int) (k : Key) : kI (fun j => if j = d then none else vB f j) k = kI (vB (fun i => if i = d then false else f i)) k := by
  cases k with
  | inl i => show (if i = d then none else vB f i) = vB (fun i => if i = d then false else f i) i; unfold vB; by_cases c : i = d <;> simp [c]
  | inr _ => rfl
theorem vB_put (f : Int → Bool) (d : Int) (k : Key) : kI (fun j => if j = d then some (.bl true) else vB f j) k = kI (vB (fun i => if i = d then true else f i)) k := by
  cases k with
  | inl i => show (if i = d then some (.bl true) else vB f i) = vB (fun i => if i = d then true else f i) i; unfold vB; by_cases c : i = d <;> simp [c]
  | inr _ => rfl
theorem off_same {f : Int → Bool} {d : Int} (h : f d = false) : (fun i => if i = d then false else f i) = f := by
  funext i
  by_cases c : i = d
  · subst c; rw [if_pos rfl, h]
  · rw [if_neg c]
theorem HoldsAt.popB (h : HoldsAt C U S H x A s) (e : H A.b = some (.dK kv)) (hq : ∀ v H1, Nx C U S H x A (s.noBnd d) S H1 → Q v H1) :
    (∀ v, valV kv (Sum.inl d) = some v → Q v (upd H A.b (.dK (L2.dropK kv (Sum.inl d))))) ∧ (valV kv (Sum.inl d) = none → Q z H) := by
  obtain ⟨kv0, e0, gd, hv⟩ := h.bd
  rw [e] at e0
  cases e0
  refine ⟨fun v _ => hq v _ (nx_upd (h.putB e (gd.drop _) fun k => (kI_drop hv d k).trans (vB_drop _ _ k)) h.own.2.2.2.2.2), fun n => hq z H (Nx.refl ?_)⟩
  rw [hv] at n
  have y : s.noBnd d = s := by unfold HS.noBnd; rw [off_same (vB_not n)]
  rw [y]
  exact h
theorem HoldsAt.popO (h : HoldsAt C U S H x A s) (e : H A.o = some (.dK kv)) (hq : ∀ v H1, Nx C U S H x A (s.noOff d) S H1 → Q v H1) :
    (∀ v, valV kv (Sum.inl d) = some v → Q v (upd H A.o (.dK (L2.dropK kv (Sum.inl d))))) ∧ (valV kv (Sum.inl d) = none → Q z H) := by
  obtain ⟨kv0, e0, gd, hv⟩ := h.of
  rw [e] at e0
  cases e0
  refine ⟨fun v _ => hq v _ (nx_upd (h.putO e (gd.drop _) fun k => (kI_drop hv d k).trans (vB_drop _ _ k)) h.own.2.2.2.2.1), fun n => hq z H (Nx.refl ?_)⟩
  rw [hv] at n
  have y : s.noOff d = s := by unfold HS.noOff; rw [off_same (vB_not n)]
  rw [y]
  exact h
theorem HoldsAt.setOffN (h : HoldsAt C U S H x A s) (hd : d ∈ U.ds) (e : H A.o = some (.dK kv)) (g : Good U.di kv) (v : ∀ k, valV kv k = kI (vB s.offs) k) : Nx C U S H x A (s.setOff d) S (upd H A.o (.dK (L2.putK kv (Sum.inl d) (.bl true)))) :=
  nx_upd (h.putO e (g.put (Un.inI hd) _) fun k => (kI_put v d _ k).trans (vB_put _ _ k)) h.own.2.2.2.2.1
theorem HoldsAt.setBndN (h : HoldsAt C U S H x A s) (hd : d ∈ U.ds) (e : H A.b = some (.dK kv)) (g : Good U.di kv) (v : ∀ k, valV kv k = kI (vB s.bnd) k) : Nx C U S H x A (s.setBnd d) S (upd H A.b (.dK (L2.putK kv (Sum.inl d) (.bl true)))) :=
  nx_upd (h.putB e (g.put (Un.inI hd) _) fun k => (kI_put v d _ k).trans (vB_put _ _ k)) h.own.2.2.2.2.2
theorem HoldsAt.setAgeN (h : HoldsAt C U S H x A s) (hd : d ∈ U.ds) (e : H A.g = some (.dK kv)) (g : Good U.di kv) (v : ∀ k, valV kv k = kI (vI s.ages) k) (a : Int) : Nx C U S H x A (s.setAge d a) S (upd H A.g (.dK (L2.putK kv (Sum.inl d) (.int a)))) :=
  nx_upd (h.putG e (g.put (Un.inI hd) _) fun k => (kI_put v d _ k).trans (by
    cases k with
    | inl i => show (if i = d then some (.int a) else vI s.ages i) = Option.map V.int (if i = d then some a else s.ages i); unfold vI; by_cases c : i = d <;> simp [c]
    | inr _ => rfl)) h.own.2.2.1
/-- held.get(d, {}) -/
theorem HoldsAt.mine (h : HoldsAt C U S H x A s) (e : H A.h = some (.dK kv)) {D : Addr} (n : H D = none) : ∃ r kr, (valV kv (Sum.inl d)).getD (.ref D) = .ref r ∧ (upd H D (.dK [])) r = some (.dK kr) ∧ Good U.ki kr ∧ (∀ z, valV kr z = kS (vS (s.held d)) z) ∧ ((valV kv (Sum.inl d) = some (.ref r) ∧ r ≠ D) ∨ (valV kv (Sum.inl d) = none ∧ r = D)) := by
  obtain ⟨rf, ht⟩ := h.hd
  obtain ⟨kv0, e0, gd, hv⟩ := ht.d
  rw [e] at e0
  cases e0
  cases c : rf d with
  | none =>
    have y : valV kv (Sum.inl d) = none := by rw [hv]; show (rf d).map V.ref = none; rw [c]; rfl
    refine ⟨D, [], by rw [y]; rfl, upd_same, Good.nil _, fun z => ?_, .inr ⟨y, rfl⟩⟩
    rw [ht.no d c]
    cases z <;> rfl
  | some r =>
    have y : valV kv (Sum.inl d) = some (.ref r) := by rw [hv]; show (rf d).map V.ref = _; rw [c]; rfl
    obtain ⟨_, _, kr, er, gr, vr⟩ := ht.yes d r c
    have nr := ne_of_none er n
    exact ⟨r, kr, by rw [y]; rfl, by rw [upd_ne nr]; exact er, gr, vr, .inl ⟨y, nr⟩⟩
end
section
variable {J : It} {n : Nat} {G : Hp → Prop} {Y : Nat → Hp → V → Hp → Prop}
theorem dc_it (w : Walk J n G Y) {g : TG} {tt : TT} {tk tv : TE} {vs : List Nat} {σ : L2.St} {H1 : Hp} {D : Addr} {Qd : Hp → Prop} (Pv : Nat → Hp → Prop) (h0 : Pv 0 (upd H1 D (.dK []))) (hG : ∀ i H, i ≤ n → Pv i H → G H)
    (hs : ∀ i x H H', i < n → Pv i H → Y i H x H' → g x (wipe σ vs) H' fun σ2 H2 => wipe σ2 vs = wipe σ vs ∧ tt σ2 H2 fun b H3 =>
      if b = true then tk σ2 H3 fun y H4 => tv σ2 H4 fun z H5 => ∃ kvs k, y = kV k ∧ H5 D = some (.dK kvs) ∧ kvs.length < sizeLine ∧ Pv (i + 1) (upd H5 D (.dK (putK kvs k z))) else Pv (i + 1) H3) (hd : ∀ H, Pv n H → Qd H) :
    ∃ W : Nat → Nat → Hp → Prop, (∃ m, W 0 m (upd H1 D (.dK []))) ∧ ∀ i m H, W i m H →
      (J.stop i H ∧ Qd H) ∨ (J.go i H ∧ ∃ Nx : Hp → Prop, (∀ H', Nx H' → ∃ m', m' < m ∧ W (i + 1) m' H') ∧ ∀ x H', J.yld i H x H' → g x (wipe σ vs) H' fun σ2 H2 => wipe σ2 vs = wipe σ vs ∧ tt σ2 H2 fun b H3 =>
        if b = true then tk σ2 H3 fun y H4 => tv σ2 H4 fun z H5 => ∃ kvs k, y = kV k ∧ H5 D = some (.dK kvs) ∧ kvs.length < sizeLine ∧ Nx (upd H5 D (.dK (putK kvs k z))) else Nx H3) := by
  refine ⟨fun i m H => m = n - i ∧ i ≤ n ∧ Pv i H, ⟨n, by simp, Nat.zero_le _, h0⟩, ?_⟩
  rintro i m H ⟨rfl, hi, p⟩
  have q := hG i H hi p
  by_cases hlt : i < n
  · refine .inr ⟨w.goes i H hlt q, Pv (i + 1), fun H' p' => ⟨n - (i + 1), by omega, rfl, hlt, p'⟩, fun x H' y => hs i x H H' hlt p (w.yields i H x H' hlt q y)⟩
  · have e : i = n := by omega
    subst e
    exact .inl ⟨w.stops H q, hd H p⟩
end
theorem take_notin {α : Type} : ∀ {l : List α} {i : Nat} {x : α}, l.Nodup → l[i]? = some x → ¬ x ∈ l.take i
  | [], _, _, _, h => by simp at h
  | a :: l, 0, x, _, h => by simp
  | a :: l, i + 1, x, nd, h => by
    rw [List.nodup_cons] at nd
    rw [List.take_succ_cons]
    intro z
    have h' : l[i]? = some x := by simpa using h
    rcases List.mem_cons.mp z with e | e
    · exact nd.1 (e ▸ List.mem_of_getElem? h')
    · exact take_notin nd.2 h' e
theorem val_keys {kv : List (Key × V)} {k : Key} (h : ¬ k ∈ kv.map (·.1)) : valV kv k = none := by
  cases e : valV kv k with
  | none => rfl
  | some v => exact absurd (valV_in e) h
theorem ofKv_put {s : HS} {d : Int} {ys : List Str} {i : Nat} {k m : Str} (hm : s.held d k = some m) (nd : ys.Nodup) (h : ys[i]? = some k) : putK (ofKv s d (ys.take i)) (Sum.inr k) (.str m) = ofKv s d (ys.take (i + 1)) := by
  rw [putK_new, List.take_add_one, h]
  · unfold ofKv
    rw [List.map_append]
    congr 1
    show _ = [(Sum.inr k, V.str ((s.held d k).getD ""))]
    rw [hm]
    rfl
  · refine val_keys fun z => ?_
    unfold ofKv at z
    rw [List.map_map] at z
    obtain ⟨y, hy, e⟩ := List.mem_map.mp z
    have e' : y = k := Sum.inr.inj e
    exact take_notin nd h (e' ▸ hy)
theorem putF_le (f : Str) (v : V) : ∀ l : List (Str × V), (putF f v l).length ≤ l.length + 1
  | [] => by show 1 ≤ 1; decide
  | p :: l => by
    have ih := putF_le f v l
    simp only [putF]
    split
    · simp
    · simp only [List.length_cons]; omega
theorem few0 : ([] : List (Str × V)).length ≤ 0 := by simp
theorem few_up {l : List (Str × V)} {n : Nat} (h : l.length ≤ n) (f : Str) (v : V) : (putF f v l).length ≤ n + 1 := Nat.le_trans (putF_le f v l) (by omega)
theorem IsL.filter {p q : Int → Bool} {l : List Int} (h : IsL p l) : IsL (fun o => p o && q o) (l.filter q) := ⟨h.up.sublist (List.filter_sublist (l := l)), fun i => by
  rw [List.mem_filter, h.mem, Bool.and_eq_true]⟩
def kvW (ws : List (Int × Addr × List Int)) : List (Key × V) := ws.map fun w => (Sum.inl w.1, V.ref w.2.1)
theorem kvW_put {ws : List (Int × Addr × List Int)} {d : Int} {p : Addr} {os : List Int} (h : ¬ d ∈ ws.map (·.1)) : putK (kvW ws) (Sum.inl d) (.ref p) = kvW (ws ++ [(d, p, os)]) := by
  rw [putK_new]
  · unfold kvW
    rw [List.map_append]
    rfl
  · refine val_keys fun z => h ?_
    unfold kvW at z
    rw [List.map_map] at z
    obtain ⟨w, hw, e⟩ := List.mem_map.mp z
    have e' : w.1 = d := Sum.inl.inj e
    exact List.mem_map.mpr ⟨w, hw, e'⟩
/-- what is told of the first askers -/
structure WaitJ (s : HS) (ds : List Int) (ws : List (Int × Addr × List Int)) : Prop where
  sub : (ws.map (·.1)).Sublist ds
  to : ∀ w ∈ ws, ∃ k m, s.asks w.1 = some (k, m) ∧ IsL (fun o => bar s w.1 k m o && outl s o w.1) w.2.2 ∧ w.2.2 ≠ []
  of : ∀ d ∈ ds, ∀ k m, s.asks d = some (k, m) → (∃ o, (bar s d k m o && outl s o d) = true) → d ∈ ws.map (·.1)
theorem WaitJ.no {s : HS} {ds : List Int} {ws : List (Int × Addr × List Int)} {d : Int} {k m : Str} (h : WaitJ s ds ws) (e : s.asks d = some (k, m)) (n : IsL (fun o => bar s d k m o && outl s o d) []) : WaitJ s (ds ++ [d]) ws := by
  refine ⟨h.sub.trans (List.sublist_append_left ..), h.to, fun d' hd' k' m' e' ⟨o, ho⟩ => ?_⟩
  rcases List.mem_append.mp hd' with z | z
  · exact h.of d' z k' m' e' ⟨o, ho⟩
  · rw [List.mem_singleton.mp z] at e' ho
    rw [e] at e'
    cases e'
    exact absurd ((n.mem o).mpr ho) (by simp)
theorem WaitJ.yes {s : HS} {ds : List Int} {ws : List (Int × Addr × List Int)} {d : Int} {k m : Str} {p : Addr} {os : List Int} (h : WaitJ s ds ws) (e : s.asks d = some (k, m)) (n : IsL (fun o => bar s d k m o && outl s o d) os) (hne : os ≠ []) : WaitJ s (ds ++ [d]) (ws ++ [(d, p, os)]) := by
  refine ⟨?_, fun w hw => ?_, fun d' hd' k' m' e' ho => ?_⟩
  · rw [List.map_append]
    exact h.sub.append (List.Sublist.refl _)
  · rcases List.mem_append.mp hw with z | z
    · exact h.to w z
    · rw [List.mem_singleton.mp z]
      exact ⟨k, m, e, n, hne⟩
  · rw [List.map_append]
    rcases List.mem_append.mp hd' with z | z
    · exact List.mem_append_left _ (h.of d' z k' m' e' ho)
    · rw [List.mem_singleton.mp z]
      exact List.mem_append_right _ (by simp)
theorem aged_some (s : HS) {d a : Int} {age : Option Int} (h : s.ages d = some a) : s.aged d age = s := by unfold HS.aged; rw [h]
theorem aged_none (s : HS) {d : Int} {age : Option Int} (h : s.ages d = none) : s.aged d age = s.setAge d (age.getD d) := by unfold HS.aged; rw [h]
theorem aged_held (s : HS) (d : Int) (age : Option Int) : (s.aged d age).held = s.held := by unfold HS.aged; split <;> rfl
theorem aged_asks (s : HS) (d : Int) (age : Option Int) : (s.aged d age).asks = s.asks := by unfold HS.aged; split <;> rfl
theorem aged_offs (s : HS) (d : Int) (age : Option Int) : (s.aged d age).offs = s.offs := by unfold HS.aged; split <;> rfl
theorem aged_bnd (s : HS) (d : Int) (age : Option Int) : (s.aged d age).bnd = s.bnd := by unfold HS.aged; split <;> rfl
theorem aged_age (s : HS) (d : Int) (age : Option Int) : ∃ a, (s.aged d age).ages d = some a := by
  cases n : s.ages d with
  | some b => rw [aged_some s n]; exact ⟨b, n⟩
  | none =>
    rw [aged_none s n]
    exact ⟨_, by show (if d = d then _ else _) = _; rw [if_pos rfl]⟩
theorem aged_ages (s : HS) (d : Int) (age : Option Int) {o a : Int} (h : s.ages o = some a) : (s.aged d age).ages o = some a := by
  cases n : s.ages d with
  | some b => rw [aged_some s n]; exact h
  | none =>
    rw [aged_none s n]
    show (if o = d then _ else s.ages o) = _
    by_cases c : o = d
    · rw [c, n] at h; cases h
    · rw [if_neg c]; exact h
theorem WF.aged {s : HS} (h : WF s) (d : Int) (age : Option Int) : WF (s.aged d age) := by
  refine ⟨fun o k v e => ?_, fun o k m e => ?_⟩
  · rw [aged_held] at e
    rw [aged_bnd]
    rcases h.h o k v e with z | ⟨a, z⟩
    · exact .inl z
    · exact .inr ⟨a, aged_ages s d age z⟩
  · rw [aged_asks] at e
    obtain ⟨a, z⟩ := h.a o k m e
    exact ⟨a, aged_ages s d age z⟩
section
variable {C : Addr} {U : Un} {S : Addr → Prop} {H : Hp} {x : Addr} {A : HA} {s : HS} {d : Int} {r : Addr}
theorem HoldsAt.mineAt (h : HoldsAt C U S H x A s) (e : hv H A d = some (.ref r)) : ∃ kv kr, H A.h = some (.dK kv) ∧ valV kv (Sum.inl d) = some (.ref r) ∧ H r = some (.dK kr) ∧ Good U.ki kr ∧ (∀ z, valV kr z = kS (vS (s.held d)) z) := by
  obtain ⟨rf, ht⟩ := h.hd
  obtain ⟨kv, ek, gd, vv⟩ := ht.d
  unfold hv at e
  rw [ek] at e
  have e' : valV kv (Sum.inl d) = some (.ref r) := e
  have e2 := e'
  rw [vv] at e2
  have e3 : (rf d).map V.ref = some (.ref r) := e2
  obtain ⟨r', hr, er⟩ := Option.map_eq_some_iff.mp e3
  cases er
  obtain ⟨_, _, kr, ekr, gr, vr⟩ := ht.yes d r hr
  exact ⟨kv, kr, ek, e', ekr, gr, vr⟩
end
theorem bar_ne {s : HS} {d o : Int} {k m : Str} (h : bar s d k m o = true) : o ≠ d := fun e => by
  unfold bar at h
  rw [decide_eq_true e] at h
  cases h
theorem bar_held {s : HS} {d o : Int} {k m : Str} (h : bar s d k m o = true) : ∃ n, s.held o k = some n ∧ bars m n = true := by
  unfold bar at h
  rw [Bool.and_eq_true] at h
  cases e : s.held o k with
  | none => rw [e] at h; cases h.2
  | some n => rw [e] at h; exact ⟨n, rfl, h.2⟩
theorem offL_held {s : HS} {l : List Int} {d : Int} (h : ¬ d ∈ l) : (s.offL l).held d = s.held d := by
  show (if d ∈ l then _ else s.held d) = _
  rw [if_neg h]
theorem getD_has (o : Option Str) : (o.map V.str).getD .non = hasV o := by cases o <;> rfl
theorem HoldsAt.inU {C : Addr} {U : Un} {S : Addr → Prop} {H : Hp} {x : Addr} {A : HA} {s : HS} (h : HoldsAt C U S H x A s) {o : Int} {k v : Str} (e : s.held o k = some v) : o ∈ U.ds := by
  obtain ⟨rf, ht⟩ := h.hd
  obtain ⟨kv, ek, gd, vv⟩ := ht.d
  cases c : rf o with
  | none => rw [ht.no o c] at e; cases e
  | some r =>
    have y : valV kv (Sum.inl o) = some (.ref r) := by rw [vv]; show (rf o).map V.ref = _; rw [c]; rfl
    obtain ⟨i, hi, ei⟩ := List.mem_map.mp (gd.ks _ (val_mem y))
    cases ei
    exact hi
theorem HoldsAt.rS {C : Addr} {U : Un} {S : Addr → Prop} {H : Hp} {x : Addr} {A : HA} {s : HS} (h : HoldsAt C U S H x A s) {d : Int} {r : Addr} (e : hv H A d = some (.ref r)) : S r ∧ ∀ q, q ∈ A.all → q ≠ r := by
  obtain ⟨rf, ht⟩ := h.hd
  obtain ⟨kv, ek, gd, vv⟩ := ht.d
  unfold hv at e
  rw [ek] at e
  have e' : valV kv (Sum.inl d) = some (.ref r) := e
  rw [vv] at e'
  have e3 : (rf d).map V.ref = some (.ref r) := e'
  obtain ⟨r', hr, er⟩ := Option.map_eq_some_iff.mp e3
  cases er
  exact ⟨(ht.yes d r hr).1, fun q hq z => (ht.yes d r hr).2.1 (z ▸ hq)⟩
/-- an asking noted -/
theorem Nx.asked {C : Addr} {U : Un} {S : Addr → Prop} {H : Hp} {x : Addr} {A : HA} {s : HS} (h : HoldsAt C U S H x A s) {d : Int} {t : Addr} {k m : Str} {kv : List (Key × V)} (ek : H A.k = some (.dK kv)) (hd : d ∈ U.ds) (nt : H t = none) :
    Nx C U S H x A (s.setAsk d k m) (fun b => S b ∨ b = t) (upd (upd H t (.tup [.str k, .str m])) A.k (.dK (putK kv (Sum.inl d) (.ref t)))) := by
  have nk := ne_of_none ek nt
  have h1 : HoldsAt C U S (upd H t (.tup [.str k, .str m])) x A s := h.same (same_new (Same.refl H) nt)
  refine ⟨h1.putK (by rw [upd_ne nk]; exact ek) hd upd_same, fun b z => ?_, fun b o n e => ?_, fun b e => upd_lv (upd_lv e)⟩
  · rcases z with z | rfl
    · exact .inl z
    · exact .inr nt
  · rw [upd_ne (fun z : b = A.k => n (z ▸ h.own.2.2.2.1)), upd_ne (ne_of_none e nt)]
    exact e
theorem dpall_ints {K : PySem.W.Frag} {H : Hp} : ∀ (ns : List Int), DpAll K H (ns.map V.int) (ns.map PyData.int)
  | [] => .nil
  | n :: r => .cons (.int n) (dpall_ints r)
theorem all_flat (ns : List Int) : (ns.map V.int).all flatV = true := by
  rw [List.all_map, List.all_eq_true]
  intro x _
  rfl
theorem all_flatS (ns : List Str) : (ns.map V.str).all flatV = true := by
  rw [List.all_map, List.all_eq_true]
  intro x _
  rfl
theorem in_ints (d : Int) (ns : List Int) : inV (.int d) (ns.map V.int) = decide (d ∈ ns) := by
  unfold inV
  rw [List.any_map]
  by_cases c : d ∈ ns
  · rw [decide_eq_true c, List.any_eq_true]
    exact ⟨d, c, by simp [eqV]⟩
  · rw [decide_eq_false c, List.any_eq_false]
    intro x hx
    simp only [Function.comp, eqV, beq_iff_eq]
    intro e
    exact c (e ▸ hx)
theorem in_strs (d : Str) (ns : List Str) : inV (.str d) (ns.map V.str) = decide (d ∈ ns) := by
  unfold inV
  rw [List.any_map]
  by_cases c : d ∈ ns
  · rw [decide_eq_true c, List.any_eq_true]
    exact ⟨d, c, by simp [eqV]⟩
  · rw [decide_eq_false c, List.any_eq_false]
    intro x hx
    simp only [Function.comp, eqV, beq_iff_eq]
    intro e
    exact c (e ▸ hx)
theorem eqv_nil (ns : List Int) : PyData.eqv (.list (ns.map PyData.int)) (.list []) = ns.isEmpty := by
  cases ns <;> simp [PyData.eqv, PyData.eqvAll]
theorem val_map {α : Type} {f : α → Key} {g : α → V} (inj : ∀ a b, f a = f b → a = b) {l : List α} {a : α} (h : a ∈ l) : valV (l.map fun x => (f x, g x)) (f a) = some (g a) := by
  induction l with
  | nil => cases h
  | cons b r ih =>
    rw [List.map_cons]
    by_cases c : b = a
    · subst c; exact valV_pos (p := (f b, g b)) rfl
    · rw [valV_neg (p := (f b, g b)) (fun z => c (inj _ _ z))]
      exact ih ((List.mem_cons.mp h).resolve_left (Ne.symm c))
theorem ofKv_val {s : HS} {d : Int} {ks : List Str} (mem : ∀ k, k ∈ ks ↔ (s.held d k).isSome = true) (k : Str) : valV (ofKv s d ks) (Sum.inr k) = (s.held d k).map V.str := by
  cases e : s.held d k with
  | none =>
    refine val_keys fun z => ?_
    unfold ofKv at z
    rw [List.map_map] at z
    obtain ⟨y, hy, ey⟩ := List.mem_map.mp z
    have ey' : y = k := Sum.inr.inj ey
    have := (mem y).mp hy
    rw [ey', e] at this
    cases this
  | some m =>
    have := val_map (f := fun k : Str => (Sum.inr k : Key)) (g := fun k => V.str ((s.held d k).getD "")) (fun a b z => Sum.inr.inj z) ((mem k).mpr (by rw [e]; rfl))
    unfold ofKv
    rw [this, e]
    rfl
theorem kvW_val {ws : List (Int × Addr × List Int)} (nd : (ws.map (·.1)).Nodup) {w : Int × Addr × List Int} (h : w ∈ ws) : valV (kvW ws) (Sum.inl w.1) = some (.ref w.2.1) := by
  have z : (kvW ws).map (·.1) = (ws.map (·.1)).map Sum.inl := by unfold kvW; rw [List.map_map, List.map_map]; rfl
  have y : ((kvW ws).map (·.1)).Nodup := by
    rw [z]
    rw [List.nodup_iff_pairwise_ne] at nd ⊢
    rw [List.pairwise_map]
    exact nd.imp fun {a b} h e => h (Sum.inl.inj e)
  exact mem_val y (p := (Sum.inl w.1, V.ref w.2.1)) (List.mem_map.mpr ⟨w, h, rfl⟩)
theorem kvW_has (ws : List (Int × Addr × List Int)) (o : Int) : (valV (kvW ws) (Sum.inl o)).isSome = decide (o ∈ ws.map (·.1)) := by
  have z : (kvW ws).map (·.1) = (ws.map (·.1)).map Sum.inl := by unfold kvW; rw [List.map_map, List.map_map]; rfl
  by_cases c : o ∈ ws.map (·.1)
  · rw [decide_eq_true c]
    cases e : valV (kvW ws) (Sum.inl o) with
    | some v => rfl
    | none => exact absurd (by rw [z]; exact List.mem_map.mpr ⟨o, c, rfl⟩) (val_none e)
  · rw [decide_eq_false c, val_keys]
    · rfl
    · intro y
      rw [z] at y
      obtain ⟨i, hi, e⟩ := List.mem_map.mp y
      cases e
      exact c hi
theorem WaitL.nd {s : HS} {ws : List (Int × Addr × List Int)} (h : WaitL s ws) : (ws.map (·.1)).Nodup := h.up.imp fun {a b} z e => by omega

theorem offL_bar {s : HS} {d : Int} {k m : Str} {off lb : List Int} {ou : Int → Bool} (hl : IsL (bar s d k m) lb) (ho : IsL (fun o => bar s d k m o && !ou o) off) : IsL (bar (s.offL off) d k m) (lb.filter ou) := by
  have h1 : IsL (fun o => bar s d k m o && ou o) (lb.filter ou) := hl.filter
  refine h1.congr fun o => ?_
  have z := ho.mem o
  unfold bar HS.offL at *
  by_cases c : o ∈ off
  · have y := z.mp c
    rw [Bool.and_eq_true, Bool.not_eq_true'] at y
    rw [y.2, Bool.and_false]
    simp only [c, if_true, Bool.and_false]
  · simp only [c, if_false]
    cases e : ou o with
    | true => rw [Bool.and_true]
    | false =>
      rw [Bool.and_false]
      cases e2 : (!decide (o = d) && match s.held o k with
          | none => false
          | some n => bars m n) with
      | false => rfl
      | true => exact absurd (z.mpr (by rw [e2, e]; rfl)) c
theorem split_len (f : Int → Bool) : ∀ l : List Int, (l.filter f).length + (l.filter fun o => !f o).length = l.length
  | [] => rfl
  | a :: r => by
    have ih := split_len f r
    rw [List.filter_cons, List.filter_cons]
    cases f a <;> simp <;> omega

theorem ok_bars {P : Program} {w : World} {K : PySem.W.Frag} {mg : Str → Option Value} {base : Heap} {a : Nat → Addr} {d : Nat → FuncData} (T : Txt K mg a d) : FnOk P w K mg base CX0 1 (a 0) (d 0) ["mode", "other_mode"] spBars := by
  refine T.F_bars.ok sc_bars (fun vs H Q E h => ?_) (fun cdv A outer s0 H vs Q E hr h => ?_)
  · obtain ⟨m, n, rfl, q⟩ := h
    rfl
  · obtain ⟨m, n, rfl, q⟩ := h
    refine ⟨_, (pss_one (ps_ret (pe_or (pe_cmpR op_eq (pv 0) (pe_glob (v := .str "write") (by rfl) (Exists.choose_spec T.g_WRITE) ⟨_, rfl⟩) (nomark _)) (pe_one (pe_cmpR op_eq (pv 1) (pe_glob (v := .str "write") (by rfl) (Exists.choose_spec T.g_WRITE) ⟨_, rfl⟩) (nomark _)))))), ?_⟩
    refine ⟨_, rfl, rfl, _, rfl, ?_⟩
    have e0 : ∀ z : Str, decide (V.str z = V.str "write") = decide (z = "write") := fun z => decide_eq_decide.mpr ⟨fun h => V.str.inj h, fun h => by rw [h]⟩
    have z := q H (Same.refl H)
    unfold bars at z
    rw [e0]
    cases c : decide (m = "write") with
    | true =>
      rw [c] at z
      exact iteT z
    | false =>
      rw [c] at z
      refine iteF ⟨_, rfl, rfl, ?_⟩
      rw [e0]
      exact z

theorem ok_is_enough {P : Program} {w : World} {K : PySem.W.Frag} {mg : Str → Option Value} {base : Heap} {a : Nat → Addr} {d : Nat → FuncData} (T : Txt K mg a d) : FnOk P w K mg base CX0 1 (a 1) (d 1) ["has", "mode"] spEnough := by
  refine T.F_is_enough.ok sc_is_enough (fun vs H Q E h => ?_) (fun cdv A outer s0 H vs Q E hr h => ?_)
  · obtain ⟨o, m, rfl, q⟩ := h
    rfl
  · obtain ⟨o, m, rfl, q⟩ := h
    refine ⟨_, (pss_one (ps_ret (pe_or (pe_cmpR op_eq (pv 0) (pv 1) (nomark _)) (pe_one (pe_cmpR op_eq (pv 0) (pe_glob (v := .str "write") (by rfl) (Exists.choose_spec T.g_WRITE) ⟨_, rfl⟩) (nomark _)))))), ?_⟩
    have e0 : ∀ z y : Str, decide (V.str z = V.str y) = decide (z = y) := fun z y => decide_eq_decide.mpr ⟨fun h => V.str.inj h, fun h => by rw [h]⟩
    have z := q H (Same.refl H)
    cases o with
    | none =>
      refine ⟨_, rfl, _, rfl, rfl, _, rfl, iteF ⟨_, rfl, rfl, ?_⟩⟩
      exact z
    | some h =>
      refine ⟨_, rfl, _, rfl, rfl, _, rfl, ?_⟩
      unfold enough at z
      rw [show decide (hasV (some h) = V.str m) = decide (h = m) from e0 h m]
      cases c : decide (h = m) with
      | true =>
        simp only [c, Bool.true_or] at z
        exact iteT z
      | false =>
        simp only [c, Bool.false_or] at z
        refine iteF ⟨_, rfl, rfl, ?_⟩
        show Q (V.bl (decide (V.str h = V.str "write"))) H
        rw [e0]
        exact z

theorem ok_Holds___init__ {P : Program} {w : World} {K : PySem.W.Frag} {mg : Str → Option Value} {base : Heap} {a : Nat → Addr} {d : Nat → FuncData} (T : Txt K mg a d) : FnOk P w K mg base CX0 1 (a 2) (d 2) ["self"] (spInitH (a 22)) := by
  refine T.F_Holds___init__.ok sc_Holds___init__ (fun vs H Q E h => ?_) (fun cdv A outer s0 H vs Q E hr h => ?_)
  · obtain ⟨x, dx, rfl, hx, q⟩ := h
    rfl
  · obtain ⟨x, dx, rfl, hx, q⟩ := h
    refine ⟨_, (pss_cons (ps_fld (pv 0) pe_dnewK rfl) (pss_cons (ps_fld (pv 0) pe_dnewK rfl) (pss_cons (ps_fld (pv 0) pe_dnewK rfl) (pss_cons (ps_fld (pv 0) pe_dnewK rfl) (pss_cons (ps_fld (pv 0) pe_dnewK rfl) (pss_one (ps_fld (pv 0) pe_bl rfl))))))), ?_⟩
    intro a1 n1
    have x1 : x ≠ a1 := ne_of_none hx n1
    refine ⟨_, rfl, x, _, dx, _, rfl, (by rw [upd_ne x1]; exact hx), T.cl, T.n_held, Nat.lt_of_le_of_lt (few0) (by decide), ?_⟩
    intro a2 n2
    have h1 : H a1 = none := n1
    have z2 := n2
    rw [upd_app] at z2
    have x2 : x ≠ a2 := fun e => by rw [e] at z2; simp at z2
    rw [if_neg (Ne.symm x2), upd_app] at z2
    have a12 : a1 ≠ a2 := fun e => by rw [e] at z2; simp at z2
    rw [if_neg (Ne.symm a12)] at z2
    refine ⟨_, rfl, x, _, dx, _, rfl, (by rw [upd_ne x2]; exact upd_same), T.cl, T.n_ages, Nat.lt_of_le_of_lt (few_up (few0) _ _) (by decide), ?_⟩
    intro a3 n3
    have z3 := n3
    rw [upd_app] at z3
    have x3 : x ≠ a3 := fun e => by rw [e] at z3; simp at z3
    rw [if_neg (Ne.symm x3), upd_app] at z3
    have a23 : a2 ≠ a3 := fun e => by rw [e] at z3; simp at z3
    rw [if_neg (Ne.symm a23), upd_app, if_neg (Ne.symm x3), upd_app] at z3
    have a13 : a1 ≠ a3 := fun e => by rw [e] at z3; simp at z3
    rw [if_neg (Ne.symm a13)] at z3
    refine ⟨_, rfl, x, _, dx, _, rfl, (by rw [upd_ne x3]; exact upd_same), T.cl, T.n_askings, Nat.lt_of_le_of_lt (few_up (few_up (few0) _ _) _ _) (by decide), ?_⟩
    intro a4 n4
    have z4 := n4
    rw [upd_app] at z4
    have x4 : x ≠ a4 := fun e => by rw [e] at z4; simp at z4
    rw [if_neg (Ne.symm x4), upd_app] at z4
    have a34 : a3 ≠ a4 := fun e => by rw [e] at z4; simp at z4
    rw [if_neg (Ne.symm a34), upd_app, if_neg (Ne.symm x4), upd_app] at z4
    have a24 : a2 ≠ a4 := fun e => by rw [e] at z4; simp at z4
    rw [if_neg (Ne.symm a24), upd_app, if_neg (Ne.symm x4), upd_app] at z4
    have a14 : a1 ≠ a4 := fun e => by rw [e] at z4; simp at z4
    rw [if_neg (Ne.symm a14)] at z4
    refine ⟨_, rfl, x, _, dx, _, rfl, (by rw [upd_ne x4]; exact upd_same), T.cl, T.n_offs, Nat.lt_of_le_of_lt (few_up (few_up (few_up (few0) _ _) _ _) _ _) (by decide), ?_⟩
    intro a5 n5
    have z5 := n5
    rw [upd_app] at z5
    have x5 : x ≠ a5 := fun e => by rw [e] at z5; simp at z5
    rw [if_neg (Ne.symm x5), upd_app] at z5
    have a45 : a4 ≠ a5 := fun e => by rw [e] at z5; simp at z5
    rw [if_neg (Ne.symm a45), upd_app, if_neg (Ne.symm x5), upd_app] at z5
    have a35 : a3 ≠ a5 := fun e => by rw [e] at z5; simp at z5
    rw [if_neg (Ne.symm a35), upd_app, if_neg (Ne.symm x5), upd_app] at z5
    have a25 : a2 ≠ a5 := fun e => by rw [e] at z5; simp at z5
    rw [if_neg (Ne.symm a25), upd_app, if_neg (Ne.symm x5), upd_app] at z5
    have a15 : a1 ≠ a5 := fun e => by rw [e] at z5; simp at z5
    rw [if_neg (Ne.symm a15)] at z5
    refine ⟨_, rfl, x, _, dx, _, rfl, (by rw [upd_ne x5]; exact upd_same), T.cl, T.n_bound, Nat.lt_of_le_of_lt (few_up (few_up (few_up (few_up (few0) _ _) _ _) _ _) _ _) (by decide), ?_⟩
    refine ⟨_, rfl, x, _, dx, _, rfl, upd_same, T.cl, T.n_lent, Nat.lt_of_le_of_lt (few_up (few_up (few_up (few_up (few_up (few0) _ _) _ _) _ _) _ _) _ _) (by decide), ?_⟩
    refine q ⟨a1, a2, a3, a4, a5⟩ _ (fun U hU1 hU2 => ⟨fun b => b = x ∨ b = a1 ∨ b = a2 ∨ b = a3 ∨ b = a4 ∨ b = a5, ?_, fun b hb => ?_⟩) (fun b o n e => ?_)
    · have e1 : ∀ {f : Int → Option V}, (∀ i, f i = none) → ∀ k : Key, valV [] k = kI f k := fun h k => by
        cases k with
        | inl i => exact (h i).symm
        | inr _ => rfl
      refine ⟨⟨dx, upd_same⟩, ⟨fun _ => none, ⟨⟨[], ?_, Good.nil _, e1 fun _ => rfl⟩, fun i j r z => (by cases z), fun _ _ => rfl, fun i r z => (by cases z)⟩⟩, ⟨[], ?_, Good.nil _, e1 fun _ => rfl⟩, ⟨fun _ => none, ⟨⟨[], ?_, Good.nil _, e1 fun _ => rfl⟩, fun _ _ => rfl, fun i r z => (by cases z)⟩⟩, ⟨[], ?_, Good.nil _, e1 fun _ => rfl⟩, ⟨[], ?_, Good.nil _, e1 fun _ => rfl⟩, ⟨a12, a13, a14, a15, a23, a24, a25, a34, a35, a45⟩, ⟨.inl rfl, .inr (.inl rfl), .inr (.inr (.inl rfl)), .inr (.inr (.inr (.inl rfl))), .inr (.inr (.inr (.inr (.inl rfl)))), .inr (.inr (.inr (.inr (.inr rfl))))⟩, fun b hb => ?_, ⟨hU1, hU2⟩⟩
      · simp [upd_app, Ne.symm x1, a12, a13, a14, a15]
      · simp [upd_app, Ne.symm x2, a23, a24, a25]
      · simp [upd_app, Ne.symm x3, a34, a35]
      · simp [upd_app, Ne.symm x4, a45]
      · simp [upd_app, Ne.symm x5]
      · rcases hb with rfl | rfl | rfl | rfl | rfl | rfl
        · exact ⟨_, upd_same⟩
        · exact ⟨.dK [], by simp [upd_app, Ne.symm x1, a12, a13, a14, a15]⟩
        · exact ⟨.dK [], by simp [upd_app, Ne.symm x2, a23, a24, a25]⟩
        · exact ⟨.dK [], by simp [upd_app, Ne.symm x3, a34, a35]⟩
        · exact ⟨.dK [], by simp [upd_app, Ne.symm x4, a45]⟩
        · exact ⟨.dK [], by simp [upd_app, Ne.symm x5]⟩
    · rcases hb with rfl | rfl | rfl | rfl | rfl | rfl
      · exact .inl rfl
      · exact .inr h1
      · exact .inr z2
      · exact .inr z3
      · exact .inr z4
      · exact .inr z5
    · have b1 := ne_of_none e h1
      have b2 := ne_of_none e z2
      have b3 := ne_of_none e z3
      have b4 := ne_of_none e z4
      have b5 := ne_of_none e z5
      simp only [upd_app, if_neg n, if_neg b1, if_neg b2, if_neg b3, if_neg b4, if_neg b5]
      exact e

theorem ok_Holds_make_own {P : Program} {w : World} {K : PySem.W.Frag} {mg : Str → Option Value} {base : Heap} {a : Nat → Addr} {d : Nat → FuncData} (T : Txt K mg a d) : FnOk P w K mg base CX0 1 (a 14) (d 14) ["self"] (spOwn (a 22)) := by
  refine T.F_Holds_make_own.ok sc_Holds_make_own (fun vs H Q E h => ?_) (fun cdv A outer s0 H vs Q E hr h => ?_)
  · obtain ⟨x, U, S, A, s, rfl, hh, q⟩ := h
    rfl
  · obtain ⟨x, U, S, A, s, rfl, hh, q⟩ := h
    obtain ⟨dx, hx⟩ := hh.ins
    refine ⟨_, (pss_one (ps_if (pt_truth (pe_fld (pv 0) rfl) (by intro _; rfl)) (pss_cons (ps_fld (pv 0) (pe_callTy call_dictD (by rfl) T.z_dict (by decide +kernel) (pa_cons (pe_fld (pv 0) rfl) pa_nil)) rfl) (pss_cons (ps_fld (pv 0) (pe_callTy call_dictD (by rfl) T.z_dict (by decide +kernel) (pa_cons (pe_fld (pv 0) rfl) pa_nil)) rfl) (pss_cons (ps_fld (pv 0) (pe_callTy call_dictD (by rfl) T.z_dict (by decide +kernel) (pa_cons (pe_fld (pv 0) rfl) pa_nil)) rfl) (pss_cons (ps_fld (pv 0) (pe_callTy call_dictD (by rfl) T.z_dict (by decide +kernel) (pa_cons (pe_fld (pv 0) rfl) pa_nil)) rfl) (pss_cons (ps_fld (pv 0) (pe_callTy call_dictD (by rfl) T.z_dict (by decide +kernel) (pa_cons (pe_fld (pv 0) rfl) pa_nil)) rfl) (pss_one (ps_fld (pv 0) pe_bl rfl))))))) pss_nil)), ?_⟩
    exact ⟨_, rfl, x, _, dx, _, _, rfl, hx, T.cl, T.n_lent, hf_l A, _, rfl, iteF q⟩

theorem ok_Holds_way_of {P : Program} {w : World} {K : PySem.W.Frag} {mg : Str → Option Value} {base : Heap} {a : Nat → Addr} {d : Nat → FuncData} (T : Txt K mg a d) : FnOk P w K mg base CX0 1 (a 15) (d 15) ["self", "dealing", "key"] (spWay (a 22)) := by
  refine T.F_Holds_way_of.ok sc_Holds_way_of (fun vs H Q E h => ?_) (fun cdv A outer s0 H vs Q E hr h => ?_)
  · obtain ⟨x, U, S, A, s, d, k, rfl, hh, q⟩ := h
    rfl
  · obtain ⟨x, U, S, A, s, d, k, rfl, hh, q⟩ := h
    obtain ⟨dx, hx⟩ := hh.ins
    obtain ⟨rf, ht⟩ := hh.hd
    obtain ⟨kv, ek, gd, vv⟩ := ht.d
    refine ⟨_, (pss_cons (ps_set (i := 3) sc_Holds_way_of.nd rfl (Or.inl rfl) (pe_dget1 (hu_of hr) (pe_fld (pv 0) rfl) (pv 1) ⟨rfl, rfl, rfl, rfl⟩)) (pss_one (ps_ret (pe_ifExp (pt_cmpR op_isN (pv 3) pe_non (nomark _)) pe_non (pe_dget1 (hu_of hr) (pv 3) (pv 2) ⟨rfl, rfl, rfl, rfl⟩))))), ?_⟩
    refine ⟨_, rfl, x, _, dx, _, _, rfl, hx, T.cl, T.n_held, hf_h A, A.h, rfl, .inl ⟨kv, .inl ek⟩, _, rfl, _, DGet.k (k := Sum.inl d) ek, ?_⟩
    have e1 : valV kv (Sum.inl d) = (rf d).map V.ref := by rw [vv]; rfl
    rw [e1]
    cases c : rf d with
    | none =>
      have e2 := ht.no d c
      refine ⟨_, rfl, rfl, _, rfl, iteT ?_⟩
      rw [e2] at q
      exact q
    | some r =>
      obtain ⟨_, _, kr, er, gr, vr⟩ := ht.yes d r c
      refine ⟨_, rfl, rfl, _, rfl, iteF ⟨_, rfl, r, rfl, .inl ⟨kr, .inl er⟩, _, rfl, _, DGet.k (k := Sum.inr k) er, ?_⟩⟩
      have e3 : valV kr (Sum.inr k) = (s.held d k).map V.str := by rw [vr]; rfl
      rw [e3, getD_has]
      exact q

theorem ok_Holds_hold_so {P : Program} {w : World} {K : PySem.W.Frag} {mg : Str → Option Value} {base : Heap} {a : Nat → Addr} {d : Nat → FuncData} (T : Txt K mg a d) : FnOk P w K mg base CX0 1 (a 16) (d 16) ["self", "dealing", "key", "mode"] (spHoldSo (a 22)) := by
  refine T.F_Holds_hold_so.ok sc_Holds_hold_so (fun vs H Q E h => ?_) (fun cdv A outer s0 H vs Q E hr h => ?_)
  · obtain ⟨x, U, S, A, s, d, k, m, rfl, hh, hd, hk, q⟩ := h
    rfl
  · obtain ⟨x, U, S, A, s, d, k, m, rfl, hh, hd, hk, q⟩ := h
    obtain ⟨dx, hx⟩ := hh.ins
    obtain ⟨rf, ht⟩ := hh.hd
    obtain ⟨kv, ek, gd, vv⟩ := ht.d
    refine ⟨_, (pss_cons (ps_set (i := 4) sc_Holds_hold_so.nd rfl (Or.inl rfl) (pe_callTy call_dictD (by rfl) T.z_dict (by decide +kernel) (pa_cons (pe_dget2 (hu_of hr) (pe_fld (pv 0) rfl) (pv 1) pe_dnewK ⟨rfl, rfl, rfl, rfl⟩) pa_nil))) (pss_cons (ps_dput (hu_of hr) (pv 4) (pv 2) (pv 3) rfl) (pss_one (ps_dput (hu_of hr) (pe_fld (pv 0) rfl) (pv 1) (pv 4) rfl)))), ?_⟩
    refine ⟨_, rfl, x, _, dx, _, _, rfl, hx, T.cl, T.n_held, hf_h A, A.h, rfl, .inl ⟨kv, .inl ek⟩, _, rfl, fun D0 n0 => ?_⟩
    have s0 : Same H (upd H D0 (.dK [])) := same_new (Same.refl H) n0
    obtain ⟨r, kr, e1, er, gr, vr, hmine⟩ := hh.mine (d := d) ek n0
    generalize (upd H D0 (.dK [])) = H1 at s0 er ⊢
    refine ⟨_, DGet.k (k := Sum.inl d) (s0 _ _ ek), ?_⟩
    rw [e1]
    refine ⟨r, kr, rfl, .inl er, fun p np => ?_⟩
    have s1 : Same H (upd H1 p (.dK kr)) := s0.trans (same_new (Same.refl H1) np)
    have fp : H p = none := s0.free np
    have hp : (upd H1 p (.dK kr)) p = some (.dK kr) := upd_same
    generalize (upd H1 p (.dK kr)) = H2 at s1 hp ⊢
    have hh2 := hh.same s1
    have nS := hh.not_own fp
    have nh : A.h ≠ p := fun z => nS (z ▸ hh.own.2.1)
    have ek2 := s1 _ _ ek
    have hx2 := s1 _ _ hx
    refine ⟨_, rfl, _, rfl, _, rfl, p, _, rfl, DPut.k (k := Sum.inr k) hp (lt_line (Un.lenS gr hh.sm.2)), ?_⟩
    refine ⟨_, rfl, _, rfl, x, _, dx, _, _, rfl, (by rw [upd_ne (ne_of hx2 hp (by intro z; cases z))]; exact hx2), T.cl, T.n_held, hf_h A, _, rfl, A.h, _, rfl, DPut.k (k := Sum.inl d) (by rw [upd_ne nh]; exact ek2) (lt_line (Un.lenI gd hh.sm.1)), ?_⟩
    have h9 := hh2.hold (m := m) ek2 hp hd hk gr vr (.inr nS)
    refine q _ _ ⟨h9, fun b z => ?_, fun b o n e => ?_, fun b e => s1.free (upd_lv (upd_lv e))⟩
    · rcases z with z | rfl
      · exact .inl z
      · exact .inr fp
    · rw [upd_ne (fun z : b = A.h => n (z ▸ hh.own.2.1)), upd_ne (ne_of_none e fp)]
      exact s1 _ _ e

theorem ok_Holds_wait_no_more {P : Program} {w : World} {K : PySem.W.Frag} {mg : Str → Option Value} {base : Heap} {a : Nat → Addr} {d : Nat → FuncData} (T : Txt K mg a d) : FnOk P w K mg base CX0 1 (a 3) (d 3) ["self", "dealing"] (spWnm (a 22)) := by
  refine T.F_Holds_wait_no_more.ok sc_Holds_wait_no_more (fun vs H Q E h => ?_) (fun cdv A outer s0 H vs Q E hr h => ?_)
  · obtain ⟨x, U, S, A, s, d, rfl, hh, q⟩ := h
    rfl
  · obtain ⟨x, U, S, A, s, d, rfl, hh, q⟩ := h
    obtain ⟨dx, hx⟩ := hh.ins
    obtain ⟨tf, ht⟩ := hh.ak
    obtain ⟨kv, ek, gd, vv⟩ := ht.d
    refine ⟨_, (pss_one (ps_expr (pe_dpop2 (pe_fld (pv 0) rfl) (pv 1) pe_non ⟨rfl, rfl, rfl, rfl⟩))), ?_⟩
    exact ⟨_, rfl, x, _, dx, _, _, rfl, hx, T.cl, T.n_askings, hf_k A, A.k, rfl, .inl ⟨kv, .inl ek⟩, _, rfl, kv, Sum.inl d, ek, rfl, hh.popK (z := .non) ek fun v H1 n1 f1 => q S H1 n1 f1⟩

theorem ok_Holds_call_off {P : Program} {w : World} {K : PySem.W.Frag} {mg : Str → Option Value} {base : Heap} {a : Nat → Addr} {d : Nat → FuncData} (T : Txt K mg a d) : FnOk P w K mg base CX0 2 (a 4) (d 4) ["self", "dealing"] (spCallOff (a 22)) := by
  refine T.F_Holds_call_off.ok sc_Holds_call_off (fun vs H Q E h => ?_) (fun cdv A outer s0 H vs Q E hr h => ?_)
  · obtain ⟨x, U, S, A, s, d, rfl, hh, hd, q⟩ := h
    rfl
  · obtain ⟨x, U, S, A, s, d, rfl, hh, hd, q⟩ := h
    obtain ⟨dx, hx⟩ := hh.ins
    obtain ⟨rf, ht⟩ := hh.hd
    obtain ⟨kv, ek, gd, vv⟩ := ht.d
    refine ⟨_, (pss_cons (ps_expr (pe_dpop2 (pe_fld (pv 0) rfl) (pv 1) pe_non ⟨rfl, rfl, rfl, rfl⟩)) (pss_cons (ps_expr (pe_meth (pv 0) T.cl T.m_Holds_wait_no_more (ok_Holds_wait_no_more T) (hr.mono (by decide)) T.b_Holds_wait_no_more .nil pass0 (pa_cons (pv 1) pa_nil))) (pss_one (ps_dput (hu_of hr) (pe_fld (pv 0) rfl) (pv 1) pe_bl rfl)))), ?_⟩
    refine ⟨_, rfl, x, _, dx, _, _, rfl, hx, T.cl, T.n_held, hf_h A, A.h, rfl, .inl ⟨kv, .inl ek⟩, _, rfl, kv, Sum.inl d, ek, rfl, hh.popH (z := .non) ek fun v H1 n1 f1 w1 => ?_⟩
    obtain ⟨dx1, hx1⟩ := n1.at_.ins
    refine ⟨_, rfl, x, dx1, _, rfl, hx1, hf_no _ (by decide +kernel) (by decide +kernel) (by decide +kernel) (by decide +kernel) (by decide +kernel) (by decide +kernel), _, rfl, x, U, S, A, _, d, rfl, n1.at_, fun S2 H2 n2 f2 => ?_⟩
    obtain ⟨dx2, hx2⟩ := n2.at_.ins
    obtain ⟨ko, eo, go, vo⟩ := n2.at_.of
    refine ⟨_, rfl, x, _, dx2, _, _, rfl, hx2, T.cl, T.n_offs, hf_o A, _, rfl, A.o, _, rfl, DPut.k (k := Sum.inl d) eo (lt_line (Un.lenI go n2.at_.sm.1)), ?_⟩
    refine q S2 _ ((n1.trans n2).trans (n2.at_.setOffN hd eo go vo)) fun i hi => ?_
    rw [hv_same (by rw [upd_ne n2.at_.ne.ho]), hv_same (f2 _ n2.at_.ne.hk), w1 i hi]

theorem ok_Holds_outlasts {P : Program} {w : World} {K : PySem.W.Frag} {mg : Str → Option Value} {base : Heap} {a : Nat → Addr} {d : Nat → FuncData} (T : Txt K mg a d) : FnOk P w K mg base CX0 1 (a 5) (d 5) ["self", "other", "dealing"] (spOutl (a 22)) := by
  refine T.F_Holds_outlasts.ok sc_Holds_outlasts (fun vs H Q E h => ?_) (fun cdv A outer s0 H vs Q E hr h => ?_)
  · obtain ⟨x, U, S, A, s, o, d, rfl, hh, ho, ⟨b, hb⟩, q⟩ := h
    rfl
  · obtain ⟨x, U, S, A, s, o, d, rfl, hh, ho, ⟨b, hb⟩, q⟩ := h
    obtain ⟨dx, hx⟩ := hh.ins
    obtain ⟨kb, eb, gb, vb⟩ := hh.bd
    obtain ⟨kg, eg, gg, vg⟩ := hh.ag
    refine ⟨_, (pss_cons (ps_if (pt_cmp (pc_din (hu_of hr) (pv 1) (pe_fld (pv 0) rfl))) (pss_one (ps_ret pe_bl)) pss_nil) (pss_one (ps_ret (pe_cmpR (op_ltT hr.units0) (pe_tup (pa_cons (pe_dget (hu_of hr) (pe_fld (pv 0) rfl) (pv 1) (fun _ _ => rfl)) (pa_cons (pv 1) pa_nil))) (pe_tup (pa_cons (pe_dget (hu_of hr) (pe_fld (pv 0) rfl) (pv 2) (fun _ _ => rfl)) (pa_cons (pv 2) pa_nil))) (nomark _))))), ?_⟩
    refine ⟨_, rfl, _, rfl, x, _, dx, _, _, rfl, hx, T.cl, T.n_bound, hf_b A, A.b, _, rfl, DGet.k (k := Sum.inl o) eb, _, rfl, ?_⟩
    have eb1 : (valV kb (Sum.inl o)).isSome = s.bnd o := by rw [vb]; show (vB s.bnd o).isSome = _; unfold vB; cases s.bnd o <;> rfl
    rw [eb1]
    cases c : s.bnd o with
    | true =>
      refine iteT ?_
      have e : outl s o d = true := by unfold outl; rw [c]; rfl
      have z := q H (Same.refl H)
      rw [e] at z
      exact z
    | false =>
      refine iteF ?_
      rcases ho with ho | ⟨a, ha⟩
      · rw [c] at ho; cases ho
      have g1 : valV kg (Sum.inl o) = some (.int a) := by rw [vg]; show vI s.ages o = _; unfold vI; rw [ha]; rfl
      have g2 : valV kg (Sum.inl d) = some (.int b) := by rw [vg]; show vI s.ages d = _; unfold vI; rw [hb]; rfl
      refine ⟨_, rfl, x, _, dx, _, _, rfl, hx, T.cl, T.n_ages, hf_g A, _, rfl, A.g, .int a, rfl, .inl ⟨kg, Sum.inl o, .inl eg, rfl, g1.symm⟩, _, rfl, len2, fun t1 n1 => ?_⟩
      have s1 : Same H (upd H t1 (.tup [.int a, .int o])) := same_new (Same.refl H) n1
      have ht1 : (upd H t1 (.tup [.int a, .int o])) t1 = some (.tup [.int a, .int o]) := upd_same
      generalize (upd H t1 (.tup [.int a, .int o])) = H1 at s1 ht1 ⊢
      have hx1 := s1 _ _ hx
      refine ⟨_, rfl, x, _, dx, _, _, rfl, hx1, T.cl, T.n_ages, hf_g A, _, rfl, A.g, .int b, rfl, .inl ⟨kg, Sum.inl d, .inl (s1 _ _ eg), rfl, g2.symm⟩, _, rfl, len2, fun t2 n2 => ?_⟩
      have s2 := same_new (o := .tup [.int b, .int d]) (Same.refl H1) n2
      refine ⟨t1, t2, [a, o], [b, d], rfl, rfl, SqT.of (s2 _ _ ht1), SqT.of upd_same, ?_⟩
      have e : HT.lexLt [a, o] [b, d] = outl s o d := lex_outl c ha hb
      rw [e]
      exact q _ (s1.trans s2)

theorem ok_Holds_barring {P : Program} {w : World} {K : PySem.W.Frag} {mg : Str → Option Value} {base : Heap} {a : Nat → Addr} {d : Nat → FuncData} (T : Txt K mg a d) : FnOk P w K mg base CX0 2 (a 6) (d 6) ["self", "dealing", "key", "mode"] (spBarring (a 22)) := by
  refine T.F_Holds_barring.ok sc_Holds_barring (fun vs H Q E h => ?_) (fun cdv A outer s0 H vs Q E hr h => ?_)
  · obtain ⟨x, U, S, A, s, d, k, m, rfl, hh, q⟩ := h
    rfl
  · obtain ⟨x, U, S, A, s, d, k, m, rfl, hh, q⟩ := h
    obtain ⟨dx, hx⟩ := hh.ins
    obtain ⟨rf, ht⟩ := hh.hd
    obtain ⟨kv, ek, gd, vv⟩ := ht.d
    obtain ⟨ns, hns⟩ := gd.ints
    refine ⟨_, (pss_one (ps_ret (pe_callB cr_sortedI (by rfl) T.z_sorted (by decide +kernel) (pa_cons (pe_lock (pe_lc (own := [("other", 4)]) (g := gName 4) (te := (tVar 4)) (tt := (tAnd (tTest (tOp rNe (tVar 4) (tVar 1))) (tAnd (tB (tDIn (tVar 2) (tDGet (tFld K (tVar 0) "held") (tVar 4)))) (tTru K (tCall spBars [] E0 (tCons (tVar 3) (tCons (tDGet (tDGet (tFld K (tVar 0) "held") (tVar 4)) (tVar 2)) tNil))))))) (by rfl) sc_Holds_barring.nd (pi_keys (pe_fld (pv 0) rfl)) (blkOk_by (own := [("other", 4)]) (N := ["self", "dealing", "key", "mode", "other"]) (sc := defScope s_Holds_barring) (by decide +kernel)) (fun _ _ _ _ _ => (pg_name (i := 4) sc_Holds_barring.nd rfl (.inl rfl))) (fun _ _ _ _ _ => (pts_one (PW.pt (pw_and (pt_cmpR op_ne (pv 4) (pv 1) (nomark _)) (pw_and (pt_cmp (pc_din (hu_of hr) (pv 2) (pe_dget (hu_of hr) (pe_fld (pv 0) rfl) (pv 4) (fun _ _ => rfl)))) (pw_and1 (pt_truth (pe_call (ok_bars T) (hr.mono (by decide)) (by rfl) T.g_bars T.F_bars.kp T.b_bars .nil pass0 (pa_cons (pv 3) (pa_cons (pe_dget (hu_of hr) (pe_dget (hu_of hr) (pe_fld (pv 0) rfl) (pv 4) (fun _ _ => rfl)) (pv 2) (fun _ _ => rfl)) pa_nil))) (by intro _; rfl)))))))) (fun _ _ _ _ _ => (pv 4)))) pa_nil)))), ?_⟩
    refine ⟨A.h, _, ek, trivial, fun od => ?_⟩
    have hfz : (upd H A.h (.frz od (.dK kv))) A.h = some (.frz od (.dK kv)) := upd_same
    have back : ∀ {b : Addr} {o : HO}, b ≠ A.h → H b = some o → (upd H A.h (.frz od (.dK kv))) b = some o := fun n e => by rw [upd_ne n]; exact e
    have tail : ∀ H', Same (upd H A.h (.frz od (.dK kv))) H' → Same H (upd H' A.h (.dK kv)) := fun H' s => lock_same ek s
    have hxf := back (ne_of hx ek (by intro z; cases z)) hx
    have inn : ∀ j r, rf j = some r → DAt U.ki (upd H A.h (.frz od (.dK kv))) r (kS (vS (s.held j))) := fun j r z => (ht.yes j r z).2.2.keep fun o => back fun e => (ht.yes j r z).2.1 (e ▸ A.inH)
    generalize (upd H A.h (.frz od (.dK kv))) = Hf at hfz tail hxf inn ⊢
    refine ⟨_, rfl, x, _, dx, _, _, rfl, hxf, T.cl, T.n_held, hf_h A, A.h, od, rfl, .inl ⟨kv, hfz, fun D nD => ?_⟩⟩
    refine lc_it walk_keys (fun i H' => Same Hf H' ∧ H' D = some (.lst (((ns.take i).filter (bar s d k m)).map V.int))) ⟨same_new (Same.refl Hf) nD, by rw [List.take_zero]; exact upd_same⟩ (fun i H' _ z => z.1 _ _ hfz) ?_ ?_
    · rintro i kx H2 H2' hi ⟨s2, hD⟩ ⟨rfl, key, v, hkv, rfl⟩
      obtain ⟨j, hj, rfl⟩ := key_at hns hkv
      have hv1 : valV kv (Sum.inl j) = some v := mem_val gd.nd (List.mem_of_getElem? hkv)
      have hv2 : Option.map V.ref (rf j) = some v := by rw [← hv1, vv]; rfl
      obtain ⟨r, hr1, rfl⟩ := Option.map_eq_some_iff.mp hv2
      obtain ⟨kr, er, gr, vr⟩ := inn j r hr1
      have er2 := s2 _ _ er
      have hx2 := s2 _ _ hxf
      have hz2 := s2 _ _ hfz
      have nxt : (ns.take (i + 1)).filter (bar s d k m) = (ns.take i).filter (bar s d k m) ++ (if bar s d k m j = true then [j] else []) := take_filter hj
      have vk : valV kr (Sum.inr k) = (s.held j k).map V.str := by rw [vr]; rfl
      refine ⟨rfl, _, rfl, _, rfl, rfl, _, rfl, ?_⟩
      by_cases c1 : j = d
      · refine iteNDF (congrArg V.int c1) ?_
        have b0 : bar s d k m j = false := by unfold bar; rw [decide_eq_true c1]; rfl
        refine iteF ⟨s2, ?_⟩
        rw [nxt, b0, if_neg (by decide), List.append_nil]
        exact hD
      · refine iteND (fun z => c1 (V.int.inj z)) ?_
        refine ⟨_, rfl, _, rfl, x, _, dx, _, _, rfl, hx2, T.cl, T.n_held, hf_h A, _, rfl, A.h, .ref r, rfl, .inl ⟨kv, Sum.inl j, .inr ⟨od, hz2⟩, rfl, hv1.symm⟩, r, _, rfl, DGet.k (k := Sum.inr k) er2, _, rfl, ?_⟩
        rw [vk]
        cases c2 : s.held j k with
        | none =>
          refine iteF (iteF ⟨s2, ?_⟩)
          have b0 : bar s d k m j = false := by unfold bar; rw [c2]; simp
          rw [nxt, b0, if_neg (by decide), List.append_nil]
          exact hD
        | some n =>
          refine iteT ?_
          refine ⟨_, rfl, _, rfl, x, _, dx, _, _, rfl, hx2, T.cl, T.n_held, hf_h A, _, rfl, A.h, .ref r, rfl, .inl ⟨kv, Sum.inl j, .inr ⟨od, hz2⟩, rfl, hv1.symm⟩, _, rfl, r, .str n, rfl, .inl ⟨kr, Sum.inr k, .inl er2, rfl, by rw [vk, c2]; rfl⟩, m, n, rfl, fun H3 s3 => ⟨bars m n, rfl, ?_⟩⟩
          have bj : bar s d k m j = bars m n := by unfold bar; rw [c2, decide_eq_false c1]; rfl
          have hD3 := s3 _ _ hD
          cases c3 : bars m n with
          | true =>
            refine iteT ⟨_, rfl, _, hD3, ?_, ?_⟩
            · rw [List.length_map]
              exact lt_line (Nat.le_trans (List.length_filter_le ..) (Nat.le_trans (List.length_take_le' ..) (ints_len hns gd hh.sm.1)))
            · refine ⟨fun b o e => ?_, ?_⟩
              · rw [upd_ne (ne_of_none e nD)]
                exact s3 _ _ (s2 _ _ e)
              · rw [upd_same, nxt, bj, c3, if_pos rfl, List.map_append]
                rfl
          | false =>
            refine iteF ⟨s2.trans s3, ?_⟩
            rw [nxt, bj, c3, if_neg (by decide), List.append_nil]
            exact hD3
    · rintro H2 ⟨s2, hD⟩
      refine ⟨s2 _ _ hfz, ?_⟩
      have hnl : kv.length = ns.length := by
        have z := congrArg List.length hns
        rw [List.length_map, List.length_map] at z
        exact z
      rw [hnl, List.take_length] at hD
      have t2 := tail H2 s2
      have hDr : D ≠ A.h := fun z => by rw [z, hfz] at nD; cases nD
      refine ⟨D, ns.filter (bar s d k m), rfl, SqL.of (by rw [upd_ne hDr]; exact hD), fun ns' p pm so np => ?_⟩
      refine q p ns' _ (isL_of pm so ((List.filter_sublist (l := ns)).nodup (ints_nd hns gd)) fun i => ?_) ?_ (t2.free np) (t2.trans (same_new (Same.refl _) np)) upd_same
      · rw [List.mem_filter]
        refine ⟨fun z => z.2, fun z => ⟨?_, z⟩⟩
        cases e : rf i with
        | none =>
          exfalso
          have y := ht.no i e
          unfold bar at z
          rw [y] at z
          simp at z
        | some r =>
          have y : valV kv (Sum.inl i) = some (.ref r) := by rw [vv]; show Option.map V.ref (rf i) = _; rw [e]; rfl
          exact ints_mem hns (valV_in y)
      · rw [pm.length_eq]
        exact Nat.le_trans (List.length_filter_le ..) (ints_len hns gd hh.sm.1)

theorem ok_Holds_pledge {P : Program} {w : World} {K : PySem.W.Frag} {mg : Str → Option Value} {base : Heap} {a : Nat → Addr} {d : Nat → FuncData} (T : Txt K mg a d) : FnOk P w K mg base CX0 2 (a 8) (d 8) ["self", "dealing"] (spPledge (a 22)) := by
  refine T.F_Holds_pledge.ok sc_Holds_pledge (fun vs H Q E h => ?_) (fun cdv A outer s0 H vs Q E hr h => ?_)
  · obtain ⟨x, U, S, A, s, d, rfl, hh, hd, q⟩ := h
    rfl
  · obtain ⟨x, U, S, A, s, d, rfl, hh, hd, q⟩ := h
    obtain ⟨dx, hx⟩ := hh.ins
    obtain ⟨kb, eb, gb, vb⟩ := hh.bd
    refine ⟨_, (pss_cons (ps_expr (pe_meth0 (pv 0) T.cl T.m_Holds_make_own (ok_Holds_make_own T) (hr.mono (by decide)) T.b_Holds_make_own .nil pass0)) (pss_cons (ps_dput (hu_of hr) (pe_fld (pv 0) rfl) (pv 1) pe_bl rfl) (pss_one (ps_expr (pe_meth (pv 0) T.cl T.m_Holds_wait_no_more (ok_Holds_wait_no_more T) (hr.mono (by decide)) T.b_Holds_wait_no_more .nil pass0 (pa_cons (pv 1) pa_nil)))))), ?_⟩
    refine ⟨_, rfl, x, dx, _, rfl, hx, hf_no _ (by decide +kernel) (by decide +kernel) (by decide +kernel) (by decide +kernel) (by decide +kernel) (by decide +kernel), x, U, S, A, s, rfl, hh, ?_⟩
    refine ⟨_, rfl, x, _, dx, _, _, rfl, hx, T.cl, T.n_bound, hf_b A, _, rfl, A.b, _, rfl, DPut.k (k := Sum.inl d) eb (lt_line (Un.lenI gb hh.sm.1)), ?_⟩
    have n1 := hh.setBndN hd eb gb vb
    generalize (upd H A.b (.dK (putK kb (Sum.inl d) (.bl true)))) = H1 at n1 ⊢
    obtain ⟨dx1, hx1⟩ := n1.at_.ins
    exact ⟨_, rfl, x, dx1, _, rfl, hx1, hf_no _ (by decide +kernel) (by decide +kernel) (by decide +kernel) (by decide +kernel) (by decide +kernel) (by decide +kernel), _, rfl, x, U, S, A, _, d, rfl, n1.at_, fun S2 H2 n2 _ => q S2 H2 (n1.trans n2)⟩

theorem ok_Holds_free {P : Program} {w : World} {K : PySem.W.Frag} {mg : Str → Option Value} {base : Heap} {a : Nat → Addr} {d : Nat → FuncData} (T : Txt K mg a d) : FnOk P w K mg base CX0 2 (a 9) (d 9) ["self", "dealing", "forget"] (spFree (a 22)) := by
  refine T.F_Holds_free.ok (CX := CX0) sc_Holds_free (fun vs H Q E h => ?_) (fun cdv A outer s0 H vs Q E hr h => ?_)
  · obtain ⟨x, U, S, A, s, d, f, rfl, hh, q⟩ := h
    rfl
  · obtain ⟨x, U, S, A, s, d, f, rfl, hh, q⟩ := h
    obtain ⟨dx, hx⟩ := hh.ins
    obtain ⟨rf, ht⟩ := hh.hd
    obtain ⟨kv, ek, gd, vv⟩ := ht.d
    refine ⟨_, PSs.nox (pss_cons (ps_expr (pe_meth0 (pv 0) T.cl T.m_Holds_make_own (ok_Holds_make_own T) (hr.mono (by decide)) T.b_Holds_make_own .nil pass0)) (pss_cons (ps_expr (pe_dpop2 (pe_fld (pv 0) rfl) (pv 1) pe_non ⟨rfl, rfl, rfl, rfl⟩)) (pss_cons (ps_expr (pe_dpop2 (pe_fld (pv 0) rfl) (pv 1) pe_non ⟨rfl, rfl, rfl, rfl⟩)) (pss_cons (ps_expr (pe_dpop2 (pe_fld (pv 0) rfl) (pv 1) pe_non ⟨rfl, rfl, rfl, rfl⟩)) (pss_cons (ps_expr (pe_meth (pv 0) T.cl T.m_Holds_wait_no_more (ok_Holds_wait_no_more T) (hr.mono (by decide)) T.b_Holds_wait_no_more .nil pass0 (pa_cons (pv 1) pa_nil))) (pss_one (ps_if (pt_truth (pv 2) (by intro _; rfl)) (pss_one (ps_expr (pe_dpop2 (pe_fld (pv 0) rfl) (pv 1) pe_non ⟨rfl, rfl, rfl, rfl⟩))) pss_nil))))))), ?_⟩
    refine ⟨_, rfl, x, dx, _, rfl, hx, hf_no _ (by decide +kernel) (by decide +kernel) (by decide +kernel) (by decide +kernel) (by decide +kernel) (by decide +kernel), x, U, S, A, s, rfl, hh, ?_⟩
    refine ⟨_, rfl, x, _, dx, _, _, rfl, hx, T.cl, T.n_held, hf_h A, A.h, rfl, .inl ⟨kv, .inl ek⟩, _, rfl, kv, Sum.inl d, ek, rfl, hh.popH (z := .non) ek fun v H1 n1 f1 w1 => ?_⟩
    obtain ⟨dx1, hx1⟩ := n1.at_.ins
    obtain ⟨kg, eg, gg, vg⟩ := n1.at_.ag
    refine ⟨_, rfl, x, _, dx1, _, _, rfl, hx1, T.cl, T.n_ages, hf_g A, A.g, rfl, .inl ⟨kg, .inl eg⟩, _, rfl, kg, Sum.inl d, eg, rfl, n1.at_.popG (z := .non) eg fun v H2 n2 => ?_⟩
    obtain ⟨dx2, hx2⟩ := n2.at_.ins
    obtain ⟨kb, eb, gb, vb⟩ := n2.at_.bd
    refine ⟨_, rfl, x, _, dx2, _, _, rfl, hx2, T.cl, T.n_bound, hf_b A, A.b, rfl, .inl ⟨kb, .inl eb⟩, _, rfl, kb, Sum.inl d, eb, rfl, n2.at_.popB (z := .non) eb fun v H3 n3 => ?_⟩
    obtain ⟨dx3, hx3⟩ := n3.at_.ins
    refine ⟨_, rfl, x, dx3, _, rfl, hx3, hf_no _ (by decide +kernel) (by decide +kernel) (by decide +kernel) (by decide +kernel) (by decide +kernel) (by decide +kernel), _, rfl, x, U, S, A, _, d, rfl, n3.at_, fun S4 H4 n4 _ => ?_⟩
    have n := ((n1.trans n2).trans n3).trans n4
    obtain ⟨dx4, hx4⟩ := n4.at_.ins
    refine ⟨_, rfl, f, rfl, ?_⟩
    cases f with
    | false => exact iteF (q S4 H4 n)
    | true =>
      refine iteT ?_
      obtain ⟨ko, eo, go, vo⟩ := n4.at_.of
      exact ⟨_, rfl, x, _, dx4, _, _, rfl, hx4, T.cl, T.n_offs, hf_o A, A.o, rfl, .inl ⟨ko, .inl eo⟩, _, rfl, ko, Sum.inl d, eo, rfl, n4.at_.popO (z := .non) eo fun v H5 n5 => q S4 H5 (n.trans n5)⟩

theorem ok_Holds_called_off {P : Program} {w : World} {K : PySem.W.Frag} {mg : Str → Option Value} {base : Heap} {a : Nat → Addr} {d : Nat → FuncData} (T : Txt K mg a d) : FnOk P w K mg base CX0 1 (a 12) (d 12) ["self"] (spList (a 22) HS.offs) := by
  refine T.F_Holds_called_off.ok sc_Holds_called_off (fun vs H Q E h => ?_) (fun cdv A outer s0 H vs Q E hr h => ?_)
  · obtain ⟨x, U, S, A, s, rfl, hh, q⟩ := h
    rfl
  · obtain ⟨x, U, S, A, s, rfl, hh, q⟩ := h
    obtain ⟨dx, hx⟩ := hh.ins
    obtain ⟨kv, ek, gd, vv⟩ := hh.of
    obtain ⟨ns, hns⟩ := gd.ints
    refine ⟨_, (pss_one (ps_ret (pe_callB cr_sortedI (by rfl) T.z_sorted (by decide +kernel) (pa_cons (pe_callTy (call_list_dK rfl) (by rfl) T.z_list (by decide +kernel) (pa_cons (pe_fld (pv 0) rfl) pa_nil)) pa_nil)))), ?_⟩
    refine ⟨_, rfl, x, _, dx, _, _, rfl, hx, T.cl, T.n_offs, hf_o A, A.o, kv, rfl, ek, fun l nl => ?_⟩
    have e1 : kv.map (fun p => kV p.1) = ns.map V.int := by
      have z := congrArg (List.map kV) hns
      rw [List.map_map, List.map_map] at z
      exact z
    rw [e1]
    have s1 : Same H (upd H l (.lst (ns.map V.int))) := same_new (Same.refl H) nl
    refine ⟨l, ns, rfl, SqL.of upd_same, fun ns' p pm so np => ?_⟩
    refine q p ns' _ (isL_of pm so (ints_nd hns gd) fun i => ?_) ?_ (s1.free np) (s1.trans (same_new (Same.refl _) np)) upd_same
    · have z : (valV kv (Sum.inl i)).isSome = HS.offs s i := by rw [vv]; show (vB (HS.offs s) i).isSome = _; unfold vB; cases HS.offs s i <;> rfl
      rw [← z]
      refine ⟨fun y => ?_, fun y => ?_⟩
      · have y' : (Sum.inl i : Key) ∈ kv.map (·.1) := by rw [hns]; exact List.mem_map.mpr ⟨i, y, rfl⟩
        obtain ⟨q0, hq, e⟩ := List.mem_map.mp y'
        have := mem_val gd.nd hq
        rw [show q0.1 = Sum.inl i from e] at this
        rw [this]
        rfl
      · obtain ⟨v, ev⟩ := Option.isSome_iff_exists.mp y
        exact ints_mem hns (valV_in ev)
    · rw [pm.length_eq]
      exact ints_len hns gd hh.sm.1

theorem ok_Holds_pledged {P : Program} {w : World} {K : PySem.W.Frag} {mg : Str → Option Value} {base : Heap} {a : Nat → Addr} {d : Nat → FuncData} (T : Txt K mg a d) : FnOk P w K mg base CX0 1 (a 13) (d 13) ["self"] (spList (a 22) HS.bnd) := by
  refine T.F_Holds_pledged.ok sc_Holds_pledged (fun vs H Q E h => ?_) (fun cdv A outer s0 H vs Q E hr h => ?_)
  · obtain ⟨x, U, S, A, s, rfl, hh, q⟩ := h
    rfl
  · obtain ⟨x, U, S, A, s, rfl, hh, q⟩ := h
    obtain ⟨dx, hx⟩ := hh.ins
    obtain ⟨kv, ek, gd, vv⟩ := hh.bd
    obtain ⟨ns, hns⟩ := gd.ints
    refine ⟨_, (pss_one (ps_ret (pe_callB cr_sortedI (by rfl) T.z_sorted (by decide +kernel) (pa_cons (pe_callTy (call_list_dK rfl) (by rfl) T.z_list (by decide +kernel) (pa_cons (pe_fld (pv 0) rfl) pa_nil)) pa_nil)))), ?_⟩
    refine ⟨_, rfl, x, _, dx, _, _, rfl, hx, T.cl, T.n_bound, hf_b A, A.b, kv, rfl, ek, fun l nl => ?_⟩
    have e1 : kv.map (fun p => kV p.1) = ns.map V.int := by
      have z := congrArg (List.map kV) hns
      rw [List.map_map, List.map_map] at z
      exact z
    rw [e1]
    have s1 : Same H (upd H l (.lst (ns.map V.int))) := same_new (Same.refl H) nl
    refine ⟨l, ns, rfl, SqL.of upd_same, fun ns' p pm so np => ?_⟩
    refine q p ns' _ (isL_of pm so (ints_nd hns gd) fun i => ?_) ?_ (s1.free np) (s1.trans (same_new (Same.refl _) np)) upd_same
    · have z : (valV kv (Sum.inl i)).isSome = HS.bnd s i := by rw [vv]; show (vB (HS.bnd s) i).isSome = _; unfold vB; cases HS.bnd s i <;> rfl
      rw [← z]
      refine ⟨fun y => ?_, fun y => ?_⟩
      · have y' : (Sum.inl i : Key) ∈ kv.map (·.1) := by rw [hns]; exact List.mem_map.mpr ⟨i, y, rfl⟩
        obtain ⟨q0, hq, e⟩ := List.mem_map.mp y'
        have := mem_val gd.nd hq
        rw [show q0.1 = Sum.inl i from e] at this
        rw [this]
        rfl
      · obtain ⟨v, ev⟩ := Option.isSome_iff_exists.mp y
        exact ints_mem hns (valV_in ev)
    · rw [pm.length_eq]
      exact ints_len hns gd hh.sm.1

theorem ok_Holds_of {P : Program} {w : World} {K : PySem.W.Frag} {mg : Str → Option Value} {base : Heap} {a : Nat → Addr} {d : Nat → FuncData} (T : Txt K mg a d) : FnOk P w K mg base CX0 1 (a 10) (d 10) ["self", "dealing"] (spOf (a 22)) := by
  refine T.F_Holds_of.ok sc_Holds_of (fun vs H Q E h => ?_) (fun cdv A outer s0 H vs Q E hr h => ?_)
  · obtain ⟨x, U, S, A, s, d, rfl, hh, q⟩ := h
    rfl
  · obtain ⟨x, U, S, A, s, d, rfl, hh, q⟩ := h
    obtain ⟨dx, hx⟩ := hh.ins
    obtain ⟨rf, ht⟩ := hh.hd
    obtain ⟨kv, ek, gd, vv⟩ := ht.d
    refine ⟨_, (pss_cons (ps_set (i := 2) sc_Holds_of.nd rfl (Or.inr rfl) (pe_dget2 (hu_of hr) (pe_fld (pv 0) rfl) (pv 1) pe_dnewK ⟨rfl, rfl, rfl, rfl⟩)) (pss_one (ps_ret (pe_dc (own := [("key", 3)]) (g := (gName 3)) (tk := (tVar 3)) (tv := (tDGet (tVar 2) (tVar 3))) (by rfl) sc_Holds_of.nd (pi_list (pe_callB cr_sortedS (by rfl) T.z_sorted (by decide +kernel) (pa_cons (pe_callTy (call_list_dK rfl) (by rfl) T.z_list (by decide +kernel) (pa_cons (pv 2) pa_nil)) pa_nil))) (blkOk_by (own := [("key", 3)]) (N := ["self", "dealing", "mine", "key"]) (sc := defScope s_Holds_of) (by decide +kernel)) (fun _ _ _ _ _ => (pg_name (i := 3) sc_Holds_of.nd rfl (.inl rfl))) (fun _ _ _ _ _ => pts_nil) (fun _ _ _ _ _ => (pv 3)) (fun _ _ _ _ _ => (pe_dget (hu_of hr) (pv 2) (pv 3) (fun _ _ => rfl))))))), ?_⟩
    refine ⟨_, rfl, x, _, dx, _, _, rfl, hx, T.cl, T.n_held, hf_h A, A.h, rfl, .inl ⟨kv, .inl ek⟩, _, rfl, fun D0 n0 => ?_⟩
    have s0 : Same H (upd H D0 (.dK [])) := same_new (Same.refl H) n0
    obtain ⟨r, kr, e1, er, gr, vr, _⟩ := hh.mine (d := d) ek n0
    generalize (upd H D0 (.dK [])) = H0 at s0 er ⊢
    refine ⟨_, DGet.k (k := Sum.inl d) (s0 _ _ ek), ?_⟩
    rw [e1]
    obtain ⟨ks, hks⟩ := gr.strs
    refine ⟨_, rfl, r, kr, rfl, er, fun l nl => ?_⟩
    have e2 : kr.map (fun p => kV p.1) = ks.map V.str := by
      have z := congrArg (List.map kV) hks
      rw [List.map_map, List.map_map] at z
      exact z
    rw [e2]
    have s1 : Same H0 (upd H0 l (.lst (ks.map V.str))) := same_new (Same.refl H0) nl
    refine ⟨l, ks, rfl, SqL.of upd_same, Nat.lt_of_le_of_lt (strs_len hks gr hh.sm.2) (by decide), fun ys p pm so np => ?_⟩
    have s2 : Same H0 (upd (upd H0 l (.lst (ks.map V.str))) p (.lst (ys.map V.str))) := s1.trans (same_new (Same.refl _) np)
    have hp : (upd (upd H0 l (.lst (ks.map V.str))) p (.lst (ys.map V.str))) p = some (.lst (ys.map V.str)) := upd_same
    generalize (upd (upd H0 l (.lst (ks.map V.str))) p (.lst (ys.map V.str))) = H2 at s2 hp ⊢
    have er2 := s2 _ _ er
    have ynd : ys.Nodup := pm.nodup_iff.mpr (ints_nd hks gr)
    have yl : ys.length ≤ 60 := by rw [pm.length_eq]; exact strs_len hks gr hh.sm.2
    have hmem : ∀ k, k ∈ ys ↔ (s.held d k).isSome = true := fun k => by
      have z : (valV kr (Sum.inr k)).isSome = (s.held d k).isSome := by rw [vr]; show (Option.map V.str (s.held d k)).isSome = _; rw [Option.isSome_map]
      rw [pm.mem_iff, ← z]
      refine ⟨fun y => ?_, fun y => ?_⟩
      · have y' : (Sum.inr k : Key) ∈ kr.map (·.1) := by rw [hks]; exact List.mem_map.mpr ⟨k, y, rfl⟩
        obtain ⟨q0, hq, e⟩ := List.mem_map.mp y'
        have := mem_val gr.nd hq
        rw [show q0.1 = Sum.inr k from e] at this
        rw [this]
        rfl
      · obtain ⟨v, ev⟩ := Option.isSome_iff_exists.mp y
        exact strs_mem hks (valV_in ev)
    refine ⟨p, rfl, ⟨_, SqL.of hp⟩, fun D nD => ?_⟩
    refine dc_it (walk_list (xs := ys.map V.str)) (fun i H' => Same H2 H' ∧ H' D = some (.dK (ofKv s d (ys.take i)))) ⟨same_new (Same.refl H2) nD, by rw [List.take_zero]; exact upd_same⟩ (fun i H' _ z => SqL.of (z.1 _ _ hp)) ?_ ?_
    · rintro i kx H3 H3' hi ⟨s3, hD⟩ ⟨rfl, hk⟩
      rw [List.getElem?_map] at hk
      obtain ⟨k, hk1, rfl⟩ := Option.map_eq_some_iff.mp hk
      obtain ⟨m, hm⟩ := Option.isSome_iff_exists.mp ((hmem k).mp (List.mem_of_getElem? hk1))
      have vk : valV kr (Sum.inr k) = some (.str m) := by rw [vr]; show Option.map V.str (s.held d k) = _; rw [hm]; rfl
      refine ⟨rfl, _, rfl, _, rfl, _, rfl, r, .str m, rfl, .inl ⟨kr, Sum.inr k, .inl (s3 _ _ er2), rfl, vk.symm⟩, _, Sum.inr k, rfl, hD, ?_, fun b o e => ?_, ?_⟩
      · unfold ofKv
        rw [List.length_map]
        exact lt_line (Nat.le_trans (List.length_take_le' ..) yl)
      · rw [upd_ne (ne_of_none e nD)]
        exact s3 _ _ e
      · rw [upd_same, ofKv_put hm ynd hk1]
    · rintro H3 ⟨s3, hD⟩
      rw [List.length_map, List.take_length] at hD
      exact q D ys H3 ynd so yl hmem (s0.free (s2.free nD)) (s0.trans (s2.trans s3)) hD

theorem ok_Holds_waiting {P : Program} {w : World} {K : PySem.W.Frag} {mg : Str → Option Value} {base : Heap} {a : Nat → Addr} {d : Nat → FuncData} (T : Txt K mg a d) : FnOk P w K mg base CX0 3 (a 11) (d 11) ["self"] (spWaiting (a 22)) := by
  refine T.F_Holds_waiting.ok sc_Holds_waiting (fun vs H Q E h => ?_) (fun cdv A outer s0 H vs Q E hr h => ?_)
  · obtain ⟨x, U, S, A, s, rfl, hh, wf, q⟩ := h
    rfl
  · obtain ⟨x, U, S, A, s, rfl, hh, wf, q⟩ := h
    obtain ⟨dx, hx⟩ := hh.ins
    obtain ⟨tf, ht⟩ := hh.ak
    obtain ⟨kv, ek, gd, vv⟩ := ht.d
    obtain ⟨ns, hns⟩ := gd.ints
    refine ⟨_, (pss_cons (ps_set (i := 1) sc_Holds_waiting.nd rfl (Or.inl rfl) pe_dnewK) (pss_cons (ps_for PassesOwn.never rfl (pi_list (pe_callB cr_sortedI (by rfl) T.z_sorted (by decide +kernel) (pa_cons (pe_callTy (call_list_dK rfl) (by rfl) T.z_list (by decide +kernel) (pa_cons (pe_fld (pv 0) rfl) pa_nil)) pa_nil))) (pg_name (i := 2) sc_Holds_waiting.nd rfl (.inr rfl)) (pss_cons (ps_asg (pe_dget (hu_of hr) (pe_fld (pv 0) rfl) (pv 2) (fun _ _ => rfl)) (pg_tup (by rfl) (pgs_cons (pg_name (i := 3) sc_Holds_waiting.nd rfl (.inl rfl)) (pgs_cons (pg_name (i := 4) sc_Holds_waiting.nd rfl (.inl rfl)) pgs_nil)))) (pss_cons (ps_setLc (i := 5) (own := [("other", 6)]) (g := gName 6) (te := (tVar 6)) (tt := (tTru K (tMeth (a 22) "outlasts" (spOutl (a 22)) [] E0 (tVar 0) (tCons (tVar 6) (tCons (tVar 2) tNil))))) (by rfl) sc_Holds_waiting.nd rfl rfl (sw_true rfl rfl rfl (by decide +kernel)) (pi_list (pe_meth (pv 0) T.cl T.m_Holds_barring (ok_Holds_barring T) (hr.mono (by decide)) T.b_Holds_barring .nil pass0 (pa_cons (pv 2) (pa_cons (pv 3) (pa_cons (pv 4) pa_nil))))) (blkOk_by (own := [("other", 6)]) (N := ["self", "told", "dealing", "key", "mode", "others", "other"]) (sc := defScope s_Holds_waiting) (by decide +kernel)) (fun _ _ _ _ _ => (pg_name (i := 6) sc_Holds_waiting.nd rfl (.inl rfl))) (fun _ _ _ _ _ => (pts_one (pt_truth (pe_meth (pv 0) T.cl T.m_Holds_outlasts (ok_Holds_outlasts T) (hr.mono (by decide)) T.b_Holds_outlasts .nil pass0 (pa_cons (pv 6) (pa_cons (pv 2) pa_nil))) (by intro _; rfl)))) (fun _ _ _ _ _ => (pv 6))) (pss_one (ps_if (pt_truth (pv 5) (by intro _; rfl)) (pss_one (ps_dput (hu_of hr) (pv 1) (pv 2) (pv 5) rfl)) pss_nil))))) (pss_one (ps_ret (pv 1))))), ?_⟩
    intro D nD
    have s1 : Same H (upd H D (.dK [])) := same_new (Same.refl H) nD
    have hD1 : (upd H D (.dK [])) D = some (.dK []) := upd_same
    generalize (upd H D (.dK [])) = H1 at s1 hD1 ⊢
    have hx1 := s1 _ _ hx
    refine ⟨_, rfl, x, _, dx, _, _, rfl, hx1, T.cl, T.n_askings, hf_k A, A.k, kv, rfl, s1 _ _ ek, fun l nl => ?_⟩
    have e1 : kv.map (fun p => kV p.1) = ns.map V.int := by
      have z := congrArg (List.map kV) hns
      rw [List.map_map, List.map_map] at z
      exact z
    rw [e1]
    have s2 : Same H1 (upd H1 l (.lst (ns.map V.int))) := same_new (Same.refl H1) nl
    refine ⟨l, ns, rfl, SqL.of upd_same, fun ns' p pm so np => ?_⟩
    have s3 : Same H1 (upd (upd H1 l (.lst (ns.map V.int))) p (.lst (ns'.map V.int))) := s2.trans (same_new (Same.refl _) np)
    have hp3 : (upd (upd H1 l (.lst (ns.map V.int))) p (.lst (ns'.map V.int))) p = some (.lst (ns'.map V.int)) := upd_same
    generalize (upd (upd H1 l (.lst (ns.map V.int))) p (.lst (ns'.map V.int))) = H2 at s3 hp3 ⊢
    have S2 := s1.trans s3
    have hD2 := s3 _ _ hD1
    have pD : p ≠ D := ne_of hp3 hD2 (by intro z; cases z)
    have nown : ¬ S D := hh.not_own nD
    have nl' : ns'.length ≤ 60 := by rw [pm.length_eq]; exact ints_len hns gd hh.sm.1
    have nd' : ns'.Nodup := pm.nodup_iff.mpr (ints_nd hns gd)
    have up' : ns'.Pairwise (· < ·) := (so.and nd').imp fun {a b} h => by
      have := h.1
      have := h.2
      omega
    refine ⟨p, rfl, ⟨_, SqL.of hp3⟩, ?_⟩
    refine for_list (K := K) (a := p) (xs := ns'.map V.int) (fun j σ H' => ∃ (ws : List (Int × Addr × List Int)) (v2 v3 v4 v5 v6 : Option V), σ = [some (.ref x), some (.ref D), v2, v3, v4, v5, v6] ∧ (∀ b o, H2 b = some o → b ≠ D → H' b = some o) ∧ H' D = some (.dK (kvW ws)) ∧ WaitJ s (ns'.take j) ws ∧ ∀ w ∈ ws, H w.2.1 = none ∧ H' w.2.1 = some (.lst (w.2.2.map V.int)) ∧ w.2.2.length ≤ 60)
      ⟨[], none, none, none, none, none, rfl, fun b o e _ => e, hD2, ⟨List.nil_sublist _, fun w hw => (by cases hw), fun d hd => (by rw [List.take_zero] at hd; cases hd)⟩, fun w hw => by cases hw⟩ (fun j σ H' _ z => by
        obtain ⟨ws, _, _, _, _, _, _, f, _⟩ := z
        exact SqL.of (f _ _ hp3 pD)) ?_ ?_
    · rintro j dv σ H3 hj ⟨ws, v2, v3, v4, v5, v6, rfl, f3, hD3, wj, wl⟩
      rw [List.getElem?_map] at hj
      obtain ⟨d, hd, rfl⟩ := Option.map_eq_some_iff.mp hj
      have hh3 : HoldsAt (a 22) U S H3 x A s := hh.keep fun b o sb e => f3 _ _ (S2 _ _ e) (fun z => nown (z ▸ sb))
      have dns : d ∈ ns := pm.mem_iff.mp (List.mem_of_getElem? hd)
      obtain ⟨t, htf⟩ : ∃ t, tf d = some t := by
        have y' : (Sum.inl d : Key) ∈ kv.map (·.1) := by rw [hns]; exact List.mem_map.mpr ⟨d, dns, rfl⟩
        obtain ⟨q0, hq, e⟩ := List.mem_map.mp y'
        have y := mem_val gd.nd hq
        rw [show q0.1 = Sum.inl d from e, vv] at y
        have y2 : (tf d).map V.ref = some q0.2 := y
        obtain ⟨t, h1, _⟩ := Option.map_eq_some_iff.mp y2
        exact ⟨t, h1⟩
      obtain ⟨st, k, m, hak, htp⟩ := ht.yes d t htf
      have vd : valV kv (Sum.inl d) = some (.ref t) := by rw [vv]; show (tf d).map V.ref = _; rw [htf]; rfl
      have ek3 := f3 _ _ (S2 _ _ ek) (fun z => nown (z ▸ hh.own.2.2.2.1))
      have hx3 := f3 _ _ (S2 _ _ hx) (fun z => nown (z ▸ hh.own.1))
      have ht3 := f3 _ _ (S2 _ _ htp) (fun z => nown (z ▸ st))
      have wj' : ns'.take (j + 1) = ns'.take j ++ [d] := by rw [List.take_add_one, hd]; rfl
      show ∃ v, _
      refine ⟨_, rfl, x, _, dx, _, _, rfl, hx3, T.cl, T.n_askings, hf_k A, _, rfl, A.k, .ref t, rfl, .inl ⟨kv, Sum.inl d, .inl ek3, rfl, vd.symm⟩, t, _, rfl, SqT.of ht3, rfl, _, _, rfl, _, _, rfl, rfl, ?_⟩
      refine ⟨_, rfl, x, dx, _, rfl, hx3, hf_no _ (by decide +kernel) (by decide +kernel) (by decide +kernel) (by decide +kernel) (by decide +kernel) (by decide +kernel), _, rfl, _, rfl, _, rfl, x, U, S, A, s, d, k, m, rfl, hh3, fun pb lb H4 isl lbl npb s4 hpb => ?_⟩
      refine ⟨pb, rfl, ⟨_, SqL.of hpb⟩, fun D2 nD2 => ?_⟩
      refine lc_it (walk_list (xs := lb.map V.int)) (fun i H' => Same H4 H' ∧ H' D2 = some (.lst (((lb.take i).filter (fun o => outl s o d)).map V.int))) ⟨same_new (Same.refl H4) nD2, by rw [List.take_zero]; exact upd_same⟩ (fun i H' _ z => SqL.of (z.1 _ _ hpb)) ?_ ?_
      · rintro i ov H5 H5' hi ⟨s5, hL⟩ ⟨rfl, ho⟩
        rw [List.getElem?_map] at ho
        obtain ⟨o, ho1, rfl⟩ := Option.map_eq_some_iff.mp ho
        have hbo := (isl.mem o).mp (List.mem_of_getElem? ho1)
        obtain ⟨n, hn, _⟩ := bar_held hbo
        have nxt : (lb.take (i + 1)).filter (fun o => outl s o d) = (lb.take i).filter (fun o => outl s o d) ++ (if outl s o d = true then [o] else []) := take_filter ho1
        refine ⟨rfl, _, rfl, x, dx, _, rfl, s5 _ _ (s4 _ _ hx3), hf_no _ (by decide +kernel) (by decide +kernel) (by decide +kernel) (by decide +kernel) (by decide +kernel) (by decide +kernel), _, rfl, _, rfl, x, U, S, A, s, o, d, rfl, (hh3.same s4).same s5, wf.h o k n hn, wf.a d k m hak, fun H6 s6 => ⟨outl s o d, rfl, ?_⟩⟩
        have hL6 := s6 _ _ hL
        cases c : outl s o d with
        | true =>
          refine iteT ⟨_, rfl, _, hL6, ?_, fun b u e => ?_, ?_⟩
          · rw [List.length_map]
            exact lt_line (Nat.le_trans (List.length_filter_le ..) (Nat.le_trans (List.length_take_le' ..) lbl))
          · rw [upd_ne (ne_of_none e nD2)]
            exact s6 _ _ (s5 _ _ e)
          · rw [upd_same, nxt, c, if_pos rfl, List.map_append]
            rfl
        | false =>
          refine iteF ⟨s5.trans s6, ?_⟩
          rw [nxt, c, if_neg (by decide), List.append_nil]
          exact hL6
      · rintro H5 ⟨s5, hL⟩
        rw [List.length_map, List.take_length] at hL
        have isf : IsL (fun o => bar s d k m o && outl s o d) (lb.filter fun o => outl s o d) := isl.filter
        have S35 := s4.trans s5
        have hD5 := S35 _ _ hD3
        have nD2' : D2 ≠ D := fun z => by rw [z] at nD2; rw [s4 _ _ hD3] at nD2; cases nD2
        have fl : (lb.filter fun o => outl s o d).length ≤ 60 := Nat.le_trans (List.length_filter_le ..) lbl
        refine ⟨_, rfl, _, .inl ⟨_, SqL.of hL, rfl⟩, ?_⟩
        generalize (lb.filter fun o => outl s o d) = os at isf hL fl ⊢
        have free2 : H D2 = none := by
          cases e : H D2 with
          | none => rfl
          | some o =>
            have y := s4 _ _ (f3 _ _ (S2 _ _ e) nD2')
            rw [nD2] at y
            cases y
        cases os with
        | nil =>
          refine iteF ⟨ws, _, _, _, _, _, rfl, fun b o e n => S35 _ _ (f3 b o e n), hD5, ?_, fun w hw => ⟨(wl w hw).1, S35 _ _ (wl w hw).2.1, (wl w hw).2.2⟩⟩
          rw [wj']
          exact wj.no hak isf
        | cons o0 os0 =>
          refine iteT ⟨_, rfl, _, rfl, _, rfl, D, _, rfl, DPut.k (k := Sum.inl d) hD5 ?_, ?_⟩
          · unfold kvW
            rw [List.length_map]
            have z := wj.sub.length_le
            rw [List.length_map] at z
            exact lt_line (Nat.le_trans z (Nat.le_trans (List.length_take_le' ..) nl'))
          · have dn : ¬ d ∈ ws.map (·.1) := fun z => take_notin nd' hd (wj.sub.subset z)
            refine ⟨ws ++ [(d, D2, o0 :: os0)], _, _, _, _, _, rfl, fun b o e n => ?_, ?_, ?_, fun w hw => ?_⟩
            · rw [upd_ne n]
              exact S35 _ _ (f3 b o e n)
            · rw [upd_same, kvW_put (os := o0 :: os0) dn]
            · rw [wj']
              exact wj.yes hak isf (by simp)
            · rcases List.mem_append.mp hw with z | z
              · have y := wl w z
                refine ⟨y.1, ?_, y.2.2⟩
                rw [upd_ne (ne_of y.2.1 hD3 (by intro z; cases z))]
                exact S35 _ _ y.2.1
              · rw [List.mem_singleton.mp z]
                refine ⟨free2, ?_, fl⟩
                rw [upd_ne nD2']
                exact hL
    · rintro σ H3 ⟨ws, v2, v3, v4, v5, v6, rfl, f3, hD3, wj, wl⟩
      rw [List.length_map, List.take_length] at wj
      refine ⟨_, rfl, q D ws H3 ⟨up'.sublist wj.sub, wj.to, fun d k m e ho => ?_⟩ ?_ nD (fun b o e => f3 _ _ (S2 _ _ e) (ne_of_none e nD)) hD3 wl⟩
      · refine wj.of d (pm.mem_iff.mpr ?_) k m e ho
        cases c : tf d with
        | none =>
          have := ht.no d c
          rw [e] at this
          cases this
        | some t =>
          have y : valV kv (Sum.inl d) = some (.ref t) := by rw [vv]; show (tf d).map V.ref = _; rw [c]; rfl
          exact ints_mem hns (valV_in y)
      · have z := wj.sub.length_le
        rw [List.length_map] at z
        exact Nat.le_trans z nl'

theorem ok_Holds_ask {P : Program} {w : World} {K : PySem.W.Frag} {mg : Str → Option Value} {base : Heap} {a : Nat → Addr} {d : Nat → FuncData} (T : Txt K mg a d) : FnOk P w K mg base CX0 3 (a 7) (d 7) ["self", "dealing", "key", "mode", "age"] (spAsk (a 22)) := by
  refine T.F_Holds_ask.ok (CX := CX0) sc_Holds_ask (fun vs H Q E h => ?_) (fun cdv A outer s0 H vs Q E hr h => ?_)
  · obtain ⟨x, U, S, A, s, d, k, m, age, rfl, hh, wf, hoff, hbnd, hd, hk, q1, q2⟩ := h
    rfl
  · obtain ⟨x, U, S, A, s, d, k, m, age, rfl, hh, wf, hoff, hbnd, hd, hk, q1, q2⟩ := h
    obtain ⟨dx, hx⟩ := hh.ins
    obtain ⟨ko, eo, go, vo⟩ := hh.of
    obtain ⟨kb, eb, gb, vb⟩ := hh.bd
    obtain ⟨kg, eg, gg, vg⟩ := hh.ag
    refine ⟨_, PSs.nox (pss_cons (ps_if (PW.pt (pw_or (pt_cmp (pc_din (hu_of hr) (pv 1) (pe_fld (pv 0) rfl))) (pw_or1 (pt_cmp (pc_din (hu_of hr) (pv 1) (pe_fld (pv 0) rfl)))))) (pss_one ps_never) pss_nil) (pss_cons (ps_expr (pe_meth0 (pv 0) T.cl T.m_Holds_make_own (ok_Holds_make_own T) (hr.mono (by decide)) T.b_Holds_make_own .nil pass0)) (Evl.pss_cut (ps_if (pt_cmp (pc_dnotin (hu_of hr) (pv 1) (pe_fld (pv 0) rfl))) (pss_one (ps_dput (hu_of hr) (pe_fld (pv 0) rfl) (pv 1) (pe_ifExp (pt_cmpR op_isN (pv 4) pe_non (nomark _)) (pv 1) (pv 4)) rfl)) pss_nil) (pss_cons (ps_if (pt_truth (pe_call (ok_is_enough T) (hr.mono (by decide)) (by rfl) T.g_is_enough T.F_is_enough.kp T.b_is_enough .nil pass0 (pa_cons (pe_meth (pv 0) T.cl T.m_Holds_way_of (ok_Holds_way_of T) (hr.mono (by decide)) T.b_Holds_way_of .nil pass0 (pa_cons (pv 1) (pa_cons (pv 2) pa_nil))) (pa_cons (pv 3) pa_nil))) (by intro _; rfl)) (pss_cons (ps_expr (pe_meth (pv 0) T.cl T.m_Holds_wait_no_more (ok_Holds_wait_no_more T) (hr.mono (by decide)) T.b_Holds_wait_no_more .nil pass0 (pa_cons (pv 1) pa_nil))) (pss_one (ps_ret (pe_tup (pa_cons (pe_glob (v := .str "held") (by rfl) (Exists.choose_spec T.g_HELD) ⟨_, rfl⟩) (pa_cons (pe_lst pa_nil) pa_nil)))))) pss_nil) (pss_cons (ps_set (i := 5) sc_Holds_ask.nd rfl (Or.inl rfl) (pe_meth (pv 0) T.cl T.m_Holds_barring (ok_Holds_barring T) (hr.mono (by decide)) T.b_Holds_barring .nil pass0 (pa_cons (pv 1) (pa_cons (pv 2) (pa_cons (pv 3) pa_nil))))) (pss_cons (ps_setLc (i := 6) (own := [("other", 7)]) (g := gName 7) (te := (tVar 7)) (tt := (tNot (tTru K (tMeth (a 22) "outlasts" (spOutl (a 22)) [] E0 (tVar 0) (tCons (tVar 7) (tCons (tVar 1) tNil)))))) (by rfl) sc_Holds_ask.nd rfl rfl (sw_true rfl rfl rfl (by decide +kernel)) (pi_list (pv 5)) (blkOk_by (own := [("other", 7)]) (N := ["self", "dealing", "key", "mode", "age", "barring", "off", "other"]) (sc := defScope s_Holds_ask) (by decide +kernel)) (fun _ _ _ _ _ => (pg_name (i := 7) sc_Holds_ask.nd rfl (.inl rfl))) (fun _ _ _ _ _ => (pts_one (pt_not (pt_truth (pe_meth (pv 0) T.cl T.m_Holds_outlasts (ok_Holds_outlasts T) (hr.mono (by decide)) T.b_Holds_outlasts .nil pass0 (pa_cons (pv 7) (pa_cons (pv 1) pa_nil))) (by intro _; rfl))))) (fun _ _ _ _ _ => (pv 7))) (pss_cons (ps_for PassesOwn.never rfl (pi_list (pv 6)) (pg_name (i := 7) sc_Holds_ask.nd rfl (.inl rfl)) (pss_one (ps_expr (pe_meth (pv 0) T.cl T.m_Holds_call_off (ok_Holds_call_off T) (hr.mono (by decide)) T.b_Holds_call_off .nil pass0 (pa_cons (pv 7) pa_nil))))) (pss_cons (ps_if (pt_cmpR op_lt (pe_callB call_len_seq (by rfl) T.z_len PySem.boot_len (pa_cons (pv 6) pa_nil)) (pe_callB call_len_seq (by rfl) T.z_len PySem.boot_len (pa_cons (pv 5) pa_nil)) (nomark _)) (pss_cons (ps_dput (hu_of hr) (pe_fld (pv 0) rfl) (pv 1) (pe_tup (pa_cons (pv 2) (pa_cons (pv 3) pa_nil))) rfl) (pss_one (ps_ret (pe_tup (pa_cons (pe_glob (v := .str "waits") (by rfl) (Exists.choose_spec T.g_WAITS) ⟨_, rfl⟩) (pa_cons (pv 6) pa_nil)))))) pss_nil) (pss_cons (ps_expr (pe_meth (pv 0) T.cl T.m_Holds_wait_no_more (ok_Holds_wait_no_more T) (hr.mono (by decide)) T.b_Holds_wait_no_more .nil pass0 (pa_cons (pv 1) pa_nil))) (pss_cons (ps_expr (pe_meth (pv 0) T.cl T.m_Holds_hold_so (ok_Holds_hold_so T) (hr.mono (by decide)) T.b_Holds_hold_so .nil pass0 (pa_cons (pv 1) (pa_cons (pv 2) (pa_cons (pv 3) pa_nil))))) (pss_one (ps_ret (pe_tup (pa_cons (pe_glob (v := .str "held") (by rfl) (Exists.choose_spec T.g_HELD) ⟨_, rfl⟩) (pa_cons (pv 6) pa_nil))))))))))))))), ?_⟩
    have o1 : (valV ko (Sum.inl d)).isSome = false := by rw [vo]; show (vB s.offs d).isSome = _; unfold vB; rw [hoff]; rfl
    have b1 : (valV kb (Sum.inl d)).isSome = false := by rw [vb]; show (vB s.bnd d).isSome = _; unfold vB; rw [hbnd]; rfl
    refine ⟨_, rfl, _, rfl, x, _, dx, _, _, rfl, hx, T.cl, T.n_offs, hf_o A, A.o, _, rfl, DGet.k (k := Sum.inl d) eo, _, rfl, iteBF o1 ⟨_, rfl, _, rfl, x, _, dx, _, _, rfl, hx, T.cl, T.n_bound, hf_b A, A.b, _, rfl, DGet.k (k := Sum.inl d) eb, _, rfl, iteBF b1 ?_⟩⟩
    refine ⟨_, rfl, x, dx, _, rfl, hx, hf_no _ (by decide +kernel) (by decide +kernel) (by decide +kernel) (by decide +kernel) (by decide +kernel) (by decide +kernel), x, U, S, A, s, rfl, hh, ?_⟩
    refine ⟨fun σ' H' => σ' = [some (.ref x), some (.int d), some (.str k), some (.str m), some (ageV age), none, none, none] ∧ Nx (a 22) U S H x A (s.aged d age) S H', ?_, ?_⟩
    · refine ⟨_, rfl, _, rfl, x, _, dx, _, _, rfl, hx, T.cl, T.n_ages, hf_g A, A.g, _, rfl, DGet.k (k := Sum.inl d) eg, _, rfl, ?_⟩
      have g1 : (valV kg (Sum.inl d)).isSome = (s.ages d).isSome := by rw [vg]; show (Option.map V.int (s.ages d)).isSome = _; rw [Option.isSome_map]
      rw [g1]
      cases c : s.ages d with
      | some a0 =>
        refine iteF ⟨rfl, ?_⟩
        rw [aged_some s c]
        exact Nx.refl hh
      | none =>
        refine iteT ?_
        rw [aged_none s c]
        cases age with
        | none =>
          refine ⟨_, rfl, rfl, _, rfl, iteDT rfl ⟨_, rfl, _, rfl, x, _, dx, _, _, rfl, hx, T.cl, T.n_ages, hf_g A, _, rfl, A.g, _, rfl, DPut.k (k := Sum.inl d) eg (lt_line (Un.lenI gg hh.sm.1)), rfl, ?_⟩⟩
          exact hh.setAgeN hd eg gg vg d
        | some a0 =>
          refine ⟨_, rfl, rfl, _, rfl, iteDF (by intro z; cases z) ⟨_, rfl, _, rfl, x, _, dx, _, _, rfl, hx, T.cl, T.n_ages, hf_g A, _, rfl, A.g, _, rfl, DPut.k (k := Sum.inl d) eg (lt_line (Un.lenI gg hh.sm.1)), rfl, ?_⟩⟩
          exact hh.setAgeN hd eg gg vg a0
    rintro σ' H1 ⟨rfl, n1⟩
    obtain ⟨dx1, hx1⟩ := n1.at_.ins
    obtain ⟨rf, ht⟩ := n1.at_.hd
    obtain ⟨kv, ek, gd, vv⟩ := ht.d
    have hs1 : (s.aged d age).held = s.held := aged_held s d age
    have wf1 := wf.aged d age
    have hage := aged_age s d age
    generalize s.aged d age = s1 at n1 ht q1 q2 hs1 wf1 hage
    have hs2 : s1.held d k = s.held d k := by rw [hs1]
    refine ⟨_, rfl, x, dx1, _, rfl, hx1, hf_no _ (by decide +kernel) (by decide +kernel) (by decide +kernel) (by decide +kernel) (by decide +kernel) (by decide +kernel), _, rfl, _, rfl, x, U, S, A, s1, d, k, rfl, n1.at_, _, rfl, s1.held d k, m, rfl, fun H3 s3 => ⟨_, rfl, ?_⟩⟩
    rw [hs2]
    have n3 := n1.same s3
    have hx3 := s3 _ _ hx1
    cases c : enough (s.held d k) m with
    | true =>
      refine iteT ⟨_, rfl, x, dx1, _, rfl, hx3, hf_no _ (by decide +kernel) (by decide +kernel) (by decide +kernel) (by decide +kernel) (by decide +kernel) (by decide +kernel), _, rfl, x, U, S, A, s1, d, rfl, n3.at_, fun S4 H4 n4 _ => ?_⟩
      refine ⟨Nat.zero_le _, fun l nl => ⟨len2, fun t nt => ?_⟩⟩
      have n34 := n3.trans n4
      have sl : Same H4 (upd H4 l (.lst [])) := same_new (Same.refl H4) nl
      have st := same_new (o := .tup [.str "held", .ref l]) (Same.refl (upd H4 l (.lst []))) nt
      exact q1 c S4 _ t l (n34.same (sl.trans st)) upd_same (st _ _ upd_same) (n34.lv _ nl) (n4.at_.not_own nl) (n34.lv _ (upd_lv nt))
    | false =>
      refine iteF ?_
      have q2 := q2 c
      refine ⟨_, rfl, x, dx1, _, rfl, hx3, hf_no _ (by decide +kernel) (by decide +kernel) (by decide +kernel) (by decide +kernel) (by decide +kernel) (by decide +kernel), _, rfl, _, rfl, _, rfl, x, U, S, A, s1, d, k, m, rfl, n3.at_, fun pb lb H4 isl lbl npb s4 hpb => ?_⟩
      refine ⟨_, rfl, pb, rfl, ⟨_, SqL.of hpb⟩, fun D2 nD2 => ?_⟩
      have nSb := n3.at_.not_own npb
      have n4 := n3.same s4
      have nS2 := n4.at_.not_own nD2
      have f2 := n4.lv _ nD2
      refine lc_it (walk_list (xs := lb.map V.int)) (fun i H' => Same H4 H' ∧ H' D2 = some (.lst (((lb.take i).filter (fun o => !outl s1 o d)).map V.int))) ⟨same_new (Same.refl H4) nD2, by rw [List.take_zero]; exact upd_same⟩ (fun i H' _ z => SqL.of (z.1 _ _ hpb)) ?_ ?_
      · rintro i ov H5 H5' hi ⟨s5, hL⟩ ⟨rfl, ho⟩
        rw [List.getElem?_map] at ho
        obtain ⟨o, ho1, rfl⟩ := Option.map_eq_some_iff.mp ho
        have hbo := (isl.mem o).mp (List.mem_of_getElem? ho1)
        obtain ⟨n, hn, _⟩ := bar_held hbo
        have nxt : (lb.take (i + 1)).filter (fun o => !outl s1 o d) = (lb.take i).filter (fun o => !outl s1 o d) ++ (if (!outl s1 o d) = true then [o] else []) := take_filter ho1
        refine ⟨rfl, _, rfl, x, dx1, _, rfl, s5 _ _ (s4 _ _ hx3), hf_no _ (by decide +kernel) (by decide +kernel) (by decide +kernel) (by decide +kernel) (by decide +kernel) (by decide +kernel), _, rfl, _, rfl, x, U, S, A, s1, o, d, rfl, n4.at_.same s5, wf1.h o k n hn, hage, fun H6 s6 => ⟨outl s1 o d, rfl, ?_⟩⟩
        have hL6 := s6 _ _ hL
        cases c2 : outl s1 o d with
        | false =>
          refine iteT ⟨_, rfl, _, hL6, ?_, fun b u e => ?_, ?_⟩
          · rw [List.length_map]
            exact lt_line (Nat.le_trans (List.length_filter_le ..) (Nat.le_trans (List.length_take_le' ..) lbl))
          · rw [upd_ne (ne_of_none e nD2)]
            exact s6 _ _ (s5 _ _ e)
          · rw [upd_same, nxt, c2, if_pos (show (!false) = true from rfl), List.map_append]
            rfl
        | true =>
          refine iteF ⟨s5.trans s6, ?_⟩
          rw [nxt, c2, if_neg (by decide), List.append_nil]
          exact hL6
      · rintro H5 ⟨s5, hL⟩
        rw [List.length_map, List.take_length] at hL
        have isf : IsL (fun o => bar s1 d k m o && !outl s1 o d) (lb.filter fun o => !outl s1 o d) := isl.filter (q := fun o => !outl s1 o d)
        have fl : (lb.filter fun o => !outl s1 o d).length ≤ 60 := Nat.le_trans (List.length_filter_le ..) lbl
        have spl := split_len (fun o => outl s1 o d) lb
        have isl2 : IsL (bar (s1.offL (lb.filter fun o => !outl s1 o d)) d k m) (lb.filter fun o => outl s1 o d) := offL_bar isl isf
        generalize (lb.filter fun o => !outl s1 o d) = off at isf hL fl isl2 spl ⊢
        generalize (lb.filter fun o => outl s1 o d) = l2 at isl2 spl
        have n5 := n4.same s5
        have dno : ¬ d ∈ off := fun z => by
          have y := (isf.mem d).mp z
          rw [Bool.and_eq_true] at y
          exact bar_ne y.1 rfl
        have hpb5 := s5 _ _ hpb
        refine ⟨_, rfl, D2, rfl, ⟨_, SqL.of hL⟩, ?_⟩
        refine for_list (K := K) (a := D2) (xs := off.map V.int) (fun j σ H' => ∃ (S' : Addr → Prop) (v7 : Option V), σ = [some (.ref x), some (.int d), some (.str k), some (.str m), some (ageV age), some (.ref pb), some (.ref D2), v7] ∧ Nx (a 22) U S H5 x A (s1.offL (off.take j)) S' H' ∧ ∀ i, ¬ i ∈ off.take j → hv H' A i = hv H5 A i)
          ⟨S, _, rfl, by rw [List.take_zero, offL_nil]; exact Nx.refl n5.at_, fun _ _ => rfl⟩ (fun j σ H' _ z => by
            obtain ⟨_, _, _, nj, _⟩ := z
            exact SqL.of (nj.out nS2 hL).2) ?_ ?_
        · rintro j ov σ H6 hj ⟨S6, v7, rfl, n6, w6⟩
          rw [List.getElem?_map] at hj
          obtain ⟨o, ho, rfl⟩ := Option.map_eq_some_iff.mp hj
          obtain ⟨dx6, hx6⟩ := n6.at_.ins
          have hbo := (isf.mem o).mp (List.mem_of_getElem? ho)
          rw [Bool.and_eq_true] at hbo
          obtain ⟨n, hn, _⟩ := bar_held hbo.1
          have tk : off.take (j + 1) = off.take j ++ [o] := by rw [List.take_add_one, ho]; rfl
          show ∃ v, _
          refine ⟨_, rfl, x, dx6, _, rfl, hx6, hf_no _ (by decide +kernel) (by decide +kernel) (by decide +kernel) (by decide +kernel) (by decide +kernel) (by decide +kernel), _, rfl, x, U, S6, A, _, o, rfl, n6.at_, n5.at_.inU hn, fun S7 H7 n7 w7 => ⟨S7, _, rfl, ?_, fun i hi => ?_⟩⟩
          · rw [tk, ← offL_snoc]
            exact n6.trans n7
          · rw [tk] at hi
            rw [w7 i (fun z => hi (by rw [z]; simp)), w6 i (fun z => hi (List.mem_append_left _ z))]
        · rintro σ H6 ⟨S6, v7, rfl, n6, w6⟩
          rw [List.length_map, List.take_length] at n6 w6
          obtain ⟨dx6, hx6⟩ := n6.at_.ins
          have hD6 := n6.out nS2 hL
          have hpb6 := n6.out nSb hpb5
          refine ⟨_, rfl, D2, _, rfl, .inl (SqL.of hD6.2), _, rfl, pb, _, rfl, .inl (SqL.of hpb6.2), _, _, rfl, rfl, _, rfl, ?_⟩
          have n7 := n6
          have n57 := n5.trans n7
          have hD7 := hD6.2
          have hx7 := hx6
          have q2 := q2 off l2 isf isl2 fl
          rw [List.length_map, List.length_map]
          cases l2 with
          | cons o0 l2 =>
            refine iteDT (by rw [List.length_cons] at spl; omega) ?_
            refine ⟨_, rfl, _, rfl, len2, fun t nt => ?_⟩
            obtain ⟨tf7, ht7⟩ := n7.at_.ak
            obtain ⟨kk, ekk, gk, vk⟩ := ht7.d
            refine ⟨_, rfl, x, _, dx6, _, _, rfl, (by rw [upd_ne (ne_of_none hx7 nt)]; exact hx7), T.cl, T.n_askings, hf_k A, _, rfl, A.k, _, rfl, DPut.k (k := Sum.inl d) (by rw [upd_ne (ne_of_none ekk nt)]; exact ekk) (lt_line (Un.lenI gk n7.at_.sm.1)), ?_⟩
            have n8 := Nx.asked (k := k) (m := m) n7.at_ ekk hd nt
            generalize (upd (upd H6 t (.tup [.str k, .str m])) A.k (.dK (putK kk (Sum.inl d) (.ref t)))) = H8 at n8 ⊢
            refine ⟨_, rfl, len2, fun t2 nt2 => ?_⟩
            have hD8 := n8.out hD6.1 hD7
            have st := same_new (o := .tup [.str "waits", .ref D2]) (Same.refl H8) nt2
            exact q2.2 (by simp) _ _ t2 D2 ((n57.trans n8).same st) upd_same (st _ _ hD8.2) f2 hD8.1 ((n57.trans n8).lv _ nt2)
          | nil =>
            refine iteDF (by rw [List.length_nil] at spl; omega) ?_
            refine ⟨_, rfl, x, dx6, _, rfl, hx7, hf_no _ (by decide +kernel) (by decide +kernel) (by decide +kernel) (by decide +kernel) (by decide +kernel) (by decide +kernel), _, rfl, x, U, S6, A, _, d, rfl, n7.at_, fun S8 H8 n8 f8 => ?_⟩
            have n58 := n57.trans n8
            obtain ⟨dx8, hx8⟩ := n8.at_.ins
            have hD8 := n8.out hD6.1 hD7
            refine ⟨_, rfl, x, dx8, _, rfl, hx8, hf_no _ (by decide +kernel) (by decide +kernel) (by decide +kernel) (by decide +kernel) (by decide +kernel) (by decide +kernel), _, rfl, _, rfl, _, rfl, x, U, S8, A, _, d, k, m, rfl, n8.at_, hd, hk, fun S9 H9 n9 => ?_⟩
            have n59 := n58.trans n9
            have hD9 := n9.out hD8.1 hD8.2
            refine ⟨_, rfl, len2, fun t2 nt2 => ?_⟩
            have st := same_new (o := .tup [.str "held", .ref D2]) (Same.refl H9) nt2
            exact q2.1 rfl _ _ t2 D2 (n59.same st) upd_same (st _ _ hD9.2) f2 hD9.1 (n59.lv _ nt2)

theorem ok_l_bag {P : Program} {w : World} {K : PySem.W.Frag} {mg : Str → Option Value} {base : Heap} {a : Nat → Addr} {d : Nat → FuncData} (T : Txt K mg a d) : FnOk P w K mg base CX0 1 (a 17) (d 17) ["_law_script", "_law_k"] (spBag K) := by
  refine T.F_l_bag.ok sc_l_bag (fun vs H Q E h => ?_) (fun cdv A outer s0 H vs Q E hr h => ?_)
  · obtain ⟨l, ns, k, rfl, hS, hk0, hk1, q⟩ := h
    rfl
  · obtain ⟨l, ns, k, rfl, hS, hk0, hk1, q⟩ := h
    obtain ⟨k, rfl⟩ := Int.eq_ofNat_of_zero_le hk0
    refine ⟨_, (pss_cons (ps_set (i := 2) sc_l_bag.nd rfl (Or.inl rfl) pe_int) (pss_cons (ps_if (pt_cmpR op_lt (pv 1) (pe_callB call_len_seq (by rfl) T.z_len PySem.boot_len (pa_cons (pv 0) pa_nil)) (nomark _)) (pss_one (ps_set (i := 2) sc_l_bag.nd rfl (Or.inl rfl) (pe_ix ix_list (pv 0) (pv 1) (fun _ _ => rfl)))) pss_nil) (pss_cons (ps_set (i := 3) sc_l_bag.nd rfl (Or.inl rfl) pe_int) (pss_cons (ps_if (pt_cmpR op_ge (pv 2) (pe_op op_pow pe_int pe_int) (nomark _)) (pss_one (ps_set (i := 3) sc_l_bag.nd rfl (Or.inl rfl) (pv 2))) pss_nil) (pss_one (ps_ret (pe_lst (pa_cons (pv 3) (pa_cons (pe_op op_mod (pe_op op_pow (pe_op op_add (pe_op op_add (pe_op op_mod (pv 2) pe_int) (pe_op op_mul pe_int (pv 1))) pe_int) pe_int) pe_int) pa_nil))))))))), ?_⟩
    have fin : ∀ cell great : Int, ∀ p4, H p4 = none → BagAt (upd H p4 (.lst [.int great, .int ((cell % 998244353 + 7368787 * (k : Int) + 41) ^ (3 : Int).toNat % 2147483629)])) p4 := fun cell great p4 n4 =>
      ⟨_, _, upd_same, Int.emod_nonneg _ (by decide), Int.lt_trans (Int.emod_lt_of_pos _ (by decide)) (by decide)⟩
    have pw : ∀ cell : Int, (cell % 998244353 + 7368787 * (k : Int) + 41).natAbs < 2 ^ 64 := fun cell => by
      have h1 := Int.emod_nonneg cell (show (998244353 : Int) ≠ 0 by decide)
      have h2 := Int.emod_lt_of_pos cell (show (0 : Int) < 998244353 by decide)
      have e : (2 : Nat) ^ 64 = 18446744073709551616 := by decide
      rw [e]
      omega
    refine ⟨_, rfl, _, rfl, l, _, rfl, .inl hS, _, _, rfl, rfl, _, rfl, ?_⟩
    refine ite2 (fun hlt => ?_) (fun hlt => ?_)
    · have hlt' : k < ns.length := by
        have z := of_decide_eq_true hlt
        rw [List.length_map] at z
        omega
      refine ⟨_, rfl, _, rfl, l, _, _, _, rfl, rfl, hS, atI_nat (j := k) (v := .int ns[k]) (by rw [List.getElem?_map, List.getElem?_eq_getElem hlt']; rfl), ?_⟩
      refine ⟨_, rfl, 10, 18, rfl, rfl, ⟨by decide, by decide, by decide⟩, _, _, rfl, rfl, _, rfl, ?_⟩
      refine ite2 (fun _ => ?_) (fun _ => ?_)
      · refine ⟨_, rfl, ?_⟩
        refine ⟨_, rfl, _, rfl, _, _, rfl, rfl, (by show (0 : Int) < 998244353; decide), _, rfl, _, k, rfl, rfl, .inl (m64 (by decide) (by decide)), _, _, rfl, rfl, _, 41, rfl, rfl, _, 3, rfl, rfl, ⟨by decide, by decide, pw _⟩, _, _, rfl, rfl, (by show (0 : Int) < 2147483629; decide), len2, fun p4 n4 => ?_⟩
        exact q p4 _ n4 (same_new (Same.refl H) n4) (fin _ _ p4 n4)
      · refine ⟨_, rfl, _, rfl, _, _, rfl, rfl, (by show (0 : Int) < 998244353; decide), _, rfl, _, k, rfl, rfl, .inl (m64 (by decide) (by decide)), _, _, rfl, rfl, _, 41, rfl, rfl, _, 3, rfl, rfl, ⟨by decide, by decide, pw _⟩, _, _, rfl, rfl, (by show (0 : Int) < 2147483629; decide), len2, fun p4 n4 => ?_⟩
        exact q p4 _ n4 (same_new (Same.refl H) n4) (fin _ _ p4 n4)
    · refine ⟨_, rfl, 10, 18, rfl, rfl, ⟨by decide, by decide, by decide⟩, _, _, rfl, rfl, _, rfl, ?_⟩
      refine iteDF (by decide) ?_
      refine ⟨_, rfl, _, rfl, _, _, rfl, rfl, (by show (0 : Int) < 998244353; decide), _, rfl, _, k, rfl, rfl, .inl (m64 (by decide) (by decide)), _, _, rfl, rfl, _, 41, rfl, rfl, _, 3, rfl, rfl, ⟨by decide, by decide, pw _⟩, _, _, rfl, rfl, (by show (0 : Int) < 2147483629; decide), len2, fun p4 n4 => ?_⟩
      exact q p4 _ n4 (same_new (Same.refl H) n4) (fin _ _ p4 n4)

theorem ok_l_out {P : Program} {w : World} {K : PySem.W.Frag} {mg : Str → Option Value} {base : Heap} {a : Nat → Addr} {d : Nat → FuncData} (T : Txt K mg a d) : FnOk P w K mg base CX0 1 (a 18) (d 18) ["_law_bag_here", "_law_many"] spOut := by
  refine T.F_l_out.ok sc_l_out (fun vs H Q E h => ?_) (fun cdv A outer s0 H vs Q E hr h => ?_)
  · obtain ⟨s, m, rfl, ⟨x, y, hs, y0, y1⟩, m0, m1, q⟩ := h
    rfl
  · obtain ⟨s, m, rfl, ⟨x, y, hs, y0, y1⟩, m0, m1, q⟩ := h
    refine ⟨_, (pss_cons (ps_if (pt_cmpR op_gt (pe_ix ix_list (pv 0) pe_int (fun _ _ => rfl)) pe_int (nomark _)) (pss_cons (ps_set (i := 2) sc_l_out.nd rfl (Or.inl rfl) (pe_op op_mod (pe_ix ix_list (pv 0) pe_int (fun _ _ => rfl)) (pv 1))) (pss_cons (ps_asg (pe_op op_fdivW (pe_ix ix_list (pv 0) pe_int (fun _ _ => rfl)) (pv 1)) (pg_sub (pv 0) pe_int set_list)) (pss_one (ps_ret (pv 2))))) pss_nil) (pss_cons (ps_asg (pe_op op_mod (pe_op op_add (pe_op op_mul (pe_ix ix_list (pv 0) pe_int (fun _ _ => rfl)) pe_int) pe_int) pe_int) (pg_sub (pv 0) pe_int set_list)) (pss_one (ps_ret (pe_op op_mod (pe_op op_fdiv (pe_op op_mod (pe_op op_mul (pe_ix ix_list (pv 0) pe_int (fun _ _ => rfl)) (pe_op op_add (pe_op op_fdiv (pe_ix ix_list (pv 0) pe_int (fun _ _ => rfl)) pe_int) pe_int)) pe_int) pe_int) (pv 1)))))), ?_⟩
    refine ⟨_, rfl, s, _, 0, _, rfl, rfl, SqL.of hs, rfl, x, 0, rfl, rfl, _, rfl, ?_⟩
    refine ite2 (fun _ => ?_) (fun _ => ?_)
    · refine ⟨_, rfl, s, _, 0, _, rfl, rfl, SqL.of hs, rfl, _, rfl, x, m, rfl, rfl, m0, ?_⟩
      refine ⟨_, rfl, s, _, 0, _, rfl, rfl, SqL.of hs, rfl, _, rfl, x, m, rfl, rfl, divW m0 m1, _, rfl, s, _, 0, 0, rfl, rfl, hs, rfl, ?_⟩
      refine ⟨_, rfl, ?_⟩
      exact q _ _ (Int.emod_nonneg _ (by omega)) (Int.emod_lt_of_pos _ m0) (Fr.refl s H).put ⟨_, _, upd_same, y0, y1⟩
    · refine ⟨_, rfl, s, _, 1, _, rfl, rfl, SqL.of hs, rfl, y, 40692, rfl, rfl, .inr (m64 (by decide) (by decide)), _, 12345, rfl, rfl, _, 2147483399, rfl, rfl, (by show (0 : Int) < 2147483399; decide), _, rfl, s, _, 1, 1, rfl, rfl, hs, rfl, ?_⟩
      have e0 : 0 ≤ (y * 40692 + 12345) % 2147483399 := Int.emod_nonneg _ (by decide)
      have e1 : (y * 40692 + 12345) % 2147483399 < 2147483399 := Int.emod_lt_of_pos _ (by decide)
      refine ⟨_, rfl, s, _, 1, _, rfl, rfl, SqL.of upd_same, rfl, _, rfl, s, _, 1, _, rfl, rfl, SqL.of upd_same, rfl, _, 1024, rfl, rfl, ⟨by decide, by decide⟩, _, 7, rfl, rfl, _, _, rfl, rfl, .inl (m64 (by omega) (by omega)), _, 2147483647, rfl, rfl, (by show (0 : Int) < 2147483647; decide), _, 32, rfl, rfl, ⟨by decide, by decide⟩, _, rfl, _, m, rfl, rfl, m0, ?_⟩
      exact q _ _ (Int.emod_nonneg _ (by omega)) (Int.emod_lt_of_pos _ m0) (Fr.refl s H).put ⟨_, _, upd_same, e0, by omega⟩

/-! ### what stays in the law of barred holds -/
structure In23 (s : HS) : Prop where
  wf : WF s
  ag : ∀ d a, s.ages d = some a → a = d
  ex : ∀ o o' k n n', o ≠ o' → s.held o k = some n → s.held o' k = some n' → bars n n' = false
  of : ∀ d, s.offs d = true → (s.held d = fun _ => none) ∧ s.asks d = none
  bd : ∀ d, s.bnd d = true → s.asks d = none
theorem bars_comm (m n : Str) : bars m n = bars n m := by unfold bars; rw [Bool.or_comm]
theorem In23.new : In23 HS.none := ⟨⟨fun o k v e => (by cases e), fun d k m e => (by cases e)⟩, fun d a e => (by cases e), fun o o' k n n' _ e => (by cases e), fun d e => (by cases e), fun d e => (by cases e)⟩
theorem ifh {p : Prop} [Decidable p] {f g : Str → Option Str} {k v : Str} (h : (if p then f else g) k = some v) : (p ∧ f k = some v) ∨ (¬ p ∧ g k = some v) := by
  by_cases c : p
  · rw [if_pos c] at h; exact .inl ⟨c, h⟩
  · rw [if_neg c] at h; exact .inr ⟨c, h⟩
theorem In23.free {s : HS} (h : In23 s) (d : Int) : In23 (s.free d true) := by
  have eh : (s.free d true).held = fun i => if i = d then fun _ => .none else s.held i := rfl
  have eg : (s.free d true).ages = fun i => if i = d then .none else s.ages i := rfl
  have ea : (s.free d true).asks = fun i => if i = d then .none else s.asks i := rfl
  have eo : (s.free d true).offs = fun i => if i = d then false else s.offs i := rfl
  have eb : (s.free d true).bnd = fun i => if i = d then false else s.bnd i := rfl
  have hh : ∀ {o k v}, (s.free d true).held o k = some v → ¬ o = d ∧ s.held o k = some v := fun {o k v} e => by
    rw [eh] at e
    rcases ifh e with ⟨_, z⟩ | z
    · cases z
    · exact z
  refine ⟨⟨fun o k v e => ?_, fun o k m e => ?_⟩, fun o a e => ?_, fun o o' k n n' ne e e' => ?_, fun o e => ?_, fun o e => ?_⟩
  · obtain ⟨c, z⟩ := hh e
    rw [eb, eg]
    simp only [if_neg c]
    exact h.wf.h o k v z
  · rw [ea] at e
    rw [eg]
    by_cases c : o = d
    · simp [c] at e
    · simp only [if_neg c] at e ⊢
      exact h.wf.a o k m e
  · rw [eg] at e
    by_cases c : o = d
    · simp [c] at e
    · simp only [if_neg c] at e
      exact h.ag o a e
  · exact h.ex o o' k n n' ne (hh e).2 (hh e').2
  · rw [eo] at e
    by_cases c : o = d
    · simp [c] at e
    · simp only [if_neg c] at e
      rw [eh, ea]
      simp only [if_neg c]
      exact h.of o e
  · rw [eb] at e
    by_cases c : o = d
    · simp [c] at e
    · simp only [if_neg c] at e
      rw [ea]
      simp only [if_neg c]
      exact h.bd o e
theorem noAsk_asks {s : HS} {d o : Int} {p : Str × Str} (h : (s.noAsk d).asks o = some p) : s.asks o = some p := by
  have h' : (if o = d then .none else s.asks o) = some p := h
  by_cases c : o = d
  · rw [if_pos c] at h'; cases h'
  · rw [if_neg c] at h'; exact h'
theorem noAsk_no {s : HS} {d o : Int} (h : s.asks o = none) : (s.noAsk d).asks o = none := by
  show (if o = d then .none else s.asks o) = _
  by_cases c : o = d
  · rw [if_pos c]
  · rw [if_neg c]; exact h
theorem In23.noAsk {s : HS} (h : In23 s) (d : Int) : In23 (s.noAsk d) :=
  ⟨⟨h.wf.h, fun o k m e => h.wf.a o k m (noAsk_asks e)⟩, h.ag, h.ex, fun o e => ⟨(h.of o e).1, noAsk_no (h.of o e).2⟩, fun o e => noAsk_no (h.bd o e)⟩
theorem In23.pledge {s : HS} (h : In23 s) (d : Int) : In23 ((s.setBnd d).noAsk d) := by
  refine ⟨⟨fun o k v e => ?_, fun o k m e => h.wf.a o k m (noAsk_asks (s := s.setBnd d) e)⟩, h.ag, h.ex, fun o e => ⟨(h.of o e).1, noAsk_no (s := s.setBnd d) (h.of o e).2⟩, fun o e => ?_⟩
  · show (if o = d then true else s.bnd o) = true ∨ _
    by_cases c : o = d
    · exact .inl (by rw [if_pos c])
    · rw [if_neg c]
      exact h.wf.h o k v e
  · have e' : (if o = d then true else s.bnd o) = true := e
    show (if o = d then .none else s.asks o) = _
    by_cases c : o = d
    · rw [if_pos c]
    · rw [if_neg c] at e' ⊢
      exact h.bd o e'
theorem In23.aged {s : HS} (h : In23 s) (d : Int) : In23 (s.aged d none) := by
  refine ⟨h.wf.aged d none, fun o a e => ?_, fun o o' k n n' ne e e' => ?_, fun o e => ?_, fun o e => ?_⟩
  · cases c : s.ages d with
    | some b => rw [aged_some s c] at e; exact h.ag o a e
    | none =>
      rw [aged_none s c] at e
      have e' : (if o = d then some d else s.ages o) = some a := e
      by_cases c2 : o = d
      · rw [if_pos c2] at e'; cases e'; exact c2.symm
      · rw [if_neg c2] at e'; exact h.ag o a e'
  · rw [aged_held] at e e'; exact h.ex o o' k n n' ne e e'
  · rw [aged_offs] at e; rw [aged_held, aged_asks]; exact h.of o e
  · rw [aged_bnd] at e; rw [aged_asks]; exact h.bd o e
theorem In23.offL {s : HS} (h : In23 s) (l : List Int) : In23 (s.offL l) := by
  have hh : ∀ {o k v}, (s.offL l).held o k = some v → ¬ o ∈ l ∧ s.held o k = some v := fun {o k v} e => by
    have e' : (if o ∈ l then fun _ => .none else s.held o) k = some v := e
    rcases ifh e' with ⟨_, z⟩ | z
    · cases z
    · exact z
  have ha : ∀ {o p}, (s.offL l).asks o = some p → s.asks o = some p := fun {o p} e => by
    have e' : (if o ∈ l then .none else s.asks o) = some p := e
    by_cases c : o ∈ l
    · rw [if_pos c] at e'; cases e'
    · rw [if_neg c] at e'; exact e'
  have hn : ∀ {o}, s.asks o = none → (s.offL l).asks o = none := fun {o} e => by
    show (if o ∈ l then .none else s.asks o) = _
    by_cases c : o ∈ l
    · rw [if_pos c]
    · rw [if_neg c]; exact e
  refine ⟨⟨fun o k v e => h.wf.h o k v (hh e).2, fun o k m e => h.wf.a o k m (ha e)⟩, h.ag, fun o o' k n n' ne e e' => h.ex o o' k n n' ne (hh e).2 (hh e').2, fun o e => ?_, fun o e => hn (h.bd o e)⟩
  have e' : (if o ∈ l then true else s.offs o) = true := e
  show ((if o ∈ l then fun _ => .none else s.held o) = fun _ => .none) ∧ (if o ∈ l then .none else s.asks o) = .none
  by_cases c : o ∈ l
  · rw [if_pos c, if_pos c]; exact ⟨rfl, rfl⟩
  · rw [if_neg c] at e' ⊢
    rw [if_neg c]
    exact h.of o e'
theorem offL_offs {s : HS} {l : List Int} {d : Int} (h : ¬ d ∈ l) : (s.offL l).offs d = s.offs d := by
  show (if d ∈ l then true else s.offs d) = _
  rw [if_neg h]
theorem In23.setAsk {s : HS} (h : In23 s) {d : Int} {k m : Str} (ho : s.offs d = false) (hb : s.bnd d = false) (ha : ∃ a, s.ages d = some a) : In23 (s.setAsk d k m) := by
  refine ⟨⟨h.wf.h, fun o k' m' e => ?_⟩, h.ag, h.ex, fun o e => ⟨(h.of o e).1, ?_⟩, fun o e => ?_⟩
  · have e' : (if o = d then some (k, m) else s.asks o) = some (k', m') := e
    by_cases c : o = d
    · rw [c]; exact ha
    · rw [if_neg c] at e'; exact h.wf.a o k' m' e'
  · show (if o = d then some (k, m) else s.asks o) = none
    rw [if_neg (fun c => by
      have e' : s.offs o = true := e
      rw [c, ho] at e'; cases e')]
    exact (h.of o e).2
  · show (if o = d then some (k, m) else s.asks o) = none
    rw [if_neg (fun c => by
      have e' : s.bnd o = true := e
      rw [c, hb] at e'; cases e')]
    exact h.bd o e
theorem hold_held {s : HS} {d o : Int} {k m k' v : Str} (h : (s.hold d k m).held o k' = some v) : (o = d ∧ k' = k ∧ v = m) ∨ s.held o k' = some v := by
  have e : (if o = d then (if k' = k then some m else s.held d k') else s.held o k') = some v := h
  by_cases c : o = d
  · rw [if_pos c] at e
    by_cases c2 : k' = k
    · rw [if_pos c2] at e
      exact .inl ⟨c, c2, (Option.some.inj e).symm⟩
    · rw [if_neg c2] at e
      exact .inr (c ▸ e)
  · rw [if_neg c] at e
    exact .inr e
theorem In23.hold {s : HS} (h : In23 s) {d : Int} {k m : Str} (ho : s.offs d = false) (ha : ∃ a, s.ages d = some a) (nb : ∀ o, bar s d k m o = false) : In23 (s.hold d k m) := by
  have clear : ∀ {o n}, o ≠ d → s.held o k = some n → bars m n = false := fun {o n} ne e => by
    have z := nb o
    unfold bar at z
    rw [e, decide_eq_false ne] at z
    exact z
  refine ⟨⟨fun o k' v e => ?_, h.wf.a⟩, h.ag, fun o o' k' n n' ne e e' => ?_, fun o e => ⟨?_, (h.of o e).2⟩, h.bd⟩
  · rcases hold_held e with ⟨c, _, _⟩ | z
    · exact .inr (c ▸ ha)
    · exact h.wf.h o k' v z
  · rcases hold_held e with ⟨c, ck, cv⟩ | z <;> rcases hold_held e' with ⟨c', ck', cv'⟩ | z'
    · exact absurd (c.trans c'.symm) ne
    · rw [cv]
      exact clear (fun y => ne (c.trans y.symm)) (ck ▸ z')
    · rw [cv', bars_comm]
      exact clear (fun y => ne (y.trans c'.symm)) (ck' ▸ z)
    · exact h.ex o o' k' n n' ne z z'
  · have e' : s.offs o = true := e
    have c : ¬ o = d := fun c => by rw [c, ho] at e'; cases e'
    funext z
    show (if o = d then _ else s.held o z) = _
    rw [if_neg c, (h.of o e').1]
theorem In23.outl {s : HS} (h : In23 s) {o d : Int} (e : outl s o d = true) : s.bnd o = true ∨ o < d := by
  unfold M.outl at e
  rw [Bool.or_eq_true] at e
  rcases e with e | e
  · exact .inl e
  · right
    cases c1 : s.ages o with
    | none => rw [c1] at e; cases e
    | some a =>
      cases c2 : s.ages d with
      | none => rw [c1, c2] at e; cases e
      | some b =>
        rw [c1, c2] at e
        have := h.ag o a c1
        have := h.ag d b c2
        simp only [Bool.or_eq_true, Bool.and_eq_true, decide_eq_true_eq] at e
        omega

/-! ### who asks again holds at last -/
def up (f : Int → Int) (d v : Int) : Int → Int := fun j => if j = d then v else f j
theorem up_same (f : Int → Int) (d v : Int) : up f d v d = v := if_pos rfl
theorem up_ne (f : Int → Int) {d j : Int} (v : Int) (h : ¬ j = d) : up f d v j = f j := if_neg h
structure In24 (L : Int → Int) (s : HS) (f : Int → Int) : Prop where
  i23 : In23 s
  one : ∀ i, f i = -1 → s.held i = (fun _ => none) ∧ s.asks i = none ∧ s.bnd i = false ∧ s.offs i = false
  two : ∀ i, f i = -2 → s.bnd i = true ∧ s.offs i = false
  act : ∀ i, 0 ≤ f i → s.bnd i = false ∧ f i ≤ L i
  rng : ∀ i, f i = -1 ∨ f i = -2 ∨ 0 ≤ f i
section
variable {L : Int → Int} {s : HS} {f : Int → Int} {d v : Int} {k m : Str}
theorem free_eq (s : HS) {d : Int} (h : s.offs d = false) : s.free d false = s.free d true := by
  show (((s.noHeld d).noAge d).noBnd d).noAsk d = ((((s.noHeld d).noAge d).noBnd d).noAsk d).noOff d
  unfold HS.noHeld HS.noAge HS.noBnd HS.noAsk HS.noOff
  simp only [HS.mk.injEq, true_and, and_true]
  funext i
  by_cases c : i = d
  · rw [if_pos c, c, h]
  · rw [if_neg c]
theorem freed_at (s : HS) (d : Int) : (s.free d true).held d = (fun _ => none) ∧ (s.free d true).asks d = none ∧ (s.free d true).bnd d = false ∧ (s.free d true).offs d = false :=
  ⟨if_pos rfl, if_pos rfl, if_pos rfl, if_pos rfl⟩
theorem freed_ne (s : HS) {d i : Int} (c : ¬ i = d) : (s.free d true).held i = s.held i ∧ (s.free d true).asks i = s.asks i ∧ (s.free d true).bnd i = s.bnd i ∧ (s.free d true).offs i = s.offs i :=
  ⟨if_neg c, if_neg c, if_neg c, if_neg c⟩
theorem In24.freeT (h : In24 L s f) (hv : v = -1 ∨ (0 ≤ v ∧ v ≤ L d)) : In24 L (s.free d true) (up f d v) := by
  obtain ⟨z1, z2, z3, z4⟩ := freed_at s d
  refine ⟨h.i23.free d, fun i e => ?_, fun i e => ?_, fun i e => ?_, fun i => ?_⟩
  · by_cases c : i = d
    · rw [c]; exact ⟨z1, z2, z3, z4⟩
    · obtain ⟨y1, y2, y3, y4⟩ := freed_ne s c
      rw [up_ne f v c] at e
      rw [y1, y2, y3, y4]
      exact h.one i e
  · by_cases c : i = d
    · rw [c, up_same] at e
      omega
    · obtain ⟨y1, y2, y3, y4⟩ := freed_ne s c
      rw [up_ne f v c] at e
      rw [y3, y4]
      exact h.two i e
  · by_cases c : i = d
    · rw [c, up_same] at e ⊢
      exact ⟨z3, by omega⟩
    · obtain ⟨y1, y2, y3, y4⟩ := freed_ne s c
      rw [up_ne f v c] at e ⊢
      rw [y3]
      exact h.act i e
  · by_cases c : i = d
    · rw [c, up_same]; omega
    · rw [up_ne f v c]; exact h.rng i
theorem In24.put (h : In24 L s f) (e0 : 0 ≤ f d) (h0 : 0 ≤ v) (h1 : v ≤ L d) : In24 L s (up f d v) := by
  have b := (h.act d e0).1
  refine ⟨h.i23, fun i e => ?_, fun i e => ?_, fun i e => ?_, fun i => ?_⟩
  · by_cases c : i = d
    · rw [c, up_same] at e; omega
    · rw [up_ne f v c] at e; exact h.one i e
  · by_cases c : i = d
    · rw [c, up_same] at e; omega
    · rw [up_ne f v c] at e; exact h.two i e
  · by_cases c : i = d
    · rw [c, up_same]; exact ⟨b, h1⟩
    · rw [up_ne f v c] at e ⊢; exact h.act i e
  · by_cases c : i = d
    · rw [c, up_same]; omega
    · rw [up_ne f v c]; exact h.rng i
theorem In24.pledge (h : In24 L s f) (ho : s.offs d = false) : In24 L ((s.setBnd d).noAsk d) (up f d (-2)) := by
  have nb : ∀ {i}, ¬ i = d → ((s.setBnd d).noAsk d).bnd i = s.bnd i := fun c => if_neg c
  have na : ∀ {i}, ¬ i = d → ((s.setBnd d).noAsk d).asks i = s.asks i := fun c => if_neg c
  refine ⟨h.i23.pledge d, fun i e => ?_, fun i e => ?_, fun i e => ?_, fun i => ?_⟩
  · by_cases c : i = d
    · rw [c, up_same] at e; omega
    · rw [up_ne f _ c] at e
      rw [nb c, na c]
      exact h.one i e
  · by_cases c : i = d
    · rw [c]; exact ⟨if_pos rfl, ho⟩
    · rw [up_ne f _ c] at e
      rw [nb c]
      exact h.two i e
  · by_cases c : i = d
    · rw [c, up_same] at e; omega
    · rw [up_ne f _ c] at e ⊢
      rw [nb c]
      exact h.act i e
  · by_cases c : i = d
    · rw [c, up_same]; omega
    · rw [up_ne f _ c]; exact h.rng i
theorem In24.off (h : In24 L s f) {o : Int} (e : (bar (s.aged d none) d k m o && !outl (s.aged d none) o d) = true) : 0 ≤ f o ∧ d < o := by
  rw [Bool.and_eq_true, Bool.not_eq_true'] at e
  obtain ⟨e1, e2⟩ := e
  obtain ⟨n, hn, _⟩ := bar_held e1
  have ne := bar_ne e1
  have i2 := h.i23.aged d
  have b0 : s.bnd o = false := by
    cases c : s.bnd o with
    | false => rfl
    | true =>
      unfold outl at e2
      rw [aged_bnd, c] at e2
      cases e2
  have fo : 0 ≤ f o := by
    rcases h.rng o with z | z | z
    · rw [aged_held, (h.one o z).1] at hn
      cases hn
    · rw [(h.two o z).1] at b0
      cases b0
    · exact z
  refine ⟨fo, ?_⟩
  obtain ⟨a, ha⟩ := (i2.wf.h o k n hn).resolve_left (by rw [aged_bnd, b0]; decide)
  obtain ⟨b, hb⟩ := aged_age s d none
  have := i2.ag o a ha
  have := i2.ag d b hb
  unfold outl at e2
  rw [ha, hb] at e2
  have e3 : (decide (a < b) || (decide (a = b) && decide (o < d))) = false := (Bool.or_eq_false_iff.mp e2).2
  have e4 := of_decide_eq_false (Bool.or_eq_false_iff.mp e3).1
  omega
theorem In24.askA (h : In24 L s f) (d : Int) : In24 L ((s.aged d none).noAsk d) f := by
  have ea : ∀ {i : Int}, s.asks i = none → ((s.aged d none).noAsk d).asks i = none := fun {i} z => noAsk_no (by rw [aged_asks]; exact z)
  refine ⟨(h.i23.aged d).noAsk d, fun i e => ?_, fun i e => ?_, fun i e => ?_, h.rng⟩
  · obtain ⟨a, b, c, c'⟩ := h.one i e
    refine ⟨?_, ea b, ?_, ?_⟩
    · show (s.aged d none).held i = _; rw [aged_held]; exact a
    · show (s.aged d none).bnd i = _; rw [aged_bnd]; exact c
    · show (s.aged d none).offs i = _; rw [aged_offs]; exact c'
  · show (s.aged d none).bnd i = _ ∧ (s.aged d none).offs i = _
    rw [aged_bnd, aged_offs]
    exact h.two i e
  · show (s.aged d none).bnd i = _ ∧ _
    rw [aged_bnd]
    exact h.act i e
theorem In24.offL (h : In24 L s f) (d : Int) {off : List Int} (ho : ∀ o ∈ off, 0 ≤ f o) : In24 L ((s.aged d none).offL off) f := by
  have no : ∀ {i : Int}, ¬ 0 ≤ f i → ¬ i ∈ off := fun c z => c (ho _ z)
  have hd1 : ∀ {i : Int}, ¬ i ∈ off → ((s.aged d none).offL off).held i = s.held i := fun {i} c => by
    show (if i ∈ off then fun _ => none else (s.aged d none).held i) = _
    rw [if_neg c, aged_held]
  have hd2 : ∀ {i : Int}, ¬ i ∈ off → ((s.aged d none).offL off).asks i = s.asks i := fun {i} c => by
    show (if i ∈ off then none else (s.aged d none).asks i) = _
    rw [if_neg c, aged_asks]
  have hd3 : ∀ {i : Int}, ¬ i ∈ off → ((s.aged d none).offL off).offs i = s.offs i := fun {i} c => by
    show (if i ∈ off then true else (s.aged d none).offs i) = _
    rw [if_neg c, aged_offs]
  have hd4 : ∀ i : Int, ((s.aged d none).offL off).bnd i = s.bnd i := fun i => by
    show (s.aged d none).bnd i = _
    rw [aged_bnd]
  refine ⟨(h.i23.aged d).offL off, fun i e => ?_, fun i e => ?_, fun i e => ?_, h.rng⟩
  · have c := no (i := i) (by omega)
    rw [hd1 c, hd2 c, hd3 c, hd4]
    exact h.one i e
  · have c := no (i := i) (by omega)
    rw [hd3 c, hd4]
    exact h.two i e
  · rw [hd4]
    exact h.act i e
theorem In24.setAsk (h : In24 L s f) (e0 : 0 ≤ f d) (ho : s.offs d = false) (ha : ∃ a, s.ages d = some a) : In24 L (s.setAsk d k m) f := by
  refine ⟨h.i23.setAsk ho (h.act d e0).1 ha, fun i e => ?_, h.two, h.act, h.rng⟩
  obtain ⟨a, b, c, c'⟩ := h.one i e
  refine ⟨a, ?_, c, c'⟩
  show (if i = d then some (k, m) else s.asks i) = none
  rw [if_neg (fun z => by rw [z] at e; omega)]
  exact b
theorem In24.hold (h : In24 L s f) (e0 : 0 ≤ f d) (ho : s.offs d = false) (ha : ∃ a, s.ages d = some a) (nb : ∀ o, bar s d k m o = false) : In24 L (s.hold d k m) f := by
  refine ⟨h.i23.hold ho ha nb, fun i e => ?_, h.two, h.act, h.rng⟩
  obtain ⟨a, b, c, c'⟩ := h.one i e
  refine ⟨?_, b, c, c'⟩
  funext z
  show (if i = d then (if z = k then some m else s.held d z) else s.held i z) = none
  rw [if_neg (fun z => by rw [z] at e; omega), a]
theorem In24.noAsk (h : In24 L s f) (d : Int) : In24 L (s.noAsk d) f := ⟨h.i23.noAsk d, fun i e => ⟨(h.one i e).1, noAsk_no (h.one i e).2.1, (h.one i e).2.2⟩, h.two, h.act, h.rng⟩
end
/-! ### counts -/
def cA (f : Int → Int) : Nat → Int
  | 0 => 0
  | n + 1 => cA f n + (if 0 ≤ f n then 1 else 0)
def cP (f : Int → Int) : Nat → Int
  | 0 => 0
  | n + 1 => cP f n + (if f n = -2 then 1 else 0)
theorem cA_nn (f : Int → Int) : ∀ n, 0 ≤ cA f n
  | 0 => by show (0 : Int) ≤ 0; omega
  | n + 1 => by
    have := cA_nn f n
    show 0 ≤ cA f n + (if 0 ≤ f n then 1 else 0)
    split <;> omega
theorem cP_nn (f : Int → Int) : ∀ n, 0 ≤ cP f n
  | 0 => by show (0 : Int) ≤ 0; omega
  | n + 1 => by
    have := cP_nn f n
    show 0 ≤ cP f n + (if f n = -2 then 1 else 0)
    split <;> omega
theorem cA_le (f : Int → Int) : ∀ n : Nat, cA f n ≤ n
  | 0 => by show (0 : Int) ≤ 0; omega
  | n + 1 => by
    have := cA_le f n
    show cA f n + (if 0 ≤ f n then 1 else 0) ≤ ((n + 1 : Nat) : Int)
    split <;> omega
theorem cA_pos {f : Int → Int} : ∀ {n e : Nat}, e < n → 0 ≤ f e → 1 ≤ cA f n
  | 0, e, h, _ => by omega
  | n + 1, e, h, z => by
    show 1 ≤ cA f n + (if 0 ≤ f n then 1 else 0)
    have := cA_nn f n
    by_cases c : e = n
    · rw [← c, if_pos z]
      rw [← c] at this
      omega
    · have := cA_pos (n := n) (e := e) (by omega) z
      split <;> omega
theorem cP_pos {f : Int → Int} : ∀ {n e : Nat}, e < n → f e = -2 → 1 ≤ cP f n
  | 0, e, h, _ => by omega
  | n + 1, e, h, z => by
    show 1 ≤ cP f n + (if f n = -2 then 1 else 0)
    have := cP_nn f n
    by_cases c : e = n
    · rw [← c, if_pos z]
      rw [← c] at this
      omega
    · have := cP_pos (n := n) (e := e) (by omega) z
      split <;> omega
theorem cA_zero {f : Int → Int} : ∀ {n : Nat}, (∀ j : Nat, j < n → f j < 0) → cA f n = 0
  | 0, _ => rfl
  | n + 1, h => by
    show cA f n + (if 0 ≤ f n then 1 else 0) = 0
    rw [cA_zero fun j hj => h j (by omega), if_neg (by have := h n (by omega); omega)]
    rfl
theorem cP_zero {f : Int → Int} : ∀ {n : Nat}, cP f n = 0 → ∀ j : Nat, j < n → f j ≠ -2
  | n, e, j, hj, z => by
    have := cP_pos hj z
    omega
theorem round_count {f0 f1 : Int → Int} : ∀ {n : Nat}, (∀ j : Nat, j < n → (f0 j < 0 → f1 j = -1) ∧ (0 ≤ f0 j → 0 ≤ f1 j ∨ f1 j = -2)) → cA f1 n + cP f1 n = cA f0 n
  | 0, _ => rfl
  | n + 1, h => by
    have ih := round_count (n := n) fun j hj => h j (by omega)
    obtain ⟨a, b⟩ := h n (by omega)
    show cA f1 n + (if 0 ≤ f1 n then 1 else 0) + (cP f1 n + (if f1 n = -2 then 1 else 0)) = cA f0 n + (if 0 ≤ f0 n then 1 else 0)
    by_cases c : 0 ≤ f0 n
    · rw [if_pos c]
      rcases b c with z | z
      · rw [if_pos z, if_neg (by omega)]; omega
      · rw [if_neg (by omega), if_pos z]; omega
    · have z := a (by omega)
      rw [if_neg c, if_neg (by omega), if_neg (by omega)]
      omega
def Lst (f : Int → Int) (n e : Nat) : Prop := e < n ∧ 0 ≤ f e ∧ ∀ j : Nat, j < e → f j < 0
theorem lst_ex {f : Int → Int} {n : Nat} : ∀ {e : Nat}, e < n → 0 ≤ f e → ∃ e0, e0 ≤ e ∧ Lst f n e0 := by
  intro e
  induction e using Nat.strongRecOn with
  | ind e ih =>
    intro h z
    by_cases c : ∃ j : Nat, j < e ∧ 0 ≤ f j
    · obtain ⟨j, hj, zj⟩ := c
      obtain ⟨e0, h0, l⟩ := ih j hj (by omega) zj
      exact ⟨e0, by omega, l⟩
    · refine ⟨e, Nat.le_refl _, h, z, fun j hj => ?_⟩
      have : ¬ 0 ≤ f j := fun y => c ⟨j, hj, y⟩
      omega
def r24 (s : HS) (f : Int → Int) (e : Int) : Int := if s.offs e = true then 0 else f e
def Bd (n : Nat) (s : HS) (f : Int → Int) (b : Int) : Prop := (∀ e, Lst f n e → 6 * cA f n + cP f n - r24 s f e ≤ b) ∧ ((∀ j : Nat, j < n → f j < 0) → cP f n ≤ b)
theorem Bd.step {L : Int → Int} {n : Nat} {s0 s1 : HS} {f0 f1 : Int → Int} {b : Int} (h : Bd n s0 f0 b) (i0 : In24 L s0 f0) (hL : ∀ i, L i ≤ 4) (rd : ∀ j : Nat, j < n → (f0 j < 0 → f1 j = -1) ∧ (0 ≤ f0 j → 0 ≤ f1 j ∨ f1 j = -2))
    (ef : ∀ e, Lst f0 n e → f1 e = -2 ∨ (s1.offs e = false ∧ f1 e = r24 s0 f0 e + 1) ∨ (s1.offs e = false ∧ f1 e = r24 s0 f0 e ∧ 1 ≤ cP f0 n)) (some : ∃ j : Nat, j < n ∧ f0 j ≠ -1) : Bd n s1 f1 (b - 1) := by
  have rc := round_count rd
  have a0 := cA_nn f0 n
  have a1 := cA_nn f1 n
  have p0 := cP_nn f0 n
  have p1 := cP_nn f1 n
  have rb : ∀ e, Lst f0 n e → 0 ≤ r24 s0 f0 e ∧ r24 s0 f0 e ≤ 4 := fun e l => by
    have := (i0.act e l.2.1).2
    have := hL e
    have := l.2.1
    unfold r24
    split <;> omega
  have same : ∀ {e e' : Nat}, Lst f1 n e' → Lst f0 n e → 0 ≤ f1 e → e' = e := fun {e e'} l' l z => by
    rcases Nat.lt_trichotomy e e' with y | y | y
    · have := l'.2.2 e y
      omega
    · exact y.symm
    · have := (rd e' (by have := l'.1; omega)).1 (l.2.2 e' y)
      have := l'.2.1
      omega
  refine ⟨fun e' l' => ?_, fun no => ?_⟩
  · have f0e : 0 ≤ f0 e' := by
      by_cases c : 0 ≤ f0 e'
      · exact c
      · have := (rd e' l'.1).1 (by omega)
        have := l'.2.1
        omega
    obtain ⟨e, _, l⟩ := lst_ex l'.1 f0e
    have hb := h.1 e l
    obtain ⟨q0, q1⟩ := rb e l
    have r1 : 0 ≤ r24 s1 f1 e' := by
      have := l'.2.1
      unfold r24
      split <;> omega
    rcases ef e l with z | ⟨zo, z⟩ | ⟨zo, z, zp⟩
    · have := cP_pos l.1 z
      omega
    · have ee := same l' l (by omega)
      have : r24 s1 f1 e' = f1 e := by unfold r24; rw [ee, zo]; rfl
      omega
    · have ee := same l' l (by omega)
      have : r24 s1 f1 e' = f1 e := by unfold r24; rw [ee, zo]; rfl
      omega
  · have c1 := cA_zero no
    by_cases c : ∃ e : Nat, e < n ∧ 0 ≤ f0 e
    · obtain ⟨e1, h1, h2⟩ := c
      obtain ⟨e, _, l⟩ := lst_ex h1 h2
      have hb := h.1 e l
      obtain ⟨q0, q1⟩ := rb e l
      have := cA_pos l.1 l.2.1
      omega
    · have no0 : ∀ j : Nat, j < n → f0 j < 0 := fun j hj => by
        have : ¬ 0 ≤ f0 j := fun z => c ⟨j, hj, z⟩
        omega
      have c0 := cA_zero no0
      have hb := h.2 no0
      obtain ⟨j, hj, nj⟩ := some
      have : f0 j = -2 := by
        rcases i0.rng j with z | z | z
        · exact absurd z nj
        · exact z
        · have := no0 j hj
          omega
      have := cP_pos hj this
      omega
theorem Bd.ends {L : Int → Int} {n : Nat} {s : HS} {f : Int → Int} {b : Int} (h : Bd n s f b) (i0 : In24 L s f) (hL : ∀ i, L i ≤ 4) (hb : b ≤ 0) : ∀ j : Nat, j < n → f j = -1 := by
  have p0 := cP_nn f n
  have no : ∀ j : Nat, j < n → f j < 0 := fun j hj => by
    by_cases c : 0 ≤ f j
    · obtain ⟨e, _, l⟩ := lst_ex hj c
      have hb := h.1 e l
      have := cA_pos l.1 l.2.1
      have := (i0.act e l.2.1).2
      have := hL e
      have : r24 s f e ≤ 4 := by
        have := l.2.1
        unfold r24
        split <;> omega
      omega
    · omega
  have hp := h.2 no
  intro j hj
  have n2 := cP_zero (show cP f n = 0 by omega) j hj
  have := no j hj
  rcases i0.rng j with z | z | z
  · exact z
  · exact absurd z n2
  · omega
/-! ### a turn, a round -/
structure Turn (L : Int → Int) (s : HS) (f : Int → Int) (s' : HS) (f' : Int → Int) (i : Int) : Prop where
  i24 : In24 L s' f'
  ne : ∀ j, ¬ j = i → f' j = f j
  neg : f i < 0 → f' i = -1 ∧ s'.offs = s.offs
  pos : 0 ≤ f i → 0 ≤ f' i ∨ f' i = -2
  off : ∀ o, o < i → s'.offs o = s.offs o
  got : 0 ≤ f i → f' i = -2 ∨ (s'.offs i = false ∧ f' i = r24 s f i + 1) ∨ (s'.offs i = false ∧ f' i = r24 s f i ∧ ∃ o k v, s.held o k = some v ∧ o ≠ i ∧ (s.bnd o = true ∨ o < i))
structure Pt (L : Int → Int) (n : Nat) (s0 : HS) (f0 : Int → Int) (s : HS) (f : Int → Int) (i : Nat) : Prop where
  i24 : In24 L s f
  lo : ∀ j : Nat, j < i → (f0 j < 0 → f j = -1) ∧ (0 ≤ f0 j → 0 ≤ f j ∨ f j = -2)
  hi : ∀ j : Int, ¬ (0 ≤ j ∧ j < i) → f j = f0 j
  e1 : ∀ e, Lst f0 n e → i ≤ e → s.offs e = s0.offs e
  e2 : ∀ e, Lst f0 n e → e < i → f e = -2 ∨ (s.offs e = false ∧ f e = r24 s0 f0 e + 1) ∨ (s.offs e = false ∧ f e = r24 s0 f0 e ∧ 1 ≤ cP f0 n)
theorem Pt.begin {L : Int → Int} {n : Nat} {s : HS} {f : Int → Int} (h : In24 L s f) : Pt L n s f s f 0 := ⟨h, fun j hj => by omega, fun _ _ => rfl, fun _ _ _ => rfl, fun e _ h => by omega⟩
theorem Pt.turn {L : Int → Int} {n : Nat} {s0 s s' : HS} {f0 f f' : Int → Int} {i : Nat} (h : Pt L n s0 f0 s f i) (t : Turn L s f s' f' i) (hi : i < n) (out : ∀ j : Int, ¬ (0 ≤ j ∧ j < n) → f0 j = -1) : Pt L n s0 f0 s' f' (i + 1) := by
  have fi : f i = f0 i := h.hi i (by omega)
  refine ⟨t.i24, fun j hj => ?_, fun j hj => ?_, fun e l he => ?_, fun e l he => ?_⟩
  · by_cases c : j = i
    · rw [c, ← fi]
      exact ⟨fun z => (t.neg z).1, t.pos⟩
    · rw [t.ne j (by omega)]
      exact h.lo j (by omega)
  · rw [t.ne j (by omega)]
    exact h.hi j (by omega)
  · have z := l.2.2 i (by omega)
    rw [(t.neg (by omega)).2]
    exact h.e1 e l (by omega)
  · by_cases c : e = i
    · rw [c] at l ⊢
      have pos := l.2.1
      have re : r24 s f i = r24 s0 f0 i := by unfold r24; rw [h.e1 i l (Nat.le_refl _), fi]
      rcases t.got (by omega) with z | z | ⟨zo, z, o, k, v, hv, ne, w⟩
      · exact .inl z
      · rw [re] at z; exact .inr (.inl z)
      · rw [re] at z
        refine .inr (.inr ⟨zo, z, ?_⟩)
        have fo : f o ≠ -1 := fun y => by
          rw [(h.i24.one o y).1] at hv
          cases hv
        have o0 : 0 ≤ o ∧ o < n := by
          by_cases y : 0 ≤ o ∧ o < n
          · exact y
          · exact absurd ((h.hi o (by omega)).trans (out o y)) fo
        have ge : ¬ o < i := fun y => by
          obtain ⟨j, rfl⟩ := Int.eq_ofNat_of_zero_le o0.1
          exact fo ((h.lo j (by omega)).1 (l.2.2 j (by omega)))
        have f2 : f o = -2 := by
          rcases h.i24.rng o with y | y | y
          · exact absurd y fo
          · exact y
          · rcases w with w | w
            · rw [(h.i24.act o y).1] at w; cases w
            · exact absurd w ge
        obtain ⟨j, rfl⟩ := Int.eq_ofNat_of_zero_le o0.1
        rw [h.hi (j : Int) (by omega)] at f2
        exact cP_pos (by omega) f2
    · have ei : e < i := by omega
      rw [t.ne e (by omega), t.off e (by omega)]
      exact h.e2 e l ei
/-! ### turns -/
section
variable {L : Int → Int} {s : HS} {f : Int → Int} {d : Int} {k m : Str}
theorem Turn.gone (h : In24 L s f) (e : f d = -1) : Turn L s f s f d := ⟨h, fun _ _ => rfl, fun _ => ⟨e, rfl⟩, fun z => by omega, fun _ _ => rfl, fun z => by omega⟩
theorem Turn.free (h : In24 L s f) (e : f d = -2) : Turn L s f (s.free d false) (up f d (-1)) d := by
  have ho := (h.two d e).2
  rw [free_eq s ho]
  refine ⟨h.freeT (.inl rfl), fun j c => up_ne f _ c, fun _ => ⟨up_same .., ?_⟩, fun z => by omega, fun o c => (freed_ne s (by omega)).2.2.2, fun z => by omega⟩
  funext o
  by_cases c : o = d
  · rw [c, (freed_at s d).2.2.2, ho]
  · exact (freed_ne s c).2.2.2
/-- the state behind the look whether one is called off -/
structure Rs (L : Int → Int) (s : HS) (f : Int → Int) (s1 : HS) (d : Int) : Prop where
  i24 : In24 L s1 (up f d (r24 s f d))
  off : s1.offs d = false
  ne : ∀ o, ¬ o = d → s1.offs o = s.offs o
  held : ∀ o k v, s1.held o k = some v → s.held o k = some v
  bnd : ∀ o, s1.bnd o = s.bnd o
  pos : 0 ≤ f d
  r0 : 0 ≤ r24 s f d
  rl : r24 s f d ≤ L d
theorem Rs.yes (h : In24 L s f) (e : 0 ≤ f d) (hl : 0 ≤ L d) (ho : s.offs d = true) : Rs L s f (s.free d true) d := by
  have r : r24 s f d = 0 := by unfold r24; rw [if_pos ho]
  refine ⟨h.freeT (.inr (by omega)), (freed_at s d).2.2.2, fun o c => (freed_ne s c).2.2.2, fun o k v z => ?_, fun o => ?_, e, by omega, by omega⟩
  · by_cases c : o = d
    · rw [c, (freed_at s d).1] at z; cases z
    · rw [(freed_ne s c).1] at z; exact z
  · by_cases c : o = d
    · rw [c, (freed_at s d).2.2.1, (h.act d e).1]
    · exact (freed_ne s c).2.2.1
theorem Rs.no (h : In24 L s f) (e : 0 ≤ f d) (ho : s.offs d = false) : Rs L s f s d := by
  have r : r24 s f d = f d := by unfold r24; rw [if_neg (by rw [ho]; decide)]
  have hf : up f d (r24 s f d) = f := by
    funext j
    unfold up
    by_cases c : j = d
    · rw [if_pos c, r, c]
    · rw [if_neg c]
  refine ⟨by rw [hf]; exact h, ho, fun _ _ => rfl, fun _ _ _ z => z, fun _ => rfl, e, by omega, by rw [r]; exact (h.act d e).2⟩
theorem up_up (f : Int → Int) (d v w : Int) : up (up f d v) d w = up f d w := by
  funext j
  unfold up
  by_cases c : j = d
  · rw [if_pos c, if_pos c]
  · rw [if_neg c, if_neg c, if_neg c]
/-- asked, or nothing left to ask: v the stand behind it -/
structure Ak (L : Int → Int) (s : HS) (f : Int → Int) (s2 : HS) (d v : Int) : Prop where
  i24 : In24 L s2 (up f d v)
  off : s2.offs d = false
  ne : ∀ o, o < d → s2.offs o = s.offs o
  pos : 0 ≤ f d
  v0 : 0 ≤ v
  vl : v ≤ L d
  got : v = L d ∨ v = r24 s f d + 1 ∨ (v = r24 s f d ∧ ∃ o k v, s.held o k = some v ∧ o ≠ d ∧ (s.bnd o = true ∨ o < d))
theorem Rs.idle {s1 : HS} (h : Rs L s f s1 d) (e : r24 s f d = L d) : Ak L s f s1 d (r24 s f d) := ⟨h.i24, h.off, fun o c => h.ne o (by omega), h.pos, h.r0, h.rl, .inl e⟩
theorem Rs.askA {s1 : HS} (h : Rs L s f s1 d) (e : r24 s f d < L d) : Ak L s f ((s1.aged d none).noAsk d) d (r24 s f d + 1) := by
  have z := (h.i24.askA d).put (d := d) (v := r24 s f d + 1) (by rw [up_same]; exact h.r0) (by have := h.r0; omega) (by omega)
  rw [up_up] at z
  refine ⟨z, ?_, fun o c => ?_, h.pos, by have := h.r0; omega, by omega, .inr (.inl rfl)⟩
  · show (s1.aged d none).offs d = _; rw [aged_offs]; exact h.off
  · show (s1.aged d none).offs o = _; rw [aged_offs]; exact h.ne o (by omega)
theorem Rs.offed {s1 : HS} (h : Rs L s f s1 d) {off : List Int} (il : IsL (fun o => bar (s1.aged d none) d k m o && !outl (s1.aged d none) o d) off) : In24 L ((s1.aged d none).offL off) (up f d (r24 s f d)) ∧ ((s1.aged d none).offL off).offs d = false ∧ (∃ a, ((s1.aged d none).offL off).ages d = some a) ∧ ∀ o, o < d → ((s1.aged d none).offL off).offs o = s.offs o := by
  have z : ∀ o ∈ off, 0 ≤ up f d (r24 s f d) o ∧ d < o := fun o ho => h.i24.off ((il.mem o).mp ho)
  refine ⟨h.i24.offL d fun o ho => (z o ho).1, ?_, aged_age s1 d none, fun o c => ?_⟩
  · rw [offL_offs (fun y => by have := (z d y).2; omega), aged_offs]; exact h.off
  · rw [offL_offs (fun y => by have := (z o y).2; omega), aged_offs]; exact h.ne o (by omega)
theorem Rs.askH {s1 : HS} (h : Rs L s f s1 d) (e : r24 s f d < L d) {off : List Int} (il : IsL (fun o => bar (s1.aged d none) d k m o && !outl (s1.aged d none) o d) off) (ib : IsL (bar ((s1.aged d none).offL off) d k m) []) : Ak L s f ((((s1.aged d none).offL off).noAsk d).hold d k m) d (r24 s f d + 1) := by
  obtain ⟨a, b, c, c'⟩ := h.offed il
  have r0 := h.r0
  have nb : ∀ o, bar ((s1.aged d none).offL off) d k m o = false := fun o => by
    cases q : bar ((s1.aged d none).offL off) d k m o with
    | false => rfl
    | true => exact absurd ((ib.mem o).mpr q) (by simp)
  have z := ((a.noAsk d).hold (s := ((s1.aged d none).offL off).noAsk d) (k := k) (m := m) (by rw [up_same]; exact r0) b c nb).put (d := d) (v := r24 s f d + 1) (by rw [up_same]; exact r0) (by omega) (by omega)
  rw [up_up] at z
  exact ⟨z, b, c', h.pos, by omega, by omega, .inr (.inl rfl)⟩
theorem Rs.askW {s1 : HS} (h : Rs L s f s1 d) {off bl : List Int} (il : IsL (fun o => bar (s1.aged d none) d k m o && !outl (s1.aged d none) o d) off) (ib : IsL (bar ((s1.aged d none).offL off) d k m) bl) (hb : bl ≠ []) : Ak L s f (((s1.aged d none).offL off).setAsk d k m) d (r24 s f d) := by
  obtain ⟨a, b, c, c'⟩ := h.offed il
  have r0 := h.r0
  have z := a.setAsk (k := k) (m := m) (by rw [up_same]; exact r0) b c
  refine ⟨z, b, c', h.pos, r0, h.rl, .inr (.inr ⟨rfl, ?_⟩)⟩
  obtain ⟨o, ho⟩ := List.exists_mem_of_ne_nil _ hb
  have hbar := (ib.mem o).mp ho
  obtain ⟨n, hn, _⟩ := bar_held hbar
  have hn' : (if o ∈ off then fun _ => none else (s1.aged d none).held o) k = some n := hn
  have nin : ¬ o ∈ off := fun y => by rw [if_pos y] at hn'; cases hn'
  rw [if_neg nin, aged_held] at hn'
  have bar1 : bar (s1.aged d none) d k m o = true := by
    have e : ((s1.aged d none).offL off).held o = (s1.aged d none).held o := offL_held nin
    unfold bar at hbar ⊢
    rw [e] at hbar
    exact hbar
  have ol : outl (s1.aged d none) o d = true := by
    cases q : outl (s1.aged d none) o d with
    | true => rfl
    | false => exact absurd ((il.mem o).mpr (by rw [bar1, q]; rfl)) nin
  refine ⟨o, k, n, h.held o k n hn', bar_ne bar1, ?_⟩
  rcases (h.i24.i23.aged d).outl ol with y | y
  · rw [aged_bnd, h.bnd] at y; exact .inl y
  · exact .inr y
theorem Ak.stay {s2 : HS} {v : Int} (h : Ak L s f s2 d v) (e : ¬ v = L d) : Turn L s f s2 (up f d v) d := by
  refine ⟨h.i24, fun j c => up_ne f _ c, fun z => by have := h.pos; omega, fun _ => .inl (by rw [up_same]; exact h.v0), h.ne, fun _ => ?_⟩
  rw [up_same]
  rcases h.got with z | z | z
  · exact absurd z e
  · exact .inr (.inl ⟨h.off, z⟩)
  · exact .inr (.inr ⟨h.off, z.1, z.2⟩)
theorem Ak.pledge {s2 : HS} {v : Int} (h : Ak L s f s2 d v) : Turn L s f ((s2.setBnd d).noAsk d) (up f d (-2)) d := by
  have z := h.i24.pledge h.off
  rw [up_up] at z
  exact ⟨z, fun j c => up_ne f _ c, fun z => by have := h.pos; omega, fun _ => .inr (up_same ..), h.ne, fun _ => .inl (up_same ..)⟩
end

/-! ### wishes, stands -/
def gl (st : List Int) : Int → Int := fun j => if 0 ≤ j then st.getD j.toNat (-1) else -1
def wl (W : List (List (Str × Str))) : Int → Int := fun j => if 0 ≤ j then ((W.getD j.toNat []).length : Int) else 0
theorem gl_at {st : List Int} {i : Nat} (h : i < st.length) : st[i]? = some (gl st i) := by
  unfold gl
  rw [if_pos (by omega), Int.toNat_natCast, List.getD_eq_getElem?_getD, List.getElem?_eq_getElem h]
  rfl
theorem gl_out {st : List Int} {j : Int} (h : ¬ (0 ≤ j ∧ j < st.length)) : gl st j = -1 := by
  unfold gl
  by_cases c : 0 ≤ j
  · rw [if_pos c, List.getD_eq_getElem?_getD, List.getElem?_eq_none (by omega)]
    rfl
  · rw [if_neg c]
theorem gl_set {st : List Int} {i : Nat} (h : i < st.length) (v : Int) : gl (st.set i v) = up (gl st) i v := by
  funext j
  show (if 0 ≤ j then (st.set i v).getD j.toNat (-1) else -1) = if j = (i : Int) then v else (if 0 ≤ j then st.getD j.toNat (-1) else -1)
  by_cases c : 0 ≤ j
  · rw [if_pos c, if_pos c, List.getD_eq_getElem?_getD, List.getD_eq_getElem?_getD, List.getElem?_set]
    by_cases e : j = (i : Int)
    · rw [if_pos (by omega), if_pos h, if_pos e]
      rfl
    · rw [if_neg (by omega), if_neg e]
  · rw [if_neg c, if_neg c]
    by_cases e : j = (i : Int)
    · omega
    · rw [if_neg e]
theorem atI_at {xs : List V} {i : Nat} {v : V} (h : xs[i]? = some v) : atI xs (i : Int) = some v := by
  have hl := (List.getElem?_eq_some_iff.mp h).1
  unfold atI ixN
  rw [if_pos (by omega), if_pos (by omega)]
  show xs[((i : Int)).toNat]? = _
  rw [Int.toNat_natCast]
  exact h
theorem gl_atI {st : List Int} {i : Nat} (h : i < st.length) : atI (st.map V.int) (i : Int) = some (.int (gl st i)) := atI_at (by rw [List.getElem?_map, gl_at h]; rfl)
theorem wl_at {W : List (List (Str × Str))} {i : Nat} {row : List (Str × Str)} (h : W[i]? = some row) : wl W i = row.length := by
  unfold wl
  rw [if_pos (by omega), Int.toNat_natCast, List.getD_eq_getElem?_getD, h]
  rfl
theorem wl_nn (W : List (List (Str × Str))) (i : Int) : 0 ≤ wl W i := by
  unfold wl
  split <;> omega
theorem wl_le {W : List (List (Str × Str))} (h : ∀ row ∈ W, row.length ≤ 4) (i : Int) : wl W i ≤ 4 := by
  unfold wl
  by_cases c : 0 ≤ i
  · rw [if_pos c, List.getD_eq_getElem?_getD]
    cases e : W[i.toNat]? with
    | none => show ((0 : Nat) : Int) ≤ 4; omega
    | some row => have := h row (List.mem_of_getElem? e); show (row.length : Int) ≤ 4; omega
  · rw [if_neg c]; omega
def RowT (H : Hp) (r : Addr) (row : List (Str × Str)) : Prop := ∃ ts : List Addr, H r = some (.lst (ts.map V.ref)) ∧ Paired (fun (t : Addr) (q : Str × Str) => H t = some (.tup [.str q.1, .str q.2])) ts row
def WAt (H : Hp) (wa : Addr) (W : List (List (Str × Str))) : Prop := ∃ rs : List Addr, H wa = some (.lst (rs.map V.ref)) ∧ Paired (fun (r : Addr) row => RowT H r row) rs W
theorem pimp {α β : Type} {F G : α → β → Prop} (h : ∀ a b, F a b → G a b) : ∀ {xs : List α} {ys : List β}, Paired F xs ys → Paired G xs ys
  | _, _, .nil => .nil
  | _, _, .cons r t => .cons (h _ _ r) (pimp h t)
theorem pget2 {α β : Type} {F : α → β → Prop} : ∀ {xs : List α} {ys : List β}, Paired F xs ys → ∀ {i : Nat} {y : β}, ys[i]? = some y → ∃ x, xs[i]? = some x ∧ F x y
  | _, _, .nil, i, y, h => by cases h
  | _, _, .cons r t, 0, y, h => by
    have e := Option.some.inj h
    subst e
    exact ⟨_, rfl, r⟩
  | _, _, .cons r t, i + 1, y, h => pget2 t h
theorem psnoc {α β : Type} {F : α → β → Prop} : ∀ {xs : List α} {ys : List β} {x : α} {y : β}, Paired F xs ys → F x y → Paired F (xs ++ [x]) (ys ++ [y])
  | _, _, _, _, .nil, h => .cons h .nil
  | _, _, _, _, .cons r t, h => .cons r (psnoc t h)
theorem prev {α β : Type} {F : α → β → Prop} : ∀ {xs : List α} {ys : List β}, Paired F xs ys → Paired F xs.reverse ys.reverse
  | _, _, .nil => .nil
  | _, _, .cons r t => by
    rw [List.reverse_cons, List.reverse_cons]
    exact psnoc (prev t) r
theorem plen {α β : Type} {F : α → β → Prop} : ∀ {xs : List α} {ys : List β}, Paired F xs ys → xs.length = ys.length
  | _, _, .nil => rfl
  | _, _, .cons r t => by rw [List.length_cons, List.length_cons, plen t]
theorem RowT.keep {H H' : Hp} {r : Addr} {row : List (Str × Str)} (h : RowT H r row) (e1 : ∀ xs, H r = some (.lst xs) → H' r = some (.lst xs)) (e2 : ∀ c xs, H c = some (.tup xs) → H' c = some (.tup xs)) : RowT H' r row := by
  obtain ⟨ts, a, b⟩ := h
  exact ⟨ts, e1 _ a, pimp (fun _ _ z => e2 _ _ z) b⟩
theorem RowT.same {H H' : Hp} {r : Addr} {row : List (Str × Str)} (h : RowT H r row) (s : Same H H') : RowT H' r row := h.keep (fun _ z => s _ _ z) fun _ _ z => s _ _ z
theorem WAt.same {H H' : Hp} {wa : Addr} {W : List (List (Str × Str))} (h : WAt H wa W) (s : Same H H') : WAt H' wa W := by
  obtain ⟨rs, a, b⟩ := h
  exact ⟨rs, s _ _ a, pimp (fun _ _ z => z.same s) b⟩
structure Rn (C : Addr) (U : Un) (Hw H : Hp) (x : Addr) (A : HA) (s : HS) (S : Addr → Prop) (sa : Addr) (st : List Int) : Prop where
  hp : HoldsAt C U S H x A s
  op : ∀ b, S b → Hw b = none
  nsa : ¬ S sa
  sm : Same Hw H
  hs : H sa = some (.lst (st.map V.int))
  hw : Hw sa = none
section
variable {C : Addr} {U : Un} {Hw H H' : Hp} {x sa : Addr} {A : HA} {s s' : HS} {S S' : Addr → Prop} {st : List Int}
theorem Rn.same (h : Rn C U Hw H x A s S sa st) (e : Same H H') : Rn C U Hw H' x A s S sa st := ⟨h.hp.same e, h.op, h.nsa, h.sm.trans e, e _ _ h.hs, h.hw⟩
theorem Rn.nx (h : Rn C U Hw H x A s S sa st) (n : Nx C U S H x A s' S' H') : Rn C U Hw H' x A s' S' sa st := by
  refine ⟨n.at_, fun b z => ?_, fun z => ?_, fun b o e => ?_, n.fr _ _ h.nsa h.hs, h.hw⟩
  · rcases n.ow b z with q | q
    · exact h.op b q
    · exact h.sm.free q
  · rcases n.ow sa z with q | q
    · exact h.nsa q
    · rw [h.hs] at q; cases q
  · exact n.fr b o (fun z => by have := h.op b z; rw [e] at this; cases this) (h.sm b o e)
theorem Rn.put (h : Rn C U Hw H x A s S sa st) (st' : List Int) : Rn C U Hw (upd H sa (.lst (st'.map V.int))) x A s S sa st' := by
  refine ⟨h.hp.keep fun b o z e => ?_, h.op, h.nsa, fun b o e => ?_, upd_same, h.hw⟩
  · rw [upd_ne (fun q : b = sa => h.nsa (q ▸ z))]; exact e
  · rw [upd_ne (ne_of_none e h.hw)]; exact h.sm b o e
end
def spRound (C : Addr) : Sp := fun vs H Q _ => ∃ (x : Addr) (U : Un) (Hw : Hp) (A : HA) (s : HS) (S : Addr → Prop) (wa : Addr) (W : List (List (Str × Str))) (sa : Addr) (st : List Int), vs = [.ref x, .ref wa, .ref sa] ∧ Rn C U Hw H x A s S sa st ∧ WAt Hw wa W ∧ W.length ≤ 6 ∧ st.length = W.length ∧
  (∀ d : Nat, d < W.length → (d : Int) ∈ U.ds) ∧ (∀ row ∈ W, ∀ q ∈ row, q.1 ∈ U.ks) ∧ (∀ row ∈ W, row.length ≤ 4) ∧ In24 (wl W) s (gl st) ∧
  ∀ s' S' st' H', Rn C U Hw H' x A s' S' sa st' → st'.length = W.length → Pt (wl W) W.length s (gl st) s' (gl st') W.length → Q .non H'
def spWishes : Sp := fun vs H Q _ => ∃ (b : Addr) (n : Int), vs = [.ref b, .int n] ∧ BagAt H b ∧ 0 ≤ n ∧ n ≤ 6 ∧
  ∀ (p : Addr) (W : List (List (Str × Str))) (H' : Hp), (∀ c o, c ≠ b → H c = some o → H' c = some o) → WAt H' p W → (W.length : Int) = n → (∀ row ∈ W, row.length ≤ 4 ∧ ∀ q ∈ row, q.1 ∈ (["a", "b", "c", "d"] : List Str)) → Q (.ref p) H'

theorem ok_l_round {P : Program} {w : World} {K : PySem.W.Frag} {mg : Str → Option Value} {base : Heap} {a : Nat → Addr} {d : Nat → FuncData} (T : Txt K mg a d) : FnOk P w K mg base CX0 4 (a 20) (d 20) ["_law_holds", "_law_wishes_here", "_law_stands"] (spRound (a 22)) := by
  refine T.F_l_round.ok sc_l_round (fun vs H Q E h => ?_) (fun cdv A outer s0 H vs Q E hr h => ?_)
  · obtain ⟨x, U, Hw, A, s, S, wa, W, sa, st, rfl, rn, hW, hn, hst, hdU, hkU, hrl, i24, q⟩ := h
    rfl
  · obtain ⟨x, U, Hw, A, s, S, wa, W, sa, st, rfl, rn, hW, hn, hst, hdU, hkU, hrl, i24, q⟩ := h
    obtain ⟨rs, hwa, hrs⟩ := id hW
    have lrs := plen hrs
    refine ⟨_, (pss_one (ps_for PassesOwn.never rfl (pi_range1 (by rfl) T.z_range (pa_cons (pe_callB call_len_seq (by rfl) T.z_len PySem.boot_len (pa_cons (pv 1) pa_nil)) pa_nil)) (pg_name (i := 3) sc_l_round.nd rfl (.inl rfl)) (pss_one (ps_if (pt_cmpR op_eq (pe_ix ix_list (pv 2) (pv 3) (fun _ _ => rfl)) (pe_un un_neg pe_int) (nomark _)) (pss_cons (ps_expr (pe_meth (pv 0) T.cl T.m_Holds_free (ok_Holds_free T) (hr.mono (by decide)) (Exists.choose_spec T.c_Holds_free).2 (Exists.choose_spec T.c_Holds_free).1 pass0 (pa_cons (pv 3) pa_nil))) (pss_one (ps_asg (pe_un un_neg pe_int) (pg_sub (pv 2) (pv 3) set_list)))) (pss_one (ps_if (pt_cmpR op_ge (pe_ix ix_list (pv 2) (pv 3) (fun _ _ => rfl)) pe_int (nomark _)) (Evl.pss_cut (ps_if (pt_cmpR op_in_seq (pv 3) (pe_meth0 (pv 0) T.cl T.m_Holds_called_off (ok_Holds_called_off T) (hr.mono (by decide)) T.b_Holds_called_off .nil pass0) (by rfl)) (pss_cons (ps_expr (pe_methN (pv 0) T.cl T.m_Holds_free (ok_Holds_free T) (hr.mono (by decide)) (Exists.choose_spec T.k_Holds_free) pass0 (pa_cons (pv 3) pa_nil) (pk_cons pe_bl pk_nil))) (pss_one (ps_asg pe_int (pg_sub (pv 2) (pv 3) set_list)))) pss_nil) (Evl.pss_cut (ps_if (pt_cmpR op_lt (pe_ix ix_list (pv 2) (pv 3) (fun _ _ => rfl)) (pe_callB call_len_seq (by rfl) T.z_len PySem.boot_len (pa_cons (pe_ix ix_list (pv 1) (pv 3) (fun _ _ => rfl)) pa_nil)) (nomark _)) (pss_cons (ps_asg (pe_ix ix_list (pe_ix ix_list (pv 1) (pv 3) (fun _ _ => rfl)) (pe_ix ix_list (pv 2) (pv 3) (fun _ _ => rfl)) (fun _ _ => rfl)) (pg_tup (by rfl) (pgs_cons (pg_name (i := 4) sc_l_round.nd rfl (.inl rfl)) (pgs_cons (pg_name (i := 5) sc_l_round.nd rfl (.inl rfl)) pgs_nil)))) (pss_one (ps_if (pt_cmpR op_eq (pe_ix ix_tup (pe_meth (pv 0) T.cl T.m_Holds_ask (ok_Holds_ask T) (hr.mono (by decide)) (Exists.choose_spec T.c_Holds_ask).2 (Exists.choose_spec T.c_Holds_ask).1 pass0 (pa_cons (pv 3) (pa_cons (pv 4) (pa_cons (pv 5) pa_nil)))) pe_int (fun _ _ => rfl)) pe_str (nomark _)) (pss_one (ps_asg (pe_op op_add (pe_ix ix_list (pv 2) (pv 3) (fun _ _ => rfl)) pe_int) (pg_sub (pv 2) (pv 3) set_list))) pss_nil))) pss_nil) (pss_one (ps_if (pt_cmpR op_eq (pe_ix ix_list (pv 2) (pv 3) (fun _ _ => rfl)) (pe_callB call_len_seq (by rfl) T.z_len PySem.boot_len (pa_cons (pe_ix ix_list (pv 1) (pv 3) (fun _ _ => rfl)) pa_nil)) (nomark _)) (pss_cons (ps_expr (pe_meth (pv 0) T.cl T.m_Holds_pledge (ok_Holds_pledge T) (hr.mono (by decide)) T.b_Holds_pledge .nil pass0 (pa_cons (pv 3) pa_nil))) (pss_one (ps_asg (pe_un un_neg pe_int) (pg_sub (pv 2) (pv 3) set_list)))) pss_nil)))) pss_nil)))))), ?_⟩
    have ln : ((rs.map V.ref).length : Int).toNat = W.length := by rw [List.length_map, Int.toNat_natCast]; exact lrs
    refine ⟨_, rfl, wa, _, rfl, .inl (SqL.of (rn.sm _ _ hwa)), _, rfl, by omega, ?_, ?_⟩
    · rw [List.length_map, lrs]; omega
    rw [ln]
    refine for_range (fun i σ H' => (∃ v3 v4 v5 : Option V, σ = [some (.ref x), some (.ref wa), some (.ref sa), v3, v4, v5]) ∧ ∃ s' S' st', Rn (a 22) U Hw H' x A s' S' sa st' ∧ st'.length = W.length ∧ Pt (wl W) W.length s (gl st) s' (gl st') i) ⟨⟨none, none, none, rfl⟩, s, S, st, rn, hst, Pt.begin i24⟩ ?_ ?_
    · rintro i σ H1 hi ⟨⟨v3, v4, v5, rfl⟩, s1, S1, st1, rn1, l1, pt⟩
      have out : ∀ j : Int, ¬ (0 ≤ j ∧ j < W.length) → gl st j = -1 := fun j hj => gl_out (by rw [hst]; exact hj)
      have his : i < st1.length := by omega
      have at1 := gl_atI his
      have ez : (0 : Int) + (i : Int) = (i : Int) := by omega
      rw [ez]
      obtain ⟨row, hrow⟩ : ∃ row, W[i]? = some row := ⟨W[i], List.getElem?_eq_getElem hi⟩
      have hwl := wl_at hrow
      obtain ⟨r, hr, hrw⟩ := pget2 hrs hrow
      have ixs : ∀ {l : List Int}, l.length = st1.length → ixN (l.map V.int).length (i : Int) = some i := fun {l} e => by
        unfold ixN
        rw [if_pos (by omega), List.length_map, if_pos (by omega), Int.toNat_natCast]
      have fin : ∀ (s2 : HS) (S2 : Addr → Prop) (st2 : List Int) (H2 : Hp) (f2 : Int → Int), Rn (a 22) U Hw H2 x A s2 S2 sa st2 → st2.length = W.length → gl st2 = f2 → Turn (wl W) s1 (gl st1) s2 f2 i → ∃ s' S' st', Rn (a 22) U Hw H2 x A s' S' sa st' ∧ st'.length = W.length ∧ Pt (wl W) W.length s (gl st) s' (gl st') (i + 1) := fun s2 S2 st2 H2 f2 a b c t => ⟨s2, S2, st2, a, b, by rw [c]; exact pt.turn t hi out⟩
      refine ⟨_, rfl, _, rfl, sa, _, _, _, rfl, rfl, SqL.of rn1.hs, at1, 2, rfl, rfl, _, rfl, ?_⟩
      by_cases c2 : gl st1 i = -2
      · refine iteDT (congrArg V.int c2) ?_
        obtain ⟨dx1, hx1⟩ := rn1.hp.ins
        refine ⟨_, rfl, x, dx1, _, rfl, hx1, hf_no _ (by decide +kernel) (by decide +kernel) (by decide +kernel) (by decide +kernel) (by decide +kernel) (by decide +kernel), _, rfl, x, U, S1, A, s1, (i : Int), false, rfl, rn1.hp, fun S2 H2 n2 => ?_⟩
        have rn2 := rn1.nx n2
        refine ⟨1, rfl, _, rfl, _, rfl, sa, _, _, _, rfl, rfl, rn2.hs, ixs rfl, ?_⟩
        have es : (st1.map V.int).set i (.int (-1)) = (st1.set i (-1)).map V.int := List.map_set.symm
        rw [es]
        exact ⟨⟨_, _, _, rfl⟩, fin _ _ _ _ _ (rn2.put _) (by rw [List.length_set]; exact l1) (gl_set his (-1)) (Turn.free pt.i24 c2)⟩
      refine iteDF (fun z => c2 (V.int.inj z)) ?_
      refine ⟨_, rfl, _, rfl, sa, _, _, _, rfl, rfl, SqL.of rn1.hs, at1, _, 0, rfl, rfl, _, rfl, ?_⟩
      by_cases c0 : 0 ≤ gl st1 i
      · refine iteDT c0 ?_
        obtain ⟨dx1, hx1⟩ := rn1.hp.ins
        obtain ⟨ts, hts, hps⟩ := hrw
        have lts := plen hps
        have hatw : atI (rs.map V.ref) (i : Int) = some (.ref r) := atI_at (by rw [List.getElem?_map, hr]; rfl)
        refine ⟨fun σ' H' => σ' = [some (.ref x), some (.ref wa), some (.ref sa), some (.int (i : Int)), v4, v5] ∧ ∃ s2 S2 st2, Rn (a 22) U Hw H' x A s2 S2 sa st2 ∧ st2.length = W.length ∧ gl st2 = up (gl st1) i (r24 s1 (gl st1) i) ∧ Rs (wl W) s1 (gl st1) s2 i, ?_, ?_⟩
        · refine ⟨_, rfl, _, rfl, x, dx1, _, rfl, hx1, hf_no _ (by decide +kernel) (by decide +kernel) (by decide +kernel) (by decide +kernel) (by decide +kernel) (by decide +kernel), x, U, S1, A, s1, rfl, rn1.hp, fun pc lc H2 isc _ npc s2 hpc => ⟨pc, _, rfl, .inl (SqL.of hpc), rfl, all_flat _, _, rfl, ?_⟩⟩
          show if inV (.int (i : Int)) (lc.map V.int) = true then _ else _
          rw [in_ints]
          have rn2 := rn1.same s2
          by_cases cf : (i : Int) ∈ lc
          · have ho := (isc.mem _).mp cf
            refine iteDT cf ⟨_, rfl, x, dx1, _, rfl, s2 _ _ hx1, hf_no _ (by decide +kernel) (by decide +kernel) (by decide +kernel) (by decide +kernel) (by decide +kernel) (by decide +kernel), _, rfl, rfl, rfl, x, U, S1, A, s1, (i : Int), true, rfl, rn2.hp, fun S3 H3 n3 => ?_⟩
            have rn3 := rn2.nx n3
            refine ⟨_, rfl, _, rfl, sa, _, _, _, rfl, rfl, rn3.hs, ixs rfl, ?_⟩
            have es : (st1.map V.int).set i (.int 0) = (st1.set i 0).map V.int := List.map_set.symm
            rw [es]
            have r0 : r24 s1 (gl st1) i = 0 := by unfold r24; rw [if_pos ho]
            refine ⟨rfl, _, _, _, rn3.put _, by rw [List.length_set]; exact l1, ?_, Rs.yes pt.i24 c0 (wl_nn W i) ho⟩
            rw [r0]
            exact gl_set his 0
          · have ho : s1.offs (i : Int) = false := by
              cases e : s1.offs (i : Int) with
              | false => rfl
              | true => exact absurd ((isc.mem _).mpr e) cf
            refine iteDF cf ⟨rfl, _, _, st1, rn2, l1, ?_, Rs.no pt.i24 c0 ho⟩
            have re : r24 s1 (gl st1) i = gl st1 i := by unfold r24; rw [if_neg (by rw [ho]; decide)]
            rw [re]
            funext j
            unfold up
            by_cases cj : j = (i : Int)
            · rw [if_pos cj, cj]
            · rw [if_neg cj]
        rintro σ' H2 ⟨rfl, s2, S2, st2, rn2, l2, g2, rsx⟩
        have hi2 : i < st2.length := by omega
        have at2 := gl_atI hi2
        rw [g2, up_same] at at2
        have hwa2 := rn2.sm _ _ hwa
        have hts2 := rn2.sm _ _ hts
        refine ⟨fun σ' H' => (∃ v4 v5 : Option V, σ' = [some (.ref x), some (.ref wa), some (.ref sa), some (.int (i : Int)), v4, v5]) ∧ ∃ v s3 S3 st3, Rn (a 22) U Hw H' x A s3 S3 sa st3 ∧ st3.length = W.length ∧ gl st3 = up (gl st1) i v ∧ Ak (wl W) s1 (gl st1) s3 i v, ?_, ?_⟩
        · refine ⟨_, rfl, _, rfl, sa, _, _, _, rfl, rfl, SqL.of rn2.hs, at2, _, rfl, _, rfl, wa, _, _, _, rfl, rfl, SqL.of hwa2, hatw, r, _, rfl, .inl (SqL.of hts2), _, _, rfl, rfl, _, rfl, ?_⟩
          have el : ((ts.map V.ref).length : Int) = wl W i := by rw [List.length_map, lts, hwl]
          rw [el]
          have r0 := rsx.r0
          by_cases cl : r24 s1 (gl st1) i < wl W i
          · refine iteDT cl ?_
            obtain ⟨j, hj⟩ := Int.eq_ofNat_of_zero_le r0
            have hjr : j < row.length := by omega
            obtain ⟨km, hkm⟩ : ∃ km, row[j]? = some km := ⟨row[j], List.getElem?_eq_getElem hjr⟩
            obtain ⟨t, htt, hkt⟩ := pget2 hps hkm
            have hatt : atI (ts.map V.ref) (r24 s1 (gl st1) i) = some (.ref t) := by
              rw [hj]
              exact atI_at (by rw [List.getElem?_map, htt]; rfl)
            refine ⟨_, rfl, _, rfl, wa, _, _, _, rfl, rfl, SqL.of hwa2, hatw, _, rfl, _, rfl, sa, _, _, _, rfl, rfl, SqL.of rn2.hs, at2, r, _, _, _, rfl, rfl, SqL.of hts2, hatt, t, _, rfl, SqT.of (rn2.sm _ _ hkt), rfl, _, _, rfl, _, _, rfl, rfl, ?_⟩
            obtain ⟨dx2, hx2⟩ := rn2.hp.ins
            have bn2 : s2.bnd (i : Int) = false := by rw [rsx.bnd]; exact (pt.i24.act i c0).1
            have ku : km.1 ∈ U.ks := hkU row (List.mem_of_getElem? hrow) km (List.mem_of_getElem? hkm)
            have won : ∀ (s3 : HS) (S3 : Addr → Prop) (H3 : Hp), Nx (a 22) U S2 H2 x A s3 S3 H3 → Ak (wl W) s1 (gl st1) s3 i (r24 s1 (gl st1) i + 1) → ∃ s3' S3', Rn (a 22) U Hw H3 x A s3' S3' sa st2 ∧ Ak (wl W) s1 (gl st1) s3' i (r24 s1 (gl st1) i + 1) := fun s3 S3 H3 n a => ⟨s3, S3, rn2.nx n, a⟩
            have es : (st2.map V.int).set i (.int (r24 s1 (gl st1) i + 1)) = (st2.set i (r24 s1 (gl st1) i + 1)).map V.int := List.map_set.symm
            have gs : gl (st2.set i (r24 s1 (gl st1) i + 1)) = up (gl st1) i (r24 s1 (gl st1) i + 1) := by rw [gl_set hi2, g2, up_up]
            have il : ixN (st2.map V.int).length (i : Int) = some i := ixs (by omega)
            refine ⟨_, rfl, x, dx2, _, rfl, hx2, hf_no _ (by decide +kernel) (by decide +kernel) (by decide +kernel) (by decide +kernel) (by decide +kernel) (by decide +kernel), _, rfl, _, rfl, _, rfl, x, U, S2, A, s2, (i : Int), km.1, km.2, none, rfl, rn2.hp, rsx.i24.i23.wf, rsx.off, bn2, hdU i hi, ku, fun _ S3 H3 t l n ht _ _ _ _ => ?_, fun _ off bl iso isb _ => ⟨fun eb S3 H3 t l n ht _ _ _ _ => ?_, fun eb S3 H3 t l n ht _ _ _ _ => ?_⟩⟩
            · obtain ⟨s3', S3', rn3, ak⟩ := won _ _ _ n (rsx.askA cl)
              refine ⟨t, _, 0, _, rfl, rfl, SqT.of ht, rfl, rfl, _, rfl, iteDT rfl ?_⟩
              refine ⟨_, rfl, _, rfl, sa, _, _, _, rfl, rfl, SqL.of rn3.hs, at2, _, 1, rfl, rfl, _, rfl, _, rfl, sa, _, _, _, rfl, rfl, rn3.hs, il, ?_⟩
              rw [es]
              exact ⟨⟨_, _, rfl⟩, _, _, _, _, rn3.put _, by rw [List.length_set]; exact l2, gs, ak⟩
            · subst eb
              obtain ⟨s3', S3', rn3, ak⟩ := won _ _ _ n (rsx.askH cl iso isb)
              refine ⟨t, _, 0, _, rfl, rfl, SqT.of ht, rfl, rfl, _, rfl, iteDT rfl ?_⟩
              refine ⟨_, rfl, _, rfl, sa, _, _, _, rfl, rfl, SqL.of rn3.hs, at2, _, 1, rfl, rfl, _, rfl, _, rfl, sa, _, _, _, rfl, rfl, rn3.hs, il, ?_⟩
              rw [es]
              exact ⟨⟨_, _, rfl⟩, _, _, _, _, rn3.put _, by rw [List.length_set]; exact l2, gs, ak⟩
            · refine ⟨t, _, 0, _, rfl, rfl, SqT.of ht, rfl, rfl, _, rfl, iteDF (fun z => ?_) ?_⟩
              · have := V.str.inj z
                revert this
                decide +kernel
              · exact ⟨⟨_, _, rfl⟩, _, _, _, _, rn2.nx n, l2, g2, rsx.askW iso isb eb⟩
          · refine iteDF cl ⟨⟨_, _, rfl⟩, _, _, _, _, rn2, l2, g2, rsx.idle ?_⟩
            have := rsx.rl
            omega
        rintro σ' H3 ⟨⟨v4, v5, rfl⟩, v, s3, S3, st3, rn3, l3, g3, ak⟩
        have hi3 : i < st3.length := by omega
        have at3 := gl_atI hi3
        rw [g3, up_same] at at3
        have hwa3 := rn3.sm _ _ hwa
        have hts3 := rn3.sm _ _ hts
        refine ⟨_, rfl, _, rfl, sa, _, _, _, rfl, rfl, SqL.of rn3.hs, at3, _, rfl, _, rfl, wa, _, _, _, rfl, rfl, SqL.of hwa3, hatw, r, _, rfl, .inl (SqL.of hts3), rfl, _, rfl, ?_⟩
        have el : ((ts.map V.ref).length : Int) = wl W i := by rw [List.length_map, lts, hwl]
        rw [el]
        by_cases cl : v = wl W i
        · refine iteDT (congrArg V.int cl) ?_
          obtain ⟨dx3, hx3⟩ := rn3.hp.ins
          refine ⟨_, rfl, x, dx3, _, rfl, hx3, hf_no _ (by decide +kernel) (by decide +kernel) (by decide +kernel) (by decide +kernel) (by decide +kernel) (by decide +kernel), _, rfl, x, U, S3, A, s3, (i : Int), rfl, rn3.hp, hdU i hi, fun S4 H4 n4 => ?_⟩
          have rn4 := rn3.nx n4
          refine ⟨2, rfl, _, rfl, _, rfl, sa, _, _, _, rfl, rfl, rn4.hs, ixs (by omega), ?_⟩
          have es : (st3.map V.int).set i (.int (-2)) = (st3.set i (-2)).map V.int := List.map_set.symm
          rw [es]
          exact ⟨⟨_, _, _, rfl⟩, fin _ _ _ _ _ (rn4.put _) (by rw [List.length_set]; exact l3) (by rw [gl_set hi3, g3, up_up]) ak.pledge⟩
        · refine iteDF (fun z => cl (V.int.inj z)) ?_
          exact ⟨⟨_, _, _, rfl⟩, fin _ _ _ _ _ rn3 l3 g3 (ak.stay cl)⟩
      · refine iteDF c0 ?_
        have c1 : gl st1 i = -1 := by
          rcases pt.i24.rng i with z | z | z
          · exact z
          · exact absurd z c2
          · exact absurd z c0
        exact ⟨⟨_, _, _, rfl⟩, fin _ _ _ _ _ rn1 l1 rfl (Turn.gone pt.i24 c1)⟩
    · rintro σ H1 ⟨_, s1, S1, st1, rn1, l1, pt⟩
      exact q _ _ _ _ rn1 l1 pt

theorem ok_l_wishes {P : Program} {w : World} {K : PySem.W.Frag} {mg : Str → Option Value} {base : Heap} {a : Nat → Addr} {d : Nat → FuncData} (T : Txt K mg a d) : FnOk P w K mg base CX0 2 (a 19) (d 19) ["_law_bag_here", "_law_many"] spWishes := by
  refine T.F_l_wishes.ok sc_l_wishes (fun vs H Q E h => ?_) (fun cdv A outer s0 H vs Q E hr h => ?_)
  · obtain ⟨b, n, rfl, hb, n0, n6, q⟩ := h
    rfl
  · obtain ⟨b, n, rfl, hb, n0, n6, q⟩ := h
    refine ⟨_, (pss_cons (ps_set (i := 2) sc_l_wishes.nd rfl (Or.inl rfl) (pe_lst pa_nil)) (pss_cons (ps_for PassesOwn.never rfl (pi_range1 (by rfl) T.z_range (pa_cons (pv 1) pa_nil)) (pg_name (i := 3) sc_l_wishes.nd rfl (.inl rfl)) (pss_cons (ps_set (i := 4) sc_l_wishes.nd rfl (Or.inl rfl) (pe_lst pa_nil)) (pss_cons (ps_for PassesOwn.never rfl (pi_list (pe_lst (pa_cons pe_str (pa_cons pe_str (pa_cons pe_str (pa_cons pe_str pa_nil)))))) (pg_name (i := 5) sc_l_wishes.nd rfl (.inl rfl)) (pss_one (ps_if (pt_cmpR op_eq (pe_call (ok_l_out T) (hr.mono (by decide)) (by rfl) T.g_l_out T.F_l_out.kp T.b_l_out .nil pass0 (pa_cons (pv 0) (pa_cons pe_int pa_nil))) pe_int (nomark _)) (pss_one (ps_expr (pe_bm PySem.F.plainAttrs_list PySem.F.slot_list_append PySem.F.type_list_append mt_append (pv 4) (pa_cons (pe_tup (pa_cons (pv 5) (pa_cons (pe_ix ix_list (pe_lst (pa_cons pe_str (pa_cons pe_str pa_nil))) (pe_call (ok_l_out T) (hr.mono (by decide)) (by rfl) T.g_l_out T.F_l_out.kp T.b_l_out .nil pass0 (pa_cons (pv 0) (pa_cons pe_int pa_nil))) (fun _ _ => rfl)) pa_nil))) pa_nil)))) pss_nil))) (pss_one (ps_expr (pe_bm PySem.F.plainAttrs_list PySem.F.slot_list_append PySem.F.type_list_append mt_append (pv 2) (pa_cons (pe_ix ix_list (pe_lst (pa_cons (pv 4) (pa_cons (pe_revL (pv 4)) pa_nil))) (pe_call (ok_l_out T) (hr.mono (by decide)) (by rfl) T.g_l_out T.F_l_out.kp T.b_l_out .nil pass0 (pa_cons (pv 0) (pa_cons pe_int pa_nil))) (fun _ _ => rfl)) pa_nil))))))) (pss_one (ps_ret (pv 2))))), ?_⟩
    refine ⟨Nat.zero_le _, fun fo nfo => ?_⟩
    have s1 : Same H (upd H fo (.lst [])) := same_new (Same.refl H) nfo
    have hf1 : (upd H fo (.lst [])) fo = some (.lst []) := upd_same
    have fob : fo ≠ b := fun z => by
      obtain ⟨_, _, e, _⟩ := hb
      rw [z, e] at nfo
      cases nfo
    have b1 := hb.same s1
    generalize (upd H fo (.lst [])) = H1 at s1 hf1 b1 ⊢
    refine ⟨_, rfl, n, rfl, by omega, by omega, ?_⟩
    refine for_range (fun i σ H' => (∃ v3 v4 v5 : Option V, σ = [some (.ref b), some (.int n), some (.ref fo), v3, v4, v5]) ∧ (∀ c o, c ≠ b → H c = some o → H' c = some o) ∧ BagAt H' b ∧ ∃ (rs : List Addr) (W : List (List (Str × Str))), H' fo = some (.lst (rs.map V.ref)) ∧ Paired (fun (r : Addr) row => (r ≠ b ∧ r ≠ fo) ∧ RowT H' r row) rs W ∧ W.length = i ∧ ∀ row ∈ W, row.length ≤ 4 ∧ ∀ q ∈ row, q.1 ∈ (["a", "b", "c", "d"] : List Str)) ⟨⟨none, none, none, rfl⟩, fun c o _ e => s1 c o e, b1, [], [], hf1, .nil, rfl, fun row h => by cases h⟩ ?_ ?_
    · rintro i σ H2 hi ⟨⟨v3, v4, v5, rfl⟩, f2, b2, rs, W, hfo, hrs, hl, hw⟩
      have hb2 := b2
      obtain ⟨bu, bv, eb2, _⟩ := hb2
      refine ⟨Nat.zero_le _, fun rw nrw => ?_⟩
      have s3 : Same H2 (upd H2 rw (.lst [])) := same_new (Same.refl H2) nrw
      have hr3 : (upd H2 rw (.lst [])) rw = some (.lst []) := upd_same
      have rwb : rw ≠ b := fun z => by rw [z, eb2] at nrw; cases nrw
      have rwf : rw ≠ fo := fun z => by rw [z, hfo] at nrw; cases nrw
      have b3 := b2.same s3
      generalize (upd H2 rw (.lst [])) = H3 at s3 hr3 b3 ⊢
      refine ⟨by decide, fun pk npk => ?_⟩
      have s4 : Same H3 (upd H3 pk (.lst [.str "a", .str "b", .str "c", .str "d"])) := same_new (Same.refl H3) npk
      have hpk : (upd H3 pk (.lst [.str "a", .str "b", .str "c", .str "d"])) pk = some (.lst [.str "a", .str "b", .str "c", .str "d"]) := upd_same
      have pkr : pk ≠ rw := Ne.symm (ne_of_none hr3 npk)
      have pkb : pk ≠ b := b3.ne_new npk
      generalize (upd H3 pk (.lst [.str "a", .str "b", .str "c", .str "d"])) = H4 at s4 hpk ⊢
      refine ⟨pk, rfl, ⟨_, SqL.of hpk⟩, ?_⟩
      refine for_list (K := K) (a := pk) (xs := [.str "a", .str "b", .str "c", .str "d"]) (fun j σ H' => (∃ v5 : Option V, σ = [some (.ref b), some (.int n), some (.ref fo), some (.int (0 + (i : Int))), some (.ref rw), v5]) ∧ (∀ c o, c ≠ b → c ≠ rw → H4 c = some o → H' c = some o) ∧ BagAt H' b ∧ ∃ (ts : List Addr) (row : List (Str × Str)), H' rw = some (.lst (ts.map V.ref)) ∧ Paired (fun (t : Addr) (q : Str × Str) => H' t = some (.tup [.str q.1, .str q.2])) ts row ∧ row.length ≤ j ∧ ∀ q ∈ row, q.1 ∈ (["a", "b", "c", "d"] : List Str)) ⟨⟨_, rfl⟩, fun c o _ _ e => e, b3.same s4, [], [], s4 _ _ hr3, .nil, Nat.zero_le _, fun q h => by cases h⟩ (fun j σ H' _ z => SqL.of (z.2.1 _ _ pkb pkr hpk)) ?_ ?_
      · rintro j kv σ H5 hj ⟨⟨v5, rfl⟩, f5, b5, ts, row, hr5, hps, hlen, hks⟩
        obtain ⟨k, rfl, hk⟩ : ∃ k : Str, kv = .str k ∧ k ∈ (["a", "b", "c", "d"] : List Str) := by
          match j, hj with
          | 0, h => exact ⟨"a", (Option.some.inj h).symm, by decide +kernel⟩
          | 1, h => exact ⟨"b", (Option.some.inj h).symm, by decide +kernel⟩
          | 2, h => exact ⟨"c", (Option.some.inj h).symm, by decide +kernel⟩
          | 3, h => exact ⟨"d", (Option.some.inj h).symm, by decide +kernel⟩
          | n + 4, h => simp at h
        have lj : j < 4 := by
          have := (List.getElem?_eq_some_iff.mp hj).1
          exact this
        have hb5 := b5
        obtain ⟨bu5, bv5, eb5, _⟩ := hb5
        have lts := plen hps
        show ∃ v, _
        refine ⟨_, rfl, b, 2, rfl, b5, by decide, by decide, fun r H6 r0 r1 f6 b6 => ⟨rfl, _, rfl, ite2 (fun _ => ?_) (fun _ => ?_)⟩⟩
        · have hr6 := f6 _ _ rwb hr5
          refine ⟨_, rfl, .inl ⟨rfl, _, SqL.of hr6⟩, _, rfl, len2, fun pm npm => ⟨_, rfl, b, 2, rfl, b6.new npm, by decide, by decide, fun r' H7 r0' r1' f7 b7 => ?_⟩⟩
          have gm : H7 pm = some (.lst [.str "read", .str "write"]) := f7 _ _ (b6.ne_new npm) upd_same
          obtain ⟨mo, hm1⟩ : ∃ m : Str, atI [V.str "read", V.str "write"] r' = some (.str m) := by
            have : r' = 0 ∨ r' = 1 := by omega
            rcases this with rfl | rfl
            · exact ⟨"read", rfl⟩
            · exact ⟨"write", rfl⟩
          have k7 : ∀ c o, c ≠ b → H5 c = some o → H7 c = some o := fun c o nb e => f7 c o nb (by
            have z := f6 c o nb e
            rw [upd_ne (ne_of_none z npm)]; exact z)
          have hr7 := k7 _ _ rwb hr5
          refine ⟨pm, _, r', _, rfl, rfl, SqL.of gm, hm1, len2, fun t nt => ?_⟩
          have rt : rw ≠ t := ne_of_none hr7 nt
          refine ⟨rw, _, _, rfl, rfl, (by rw [upd_ne rt]; exact hr7), ?_, ⟨_, rfl⟩, fun c o nb nr e => ?_, ?_, ts ++ [t], row ++ [(k, mo)], ?_, ?_, ?_, ?_⟩
          · rw [List.length_map, lts]
            exact Nat.lt_of_lt_of_le (show row.length < 100 by omega) (by decide)
          · have z := k7 c o nb (f5 c o nb nr e)
            rw [upd_ne nr, upd_ne (ne_of_none z nt)]
            exact z
          · obtain ⟨u, v, e, w⟩ := b7
            refine ⟨u, v, ?_, w⟩
            rw [upd_ne (Ne.symm rwb), upd_ne (ne_of_none e nt)]
            exact e
          · rw [upd_same, List.map_append]
            rfl
          · refine psnoc (pimp (fun c q e => ?_) hps) ?_
            · have nb : c ≠ b := ne_of e eb5 (by intro z; cases z)
              have z := k7 c _ nb e
              rw [upd_ne (ne_of e hr5 (by intro z; cases z)), upd_ne (ne_of_none z nt)]
              exact z
            · rw [upd_ne (Ne.symm rt), upd_same]
          · rw [List.length_append]
            show row.length + 1 ≤ j + 1
            omega
          · intro q hq
            rcases List.mem_append.mp hq with z | z
            · exact hks q z
            · rw [List.mem_singleton.mp z]
              exact hk
        · refine ⟨⟨_, rfl⟩, fun c o nb nr e => f6 c o nb (f5 c o nb nr e), b6, ts, row, f6 _ _ rwb hr5, pimp (fun c q e => f6 c _ (ne_of e eb5 (by intro z; cases z)) e) hps, by omega, hks⟩
      · rintro σ H5 ⟨⟨v5, rfl⟩, f5, b5, ts, row, hr5, hps, hlen, hks⟩
        have hlen4 : row.length ≤ 4 := hlen
        have hb5 := b5
        obtain ⟨bu5, bv5, eb5, _⟩ := hb5
        have k25 : ∀ c o, c ≠ b → H2 c = some o → H5 c = some o := fun c o nb e => f5 c o nb (ne_of_none e nrw) (s4 _ _ (s3 _ _ e))
        have hf5 := k25 _ _ fob hfo
        refine ⟨_, rfl, .inl ⟨rfl, _, SqL.of hf5⟩, _, rfl, _, rfl, rw, _, rfl, SqL.of hr5, fun rv nrv => ?_⟩
        have s6 : Same H5 (upd H5 rv (.lst (ts.map V.ref).reverse)) := same_new (Same.refl H5) nrv
        have hv6 : (upd H5 rv (.lst (ts.map V.ref).reverse)) rv = some (.lst (ts.map V.ref).reverse) := upd_same
        have rvb : rv ≠ b := Ne.symm (ne_of_none eb5 nrv)
        have rvf : rv ≠ fo := Ne.symm (ne_of_none hf5 nrv)
        have b6 := b5.same s6
        generalize (upd H5 rv (.lst (ts.map V.ref).reverse)) = H6 at s6 hv6 b6 ⊢
        refine ⟨len2, fun pq npq => ⟨_, rfl, b, 2, rfl, b6.new npq, by decide, by decide, fun r' H7 r0' r1' f7 b7 => ?_⟩⟩
        have gq := f7 _ _ (b6.ne_new npq) upd_same
        have k7 : ∀ c o, c ≠ b → H5 c = some o → H7 c = some o := fun c o nb e => f7 c o nb (by
          have z := s6 c o e
          rw [upd_ne (ne_of_none z npq)]; exact z)
        have hps7 := pimp (fun c q e => k7 c _ (ne_of e eb5 (by intro z; cases z)) e) hps
        have hv7 : H7 rv = some (.lst (ts.reverse.map V.ref)) := f7 _ _ rvb (by rw [upd_ne (ne_of_none hv6 npq), List.map_reverse]; exact hv6)
        have hr7 := k7 _ _ rwb hr5
        have hf7 := k7 _ _ fob hf5
        obtain ⟨rx, rowx, hat, nx, hrx, hlx, hkx⟩ : ∃ (rx : Addr) (rowx : List (Str × Str)), atI [V.ref rw, V.ref rv] r' = some (.ref rx) ∧ (rx ≠ b ∧ rx ≠ fo) ∧ RowT H7 rx rowx ∧ rowx.length ≤ 4 ∧ ∀ q ∈ rowx, q.1 ∈ (["a", "b", "c", "d"] : List Str) := by
          have : r' = 0 ∨ r' = 1 := by omega
          rcases this with rfl | rfl
          · exact ⟨rw, row, rfl, ⟨rwb, rwf⟩, ⟨ts, hr7, hps7⟩, hlen4, hks⟩
          · exact ⟨rv, row.reverse, rfl, ⟨rvb, rvf⟩, ⟨ts.reverse, hv7, prev hps7⟩, by rw [List.length_reverse]; exact hlen4, fun q hq => hks q (List.mem_reverse.mp hq)⟩
        have lrs := plen hrs
        refine ⟨pq, _, r', _, rfl, rfl, SqL.of gq, hat, fo, _, _, rfl, rfl, hf7, ?_, ⟨_, _, _, rfl⟩, fun c o nb e => ?_, ?_, rs ++ [rx], W ++ [rowx], ?_, ?_, ?_, ?_⟩
        · rw [List.length_map, lrs]
          exact Nat.lt_of_lt_of_le (show W.length < 100 by omega) (by decide)
        · rw [upd_ne (ne_of_none e nfo)]
          exact k7 c o nb (k25 c o nb (f2 c o nb e))
        · obtain ⟨u, v, e, w⟩ := b7
          exact ⟨u, v, by rw [upd_ne (Ne.symm fob)]; exact e, w⟩
        · rw [upd_same, List.map_append]
          rfl
        · have tk : ∀ {c xs}, H7 c = some (.tup xs) → (upd H7 fo (.lst (rs.map V.ref ++ [.ref rx]))) c = some (.tup xs) := fun {c xs} z => by
            rw [upd_ne (ne_of z hf7 (by intro z; cases z))]
            exact z
          have old : ∀ (r : Addr) (row : List (Str × Str)), ((r ≠ b ∧ r ≠ fo) ∧ RowT H2 r row) → ((r ≠ b ∧ r ≠ fo) ∧ RowT (upd H7 fo (.lst (rs.map V.ref ++ [.ref rx]))) r row) := fun r row h => ⟨h.1, h.2.keep (fun xs z => by rw [upd_ne h.1.2]; exact k7 r _ h.1.1 (k25 r _ h.1.1 z)) fun c xs z => by
            have nb : c ≠ b := ne_of z eb2 (by intro z; cases z)
            exact tk (k7 c _ nb (k25 c _ nb z))⟩
          exact psnoc (pimp old hrs) ⟨nx, hrx.keep (fun xs z => by rw [upd_ne nx.2]; exact z) fun c xs z => tk z⟩
        · rw [List.length_append, hl]
          rfl
        · intro rowy hy
          rcases List.mem_append.mp hy with z | z
          · exact hw rowy z
          · rw [List.mem_singleton.mp z]
            exact ⟨hlx, hkx⟩
    · rintro σ H2 ⟨⟨v3, v4, v5, rfl⟩, f2, b2, rs, W, hfo, hrs, hl, hw⟩
      exact ⟨_, rfl, q fo W H2 f2 ⟨rs, hfo, pimp (fun _ _ h => h.2) hrs⟩ (by rw [hl]; omega) hw⟩


def U24 : Un := ⟨[0, 1, 2, 3, 4, 5], ["a", "b", "c", "d"]⟩
theorem u24 {d : Nat} (h : d < 6) : (d : Int) ∈ U24.ds := by
  have : d = 0 ∨ d = 1 ∨ d = 2 ∨ d = 3 ∨ d = 4 ∨ d = 5 := by omega
  rcases this with rfl | rfl | rfl | rfl | rfl | rfl <;> decide
theorem gl_zero (n : Nat) (j : Int) : gl (List.replicate n 0) j = 0 ∨ gl (List.replicate n 0) j = -1 := by
  unfold gl
  by_cases c : 0 ≤ j
  · rw [if_pos c, List.getD_eq_getElem?_getD, List.getElem?_replicate]
    split
    · exact .inl rfl
    · exact .inr rfl
  · rw [if_neg c]; exact .inr rfl
theorem In24.new (W : List (List (Str × Str))) (n : Nat) : In24 (wl W) HS.none (gl (List.replicate n 0)) := by
  refine ⟨In23.new, fun i _ => ⟨rfl, rfl, rfl, rfl⟩, fun i e => ?_, fun i e => ⟨rfl, ?_⟩, fun i => ?_⟩
  · rcases gl_zero n i with z | z <;> omega
  · have := wl_nn W i
    rcases gl_zero n i with z | z <;> omega
  · rcases gl_zero n i with z | z
    · exact .inr (.inr (by omega))
    · exact .inl z
theorem cP_none {f : Int → Int} (h : ∀ j, f j ≠ -2) : ∀ n, cP f n = 0
  | 0 => rfl
  | n + 1 => by
    show cP f n + (if f n = -2 then 1 else 0) = 0
    rw [cP_none h n, if_neg (h n)]
    rfl
theorem Bd.new (n : Nat) : Bd n HS.none (gl (List.replicate n 0)) (6 * (n : Int)) := by
  have p0 : cP (gl (List.replicate n 0)) n = 0 := cP_none (fun j z => by rcases gl_zero n j with y | y <;> omega) n
  have a0 := cA_le (gl (List.replicate n 0)) n
  refine ⟨fun e l => ?_, fun _ => by omega⟩
  have : 0 ≤ r24 HS.none (gl (List.replicate n 0)) e := by
    have := l.2.1
    unfold r24
    split <;> omega
  omega
theorem all_one {st : List Int} {n : Nat} (hl : st.length = n) (h : (st.filter fun o => !decide (o = -1)) = []) : ∀ j : Nat, j < n → gl st j = -1 := fun j hj => by
  have e := gl_at (st := st) (i := j) (by omega)
  have m := List.mem_of_getElem? e
  by_cases c : gl st j = -1
  · exact c
  · have : gl st j ∈ st.filter fun o => !decide (o = -1) := List.mem_filter.mpr ⟨m, by rw [decide_eq_false c]; rfl⟩
    rw [h] at this
    cases this
theorem one_all {st : List Int} {n : Nat} (hl : st.length = n) (h : ∀ j : Nat, j < n → gl st j = -1) : (st.filter fun o => !decide (o = -1)) = [] := by
  refine List.filter_eq_nil_iff.mpr fun o ho => ?_
  obtain ⟨j, hj⟩ := List.mem_iff_getElem?.mp ho
  have jl : j < st.length := (List.getElem?_eq_some_iff.mp hj).1
  rw [gl_at jl, h j (by omega)] at hj
  rw [← Option.some.inj hj]
  decide
theorem some_not {st : List Int} {n : Nat} (hl : st.length = n) (h : (st.filter fun o => !decide (o = -1)) ≠ []) : ∃ j : Nat, j < n ∧ gl st j ≠ -1 := by
  obtain ⟨o, ho⟩ := List.exists_mem_of_ne_nil _ h
  obtain ⟨m, z⟩ := List.mem_filter.mp ho
  obtain ⟨j, hj⟩ := List.mem_iff_getElem?.mp m
  have jl : j < st.length := (List.getElem?_eq_some_iff.mp hj).1
  rw [gl_at jl] at hj
  refine ⟨j, by omega, fun y => ?_⟩
  rw [← Option.some.inj hj, y] at z
  revert z
  decide

theorem ok_law {P : Program} {w : World} {K : PySem.W.Frag} {mg : Str → Option Value} {base : Heap} {a : Nat → Addr} {d : Nat → FuncData} (T : Txt K mg a d) : FnOk P w K mg base CX0 5 (a 21) (d 21) ["_law_script"] (spLaw K) := by
  refine T.F_law.ok sc_law (fun vs H Q E h => ?_) (fun cdv A outer s0 H vs Q E hr h => ?_)
  · obtain ⟨l, ns, rfl, hS, hl, q⟩ := h
    rfl
  · obtain ⟨l, ns, rfl, hS, hl, q⟩ := h
    refine ⟨_, (pss_cons (ps_for PassesOwn.never rfl (pi_range1 (by rfl) T.z_range (pa_cons (pe_callB (call_max2 rfl) (by rfl) T.z_max (by decide +kernel) (pa_cons pe_int (pa_cons (pe_callB (call_min2 rfl) (by rfl) T.z_min (by decide +kernel) (pa_cons (pe_callB call_len_seq (by rfl) T.z_len PySem.boot_len (pa_cons (pv 0) pa_nil)) (pa_cons pe_int pa_nil))) pa_nil))) pa_nil)) (pg_name (i := 1) sc_law.nd rfl (.inl rfl)) (pss_cons (ps_set (i := 2) sc_law.nd rfl (Or.inl rfl) (pe_call (ok_l_bag T) (hr.mono (by decide)) (by rfl) T.g_l_bag T.F_l_bag.kp T.b_l_bag .nil pass0 (pa_cons (pv 0) (pa_cons (pv 1) pa_nil)))) (pss_cons (ps_set (i := 3) sc_law.nd rfl (Or.inl rfl) (pe_call (ok_l_wishes T) (hr.mono (by decide)) (by rfl) T.g_l_wishes T.F_l_wishes.kp T.b_l_wishes .nil pass0 (pa_cons (pv 2) (pa_cons (pe_op op_add pe_int (pe_call (ok_l_out T) (hr.mono (by decide)) (by rfl) T.g_l_out T.F_l_out.kp T.b_l_out .nil pass0 (pa_cons (pv 2) (pa_cons pe_int pa_nil)))) pa_nil)))) (pss_cons (ps_set (i := 4) sc_law.nd rfl (Or.inr rfl) (pe_make0 T.m_Holds___init__ (ok_Holds___init__ T) (hr.mono (by decide)) (by rfl) T.g_Holds T.b_Holds___init__ .nil pass0)) (pss_cons (ps_setLc (i := 5) (own := [("_law_row", 8)]) (g := gName 8) (te := (tC (.int 0))) (by rfl) sc_law.nd rfl rfl (sw_true rfl rfl rfl (by decide +kernel)) (pi_list (pv 3)) (blkOk_by (own := [("_law_row", 8)]) (N := ["_law_script", "_law_k", "_law_bag_here", "_law_wishes_here", "_law_holds", "_law_stands", "_law_most", "_law_turns", "_law_row", "_law_stand", "_law_dealing"]) (sc := defScope s_law) (by decide +kernel)) (fun _ _ _ _ _ => (pg_name (i := 8) sc_law.nd rfl (.inl rfl))) (fun _ _ _ _ _ => pts_nil) (fun _ _ _ _ _ => pe_int)) (pss_cons (ps_set (i := 6) sc_law.nd rfl (Or.inl rfl) (pe_op op_add (pe_op op_mul pe_int (pe_callB call_len_seq (by rfl) T.z_len PySem.boot_len (pa_cons (pv 3) pa_nil))) pe_int)) (pss_cons (ps_set (i := 7) sc_law.nd rfl (Or.inl rfl) pe_int) (Evl.pss_cut (ps_while PassesOwn.never (PW.pt (pw_and (pt_cmpR op_lt (pv 7) (pv 6) (nomark _)) (pw_and1 (pt_cmpR (op_neD hr.units) (pe_lc (own := [("_law_stand", 9)]) (g := gName 9) (te := (tVar 9)) (tt := (tTest (tOp rNe (tVar 9) (tUn (rU fun i => .int (-i)) (tC (.int 1)))))) (by rfl) sc_law.nd (pi_list (pv 5)) (blkOk_by (own := [("_law_stand", 9)]) (N := ["_law_script", "_law_k", "_law_bag_here", "_law_wishes_here", "_law_holds", "_law_stands", "_law_most", "_law_turns", "_law_row", "_law_stand", "_law_dealing"]) (sc := defScope s_law) (by decide +kernel)) (fun _ _ _ _ _ => (pg_name (i := 9) sc_law.nd rfl (.inl rfl))) (fun _ _ _ _ _ => (pts_one (pt_cmpR op_ne (pv 9) (pe_un un_neg pe_int) (nomark _)))) (fun _ _ _ _ _ => (pv 9))) (pe_lst pa_nil) (nomark _))))) (pss_cons (ps_expr (pe_call (ok_l_round T) (hr.mono (by decide)) (by rfl) T.g_l_round T.F_l_round.kp T.b_l_round .nil pass0 (pa_cons (pv 4) (pa_cons (pv 3) (pa_cons (pv 5) pa_nil))))) (pss_one (ps_set (i := 7) sc_law.nd rfl (Or.inl rfl) (pe_op op_add (pv 7) pe_int))))) (pss_cons (ps_if (PW.pt (pw_or (pt_cmpR (op_neD hr.units) (pe_lc (own := [("_law_stand", 9)]) (g := gName 9) (te := (tVar 9)) (tt := (tTest (tOp rNe (tVar 9) (tUn (rU fun i => .int (-i)) (tC (.int 1)))))) (by rfl) sc_law.nd (pi_list (pv 5)) (blkOk_by (own := [("_law_stand", 9)]) (N := ["_law_script", "_law_k", "_law_bag_here", "_law_wishes_here", "_law_holds", "_law_stands", "_law_most", "_law_turns", "_law_row", "_law_stand", "_law_dealing"]) (sc := defScope s_law) (by decide +kernel)) (fun _ _ _ _ _ => (pg_name (i := 9) sc_law.nd rfl (.inl rfl))) (fun _ _ _ _ _ => (pts_one (pt_cmpR op_ne (pv 9) (pe_un un_neg pe_int) (nomark _)))) (fun _ _ _ _ _ => (pv 9))) (pe_lst pa_nil) (nomark _)) (pw_or (pt_cmpR (op_ne_dE hr.units0) (pe_meth0 (pv 4) T.cl T.m_Holds_waiting (ok_Holds_waiting T) (hr.mono (by decide)) T.b_Holds_waiting .nil pass0) pe_dnewK (nomark _)) (pw_or1 (pt_cmpR (op_neD hr.units) (pe_meth0 (pv 4) T.cl T.m_Holds_pledged (ok_Holds_pledged T) (hr.mono (by decide)) T.b_Holds_pledged .nil pass0) (pe_lst pa_nil) (nomark _)))))) (pss_one (ps_ret pe_bl)) pss_nil) (pss_one (ps_if (pt_cmpR (op_neD hr.units) (pe_lc (own := [("_law_dealing", 10)]) (g := gName 10) (te := (tVar 10)) (tt := (tTest (tOp rNeDE (tMeth (a 22) "of" (spOf (a 22)) [] E0 (tVar 4) (tCons (tVar 10) tNil)) tDNewK))) (by rfl) sc_law.nd (pi_range1 (by rfl) T.z_range (pa_cons (pe_callB call_len_seq (by rfl) T.z_len PySem.boot_len (pa_cons (pv 3) pa_nil)) pa_nil)) (blkOk_by (own := [("_law_dealing", 10)]) (N := ["_law_script", "_law_k", "_law_bag_here", "_law_wishes_here", "_law_holds", "_law_stands", "_law_most", "_law_turns", "_law_row", "_law_stand", "_law_dealing"]) (sc := defScope s_law) (by decide +kernel)) (fun _ _ _ _ _ => (pg_name (i := 10) sc_law.nd rfl (.inl rfl))) (fun _ _ _ _ _ => (pts_one (pt_cmpR (op_ne_dE hr.units0) (pe_meth (pv 4) T.cl T.m_Holds_of (ok_Holds_of T) (hr.mono (by decide)) T.b_Holds_of .nil pass0 (pa_cons (pv 10) pa_nil)) pe_dnewK (nomark _)))) (fun _ _ _ _ _ => (pv 10))) (pe_lst pa_nil) (nomark _)) (pss_one (ps_ret pe_bl)) pss_nil))))))))))) (pss_one (ps_ret pe_bl))), ?_⟩
    refine ⟨_, rfl, l, _, rfl, .inl hS, _, 8, rfl, 1, _, rfl, _, rfl, ?_, ?_, ?_⟩
    · rw [List.length_map]; (repeat' split) <;> omega
    · rw [List.length_map]; (repeat' split) <;> omega
    have hN : (if (if (8 : Int) < ((ns.map V.int).length : Int) then (8 : Int) else ((ns.map V.int).length : Int)) > 1 then (if (8 : Int) < ((ns.map V.int).length : Int) then (8 : Int) else ((ns.map V.int).length : Int)) else (1 : Int)).toNat ≤ 63 := by
      rw [List.length_map]; (repeat' split) <;> omega
    refine for_range (fun i σ H' => (∃ v1 v2 v3 v4 v5 v6 v7 v8 v9 v10 : Option V, σ = [some (.ref l), v1, v2, v3, v4, v5, v6, v7, v8, v9, v10]) ∧ Same H H') ⟨⟨_, _, _, _, _, _, _, _, _, _, rfl⟩, Same.refl H⟩ ?_ ?_
    · rintro i σ H2 hi ⟨⟨v1, v2, v3, v4, v5, v6, v7, v8, v9, v10, rfl⟩, S2⟩
      refine ⟨_, rfl, _, rfl, l, ns, _, rfl, S2.seq hS, by omega, by omega, fun b H3 nb s3 b3 => ?_⟩
      refine ⟨_, rfl, _, rfl, b, 6, rfl, b3, by decide, by decide, fun r6 H4 r0 r1 f4 b4 => ⟨1, r6, rfl, rfl, b, 1 + r6, rfl, b4, by omega, by omega, fun wa W H5 f5 hW hWn hWp => ?_⟩⟩
      have fb : H b = none := S2.free nb
      have S5 : Same H H5 := fun c o e => f5 c o (ne_of_none e fb) (f4 c o (ne_of_none e fb) (s3 c o (S2 c o e)))
      intro x dx nx ndx nex
      have sm : Same H5 (upd (upd H5 dx (.own x)) x (.ins (a 22) dx [])) := same_make nx ndx
      refine ⟨x, dx, rfl, upd_same, fun A H6 hU k6 => ⟨rfl, ?_⟩⟩
      obtain ⟨Sp, hh, hSx⟩ := hU U24 (by decide) (by decide)
      have s56 : Same H5 H6 := fun b o e => k6 b o (ne_of_none e nx) (sm b o e)
      have own1 : ∀ b, Sp b → H5 b = none := fun b z => by
        rcases hSx b z with rfl | y
        · exact nx
        · exact sm.free y
      obtain ⟨rs, hwa, hrs⟩ := id hW
      have lrs := plen hrs
      have hwa6 := s56 _ _ hwa
      refine ⟨_, rfl, wa, rfl, ⟨_, SqL.of hwa6⟩, fun sa nsa => ?_⟩
      refine lc_it (walk_list (xs := rs.map V.ref)) (fun i H' => Same H6 H' ∧ H' sa = some (.lst ((List.replicate i (0 : Int)).map V.int))) ⟨same_new (Same.refl H6) nsa, upd_same⟩ (fun i H' _ z => SqL.of (z.1 _ _ hwa6)) ?_ ?_
      · rintro j ov Hq' Hq hiq ⟨sq, hD⟩ ⟨rfl, ho⟩
        rw [List.length_map] at hiq
        refine ⟨rfl, _, hD, ?_, fun c u e => ?_, ?_⟩
        · rw [List.length_map, List.length_replicate]
          exact Nat.lt_of_lt_of_le (show j < 100 by omega) (by decide)
        · rw [upd_ne (ne_of_none e nsa)]
          exact sq _ _ e
        · rw [upd_same, List.replicate_succ', List.map_append]
          rfl
      rintro H7 ⟨s7, hs7⟩
      rw [List.length_map, lrs] at hs7
      have rn0 : Rn (a 22) U24 H5 H7 x A HS.none Sp sa (List.replicate W.length 0) := ⟨hh.same s7, own1, hh.not_own nsa, s56.trans s7, hs7, s56.free nsa⟩
      have hwa7 := s7 _ _ hwa6
      refine ⟨_, rfl, wa, _, rfl, .inl (SqL.of hwa7), 6, _, rfl, rfl, .inl (m64 (by decide) (by decide)), _, 6, rfl, rfl, ?_⟩
      have em : ((6 : Int) * ((rs.map V.ref).length : Int) + 6) = 6 * (W.length : Int) + 6 := by rw [List.length_map, lrs]
      dsimp only
      rw [em]
      have hL := wl_le fun row h => (hWp row h).1
      have hn6 : W.length ≤ 6 := by omega
      clear hh hSx hU k6 sm own1 hs7 s7 nsa s56 nx ndx nex f5 f4 b4 s3 b3 nb hwa6 hwa7
      refine ⟨fun σ' H' => (∃ v7 v8 v9 v10 : Option V, σ' = [some (.ref l), some (.int (0 + (i : Int))), some (.ref b), some (.ref wa), some (.ref x), some (.ref sa), some (.int (6 * (W.length : Int) + 6)), v7, v8, v9, v10]) ∧ ∃ s S st, Rn (a 22) U24 H5 H' x A s S sa st ∧ st.length = W.length ∧ In24 (wl W) s (gl st) ∧ ∀ j : Nat, j < W.length → gl st j = -1, ?_, ?_⟩
      · refine ⟨fun mm σ' H' => ∃ tn : Nat, (mm : Int) + tn = 6 * W.length + 6 ∧ (∃ v8 v9 v10 : Option V, σ' = [some (.ref l), some (.int (0 + (i : Int))), some (.ref b), some (.ref wa), some (.ref x), some (.ref sa), some (.int (6 * (W.length : Int) + 6)), some (.int tn), v8, v9, v10]) ∧ ∃ s S st, Rn (a 22) U24 H5 H' x A s S sa st ∧ st.length = W.length ∧ In24 (wl W) s (gl st) ∧ Bd W.length s (gl st) (6 * W.length - tn), ⟨6 * W.length + 6, 0, by omega, ⟨_, _, _, rfl⟩, _, _, _, rn0, List.length_replicate, In24.new W _, by have := Bd.new W.length; rw [show (6 * (W.length : Int) - ((0 : Nat) : Int)) = 6 * W.length by omega]; exact this⟩, ?_⟩
        rintro mm σ' H8 ⟨tn, hmt, ⟨v8, v9, v10, rfl⟩, s, S, st, rn, hst, i24, bd⟩
        refine ⟨_, rfl, _, rfl, (tn : Int), 6 * (W.length : Int) + 6, rfl, rfl, _, rfl, ?_⟩
        by_cases ct : (tn : Int) < 6 * (W.length : Int) + 6
        · refine iteDT ct ?_
          refine ⟨_, rfl, sa, rfl, ⟨_, SqL.of rn.hs⟩, fun D nD => ?_⟩
          refine lc_it (walk_list (xs := st.map V.int)) (fun i H' => Same H8 H' ∧ H' D = some (.lst (((st.take i).filter fun o => !decide (o = -1)).map V.int))) ⟨same_new (Same.refl H8) nD, by rw [List.take_zero]; exact upd_same⟩ (fun i H' _ z => SqL.of (z.1 _ _ rn.hs)) ?_ ?_
          · rintro i ov Hq' Hq hiq ⟨sq, hD⟩ ⟨rfl, ho⟩
            rw [List.getElem?_map] at ho
            obtain ⟨o, ho1, rfl⟩ := Option.map_eq_some_iff.mp ho
            have nxt : (st.take (i + 1)).filter (fun o => !decide (o = -1)) = (st.take i).filter (fun o => !decide (o = -1)) ++ (if (!decide (o = -1)) = true then [o] else []) := take_filter ho1
            have io : i < st.length := (List.getElem?_eq_some_iff.mp ho1).1
            refine ⟨rfl, _, rfl, 1, rfl, rfl, _, rfl, ?_⟩
            by_cases c : o = -1
            · refine iteNDF (congrArg V.int c) ⟨sq, ?_⟩
              rw [nxt, decide_eq_true c, if_neg (by decide), List.append_nil]
              exact hD
            · refine iteND (fun z => c (V.int.inj z)) ⟨_, rfl, _, hD, ?_, fun b u e => ?_, ?_⟩
              · rw [List.length_map]
                exact lt_line (Nat.le_trans (List.length_filter_le ..) (Nat.le_trans (List.length_take_le' ..) (by omega)))
              · rw [upd_ne (ne_of_none e nD)]
                exact sq _ _ e
              · rw [upd_same, nxt, decide_eq_false c, if_pos (show (!false) = true from rfl), List.map_append]
                rfl
          rintro HQ ⟨sq, hD⟩
          rw [List.length_map, List.take_length] at hD
          refine ⟨Nat.zero_le _, fun pe npe => ?_⟩
          have se : Same HQ (upd HQ pe (.lst [])) := same_new (Same.refl HQ) npe
          refine ⟨.list ((st.filter fun o => !decide (o = -1)).map .int), .list [], .lst (SqL.of (se _ _ hD)) (dpall_ints _), .lst (SqL.of upd_same) .nil, PySem.W.shaped_ints _, rfl, _, rfl, ?_⟩
          rw [eqv_nil]
          have sE := sq.trans se
          generalize (upd HQ pe (.lst [])) = HE at sE ⊢
          cases ce : (st.filter fun o => !decide (o = -1)) with
          | nil => exact iteF ⟨⟨_, _, _, _, rfl⟩, s, S, st, rn.same sE, hst, i24, all_one hst ce⟩
          | cons o0 r0 =>
            refine iteT ⟨fun σ'' H'' => ∃ mm', mm' < mm ∧ ∃ tn : Nat, (mm' : Int) + tn = 6 * W.length + 6 ∧ (∃ v8 v9 v10 : Option V, σ'' = [some (.ref l), some (.int (0 + (i : Int))), some (.ref b), some (.ref wa), some (.ref x), some (.ref sa), some (.int (6 * (W.length : Int) + 6)), some (.int tn), v8, v9, v10]) ∧ ∃ s S st, Rn (a 22) U24 H5 H'' x A s S sa st ∧ st.length = W.length ∧ In24 (wl W) s (gl st) ∧ Bd W.length s (gl st) (6 * W.length - tn), fun _ _ z => z, ?_⟩
            refine ⟨_, rfl, _, rfl, _, rfl, x, U24, H5, A, s, S, wa, W, sa, st, rfl, rn.same sE, hW, hn6, hst, fun d hd => u24 (by omega), fun row hr q hq => (hWp row hr).2 q hq, fun row hr => (hWp row hr).1, i24, fun s' S' st' H9 rn9 l9 pt => ?_⟩
            refine ⟨_, rfl, (tn : Int), 1, rfl, rfl, ?_⟩
            refine ⟨mm - 1, by omega, tn + 1, by omega, ⟨_, _, _, rfl⟩, s', S', st', rn9, l9, pt.i24, ?_⟩
            have z := bd.step i24 hL (fun j hj => pt.lo j hj) (fun e l => pt.e2 e l l.1) (some_not hst (by rw [ce]; simp))
            rw [show (6 * (W.length : Int) - ((tn + 1 : Nat) : Int)) = 6 * W.length - tn - 1 by omega]
            exact z
        · refine iteDF ct (iteF ⟨⟨_, _, _, _, rfl⟩, s, S, st, rn, hst, i24, bd.ends i24 hL (by omega)⟩)
      rintro σ' H8 ⟨⟨v7, v8, v9, v10, rfl⟩, s, S, st, rn, hst, i24, all⟩
      have every : ∀ j : Int, gl st j = -1 := fun j => by
        by_cases c : 0 ≤ j ∧ j < st.length
        · obtain ⟨k, rfl⟩ := Int.eq_ofNat_of_zero_le c.1
          exact all k (by omega)
        · exact gl_out c
      refine ⟨_, rfl, sa, rfl, ⟨_, SqL.of rn.hs⟩, fun D nD => ?_⟩
      refine lc_it (walk_list (xs := st.map V.int)) (fun i H' => Same H8 H' ∧ H' D = some (.lst (((st.take i).filter fun o => !decide (o = -1)).map V.int))) ⟨same_new (Same.refl H8) nD, by rw [List.take_zero]; exact upd_same⟩ (fun i H' _ z => SqL.of (z.1 _ _ rn.hs)) ?_ ?_
      · rintro i ov Hq' Hq hiq ⟨sq, hD⟩ ⟨rfl, ho⟩
        rw [List.getElem?_map] at ho
        obtain ⟨o, ho1, rfl⟩ := Option.map_eq_some_iff.mp ho
        have nxt : (st.take (i + 1)).filter (fun o => !decide (o = -1)) = (st.take i).filter (fun o => !decide (o = -1)) ++ (if (!decide (o = -1)) = true then [o] else []) := take_filter ho1
        have io : i < st.length := (List.getElem?_eq_some_iff.mp ho1).1
        refine ⟨rfl, _, rfl, 1, rfl, rfl, _, rfl, ?_⟩
        by_cases c : o = -1
        · refine iteNDF (congrArg V.int c) ⟨sq, ?_⟩
          rw [nxt, decide_eq_true c, if_neg (by decide), List.append_nil]
          exact hD
        · refine iteND (fun z => c (V.int.inj z)) ⟨_, rfl, _, hD, ?_, fun b u e => ?_, ?_⟩
          · rw [List.length_map]
            exact lt_line (Nat.le_trans (List.length_filter_le ..) (Nat.le_trans (List.length_take_le' ..) (by omega)))
          · rw [upd_ne (ne_of_none e nD)]
            exact sq _ _ e
          · rw [upd_same, nxt, decide_eq_false c, if_pos (show (!false) = true from rfl), List.map_append]
            rfl
      rintro HQ ⟨sq, hD⟩
      rw [List.length_map, List.take_length] at hD
      refine ⟨Nat.zero_le _, fun pe npe => ?_⟩
      have se : Same HQ (upd HQ pe (.lst [])) := same_new (Same.refl HQ) npe
      refine ⟨.list ((st.filter fun o => !decide (o = -1)).map .int), .list [], .lst (SqL.of (se _ _ hD)) (dpall_ints _), .lst (SqL.of upd_same) .nil, PySem.W.shaped_ints _, rfl, _, rfl, ?_⟩
      rw [eqv_nil]
      have sE := sq.trans se
      generalize (upd HQ pe (.lst [])) = HE at sE ⊢
      rw [one_all hst all]
      refine iteF ?_
      have rnE := rn.same sE
      obtain ⟨dx9, hx9⟩ := rnE.hp.ins
      refine ⟨_, rfl, x, dx9, _, rfl, hx9, hf_no _ (by decide +kernel) (by decide +kernel) (by decide +kernel) (by decide +kernel) (by decide +kernel) (by decide +kernel), x, U24, S, A, s, rfl, rnE.hp, i24.i23.wf, fun p ws H10 wl' wn np s10 hp10 hw10 e0 ne0 => ?_⟩
      have ws0 : ws = [] := by
        cases ws with
        | nil => rfl
        | cons w r =>
          obtain ⟨k, m, e, _⟩ := wl'.to w (by simp)
          rw [(i24.one _ (every _)).2.1] at e
          cases e
      subst ws0
      have s11 : Same H10 (upd H10 e0 (.dK [])) := same_new (Same.refl H10) ne0
      refine ⟨p, e0, _, rfl, rfl, s11 _ _ hp10, upd_same, _, rfl, iteF ?_⟩
      have rn11 := (rnE.same s10).same s11
      generalize (upd H10 e0 (.dK [])) = H11 at rn11 ⊢
      obtain ⟨dx11, hx11⟩ := rn11.hp.ins
      refine ⟨_, rfl, x, dx11, _, rfl, hx11, hf_no _ (by decide +kernel) (by decide +kernel) (by decide +kernel) (by decide +kernel) (by decide +kernel) (by decide +kernel), x, U24, S, A, s, rfl, rn11.hp, fun pc lc H12 isc _ npc s12 hpc => ?_⟩
      have lc0 : lc = [] := by
        cases lc with
        | nil => rfl
        | cons o r =>
          have z := (isc.mem o).mp (by simp)
          have z' : s.bnd o = true := z
          rw [(i24.one _ (every _)).2.2.1] at z'
          cases z'
      subst lc0
      refine ⟨Nat.zero_le _, fun pe npe => ?_⟩
      have s13 : Same H12 (upd H12 pe (.lst [])) := same_new (Same.refl H12) npe
      refine ⟨.list [], .list [], .lst (SqL.of (s13 _ _ hpc)) .nil, .lst (SqL.of upd_same) .nil, rfl, rfl, _, rfl, iteF ?_⟩
      have rn13 := (rn11.same s12).same s13
      generalize (upd H12 pe (.lst [])) = H13 at rn13 ⊢
      have hwa13 := rn13.sm _ _ hwa
      refine ⟨_, rfl, wa, _, rfl, .inl (SqL.of hwa13), _, rfl, by omega, ?_, fun D nD => ?_⟩
      · rw [List.length_map, lrs]; omega
      refine lc_range (lo := 0) (fun j H' => Same H13 H' ∧ H' D = some (.lst [])) ⟨same_new (Same.refl H13) nD, upd_same⟩ ?_ ?_
      · rintro j H' hj ⟨s', hD'⟩
        have rn' := rn13.same s'
        obtain ⟨dx', hx'⟩ := rn'.hp.ins
        refine ⟨rfl, _, rfl, x, dx', _, rfl, hx', hf_no _ (by decide +kernel) (by decide +kernel) (by decide +kernel) (by decide +kernel) (by decide +kernel) (by decide +kernel), _, rfl, x, U24, S, A, s, 0 + (j : Int), rfl, rn'.hp, fun p2 ks H9 _ _ _ mem _ s9 hp9 e0 ne0 => ?_⟩
        have s10 : Same H9 (upd H9 e0 (.dK [])) := same_new (Same.refl H9) ne0
        have ks0 : ks = [] := by
          cases ks with
          | nil => rfl
          | cons k r =>
            have z := (mem k).mp (by simp)
            rw [(i24.one _ (every _)).1] at z
            cases z
        subst ks0
        exact ⟨p2, e0, _, rfl, rfl, s10 _ _ hp9, upd_same, _, rfl, iteF ⟨(s'.trans s9).trans s10, s10 _ _ (s9 _ _ hD')⟩⟩
      rintro H14 ⟨s14, hD14⟩
      refine ⟨Nat.zero_le _, fun pe npe => ?_⟩
      have s15 : Same H14 (upd H14 pe (.lst [])) := same_new (Same.refl H14) npe
      refine ⟨.list [], .list [], .lst (SqL.of (s15 _ _ hD14)) .nil, .lst (SqL.of upd_same) .nil, rfl, rfl, _, rfl, iteF ?_⟩
      exact ⟨⟨_, _, _, _, _, _, _, _, _, _, rfl⟩, S5.trans ((rn13.same s14).same s15).sm⟩
    · rintro σ H2 ⟨⟨v1, v2, v3, v4, v5, v6, v7, v8, v9, v10, rfl⟩, S2⟩
      exact q H2

theorem all_mk {l : PySem.W.OpenLaw} {w : World} {K : PySem.W.Frag} {h : Heap} {mg : Str → Option Value} {fa : Addr} {f0 f1 f2 f3 f4 f5 f6 f7 f8 f9 f10 f11 f12 f13 f14 f15 f16 f17 f18 f19 f20 f21 : Addr} (X : K.In h) (G : h.Ns mainGlobals mg) (hfa : mg "law" = some (.ref fa))
    {od0 od1 od2 od3 od4 od5 od6 od7 od8 od9 od10 od11 od12 od13 od14 od15 od16 od17 od18 od19 od20 od21 : Option Addr} {an0 an1 an2 an3 an4 an5 an6 an7 an8 an9 an10 an11 an12 an13 an14 an15 an16 an17 an18 an19 an20 an21 : Option Addr} {sl0 sl1 sl2 sl3 sl4 sl5 sl6 sl7 sl8 sl9 sl10 sl11 sl12 sl13 sl14 sl15 sl16 sl17 sl18 sl19 sl20 sl21 : Array (Option Value)} {oc0 kV0 dc0 pm0 cd0 ct0 oc1 kV1 dc1 pm1 cd1 ct1 oc2 kV2 dc2 pm2 cd2 ct2 oc3 kV3 dc3 pm3 cd3 ct3 oc4 kV4 dc4 pm4 cd4 ct4 oc5 kV5 dc5 pm5 cd5 ct5 oc6 kV6 dc6 pm6 cd6 ct6 oc7 dc7 pm7 cd7 ct7 oc8 kV8 dc8 pm8 cd8 ct8 oc9 dc9 pm9 cd9 ct9 oc10 kV10 dc10 pm10 cd10 ct10 oc11 kV11 dc11 pm11 cd11 ct11 oc12 kV12 dc12 pm12 cd12 ct12 oc13 kV13 dc13 pm13 cd13 ct13 oc14 kV14 dc14 pm14 cd14 ct14 oc15 kV15 dc15 pm15 cd15 ct15 oc16 kV16 dc16 pm16 cd16 ct16 oc17 kV17 dc17 pm17 cd17 ct17 oc18 kV18 dc18 pm18 cd18 ct18 oc19 kV19 dc19 pm19 cd19 ct19 oc20 kV20 dc20 pm20 cd20 ct20 oc21 kV21 dc21 pm21 cd21 ct21 : Value}
    {fC : Addr}
    {t23 : Tok}
    {t24 : Tok}
    {t25 : Tok}
    (g23 : PySem.W.nsIn K mainGlobals "WRITE" = some (some (.str "write" t23)))
    (g24 : PySem.W.nsIn K mainGlobals "HELD" = some (some (.str "held" t24)))
    (g25 : PySem.W.nsIn K mainGlobals "WAITS" = some (some (.str "waits" t25)))
    (aC : PySem.W.nsIn K mainGlobals "Holds" = some (some (.ref fC))) (pg : PySem.W.plainGet K fC Str.empty = true) (hd : PySem.W.hasDictIn K fC = true) (po : PySem.W.plainOver K fC = true) (sa : PySem.W.findIn K (.ref fC) "__setattr__" = some (some (.builtin "object.__setattr__"))) (mk : PySem.W.makesIn K fC = true) (kc : PySem.W.keepIn K (.ref fC) = true)
    (nf_held : PySem.W.findIn K (.ref fC) "held" = some none)
    (nf_ages : PySem.W.findIn K (.ref fC) "ages" = some none)
    (nf_askings : PySem.W.findIn K (.ref fC) "askings" = some none)
    (nf_offs : PySem.W.findIn K (.ref fC) "offs" = some none)
    (nf_bound : PySem.W.findIn K (.ref fC) "bound" = some none)
    (nf_lent : PySem.W.findIn K (.ref fC) "lent" = some none)
    (a0 : PySem.W.nsIn K mainGlobals "bars" = some (some (.ref f0)))
    (l0 : K.lookup f0 = some ⟨oc0, od0, .func (PySem.W.fnOf "bars" "bars" (defArgs s_bars) (defBody s_bars) (defScope s_bars) .none kV0 dc0 pm0 an0 cd0 ct0), sl0⟩) (c0 : PySem.W.codeIn K cd0 "bars" = true) (k0 : PySem.W.keepIn K (.ref f0) = true)
    (a1 : PySem.W.nsIn K mainGlobals "is_enough" = some (some (.ref f1)))
    (l1 : K.lookup f1 = some ⟨oc1, od1, .func (PySem.W.fnOf "is_enough" "is_enough" (defArgs s_is_enough) (defBody s_is_enough) (defScope s_is_enough) .none kV1 dc1 pm1 an1 cd1 ct1), sl1⟩) (c1 : PySem.W.codeIn K cd1 "is_enough" = true) (k1 : PySem.W.keepIn K (.ref f1) = true)
    (a2 : PySem.W.findIn K (.ref fC) "__init__" = some (some (.ref f2))) (i2 : PySem.W.isFn K (.ref f2) = true)
    (l2 : K.lookup f2 = some ⟨oc2, od2, .func (PySem.W.fnOf "__init__" "Holds.__init__" (defArgs s_Holds___init__) (defBody s_Holds___init__) (defScope s_Holds___init__) .none kV2 dc2 pm2 an2 cd2 ct2), sl2⟩) (c2 : PySem.W.codeIn K cd2 "Holds.__init__" = true) (k2 : PySem.W.keepIn K (.ref f2) = true)
    (a3 : PySem.W.findIn K (.ref fC) "wait_no_more" = some (some (.ref f3))) (i3 : PySem.W.isFn K (.ref f3) = true)
    (l3 : K.lookup f3 = some ⟨oc3, od3, .func (PySem.W.fnOf "wait_no_more" "Holds.wait_no_more" (defArgs s_Holds_wait_no_more) (defBody s_Holds_wait_no_more) (defScope s_Holds_wait_no_more) .none kV3 dc3 pm3 an3 cd3 ct3), sl3⟩) (c3 : PySem.W.codeIn K cd3 "Holds.wait_no_more" = true) (k3 : PySem.W.keepIn K (.ref f3) = true)
    (a4 : PySem.W.findIn K (.ref fC) "call_off" = some (some (.ref f4))) (i4 : PySem.W.isFn K (.ref f4) = true)
    (l4 : K.lookup f4 = some ⟨oc4, od4, .func (PySem.W.fnOf "call_off" "Holds.call_off" (defArgs s_Holds_call_off) (defBody s_Holds_call_off) (defScope s_Holds_call_off) .none kV4 dc4 pm4 an4 cd4 ct4), sl4⟩) (c4 : PySem.W.codeIn K cd4 "Holds.call_off" = true) (k4 : PySem.W.keepIn K (.ref f4) = true)
    (a5 : PySem.W.findIn K (.ref fC) "outlasts" = some (some (.ref f5))) (i5 : PySem.W.isFn K (.ref f5) = true)
    (l5 : K.lookup f5 = some ⟨oc5, od5, .func (PySem.W.fnOf "outlasts" "Holds.outlasts" (defArgs s_Holds_outlasts) (defBody s_Holds_outlasts) (defScope s_Holds_outlasts) .none kV5 dc5 pm5 an5 cd5 ct5), sl5⟩) (c5 : PySem.W.codeIn K cd5 "Holds.outlasts" = true) (k5 : PySem.W.keepIn K (.ref f5) = true)
    (a6 : PySem.W.findIn K (.ref fC) "barring" = some (some (.ref f6))) (i6 : PySem.W.isFn K (.ref f6) = true)
    (l6 : K.lookup f6 = some ⟨oc6, od6, .func (PySem.W.fnOf "barring" "Holds.barring" (defArgs s_Holds_barring) (defBody s_Holds_barring) (defScope s_Holds_barring) .none kV6 dc6 pm6 an6 cd6 ct6), sl6⟩) (c6 : PySem.W.codeIn K cd6 "Holds.barring" = true) (k6 : PySem.W.keepIn K (.ref f6) = true)
    (a7 : PySem.W.findIn K (.ref fC) "ask" = some (some (.ref f7))) (i7 : PySem.W.isFn K (.ref f7) = true)
    {DK7 : Addr}
    (l7 : K.lookup f7 = some ⟨oc7, od7, .func (PySem.W.fnOf "ask" "Holds.ask" (defArgs s_Holds_ask) (defBody s_Holds_ask) (defScope s_Holds_ask) .none (.ref DK7) dc7 pm7 an7 cd7 ct7), sl7⟩) (c7 : PySem.W.codeIn K cd7 "Holds.ask" = true) (k7 : PySem.W.keepIn K (.ref f7) = true)
    (lK7_age : PySem.W.nsIn K DK7 "age" = some (some (.none)))
    (a8 : PySem.W.findIn K (.ref fC) "pledge" = some (some (.ref f8))) (i8 : PySem.W.isFn K (.ref f8) = true)
    (l8 : K.lookup f8 = some ⟨oc8, od8, .func (PySem.W.fnOf "pledge" "Holds.pledge" (defArgs s_Holds_pledge) (defBody s_Holds_pledge) (defScope s_Holds_pledge) .none kV8 dc8 pm8 an8 cd8 ct8), sl8⟩) (c8 : PySem.W.codeIn K cd8 "Holds.pledge" = true) (k8 : PySem.W.keepIn K (.ref f8) = true)
    (a9 : PySem.W.findIn K (.ref fC) "free" = some (some (.ref f9))) (i9 : PySem.W.isFn K (.ref f9) = true)
    {DK9 : Addr}
    (l9 : K.lookup f9 = some ⟨oc9, od9, .func (PySem.W.fnOf "free" "Holds.free" (defArgs s_Holds_free) (defBody s_Holds_free) (defScope s_Holds_free) .none (.ref DK9) dc9 pm9 an9 cd9 ct9), sl9⟩) (c9 : PySem.W.codeIn K cd9 "Holds.free" = true) (k9 : PySem.W.keepIn K (.ref f9) = true)
    (lK9_forget : PySem.W.nsIn K DK9 "forget" = some (some (.bool false)))
    (a10 : PySem.W.findIn K (.ref fC) "of" = some (some (.ref f10))) (i10 : PySem.W.isFn K (.ref f10) = true)
    (l10 : K.lookup f10 = some ⟨oc10, od10, .func (PySem.W.fnOf "of" "Holds.of" (defArgs s_Holds_of) (defBody s_Holds_of) (defScope s_Holds_of) .none kV10 dc10 pm10 an10 cd10 ct10), sl10⟩) (c10 : PySem.W.codeIn K cd10 "Holds.of" = true) (k10 : PySem.W.keepIn K (.ref f10) = true)
    (a11 : PySem.W.findIn K (.ref fC) "waiting" = some (some (.ref f11))) (i11 : PySem.W.isFn K (.ref f11) = true)
    (l11 : K.lookup f11 = some ⟨oc11, od11, .func (PySem.W.fnOf "waiting" "Holds.waiting" (defArgs s_Holds_waiting) (defBody s_Holds_waiting) (defScope s_Holds_waiting) .none kV11 dc11 pm11 an11 cd11 ct11), sl11⟩) (c11 : PySem.W.codeIn K cd11 "Holds.waiting" = true) (k11 : PySem.W.keepIn K (.ref f11) = true)
    (a12 : PySem.W.findIn K (.ref fC) "called_off" = some (some (.ref f12))) (i12 : PySem.W.isFn K (.ref f12) = true)
    (l12 : K.lookup f12 = some ⟨oc12, od12, .func (PySem.W.fnOf "called_off" "Holds.called_off" (defArgs s_Holds_called_off) (defBody s_Holds_called_off) (defScope s_Holds_called_off) .none kV12 dc12 pm12 an12 cd12 ct12), sl12⟩) (c12 : PySem.W.codeIn K cd12 "Holds.called_off" = true) (k12 : PySem.W.keepIn K (.ref f12) = true)
    (a13 : PySem.W.findIn K (.ref fC) "pledged" = some (some (.ref f13))) (i13 : PySem.W.isFn K (.ref f13) = true)
    (l13 : K.lookup f13 = some ⟨oc13, od13, .func (PySem.W.fnOf "pledged" "Holds.pledged" (defArgs s_Holds_pledged) (defBody s_Holds_pledged) (defScope s_Holds_pledged) .none kV13 dc13 pm13 an13 cd13 ct13), sl13⟩) (c13 : PySem.W.codeIn K cd13 "Holds.pledged" = true) (k13 : PySem.W.keepIn K (.ref f13) = true)
    (a14 : PySem.W.findIn K (.ref fC) "make_own" = some (some (.ref f14))) (i14 : PySem.W.isFn K (.ref f14) = true)
    (l14 : K.lookup f14 = some ⟨oc14, od14, .func (PySem.W.fnOf "make_own" "Holds.make_own" (defArgs s_Holds_make_own) (defBody s_Holds_make_own) (defScope s_Holds_make_own) .none kV14 dc14 pm14 an14 cd14 ct14), sl14⟩) (c14 : PySem.W.codeIn K cd14 "Holds.make_own" = true) (k14 : PySem.W.keepIn K (.ref f14) = true)
    (a15 : PySem.W.findIn K (.ref fC) "way_of" = some (some (.ref f15))) (i15 : PySem.W.isFn K (.ref f15) = true)
    (l15 : K.lookup f15 = some ⟨oc15, od15, .func (PySem.W.fnOf "way_of" "Holds.way_of" (defArgs s_Holds_way_of) (defBody s_Holds_way_of) (defScope s_Holds_way_of) .none kV15 dc15 pm15 an15 cd15 ct15), sl15⟩) (c15 : PySem.W.codeIn K cd15 "Holds.way_of" = true) (k15 : PySem.W.keepIn K (.ref f15) = true)
    (a16 : PySem.W.findIn K (.ref fC) "hold_so" = some (some (.ref f16))) (i16 : PySem.W.isFn K (.ref f16) = true)
    (l16 : K.lookup f16 = some ⟨oc16, od16, .func (PySem.W.fnOf "hold_so" "Holds.hold_so" (defArgs s_Holds_hold_so) (defBody s_Holds_hold_so) (defScope s_Holds_hold_so) .none kV16 dc16 pm16 an16 cd16 ct16), sl16⟩) (c16 : PySem.W.codeIn K cd16 "Holds.hold_so" = true) (k16 : PySem.W.keepIn K (.ref f16) = true)
    (a17 : PySem.W.nsIn K mainGlobals "_law_bag" = some (some (.ref f17)))
    (l17 : K.lookup f17 = some ⟨oc17, od17, .func (PySem.W.fnOf "_law_bag" "_law_bag" (defArgs s_l_bag) (defBody s_l_bag) (defScope s_l_bag) .none kV17 dc17 pm17 an17 cd17 ct17), sl17⟩) (c17 : PySem.W.codeIn K cd17 "_law_bag" = true) (k17 : PySem.W.keepIn K (.ref f17) = true)
    (a18 : PySem.W.nsIn K mainGlobals "_law_out" = some (some (.ref f18)))
    (l18 : K.lookup f18 = some ⟨oc18, od18, .func (PySem.W.fnOf "_law_out" "_law_out" (defArgs s_l_out) (defBody s_l_out) (defScope s_l_out) .none kV18 dc18 pm18 an18 cd18 ct18), sl18⟩) (c18 : PySem.W.codeIn K cd18 "_law_out" = true) (k18 : PySem.W.keepIn K (.ref f18) = true)
    (a19 : PySem.W.nsIn K mainGlobals "_law_wishes" = some (some (.ref f19)))
    (l19 : K.lookup f19 = some ⟨oc19, od19, .func (PySem.W.fnOf "_law_wishes" "_law_wishes" (defArgs s_l_wishes) (defBody s_l_wishes) (defScope s_l_wishes) .none kV19 dc19 pm19 an19 cd19 ct19), sl19⟩) (c19 : PySem.W.codeIn K cd19 "_law_wishes" = true) (k19 : PySem.W.keepIn K (.ref f19) = true)
    (a20 : PySem.W.nsIn K mainGlobals "_law_round" = some (some (.ref f20)))
    (l20 : K.lookup f20 = some ⟨oc20, od20, .func (PySem.W.fnOf "_law_round" "_law_round" (defArgs s_l_round) (defBody s_l_round) (defScope s_l_round) .none kV20 dc20 pm20 an20 cd20 ct20), sl20⟩) (c20 : PySem.W.codeIn K cd20 "_law_round" = true) (k20 : PySem.W.keepIn K (.ref f20) = true)
    (a21 : PySem.W.nsIn K mainGlobals "law" = some (some (.ref f21)))
    (l21 : K.lookup f21 = some ⟨oc21, od21, .func (PySem.W.fnOf "law" "law" (defArgs s_law) (defBody s_law) (defScope s_law) .none kV21 dc21 pm21 an21 cd21 ct21), sl21⟩) (c21 : PySem.W.codeIn K cd21 "law" = true) (k21 : PySem.W.keepIn K (.ref f21) = true)
    (z_max : PySem.W.nsIn K mainGlobals "max" = some none)
    (z_min : PySem.W.nsIn K mainGlobals "min" = some none)
    (z_len : PySem.W.nsIn K mainGlobals "len" = some none)
    (z_range : PySem.W.nsIn K mainGlobals "range" = some none)
    (z_sorted : PySem.W.nsIn K mainGlobals "sorted" = some none)
    (z_list : PySem.W.nsIn K mainGlobals "list" = some none)
    (z_dict : PySem.W.nsIn K mainGlobals "dict" = some none)
    : ∃ fd : FuncData, (∀ (s : Shared) (v : Value), BindsTo s fd ⟨[v], []⟩ [("_law_script", v)]) ∧ ∀ base : Heap, K.In base → base.Ns mainGlobals mg → FnOk l.prog w K mg base CX0 5 fa fd ["_law_script"] (spLaw K) := by
  have e := hfa.symm.trans (PySem.W.mg_of X G a21)
  cases e
  have F0 := fun_mk (st := s_bars) l0 c0 k0
  have b0 := F0.binds (ps := ["mode", "other_mode"]) fun _ _ _ _ _ _ us hl => match us, hl with | [_, _], _ => rfl
  have F1 := fun_mk (st := s_is_enough) l1 c1 k1
  have b1 := F1.binds (ps := ["has", "mode"]) fun _ _ _ _ _ _ us hl => match us, hl with | [_, _], _ => rfl
  have F2 := fun_mk (st := s_Holds___init__) l2 c2 k2
  have b2 := F2.binds (ps := ["self"]) fun _ _ _ _ _ _ us hl => match us, hl with | [_], _ => rfl
  have F3 := fun_mk (st := s_Holds_wait_no_more) l3 c3 k3
  have b3 := F3.binds (ps := ["self", "dealing"]) fun _ _ _ _ _ _ us hl => match us, hl with | [_, _], _ => rfl
  have F4 := fun_mk (st := s_Holds_call_off) l4 c4 k4
  have b4 := F4.binds (ps := ["self", "dealing"]) fun _ _ _ _ _ _ us hl => match us, hl with | [_, _], _ => rfl
  have F5 := fun_mk (st := s_Holds_outlasts) l5 c5 k5
  have b5 := F5.binds (ps := ["self", "other", "dealing"]) fun _ _ _ _ _ _ us hl => match us, hl with | [_, _, _], _ => rfl
  have F6 := fun_mk (st := s_Holds_barring) l6 c6 k6
  have b6 := F6.binds (ps := ["self", "dealing", "key", "mode"]) fun _ _ _ _ _ _ us hl => match us, hl with | [_, _, _, _], _ => rfl
  have F7 : FunD K "ask" "Holds.ask" (defArgs s_Holds_ask) (defBody s_Holds_ask) (defScope s_Holds_ask) [] [("age", .non)] f7 (PySem.W.fnOf "ask" "Holds.ask" (defArgs s_Holds_ask) (defBody s_Holds_ask) (defScope s_Holds_ask) .none (.ref DK7) dc7 pm7 an7 cd7 ct7) := ⟨⟨_, _, _, _, _, _, _, _, _, _, rfl, l7, c7, .inl ⟨rfl, rfl⟩, .inr ⟨_, rfl, fun q hq => by cases List.mem_singleton.mp hq; exact ⟨_, lK7_age, rfl⟩⟩⟩, k7⟩
  have c'7 : ∃ ds, Vals [.non] ds ∧ Binds K (PySem.W.fnOf "ask" "Holds.ask" (defArgs s_Holds_ask) (defBody s_Holds_ask) (defScope s_Holds_ask) .none (.ref DK7) dc7 pm7 an7 cd7 ct7) ["self", "dealing", "key", "mode", "age"] ds := F7.binds0 (ps := ["self", "dealing", "key", "mode", "age"]) 4 (by simp) rfl (fun D doc pm an cdv ct us ks hu hk => match us, hu, ks, hk with | [_, _, _, _], _, [_], _ => ⟨_, _, _, _, _, _, rfl, rfl, rfl⟩)
  have k'7 : ∃ mv : List Value, KBn K (PySem.W.fnOf "ask" "Holds.ask" (defArgs s_Holds_ask) (defBody s_Holds_ask) (defScope s_Holds_ask) .none (.ref DK7) dc7 pm7 an7 cd7 ct7) ["self", "dealing", "key", "mode", "age"] 4 ["age"] (fun us ws => us ++ (mv ++ ws)) (fun vs zs => vs ++ ([] ++ zs)) := F7.kbinds0 (ps := ["self", "dealing", "key", "mode", "age"]) 4 ["age"] [] (fun us mv ws => us ++ (mv ++ ws)) (by simp) (fun q hq => by cases hq) (fun h1 h2 h3 => h1.append (h2.append h3)) (fun D doc pm an cdv ct us mv ws hu hm hw => match us, hu, mv, hm, ws, hw with | [_, _, _, _], _, [], _, [_], _ => rfl)
  have F8 := fun_mk (st := s_Holds_pledge) l8 c8 k8
  have b8 := F8.binds (ps := ["self", "dealing"]) fun _ _ _ _ _ _ us hl => match us, hl with | [_, _], _ => rfl
  have F9 : FunD K "free" "Holds.free" (defArgs s_Holds_free) (defBody s_Holds_free) (defScope s_Holds_free) [] [("forget", .bl false)] f9 (PySem.W.fnOf "free" "Holds.free" (defArgs s_Holds_free) (defBody s_Holds_free) (defScope s_Holds_free) .none (.ref DK9) dc9 pm9 an9 cd9 ct9) := ⟨⟨_, _, _, _, _, _, _, _, _, _, rfl, l9, c9, .inl ⟨rfl, rfl⟩, .inr ⟨_, rfl, fun q hq => by cases List.mem_singleton.mp hq; exact ⟨_, lK9_forget, rfl⟩⟩⟩, k9⟩
  have c'9 : ∃ ds, Vals [.bl false] ds ∧ Binds K (PySem.W.fnOf "free" "Holds.free" (defArgs s_Holds_free) (defBody s_Holds_free) (defScope s_Holds_free) .none (.ref DK9) dc9 pm9 an9 cd9 ct9) ["self", "dealing", "forget"] ds := F9.binds0 (ps := ["self", "dealing", "forget"]) 2 (by simp) rfl (fun D doc pm an cdv ct us ks hu hk => match us, hu, ks, hk with | [_, _], _, [_], _ => ⟨_, _, _, _, _, _, rfl, rfl, rfl⟩)
  have k'9 : ∃ mv : List Value, KBn K (PySem.W.fnOf "free" "Holds.free" (defArgs s_Holds_free) (defBody s_Holds_free) (defScope s_Holds_free) .none (.ref DK9) dc9 pm9 an9 cd9 ct9) ["self", "dealing", "forget"] 2 ["forget"] (fun us ws => us ++ (mv ++ ws)) (fun vs zs => vs ++ ([] ++ zs)) := F9.kbinds0 (ps := ["self", "dealing", "forget"]) 2 ["forget"] [] (fun us mv ws => us ++ (mv ++ ws)) (by simp) (fun q hq => by cases hq) (fun h1 h2 h3 => h1.append (h2.append h3)) (fun D doc pm an cdv ct us mv ws hu hm hw => match us, hu, mv, hm, ws, hw with | [_, _], _, [], _, [_], _ => rfl)
  have F10 := fun_mk (st := s_Holds_of) l10 c10 k10
  have b10 := F10.binds (ps := ["self", "dealing"]) fun _ _ _ _ _ _ us hl => match us, hl with | [_, _], _ => rfl
  have F11 := fun_mk (st := s_Holds_waiting) l11 c11 k11
  have b11 := F11.binds (ps := ["self"]) fun _ _ _ _ _ _ us hl => match us, hl with | [_], _ => rfl
  have F12 := fun_mk (st := s_Holds_called_off) l12 c12 k12
  have b12 := F12.binds (ps := ["self"]) fun _ _ _ _ _ _ us hl => match us, hl with | [_], _ => rfl
  have F13 := fun_mk (st := s_Holds_pledged) l13 c13 k13
  have b13 := F13.binds (ps := ["self"]) fun _ _ _ _ _ _ us hl => match us, hl with | [_], _ => rfl
  have F14 := fun_mk (st := s_Holds_make_own) l14 c14 k14
  have b14 := F14.binds (ps := ["self"]) fun _ _ _ _ _ _ us hl => match us, hl with | [_], _ => rfl
  have F15 := fun_mk (st := s_Holds_way_of) l15 c15 k15
  have b15 := F15.binds (ps := ["self", "dealing", "key"]) fun _ _ _ _ _ _ us hl => match us, hl with | [_, _, _], _ => rfl
  have F16 := fun_mk (st := s_Holds_hold_so) l16 c16 k16
  have b16 := F16.binds (ps := ["self", "dealing", "key", "mode"]) fun _ _ _ _ _ _ us hl => match us, hl with | [_, _, _, _], _ => rfl
  have F17 := fun_mk (st := s_l_bag) l17 c17 k17
  have b17 := F17.binds (ps := ["_law_script", "_law_k"]) fun _ _ _ _ _ _ us hl => match us, hl with | [_, _], _ => rfl
  have F18 := fun_mk (st := s_l_out) l18 c18 k18
  have b18 := F18.binds (ps := ["_law_bag_here", "_law_many"]) fun _ _ _ _ _ _ us hl => match us, hl with | [_, _], _ => rfl
  have F19 := fun_mk (st := s_l_wishes) l19 c19 k19
  have b19 := F19.binds (ps := ["_law_bag_here", "_law_many"]) fun _ _ _ _ _ _ us hl => match us, hl with | [_, _], _ => rfl
  have F20 := fun_mk (st := s_l_round) l20 c20 k20
  have b20 := F20.binds (ps := ["_law_holds", "_law_wishes_here", "_law_stands"]) fun _ _ _ _ _ _ us hl => match us, hl with | [_, _, _], _ => rfl
  have F21 := fun_mk (st := s_law) l21 c21 k21
  have b21 := F21.binds (ps := ["_law_script"]) fun _ _ _ _ _ _ us hl => match us, hl with | [_], _ => rfl
  let a : Nat → Addr := fun i => match i with | 0 => f0 | 1 => f1 | 2 => f2 | 3 => f3 | 4 => f4 | 5 => f5 | 6 => f6 | 7 => f7 | 8 => f8 | 9 => f9 | 10 => f10 | 11 => f11 | 12 => f12 | 13 => f13 | 14 => f14 | 15 => f15 | 16 => f16 | 17 => f17 | 18 => f18 | 19 => f19 | 20 => f20 | 21 => fa | 22 => fC | _ => 0
  let d : Nat → FuncData := fun i => match i with | 0 => (PySem.W.fnOf "bars" "bars" (defArgs s_bars) (defBody s_bars) (defScope s_bars) .none kV0 dc0 pm0 an0 cd0 ct0) | 1 => (PySem.W.fnOf "is_enough" "is_enough" (defArgs s_is_enough) (defBody s_is_enough) (defScope s_is_enough) .none kV1 dc1 pm1 an1 cd1 ct1) | 2 => (PySem.W.fnOf "__init__" "Holds.__init__" (defArgs s_Holds___init__) (defBody s_Holds___init__) (defScope s_Holds___init__) .none kV2 dc2 pm2 an2 cd2 ct2) | 3 => (PySem.W.fnOf "wait_no_more" "Holds.wait_no_more" (defArgs s_Holds_wait_no_more) (defBody s_Holds_wait_no_more) (defScope s_Holds_wait_no_more) .none kV3 dc3 pm3 an3 cd3 ct3) | 4 => (PySem.W.fnOf "call_off" "Holds.call_off" (defArgs s_Holds_call_off) (defBody s_Holds_call_off) (defScope s_Holds_call_off) .none kV4 dc4 pm4 an4 cd4 ct4) | 5 => (PySem.W.fnOf "outlasts" "Holds.outlasts" (defArgs s_Holds_outlasts) (defBody s_Holds_outlasts) (defScope s_Holds_outlasts) .none kV5 dc5 pm5 an5 cd5 ct5) | 6 => (PySem.W.fnOf "barring" "Holds.barring" (defArgs s_Holds_barring) (defBody s_Holds_barring) (defScope s_Holds_barring) .none kV6 dc6 pm6 an6 cd6 ct6) | 7 => (PySem.W.fnOf "ask" "Holds.ask" (defArgs s_Holds_ask) (defBody s_Holds_ask) (defScope s_Holds_ask) .none (.ref DK7) dc7 pm7 an7 cd7 ct7) | 8 => (PySem.W.fnOf "pledge" "Holds.pledge" (defArgs s_Holds_pledge) (defBody s_Holds_pledge) (defScope s_Holds_pledge) .none kV8 dc8 pm8 an8 cd8 ct8) | 9 => (PySem.W.fnOf "free" "Holds.free" (defArgs s_Holds_free) (defBody s_Holds_free) (defScope s_Holds_free) .none (.ref DK9) dc9 pm9 an9 cd9 ct9) | 10 => (PySem.W.fnOf "of" "Holds.of" (defArgs s_Holds_of) (defBody s_Holds_of) (defScope s_Holds_of) .none kV10 dc10 pm10 an10 cd10 ct10) | 11 => (PySem.W.fnOf "waiting" "Holds.waiting" (defArgs s_Holds_waiting) (defBody s_Holds_waiting) (defScope s_Holds_waiting) .none kV11 dc11 pm11 an11 cd11 ct11) | 12 => (PySem.W.fnOf "called_off" "Holds.called_off" (defArgs s_Holds_called_off) (defBody s_Holds_called_off) (defScope s_Holds_called_off) .none kV12 dc12 pm12 an12 cd12 ct12) | 13 => (PySem.W.fnOf "pledged" "Holds.pledged" (defArgs s_Holds_pledged) (defBody s_Holds_pledged) (defScope s_Holds_pledged) .none kV13 dc13 pm13 an13 cd13 ct13) | 14 => (PySem.W.fnOf "make_own" "Holds.make_own" (defArgs s_Holds_make_own) (defBody s_Holds_make_own) (defScope s_Holds_make_own) .none kV14 dc14 pm14 an14 cd14 ct14) | 15 => (PySem.W.fnOf "way_of" "Holds.way_of" (defArgs s_Holds_way_of) (defBody s_Holds_way_of) (defScope s_Holds_way_of) .none kV15 dc15 pm15 an15 cd15 ct15) | 16 => (PySem.W.fnOf "hold_so" "Holds.hold_so" (defArgs s_Holds_hold_so) (defBody s_Holds_hold_so) (defScope s_Holds_hold_so) .none kV16 dc16 pm16 an16 cd16 ct16) | 17 => (PySem.W.fnOf "_law_bag" "_law_bag" (defArgs s_l_bag) (defBody s_l_bag) (defScope s_l_bag) .none kV17 dc17 pm17 an17 cd17 ct17) | 18 => (PySem.W.fnOf "_law_out" "_law_out" (defArgs s_l_out) (defBody s_l_out) (defScope s_l_out) .none kV18 dc18 pm18 an18 cd18 ct18) | 19 => (PySem.W.fnOf "_law_wishes" "_law_wishes" (defArgs s_l_wishes) (defBody s_l_wishes) (defScope s_l_wishes) .none kV19 dc19 pm19 an19 cd19 ct19) | 20 => (PySem.W.fnOf "_law_round" "_law_round" (defArgs s_l_round) (defBody s_l_round) (defScope s_l_round) .none kV20 dc20 pm20 an20 cd20 ct20) | 21 => (PySem.W.fnOf "law" "law" (defArgs s_law) (defBody s_law) (defScope s_law) .none kV21 dc21 pm21 an21 cd21 ct21) | _ => (PySem.W.fnOf "law" "law" (defArgs s_law) (defBody s_law) (defScope s_law) .none kV21 dc21 pm21 an21 cd21 ct21)
  have T : Txt K mg a d := ⟨PySem.W.mg_of X G a0, F0, b0, PySem.W.mg_of X G a1, F1, b1, F2, b2, ⟨mk, a2, i2, kc⟩, F3, b3, ⟨a3, i3, k3⟩, F4, b4, ⟨a4, i4, k4⟩, F5, b5, ⟨a5, i5, k5⟩, F6, b6, ⟨a6, i6, k6⟩, F7, c'7, k'7, ⟨a7, i7, k7⟩, F8, b8, ⟨a8, i8, k8⟩, F9, c'9, k'9, ⟨a9, i9, k9⟩, F10, b10, ⟨a10, i10, k10⟩, F11, b11, ⟨a11, i11, k11⟩, F12, b12, ⟨a12, i12, k12⟩, F13, b13, ⟨a13, i13, k13⟩, F14, b14, ⟨a14, i14, k14⟩, F15, b15, ⟨a15, i15, k15⟩, F16, b16, ⟨a16, i16, k16⟩, PySem.W.mg_of X G a17, F17, b17, PySem.W.mg_of X G a18, F18, b18, PySem.W.mg_of X G a19, F19, b19, PySem.W.mg_of X G a20, F20, b20, PySem.W.mg_of X G a21, F21, b21, PySem.W.mg_of X G aC, ⟨pg, hd, po, sa⟩, nf_held, nf_ages, nf_askings, nf_offs, nf_bound, nf_lent, ⟨_, PySem.W.mg_of X G g23⟩, ⟨_, PySem.W.mg_of X G g24⟩, ⟨_, PySem.W.mg_of X G g25⟩, PySem.W.mg_none_of X G z_max, PySem.W.mg_none_of X G z_min, PySem.W.mg_none_of X G z_len, PySem.W.mg_none_of X G z_range, PySem.W.mg_none_of X G z_sorted, PySem.W.mg_none_of X G z_list, PySem.W.mg_none_of X G z_dict⟩
  exact ⟨(PySem.W.fnOf "law" "law" (defArgs s_law) (defBody s_law) (defScope s_law) .none kV21 dc21 pm21 an21 cd21 ct21), fun s v => .of_eq rfl, fun base _ _ => ok_law T⟩
theorem walk {l : PySem.W.OpenLaw} {q : Program} {loose : List Str} {XP : (Str → Option Value) → Heap → Prop} {YP : World → Heap → Prop} {d : DefRec} {K : Params → PySem.W.Frag} (hn : l.most = some 63) (hdf : d.params.defaults = [])
    (hY : ∀ (w : World) (h : Heap), YP w h → (K w.params).In h)
    (F : ∀ (w : World) (mg : Str → Option Value) (fa : Addr) (h : Heap), (K w.params).In h → h.Ns mainGlobals mg → mg d.name = some (.ref fa) →
      ∃ fd : FuncData, (∀ (s : Shared) (u : Value), BindsTo s fd ⟨[u], []⟩ [("_law_script", u)]) ∧ ∀ base : Heap, (K w.params).In base → base.Ns mainGlobals mg → FnOk l.prog w (K w.params) mg base CX0 5 fa fd ["_law_script"] (spLaw (K w.params))) :
    PySem.W.WalkO q loose XP YP l.row.toRowW d [] (fun f vs => PySem.call f vs) :=
  L2.walk_of (n := 63) (k := 5) (x := "_law_script") (CX := fun _ => CX0) (sp := fun w => (spLaw (K w.params))) hn (by decide) hdf ⟨rfl, by decide, by decide⟩ hY F (fun _ _ a ns hl _ hS => ⟨a, ns, rfl, hS, hl, fun _ => rfl⟩) fun _ _ _ _ _ z => z
end M

open PySem PySem.W PyProof.Rows in
set_option maxRecDepth 100000 in
set_option maxHeartbeats 0 in
theorem PySem.Challenge.cw_stampedwait_k24_whole_who_asks_again_hol_holds : PySem.Challenge.rw_stampedwait_k24_whole_who_asks_again_hol.Holds := by
  w_on; o_law; k_head; (case hw => w_witness2)
  k_fill
  refine M.walk (l := PySem.Challenge.rw_stampedwait_k24_whole_who_asks_again_hol) rfl rfl (fun w h Y => PySem.W.kIn_of Y) ?F
  case F =>
    intro w mg fa h KX G hmg
    refine' M.all_mk KX G hmg ?g23 ?g24 ?g25 ?aC ?pg ?hd ?po ?sa ?mk ?kc ?nf_held ?nf_ages ?nf_askings ?nf_offs ?nf_bound ?nf_lent ?a0 ?l0 ?c0 ?k0 ?a1 ?l1 ?c1 ?k1 ?a2 ?i2 ?l2 ?c2 ?k2 ?a3 ?i3 ?l3 ?c3 ?k3 ?a4 ?i4 ?l4 ?c4 ?k4 ?a5 ?i5 ?l5 ?c5 ?k5 ?a6 ?i6 ?l6 ?c6 ?k6 ?a7 ?i7 ?l7 ?c7 ?k7 ?lK7_age ?a8 ?i8 ?l8 ?c8 ?k8 ?a9 ?i9 ?l9 ?c9 ?k9 ?lK9_forget ?a10 ?i10 ?l10 ?c10 ?k10 ?a11 ?i11 ?l11 ?c11 ?k11 ?a12 ?i12 ?l12 ?c12 ?k12 ?a13 ?i13 ?l13 ?c13 ?k13 ?a14 ?i14 ?l14 ?c14 ?k14 ?a15 ?i15 ?l15 ?c15 ?k15 ?a16 ?i16 ?l16 ?c16 ?k16 ?a17 ?l17 ?c17 ?k17 ?a18 ?l18 ?c18 ?k18 ?a19 ?l19 ?c19 ?k19 ?a20 ?l20 ?c20 ?k20 ?a21 ?l21 ?c21 ?k21 ?z_max ?z_min ?z_len ?z_range ?z_sorted ?z_list ?z_dict
    (case g23 => k_is)
    (case g24 => k_is)
    (case g25 => k_is)
    (case aC => k_is)
    (case pg => k_is)
    (case hd => k_is)
    (case po => k_is)
    (case sa => k_is)
    (case mk => k_is)
    (case kc => k_is)
    (case nf_held => k_is)
    (case nf_ages => k_is)
    (case nf_askings => k_is)
    (case nf_offs => k_is)
    (case nf_bound => k_is)
    (case nf_lent => k_is)
    (case a0 => k_is)
    (case l0 => k_is)
    (case c0 => k_is)
    (case k0 => k_is)
    (case a1 => k_is)
    (case l1 => k_is)
    (case c1 => k_is)
    (case k1 => k_is)
    (case a2 => k_is)
    (case i2 => k_is)
    (case l2 => k_is)
    (case c2 => k_is)
    (case k2 => k_is)
    (case a3 => k_is)
    (case i3 => k_is)
    (case l3 => k_is)
    (case c3 => k_is)
    (case k3 => k_is)
    (case a4 => k_is)
    (case i4 => k_is)
    (case l4 => k_is)
    (case c4 => k_is)
    (case k4 => k_is)
    (case a5 => k_is)
    (case i5 => k_is)
    (case l5 => k_is)
    (case c5 => k_is)
    (case k5 => k_is)
    (case a6 => k_is)
    (case i6 => k_is)
    (case l6 => k_is)
    (case c6 => k_is)
    (case k6 => k_is)
    (case a7 => k_is)
    (case i7 => k_is)
    (case l7 => k_is)
    (case c7 => k_is)
    (case k7 => k_is)
    (case lK7_age => k_is)
    (case a8 => k_is)
    (case i8 => k_is)
    (case l8 => k_is)
    (case c8 => k_is)
    (case k8 => k_is)
    (case a9 => k_is)
    (case i9 => k_is)
    (case l9 => k_is)
    (case c9 => k_is)
    (case k9 => k_is)
    (case lK9_forget => k_is)
    (case a10 => k_is)
    (case i10 => k_is)
    (case l10 => k_is)
    (case c10 => k_is)
    (case k10 => k_is)
    (case a11 => k_is)
    (case i11 => k_is)
    (case l11 => k_is)
    (case c11 => k_is)
    (case k11 => k_is)
    (case a12 => k_is)
    (case i12 => k_is)
    (case l12 => k_is)
    (case c12 => k_is)
    (case k12 => k_is)
    (case a13 => k_is)
    (case i13 => k_is)
    (case l13 => k_is)
    (case c13 => k_is)
    (case k13 => k_is)
    (case a14 => k_is)
    (case i14 => k_is)
    (case l14 => k_is)
    (case c14 => k_is)
    (case k14 => k_is)
    (case a15 => k_is)
    (case i15 => k_is)
    (case l15 => k_is)
    (case c15 => k_is)
    (case k15 => k_is)
    (case a16 => k_is)
    (case i16 => k_is)
    (case l16 => k_is)
    (case c16 => k_is)
    (case k16 => k_is)
    (case a17 => k_is)
    (case l17 => k_is)
    (case c17 => k_is)
    (case k17 => k_is)
    (case a18 => k_is)
    (case l18 => k_is)
    (case c18 => k_is)
    (case k18 => k_is)
    (case a19 => k_is)
    (case l19 => k_is)
    (case c19 => k_is)
    (case k19 => k_is)
    (case a20 => k_is)
    (case l20 => k_is)
    (case c20 => k_is)
    (case k20 => k_is)
    (case a21 => k_is)
    (case l21 => k_is)
    (case c21 => k_is)
    (case k21 => k_is)
    (case z_max => k_is)
    (case z_min => k_is)
    (case z_len => k_is)
    (case z_range => k_is)
    (case z_sorted => k_is)
    (case z_list => k_is)
    (case z_dict => k_is)
