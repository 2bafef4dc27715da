import PyProof.Rows.All
import Wide.All
import OpenK.AllK
import Wide.FinOn
import HandS.ForMost
import HandS.ForExc
import HandS.ExcInit
import HandS.Wide
import HandS.IsInst
import HandS.Defaults
import PySem.Challenge.RW_stampedwait_k02_true_ticks_behind_a_coun
set_option Elab.async false
set_option linter.all false
set_option maxRecDepth 100000
set_option maxHeartbeats 4000000
namespace M
open PySem L2

def top (i : Nat) : Stmt := PySem.Challenge.pw_stampedwait_k02_true_ticks_behind_a_coun.main.body.getD i (.Pass ⟨0, 0, 0, 0⟩)
abbrev s_is_whole : Stmt := top 4
abbrev s_is_count : Stmt := top 5
abbrev s_refuse_no_count : Stmt := top 6
abbrev s_least_passed : Stmt := top 9
abbrev s_most_passed : Stmt := top 10
abbrev s_l_begun : Stmt := top 12
abbrev s_l_take : Stmt := top 13
abbrev s_l_low : Stmt := top 14
abbrev s_l_drift : Stmt := top 15
abbrev s_l_is_whole : Stmt := top 16
abbrev s_l_refused : Stmt := top 17
abbrev s_law : Stmt := top 18
abbrev s_least_of : Stmt := top 7
abbrev s_most_of : Stmt := top 8
theorem sc_is_whole : FnScope ["thing"] ["thing"] (defScope s_is_whole) := ⟨rfl, rfl, rfl, by decide +kernel, rfl, by decide +kernel, by decide +kernel⟩
theorem sc_is_count : FnScope ["thing"] ["thing"] (defScope s_is_count) := ⟨rfl, rfl, rfl, by decide +kernel, rfl, by decide +kernel, by decide +kernel⟩
theorem sc_refuse_no_count : FnScope ["thing"] ["thing"] (defScope s_refuse_no_count) := ⟨rfl, rfl, rfl, by decide +kernel, rfl, by decide +kernel, by decide +kernel⟩
theorem sc_least_passed : FnScope ["ticks", "drift"] ["ticks", "drift"] (defScope s_least_passed) := ⟨rfl, rfl, rfl, by decide +kernel, rfl, by decide +kernel, by decide +kernel⟩
theorem sc_most_passed : FnScope ["ticks", "drift"] ["ticks", "drift"] (defScope s_most_passed) := ⟨rfl, rfl, rfl, by decide +kernel, rfl, by decide +kernel, by decide +kernel⟩
theorem sc_l_begun : FnScope ["_law_script", "_law_k", "_law_cell", "_law_number", "_law_mixed"] ["_law_script", "_law_k"] (defScope s_l_begun) := ⟨rfl, rfl, rfl, by decide +kernel, rfl, by decide +kernel, by decide +kernel⟩
theorem sc_l_take : FnScope ["_law_state", "_law_many", "_law_digit", "_law_made", "_law_turn"] ["_law_state", "_law_many"] (defScope s_l_take) := ⟨rfl, rfl, rfl, by decide +kernel, rfl, by decide +kernel, by decide +kernel⟩
theorem sc_l_low : FnScope ["_law_upper", "_law_lower", "_law_here", "_law_there"] ["_law_upper", "_law_lower"] (defScope s_l_low) := ⟨rfl, rfl, rfl, by decide +kernel, rfl, by decide +kernel, by decide +kernel⟩
theorem sc_l_drift : FnScope ["_law_state", "_law_lower", "_law_some"] ["_law_state"] (defScope s_l_drift) := ⟨rfl, rfl, rfl, by decide +kernel, rfl, by decide +kernel, by decide +kernel⟩
theorem sc_l_is_whole : FnScope ["_law_thing"] ["_law_thing"] (defScope s_l_is_whole) := ⟨rfl, rfl, rfl, by decide +kernel, rfl, by decide +kernel, by decide +kernel⟩
theorem sc_l_refused : FnScope ["_law_odd", "_law_way", "_law_found", "_law_door"] ["_law_odd", "_law_way"] (defScope s_l_refused) := ⟨rfl, rfl, rfl, by decide +kernel, rfl, by decide +kernel, by decide +kernel⟩
theorem sc_law : FnScope ["_law_script", "_law_k", "_law_state", "_law_way", "_law_count", "_law_least", "_law_most", "_law_fast", "_law_slow"] ["_law_script"] (defScope s_law) := ⟨rfl, rfl, rfl, by decide +kernel, rfl, by decide +kernel, by decide +kernel⟩
theorem sc_least_of : FnScope ["ticks", "drift", "top", "bottom"] ["ticks", "drift"] (defScope s_least_of) := ⟨rfl, rfl, rfl, by decide +kernel, rfl, by decide +kernel, by decide +kernel⟩
theorem sc_most_of : FnScope ["ticks", "drift", "top", "bottom"] ["ticks", "drift"] (defScope s_most_of) := ⟨rfl, rfl, rfl, by decide +kernel, rfl, by decide +kernel, by decide +kernel⟩

section
open PySem PySem.Spec PyProof.Rows L2
/-- two keywords, the second parameter's first -/
def gK {α : Type} : List α → List α → List α
  | [], [x, y] => [y, x]
  | _, _ => []
variable {X : Cx} {CX : CXT} {k : Nat} {f : Addr} {fd : FuncData} {ps ks : List Str} {sp : Sp} {E : XK} {x : Str} {p pos : Pos} {kws : List Keyword} {tk : TA} {g : List Value → List Value → List Value} {gV : List V → List V → List V}
/-- a call by keywords alone -/
theorem pe_callK0 (F : FnOk X.prog X.w X.K X.mg X.base CX k f fd ps sp) (hr : Room k X.A) (hg : Gl X x) (hm : X.mg x = some (.ref f)) (hk : PySem.W.keepIn X.K (.ref f) = true) (hb : KBinds X.K fd ps ks g gV) (hx : Passes CX X E)
    (hkw : PK X kws tk) (hall : (backToKw pos (keywordEach kws X.env)).all (·.1.isSome) = true := by rfl) (hks : (backToKw pos (keywordEach kws X.env)).filterMap (·.1) = ks := by rfl)
    (hdb : (x == ("__debug__" : Str)) = false := by decide) (hpl : ((backTo pos (starEach [] X.env)).any (·.1) || (backToKw pos (keywordEach kws X.env)).any (·.1.isNone)) = false := by rfl) :
    PE X (.Call (.Name x p) [] kws pos) (tCallK sp gV E tNil tk) := by
  constructor
  intro pins s σ H Q I h
  apply wpAny_Call_Name_kw
  refine ld_glob I hg hm ?_ hdb
  refine PySem.W.callWith_KW0 (h₀ := X.base) I.ok.mod.kin hk hall (thn (hkw.run pos pins s σ H _ I h) ?_) hpl
  rintro ws s2 ⟨zs, H2, I2, rz, q2⟩
  refine ⟨I2.kIn, ?_⟩
  rw [hks]
  exact run_fnk (us := []) (vs := []) F hr hb hx I2 .nil rz q2
theorem kb_swap {K : PySem.W.Frag} {x qual p1 p2 k1 k2 : Str} {st : Stmt} {f : Addr} {fd : FuncData} (F : Fun K x qual st f fd)
    (h : ∀ (kV doc pm : Value) (an : Option Addr) (cdv ct u v : Value), bindArgs (PySem.W.fnOf x qual (defArgs st) (defBody st) (defScope st) .none kV doc pm an cdv ct) ⟨[], [(k1, u), (k2, v)]⟩ = pure [(p1, v), (p2, u)]) :
    KBinds K fd [p1, p2] [k1, k2] gK gK := by
  obtain ⟨oc, od, kV, doc, pm, an, cdv, ct, osl, rfl, _, _⟩ := F.ex
  constructor
  · intro s us ws _ hl
    match us, ws, hl with
    | [], [u, v], _ => exact .of_eq (h kV doc pm an cdv ct u v)
  · intro vs us zs ws r1 r2
    cases r1 with
    | nil =>
      cases r2 with
      | nil => exact .nil
      | cons a r =>
        cases r with
        | nil => exact .nil
        | cons b r =>
          cases r with
          | nil => exact .cons b (.cons a .nil)
          | cons c r => exact .nil
    | cons a r => exact .nil
end
abbrev s_WI : Stmt := inClass (top 1) 0
theorem sc_WI : FnScope ["self", "text"] ["self", "text"] (defScope s_WI) := ⟨rfl, rfl, rfl, by decide +kernel, rfl, by decide +kernel, by decide +kernel⟩
/-- what the top has written -/
structure Txt (K : PySem.W.Frag) (mg : Str → Option Value) (a : Nat → Addr) (d : Nat → FuncData) : Prop where
  g_is_whole : mg "is_whole" = some (.ref (a 0))
  F_is_whole : Fun K "is_whole" "is_whole" s_is_whole (a 0) (d 0)
  b_is_whole : Binds K (d 0) ["thing"] []
  g_is_count : mg "is_count" = some (.ref (a 1))
  F_is_count : Fun K "is_count" "is_count" s_is_count (a 1) (d 1)
  b_is_count : Binds K (d 1) ["thing"] []
  g_refuse_no_count : mg "refuse_no_count" = some (.ref (a 2))
  F_refuse_no_count : Fun K "refuse_no_count" "refuse_no_count" s_refuse_no_count (a 2) (d 2)
  b_refuse_no_count : Binds K (d 2) ["thing"] []
  g_least_passed : mg "least_passed" = some (.ref (a 3))
  F_least_passed : Fun K "least_passed" "least_passed" s_least_passed (a 3) (d 3)
  b_least_passed : Binds K (d 3) ["ticks", "drift"] []
  g_most_passed : mg "most_passed" = some (.ref (a 4))
  F_most_passed : Fun K "most_passed" "most_passed" s_most_passed (a 4) (d 4)
  b_most_passed : Binds K (d 4) ["ticks", "drift"] []
  g_l_begun : mg "_law_begun" = some (.ref (a 5))
  F_l_begun : Fun K "_law_begun" "_law_begun" s_l_begun (a 5) (d 5)
  b_l_begun : Binds K (d 5) ["_law_script", "_law_k"] []
  g_l_take : mg "_law_take" = some (.ref (a 6))
  F_l_take : Fun K "_law_take" "_law_take" s_l_take (a 6) (d 6)
  b_l_take : Binds K (d 6) ["_law_state", "_law_many"] []
  g_l_low : mg "_law_low" = some (.ref (a 7))
  F_l_low : Fun K "_law_low" "_law_low" s_l_low (a 7) (d 7)
  b_l_low : Binds K (d 7) ["_law_upper", "_law_lower"] []
  g_l_drift : mg "_law_drift" = some (.ref (a 8))
  F_l_drift : Fun K "_law_drift" "_law_drift" s_l_drift (a 8) (d 8)
  b_l_drift : Binds K (d 8) ["_law_state"] []
  g_l_is_whole : mg "_law_is_whole" = some (.ref (a 9))
  F_l_is_whole : Fun K "_law_is_whole" "_law_is_whole" s_l_is_whole (a 9) (d 9)
  b_l_is_whole : Binds K (d 9) ["_law_thing"] []
  g_l_refused : mg "_law_refused" = some (.ref (a 10))
  F_l_refused : Fun K "_law_refused" "_law_refused" s_l_refused (a 10) (d 10)
  b_l_refused : Binds K (d 10) ["_law_odd", "_law_way"] []
  g_law : mg "law" = some (.ref (a 11))
  F_law : Fun K "law" "law" s_law (a 11) (d 11)
  b_law : Binds K (d 11) ["_law_script"] []
  g_least_of : mg "least_of" = some (.ref (a 12))
  F_least_of : Fun K "least_of" "least_of" s_least_of (a 12) (d 12)
  b_least_of : Binds K (d 12) ["ticks", "drift"] []
  g_most_of : mg "most_of" = some (.ref (a 13))
  F_most_of : Fun K "most_of" "most_of" s_most_of (a 13) (d 13)
  b_most_of : Binds K (d 13) ["ticks", "drift"] []
  z_max : mg "max" = none
  z_min : mg "min" = none
  z_abs : mg "abs" = none
  z_len : mg "len" = none
  z_int : mg "int" = none
  z_range : mg "range" = none
  z_isinstance : mg "isinstance" = none
  z_bool : mg "bool" = none
  gN : mg "NoNumber" = some (.ref (a 50))
  oex : OexC K (a 50)
  iN : PySem.W.findIn K (.ref (a 50)) "__init__" = some (some (.ref (a 51)))
  tI : PySem.W.typeIn K (.ref (a 51)) = some (.type "function")
  nT : PySem.W.findIn K (.ref (a 50)) "text" = some none
  eP : PySem.W.exmOne K (.ref (a 50)) (.ref (a 50)) = some true
  F_WI : FunD K "__init__" "WaitError.__init__" (defArgs s_WI) (defBody s_WI) (defScope s_WI) [.str ""] [] (a 51) (d 51)
  b_WI : Binds K (d 51) ["self", "text"] []

/-- a state of draws stands at s -/
def StAt (H : Hp) (s : Addr) : Prop := ∃ (a b : Int) (c : Bool), H s = some (.lst [.int a, .int b, .bl c]) ∧ 0 ≤ b ∧ b < 2147483647
/-- all else that was tracked stands; at s a state -/
def Kp (s : Addr) (H H' : Hp) : Prop := (∀ b o, b ≠ s → H b = some o → H' b = some o) ∧ StAt H' s
theorem StAt.kp {H : Hp} {s : Addr} (h : StAt H s) : Kp s H H := ⟨fun _ _ _ e => e, h⟩
theorem Kp.trans {s : Addr} {H H1 H2 : Hp} (a : Kp s H H1) (b : Kp s H1 H2) : Kp s H H2 := ⟨fun c o n e => b.1 c o n (a.1 c o n e), b.2⟩
theorem StAt.ne_new {H : Hp} {s p : Addr} (h : StAt H s) (hp : H p = none) : p ≠ s := by
  obtain ⟨a, b, c, e, _⟩ := h
  exact (ne_of_none e hp).symm
theorem StAt.new {H : Hp} {s p : Addr} {o : HO} (h : StAt H s) (hp : H p = none) : StAt (upd H p o) s := by
  obtain ⟨a, b, c, e, r⟩ := h
  exact ⟨a, b, c, by rw [upd_ne (ne_of_none e hp)]; exact e, r⟩
theorem Kp.new {s p : Addr} {H H1 : Hp} {o : HO} (k : Kp s H H1) (hp : H1 p = none) : Kp s H (upd H1 p o) :=
  ⟨fun b u n e => by rw [upd_ne (ne_of_none (k.1 b u n e) hp)]; exact k.1 b u n e, k.2.new hp⟩
theorem StAt.ne_tup {H : Hp} {s p : Addr} {xs : List V} (h : StAt H s) (hp : H p = some (.tup xs)) : p ≠ s := by
  obtain ⟨a, b, c, e, _⟩ := h
  exact ne_of hp e (by intro q; cases q)
theorem Kp.tup {s p : Addr} {H H1 : Hp} {xs : List V} (k : Kp s H H1) (h0 : StAt H s) (hp : H p = some (.tup xs)) : H1 p = some (.tup xs) := k.1 p _ (h0.ne_tup hp) hp
theorem Kp.free {s p : Addr} {H H1 : Hp} (k : Kp s H H1) (h0 : StAt H s) (hp : H1 p = none) : H p = none := by
  cases e : H p with
  | none => rfl
  | some o =>
    have z := k.1 p o (k.2.ne_new hp) e
    rw [hp] at z
    cases z
theorem Kp.same {s : Addr} {H0 H H1 : Hp} (a : Same H0 H) (hs : H0 s = none) (k : Kp s H H1) : Same H0 H1 := fun b o e => k.1 b o (ne_of_none e hs) (a b o e)
theorem same_new {H0 H : Hp} {p : Addr} {o : HO} (a : Same H0 H) (hp : H p = none) : Same H0 (upd H p o) := fun b u e => by
  rw [upd_ne (ne_of_none (a b u e) hp)]
  exact a b u e
theorem m64 {i : Int} (a : -18446744073709551616 < i) (b : i < 18446744073709551616) : -(2 ^ 64) < i ∧ i < 2 ^ 64 := by
  have e : (2 : Int) ^ 64 = 18446744073709551616 := by decide
  rw [e]
  exact ⟨a, b⟩
theorem divW {i j : Int} (h : 0 < j) (hb : j < 2 ^ 2000) : CDivW i j := wide_div (b := 2000) h (by
  have e : (j.natAbs : Int) = j := by omega
  have q : (j.natAbs : Int) < ((2 ^ 2000 : Nat) : Int) := by rw [e]; exact hb
  exact Int.ofNat_lt.mp q) (by decide) (by decide)
theorem p2000 {j : Int} (h : j ≤ 1000000000000000000000000000000) : j < 2 ^ 2000 := Int.lt_of_le_of_lt h (by decide)
theorem cell_at (ns : List Int) (lo hi : Option Int) : ∃ c : Int, atI (cutV (ns.map V.int) lo hi ++ [V.int 0]) 0 = some (V.int c) := by
  unfold cutV
  rw [← List.map_drop, ← List.map_take]
  generalize ((List.drop _ ns).take _) = l
  cases l with
  | nil => exact ⟨0, rfl⟩
  | cons x xs => exact ⟨x, atI_nat (j := 0) rfl⟩
theorem cut_len (xs : List V) (lo hi : Option Int) : (cutV xs lo hi).length ≤ xs.length := by
  unfold cutV
  rw [List.length_take, List.length_drop]
  omega
theorem bl_of {Q : VK} {H : Hp} {c : Prop} [Decidable c] (h : c) (q : Q (.bl true) H) : Q (.bl (decide c)) H := by
  rw [decide_eq_true h]
  exact q
theorem iteDT {c A B : Prop} [Decidable c] (h : c) (a : A) : if decide c = true then A else B := by
  rw [if_pos (decide_eq_true h)]
  exact a
theorem iteDF {c A B : Prop} [Decidable c] (h : ¬ c) (b : B) : if decide c = true then A else B := by
  rw [decide_eq_false h]
  exact iteF b
theorem iteND {c A B : Prop} [Decidable c] (h : ¬ c) (a : A) : if (!decide c) = true then A else B := by
  rw [decide_eq_false h]
  exact iteT a
theorem len3 : 3 ≤ sizeLine := by decide
theorem len2 : 2 ≤ sizeLine := by decide
theorem len1 : 1 ≤ sizeLine := by decide
def spBegun (K : PySem.W.Frag) : Sp := fun vs H Q _ => ∃ (l : Addr) (ns : List Int) (k : Int), vs = [.ref l, .int k] ∧ SqL K H l (ns.map V.int) ∧ ns.length ≤ 63 ∧ 0 ≤ k ∧ k ≤ 100 ∧ ∀ (p : Addr) (H' : Hp), H p = none → Same H H' → StAt H' p → Q (.ref p) H'
def spTake : Sp := fun vs H Q _ => ∃ (s : Addr) (m : Int), vs = [.ref s, .int m] ∧ StAt H s ∧ 0 < m ∧ m ≤ 1000000000000000000000000000000 ∧ ∀ (r : Int) (H' : Hp), 0 ≤ r → r < m → Kp s H H' → Q (.int r) H'

theorem bl_no {Q : VK} {H : Hp} {c : Prop} [Decidable c] (h : ¬ c) (q : Q (.bl false) H) : Q (.bl (decide c)) H := by
  rw [decide_eq_false h]
  exact q
def spWhole : Sp := fun vs H Q _ => ∃ n : Int, vs = [.int n] ∧ Q (.bl true) H
def spCount : Sp := fun vs H Q _ => ∃ n : Int, vs = [.int n] ∧ 0 ≤ n ∧ Q (.bl true) H
def spRef : Sp := fun vs H Q _ => ∃ n : Int, vs = [.int n] ∧ 0 ≤ n ∧ Q .non H
def DrAt (H : Hp) (p : Addr) (t b : Int) : Prop := H p = some (.tup [.int t, .int b]) ∧ 0 ≤ t ∧ t < b ∧ b ≤ 1000
theorem pos_of_mul {g x l : Int} (hg : 0 < g) (hl : 0 < l) (e : l = g * x) : 0 < x := by
  rcases Int.lt_or_le 0 x with h | h
  · exact h
  · have := Int.mul_nonpos_of_nonneg_of_nonpos (Int.le_of_lt hg) h
    omega
theorem nn_of_mul {g x l : Int} (hg : 0 < g) (hl : 0 ≤ l) (e : l = g * x) : 0 ≤ x := by
  rcases Int.lt_or_le x 0 with h | h
  · have := Int.mul_neg_of_pos_of_neg hg h
    omega
  · exact h
theorem le_of_gmul {g x l : Int} (hg : 0 < g) (hx : 0 ≤ x) (e : l = g * x) : x ≤ l := by
  have := Int.mul_le_mul_of_nonneg_right (show 1 ≤ g by omega) hx
  omega
theorem le_cancel {g x y : Int} (hg : 0 < g) (h : g * x ≤ g * y) : x ≤ y := Int.le_of_mul_le_mul_left h hg
theorem lt_cancel {g x y : Int} (hg : 0 < g) (h : g * x < g * y) : x < y := Int.lt_of_mul_lt_mul_left h (Int.le_of_lt hg)
theorem gcd_turn {h t : Int} (h0 : 0 ≤ h) (t0 : 0 < t) : Int.gcd t (h % t) = Int.gcd h t := by
  obtain ⟨a, rfl⟩ := Int.eq_ofNat_of_zero_le h0
  obtain ⟨b, rfl⟩ := Int.eq_ofNat_of_zero_le (Int.le_of_lt t0)
  show Nat.gcd b (a % b) = Nat.gcd a b
  rw [Nat.gcd_comm a b, Nat.gcd_rec b a, Nat.gcd_comm]
theorem low_end {u l h : Int} (u0 : 0 ≤ u) (l0 : 0 < l) (h0 : 0 ≤ h) (e : Int.gcd h 0 = Int.gcd u l) : 0 < h ∧ u = h * (u / h) ∧ l = h * (l / h) ∧ Int.gcd (u / h) (l / h) = 1 ∧ h ≤ l := by
  have e1 : (h : Int) = (Int.gcd u l : Nat) := by
    have : Int.gcd h 0 = h.natAbs := Int.gcd_zero_right h
    rw [this] at e
    omega
  have hp : 0 < Int.gcd u l := Int.gcd_pos_of_ne_zero_right u (by omega)
  have d1 : h ∣ u := by rw [e1]; exact Int.gcd_dvd_left u l
  have d2 : h ∣ l := by rw [e1]; exact Int.gcd_dvd_right u l
  have hp' : 0 < h := by omega
  refine ⟨hp', (Int.mul_ediv_cancel' d1).symm, (Int.mul_ediv_cancel' d2).symm, ?_, Int.le_of_dvd l0 d2⟩
  rw [e1]
  exact Int.gcd_ediv_gcd_ediv_gcd hp
def leastP (n t b : Int) : Int := -(-n * b / (b + t))
def mostP (n t b : Int) : Int := ((n + 1) * b - 1) / (b - t)
theorem least_le {n t b p : Int} (t0 : 0 ≤ t) (tb : t < b) (h : n * b ≤ p * (b + t)) : leastP n t b ≤ p := by
  unfold leastP
  have q4 : -p ≤ -n * b / (b + t) := (Int.le_ediv_iff_mul_le (by omega)).mpr (by
    have z1 : -p * (b + t) = -(p * (b + t)) := by grind
    have z2 : -n * b = -(n * b) := by grind
    rw [z1, z2]
    omega)
  omega
theorem least_ge {n t b : Int} (t0 : 0 ≤ t) (tb : t < b) : n * b ≤ leastP n t b * (b + t) := by
  unfold leastP
  have q := Int.ediv_mul_le (-n * b) (show b + t ≠ 0 by omega)
  have z2 : -n * b = -(n * b) := by grind
  have z3 : -(-n * b / (b + t)) * (b + t) = -(-n * b / (b + t) * (b + t)) := by grind
  rw [z3]
  omega
theorem le_most {n t b p : Int} (t0 : 0 ≤ t) (tb : t < b) (h : p * (b - t) < (n + 1) * b) : p ≤ mostP n t b := by
  unfold mostP
  exact (Int.le_ediv_iff_mul_le (by omega)).mpr (by omega)
theorem most_lt {n t b : Int} (t0 : 0 ≤ t) (tb : t < b) : mostP n t b * (b - t) < (n + 1) * b := by
  unfold mostP
  have q := Int.ediv_mul_le ((n + 1) * b - 1) (show b - t ≠ 0 by omega)
  omega
theorem least_mono {n m t b : Int} (t0 : 0 ≤ t) (tb : t < b) (h : n ≤ m) : leastP n t b ≤ leastP m t b :=
  least_le t0 tb (Int.le_trans (Int.mul_le_mul_of_nonneg_right h (by omega)) (least_ge t0 tb))
theorem most_mono {n m t b : Int} (t0 : 0 ≤ t) (tb : t < b) (h : n ≤ m) : mostP n t b ≤ mostP m t b :=
  le_most t0 tb (Int.lt_of_lt_of_le (most_lt t0 tb) (Int.mul_le_mul_of_nonneg_right (by omega) (by omega)))
theorem least_nn {n t b : Int} (t0 : 0 ≤ t) (tb : t < b) (h : 0 ≤ n) : 0 ≤ leastP n t b := by
  have q := least_ge (n := n) t0 tb
  have z : 0 ≤ n * b := Int.mul_nonneg h (by omega)
  rcases Int.lt_or_le (leastP n t b) 0 with c | c
  · have := Int.mul_neg_of_neg_of_pos c (show 0 < b + t by omega)
    omega
  · exact c
theorem least_zero {t b : Int} (t0 : 0 ≤ t) (tb : t < b) : leastP 0 t b = 0 := by
  have h1 := least_le (n := 0) (p := 0) t0 tb (by simp)
  have h2 := least_nn (n := 0) t0 tb (by decide)
  omega
theorem most_nn {n t b : Int} (t0 : 0 ≤ t) (tb : t < b) (h : 0 ≤ n) : n ≤ mostP n t b :=
  le_most t0 tb (by
    have z1 : n * (b - t) ≤ n * b := Int.mul_le_mul_of_nonneg_left (by omega) h
    have z2 : (n + 1) * b = n * b + b := by grind
    omega)
theorem least_le_n {n t b : Int} (t0 : 0 ≤ t) (tb : t < b) (h : 0 ≤ n) : leastP n t b ≤ n :=
  least_le t0 tb (Int.mul_le_mul_of_nonneg_left (by omega) h)

def spLeast : Sp := fun vs H Q _ => ∃ (n t b : Int) (p : Addr), vs = [.int n, .ref p] ∧ 0 ≤ n ∧ DrAt H p t b ∧ Q (.int (leastP n t b)) H
def spMost : Sp := fun vs H Q _ => ∃ (n t b : Int) (p : Addr), vs = [.int n, .ref p] ∧ 0 ≤ n ∧ DrAt H p t b ∧ Q (.int (mostP n t b)) H
def spLow : Sp := fun vs H Q _ => ∃ (u l : Int), vs = [.int u, .int l] ∧ 0 ≤ u ∧ 0 < l ∧ l < 2 ^ 2000 ∧ ∀ (g x y : Int) (p : Addr), 0 < g → u = g * x → l = g * y → Int.gcd x y = 1 → H p = none → Q (.ref p) (upd H p (.tup [.int x, .int y]))
def spDrift : Sp := fun vs H Q _ => ∃ s : Addr, vs = [.ref s] ∧ StAt H s ∧ ∀ (t b : Int) (p : Addr) (H' : Hp), Kp s H H' → DrAt H' p t b → Q (.ref p) H'
def spLaw (K : PySem.W.Frag) : Sp := fun vs H Q _ => ∃ (a : Addr) (ns : List Int), vs = [.ref a] ∧ SqL K H a (ns.map V.int) ∧ ns.length ≤ 63 ∧ ∀ H', Q (.bl true) H'
/-- what is no count: -1, None, True, a text, a list, a tuple, a dict -/
def Odd (H : Hp) (v : V) : Prop := v = .int (-1) ∨ v = .non ∨ v = .bl true ∨ (∃ z, v = .str z) ∨ (∃ p xs, v = .ref p ∧ H p = some (.lst xs)) ∨ (∃ p xs, v = .ref p ∧ H p = some (.tup xs)) ∨ ∃ p, v = .ref p ∧ H p = some (.dK [])
def spWholeO : Sp := fun vs H Q _ => ∃ v : V, vs = [v] ∧ Odd H v ∧ ∀ b : Bool, (b = true → v = .int (-1)) → Q (.bl b) H
def spCountO : Sp := fun vs H Q _ => ∃ v : V, vs = [v] ∧ Odd H v ∧ Q (.bl false) H
def spWI (C : Addr) : Sp := fun vs H Q _ => ∃ (x : Addr) (y : V), vs = [.ref x, y] ∧ H x = some (exo x C none) ∧ ∀ dx, H dx = none → dx ≠ x → Q .non (upd (upd H dx (exd dx [("text", y)])) x (exo x C (some dx)))
def spRefX (C : Addr) : Sp := fun vs H _ E => ∃ v : V, vs = [v] ∧ Odd H v ∧ ∀ (dx : Addr) (H' : Hp), Same H H' → E (.ref C) (some dx) H'
def spPassX (C : Addr) : Sp := fun vs H _ E => ∃ (v : V) (p : V), vs = [v, p] ∧ Odd H v ∧ ∀ (dx : Addr) (H' : Hp), Same H H' → E (.ref C) (some dx) H'
def spRefused : Sp := fun vs H Q _ => ∃ (v p : V), vs = [v, p] ∧ Odd H v ∧ ∀ H', Same H H' → Q (.bl true) H'
theorem Odd.same {H H' : Hp} {v : V} (h : Odd H v) (k : Same H H') : Odd H' v := by
  rcases h with h | h | h | h | ⟨p, xs, e, z⟩ | ⟨p, xs, e, z⟩ | ⟨p, e, z⟩
  · exact .inl h
  · exact .inr (.inl h)
  · exact .inr (.inr (.inl h))
  · exact .inr (.inr (.inr (.inl h)))
  · exact .inr (.inr (.inr (.inr (.inl ⟨p, xs, e, k _ _ z⟩))))
  · exact .inr (.inr (.inr (.inr (.inr (.inl ⟨p, xs, e, k _ _ z⟩)))))
  · exact .inr (.inr (.inr (.inr (.inr (.inr ⟨p, e, k _ _ z⟩)))))
/-- what isinstance says of these -/
theorem Odd.ty {K : PySem.W.Frag} {H : Hp} {v : V} (h : Odd H v) : ∃ (t : Value) (i b : Bool), TyX K H v t ∧ PySem.W.kitOne K t (.type "int") = some i ∧ PySem.W.kitOne K t (.type "bool") = some b ∧ ((i && !b) = true → v = .int (-1)) := by
  rcases h with h | h | h | ⟨z, h⟩ | ⟨p, xs, e, z⟩ | ⟨p, xs, e, z⟩ | ⟨p, e, z⟩
  · subst h
    exact ⟨_, true, false, .base (.int _), kit_ty (by decide +kernel), kit_ty (by decide +kernel), fun _ => rfl⟩
  · subst h
    exact ⟨_, false, false, .base .non, kit_ty (by decide +kernel), kit_ty (by decide +kernel), fun z => by cases z⟩
  · subst h
    exact ⟨_, true, true, .base (.bl _), kit_ty (by decide +kernel), kit_ty (by decide +kernel), fun z => by cases z⟩
  · subst h
    exact ⟨_, false, false, .base (.str _), kit_ty (by decide +kernel), kit_ty (by decide +kernel), fun z => by cases z⟩
  · subst e
    exact ⟨_, false, false, .base (.lst z), kit_ty (by decide +kernel), kit_ty (by decide +kernel), fun z => by cases z⟩
  · subst e
    exact ⟨_, false, false, .base (.tup z), kit_ty (by decide +kernel), kit_ty (by decide +kernel), fun z => by cases z⟩
  · subst e
    exact ⟨_, false, false, .base (.dK z), kit_ty (by decide +kernel), kit_ty (by decide +kernel), fun z => by cases z⟩
/-- an error of a class is caught by that class's name -/
theorem exm_self {K : PySem.W.Frag} {S : Addr} (h1 : PySem.W.subIn K (.ref S) (.type "BaseException") = some true) (h2 : PySem.W.isClsIn K S = true) (h3 : PySem.W.typeIn K (.ref S) = some (.type "type")) (h4 : PySem.W.subIn K (.ref S) (.ref S) = some true) : PySem.W.exmOne K (.ref S) (.ref S) = some true := by
  have h5 : (PySem.W.clsIn K S).isSome = true := h2
  unfold PySem.W.exmOne PySem.W.kitCls
  simp [h1, h3, h4, h5]
/-- the heap behind a raised error -/
theorem same_err {H : Hp} {x dx : Addr} {o1 o2 o3 o4 : HO} (hx : H x = none) (hd : H dx = none) : Same H (upd (del (upd (upd (upd H x o1) dx o2) x o3) x) dx o4) := fun b o e => by
  have n1 : b ≠ x := ne_of_none e hx
  have n2 : b ≠ dx := ne_of_none e hd
  rw [upd_ne n2, del_ne n1, upd_ne n1, upd_ne n2, upd_ne n1]
  exact e
theorem least_fits {n t b : Int} (t0 : 0 ≤ t) (tb : t < b) : ¬ (n * b ≤ (leastP n t b - 1) * (b + t)) := fun h => by
  have := least_le (p := leastP n t b - 1) t0 tb h
  omega
theorem most_fits {n t b : Int} (t0 : 0 ≤ t) (tb : t < b) : (n + 1) * b ≤ (mostP n t b + 1) * (b - t) := by
  rcases Int.lt_or_le ((mostP n t b + 1) * (b - t)) ((n + 1) * b) with h | h
  · have := le_most (p := mostP n t b + 1) t0 tb h
    omega
  · exact h
theorem most_more {n t b : Int} (t0 : 0 ≤ t) (tb : t < b) : mostP n t b < mostP (n + 1) t b := by
  have h := most_lt (n := n) t0 tb
  have := le_most (n := n + 1) (p := mostP n t b + 1) t0 tb (by
    have e1 : (mostP n t b + 1) * (b - t) = mostP n t b * (b - t) + (b - t) := by grind
    have e2 : (n + 1 + 1) * b = (n + 1) * b + b := by grind
    omega)
  omega

theorem ok_is_whole {P : Program} {w : World} {K : PySem.W.Frag} {mg : Str → Option Value} {base : Heap} {a : Nat → Addr} {d : Nat → FuncData} (T : Txt K mg a d) : FnOk P w K mg base CX0 1 (a 0) (d 0) ["thing"] spWhole := by
  refine T.F_is_whole.ok sc_is_whole (fun vs H Q E h => ?_) (fun cdv A outer s0 H vs Q E hr h => ?_)
  · obtain ⟨n, rfl, q⟩ := h
    rfl
  · obtain ⟨n, rfl, q⟩ := h
    refine ⟨_, (pss_one (ps_ret (pe_and (pe_callB call_isi (by rfl) T.z_isinstance (by decide +kernel) (pa_cons (pv 0) (pa_cons (pe_bltn (v := .ty "int") (by rfl) T.z_int (by decide +kernel) rfl) pa_nil))) (pe_one (pe_not (pe_callB call_isi (by rfl) T.z_isinstance (by decide +kernel) (pa_cons (pv 0) (pa_cons (pe_bltn (v := .ty "bool") (by rfl) T.z_bool (by decide +kernel) rfl) pa_nil)))))))), ?_⟩
    refine ⟨_, rfl, _, _, .type "int", .type "int", true, rfl, .ty "int", .base (.int n), kit_ty (by decide +kernel), true, rfl, iteT ?_⟩
    refine ⟨_, rfl, _, _, .type "int", .type "bool", false, rfl, .ty "bool", .base (.int n), kit_ty (by decide +kernel), false, rfl, ?_⟩
    exact q

theorem ok_l_is_whole {P : Program} {w : World} {K : PySem.W.Frag} {mg : Str → Option Value} {base : Heap} {a : Nat → Addr} {d : Nat → FuncData} (T : Txt K mg a d) : FnOk P w K mg base CX0 1 (a 9) (d 9) ["_law_thing"] spWhole := by
  refine T.F_l_is_whole.ok sc_l_is_whole (fun vs H Q E h => ?_) (fun cdv A outer s0 H vs Q E hr h => ?_)
  · obtain ⟨n, rfl, q⟩ := h
    rfl
  · obtain ⟨n, rfl, q⟩ := h
    refine ⟨_, (pss_one (ps_ret (pe_and (pe_callB call_isi (by rfl) T.z_isinstance (by decide +kernel) (pa_cons (pv 0) (pa_cons (pe_bltn (v := .ty "int") (by rfl) T.z_int (by decide +kernel) rfl) pa_nil))) (pe_one (pe_not (pe_callB call_isi (by rfl) T.z_isinstance (by decide +kernel) (pa_cons (pv 0) (pa_cons (pe_bltn (v := .ty "bool") (by rfl) T.z_bool (by decide +kernel) rfl) pa_nil)))))))), ?_⟩
    refine ⟨_, rfl, _, _, .type "int", .type "int", true, rfl, .ty "int", .base (.int n), kit_ty (by decide +kernel), true, rfl, iteT ?_⟩
    refine ⟨_, rfl, _, _, .type "int", .type "bool", false, rfl, .ty "bool", .base (.int n), kit_ty (by decide +kernel), false, rfl, ?_⟩
    exact q

theorem ok_is_count {P : Program} {w : World} {K : PySem.W.Frag} {mg : Str → Option Value} {base : Heap} {a : Nat → Addr} {d : Nat → FuncData} (T : Txt K mg a d) : FnOk P w K mg base CX0 2 (a 1) (d 1) ["thing"] spCount := by
  refine T.F_is_count.ok sc_is_count (fun vs H Q E h => ?_) (fun cdv A outer s0 H vs Q E hr h => ?_)
  · obtain ⟨n, rfl, n0, q⟩ := h
    rfl
  · obtain ⟨n, rfl, n0, q⟩ := h
    refine ⟨_, (pss_one (ps_ret (pe_and (pe_call (ok_is_whole T) (hr.mono (by decide)) (by rfl) T.g_is_whole T.F_is_whole.kp T.b_is_whole .nil pass0 (pa_cons (pv 0) pa_nil)) (pe_one (pe_cmpR op_ge (pv 0) pe_int (nomark _)))))), ?_⟩
    refine ⟨_, rfl, n, rfl, true, rfl, iteT ?_⟩
    exact ⟨_, rfl, n, 0, rfl, rfl, bl_of (Q := Q) n0 q⟩

theorem ok_refuse_no_count {P : Program} {w : World} {K : PySem.W.Frag} {mg : Str → Option Value} {base : Heap} {a : Nat → Addr} {d : Nat → FuncData} (T : Txt K mg a d) : FnOk P w K mg base CX0 3 (a 2) (d 2) ["thing"] spRef := by
  refine T.F_refuse_no_count.ok sc_refuse_no_count (fun vs H Q E h => ?_) (fun cdv A outer s0 H vs Q E hr h => ?_)
  · obtain ⟨n, rfl, n0, q⟩ := h
    rfl
  · obtain ⟨n, rfl, n0, q⟩ := h
    refine ⟨_, (pss_one (ps_if (pt_not (pt_truth (pe_call (ok_is_count T) (hr.mono (by decide)) (by rfl) T.g_is_count T.F_is_count.kp T.b_is_count .nil pass0 (pa_cons (pv 0) pa_nil)) (by intro _; rfl))) (pss_one ps_never) pss_nil)), ?_⟩
    refine ⟨_, rfl, n, rfl, n0, true, rfl, iteF ?_⟩
    exact q

theorem ok_least_of {P : Program} {w : World} {K : PySem.W.Frag} {mg : Str → Option Value} {base : Heap} {a : Nat → Addr} {d : Nat → FuncData} (T : Txt K mg a d) : FnOk P w K mg base CX0 1 (a 12) (d 12) ["ticks", "drift"] spLeast := by
  refine T.F_least_of.ok sc_least_of (fun vs H Q E h => ?_) (fun cdv A outer s0 H vs Q E hr h => ?_)
  · obtain ⟨n, t, b, p, rfl, n0, ⟨hd, t0, tb, b1⟩, q⟩ := h
    rfl
  · obtain ⟨n, t, b, p, rfl, n0, ⟨hd, t0, tb, b1⟩, q⟩ := h
    refine ⟨_, (pss_cons (ps_asg (pv 1) (pg_tup (by rfl) (pgs_cons (pg_name (i := 2) sc_least_of.nd rfl (.inl rfl)) (pgs_cons (pg_name (i := 3) sc_least_of.nd rfl (.inl rfl)) pgs_nil)))) (pss_one (ps_ret (pe_un un_neg (pe_op op_fdivW (pe_op op_mul (pe_un un_neg (pv 0)) (pv 3)) (pe_op op_add (pv 3) (pv 2))))))), ?_⟩
    refine ⟨_, rfl, p, _, rfl, SqT.of hd, rfl, _, _, rfl, _, _, rfl, rfl, ?_⟩
    refine ⟨_, rfl, n, rfl, _, rfl, -n, b, rfl, rfl, .inr (m64 (by omega) (by omega)), _, rfl, _, rfl, b, t, rfl, rfl, _, _, rfl, rfl, divW (by omega) (p2000 (by omega)), _, rfl, ?_⟩
    exact q

theorem ok_most_of {P : Program} {w : World} {K : PySem.W.Frag} {mg : Str → Option Value} {base : Heap} {a : Nat → Addr} {d : Nat → FuncData} (T : Txt K mg a d) : FnOk P w K mg base CX0 1 (a 13) (d 13) ["ticks", "drift"] spMost := by
  refine T.F_most_of.ok sc_most_of (fun vs H Q E h => ?_) (fun cdv A outer s0 H vs Q E hr h => ?_)
  · obtain ⟨n, t, b, p, rfl, n0, ⟨hd, t0, tb, b1⟩, q⟩ := h
    rfl
  · obtain ⟨n, t, b, p, rfl, n0, ⟨hd, t0, tb, b1⟩, q⟩ := h
    refine ⟨_, (pss_cons (ps_asg (pv 1) (pg_tup (by rfl) (pgs_cons (pg_name (i := 2) sc_most_of.nd rfl (.inl rfl)) (pgs_cons (pg_name (i := 3) sc_most_of.nd rfl (.inl rfl)) pgs_nil)))) (pss_one (ps_ret (pe_op op_fdivW (pe_op op_sub (pe_op op_mul (pe_op op_add (pv 0) pe_int) (pv 3)) pe_int) (pe_op op_sub (pv 3) (pv 2)))))), ?_⟩
    refine ⟨_, rfl, p, _, rfl, SqT.of hd, rfl, _, _, rfl, _, _, rfl, rfl, ?_⟩
    refine ⟨_, rfl, n, 1, rfl, rfl, _, rfl, _, b, rfl, rfl, .inr (m64 (by omega) (by omega)), _, 1, rfl, rfl, _, rfl, _, rfl, b, t, rfl, rfl, _, _, rfl, rfl, divW (by omega) (p2000 (by omega)), ?_⟩
    exact q

theorem ok_least_passed {P : Program} {w : World} {K : PySem.W.Frag} {mg : Str → Option Value} {base : Heap} {a : Nat → Addr} {d : Nat → FuncData} (T : Txt K mg a d) : FnOk P w K mg base CX0 4 (a 3) (d 3) ["ticks", "drift"] spLeast := by
  refine T.F_least_passed.ok sc_least_passed (fun vs H Q E h => ?_) (fun cdv A outer s0 H vs Q E hr h => ?_)
  · obtain ⟨n, t, b, p, rfl, n0, hd, q⟩ := h
    rfl
  · obtain ⟨n, t, b, p, rfl, n0, hd, q⟩ := h
    refine ⟨_, (pss_cons (ps_expr (pe_call (ok_refuse_no_count T) (hr.mono (by decide)) (by rfl) T.g_refuse_no_count T.F_refuse_no_count.kp T.b_refuse_no_count .nil pass0 (pa_cons (pv 0) pa_nil))) (pss_one (ps_ret (pe_call (ok_least_of T) (hr.mono (by decide)) (by rfl) T.g_least_of T.F_least_of.kp T.b_least_of .nil pass0 (pa_cons (pv 0) (pa_cons (pv 1) pa_nil)))))), ?_⟩
    refine ⟨_, rfl, n, rfl, n0, ?_⟩
    exact ⟨_, rfl, _, rfl, n, t, b, p, rfl, n0, hd, q⟩

theorem ok_most_passed {P : Program} {w : World} {K : PySem.W.Frag} {mg : Str → Option Value} {base : Heap} {a : Nat → Addr} {d : Nat → FuncData} (T : Txt K mg a d) : FnOk P w K mg base CX0 4 (a 4) (d 4) ["ticks", "drift"] spMost := by
  refine T.F_most_passed.ok sc_most_passed (fun vs H Q E h => ?_) (fun cdv A outer s0 H vs Q E hr h => ?_)
  · obtain ⟨n, t, b, p, rfl, n0, hd, q⟩ := h
    rfl
  · obtain ⟨n, t, b, p, rfl, n0, hd, q⟩ := h
    refine ⟨_, (pss_cons (ps_expr (pe_call (ok_refuse_no_count T) (hr.mono (by decide)) (by rfl) T.g_refuse_no_count T.F_refuse_no_count.kp T.b_refuse_no_count .nil pass0 (pa_cons (pv 0) pa_nil))) (pss_one (ps_ret (pe_call (ok_most_of T) (hr.mono (by decide)) (by rfl) T.g_most_of T.F_most_of.kp T.b_most_of .nil pass0 (pa_cons (pv 0) (pa_cons (pv 1) pa_nil)))))), ?_⟩
    refine ⟨_, rfl, n, rfl, n0, ?_⟩
    exact ⟨_, rfl, _, rfl, n, t, b, p, rfl, n0, hd, q⟩

theorem ok_odd_whole {P : Program} {w : World} {K : PySem.W.Frag} {mg : Str → Option Value} {base : Heap} {a : Nat → Addr} {d : Nat → FuncData} (T : Txt K mg a d) : FnOk P w K mg base CX0 1 (a 0) (d 0) ["thing"] spWholeO := by
  refine T.F_is_whole.ok sc_is_whole (fun vs H Q E h => ?_) (fun cdv A outer s0 H vs Q E hr h => ?_)
  · obtain ⟨v, rfl, _⟩ := h
    rfl
  · obtain ⟨v, rfl, ho, q⟩ := h
    obtain ⟨t, i, b, ty, ei, eb, hb⟩ := ho.ty (K := K)
    refine ⟨_, (pss_one (ps_ret (pe_and (pe_callB call_isi (by rfl) T.z_isinstance (by decide +kernel) (pa_cons (pv 0) (pa_cons (pe_bltn (v := .ty "int") (by rfl) T.z_int (by decide +kernel) rfl) pa_nil))) (pe_one (pe_not (pe_callB call_isi (by rfl) T.z_isinstance (by decide +kernel) (pa_cons (pv 0) (pa_cons (pe_bltn (v := .ty "bool") (by rfl) T.z_bool (by decide +kernel) rfl) pa_nil)))))))), ?_⟩
    refine ⟨_, rfl, v, .ty "int", t, .type "int", i, rfl, .ty "int", ty, ei, i, rfl, ?_⟩
    cases i with
    | false => exact iteF (q false (fun z => by cases z))
    | true =>
      refine iteT ⟨_, rfl, v, .ty "bool", t, .type "bool", b, rfl, .ty "bool", ty, eb, b, rfl, ?_⟩
      exact q (!b) (fun z => hb (by simpa using z))

theorem ok_odd_count {P : Program} {w : World} {K : PySem.W.Frag} {mg : Str → Option Value} {base : Heap} {a : Nat → Addr} {d : Nat → FuncData} (T : Txt K mg a d) : FnOk P w K mg base CX0 2 (a 1) (d 1) ["thing"] spCountO := by
  refine T.F_is_count.ok sc_is_count (fun vs H Q E h => ?_) (fun cdv A outer s0 H vs Q E hr h => ?_)
  · obtain ⟨v, rfl, _⟩ := h
    rfl
  · obtain ⟨v, rfl, ho, q⟩ := h
    refine ⟨_, (pss_one (ps_ret (pe_and (pe_call (ok_odd_whole T) (hr.mono (by decide)) (by rfl) T.g_is_whole T.F_is_whole.kp T.b_is_whole .nil pass0 (pa_cons (pv 0) pa_nil)) (pe_one (pe_cmpR op_ge (pv 0) pe_int (nomark _)))))), ?_⟩
    refine ⟨_, rfl, v, rfl, ho, fun b hb => ⟨b, rfl, ?_⟩⟩
    cases b with
    | false => exact iteF q
    | true =>
      have e := hb rfl
      subst e
      exact iteT ⟨_, rfl, -1, 0, rfl, rfl, bl_no (Q := Q) (by decide) q⟩

theorem ok_odd_init {P : Program} {w : World} {K : PySem.W.Frag} {mg : Str → Option Value} {base : Heap} {a : Nat → Addr} {d : Nat → FuncData} (T : Txt K mg a d) : FnOk P w K mg base CX0 1 (a 51) (d 51) ["self", "text"] (spWI (a 50)) := by
  refine T.F_WI.ok (CX := CX0) sc_WI (fun vs H Q E h => ?_) (fun cdv A outer s0 H vs Q E hr h => ?_)
  · obtain ⟨x, y, rfl, _⟩ := h
    rfl
  · obtain ⟨x, y, rfl, hx, q⟩ := h
    refine ⟨_, PSs.nox (pss_one (ps_ost (pv 0) (pv 1))), ?_⟩
    exact ⟨_, rfl, _, rfl, x, a 50, rfl, T.oex, T.nT, .inl ⟨hx, fun dx n ne => q dx n ne⟩⟩

theorem ok_odd_refuse {P : Program} {w : World} {K : PySem.W.Frag} {mg : Str → Option Value} {base : Heap} {a : Nat → Addr} {d : Nat → FuncData} (T : Txt K mg a d) : FnOk P w K mg base (L2.CX P w) 3 (a 2) (d 2) ["thing"] (spRefX (a 50)) := by
  refine T.F_refuse_no_count.okX sc_refuse_no_count (fun vs H Q E h => ?_) (fun cdv A outer s0 H vs Q E hr h => ?_)
  · obtain ⟨v, rfl, _⟩ := h
    rfl
  · obtain ⟨v, rfl, ho, q⟩ := h
    refine ⟨_, pss_one (ps_if (pt_not (pt_truth (pe_call (ok_odd_count T) (hr.mono (by decide)) (by rfl) T.g_is_count T.F_is_count.kp T.b_is_count .nil pass0 (pa_cons (pv 0) pa_nil)) (by intro _; rfl)))
      (pss_one (ps_raise rfl (takes_of rfl rfl rfl rfl) (pmk_oex T.oex T.iN T.tI (ok_odd_init T) (hr.mono (by decide)) T.b_WI .nil pass0 (by rfl) T.gN (pa_cons pe_str pa_nil)))) pss_nil), ?_⟩
    refine ⟨_, rfl, v, rfl, ho, false, rfl, iteT ?_⟩
    refine ⟨(by show 1 ≤ 1000; decide), fun x nx => ⟨x, _, rfl, upd_same, fun dx ndx ne => ?_⟩⟩
    have nd : H dx = none := by
      rw [upd_ne ne] at ndx
      exact ndx
    exact ⟨rfl, dx, _, upd_same, (by rw [upd_ne ne]; exact upd_same), nd, q dx _ (same_err nx nd)⟩

theorem ok_odd_least {P : Program} {w : World} {K : PySem.W.Frag} {mg : Str → Option Value} {base : Heap} {a : Nat → Addr} {d : Nat → FuncData} (T : Txt K mg a d) : FnOk P w K mg base (L2.CX P w) 4 (a 3) (d 3) ["ticks", "drift"] (spPassX (a 50)) := by
  refine T.F_least_passed.okX sc_least_passed (fun vs H Q E h => ?_) (fun cdv A outer s0 H vs Q E hr h => ?_)
  · obtain ⟨v, p, rfl, _⟩ := h
    rfl
  · obtain ⟨v, p, rfl, ho, q⟩ := h
    refine ⟨_, pss_cons (ps_expr (pe_call (E := E) (ok_odd_refuse T) (hr.mono (by decide)) (by rfl) T.g_refuse_no_count T.F_refuse_no_count.kp T.b_refuse_no_count .nil (passes_call (takes_of rfl rfl rfl rfl) (fun _ _ _ _ z => z)) (pa_cons (pv 0) pa_nil))) pss_never, ?_⟩
    exact ⟨_, rfl, v, rfl, ho, q⟩

theorem ok_odd_most {P : Program} {w : World} {K : PySem.W.Frag} {mg : Str → Option Value} {base : Heap} {a : Nat → Addr} {d : Nat → FuncData} (T : Txt K mg a d) : FnOk P w K mg base (L2.CX P w) 4 (a 4) (d 4) ["ticks", "drift"] (spPassX (a 50)) := by
  refine T.F_most_passed.okX sc_most_passed (fun vs H Q E h => ?_) (fun cdv A outer s0 H vs Q E hr h => ?_)
  · obtain ⟨v, p, rfl, _⟩ := h
    rfl
  · obtain ⟨v, p, rfl, ho, q⟩ := h
    refine ⟨_, pss_cons (ps_expr (pe_call (E := E) (ok_odd_refuse T) (hr.mono (by decide)) (by rfl) T.g_refuse_no_count T.F_refuse_no_count.kp T.b_refuse_no_count .nil (passes_call (takes_of rfl rfl rfl rfl) (fun _ _ _ _ z => z)) (pa_cons (pv 0) pa_nil))) pss_never, ?_⟩
    exact ⟨_, rfl, v, rfl, ho, q⟩

theorem ok_l_begun {P : Program} {w : World} {K : PySem.W.Frag} {mg : Str → Option Value} {base : Heap} {a : Nat → Addr} {d : Nat → FuncData} (T : Txt K mg a d) : FnOk P w K mg base CX0 1 (a 5) (d 5) ["_law_script", "_law_k"] (spBegun K) := by
  refine T.F_l_begun.ok sc_l_begun (fun vs H Q E h => ?_) (fun cdv A outer s0 H vs Q E hr h => ?_)
  · obtain ⟨l, ns, k, rfl, hS, hl, hk0, hk1, q⟩ := h
    rfl
  · obtain ⟨l, ns, k, rfl, hS, hl, hk0, hk1, q⟩ := h
    have hc := cell_at ns (some k) (some (k + 1))
    obtain ⟨c, hc⟩ := hc
    refine ⟨_, (pss_cons (ps_set (i := 2) sc_l_begun.nd rfl (Or.inl rfl) (pe_ix ix_list (pe_op op_cat (pe_slice sl_list (pv 0) (po_some (pv 1)) (po_some (pe_op op_add (pv 1) pe_int))) (pe_lst (pa_cons pe_int pa_nil))) pe_int (fun _ _ => rfl))) (pss_cons (ps_set (i := 3) sc_l_begun.nd rfl (Or.inl rfl) (pe_callB (call_max2 rfl) (by rfl) T.z_max (by decide +kernel) (pa_cons (pv 2) (pa_cons (pe_op op_sub (pe_un un_neg pe_int) (pv 2)) pa_nil)))) (pss_cons (ps_set (i := 4) sc_l_begun.nd rfl (Or.inl rfl) (pe_op op_mod (pe_op op_add (pe_op op_add (pe_op op_add (pe_op op_mod (pv 3) pe_int) (pe_op op_mul pe_int (pv 1))) (pe_op op_mul (pe_op op_mul pe_int (pv 1)) (pv 1))) pe_int) pe_int)) (pss_one (ps_ret (pe_lst (pa_cons (pv 3) (pa_cons (pv 4) (pa_cons (pe_cmpR op_ge (pv 3) (pe_op op_pow pe_int pe_int) (nomark _)) pa_nil))))))))), ?_⟩
    refine ⟨_, rfl, _, rfl, k, rfl, _, rfl, k, 1, rfl, rfl, k + 1, rfl, l, _, rfl, hS, fun p1 n1 => ?_⟩
    refine ⟨len1, fun p2 n2 => ?_⟩
    have n12 : p1 ≠ p2 := fun e => by rw [e] at n1; rw [← e, upd_same] at n2; cases n2
    refine ⟨p1, p2, _, _, rfl, rfl, (by rw [upd_ne n12]; exact upd_same), upd_same, ?_, fun p3 n3 => ?_⟩
    · have z := cut_len (ns.map V.int) (some k) (some (k + 1))
      rw [List.length_map] at z
      exact Nat.le_trans (Nat.add_le_add_right (Nat.le_trans z hl) 1) (by decide)
    refine ⟨p3, _, 0, _, rfl, rfl, SqL.of upd_same, hc, ?_⟩
    refine ⟨_, rfl, 1, rfl, _, rfl, -1, c, rfl, rfl, c, -1 - c, rfl, ?_⟩
    refine ⟨_, rfl, _, _, rfl, rfl, (by show (0 : Int) < 2147483629; decide), _, rfl, 7919, k, rfl, rfl, .inl (m64 (by decide) (by decide)), _, _, rfl, rfl, ?_⟩
    refine ⟨_, rfl, 104729, k, rfl, rfl, .inl (m64 (by decide) (by decide)), _, rfl, _, k, rfl, rfl, .inr (m64 (by omega) (by omega)), _, _, rfl, rfl, _, 11, rfl, rfl, _, _, rfl, rfl, (by show (0 : Int) < 2147483629; decide), ?_⟩
    refine ⟨_, rfl, _, rfl, _, rfl, 10, 18, rfl, rfl, ⟨by decide, by decide, by decide⟩, _, _, rfl, rfl, len3, fun p4 n4 => ?_⟩
    refine q p4 _ (Same.free (same_new (same_new (same_new (Same.refl H) n1) n2) n3) n4) (same_new (same_new (same_new (same_new (Same.refl H) n1) n2) n3) n4) ⟨_, _, _, upd_same, ?_, ?_⟩
    · exact Int.emod_nonneg _ (by decide)
    · exact Int.lt_trans (Int.emod_lt_of_pos _ (by decide)) (by decide)

theorem ok_l_take {P : Program} {w : World} {K : PySem.W.Frag} {mg : Str → Option Value} {base : Heap} {a : Nat → Addr} {d : Nat → FuncData} (T : Txt K mg a d) : FnOk P w K mg base CX0 1 (a 6) (d 6) ["_law_state", "_law_many"] spTake := by
  refine T.F_l_take.ok sc_l_take (fun vs H Q E h => ?_) (fun cdv A outer s0 H vs Q E hr h => ?_)
  · obtain ⟨s, m, rfl, ⟨x, y, c, hs, y0, y1⟩, m0, m1, q⟩ := h
    rfl
  · obtain ⟨s, m, rfl, ⟨x, y, c, hs, y0, y1⟩, m0, m1, q⟩ := h
    refine ⟨_, (pss_cons (ps_if (pt_truth (pe_ix ix_list (pv 0) pe_int (fun _ _ => rfl)) (by intro _; rfl)) (pss_cons (ps_set (i := 2) sc_l_take.nd rfl (Or.inl rfl) (pe_op op_mod (pe_ix ix_list (pv 0) pe_int (fun _ _ => rfl)) (pv 1))) (pss_cons (ps_asg (pe_op op_fdivW (pe_ix ix_list (pv 0) pe_int (fun _ _ => rfl)) (pv 1)) (pg_sub (pv 0) pe_int set_list)) (pss_cons (ps_asg (pe_cmpR op_gt (pe_ix ix_list (pv 0) pe_int (fun _ _ => rfl)) pe_int (nomark _)) (pg_sub (pv 0) pe_int set_list)) (pss_one (ps_ret (pv 2)))))) pss_nil) (pss_cons (ps_set (i := 3) sc_l_take.nd rfl (Or.inl rfl) pe_int) (pss_cons (ps_for PassesOwn.never rfl (pi_range1 (by rfl) T.z_range (pa_cons (pe_op op_add pe_int (pe_callTy call_int1 (by rfl) T.z_int (by decide +kernel) (pa_cons (pe_cmpR op_gt (pv 1) (pe_op op_pow pe_int pe_int) (nomark _)) pa_nil))) pa_nil)) (pg_name (i := 4) sc_l_take.nd rfl (.inl rfl)) (pss_cons (ps_asg (pe_op op_mod (pe_op op_add (pe_op op_mul (pe_ix ix_list (pv 0) pe_int (fun _ _ => rfl)) pe_int) pe_int) pe_int) (pg_sub (pv 0) pe_int set_list)) (pss_one (ps_set (i := 3) sc_l_take.nd rfl (Or.inl rfl) (pe_op op_add (pe_op op_mul (pv 3) pe_int) (pe_op op_mod (pe_op op_mul (pe_ix ix_list (pv 0) pe_int (fun _ _ => rfl)) (pe_ix ix_list (pv 0) pe_int (fun _ _ => rfl))) pe_int)))))) (pss_one (ps_ret (pe_op op_mod (pe_op op_fdiv (pv 3) pe_int) (pv 1))))))), ?_⟩
    refine ⟨_, rfl, s, _, 2, _, rfl, rfl, SqL.of hs, rfl, c, rfl, ?_⟩
    cases c with
    | true =>
      refine iteT ?_
      refine ⟨_, rfl, s, _, 0, _, rfl, rfl, SqL.of hs, rfl, _, rfl, x, m, rfl, rfl, m0, ?_⟩
      refine ⟨_, rfl, s, _, 0, _, rfl, rfl, SqL.of hs, rfl, _, rfl, x, m, rfl, rfl, divW m0 (p2000 m1), _, rfl, s, _, 0, 0, rfl, rfl, hs, rfl, ?_⟩
      refine ⟨_, rfl, s, _, 0, _, rfl, rfl, SqL.of upd_same, rfl, _, 0, rfl, rfl, _, rfl, s, _, 2, 2, rfl, rfl, upd_same, rfl, ?_⟩
      refine ⟨_, rfl, ?_⟩
      refine q _ _ (Int.emod_nonneg _ (by omega)) (Int.emod_lt_of_pos _ m0) ⟨fun b o n e => ?_, ⟨_, _, _, upd_same, y0, y1⟩⟩
      rw [upd_ne n, upd_ne n]
      exact e
    | false =>
      refine iteF ?_
      refine ⟨_, rfl, 10, 6, rfl, rfl, ⟨by decide, by decide, by decide⟩, m, _, rfl, rfl, .inr ⟨_, rfl, 1, _, rfl, rfl, _, rfl, ?_, ?_, ?_⟩⟩
      · cases decide ((10 : Int) ^ (6 : Int).toNat < m) <;> decide
      · cases decide ((10 : Int) ^ (6 : Int).toNat < m) <;> decide
      refine for_range (fun i σ H' => ∃ (made : Int) (t : Option V), σ = [some (.ref s), some (.int m), none, some (.int made), t] ∧ Kp s H H') ⟨0, none, rfl, ⟨fun _ _ _ e => e, _, _, _, hs, y0, y1⟩⟩ ?_ ?_
      · rintro i σ H' hi ⟨made, t, rfl, k, ⟨x', y', c', hs', y0', y1'⟩⟩
        refine ⟨_, rfl, s, _, 1, _, rfl, rfl, SqL.of hs', rfl, y', 48271, rfl, rfl, .inr (m64 (by decide) (by decide)), _, 11, rfl, rfl, _, 2147483647, rfl, rfl, (by show (0 : Int) < 2147483647; decide), _, rfl, s, _, 1, 1, rfl, rfl, hs', rfl, ?_⟩
        have e0 : 0 ≤ (y' * 48271 + 11) % 2147483647 := Int.emod_nonneg _ (by decide)
        have e1 : (y' * 48271 + 11) % 2147483647 < 2147483647 := Int.emod_lt_of_pos _ (by decide)
        refine ⟨_, rfl, made, 2147483587, rfl, rfl, .inr (m64 (by decide) (by decide)), _, rfl, s, _, 1, _, rfl, rfl, SqL.of upd_same, rfl, _, rfl, s, _, 1, _, rfl, rfl, SqL.of upd_same, rfl, _, _, rfl, rfl, .inl (m64 (by omega) (by omega)), _, 2147483587, rfl, rfl, (by show (0 : Int) < 2147483587; decide), _, _, rfl, rfl, ?_⟩
        refine ⟨_, _, rfl, ⟨fun b o n e => ?_, _, _, _, upd_same, e0, e1⟩⟩
        rw [upd_ne n]
        exact k b o n e
      · rintro σ H' ⟨made, t, rfl, k⟩
        refine ⟨_, rfl, made, 64, rfl, rfl, ⟨by decide, by decide⟩, _, rfl, _, m, rfl, rfl, m0, ?_⟩
        exact q _ _ (Int.emod_nonneg _ (by omega)) (Int.emod_lt_of_pos _ m0) k

theorem ok_l_low {P : Program} {w : World} {K : PySem.W.Frag} {mg : Str → Option Value} {base : Heap} {a : Nat → Addr} {d : Nat → FuncData} (T : Txt K mg a d) : FnOk P w K mg base CX0 1 (a 7) (d 7) ["_law_upper", "_law_lower"] spLow := by
  refine T.F_l_low.ok sc_l_low (fun vs H Q E h => ?_) (fun cdv A outer s0 H vs Q E hr h => ?_)
  · obtain ⟨u, l, rfl, u0, l0, l1, q⟩ := h
    rfl
  · obtain ⟨u, l, rfl, u0, l0, l1, q⟩ := h
    refine ⟨_, (pss_cons (ps_par (i := 2) (j := 3) (by rfl) sc_l_low.nd rfl rfl (by decide) rfl rfl (pa_cons (pe_callB call_abs (by rfl) T.z_abs (by decide +kernel) (pa_cons (pv 0) pa_nil)) (pa_cons (pv 1) pa_nil)) (by rfl)) (pss_cons (ps_while PassesOwn.never (pt_cmpR op_ne (pv 3) pe_int (nomark _)) (pss_one (ps_par (i := 2) (j := 3) (by rfl) sc_l_low.nd rfl rfl (by decide) rfl rfl (pa_cons (pv 3) (pa_cons (pe_op op_mod (pv 2) (pv 3)) pa_nil)) (by rfl)))) (pss_one (ps_ret (pe_tup (pa_cons (pe_op op_fdivW (pv 0) (pv 2)) (pa_cons (pe_op op_fdivW (pv 1) (pv 2)) pa_nil))))))), ?_⟩
    refine ⟨_, rfl, u, rfl, _, rfl, _, _, rfl, ?_⟩
    refine ⟨fun m σ H' => H' = H ∧ ∃ h t : Int, σ = [some (.int u), some (.int l), some (.int h), some (.int t)] ∧ m = t.toNat ∧ 0 ≤ h ∧ 0 ≤ t ∧ Int.gcd h t = Int.gcd u l, ⟨_, rfl, u, l, ?_, rfl, u0, by omega, rfl⟩, ?_⟩
    · have e : (if u < 0 then -u else u) = u := if_neg (by omega)
      rw [e]
      rfl
    rintro m σ H' ⟨rfl, h, t, rfl, rfl, h0, t0, eg⟩
    refine ⟨_, rfl, rfl, _, rfl, ?_⟩
    by_cases hz : t = 0
    · subst hz
      refine iteNS rfl ?_
      obtain ⟨hp, e1, e2, e3, hl⟩ := low_end u0 l0 h0 eg
      have hb : h < 2 ^ 2000 := Int.lt_of_le_of_lt hl l1
      refine ⟨_, rfl, _, rfl, u, h, rfl, rfl, divW hp hb, _, rfl, _, rfl, l, h, rfl, rfl, divW hp hb, len2, fun p np => ?_⟩
      exact q h _ _ p hp e1 e2 e3 np
    · have tp : 0 < t := by omega
      refine iteND (fun e => hz (by injection e)) ?_
      refine ⟨_, fun _ _ z => z, ?_⟩
      refine ⟨_, rfl, _, rfl, _, rfl, h, t, rfl, rfl, tp, _, _, rfl, ?_⟩
      have e0 := Int.emod_nonneg h (show t ≠ 0 by omega)
      have e1 := Int.emod_lt_of_pos h tp
      exact ⟨(h % t).toNat, by omega, rfl, t, h % t, rfl, rfl, t0, e0, (gcd_turn h0 tp).trans eg⟩

theorem ok_l_drift {P : Program} {w : World} {K : PySem.W.Frag} {mg : Str → Option Value} {base : Heap} {a : Nat → Addr} {d : Nat → FuncData} (T : Txt K mg a d) : FnOk P w K mg base CX0 2 (a 8) (d 8) ["_law_state"] spDrift := by
  refine T.F_l_drift.ok sc_l_drift (fun vs H Q E h => ?_) (fun cdv A outer s0 H vs Q E hr h => ?_)
  · obtain ⟨s, rfl, hs, q⟩ := h
    rfl
  · obtain ⟨s, rfl, hs, q⟩ := h
    refine ⟨_, (pss_cons (ps_set (i := 1) sc_l_drift.nd rfl (Or.inl rfl) (pe_op op_add pe_int (pe_call (ok_l_take T) (hr.mono (by decide)) (by rfl) T.g_l_take T.F_l_take.kp T.b_l_take .nil pass0 (pa_cons (pv 0) (pa_cons (pe_ix ix_list (pe_lst (pa_cons pe_int (pa_cons pe_int (pa_cons pe_int pa_nil)))) (pe_call (ok_l_take T) (hr.mono (by decide)) (by rfl) T.g_l_take T.F_l_take.kp T.b_l_take .nil pass0 (pa_cons (pv 0) (pa_cons pe_int pa_nil))) (fun _ _ => rfl)) pa_nil))))) (pss_cons (ps_set (i := 2) sc_l_drift.nd rfl (Or.inl rfl) (pe_lst (pa_cons (pe_tup (pa_cons pe_int (pa_cons pe_int pa_nil))) (pa_cons (pe_tup (pa_cons pe_int (pa_cons pe_int pa_nil))) (pa_cons (pe_tup (pa_cons pe_int (pa_cons pe_int pa_nil))) (pa_cons (pe_tup (pa_cons pe_int (pa_cons pe_int pa_nil))) (pa_cons (pe_call (ok_l_low T) (hr.mono (by decide)) (by rfl) T.g_l_low T.F_l_low.kp T.b_l_low .nil pass0 (pa_cons (pe_call (ok_l_take T) (hr.mono (by decide)) (by rfl) T.g_l_take T.F_l_take.kp T.b_l_take .nil pass0 (pa_cons (pv 0) (pa_cons (pv 1) pa_nil))) (pa_cons (pv 1) pa_nil))) pa_nil))))))) (pss_one (ps_ret (pe_ix ix_list (pv 2) (pe_call (ok_l_take T) (hr.mono (by decide)) (by rfl) T.g_l_take T.F_l_take.kp T.b_l_take .nil pass0 (pa_cons (pv 0) (pa_cons pe_int pa_nil))) (fun _ _ => rfl)))))), ?_⟩
    refine ⟨_, rfl, len3, fun p1 n1 => ?_⟩
    refine ⟨_, rfl, s, 3, rfl, hs.new n1, (by decide), (by decide), fun r1 H1 r10 r11 K1 => ?_⟩
    have g1 : H1 p1 = some (.lst [.int 9, .int 100, .int 999]) := K1.1 _ _ (hs.ne_new n1) upd_same
    obtain ⟨z, hz, z0, z1⟩ : ∃ z : Int, atI [V.int 9, V.int 100, V.int 999] r1 = some (V.int z) ∧ 0 < z ∧ z ≤ 999 := by
      have : r1 = 0 ∨ r1 = 1 ∨ r1 = 2 := by omega
      rcases this with rfl | rfl | rfl
      · exact ⟨9, rfl, by decide, by decide⟩
      · exact ⟨100, rfl, by decide, by decide⟩
      · exact ⟨999, rfl, by decide, by decide⟩
    have k1 : Kp s H H1 := (hs.kp.new n1).trans K1
    refine ⟨p1, _, r1, _, rfl, rfl, SqL.of g1, hz, ?_⟩
    refine ⟨s, z, rfl, K1.2, z0, by omega, fun r2 H2 r20 r21 K2 => ?_⟩
    refine ⟨2, r2, rfl, rfl, ?_⟩
    have k2 := k1.trans K2
    -- the five drifts
    refine ⟨len2, fun q1 m1 => ?_⟩
    have k3 := k2.new (o := .tup [.int 1, .int 100]) m1
    refine ⟨len2, fun q2 m2 => ?_⟩
    have k4 := k3.new (o := .tup [.int 0, .int 1]) m2
    refine ⟨len2, fun q3 m3 => ?_⟩
    have k5 := k4.new (o := .tup [.int 1, .int 2]) m3
    refine ⟨len2, fun q4 m4 => ?_⟩
    have k6 := k5.new (o := .tup [.int 999, .int 1000]) m4
    refine ⟨_, rfl, _, rfl, s, _, rfl, k6.2, (by omega), (by omega), fun r3 H3 r30 r31 K3 => ?_⟩
    have k7 := k6.trans K3
    refine ⟨_, rfl, r3, 2 + r2, rfl, r30, by omega, p2000 (by omega), fun g x y q5 hg ex ey _ m5 => ?_⟩
    have k8 := k7.new (o := .tup [.int x, .int y]) m5
    refine ⟨(by decide : 5 ≤ sizeLine), fun pl nl => ?_⟩
    have k9 := k8.new (o := .lst [.ref q1, .ref q2, .ref q3, .ref q4, .ref q5]) nl
    refine ⟨_, rfl, _, rfl, s, 5, rfl, k9.2, (by decide), (by decide), fun r4 H4 r40 r41 K4 => ?_⟩
    have k10 := k9.trans K4
    have gl : H4 pl = some (.lst [.ref q1, .ref q2, .ref q3, .ref q4, .ref q5]) := K4.1 _ _ (k8.2.ne_new nl) upd_same
    have t1 : ∀ {xs : List V} {c : Addr}, upd (upd (upd H2 q1 (.tup [.int 1, .int 100])) q2 (.tup [.int 0, .int 1])) q3 (.tup [.int 1, .int 2]) c = some (.tup xs) → H4 c = some (.tup xs) := fun {xs c} e =>
      (((k5.2.kp.new m4).trans K3).new m5 |>.new nl |>.trans K4).tup k5.2 e
    have h1 : H4 q1 = some (.tup [.int 1, .int 100]) := t1 (((k3.2.kp.new m2).new m3).tup k3.2 upd_same)
    have h2 : H4 q2 = some (.tup [.int 0, .int 1]) := t1 ((k4.2.kp.new m3).tup k4.2 upd_same)
    have h3 : H4 q3 = some (.tup [.int 1, .int 2]) := t1 upd_same
    have h4 : H4 q4 = some (.tup [.int 999, .int 1000]) := ((K3.new m5).new nl |>.trans K4).tup k6.2 upd_same
    have h5 : H4 q5 = some (.tup [.int x, .int y]) := ((k8.2.kp.new nl).trans K4).tup k8.2 upd_same
    have x0 := nn_of_mul hg r30 ex
    have y0 := pos_of_mul hg (show 0 < 2 + r2 by omega) ey
    have y1 := le_of_gmul hg (Int.le_of_lt y0) ey
    have xy : x < y := lt_cancel hg (by omega)
    have hcase : r4 = 0 ∨ r4 = 1 ∨ r4 = 2 ∨ r4 = 3 ∨ r4 = 4 := by omega
    rcases hcase with rfl | rfl | rfl | rfl | rfl
    · exact ⟨pl, _, 0, _, rfl, rfl, SqL.of gl, rfl, q 1 100 q1 H4 k10 ⟨h1, by decide, by decide, by decide⟩⟩
    · exact ⟨pl, _, 1, _, rfl, rfl, SqL.of gl, rfl, q 0 1 q2 H4 k10 ⟨h2, by decide, by decide, by decide⟩⟩
    · exact ⟨pl, _, 2, _, rfl, rfl, SqL.of gl, rfl, q 1 2 q3 H4 k10 ⟨h3, by decide, by decide, by decide⟩⟩
    · exact ⟨pl, _, 3, _, rfl, rfl, SqL.of gl, rfl, q 999 1000 q4 H4 k10 ⟨h4, by decide, by decide, by decide⟩⟩
    · exact ⟨pl, _, 4, _, rfl, rfl, SqL.of gl, rfl, q x y q5 H4 k10 ⟨h5, x0, xy, by omega⟩⟩

def tSuite (K : PySem.W.Frag) : Addr → Value → Option Addr → TS := fun _ _ _ => tDrop (tBM K "list" rAppend (tVar 2) (tCons (tVar 3) tNil))
def tTry (K : PySem.W.Frag) (C : Addr) : TS := fun D σ H =>
  tIfS (tTest (tOp rEq (tVar 3) (tC (.int 0)))) (tDrop (tCallS (spPassX C) (WE (wOnly K (.ref C) (tSuite K) (fun _ _ _ _ => False) D)) (tCons (tVar 0) (tCons (tVar 1) tNil))))
    (tDrop (tCallS (spPassX C) (WE (wOnly K (.ref C) (tSuite K) (fun _ _ _ _ => False) D)) (tCons (tVar 0) (tCons (tVar 1) tNil)))) D σ H
theorem ok_l_refused {P : Program} {w : World} {K : PySem.W.Frag} {mg : Str → Option Value} {base : Heap} {a : Nat → Addr} {d : Nat → FuncData} (T : Txt K mg a d) : FnOk P w K mg base CX0 6 (a 10) (d 10) ["_law_odd", "_law_way"] spRefused := by
  refine T.F_l_refused.ok sc_l_refused (fun vs H Q E h => ?_) (fun cdv A outer s0 H vs Q E hr h => ?_)
  · obtain ⟨v, p, rfl, _⟩ := h
    rfl
  · obtain ⟨v, p, rfl, ho, q⟩ := h
    have hr1 : Room 4 _ := hr.mono (by decide)
    refine ⟨_, pss_cons (ps_set (i := 2) sc_l_refused.nd rfl (Or.inl rfl) (pe_lst pa_nil))
      (pss_cons (ps_for PassesOwn.never rfl (pi_range1 (by rfl) T.z_range (pa_cons pe_int pa_nil)) (pg_name (i := 3) sc_l_refused.nd rfl (.inl rfl))
        (pss_one (ps_try_only (ts := tSuite K) (Wout := fun _ _ _ _ => False) rfl rfl ⟨rfl, by decide, .inl T.gN⟩ takes0
          (fun W pn xe tk _ => by exact (pss_one (ps_if (pt_cmpR op_eq (pv 3) pe_int (nomark _))
            (pss_one (ps_expr (pe_callS (E := WE W) (ok_odd_least T) hr1 (by rfl) T.g_least_passed T.F_least_passed.kp T.b_least_passed (fun σ => passAt tk σ) (pa_cons (pv 0) (pa_cons (pv 1) pa_nil)))))
            (pss_one (ps_expr (pe_callS (E := WE W) (ok_odd_most T) hr1 (by rfl) T.g_most_passed T.F_most_passed.kp T.b_most_passed (fun σ => passAt tk σ) (pa_cons (pv 0) (pa_cons (pv 1) pa_nil))))))))
          (fun a oe cls d pn _ _ => by exact (pss_one (ps_expr (pe_bm PySem.F.plainAttrs_list PySem.F.slot_list_append PySem.F.type_list_append mt_append (pv 2) (pa_cons (pv 3) pa_nil))))))))
      (pss_one (ps_ret (pe_cmpR (op_eqD hr.units) (pv 2) (pe_lst (pa_cons pe_int (pa_cons pe_int pa_nil))) (nomark _))))), ?_⟩
    refine ⟨Nat.zero_le _, fun f nf => ?_⟩
    refine ⟨2, rfl, by decide, by decide, ?_⟩
    refine for_range (n := 2) (tb := tTry K (a 50)) (fun i σ H' => ∃ t : Option V, σ = [some v, some p, some (.ref f), t] ∧ Same H H' ∧ H' f = some (.lst ((List.range i).map fun j => V.int (j : Nat)))) ?_ ?_ ?_
    · exact ⟨none, rfl, same_new (Same.refl H) nf, (upd_same : upd H f (.lst []) f = some (.lst []))⟩
    · rintro i σ H1 hi ⟨t, rfl, s1, hf⟩
      have hsz : ((List.range i).map fun j => V.int ((j : Nat) : Int)).length < sizeLine := by
        rw [List.length_map, List.length_range]
        exact Nat.lt_trans hi (by decide)
      have fin : ∀ (dx : Addr) (H' : Hp), Same H1 H' → ∃ b, PySem.W.exmOne K (.ref (a 50)) (.ref (a 50)) = some b ∧ (b = true → ∀ z, H' z = none → ∃ t : Option V, [some v, some p, some (.ref f), some (.int (0 + (i : Int)))] = [some v, some p, some (.ref f), t] ∧ Same H (upd H' f (.lst (((List.range i).map fun j => V.int ((j : Nat) : Int)) ++ [.int (0 + (i : Int))]))) ∧ upd H' f (.lst (((List.range i).map fun j => V.int ((j : Nat) : Int)) ++ [.int (0 + (i : Int))])) f = some (.lst ((List.range (i + 1)).map fun j => V.int ((j : Nat) : Int)))) ∧ (b = false → False) := fun dx H' s2 =>
        ⟨true, T.eP, fun _ z _ => ⟨_, rfl, fun u o e => by
          rw [upd_ne (ne_of_none e nf)]
          exact s2 _ _ (s1 _ _ e), by
          rw [upd_same, List.range_succ, List.map_append, Int.zero_add]
          rfl⟩, fun z => by cases z⟩
      refine ⟨_, rfl, rfl, _, rfl, ite2 (fun _ => ?_) (fun _ => ?_)⟩
      · refine ⟨_, rfl, _, rfl, v, p, rfl, ho.same s1, fun dx H' s2 => ?_⟩
        obtain ⟨b, e1, e2, e3⟩ := fin dx H' s2
        exact ⟨b, e1, fun eb z nz => ⟨_, rfl, .inl ⟨rfl, _, SqL.of (s2 _ _ hf)⟩, _, rfl, f, _, _, rfl, rfl, s2 _ _ hf, hsz, e2 eb z nz⟩, fun z => (e3 z).elim⟩
      · refine ⟨_, rfl, _, rfl, v, p, rfl, ho.same s1, fun dx H' s2 => ?_⟩
        obtain ⟨b, e1, e2, e3⟩ := fin dx H' s2
        exact ⟨b, e1, fun eb z nz => ⟨_, rfl, .inl ⟨rfl, _, SqL.of (s2 _ _ hf)⟩, _, rfl, f, _, _, rfl, rfl, s2 _ _ hf, hsz, e2 eb z nz⟩, fun z => (e3 z).elim⟩
    · rintro σ H1 ⟨t, rfl, s1, hf⟩
      refine ⟨_, rfl, len2, fun pl npl => ?_⟩
      have hf2 : upd H1 pl (.lst [.int 0, .int 1]) f = some (.lst [.int 0, .int 1]) := by
        rw [upd_ne (ne_of_none hf npl)]
        exact hf
      refine ⟨.list [.int 0, .int 1], .list [.int 0, .int 1], .lst (SqL.of hf2) (.cons (.int _) (.cons (.int _) .nil)), .lst (SqL.of upd_same) (.cons (.int _) (.cons (.int _) .nil)), by decide +kernel, by decide +kernel, ?_⟩
      exact q _ (same_new s1 npl)

theorem ok_law {P : Program} {w : World} {K : PySem.W.Frag} {mg : Str → Option Value} {base : Heap} {a : Nat → Addr} {d : Nat → FuncData} (T : Txt K mg a d) : FnOk P w K mg base CX0 7 (a 11) (d 11) ["_law_script"] (spLaw K) := by
  refine T.F_law.ok sc_law (fun vs H Q E h => ?_) (fun cdv A outer s0 H vs Q E hr h => ?_)
  · obtain ⟨l, ns, rfl, hS, hl, q⟩ := h
    rfl
  · obtain ⟨l, ns, rfl, hS, hl, q⟩ := h
    refine ⟨_, (pss_cons (ps_for PassesOwn.never rfl (pi_range1 (by rfl) T.z_range (pa_cons (pe_callB (call_max2 rfl) (by rfl) T.z_max (by decide +kernel) (pa_cons pe_int (pa_cons (pe_callB (call_min2 rfl) (by rfl) T.z_min (by decide +kernel) (pa_cons pe_int (pa_cons (pe_callB call_len_seq (by rfl) T.z_len PySem.boot_len (pa_cons (pv 0) pa_nil)) pa_nil))) pa_nil))) pa_nil)) (pg_name (i := 1) sc_law.nd rfl (.inl rfl)) (pss_cons (ps_set (i := 2) sc_law.nd rfl (Or.inl rfl) (pe_call (ok_l_begun T) (hr.mono (by decide)) (by rfl) T.g_l_begun T.F_l_begun.kp T.b_l_begun .nil pass0 (pa_cons (pv 0) (pa_cons (pv 1) pa_nil)))) (pss_cons (ps_set (i := 3) sc_law.nd rfl (Or.inl rfl) (pe_call (ok_l_drift T) (hr.mono (by decide)) (by rfl) T.g_l_drift T.F_l_drift.kp T.b_l_drift .nil pass0 (pa_cons (pv 2) pa_nil))) (pss_cons (ps_set (i := 4) sc_law.nd rfl (Or.inl rfl) (pe_ix ix_list (pe_lst (pa_cons pe_int (pa_cons pe_int (pa_cons (pe_call (ok_l_take T) (hr.mono (by decide)) (by rfl) T.g_l_take T.F_l_take.kp T.b_l_take .nil pass0 (pa_cons (pv 2) (pa_cons pe_int pa_nil))) (pa_cons (pe_call (ok_l_take T) (hr.mono (by decide)) (by rfl) T.g_l_take T.F_l_take.kp T.b_l_take .nil pass0 (pa_cons (pv 2) (pa_cons (pe_op op_pow pe_int pe_int) pa_nil))) (pa_cons (pe_call (ok_l_take T) (hr.mono (by decide)) (by rfl) T.g_l_take T.F_l_take.kp T.b_l_take .nil pass0 (pa_cons (pv 2) (pa_cons (pe_op op_pow pe_int pe_int) pa_nil))) pa_nil)))))) (pe_call (ok_l_take T) (hr.mono (by decide)) (by rfl) T.g_l_take T.F_l_take.kp T.b_l_take .nil pass0 (pa_cons (pv 2) (pa_cons pe_int pa_nil))) (fun _ _ => rfl))) (pss_cons (ps_set (i := 5) sc_law.nd rfl (Or.inl rfl) (pe_call (ok_least_passed T) (hr.mono (by decide)) (by rfl) T.g_least_passed T.F_least_passed.kp T.b_least_passed .nil pass0 (pa_cons (pv 4) (pa_cons (pv 3) pa_nil)))) (pss_cons (ps_set (i := 6) sc_law.nd rfl (Or.inl rfl) (pe_call (ok_most_passed T) (hr.mono (by decide)) (by rfl) T.g_most_passed T.F_most_passed.kp T.b_most_passed .nil pass0 (pa_cons (pv 4) (pa_cons (pv 3) pa_nil)))) (pss_cons (ps_if (PW.pt (pw_or (pt_not (pt_truth (pe_call (ok_l_is_whole T) (hr.mono (by decide)) (by rfl) T.g_l_is_whole T.F_l_is_whole.kp T.b_l_is_whole .nil pass0 (pa_cons (pv 5) pa_nil)) (by intro _; rfl))) (pw_or (pt_not (pt_truth (pe_call (ok_l_is_whole T) (hr.mono (by decide)) (by rfl) T.g_l_is_whole T.F_l_is_whole.kp T.b_l_is_whole .nil pass0 (pa_cons (pv 6) pa_nil)) (by intro _; rfl))) (pw_or1 (pt_not (pt_chain op_le op_le pe_int (pv 5) (pv 6))))))) (pss_one (ps_ret pe_bl)) pss_nil) (pss_cons (ps_if (PW.pt (pw_or (pt_cmpR op_ne (pe_callK0 (ok_least_passed T) (hr.mono (by decide)) (by rfl) T.g_least_passed T.F_least_passed.kp (kb_swap T.F_least_passed fun _ _ _ _ _ _ _ _ => rfl) pass0 (pk_cons (pv 3) (pk_cons (pv 4) pk_nil))) (pv 5) (nomark _)) (pw_or1 (pt_cmpR op_ne (pe_callK0 (ok_most_passed T) (hr.mono (by decide)) (by rfl) T.g_most_passed T.F_most_passed.kp (kb_swap T.F_most_passed fun _ _ _ _ _ _ _ _ => rfl) pass0 (pk_cons (pv 3) (pk_cons (pv 4) pk_nil))) (pv 6) (nomark _))))) (pss_one (ps_ret pe_bl)) pss_nil) (pss_cons (ps_set (i := 7) sc_law.nd rfl (Or.inl rfl) (pe_op op_add (pe_ix ix_tup (pv 3) pe_int (fun _ _ => rfl)) (pe_ix ix_tup (pv 3) pe_int (fun _ _ => rfl)))) (pss_cons (ps_set (i := 8) sc_law.nd rfl (Or.inl rfl) (pe_op op_sub (pe_ix ix_tup (pv 3) pe_int (fun _ _ => rfl)) (pe_ix ix_tup (pv 3) pe_int (fun _ _ => rfl)))) (pss_cons (ps_if (PW.pt (pw_or (pt_cmpR op_lt (pe_op op_mul (pv 5) (pv 7)) (pe_op op_mul (pv 4) (pe_ix ix_tup (pv 3) pe_int (fun _ _ => rfl))) (nomark _)) (pw_or1 (PW.pt (pw_and (pt_cmpR op_gt (pv 5) pe_int (nomark _)) (pw_and1 (pt_cmpR op_ge (pe_op op_mul (pe_op op_sub (pv 5) pe_int) (pv 7)) (pe_op op_mul (pv 4) (pe_ix ix_tup (pv 3) pe_int (fun _ _ => rfl))) (nomark _)))))))) (pss_one (ps_ret pe_bl)) pss_nil) (pss_cons (ps_if (PW.pt (pw_or (pt_cmpR op_ge (pe_op op_mul (pv 6) (pv 8)) (pe_op op_mul (pe_op op_add (pv 4) pe_int) (pe_ix ix_tup (pv 3) pe_int (fun _ _ => rfl))) (nomark _)) (pw_or1 (pt_cmpR op_lt (pe_op op_mul (pe_op op_add (pv 6) pe_int) (pv 8)) (pe_op op_mul (pe_op op_add (pv 4) pe_int) (pe_ix ix_tup (pv 3) pe_int (fun _ _ => rfl))) (nomark _))))) (pss_one (ps_ret pe_bl)) pss_nil) (pss_cons (ps_if (pt_not (pt_truth (pe_call (ok_l_refused T) (hr.mono (by decide)) (by rfl) T.g_l_refused T.F_l_refused.kp T.b_l_refused .nil pass0 (pa_cons (pe_ix ix_list (pe_lst (pa_cons (pe_un un_neg pe_int) (pa_cons pe_non (pa_cons pe_bl (pa_cons pe_str (pa_cons (pe_lst (pa_cons pe_int pa_nil)) (pa_cons (pe_tup (pa_cons pe_int pa_nil)) (pa_cons pe_dnewK pa_nil)))))))) (pe_call (ok_l_take T) (hr.mono (by decide)) (by rfl) T.g_l_take T.F_l_take.kp T.b_l_take .nil pass0 (pa_cons (pv 2) (pa_cons pe_int pa_nil))) (fun _ _ => rfl)) (pa_cons (pv 3) pa_nil))) (by intro _; rfl))) (pss_one (ps_ret pe_bl)) pss_nil) (pss_one (ps_if (PW.pt (pw_or (pt_cmpR op_lt (pe_call (ok_least_passed T) (hr.mono (by decide)) (by rfl) T.g_least_passed T.F_least_passed.kp T.b_least_passed .nil pass0 (pa_cons (pe_op op_add (pv 4) pe_int) (pa_cons (pv 3) pa_nil))) (pv 5) (nomark _)) (pw_or1 (pt_cmpR op_le (pe_call (ok_most_passed T) (hr.mono (by decide)) (by rfl) T.g_most_passed T.F_most_passed.kp T.b_most_passed .nil pass0 (pa_cons (pe_op op_add (pv 4) pe_int) (pa_cons (pv 3) pa_nil))) (pv 6) (nomark _))))) (pss_one (ps_ret pe_bl)) pss_nil))))))))))))))) (pss_one (ps_ret pe_bl))), ?_⟩
    refine ⟨_, rfl, l, _, rfl, .inl hS, 60, _, rfl, 1, _, rfl, _, rfl, ?_, ?_, ?_⟩
    · rw [List.length_map]; (repeat' split) <;> omega
    · rw [List.length_map]; (repeat' split) <;> omega
    have hN : (if (if ((ns.map V.int).length : Int) < 60 then ((ns.map V.int).length : Int) else 60) > 1 then (if ((ns.map V.int).length : Int) < 60 then ((ns.map V.int).length : Int) else 60) else (1 : Int)).toNat ≤ 63 := by
      rw [List.length_map]; (repeat' split) <;> omega
    refine for_range (fun i σ H' => Same H H' ∧ ∃ v1 v2 v3 v4 v5 v6 v7 v8 : Option V, σ = [some (.ref l), v1, v2, v3, v4, v5, v6, v7, v8]) ⟨Same.refl H, none, none, none, none, none, none, none, none, rfl⟩ ?_ ?_
    · rintro i σ H1 hi ⟨s1, v1, v2, v3, v4, v5, v6, v7, v8, rfl⟩
      refine ⟨_, rfl, _, rfl, l, ns, _, rfl, s1.seq hS, hl, by omega, by omega, fun s H2 ns0 s2 hs2 => ?_⟩
      have sH2 : Same H H2 := s1.trans s2
      have ns1 : H s = none := s1.free ns0
      refine ⟨_, rfl, s, rfl, hs2, fun t b dr H3 K3 hd3 => ?_⟩
      obtain ⟨hdt, t0, tb, b1⟩ := id hd3
      -- count
      refine ⟨_, rfl, s, 40, rfl, K3.2, (by decide), (by decide), fun a1 H4 a10 a11 K4 => ?_⟩
      refine ⟨_, rfl, 10, 6, rfl, rfl, ⟨by decide, by decide, by decide⟩, s, _, rfl, K4.2, (by decide), (by decide), fun a2 H5 a20 a21 K5 => ?_⟩
      refine ⟨_, rfl, 10, 29, rfl, rfl, ⟨by decide, by decide, by decide⟩, s, _, rfl, K5.2, (by decide), (by decide), fun a3 H6 a30 a31 K6 => ?_⟩
      refine ⟨(by decide : 5 ≤ sizeLine), fun pc npc => ?_⟩
      have K7 := ((K4.trans K5).trans K6).new (o := .lst [.int 0, .int 1, .int a1, .int a2, .int a3]) npc
      refine ⟨_, rfl, s, 5, rfl, K7.2, (by decide), (by decide), fun a4 H7 a40 a41 K8 => ?_⟩
      have gc : H7 pc = some (.lst [.int 0, .int 1, .int a1, .int a2, .int a3]) := K8.1 _ _ (K6.2.ne_new npc) upd_same
      obtain ⟨n, hn, n0⟩ : ∃ z : Int, atI [V.int 0, V.int 1, V.int a1, V.int a2, V.int a3] a4 = some (V.int z) ∧ 0 ≤ z := by
        have : a4 = 0 ∨ a4 = 1 ∨ a4 = 2 ∨ a4 = 3 ∨ a4 = 4 := by omega
        rcases this with rfl | rfl | rfl | rfl | rfl
        · exact ⟨0, rfl, by decide⟩
        · exact ⟨1, rfl, by decide⟩
        · exact ⟨a1, rfl, by omega⟩
        · exact ⟨a2, rfl, by omega⟩
        · exact ⟨a3, rfl, by omega⟩
      refine ⟨pc, _, a4, _, rfl, rfl, SqL.of gc, hn, ?_⟩
      have K9 := K7.trans K8
      have hd : DrAt H7 dr t b := ⟨K9.tup K3.2 hdt, t0, tb, b1⟩
      have hw := SqT.of (K := K) hd.1
      have l0 := least_nn (n := n) t0 tb n0
      have lm : leastP n t b ≤ mostP n t b := Int.le_trans (least_le_n t0 tb n0) (most_nn t0 tb n0)
      have q1 := least_ge (n := n) t0 tb
      have q2 := least_fits (n := n) t0 tb
      have q3 := most_lt (n := n) t0 tb
      have q4 := most_fits (n := n) t0 tb
      have q5 := least_mono t0 tb (show n ≤ n + 1 by omega)
      have q6 := most_more (n := n) t0 tb
      generalize hL : leastP n t b = Ls at *
      generalize hM : mostP n t b = Ms at *
      refine ⟨_, rfl, _, rfl, n, t, b, dr, rfl, n0, hd, ?_⟩
      rw [hL]
      refine ⟨_, rfl, _, rfl, n, t, b, dr, rfl, n0, hd, ?_⟩
      rw [hM]
      refine ⟨_, rfl, Ls, rfl, true, rfl, iteF ⟨_, rfl, Ms, rfl, true, rfl, iteF ?_⟩⟩
      refine ⟨_, rfl, 0, Ls, rfl, rfl, _, rfl, iteDT l0 ⟨_, rfl, Ls, Ms, rfl, rfl, _, rfl, iteNS lm ?_⟩⟩
      -- by names
      refine ⟨_, rfl, _, rfl, n, t, b, dr, rfl, n0, hd, ?_⟩
      rw [hL]
      refine ⟨_, rfl, rfl, _, rfl, iteNS rfl ?_⟩
      refine ⟨_, rfl, _, rfl, n, t, b, dr, rfl, n0, hd, ?_⟩
      rw [hM]
      refine ⟨_, rfl, rfl, _, rfl, iteNS rfl ?_⟩
      refine ⟨_, rfl, dr, _, 1, _, rfl, rfl, hw, rfl, _, rfl, dr, _, 0, _, rfl, rfl, hw, rfl, b, t, rfl, rfl, ?_⟩
      refine ⟨_, rfl, dr, _, 1, _, rfl, rfl, hw, rfl, _, rfl, dr, _, 0, _, rfl, rfl, hw, rfl, b, t, rfl, rfl, ?_⟩
      -- least
      refine ⟨_, rfl, _, rfl, Ls, b + t, rfl, rfl, .inr (m64 (by omega) (by omega)), _, rfl, _, rfl, dr, _, 1, _, rfl, rfl, hw, rfl, n, b, rfl, rfl, .inr (m64 (by omega) (by omega)), _, _, rfl, rfl, _, rfl, iteDF (by omega) ?_⟩
      refine ⟨_, rfl, Ls, 0, rfl, rfl, _, rfl, ?_⟩
      refine ite2 (fun _ => ?_) (fun _ => iteF ?_)
      · refine ⟨_, rfl, Ls, 1, rfl, rfl, _, rfl, Ls - 1, b + t, rfl, rfl, .inr (m64 (by omega) (by omega)), _, rfl, _, rfl, dr, _, 1, _, rfl, rfl, hw, rfl, n, b, rfl, rfl, .inr (m64 (by omega) (by omega)), _, _, rfl, rfl, _, rfl, iteDF q2 ?_⟩
        exact (by
      -- most
      refine ⟨_, rfl, _, rfl, Ms, b - t, rfl, rfl, .inr (m64 (by omega) (by omega)), _, rfl, n, 1, rfl, rfl, _, rfl, dr, _, 1, _, rfl, rfl, hw, rfl, n + 1, b, rfl, rfl, .inr (m64 (by omega) (by omega)), _, _, rfl, rfl, _, rfl, iteDF (by omega) ?_⟩
      refine ⟨_, rfl, Ms, 1, rfl, rfl, _, rfl, Ms + 1, b - t, rfl, rfl, .inr (m64 (by omega) (by omega)), _, rfl, n, 1, rfl, rfl, _, rfl, dr, _, 1, _, rfl, rfl, hw, rfl, n + 1, b, rfl, rfl, .inr (m64 (by omega) (by omega)), _, _, rfl, rfl, _, rfl, iteDF (by omega) ?_⟩
      -- what is no count
      refine ⟨1, rfl, len1, fun p1 m1 => ⟨len1, fun p2 m2 => ?_⟩⟩
      intro p3 m3
      have k1 := (K9.2.kp.new (o := .lst [.int 1]) m1).new (o := .tup [.int 2]) m2 |>.new (o := .dK []) m3
      refine ⟨(by decide : 7 ≤ sizeLine), fun p4 m4 => ?_⟩
      have k2 := k1.new (o := .lst [.int (-1), .non, .bl true, .str "1", .ref p1, .ref p2, .ref p3]) m4
      refine ⟨_, rfl, s, 7, rfl, k2.2, (by decide), (by decide), fun r5 H8 r50 r51 K10 => ?_⟩
      have k3 := k2.trans K10
      have g4 : H8 p4 = some (.lst [.int (-1), .non, .bl true, .str "1", .ref p1, .ref p2, .ref p3]) := K10.1 _ _ (k1.2.ne_new m4) upd_same
      have g1 : H8 p1 = some (.lst [.int 1]) := ((((K9.2.kp.new m1).2.kp.new m2).new m3).new m4 |>.trans K10).1 _ _ (K9.2.ne_new m1) upd_same
      have g2 : H8 p2 = some (.tup [.int 2]) := ((((K9.2.kp.new m1).new m2).2.kp.new m3).new m4 |>.trans K10).1 _ _ ((K9.2.kp.new m1).2.ne_new m2) upd_same
      have g3 : H8 p3 = some (.dK []) := ((k1.2.kp.new m4).trans K10).1 _ _ (((K9.2.kp.new m1).new m2).2.ne_new m3) upd_same
      obtain ⟨ov, hv, ho⟩ : ∃ v : V, atI [V.int (-1), V.non, V.bl true, V.str "1", V.ref p1, V.ref p2, V.ref p3] r5 = some v ∧ Odd H8 v := by
        have : r5 = 0 ∨ r5 = 1 ∨ r5 = 2 ∨ r5 = 3 ∨ r5 = 4 ∨ r5 = 5 ∨ r5 = 6 := by omega
        rcases this with rfl | rfl | rfl | rfl | rfl | rfl | rfl
        · exact ⟨_, rfl, .inl rfl⟩
        · exact ⟨_, rfl, .inr (.inl rfl)⟩
        · exact ⟨_, rfl, .inr (.inr (.inl rfl))⟩
        · exact ⟨_, rfl, .inr (.inr (.inr (.inl ⟨_, rfl⟩)))⟩
        · exact ⟨_, rfl, .inr (.inr (.inr (.inr (.inl ⟨p1, _, rfl, g1⟩))))⟩
        · exact ⟨_, rfl, .inr (.inr (.inr (.inr (.inr (.inl ⟨p2, _, rfl, g2⟩)))))⟩
        · exact ⟨_, rfl, .inr (.inr (.inr (.inr (.inr (.inr ⟨p3, rfl, g3⟩)))))⟩
      refine ⟨p4, _, r5, _, rfl, rfl, SqL.of g4, hv, _, rfl, ov, _, rfl, ho, fun H9 s9 => ⟨true, rfl, iteF ?_⟩⟩
      have hd9 : DrAt H9 dr t b := ⟨s9 _ _ (k3.tup K9.2 hd.1), t0, tb, b1⟩
      refine ⟨_, rfl, n, 1, rfl, rfl, _, rfl, n + 1, t, b, dr, rfl, by omega, hd9, _, rfl, _, _, rfl, rfl, _, rfl, iteDF (by omega) ?_⟩
      refine ⟨_, rfl, n, 1, rfl, rfl, _, rfl, n + 1, t, b, dr, rfl, by omega, hd9, _, rfl, _, _, rfl, rfl, _, rfl, iteDF (by omega) ?_⟩
      exact ⟨fun u o e => s9 _ _ (Kp.same (Kp.same sH2 ns1 (K3.trans K9)) ns1 k3 u o e), _, _, _, _, _, _, _, _, rfl⟩)
      · exact (by
      -- most
      refine ⟨_, rfl, _, rfl, Ms, b - t, rfl, rfl, .inr (m64 (by omega) (by omega)), _, rfl, n, 1, rfl, rfl, _, rfl, dr, _, 1, _, rfl, rfl, hw, rfl, n + 1, b, rfl, rfl, .inr (m64 (by omega) (by omega)), _, _, rfl, rfl, _, rfl, iteDF (by omega) ?_⟩
      refine ⟨_, rfl, Ms, 1, rfl, rfl, _, rfl, Ms + 1, b - t, rfl, rfl, .inr (m64 (by omega) (by omega)), _, rfl, n, 1, rfl, rfl, _, rfl, dr, _, 1, _, rfl, rfl, hw, rfl, n + 1, b, rfl, rfl, .inr (m64 (by omega) (by omega)), _, _, rfl, rfl, _, rfl, iteDF (by omega) ?_⟩
      -- what is no count
      refine ⟨1, rfl, len1, fun p1 m1 => ⟨len1, fun p2 m2 => ?_⟩⟩
      intro p3 m3
      have k1 := (K9.2.kp.new (o := .lst [.int 1]) m1).new (o := .tup [.int 2]) m2 |>.new (o := .dK []) m3
      refine ⟨(by decide : 7 ≤ sizeLine), fun p4 m4 => ?_⟩
      have k2 := k1.new (o := .lst [.int (-1), .non, .bl true, .str "1", .ref p1, .ref p2, .ref p3]) m4
      refine ⟨_, rfl, s, 7, rfl, k2.2, (by decide), (by decide), fun r5 H8 r50 r51 K10 => ?_⟩
      have k3 := k2.trans K10
      have g4 : H8 p4 = some (.lst [.int (-1), .non, .bl true, .str "1", .ref p1, .ref p2, .ref p3]) := K10.1 _ _ (k1.2.ne_new m4) upd_same
      have g1 : H8 p1 = some (.lst [.int 1]) := ((((K9.2.kp.new m1).2.kp.new m2).new m3).new m4 |>.trans K10).1 _ _ (K9.2.ne_new m1) upd_same
      have g2 : H8 p2 = some (.tup [.int 2]) := ((((K9.2.kp.new m1).new m2).2.kp.new m3).new m4 |>.trans K10).1 _ _ ((K9.2.kp.new m1).2.ne_new m2) upd_same
      have g3 : H8 p3 = some (.dK []) := ((k1.2.kp.new m4).trans K10).1 _ _ (((K9.2.kp.new m1).new m2).2.ne_new m3) upd_same
      obtain ⟨ov, hv, ho⟩ : ∃ v : V, atI [V.int (-1), V.non, V.bl true, V.str "1", V.ref p1, V.ref p2, V.ref p3] r5 = some v ∧ Odd H8 v := by
        have : r5 = 0 ∨ r5 = 1 ∨ r5 = 2 ∨ r5 = 3 ∨ r5 = 4 ∨ r5 = 5 ∨ r5 = 6 := by omega
        rcases this with rfl | rfl | rfl | rfl | rfl | rfl | rfl
        · exact ⟨_, rfl, .inl rfl⟩
        · exact ⟨_, rfl, .inr (.inl rfl)⟩
        · exact ⟨_, rfl, .inr (.inr (.inl rfl))⟩
        · exact ⟨_, rfl, .inr (.inr (.inr (.inl ⟨_, rfl⟩)))⟩
        · exact ⟨_, rfl, .inr (.inr (.inr (.inr (.inl ⟨p1, _, rfl, g1⟩))))⟩
        · exact ⟨_, rfl, .inr (.inr (.inr (.inr (.inr (.inl ⟨p2, _, rfl, g2⟩)))))⟩
        · exact ⟨_, rfl, .inr (.inr (.inr (.inr (.inr (.inr ⟨p3, rfl, g3⟩)))))⟩
      refine ⟨p4, _, r5, _, rfl, rfl, SqL.of g4, hv, _, rfl, ov, _, rfl, ho, fun H9 s9 => ⟨true, rfl, iteF ?_⟩⟩
      have hd9 : DrAt H9 dr t b := ⟨s9 _ _ (k3.tup K9.2 hd.1), t0, tb, b1⟩
      refine ⟨_, rfl, n, 1, rfl, rfl, _, rfl, n + 1, t, b, dr, rfl, by omega, hd9, _, rfl, _, _, rfl, rfl, _, rfl, iteDF (by omega) ?_⟩
      refine ⟨_, rfl, n, 1, rfl, rfl, _, rfl, n + 1, t, b, dr, rfl, by omega, hd9, _, rfl, _, _, rfl, rfl, _, rfl, iteDF (by omega) ?_⟩
      exact ⟨fun u o e => s9 _ _ (Kp.same (Kp.same sH2 ns1 (K3.trans K9)) ns1 k3 u o e), _, _, _, _, _, _, _, _, rfl⟩)
    · rintro σ H1 ⟨s1, v1, v2, v3, v4, v5, v6, v7, v8, rfl⟩
      exact q _

theorem all_mk {l : PySem.W.OpenLaw} {w : World} {K : PySem.W.Frag} {h : Heap} {mg : Str → Option Value} {fa : Addr} {f0 f1 f2 f3 f4 f5 f6 f7 f8 f9 f10 f11 f12 f13 : Addr} (X : K.In h) (G : h.Ns mainGlobals mg) (hfa : mg "law" = some (.ref fa))
    {od0 od1 od2 od3 od4 od5 od6 od7 od8 od9 od10 od11 od12 od13 : Option Addr} {an0 an1 an2 an3 an4 an5 an6 an7 an8 an9 an10 an11 an12 an13 : Option Addr} {sl0 sl1 sl2 sl3 sl4 sl5 sl6 sl7 sl8 sl9 sl10 sl11 sl12 sl13 : Array (Option Value)} {oc0 kV0 dc0 pm0 cd0 ct0 oc1 kV1 dc1 pm1 cd1 ct1 oc2 kV2 dc2 pm2 cd2 ct2 oc3 kV3 dc3 pm3 cd3 ct3 oc4 kV4 dc4 pm4 cd4 ct4 oc5 kV5 dc5 pm5 cd5 ct5 oc6 kV6 dc6 pm6 cd6 ct6 oc7 kV7 dc7 pm7 cd7 ct7 oc8 kV8 dc8 pm8 cd8 ct8 oc9 kV9 dc9 pm9 cd9 ct9 oc10 kV10 dc10 pm10 cd10 ct10 oc11 kV11 dc11 pm11 cd11 ct11 oc12 kV12 dc12 pm12 cd12 ct12 oc13 kV13 dc13 pm13 cd13 ct13 : Value}
    {fN fW fI TI : Addr} {nm q : Str} {N : Addr} {bs : List Value} {sn : List Str} {sub : List Value} {ab : Bool} {col : Option Bool} {dd : Option Addr} {x0 x1 x2 x3 x5 : Option Value} {ocI kVI dcI pmI cdI ctI ocT : Value} {odI anI odT : Option Addr} {slI slT : Array (Option Value)} {nT : Nat} {tkT : Tok}
    (a0 : PySem.W.nsIn K mainGlobals "is_whole" = some (some (.ref f0)))
    (l0 : K.lookup f0 = some ⟨oc0, od0, .func (PySem.W.fnOf "is_whole" "is_whole" (defArgs s_is_whole) (defBody s_is_whole) (defScope s_is_whole) .none kV0 dc0 pm0 an0 cd0 ct0), sl0⟩) (c0 : PySem.W.codeIn K cd0 "is_whole" = true) (k0 : PySem.W.keepIn K (.ref f0) = true)
    (a1 : PySem.W.nsIn K mainGlobals "is_count" = some (some (.ref f1)))
    (l1 : K.lookup f1 = some ⟨oc1, od1, .func (PySem.W.fnOf "is_count" "is_count" (defArgs s_is_count) (defBody s_is_count) (defScope s_is_count) .none kV1 dc1 pm1 an1 cd1 ct1), sl1⟩) (c1 : PySem.W.codeIn K cd1 "is_count" = true) (k1 : PySem.W.keepIn K (.ref f1) = true)
    (a2 : PySem.W.nsIn K mainGlobals "refuse_no_count" = some (some (.ref f2)))
    (l2 : K.lookup f2 = some ⟨oc2, od2, .func (PySem.W.fnOf "refuse_no_count" "refuse_no_count" (defArgs s_refuse_no_count) (defBody s_refuse_no_count) (defScope s_refuse_no_count) .none kV2 dc2 pm2 an2 cd2 ct2), sl2⟩) (c2 : PySem.W.codeIn K cd2 "refuse_no_count" = true) (k2 : PySem.W.keepIn K (.ref f2) = true)
    (a3 : PySem.W.nsIn K mainGlobals "least_passed" = some (some (.ref f3)))
    (l3 : K.lookup f3 = some ⟨oc3, od3, .func (PySem.W.fnOf "least_passed" "least_passed" (defArgs s_least_passed) (defBody s_least_passed) (defScope s_least_passed) .none kV3 dc3 pm3 an3 cd3 ct3), sl3⟩) (c3 : PySem.W.codeIn K cd3 "least_passed" = true) (k3 : PySem.W.keepIn K (.ref f3) = true)
    (a4 : PySem.W.nsIn K mainGlobals "most_passed" = some (some (.ref f4)))
    (l4 : K.lookup f4 = some ⟨oc4, od4, .func (PySem.W.fnOf "most_passed" "most_passed" (defArgs s_most_passed) (defBody s_most_passed) (defScope s_most_passed) .none kV4 dc4 pm4 an4 cd4 ct4), sl4⟩) (c4 : PySem.W.codeIn K cd4 "most_passed" = true) (k4 : PySem.W.keepIn K (.ref f4) = true)
    (a5 : PySem.W.nsIn K mainGlobals "_law_begun" = some (some (.ref f5)))
    (l5 : K.lookup f5 = some ⟨oc5, od5, .func (PySem.W.fnOf "_law_begun" "_law_begun" (defArgs s_l_begun) (defBody s_l_begun) (defScope s_l_begun) .none kV5 dc5 pm5 an5 cd5 ct5), sl5⟩) (c5 : PySem.W.codeIn K cd5 "_law_begun" = true) (k5 : PySem.W.keepIn K (.ref f5) = true)
    (a6 : PySem.W.nsIn K mainGlobals "_law_take" = some (some (.ref f6)))
    (l6 : K.lookup f6 = some ⟨oc6, od6, .func (PySem.W.fnOf "_law_take" "_law_take" (defArgs s_l_take) (defBody s_l_take) (defScope s_l_take) .none kV6 dc6 pm6 an6 cd6 ct6), sl6⟩) (c6 : PySem.W.codeIn K cd6 "_law_take" = true) (k6 : PySem.W.keepIn K (.ref f6) = true)
    (a7 : PySem.W.nsIn K mainGlobals "_law_low" = some (some (.ref f7)))
    (l7 : K.lookup f7 = some ⟨oc7, od7, .func (PySem.W.fnOf "_law_low" "_law_low" (defArgs s_l_low) (defBody s_l_low) (defScope s_l_low) .none kV7 dc7 pm7 an7 cd7 ct7), sl7⟩) (c7 : PySem.W.codeIn K cd7 "_law_low" = true) (k7 : PySem.W.keepIn K (.ref f7) = true)
    (a8 : PySem.W.nsIn K mainGlobals "_law_drift" = some (some (.ref f8)))
    (l8 : K.lookup f8 = some ⟨oc8, od8, .func (PySem.W.fnOf "_law_drift" "_law_drift" (defArgs s_l_drift) (defBody s_l_drift) (defScope s_l_drift) .none kV8 dc8 pm8 an8 cd8 ct8), sl8⟩) (c8 : PySem.W.codeIn K cd8 "_law_drift" = true) (k8 : PySem.W.keepIn K (.ref f8) = true)
    (a9 : PySem.W.nsIn K mainGlobals "_law_is_whole" = some (some (.ref f9)))
    (l9 : K.lookup f9 = some ⟨oc9, od9, .func (PySem.W.fnOf "_law_is_whole" "_law_is_whole" (defArgs s_l_is_whole) (defBody s_l_is_whole) (defScope s_l_is_whole) .none kV9 dc9 pm9 an9 cd9 ct9), sl9⟩) (c9 : PySem.W.codeIn K cd9 "_law_is_whole" = true) (k9 : PySem.W.keepIn K (.ref f9) = true)
    (a10 : PySem.W.nsIn K mainGlobals "_law_refused" = some (some (.ref f10)))
    (l10 : K.lookup f10 = some ⟨oc10, od10, .func (PySem.W.fnOf "_law_refused" "_law_refused" (defArgs s_l_refused) (defBody s_l_refused) (defScope s_l_refused) .none kV10 dc10 pm10 an10 cd10 ct10), sl10⟩) (c10 : PySem.W.codeIn K cd10 "_law_refused" = true) (k10 : PySem.W.keepIn K (.ref f10) = true)
    (a11 : PySem.W.nsIn K mainGlobals "law" = some (some (.ref f11)))
    (l11 : K.lookup f11 = some ⟨oc11, od11, .func (PySem.W.fnOf "law" "law" (defArgs s_law) (defBody s_law) (defScope s_law) .none kV11 dc11 pm11 an11 cd11 ct11), sl11⟩) (c11 : PySem.W.codeIn K cd11 "law" = true) (k11 : PySem.W.keepIn K (.ref f11) = true)
    (a12 : PySem.W.nsIn K mainGlobals "least_of" = some (some (.ref f12)))
    (l12 : K.lookup f12 = some ⟨oc12, od12, .func (PySem.W.fnOf "least_of" "least_of" (defArgs s_least_of) (defBody s_least_of) (defScope s_least_of) .none kV12 dc12 pm12 an12 cd12 ct12), sl12⟩) (c12 : PySem.W.codeIn K cd12 "least_of" = true) (k12 : PySem.W.keepIn K (.ref f12) = true)
    (a13 : PySem.W.nsIn K mainGlobals "most_of" = some (some (.ref f13)))
    (l13 : K.lookup f13 = some ⟨oc13, od13, .func (PySem.W.fnOf "most_of" "most_of" (defArgs s_most_of) (defBody s_most_of) (defScope s_most_of) .none kV13 dc13 pm13 an13 cd13 ct13), sl13⟩) (c13 : PySem.W.codeIn K cd13 "most_of" = true) (k13 : PySem.W.keepIn K (.ref f13) = true)
    (z_max : PySem.W.nsIn K mainGlobals "max" = some none)
    (z_min : PySem.W.nsIn K mainGlobals "min" = some none)
    (z_abs : PySem.W.nsIn K mainGlobals "abs" = some none)
    (z_len : PySem.W.nsIn K mainGlobals "len" = some none)
    (z_int : PySem.W.nsIn K mainGlobals "int" = some none)
    (z_range : PySem.W.nsIn K mainGlobals "range" = some none)
    (z_isinstance : PySem.W.nsIn K mainGlobals "isinstance" = some none)
    (z_bool : PySem.W.nsIn K mainGlobals "bool" = some none)
    (aN : PySem.W.nsIn K mainGlobals "NoNumber" = some (some (.ref fN)))
    (xN : K.lookup fN = some (excClassObj nm q fN N bs [.ref fW, .type "ValueError", .type "Exception", .type "BaseException", .type "object"] true sn sub ab col dd x0 x1 x2 x3 x5 "ValueError.__new__"))
    (saN : PySem.W.findIn K (.ref fN) "__setattr__" = some (some (.builtin "object.__setattr__"))) (exN : PySem.W.subIn K (.ref fN) (.type "BaseException") = some true) (tyN : PySem.W.typeIn K (.ref fN) = some (.type "type")) (kN : PySem.W.keepIn K (.ref fN) = true)
    (iNN : PySem.W.findIn K (.ref fN) "__init__" = some (some (.ref fI))) (tIN : PySem.W.typeIn K (.ref fI) = some (.type "function")) (nTN : PySem.W.findIn K (.ref fN) "text" = some none) (icN : PySem.W.isClsIn K fN = true) (ssN : PySem.W.subIn K (.ref fN) (.ref fN) = some true)
    (lI : K.lookup fI = some ⟨ocI, odI, .func (PySem.W.fnOf "__init__" "WaitError.__init__" (defArgs s_WI) (defBody s_WI) (defScope s_WI) (.ref TI) kVI dcI pmI anI cdI ctI), slI⟩) (cI : PySem.W.codeIn K cdI "WaitError.__init__" = true) (kI : PySem.W.keepIn K (.ref fI) = true)
    (lTI : K.lookup TI = some ⟨ocT, odT, .seq #[.str "" tkT] nT, slT⟩)
    : ∃ fd : FuncData, (∀ (s : Shared) (v : Value), BindsTo s fd ⟨[v], []⟩ [("_law_script", v)]) ∧ ∀ base : Heap, K.In base → base.Ns mainGlobals mg → FnOk l.prog w K mg base CX0 7 fa fd ["_law_script"] (spLaw K) := by
  have e := hfa.symm.trans (PySem.W.mg_of X G a11)
  cases e
  have F0 := fun_mk (st := s_is_whole) l0 c0 k0
  have b0 := F0.binds (ps := ["thing"]) fun _ _ _ _ _ _ us hl => match us, hl with | [_], _ => rfl
  have F1 := fun_mk (st := s_is_count) l1 c1 k1
  have b1 := F1.binds (ps := ["thing"]) fun _ _ _ _ _ _ us hl => match us, hl with | [_], _ => rfl
  have F2 := fun_mk (st := s_refuse_no_count) l2 c2 k2
  have b2 := F2.binds (ps := ["thing"]) fun _ _ _ _ _ _ us hl => match us, hl with | [_], _ => rfl
  have F3 := fun_mk (st := s_least_passed) l3 c3 k3
  have b3 := F3.binds (ps := ["ticks", "drift"]) fun _ _ _ _ _ _ us hl => match us, hl with | [_, _], _ => rfl
  have F4 := fun_mk (st := s_most_passed) l4 c4 k4
  have b4 := F4.binds (ps := ["ticks", "drift"]) fun _ _ _ _ _ _ us hl => match us, hl with | [_, _], _ => rfl
  have F5 := fun_mk (st := s_l_begun) l5 c5 k5
  have b5 := F5.binds (ps := ["_law_script", "_law_k"]) fun _ _ _ _ _ _ us hl => match us, hl with | [_, _], _ => rfl
  have F6 := fun_mk (st := s_l_take) l6 c6 k6
  have b6 := F6.binds (ps := ["_law_state", "_law_many"]) fun _ _ _ _ _ _ us hl => match us, hl with | [_, _], _ => rfl
  have F7 := fun_mk (st := s_l_low) l7 c7 k7
  have b7 := F7.binds (ps := ["_law_upper", "_law_lower"]) fun _ _ _ _ _ _ us hl => match us, hl with | [_, _], _ => rfl
  have F8 := fun_mk (st := s_l_drift) l8 c8 k8
  have b8 := F8.binds (ps := ["_law_state"]) fun _ _ _ _ _ _ us hl => match us, hl with | [_], _ => rfl
  have F9 := fun_mk (st := s_l_is_whole) l9 c9 k9
  have b9 := F9.binds (ps := ["_law_thing"]) fun _ _ _ _ _ _ us hl => match us, hl with | [_], _ => rfl
  have F10 := fun_mk (st := s_l_refused) l10 c10 k10
  have b10 := F10.binds (ps := ["_law_odd", "_law_way"]) fun _ _ _ _ _ _ us hl => match us, hl with | [_, _], _ => rfl
  have F11 := fun_mk (st := s_law) l11 c11 k11
  have b11 := F11.binds (ps := ["_law_script"]) fun _ _ _ _ _ _ us hl => match us, hl with | [_], _ => rfl
  have F12 := fun_mk (st := s_least_of) l12 c12 k12
  have b12 := F12.binds (ps := ["ticks", "drift"]) fun _ _ _ _ _ _ us hl => match us, hl with | [_, _], _ => rfl
  have F13 := fun_mk (st := s_most_of) l13 c13 k13
  have b13 := F13.binds (ps := ["ticks", "drift"]) fun _ _ _ _ _ _ us hl => match us, hl with | [_, _], _ => rfl
  have FI : FunD K "__init__" "WaitError.__init__" (defArgs s_WI) (defBody s_WI) (defScope s_WI) [V.str ""] [] fI (PySem.W.fnOf "__init__" "WaitError.__init__" (defArgs s_WI) (defBody s_WI) (defScope s_WI) (.ref TI) kVI dcI pmI anI cdI ctI) := ⟨⟨_, _, _, _, _, _, _, _, _, _, rfl, lI, cI, .inr ⟨by simp, _, _, [Value.str "" tkT], _, rfl, lTI, rfl, (.cons ⟨_, rfl⟩ .nil)⟩, .inl rfl⟩, kI⟩
  have bI : Binds K (PySem.W.fnOf "__init__" "WaitError.__init__" (defArgs s_WI) (defBody s_WI) (defScope s_WI) (.ref TI) kVI dcI pmI anI cdI ctI) ["self", "text"] [] := by
    obtain ⟨ds, v, b⟩ := FI.binds1 (ps := ["self", "text"]) 2 1 (by simp) rfl (fun T kV dc pm an cdv ct us its hu hi => match us, hu, its, hi with | [_, _], _, [_], _ => ⟨_, rfl, rfl⟩)
    cases v
    exact b
  let a : Nat → Addr := fun i => match i with | 0 => f0 | 1 => f1 | 2 => f2 | 3 => f3 | 4 => f4 | 5 => f5 | 6 => f6 | 7 => f7 | 8 => f8 | 9 => f9 | 10 => f10 | 11 => fa | 12 => f12 | 13 => f13 | 50 => fN | 51 => fI | _ => 0
  let d : Nat → FuncData := fun i => match i with | 0 => (PySem.W.fnOf "is_whole" "is_whole" (defArgs s_is_whole) (defBody s_is_whole) (defScope s_is_whole) .none kV0 dc0 pm0 an0 cd0 ct0) | 1 => (PySem.W.fnOf "is_count" "is_count" (defArgs s_is_count) (defBody s_is_count) (defScope s_is_count) .none kV1 dc1 pm1 an1 cd1 ct1) | 2 => (PySem.W.fnOf "refuse_no_count" "refuse_no_count" (defArgs s_refuse_no_count) (defBody s_refuse_no_count) (defScope s_refuse_no_count) .none kV2 dc2 pm2 an2 cd2 ct2) | 3 => (PySem.W.fnOf "least_passed" "least_passed" (defArgs s_least_passed) (defBody s_least_passed) (defScope s_least_passed) .none kV3 dc3 pm3 an3 cd3 ct3) | 4 => (PySem.W.fnOf "most_passed" "most_passed" (defArgs s_most_passed) (defBody s_most_passed) (defScope s_most_passed) .none kV4 dc4 pm4 an4 cd4 ct4) | 5 => (PySem.W.fnOf "_law_begun" "_law_begun" (defArgs s_l_begun) (defBody s_l_begun) (defScope s_l_begun) .none kV5 dc5 pm5 an5 cd5 ct5) | 6 => (PySem.W.fnOf "_law_take" "_law_take" (defArgs s_l_take) (defBody s_l_take) (defScope s_l_take) .none kV6 dc6 pm6 an6 cd6 ct6) | 7 => (PySem.W.fnOf "_law_low" "_law_low" (defArgs s_l_low) (defBody s_l_low) (defScope s_l_low) .none kV7 dc7 pm7 an7 cd7 ct7) | 8 => (PySem.W.fnOf "_law_drift" "_law_drift" (defArgs s_l_drift) (defBody s_l_drift) (defScope s_l_drift) .none kV8 dc8 pm8 an8 cd8 ct8) | 9 => (PySem.W.fnOf "_law_is_whole" "_law_is_whole" (defArgs s_l_is_whole) (defBody s_l_is_whole) (defScope s_l_is_whole) .none kV9 dc9 pm9 an9 cd9 ct9) | 10 => (PySem.W.fnOf "_law_refused" "_law_refused" (defArgs s_l_refused) (defBody s_l_refused) (defScope s_l_refused) .none kV10 dc10 pm10 an10 cd10 ct10) | 11 => (PySem.W.fnOf "law" "law" (defArgs s_law) (defBody s_law) (defScope s_law) .none kV11 dc11 pm11 an11 cd11 ct11) | 12 => (PySem.W.fnOf "least_of" "least_of" (defArgs s_least_of) (defBody s_least_of) (defScope s_least_of) .none kV12 dc12 pm12 an12 cd12 ct12) | 13 => (PySem.W.fnOf "most_of" "most_of" (defArgs s_most_of) (defBody s_most_of) (defScope s_most_of) .none kV13 dc13 pm13 an13 cd13 ct13) | 51 => (PySem.W.fnOf "__init__" "WaitError.__init__" (defArgs s_WI) (defBody s_WI) (defScope s_WI) (.ref TI) kVI dcI pmI anI cdI ctI) | _ => (PySem.W.fnOf "law" "law" (defArgs s_law) (defBody s_law) (defScope s_law) .none kV11 dc11 pm11 an11 cd11 ct11)
  have T : Txt K mg a d := ⟨PySem.W.mg_of X G a0, F0, b0, PySem.W.mg_of X G a1, F1, b1, PySem.W.mg_of X G a2, F2, b2, PySem.W.mg_of X G a3, F3, b3, PySem.W.mg_of X G a4, F4, b4, PySem.W.mg_of X G a5, F5, b5, PySem.W.mg_of X G a6, F6, b6, PySem.W.mg_of X G a7, F7, b7, PySem.W.mg_of X G a8, F8, b8, PySem.W.mg_of X G a9, F9, b9, PySem.W.mg_of X G a10, F10, b10, PySem.W.mg_of X G a11, F11, b11, PySem.W.mg_of X G a12, F12, b12, PySem.W.mg_of X G a13, F13, b13, PySem.W.mg_none_of X G z_max, PySem.W.mg_none_of X G z_min, PySem.W.mg_none_of X G z_abs, PySem.W.mg_none_of X G z_len, PySem.W.mg_none_of X G z_int, PySem.W.mg_none_of X G z_range, PySem.W.mg_none_of X G z_isinstance, PySem.W.mg_none_of X G z_bool, PySem.W.mg_of X G aN, ⟨⟨nm, q, N, bs, _, sn, sub, ab, col, dd, x0, x1, x2, x3, x5, xN, rfl⟩, saN, exN, tyN, kN⟩, iNN, tIN, nTN, exm_self exN icN tyN ssN, FI, bI⟩
  exact ⟨(PySem.W.fnOf "law" "law" (defArgs s_law) (defBody s_law) (defScope s_law) .none kV11 dc11 pm11 an11 cd11 ct11), fun s v => .of_eq rfl, fun base _ _ => ok_law T⟩
theorem walk {l : PySem.W.OpenLaw} {q : Program} {loose : List Str} {XP : (Str → Option Value) → Heap → Prop} {YP : World → Heap → Prop} {d : DefRec} {K : Params → PySem.W.Frag} (hn : l.most = some 63) (hdf : d.params.defaults = [])
    (hY : ∀ (w : World) (h : Heap), YP w h → (K w.params).In h)
    (F : ∀ (w : World) (mg : Str → Option Value) (fa : Addr) (h : Heap), (K w.params).In h → h.Ns mainGlobals mg → mg d.name = some (.ref fa) →
      ∃ fd : FuncData, (∀ (s : Shared) (u : Value), BindsTo s fd ⟨[u], []⟩ [("_law_script", u)]) ∧ ∀ base : Heap, (K w.params).In base → base.Ns mainGlobals mg → FnOk l.prog w (K w.params) mg base CX0 7 fa fd ["_law_script"] (spLaw (K w.params))) :
    PySem.W.WalkO q loose XP YP l.row.toRowW d [] (fun f vs => PySem.call f vs) :=
  L2.walk_of (n := 63) (k := 7) (x := "_law_script") (CX := fun _ => CX0) (sp := fun w => (spLaw (K w.params))) hn (by decide) hdf ⟨rfl, by decide, by decide⟩ hY F (fun _ _ a ns hl _ hS => ⟨a, ns, rfl, hS, hl, fun _ => rfl⟩) fun _ _ _ _ _ z => z
end M

open PySem PySem.W PyProof.Rows in
set_option maxRecDepth 100000 in
set_option maxHeartbeats 0 in
theorem PySem.Challenge.cw_stampedwait_k02_true_ticks_behind_a_coun_holds : PySem.Challenge.rw_stampedwait_k02_true_ticks_behind_a_coun.Holds := by
  w_on; o_law; k_head; (case hw => w_witness2)
  k_fill
  refine M.walk (l := PySem.Challenge.rw_stampedwait_k02_true_ticks_behind_a_coun) rfl rfl (fun w h Y => PySem.W.kIn_of Y) ?F
  case F =>
    intro w mg fa h KX G hmg
    refine' M.all_mk KX G hmg ?a0 ?l0 ?c0 ?k0 ?a1 ?l1 ?c1 ?k1 ?a2 ?l2 ?c2 ?k2 ?a3 ?l3 ?c3 ?k3 ?a4 ?l4 ?c4 ?k4 ?a5 ?l5 ?c5 ?k5 ?a6 ?l6 ?c6 ?k6 ?a7 ?l7 ?c7 ?k7 ?a8 ?l8 ?c8 ?k8 ?a9 ?l9 ?c9 ?k9 ?a10 ?l10 ?c10 ?k10 ?a11 ?l11 ?c11 ?k11 ?a12 ?l12 ?c12 ?k12 ?a13 ?l13 ?c13 ?k13 ?z_max ?z_min ?z_abs ?z_len ?z_int ?z_range ?z_isinstance ?z_bool ?aN ?xN ?saN ?exN ?tyN ?kN ?iNN ?tIN ?nTN ?icN ?ssN ?lI ?cI ?kI ?lTI
    (case a0 => k_is)
    (case l0 => k_is)
    (case c0 => k_is)
    (case k0 => k_is)
    (case a1 => k_is)
    (case l1 => k_is)
    (case c1 => k_is)
    (case k1 => k_is)
    (case a2 => k_is)
    (case l2 => k_is)
    (case c2 => k_is)
    (case k2 => k_is)
    (case a3 => k_is)
    (case l3 => k_is)
    (case c3 => k_is)
    (case k3 => k_is)
    (case a4 => k_is)
    (case l4 => k_is)
    (case c4 => k_is)
    (case k4 => k_is)
    (case a5 => k_is)
    (case l5 => k_is)
    (case c5 => k_is)
    (case k5 => k_is)
    (case a6 => k_is)
    (case l6 => k_is)
    (case c6 => k_is)
    (case k6 => k_is)
    (case a7 => k_is)
    (case l7 => k_is)
    (case c7 => k_is)
    (case k7 => k_is)
    (case a8 => k_is)
    (case l8 => k_is)
    (case c8 => k_is)
    (case k8 => k_is)
    (case a9 => k_is)
    (case l9 => k_is)
    (case c9 => k_is)
    (case k9 => k_is)
    (case a10 => k_is)
    (case l10 => k_is)
    (case c10 => k_is)
    (case k10 => k_is)
    (case a11 => k_is)
    (case l11 => k_is)
    (case c11 => k_is)
    (case k11 => k_is)
    (case a12 => k_is)
    (case l12 => k_is)
    (case c12 => k_is)
    (case k12 => k_is)
    (case a13 => k_is)
    (case l13 => k_is)
    (case c13 => k_is)
    (case k13 => k_is)
    (case z_max => k_is)
    (case z_min => k_is)
    (case z_abs => k_is)
    (case z_len => k_is)
    (case z_int => k_is)
    (case z_range => k_is)
    (case z_isinstance => k_is)
    (case z_bool => k_is)
    (case aN => k_is)
    (case xN => k_is)
    (case saN => k_is)
    (case exN => k_is)
    (case tyN => k_is)
    (case kN => k_is)
    (case iNN => k_is)
    (case tIN => k_is)
    (case nTN => k_is)
    (case icN => k_is)
    (case ssN => first | rfl | k_is)
    (case lI => k_is)
    (case cI => k_is)
    (case kI => k_is)
    (case lTI => k_is)
