import PyProof.Rows.All
import Wide.All
import OpenK.AllK
import Wide.FinOn
import HandS.ForMost
import HandS.Wide
import HandS.IsInst
import PySem.Challenge.RW_stampedwait_k04_whole_whatever_pace
set_option Elab.async false
set_option linter.all false
set_option maxRecDepth 100000
set_option maxHeartbeats 4000000
namespace M
open PySem L2

def top (i : Nat) : Stmt := PySem.Challenge.pw_stampedwait_k04_whole_whatever_pace.main.body.getD i (.Pass ⟨0, 0, 0, 0⟩)
abbrev s_is_whole : Stmt := top 4
abbrev s_is_count : Stmt := top 5
abbrev s_refuse_no_count : Stmt := top 6
abbrev s_least_passed : Stmt := top 9
abbrev s_most_passed : Stmt := top 10
abbrev s_l_begun : Stmt := top 12
abbrev s_l_take : Stmt := top 13
abbrev s_l_low : Stmt := top 14
abbrev s_l_drift : Stmt := top 15
abbrev s_l_pace : Stmt := top 16
abbrev s_law : Stmt := top 17
abbrev s_least_of : Stmt := top 7
abbrev s_most_of : Stmt := top 8
theorem sc_is_whole : FnScope ["thing"] ["thing"] (defScope s_is_whole) := ⟨rfl, rfl, rfl, by decide +kernel, rfl, by decide +kernel, by decide +kernel⟩
theorem sc_is_count : FnScope ["thing"] ["thing"] (defScope s_is_count) := ⟨rfl, rfl, rfl, by decide +kernel, rfl, by decide +kernel, by decide +kernel⟩
theorem sc_refuse_no_count : FnScope ["thing"] ["thing"] (defScope s_refuse_no_count) := ⟨rfl, rfl, rfl, by decide +kernel, rfl, by decide +kernel, by decide +kernel⟩
theorem sc_least_passed : FnScope ["ticks", "drift"] ["ticks", "drift"] (defScope s_least_passed) := ⟨rfl, rfl, rfl, by decide +kernel, rfl, by decide +kernel, by decide +kernel⟩
theorem sc_most_passed : FnScope ["ticks", "drift"] ["ticks", "drift"] (defScope s_most_passed) := ⟨rfl, rfl, rfl, by decide +kernel, rfl, by decide +kernel, by decide +kernel⟩
theorem sc_l_begun : FnScope ["_law_script", "_law_k", "_law_cell", "_law_number", "_law_mixed"] ["_law_script", "_law_k"] (defScope s_l_begun) := ⟨rfl, rfl, rfl, by decide +kernel, rfl, by decide +kernel, by decide +kernel⟩
theorem sc_l_take : FnScope ["_law_state", "_law_many", "_law_digit", "_law_made", "_law_turn"] ["_law_state", "_law_many"] (defScope s_l_take) := ⟨rfl, rfl, rfl, by decide +kernel, rfl, by decide +kernel, by decide +kernel⟩
theorem sc_l_low : FnScope ["_law_upper", "_law_lower", "_law_here", "_law_there"] ["_law_upper", "_law_lower"] (defScope s_l_low) := ⟨rfl, rfl, rfl, by decide +kernel, rfl, by decide +kernel, by decide +kernel⟩
theorem sc_l_drift : FnScope ["_law_state", "_law_lower", "_law_some"] ["_law_state"] (defScope s_l_drift) := ⟨rfl, rfl, rfl, by decide +kernel, rfl, by decide +kernel, by decide +kernel⟩
theorem sc_l_pace : FnScope ["_law_state", "_law_drift_here", "_law_lower", "_law_within", "_law_part", "_law_upper"] ["_law_state", "_law_drift_here"] (defScope s_l_pace) := ⟨rfl, rfl, rfl, by decide +kernel, rfl, by decide +kernel, by decide +kernel⟩
theorem sc_law : FnScope ["_law_script", "_law_k", "_law_state", "_law_drift_here", "_law_gone", "_law_passed", "_law_turn", "_law_pace_here", "_law_many", "_law_count"] ["_law_script"] (defScope s_law) := ⟨rfl, rfl, rfl, by decide +kernel, rfl, by decide +kernel, by decide +kernel⟩
theorem sc_least_of : FnScope ["ticks", "drift", "top", "bottom"] ["ticks", "drift"] (defScope s_least_of) := ⟨rfl, rfl, rfl, by decide +kernel, rfl, by decide +kernel, by decide +kernel⟩
theorem sc_most_of : FnScope ["ticks", "drift", "top", "bottom"] ["ticks", "drift"] (defScope s_most_of) := ⟨rfl, rfl, rfl, by decide +kernel, rfl, by decide +kernel, by decide +kernel⟩
/-- what the top has written -/
structure Txt (K : PySem.W.Frag) (mg : Str → Option Value) (a : Nat → Addr) (d : Nat → FuncData) : Prop where
  g_is_whole : mg "is_whole" = some (.ref (a 0))
  F_is_whole : Fun K "is_whole" "is_whole" s_is_whole (a 0) (d 0)
  b_is_whole : Binds K (d 0) ["thing"] []
  g_is_count : mg "is_count" = some (.ref (a 1))
  F_is_count : Fun K "is_count" "is_count" s_is_count (a 1) (d 1)
  b_is_count : Binds K (d 1) ["thing"] []
  g_refuse_no_count : mg "refuse_no_count" = some (.ref (a 2))
  F_refuse_no_count : Fun K "refuse_no_count" "refuse_no_count" s_refuse_no_count (a 2) (d 2)
  b_refuse_no_count : Binds K (d 2) ["thing"] []
  g_least_passed : mg "least_passed" = some (.ref (a 3))
  F_least_passed : Fun K "least_passed" "least_passed" s_least_passed (a 3) (d 3)
  b_least_passed : Binds K (d 3) ["ticks", "drift"] []
  g_most_passed : mg "most_passed" = some (.ref (a 4))
  F_most_passed : Fun K "most_passed" "most_passed" s_most_passed (a 4) (d 4)
  b_most_passed : Binds K (d 4) ["ticks", "drift"] []
  g_l_begun : mg "_law_begun" = some (.ref (a 5))
  F_l_begun : Fun K "_law_begun" "_law_begun" s_l_begun (a 5) (d 5)
  b_l_begun : Binds K (d 5) ["_law_script", "_law_k"] []
  g_l_take : mg "_law_take" = some (.ref (a 6))
  F_l_take : Fun K "_law_take" "_law_take" s_l_take (a 6) (d 6)
  b_l_take : Binds K (d 6) ["_law_state", "_law_many"] []
  g_l_low : mg "_law_low" = some (.ref (a 7))
  F_l_low : Fun K "_law_low" "_law_low" s_l_low (a 7) (d 7)
  b_l_low : Binds K (d 7) ["_law_upper", "_law_lower"] []
  g_l_drift : mg "_law_drift" = some (.ref (a 8))
  F_l_drift : Fun K "_law_drift" "_law_drift" s_l_drift (a 8) (d 8)
  b_l_drift : Binds K (d 8) ["_law_state"] []
  g_l_pace : mg "_law_pace" = some (.ref (a 9))
  F_l_pace : Fun K "_law_pace" "_law_pace" s_l_pace (a 9) (d 9)
  b_l_pace : Binds K (d 9) ["_law_state", "_law_drift_here"] []
  g_law : mg "law" = some (.ref (a 10))
  F_law : Fun K "law" "law" s_law (a 10) (d 10)
  b_law : Binds K (d 10) ["_law_script"] []
  g_least_of : mg "least_of" = some (.ref (a 11))
  F_least_of : Fun K "least_of" "least_of" s_least_of (a 11) (d 11)
  b_least_of : Binds K (d 11) ["ticks", "drift"] []
  g_most_of : mg "most_of" = some (.ref (a 12))
  F_most_of : Fun K "most_of" "most_of" s_most_of (a 12) (d 12)
  b_most_of : Binds K (d 12) ["ticks", "drift"] []
  z_max : mg "max" = none
  z_min : mg "min" = none
  z_abs : mg "abs" = none
  z_len : mg "len" = none
  z_int : mg "int" = none
  z_range : mg "range" = none
  z_isinstance : mg "isinstance" = none
  z_bool : mg "bool" = none

/-- a state of draws stands at s -/
def StAt (H : Hp) (s : Addr) : Prop := ∃ (a b : Int) (c : Bool), H s = some (.lst [.int a, .int b, .bl c]) ∧ 0 ≤ b ∧ b < 2147483647
/-- all else that was tracked stands; at s a state -/
def Kp (s : Addr) (H H' : Hp) : Prop := (∀ b o, b ≠ s → H b = some o → H' b = some o) ∧ StAt H' s
theorem StAt.kp {H : Hp} {s : Addr} (h : StAt H s) : Kp s H H := ⟨fun _ _ _ e => e, h⟩
theorem Kp.trans {s : Addr} {H H1 H2 : Hp} (a : Kp s H H1) (b : Kp s H1 H2) : Kp s H H2 := ⟨fun c o n e => b.1 c o n (a.1 c o n e), b.2⟩
theorem StAt.ne_new {H : Hp} {s p : Addr} (h : StAt H s) (hp : H p = none) : p ≠ s := by
  obtain ⟨a, b, c, e, _⟩ := h
  exact (ne_of_none e hp).symm
theorem StAt.new {H : Hp} {s p : Addr} {o : HO} (h : StAt H s) (hp : H p = none) : StAt (upd H p o) s := by
  obtain ⟨a, b, c, e, r⟩ := h
  exact ⟨a, b, c, by rw [upd_ne (ne_of_none e hp)]; exact e, r⟩
theorem Kp.new {s p : Addr} {H H1 : Hp} {o : HO} (k : Kp s H H1) (hp : H1 p = none) : Kp s H (upd H1 p o) :=
  ⟨fun b u n e => by rw [upd_ne (ne_of_none (k.1 b u n e) hp)]; exact k.1 b u n e, k.2.new hp⟩
theorem StAt.ne_tup {H : Hp} {s p : Addr} {xs : List V} (h : StAt H s) (hp : H p = some (.tup xs)) : p ≠ s := by
  obtain ⟨a, b, c, e, _⟩ := h
  exact ne_of hp e (by intro q; cases q)
theorem Kp.tup {s p : Addr} {H H1 : Hp} {xs : List V} (k : Kp s H H1) (h0 : StAt H s) (hp : H p = some (.tup xs)) : H1 p = some (.tup xs) := k.1 p _ (h0.ne_tup hp) hp
theorem Kp.free {s p : Addr} {H H1 : Hp} (k : Kp s H H1) (h0 : StAt H s) (hp : H1 p = none) : H p = none := by
  cases e : H p with
  | none => rfl
  | some o =>
    have z := k.1 p o (k.2.ne_new hp) e
    rw [hp] at z
    cases z
theorem Kp.same {s : Addr} {H0 H H1 : Hp} (a : Same H0 H) (hs : H0 s = none) (k : Kp s H H1) : Same H0 H1 := fun b o e => k.1 b o (ne_of_none e hs) (a b o e)
theorem same_new {H0 H : Hp} {p : Addr} {o : HO} (a : Same H0 H) (hp : H p = none) : Same H0 (upd H p o) := fun b u e => by
  rw [upd_ne (ne_of_none (a b u e) hp)]
  exact a b u e
theorem m64 {i : Int} (a : -18446744073709551616 < i) (b : i < 18446744073709551616) : -(2 ^ 64) < i ∧ i < 2 ^ 64 := by
  have e : (2 : Int) ^ 64 = 18446744073709551616 := by decide
  rw [e]
  exact ⟨a, b⟩
theorem divW {i j : Int} (h : 0 < j) (hb : j < 2 ^ 2000) : CDivW i j := wide_div (b := 2000) h (by
  have e : (j.natAbs : Int) = j := by omega
  have q : (j.natAbs : Int) < ((2 ^ 2000 : Nat) : Int) := by rw [e]; exact hb
  exact Int.ofNat_lt.mp q) (by decide) (by decide)
theorem p2000 {j : Int} (h : j ≤ 1000000000000000000000000000000) : j < 2 ^ 2000 := Int.lt_of_le_of_lt h (by decide)
theorem cell_at (ns : List Int) (lo hi : Option Int) : ∃ c : Int, atI (cutV (ns.map V.int) lo hi ++ [V.int 0]) 0 = some (V.int c) := by
  unfold cutV
  rw [← List.map_drop, ← List.map_take]
  generalize ((List.drop _ ns).take _) = l
  cases l with
  | nil => exact ⟨0, rfl⟩
  | cons x xs => exact ⟨x, atI_nat (j := 0) rfl⟩
theorem cut_len (xs : List V) (lo hi : Option Int) : (cutV xs lo hi).length ≤ xs.length := by
  unfold cutV
  rw [List.length_take, List.length_drop]
  omega
theorem bl_of {Q : VK} {H : Hp} {c : Prop} [Decidable c] (h : c) (q : Q (.bl true) H) : Q (.bl (decide c)) H := by
  rw [decide_eq_true h]
  exact q
theorem iteDT {c A B : Prop} [Decidable c] (h : c) (a : A) : if decide c = true then A else B := by
  rw [if_pos (decide_eq_true h)]
  exact a
theorem iteDF {c A B : Prop} [Decidable c] (h : ¬ c) (b : B) : if decide c = true then A else B := by
  rw [decide_eq_false h]
  exact iteF b
theorem iteND {c A B : Prop} [Decidable c] (h : ¬ c) (a : A) : if (!decide c) = true then A else B := by
  rw [decide_eq_false h]
  exact iteT a
theorem len3 : 3 ≤ sizeLine := by decide
theorem len2 : 2 ≤ sizeLine := by decide
theorem len1 : 1 ≤ sizeLine := by decide
def spBegun (K : PySem.W.Frag) : Sp := fun vs H Q _ => ∃ (l : Addr) (ns : List Int) (k : Int), vs = [.ref l, .int k] ∧ SqL K H l (ns.map V.int) ∧ ns.length ≤ 63 ∧ 0 ≤ k ∧ k ≤ 100 ∧ ∀ (p : Addr) (H' : Hp), H p = none → Same H H' → StAt H' p → Q (.ref p) H'
def spTake : Sp := fun vs H Q _ => ∃ (s : Addr) (m : Int), vs = [.ref s, .int m] ∧ StAt H s ∧ 0 < m ∧ m ≤ 1000000000000000000000000000000 ∧ ∀ (r : Int) (H' : Hp), 0 ≤ r → r < m → Kp s H H' → Q (.int r) H'

def spWhole : Sp := fun vs H Q _ => ∃ n : Int, vs = [.int n] ∧ Q (.bl true) H
def spCount : Sp := fun vs H Q _ => ∃ n : Int, vs = [.int n] ∧ 0 ≤ n ∧ Q (.bl true) H
def spRef : Sp := fun vs H Q _ => ∃ n : Int, vs = [.int n] ∧ 0 ≤ n ∧ Q .non H
def leastP (n t b : Int) : Int := -(-n * b / (b + t))
def mostP (n t b : Int) : Int := ((n + 1) * b - 1) / (b - t)
def DrAt (H : Hp) (p : Addr) (t b : Int) : Prop := H p = some (.tup [.int t, .int b]) ∧ 0 ≤ t ∧ t < b ∧ b ≤ 1000
def spLeast : Sp := fun vs H Q _ => ∃ (n t b : Int) (p : Addr), vs = [.int n, .ref p] ∧ 0 ≤ n ∧ DrAt H p t b ∧ Q (.int (leastP n t b)) H
def spMost : Sp := fun vs H Q _ => ∃ (n t b : Int) (p : Addr), vs = [.int n, .ref p] ∧ 0 ≤ n ∧ DrAt H p t b ∧ Q (.int (mostP n t b)) H
def spLow : Sp := fun vs H Q _ => ∃ (u l : Int), vs = [.int u, .int l] ∧ 0 ≤ u ∧ 0 < l ∧ l < 2 ^ 2000 ∧ ∀ (g x y : Int) (p : Addr), 0 < g → u = g * x → l = g * y → Int.gcd x y = 1 → H p = none → Q (.ref p) (upd H p (.tup [.int x, .int y]))
def spDrift : Sp := fun vs H Q _ => ∃ s : Addr, vs = [.ref s] ∧ StAt H s ∧ ∀ (t b : Int) (p : Addr) (H' : Hp), Kp s H H' → DrAt H' p t b → Q (.ref p) H'
def PcAt (H : Hp) (p : Addr) (t b x y : Int) : Prop := H p = some (.tup [.int x, .int y]) ∧ 0 ≤ x ∧ x ≤ 14000 ∧ 0 < y ∧ y ≤ 7000 ∧ (b - t) * y ≤ x * b ∧ x * b ≤ (b + t) * y
def spPace : Sp := fun vs H Q _ => ∃ (s dr : Addr) (t b : Int), vs = [.ref s, .ref dr] ∧ StAt H s ∧ DrAt H dr t b ∧ ∀ (x y : Int) (p : Addr) (H' : Hp), Kp s H H' → PcAt H' p t b x y → Q (.ref p) H'
def spLaw (K : PySem.W.Frag) : Sp := fun vs H Q _ => ∃ (a : Addr) (ns : List Int), vs = [.ref a] ∧ SqL K H a (ns.map V.int) ∧ ns.length ≤ 63 ∧ ∀ H', Q (.bl true) H'
theorem pos_of_mul {g x l : Int} (hg : 0 < g) (hl : 0 < l) (e : l = g * x) : 0 < x := by
  rcases Int.lt_or_le 0 x with h | h
  · exact h
  · have := Int.mul_nonpos_of_nonneg_of_nonpos (Int.le_of_lt hg) h
    omega
theorem nn_of_mul {g x l : Int} (hg : 0 < g) (hl : 0 ≤ l) (e : l = g * x) : 0 ≤ x := by
  rcases Int.lt_or_le x 0 with h | h
  · have := Int.mul_neg_of_pos_of_neg hg h
    omega
  · exact h
theorem le_of_gmul {g x l : Int} (hg : 0 < g) (hx : 0 ≤ x) (e : l = g * x) : x ≤ l := by
  have := Int.mul_le_mul_of_nonneg_right (show 1 ≤ g by omega) hx
  omega
theorem le_cancel {g x y : Int} (hg : 0 < g) (h : g * x ≤ g * y) : x ≤ y := Int.le_of_mul_le_mul_left h hg
theorem lt_cancel {g x y : Int} (hg : 0 < g) (h : g * x < g * y) : x < y := Int.lt_of_mul_lt_mul_left h (Int.le_of_lt hg)
theorem gcd_turn {h t : Int} (h0 : 0 ≤ h) (t0 : 0 < t) : Int.gcd t (h % t) = Int.gcd h t := by
  obtain ⟨a, rfl⟩ := Int.eq_ofNat_of_zero_le h0
  obtain ⟨b, rfl⟩ := Int.eq_ofNat_of_zero_le (Int.le_of_lt t0)
  show Nat.gcd b (a % b) = Nat.gcd a b
  rw [Nat.gcd_comm a b, Nat.gcd_rec b a, Nat.gcd_comm]
/-- the end of _law_low -/
theorem low_end {u l h : Int} (u0 : 0 ≤ u) (l0 : 0 < l) (h0 : 0 ≤ h) (e : Int.gcd h 0 = Int.gcd u l) : 0 < h ∧ u = h * (u / h) ∧ l = h * (l / h) ∧ Int.gcd (u / h) (l / h) = 1 ∧ h ≤ l := by
  have e1 : (h : Int) = (Int.gcd u l : Nat) := by
    have : Int.gcd h 0 = h.natAbs := Int.gcd_zero_right h
    rw [this] at e
    omega
  have hp : 0 < Int.gcd u l := Int.gcd_pos_of_ne_zero_right u (by omega)
  have d1 : h ∣ u := by rw [e1]; exact Int.gcd_dvd_left u l
  have d2 : h ∣ l := by rw [e1]; exact Int.gcd_dvd_right u l
  have hp' : 0 < h := by omega
  refine ⟨hp', (Int.mul_ediv_cancel' d1).symm, (Int.mul_ediv_cancel' d2).symm, ?_, Int.le_of_dvd l0 d2⟩
  rw [e1]
  exact Int.gcd_ediv_gcd_ediv_gcd hp
theorem pace_math {b t w part g x y : Int} (t0 : 0 ≤ t) (tb : t < b) (b1 : b ≤ 1000) (w0 : 1 ≤ w) (w1 : w ≤ 7) (p0 : 0 ≤ part) (p1 : part ≤ w) (hg : 0 < g)
    (e1 : (b - t) * w + 2 * t * part = g * x) (e2 : b * w = g * y) : 0 ≤ x ∧ x ≤ 14000 ∧ 0 < y ∧ y ≤ 7000 ∧ (b - t) * y ≤ x * b ∧ x * b ≤ (b + t) * y := by
  have a1 : 0 ≤ (b - t) * w := Int.mul_nonneg (by omega) (by omega)
  have a2 : 0 ≤ 2 * t * part := Int.mul_nonneg (by omega) p0
  have a3 : 2 * t * part ≤ 2 * t * w := Int.mul_le_mul_of_nonneg_left p1 (by omega)
  have a4 : 0 < b * w := Int.mul_pos (by omega) (by omega)
  have a5 : b * w ≤ 1000 * 7 := Int.le_trans (Int.mul_le_mul_of_nonneg_right b1 (by omega)) (Int.mul_le_mul_of_nonneg_left w1 (by decide))
  have a6 : (b + t) * w ≤ 2000 * 7 := Int.le_trans (Int.mul_le_mul_of_nonneg_right (show b + t ≤ 2000 by omega) (by omega)) (Int.mul_le_mul_of_nonneg_left w1 (by decide))
  have a7 : (b - t) * w + 2 * t * w = (b + t) * w := by grind
  have u0 : 0 ≤ (b - t) * w + 2 * t * part := by omega
  have x0 := nn_of_mul hg u0 e1
  have y0 := pos_of_mul hg a4 e2
  have x1 := le_of_gmul hg x0 e1
  have y1 := le_of_gmul hg (Int.le_of_lt y0) e2
  refine ⟨x0, by omega, y0, by omega, le_cancel hg ?_, le_cancel hg ?_⟩
  · have z1 : g * ((b - t) * y) = (b - t) * w * b := by grind
    have z2 : g * (x * b) = ((b - t) * w + 2 * t * part) * b := by grind
    rw [z1, z2]
    exact Int.mul_le_mul_of_nonneg_right (by omega) (by omega)
  · have z1 : g * ((b + t) * y) = (b + t) * w * b := by grind
    have z2 : g * (x * b) = ((b - t) * w + 2 * t * part) * b := by grind
    rw [z1, z2]
    exact Int.mul_le_mul_of_nonneg_right (by omega) (by omega)
/-- the path so far -/
structure Path (t b x y p : Int) (i : Nat) : Prop where
  x0 : 0 ≤ x
  y0 : 0 < y
  y1 : y ≤ 7000 ^ i
  p0 : 0 ≤ p
  lo : (b - t) * p * y ≤ x * b
  hi : x * b ≤ (b + t) * p * y
theorem Path.start {t b : Int} : Path t b 0 1 0 0 := ⟨by decide, by decide, by decide, by decide, by simp, by simp⟩
theorem pow_mono_i {i j : Nat} (h : i ≤ j) : (7000 : Int) ^ i ≤ 7000 ^ j := by
  have z : (7000 : Nat) ^ i ≤ 7000 ^ j := Nat.pow_le_pow_right (by decide) h
  have e := Int.ofNat_le.mpr z
  rw [Int.natCast_pow, Int.natCast_pow] at e
  exact e
theorem Path.big {t b x y p : Int} {i : Nat} (h : Path t b x y p i) (hi : i ≤ 32) : y < 2 ^ 2000 := by
  have a := pow_mono_i hi
  have b2 : (7000 : Int) ^ 32 < 2 ^ 2000 := by decide
  have := h.y1
  omega
theorem Path.more {t b x y p px py m g x' y' : Int} {i : Nat} (h : Path t b x y p i) (t0 : 0 ≤ t) (tb : t < b) (m0 : 0 ≤ m) (q0 : 0 ≤ px) (r0 : 0 < py) (r1 : py ≤ 7000) (l1 : (b - t) * py ≤ px * b) (l2 : px * b ≤ (b + t) * py)
    (hg : 0 < g) (e1 : x * py + m * px * y = g * x') (e2 : y * py = g * y') : Path t b x' y' (p + m) (i + 1) := by
  have yp : 0 < y * py := Int.mul_pos h.y0 r0
  have x0 : 0 ≤ x * py + m * px * y := Int.add_nonneg (Int.mul_nonneg h.x0 (Int.le_of_lt r0)) (Int.mul_nonneg (Int.mul_nonneg m0 q0) (Int.le_of_lt h.y0))
  have y0' := pos_of_mul hg yp e2
  have a1 := Int.mul_le_mul_of_nonneg_right h.lo (Int.le_of_lt r0)
  have a2 := Int.mul_le_mul_of_nonneg_right l1 (Int.mul_nonneg m0 (Int.le_of_lt h.y0))
  have a3 := Int.mul_le_mul_of_nonneg_right h.hi (Int.le_of_lt r0)
  have a4 := Int.mul_le_mul_of_nonneg_right l2 (Int.mul_nonneg m0 (Int.le_of_lt h.y0))
  refine ⟨nn_of_mul hg x0 e1, y0', ?_, by have := h.p0; omega, le_cancel hg ?_, le_cancel hg ?_⟩
  · have z := le_of_gmul hg (Int.le_of_lt y0') e2
    have z2 : y * py ≤ 7000 ^ i * 7000 := Int.le_trans (Int.mul_le_mul_of_nonneg_right h.y1 (Int.le_of_lt r0)) (Int.mul_le_mul_of_nonneg_left r1 (Int.le_of_lt (Int.pow_pos (by decide))))
    rw [Int.pow_succ]
    omega
  · have z1 : g * ((b - t) * (p + m) * y') = (b - t) * (p + m) * (y * py) := by grind
    have z2 : g * (x' * b) = (x * py + m * px * y) * b := by grind
    rw [z1, z2]
    grind
  · have z1 : g * ((b + t) * (p + m) * y') = (b + t) * (p + m) * (y * py) := by grind
    have z2 : g * (x' * b) = (x * py + m * px * y) * b := by grind
    rw [z1, z2]
    grind
theorem Path.least {t b x y p : Int} {i : Nat} (h : Path t b x y p i) (t0 : 0 ≤ t) (tb : t < b) : leastP (x / y) t b ≤ p := by
  have q1 : x / y * y ≤ x := Int.ediv_mul_le x (by have := h.y0; omega)
  have q2 := Int.mul_le_mul_of_nonneg_right q1 (show 0 ≤ b by omega)
  have q3 : x / y * b ≤ p * (b + t) := le_cancel h.y0 (by
    have z1 : y * (x / y * b) = x / y * y * b := by grind
    have z2 : y * (p * (b + t)) = (b + t) * p * y := by grind
    rw [z1, z2]
    exact Int.le_trans q2 h.hi)
  unfold leastP
  have q4 : -p ≤ -(x / y) * b / (b + t) := (Int.le_ediv_iff_mul_le (by omega)).mpr (by
    have z1 : -p * (b + t) = -(p * (b + t)) := by grind
    have z2 : -(x / y) * b = -(x / y * b) := by grind
    rw [z1, z2]
    omega)
  omega
theorem Path.most {t b x y p : Int} {i : Nat} (h : Path t b x y p i) (t0 : 0 ≤ t) (tb : t < b) : p ≤ mostP (x / y) t b := by
  have q1 : x < (x / y + 1) * y := Int.lt_ediv_add_one_mul_self x h.y0
  have q2 := Int.mul_lt_mul_of_pos_right q1 (show 0 < b by omega)
  have q3 : p * (b - t) < (x / y + 1) * b := lt_cancel h.y0 (by
    have z1 : y * (p * (b - t)) = (b - t) * p * y := by grind
    have z2 : y * ((x / y + 1) * b) = (x / y + 1) * y * b := by grind
    rw [z1, z2]
    exact Int.lt_of_le_of_lt h.lo q2)
  unfold mostP
  exact (Int.le_ediv_iff_mul_le (by omega)).mpr (by omega)

theorem ok_is_whole {P : Program} {w : World} {K : PySem.W.Frag} {mg : Str → Option Value} {base : Heap} {a : Nat → Addr} {d : Nat → FuncData} (T : Txt K mg a d) : FnOk P w K mg base CX0 1 (a 0) (d 0) ["thing"] spWhole := by
  refine T.F_is_whole.ok sc_is_whole (fun vs H Q E h => ?_) (fun cdv A outer s0 H vs Q E hr h => ?_)
  · obtain ⟨n, rfl, q⟩ := h
    rfl
  · obtain ⟨n, rfl, q⟩ := h
    refine ⟨_, (pss_one (ps_ret (pe_and (pe_callB call_isi (by rfl) T.z_isinstance (by decide +kernel) (pa_cons (pv 0) (pa_cons (pe_bltn (v := .ty "int") (by rfl) T.z_int (by decide +kernel) rfl) pa_nil))) (pe_one (pe_not (pe_callB call_isi (by rfl) T.z_isinstance (by decide +kernel) (pa_cons (pv 0) (pa_cons (pe_bltn (v := .ty "bool") (by rfl) T.z_bool (by decide +kernel) rfl) pa_nil)))))))), ?_⟩
    refine ⟨_, rfl, _, _, .type "int", .type "int", true, rfl, .ty "int", .base (.int n), kit_ty (by decide +kernel), true, rfl, iteT ?_⟩
    refine ⟨_, rfl, _, _, .type "int", .type "bool", false, rfl, .ty "bool", .base (.int n), kit_ty (by decide +kernel), false, rfl, ?_⟩
    exact q

theorem ok_is_count {P : Program} {w : World} {K : PySem.W.Frag} {mg : Str → Option Value} {base : Heap} {a : Nat → Addr} {d : Nat → FuncData} (T : Txt K mg a d) : FnOk P w K mg base CX0 2 (a 1) (d 1) ["thing"] spCount := by
  refine T.F_is_count.ok sc_is_count (fun vs H Q E h => ?_) (fun cdv A outer s0 H vs Q E hr h => ?_)
  · obtain ⟨n, rfl, n0, q⟩ := h
    rfl
  · obtain ⟨n, rfl, n0, q⟩ := h
    refine ⟨_, (pss_one (ps_ret (pe_and (pe_call (ok_is_whole T) (hr.mono (by decide)) (by rfl) T.g_is_whole T.F_is_whole.kp T.b_is_whole .nil pass0 (pa_cons (pv 0) pa_nil)) (pe_one (pe_cmpR op_ge (pv 0) pe_int (nomark _)))))), ?_⟩
    refine ⟨_, rfl, n, rfl, true, rfl, iteT ?_⟩
    exact ⟨_, rfl, n, 0, rfl, rfl, bl_of (Q := Q) n0 q⟩

theorem ok_refuse_no_count {P : Program} {w : World} {K : PySem.W.Frag} {mg : Str → Option Value} {base : Heap} {a : Nat → Addr} {d : Nat → FuncData} (T : Txt K mg a d) : FnOk P w K mg base CX0 3 (a 2) (d 2) ["thing"] spRef := by
  refine T.F_refuse_no_count.ok sc_refuse_no_count (fun vs H Q E h => ?_) (fun cdv A outer s0 H vs Q E hr h => ?_)
  · obtain ⟨n, rfl, n0, q⟩ := h
    rfl
  · obtain ⟨n, rfl, n0, q⟩ := h
    refine ⟨_, (pss_one (ps_if (pt_not (pt_truth (pe_call (ok_is_count T) (hr.mono (by decide)) (by rfl) T.g_is_count T.F_is_count.kp T.b_is_count .nil pass0 (pa_cons (pv 0) pa_nil)) (by intro _; rfl))) (pss_one ps_never) pss_nil)), ?_⟩
    refine ⟨_, rfl, n, rfl, n0, true, rfl, iteF ?_⟩
    exact q

theorem ok_least_of {P : Program} {w : World} {K : PySem.W.Frag} {mg : Str → Option Value} {base : Heap} {a : Nat → Addr} {d : Nat → FuncData} (T : Txt K mg a d) : FnOk P w K mg base CX0 1 (a 11) (d 11) ["ticks", "drift"] spLeast := by
  refine T.F_least_of.ok sc_least_of (fun vs H Q E h => ?_) (fun cdv A outer s0 H vs Q E hr h => ?_)
  · obtain ⟨n, t, b, p, rfl, n0, ⟨hd, t0, tb, b1⟩, q⟩ := h
    rfl
  · obtain ⟨n, t, b, p, rfl, n0, ⟨hd, t0, tb, b1⟩, q⟩ := h
    refine ⟨_, (pss_cons (ps_asg (pv 1) (pg_tup (by rfl) (pgs_cons (pg_name (i := 2) sc_least_of.nd rfl (.inl rfl)) (pgs_cons (pg_name (i := 3) sc_least_of.nd rfl (.inl rfl)) pgs_nil)))) (pss_one (ps_ret (pe_un un_neg (pe_op op_fdivW (pe_op op_mul (pe_un un_neg (pv 0)) (pv 3)) (pe_op op_add (pv 3) (pv 2))))))), ?_⟩
    refine ⟨_, rfl, p, _, rfl, SqT.of hd, rfl, _, _, rfl, _, _, rfl, rfl, ?_⟩
    refine ⟨_, rfl, n, rfl, _, rfl, -n, b, rfl, rfl, .inr (m64 (by omega) (by omega)), _, rfl, _, rfl, b, t, rfl, rfl, _, _, rfl, rfl, divW (by omega) (p2000 (by omega)), _, rfl, ?_⟩
    exact q

theorem ok_most_of {P : Program} {w : World} {K : PySem.W.Frag} {mg : Str → Option Value} {base : Heap} {a : Nat → Addr} {d : Nat → FuncData} (T : Txt K mg a d) : FnOk P w K mg base CX0 1 (a 12) (d 12) ["ticks", "drift"] spMost := by
  refine T.F_most_of.ok sc_most_of (fun vs H Q E h => ?_) (fun cdv A outer s0 H vs Q E hr h => ?_)
  · obtain ⟨n, t, b, p, rfl, n0, ⟨hd, t0, tb, b1⟩, q⟩ := h
    rfl
  · obtain ⟨n, t, b, p, rfl, n0, ⟨hd, t0, tb, b1⟩, q⟩ := h
    refine ⟨_, (pss_cons (ps_asg (pv 1) (pg_tup (by rfl) (pgs_cons (pg_name (i := 2) sc_most_of.nd rfl (.inl rfl)) (pgs_cons (pg_name (i := 3) sc_most_of.nd rfl (.inl rfl)) pgs_nil)))) (pss_one (ps_ret (pe_op op_fdivW (pe_op op_sub (pe_op op_mul (pe_op op_add (pv 0) pe_int) (pv 3)) pe_int) (pe_op op_sub (pv 3) (pv 2)))))), ?_⟩
    refine ⟨_, rfl, p, _, rfl, SqT.of hd, rfl, _, _, rfl, _, _, rfl, rfl, ?_⟩
    refine ⟨_, rfl, n, 1, rfl, rfl, _, rfl, _, b, rfl, rfl, .inr (m64 (by omega) (by omega)), _, 1, rfl, rfl, _, rfl, _, rfl, b, t, rfl, rfl, _, _, rfl, rfl, divW (by omega) (p2000 (by omega)), ?_⟩
    exact q

theorem ok_least_passed {P : Program} {w : World} {K : PySem.W.Frag} {mg : Str → Option Value} {base : Heap} {a : Nat → Addr} {d : Nat → FuncData} (T : Txt K mg a d) : FnOk P w K mg base CX0 4 (a 3) (d 3) ["ticks", "drift"] spLeast := by
  refine T.F_least_passed.ok sc_least_passed (fun vs H Q E h => ?_) (fun cdv A outer s0 H vs Q E hr h => ?_)
  · obtain ⟨n, t, b, p, rfl, n0, hd, q⟩ := h
    rfl
  · obtain ⟨n, t, b, p, rfl, n0, hd, q⟩ := h
    refine ⟨_, (pss_cons (ps_expr (pe_call (ok_refuse_no_count T) (hr.mono (by decide)) (by rfl) T.g_refuse_no_count T.F_refuse_no_count.kp T.b_refuse_no_count .nil pass0 (pa_cons (pv 0) pa_nil))) (pss_one (ps_ret (pe_call (ok_least_of T) (hr.mono (by decide)) (by rfl) T.g_least_of T.F_least_of.kp T.b_least_of .nil pass0 (pa_cons (pv 0) (pa_cons (pv 1) pa_nil)))))), ?_⟩
    refine ⟨_, rfl, n, rfl, n0, ?_⟩
    exact ⟨_, rfl, _, rfl, n, t, b, p, rfl, n0, hd, q⟩

theorem ok_most_passed {P : Program} {w : World} {K : PySem.W.Frag} {mg : Str → Option Value} {base : Heap} {a : Nat → Addr} {d : Nat → FuncData} (T : Txt K mg a d) : FnOk P w K mg base CX0 4 (a 4) (d 4) ["ticks", "drift"] spMost := by
  refine T.F_most_passed.ok sc_most_passed (fun vs H Q E h => ?_) (fun cdv A outer s0 H vs Q E hr h => ?_)
  · obtain ⟨n, t, b, p, rfl, n0, hd, q⟩ := h
    rfl
  · obtain ⟨n, t, b, p, rfl, n0, hd, q⟩ := h
    refine ⟨_, (pss_cons (ps_expr (pe_call (ok_refuse_no_count T) (hr.mono (by decide)) (by rfl) T.g_refuse_no_count T.F_refuse_no_count.kp T.b_refuse_no_count .nil pass0 (pa_cons (pv 0) pa_nil))) (pss_one (ps_ret (pe_call (ok_most_of T) (hr.mono (by decide)) (by rfl) T.g_most_of T.F_most_of.kp T.b_most_of .nil pass0 (pa_cons (pv 0) (pa_cons (pv 1) pa_nil)))))), ?_⟩
    refine ⟨_, rfl, n, rfl, n0, ?_⟩
    exact ⟨_, rfl, _, rfl, n, t, b, p, rfl, n0, hd, q⟩

theorem ok_l_begun {P : Program} {w : World} {K : PySem.W.Frag} {mg : Str → Option Value} {base : Heap} {a : Nat → Addr} {d : Nat → FuncData} (T : Txt K mg a d) : FnOk P w K mg base CX0 1 (a 5) (d 5) ["_law_script", "_law_k"] (spBegun K) := by
  refine T.F_l_begun.ok sc_l_begun (fun vs H Q E h => ?_) (fun cdv A outer s0 H vs Q E hr h => ?_)
  · obtain ⟨l, ns, k, rfl, hS, hl, hk0, hk1, q⟩ := h
    rfl
  · obtain ⟨l, ns, k, rfl, hS, hl, hk0, hk1, q⟩ := h
    have hc := cell_at ns (some k) (some (k + 1))
    obtain ⟨c, hc⟩ := hc
    refine ⟨_, (pss_cons (ps_set (i := 2) sc_l_begun.nd rfl (Or.inl rfl) (pe_ix ix_list (pe_op op_cat (pe_slice sl_list (pv 0) (po_some (pv 1)) (po_some (pe_op op_add (pv 1) pe_int))) (pe_lst (pa_cons pe_int pa_nil))) pe_int (fun _ _ => rfl))) (pss_cons (ps_set (i := 3) sc_l_begun.nd rfl (Or.inl rfl) (pe_callB (call_max2 rfl) (by rfl) T.z_max (by decide +kernel) (pa_cons (pv 2) (pa_cons (pe_op op_sub (pe_un un_neg pe_int) (pv 2)) pa_nil)))) (pss_cons (ps_set (i := 4) sc_l_begun.nd rfl (Or.inl rfl) (pe_op op_mod (pe_op op_add (pe_op op_add (pe_op op_add (pe_op op_mod (pv 3) pe_int) (pe_op op_mul pe_int (pv 1))) (pe_op op_mul (pe_op op_mul pe_int (pv 1)) (pv 1))) pe_int) pe_int)) (pss_one (ps_ret (pe_lst (pa_cons (pv 3) (pa_cons (pv 4) (pa_cons (pe_cmpR op_ge (pv 3) (pe_op op_pow pe_int pe_int) (nomark _)) pa_nil))))))))), ?_⟩
    refine ⟨_, rfl, _, rfl, k, rfl, _, rfl, k, 1, rfl, rfl, k + 1, rfl, l, _, rfl, hS, fun p1 n1 => ?_⟩
    refine ⟨len1, fun p2 n2 => ?_⟩
    have n12 : p1 ≠ p2 := fun e => by rw [e] at n1; rw [← e, upd_same] at n2; cases n2
    refine ⟨p1, p2, _, _, rfl, rfl, (by rw [upd_ne n12]; exact upd_same), upd_same, ?_, fun p3 n3 => ?_⟩
    · have z := cut_len (ns.map V.int) (some k) (some (k + 1))
      rw [List.length_map] at z
      exact Nat.le_trans (Nat.add_le_add_right (Nat.le_trans z hl) 1) (by decide)
    refine ⟨p3, _, 0, _, rfl, rfl, SqL.of upd_same, hc, ?_⟩
    refine ⟨_, rfl, 1, rfl, _, rfl, -1, c, rfl, rfl, c, -1 - c, rfl, ?_⟩
    refine ⟨_, rfl, _, _, rfl, rfl, (by show (0 : Int) < 2147483629; decide), _, rfl, 7919, k, rfl, rfl, .inl (m64 (by decide) (by decide)), _, _, rfl, rfl, ?_⟩
    refine ⟨_, rfl, 104729, k, rfl, rfl, .inl (m64 (by decide) (by decide)), _, rfl, _, k, rfl, rfl, .inr (m64 (by omega) (by omega)), _, _, rfl, rfl, _, 11, rfl, rfl, _, _, rfl, rfl, (by show (0 : Int) < 2147483629; decide), ?_⟩
    refine ⟨_, rfl, _, rfl, _, rfl, 10, 18, rfl, rfl, ⟨by decide, by decide, by decide⟩, _, _, rfl, rfl, len3, fun p4 n4 => ?_⟩
    refine q p4 _ (Same.free (same_new (same_new (same_new (Same.refl H) n1) n2) n3) n4) (same_new (same_new (same_new (same_new (Same.refl H) n1) n2) n3) n4) ⟨_, _, _, upd_same, ?_, ?_⟩
    · exact Int.emod_nonneg _ (by decide)
    · exact Int.lt_trans (Int.emod_lt_of_pos _ (by decide)) (by decide)

theorem ok_l_take {P : Program} {w : World} {K : PySem.W.Frag} {mg : Str → Option Value} {base : Heap} {a : Nat → Addr} {d : Nat → FuncData} (T : Txt K mg a d) : FnOk P w K mg base CX0 1 (a 6) (d 6) ["_law_state", "_law_many"] spTake := by
  refine T.F_l_take.ok sc_l_take (fun vs H Q E h => ?_) (fun cdv A outer s0 H vs Q E hr h => ?_)
  · obtain ⟨s, m, rfl, ⟨x, y, c, hs, y0, y1⟩, m0, m1, q⟩ := h
    rfl
  · obtain ⟨s, m, rfl, ⟨x, y, c, hs, y0, y1⟩, m0, m1, q⟩ := h
    refine ⟨_, (pss_cons (ps_if (pt_truth (pe_ix ix_list (pv 0) pe_int (fun _ _ => rfl)) (by intro _; rfl)) (pss_cons (ps_set (i := 2) sc_l_take.nd rfl (Or.inl rfl) (pe_op op_mod (pe_ix ix_list (pv 0) pe_int (fun _ _ => rfl)) (pv 1))) (pss_cons (ps_asg (pe_op op_fdivW (pe_ix ix_list (pv 0) pe_int (fun _ _ => rfl)) (pv 1)) (pg_sub (pv 0) pe_int set_list)) (pss_cons (ps_asg (pe_cmpR op_gt (pe_ix ix_list (pv 0) pe_int (fun _ _ => rfl)) pe_int (nomark _)) (pg_sub (pv 0) pe_int set_list)) (pss_one (ps_ret (pv 2)))))) pss_nil) (pss_cons (ps_set (i := 3) sc_l_take.nd rfl (Or.inl rfl) pe_int) (pss_cons (ps_for PassesOwn.never rfl (pi_range1 (by rfl) T.z_range (pa_cons (pe_op op_add pe_int (pe_callTy call_int1 (by rfl) T.z_int (by decide +kernel) (pa_cons (pe_cmpR op_gt (pv 1) (pe_op op_pow pe_int pe_int) (nomark _)) pa_nil))) pa_nil)) (pg_name (i := 4) sc_l_take.nd rfl (.inl rfl)) (pss_cons (ps_asg (pe_op op_mod (pe_op op_add (pe_op op_mul (pe_ix ix_list (pv 0) pe_int (fun _ _ => rfl)) pe_int) pe_int) pe_int) (pg_sub (pv 0) pe_int set_list)) (pss_one (ps_set (i := 3) sc_l_take.nd rfl (Or.inl rfl) (pe_op op_add (pe_op op_mul (pv 3) pe_int) (pe_op op_mod (pe_op op_mul (pe_ix ix_list (pv 0) pe_int (fun _ _ => rfl)) (pe_ix ix_list (pv 0) pe_int (fun _ _ => rfl))) pe_int)))))) (pss_one (ps_ret (pe_op op_mod (pe_op op_fdiv (pv 3) pe_int) (pv 1))))))), ?_⟩
    refine ⟨_, rfl, s, _, 2, _, rfl, rfl, SqL.of hs, rfl, c, rfl, ?_⟩
    cases c with
    | true =>
      refine iteT ?_
      refine ⟨_, rfl, s, _, 0, _, rfl, rfl, SqL.of hs, rfl, _, rfl, x, m, rfl, rfl, m0, ?_⟩
      refine ⟨_, rfl, s, _, 0, _, rfl, rfl, SqL.of hs, rfl, _, rfl, x, m, rfl, rfl, divW m0 (p2000 m1), _, rfl, s, _, 0, 0, rfl, rfl, hs, rfl, ?_⟩
      refine ⟨_, rfl, s, _, 0, _, rfl, rfl, SqL.of upd_same, rfl, _, 0, rfl, rfl, _, rfl, s, _, 2, 2, rfl, rfl, upd_same, rfl, ?_⟩
      refine ⟨_, rfl, ?_⟩
      refine q _ _ (Int.emod_nonneg _ (by omega)) (Int.emod_lt_of_pos _ m0) ⟨fun b o n e => ?_, ⟨_, _, _, upd_same, y0, y1⟩⟩
      rw [upd_ne n, upd_ne n]
      exact e
    | false =>
      refine iteF ?_
      refine ⟨_, rfl, 10, 6, rfl, rfl, ⟨by decide, by decide, by decide⟩, m, _, rfl, rfl, .inr ⟨_, rfl, 1, _, rfl, rfl, _, rfl, ?_, ?_, ?_⟩⟩
      · cases decide ((10 : Int) ^ (6 : Int).toNat < m) <;> decide
      · cases decide ((10 : Int) ^ (6 : Int).toNat < m) <;> decide
      refine for_range (fun i σ H' => ∃ (made : Int) (t : Option V), σ = [some (.ref s), some (.int m), none, some (.int made), t] ∧ Kp s H H') ⟨0, none, rfl, ⟨fun _ _ _ e => e, _, _, _, hs, y0, y1⟩⟩ ?_ ?_
      · rintro i σ H' hi ⟨made, t, rfl, k, ⟨x', y', c', hs', y0', y1'⟩⟩
        refine ⟨_, rfl, s, _, 1, _, rfl, rfl, SqL.of hs', rfl, y', 48271, rfl, rfl, .inr (m64 (by decide) (by decide)), _, 11, rfl, rfl, _, 2147483647, rfl, rfl, (by show (0 : Int) < 2147483647; decide), _, rfl, s, _, 1, 1, rfl, rfl, hs', rfl, ?_⟩
        have e0 : 0 ≤ (y' * 48271 + 11) % 2147483647 := Int.emod_nonneg _ (by decide)
        have e1 : (y' * 48271 + 11) % 2147483647 < 2147483647 := Int.emod_lt_of_pos _ (by decide)
        refine ⟨_, rfl, made, 2147483587, rfl, rfl, .inr (m64 (by decide) (by decide)), _, rfl, s, _, 1, _, rfl, rfl, SqL.of upd_same, rfl, _, rfl, s, _, 1, _, rfl, rfl, SqL.of upd_same, rfl, _, _, rfl, rfl, .inl (m64 (by omega) (by omega)), _, 2147483587, rfl, rfl, (by show (0 : Int) < 2147483587; decide), _, _, rfl, rfl, ?_⟩
        refine ⟨_, _, rfl, ⟨fun b o n e => ?_, _, _, _, upd_same, e0, e1⟩⟩
        rw [upd_ne n]
        exact k b o n e
      · rintro σ H' ⟨made, t, rfl, k⟩
        refine ⟨_, rfl, made, 64, rfl, rfl, ⟨by decide, by decide⟩, _, rfl, _, m, rfl, rfl, m0, ?_⟩
        exact q _ _ (Int.emod_nonneg _ (by omega)) (Int.emod_lt_of_pos _ m0) k

theorem ok_l_low {P : Program} {w : World} {K : PySem.W.Frag} {mg : Str → Option Value} {base : Heap} {a : Nat → Addr} {d : Nat → FuncData} (T : Txt K mg a d) : FnOk P w K mg base CX0 1 (a 7) (d 7) ["_law_upper", "_law_lower"] spLow := by
  refine T.F_l_low.ok sc_l_low (fun vs H Q E h => ?_) (fun cdv A outer s0 H vs Q E hr h => ?_)
  · obtain ⟨u, l, rfl, u0, l0, l1, q⟩ := h
    rfl
  · obtain ⟨u, l, rfl, u0, l0, l1, q⟩ := h
    refine ⟨_, (pss_cons (ps_par (i := 2) (j := 3) (by rfl) sc_l_low.nd rfl rfl (by decide) rfl rfl (pa_cons (pe_callB call_abs (by rfl) T.z_abs (by decide +kernel) (pa_cons (pv 0) pa_nil)) (pa_cons (pv 1) pa_nil)) (by rfl)) (pss_cons (ps_while PassesOwn.never (pt_cmpR op_ne (pv 3) pe_int (nomark _)) (pss_one (ps_par (i := 2) (j := 3) (by rfl) sc_l_low.nd rfl rfl (by decide) rfl rfl (pa_cons (pv 3) (pa_cons (pe_op op_mod (pv 2) (pv 3)) pa_nil)) (by rfl)))) (pss_one (ps_ret (pe_tup (pa_cons (pe_op op_fdivW (pv 0) (pv 2)) (pa_cons (pe_op op_fdivW (pv 1) (pv 2)) pa_nil))))))), ?_⟩
    refine ⟨_, rfl, u, rfl, _, rfl, _, _, rfl, ?_⟩
    refine ⟨fun m σ H' => H' = H ∧ ∃ h t : Int, σ = [some (.int u), some (.int l), some (.int h), some (.int t)] ∧ m = t.toNat ∧ 0 ≤ h ∧ 0 ≤ t ∧ Int.gcd h t = Int.gcd u l, ⟨_, rfl, u, l, ?_, rfl, u0, by omega, rfl⟩, ?_⟩
    · have e : (if u < 0 then -u else u) = u := if_neg (by omega)
      rw [e]
      rfl
    rintro m σ H' ⟨rfl, h, t, rfl, rfl, h0, t0, eg⟩
    refine ⟨_, rfl, rfl, _, rfl, ?_⟩
    by_cases hz : t = 0
    · subst hz
      refine iteNS rfl ?_
      obtain ⟨hp, e1, e2, e3, hl⟩ := low_end u0 l0 h0 eg
      have hb : h < 2 ^ 2000 := Int.lt_of_le_of_lt hl l1
      refine ⟨_, rfl, _, rfl, u, h, rfl, rfl, divW hp hb, _, rfl, _, rfl, l, h, rfl, rfl, divW hp hb, len2, fun p np => ?_⟩
      exact q h _ _ p hp e1 e2 e3 np
    · have tp : 0 < t := by omega
      refine iteND (fun e => hz (by injection e)) ?_
      refine ⟨_, fun _ _ z => z, ?_⟩
      refine ⟨_, rfl, _, rfl, _, rfl, h, t, rfl, rfl, tp, _, _, rfl, ?_⟩
      have e0 := Int.emod_nonneg h (show t ≠ 0 by omega)
      have e1 := Int.emod_lt_of_pos h tp
      exact ⟨(h % t).toNat, by omega, rfl, t, h % t, rfl, rfl, t0, e0, (gcd_turn h0 tp).trans eg⟩

theorem ok_l_drift {P : Program} {w : World} {K : PySem.W.Frag} {mg : Str → Option Value} {base : Heap} {a : Nat → Addr} {d : Nat → FuncData} (T : Txt K mg a d) : FnOk P w K mg base CX0 2 (a 8) (d 8) ["_law_state"] spDrift := by
  refine T.F_l_drift.ok sc_l_drift (fun vs H Q E h => ?_) (fun cdv A outer s0 H vs Q E hr h => ?_)
  · obtain ⟨s, rfl, hs, q⟩ := h
    rfl
  · obtain ⟨s, rfl, hs, q⟩ := h
    refine ⟨_, (pss_cons (ps_set (i := 1) sc_l_drift.nd rfl (Or.inl rfl) (pe_op op_add pe_int (pe_call (ok_l_take T) (hr.mono (by decide)) (by rfl) T.g_l_take T.F_l_take.kp T.b_l_take .nil pass0 (pa_cons (pv 0) (pa_cons (pe_ix ix_list (pe_lst (pa_cons pe_int (pa_cons pe_int (pa_cons pe_int pa_nil)))) (pe_call (ok_l_take T) (hr.mono (by decide)) (by rfl) T.g_l_take T.F_l_take.kp T.b_l_take .nil pass0 (pa_cons (pv 0) (pa_cons pe_int pa_nil))) (fun _ _ => rfl)) pa_nil))))) (pss_cons (ps_set (i := 2) sc_l_drift.nd rfl (Or.inl rfl) (pe_lst (pa_cons (pe_tup (pa_cons pe_int (pa_cons pe_int pa_nil))) (pa_cons (pe_tup (pa_cons pe_int (pa_cons pe_int pa_nil))) (pa_cons (pe_tup (pa_cons pe_int (pa_cons pe_int pa_nil))) (pa_cons (pe_tup (pa_cons pe_int (pa_cons pe_int pa_nil))) (pa_cons (pe_call (ok_l_low T) (hr.mono (by decide)) (by rfl) T.g_l_low T.F_l_low.kp T.b_l_low .nil pass0 (pa_cons (pe_call (ok_l_take T) (hr.mono (by decide)) (by rfl) T.g_l_take T.F_l_take.kp T.b_l_take .nil pass0 (pa_cons (pv 0) (pa_cons (pv 1) pa_nil))) (pa_cons (pv 1) pa_nil))) pa_nil))))))) (pss_one (ps_ret (pe_ix ix_list (pv 2) (pe_call (ok_l_take T) (hr.mono (by decide)) (by rfl) T.g_l_take T.F_l_take.kp T.b_l_take .nil pass0 (pa_cons (pv 0) (pa_cons pe_int pa_nil))) (fun _ _ => rfl)))))), ?_⟩
    refine ⟨_, rfl, len3, fun p1 n1 => ?_⟩
    refine ⟨_, rfl, s, 3, rfl, hs.new n1, (by decide), (by decide), fun r1 H1 r10 r11 K1 => ?_⟩
    have g1 : H1 p1 = some (.lst [.int 9, .int 100, .int 999]) := K1.1 _ _ (hs.ne_new n1) upd_same
    obtain ⟨z, hz, z0, z1⟩ : ∃ z : Int, atI [V.int 9, V.int 100, V.int 999] r1 = some (V.int z) ∧ 0 < z ∧ z ≤ 999 := by
      have : r1 = 0 ∨ r1 = 1 ∨ r1 = 2 := by omega
      rcases this with rfl | rfl | rfl
      · exact ⟨9, rfl, by decide, by decide⟩
      · exact ⟨100, rfl, by decide, by decide⟩
      · exact ⟨999, rfl, by decide, by decide⟩
    have k1 : Kp s H H1 := (hs.kp.new n1).trans K1
    refine ⟨p1, _, r1, _, rfl, rfl, SqL.of g1, hz, ?_⟩
    refine ⟨s, z, rfl, K1.2, z0, by omega, fun r2 H2 r20 r21 K2 => ?_⟩
    refine ⟨2, r2, rfl, rfl, ?_⟩
    have k2 := k1.trans K2
    -- the five drifts
    refine ⟨len2, fun q1 m1 => ?_⟩
    have k3 := k2.new (o := .tup [.int 1, .int 100]) m1
    refine ⟨len2, fun q2 m2 => ?_⟩
    have k4 := k3.new (o := .tup [.int 0, .int 1]) m2
    refine ⟨len2, fun q3 m3 => ?_⟩
    have k5 := k4.new (o := .tup [.int 1, .int 2]) m3
    refine ⟨len2, fun q4 m4 => ?_⟩
    have k6 := k5.new (o := .tup [.int 999, .int 1000]) m4
    refine ⟨_, rfl, _, rfl, s, _, rfl, k6.2, (by omega), (by omega), fun r3 H3 r30 r31 K3 => ?_⟩
    have k7 := k6.trans K3
    refine ⟨_, rfl, r3, 2 + r2, rfl, r30, by omega, p2000 (by omega), fun g x y q5 hg ex ey _ m5 => ?_⟩
    have k8 := k7.new (o := .tup [.int x, .int y]) m5
    refine ⟨(by decide : 5 ≤ sizeLine), fun pl nl => ?_⟩
    have k9 := k8.new (o := .lst [.ref q1, .ref q2, .ref q3, .ref q4, .ref q5]) nl
    refine ⟨_, rfl, _, rfl, s, 5, rfl, k9.2, (by decide), (by decide), fun r4 H4 r40 r41 K4 => ?_⟩
    have k10 := k9.trans K4
    have gl : H4 pl = some (.lst [.ref q1, .ref q2, .ref q3, .ref q4, .ref q5]) := K4.1 _ _ (k8.2.ne_new nl) upd_same
    have t1 : ∀ {xs : List V} {c : Addr}, upd (upd (upd H2 q1 (.tup [.int 1, .int 100])) q2 (.tup [.int 0, .int 1])) q3 (.tup [.int 1, .int 2]) c = some (.tup xs) → H4 c = some (.tup xs) := fun {xs c} e =>
      (((k5.2.kp.new m4).trans K3).new m5 |>.new nl |>.trans K4).tup k5.2 e
    have h1 : H4 q1 = some (.tup [.int 1, .int 100]) := t1 (((k3.2.kp.new m2).new m3).tup k3.2 upd_same)
    have h2 : H4 q2 = some (.tup [.int 0, .int 1]) := t1 ((k4.2.kp.new m3).tup k4.2 upd_same)
    have h3 : H4 q3 = some (.tup [.int 1, .int 2]) := t1 upd_same
    have h4 : H4 q4 = some (.tup [.int 999, .int 1000]) := ((K3.new m5).new nl |>.trans K4).tup k6.2 upd_same
    have h5 : H4 q5 = some (.tup [.int x, .int y]) := ((k8.2.kp.new nl).trans K4).tup k8.2 upd_same
    have x0 := nn_of_mul hg r30 ex
    have y0 := pos_of_mul hg (show 0 < 2 + r2 by omega) ey
    have y1 := le_of_gmul hg (Int.le_of_lt y0) ey
    have xy : x < y := lt_cancel hg (by omega)
    have hcase : r4 = 0 ∨ r4 = 1 ∨ r4 = 2 ∨ r4 = 3 ∨ r4 = 4 := by omega
    rcases hcase with rfl | rfl | rfl | rfl | rfl
    · exact ⟨pl, _, 0, _, rfl, rfl, SqL.of gl, rfl, q 1 100 q1 H4 k10 ⟨h1, by decide, by decide, by decide⟩⟩
    · exact ⟨pl, _, 1, _, rfl, rfl, SqL.of gl, rfl, q 0 1 q2 H4 k10 ⟨h2, by decide, by decide, by decide⟩⟩
    · exact ⟨pl, _, 2, _, rfl, rfl, SqL.of gl, rfl, q 1 2 q3 H4 k10 ⟨h3, by decide, by decide, by decide⟩⟩
    · exact ⟨pl, _, 3, _, rfl, rfl, SqL.of gl, rfl, q 999 1000 q4 H4 k10 ⟨h4, by decide, by decide, by decide⟩⟩
    · exact ⟨pl, _, 4, _, rfl, rfl, SqL.of gl, rfl, q x y q5 H4 k10 ⟨h5, x0, xy, by omega⟩⟩

theorem ok_l_pace {P : Program} {w : World} {K : PySem.W.Frag} {mg : Str → Option Value} {base : Heap} {a : Nat → Addr} {d : Nat → FuncData} (T : Txt K mg a d) : FnOk P w K mg base CX0 2 (a 9) (d 9) ["_law_state", "_law_drift_here"] spPace := by
  refine T.F_l_pace.ok sc_l_pace (fun vs H Q E h => ?_) (fun cdv A outer s0 H vs Q E hr h => ?_)
  · obtain ⟨s, dr, t, b, rfl, hs, ⟨hd, t0, tb, b1⟩, q⟩ := h
    rfl
  · obtain ⟨s, dr, t, b, rfl, hs, ⟨hd, t0, tb, b1⟩, q⟩ := h
    refine ⟨_, (pss_cons (ps_set (i := 2) sc_l_pace.nd rfl (Or.inl rfl) (pe_ix ix_tup (pv 1) pe_int (fun _ _ => rfl))) (pss_cons (ps_set (i := 3) sc_l_pace.nd rfl (Or.inl rfl) (pe_op op_add pe_int (pe_call (ok_l_take T) (hr.mono (by decide)) (by rfl) T.g_l_take T.F_l_take.kp T.b_l_take .nil pass0 (pa_cons (pv 0) (pa_cons pe_int pa_nil))))) (pss_cons (ps_set (i := 4) sc_l_pace.nd rfl (Or.inl rfl) (pe_ix ix_list (pe_lst (pa_cons pe_int (pa_cons (pv 3) (pa_cons (pe_call (ok_l_take T) (hr.mono (by decide)) (by rfl) T.g_l_take T.F_l_take.kp T.b_l_take .nil pass0 (pa_cons (pv 0) (pa_cons (pe_op op_add (pv 3) pe_int) pa_nil))) pa_nil)))) (pe_call (ok_l_take T) (hr.mono (by decide)) (by rfl) T.g_l_take T.F_l_take.kp T.b_l_take .nil pass0 (pa_cons (pv 0) (pa_cons pe_int pa_nil))) (fun _ _ => rfl))) (pss_cons (ps_set (i := 5) sc_l_pace.nd rfl (Or.inl rfl) (pe_op op_add (pe_op op_mul (pe_op op_sub (pv 2) (pe_ix ix_tup (pv 1) pe_int (fun _ _ => rfl))) (pv 3)) (pe_op op_mul (pe_op op_mul pe_int (pe_ix ix_tup (pv 1) pe_int (fun _ _ => rfl))) (pv 4)))) (pss_one (ps_ret (pe_call (ok_l_low T) (hr.mono (by decide)) (by rfl) T.g_l_low T.F_l_low.kp T.b_l_low .nil pass0 (pa_cons (pv 5) (pa_cons (pe_op op_mul (pv 2) (pv 3)) pa_nil))))))))), ?_⟩
    refine ⟨_, rfl, dr, _, 1, _, rfl, rfl, SqT.of hd, rfl, ?_⟩
    refine ⟨_, rfl, s, 7, rfl, hs, (by decide), (by decide), fun r1 H1 r10 r11 K1 => ?_⟩
    refine ⟨1, r1, rfl, rfl, ?_⟩
    have d1 := K1.tup hs hd
    refine ⟨_, rfl, _, rfl, _, rfl, 1 + r1, 1, rfl, rfl, s, _, rfl, K1.2, (by omega), (by omega), fun r2 H2 r20 r21 K2 => ?_⟩
    have k2 := K1.trans K2
    refine ⟨len3, fun p1 n1 => ?_⟩
    have k3 := k2.new (o := .lst [.int 0, .int (1 + r1), .int r2]) n1
    refine ⟨_, rfl, s, 3, rfl, k3.2, (by decide), (by decide), fun r3 H3 r30 r31 K3 => ?_⟩
    have k4 := k3.trans K3
    have g1 : H3 p1 = some (.lst [.int 0, .int (1 + r1), .int r2]) := K3.1 _ _ (k2.2.ne_new n1) upd_same
    obtain ⟨part, hp, p0, p1'⟩ : ∃ z : Int, atI [V.int 0, V.int (1 + r1), V.int r2] r3 = some (V.int z) ∧ 0 ≤ z ∧ z ≤ 1 + r1 := by
      have : r3 = 0 ∨ r3 = 1 ∨ r3 = 2 := by omega
      rcases this with rfl | rfl | rfl
      · exact ⟨0, rfl, by decide, by omega⟩
      · exact ⟨1 + r1, rfl, by omega, by omega⟩
      · exact ⟨r2, rfl, by omega, by omega⟩
    refine ⟨p1, _, r3, _, rfl, rfl, SqL.of g1, hp, ?_⟩
    have d3 := k4.tup hs hd
    refine ⟨_, rfl, _, rfl, dr, _, 0, _, rfl, rfl, SqT.of d3, rfl, b, t, rfl, rfl, _, rfl, b - t, 1 + r1, rfl, rfl, .inr (m64 (by omega) (by omega)), _, rfl, dr, _, 0, _, rfl, rfl, SqT.of d3, rfl, 2, t, rfl, rfl, .inl (m64 (by decide) (by decide)), _, rfl, 2 * t, part, rfl, rfl, .inr (m64 (by omega) (by omega)), _, _, rfl, rfl, ?_⟩
    have u0 : 0 ≤ (b - t) * (1 + r1) + 2 * t * part := Int.add_nonneg (Int.mul_nonneg (by omega) (by omega)) (Int.mul_nonneg (by omega) p0)
    have l0 : 0 < b * (1 + r1) := Int.mul_pos (by omega) (by omega)
    have l1 : b * (1 + r1) ≤ 1000 * 7 := Int.le_trans (Int.mul_le_mul_of_nonneg_right b1 (by omega)) (Int.mul_le_mul_of_nonneg_left (by omega) (by decide))
    refine ⟨_, rfl, _, rfl, _, rfl, b, 1 + r1, rfl, rfl, .inr (m64 (by omega) (by omega)), _, _, rfl, u0, l0, p2000 (by omega), fun g x y p hg ex ey _ np => ?_⟩
    exact q x y p _ (k4.new np) ⟨upd_same, pace_math t0 tb b1 (by omega) (by omega) p0 p1' hg ex ey⟩

theorem ok_law {P : Program} {w : World} {K : PySem.W.Frag} {mg : Str → Option Value} {base : Heap} {a : Nat → Addr} {d : Nat → FuncData} (T : Txt K mg a d) : FnOk P w K mg base CX0 5 (a 10) (d 10) ["_law_script"] (spLaw K) := by
  refine T.F_law.ok sc_law (fun vs H Q E h => ?_) (fun cdv A outer s0 H vs Q E hr h => ?_)
  · obtain ⟨l, ns, rfl, hS, hl, q⟩ := h
    rfl
  · obtain ⟨l, ns, rfl, hS, hl, q⟩ := h
    refine ⟨_, (pss_cons (ps_for PassesOwn.never rfl (pi_range1 (by rfl) T.z_range (pa_cons (pe_callB (call_max2 rfl) (by rfl) T.z_max (by decide +kernel) (pa_cons pe_int (pa_cons (pe_callB (call_min2 rfl) (by rfl) T.z_min (by decide +kernel) (pa_cons pe_int (pa_cons (pe_callB call_len_seq (by rfl) T.z_len PySem.boot_len (pa_cons (pv 0) pa_nil)) pa_nil))) pa_nil))) pa_nil)) (pg_name (i := 1) sc_law.nd rfl (.inl rfl)) (pss_cons (ps_set (i := 2) sc_law.nd rfl (Or.inl rfl) (pe_call (ok_l_begun T) (hr.mono (by decide)) (by rfl) T.g_l_begun T.F_l_begun.kp T.b_l_begun .nil pass0 (pa_cons (pv 0) (pa_cons (pv 1) pa_nil)))) (pss_cons (ps_set (i := 3) sc_law.nd rfl (Or.inl rfl) (pe_call (ok_l_drift T) (hr.mono (by decide)) (by rfl) T.g_l_drift T.F_l_drift.kp T.b_l_drift .nil pass0 (pa_cons (pv 2) pa_nil))) (pss_cons (ps_set (i := 4) sc_law.nd rfl (Or.inl rfl) (pe_tup (pa_cons pe_int (pa_cons pe_int pa_nil)))) (pss_cons (ps_set (i := 5) sc_law.nd rfl (Or.inl rfl) pe_int) (pss_one (ps_for PassesOwn.never rfl (pi_range1 (by rfl) T.z_range (pa_cons (pe_op op_add pe_int (pe_call (ok_l_take T) (hr.mono (by decide)) (by rfl) T.g_l_take T.F_l_take.kp T.b_l_take .nil pass0 (pa_cons (pv 2) (pa_cons pe_int pa_nil)))) pa_nil)) (pg_name (i := 6) sc_law.nd rfl (.inl rfl)) (pss_cons (ps_set (i := 7) sc_law.nd rfl (Or.inl rfl) (pe_call (ok_l_pace T) (hr.mono (by decide)) (by rfl) T.g_l_pace T.F_l_pace.kp T.b_l_pace .nil pass0 (pa_cons (pv 2) (pa_cons (pv 3) pa_nil)))) (pss_cons (ps_set (i := 8) sc_law.nd rfl (Or.inl rfl) (pe_ix ix_list (pe_lst (pa_cons pe_int (pa_cons pe_int (pa_cons pe_int (pa_cons (pe_call (ok_l_take T) (hr.mono (by decide)) (by rfl) T.g_l_take T.F_l_take.kp T.b_l_take .nil pass0 (pa_cons (pv 2) (pa_cons pe_int pa_nil))) (pa_cons (pe_call (ok_l_take T) (hr.mono (by decide)) (by rfl) T.g_l_take T.F_l_take.kp T.b_l_take .nil pass0 (pa_cons (pv 2) (pa_cons (pe_op op_pow pe_int pe_int) pa_nil))) pa_nil)))))) (pe_call (ok_l_take T) (hr.mono (by decide)) (by rfl) T.g_l_take T.F_l_take.kp T.b_l_take .nil pass0 (pa_cons (pv 2) (pa_cons pe_int pa_nil))) (fun _ _ => rfl))) (pss_cons (ps_set (i := 4) sc_law.nd rfl (Or.inl rfl) (pe_call (ok_l_low T) (hr.mono (by decide)) (by rfl) T.g_l_low T.F_l_low.kp T.b_l_low .nil pass0 (pa_cons (pe_op op_add (pe_op op_mul (pe_ix ix_tup (pv 4) pe_int (fun _ _ => rfl)) (pe_ix ix_tup (pv 7) pe_int (fun _ _ => rfl))) (pe_op op_mul (pe_op op_mul (pv 8) (pe_ix ix_tup (pv 7) pe_int (fun _ _ => rfl))) (pe_ix ix_tup (pv 4) pe_int (fun _ _ => rfl)))) (pa_cons (pe_op op_mul (pe_ix ix_tup (pv 4) pe_int (fun _ _ => rfl)) (pe_ix ix_tup (pv 7) pe_int (fun _ _ => rfl))) pa_nil)))) (pss_cons (ps_set (i := 5) sc_law.nd rfl (Or.inl rfl) (pe_op op_add (pv 5) (pv 8))) (pss_cons (ps_set (i := 9) sc_law.nd rfl (Or.inl rfl) (pe_op op_fdivW (pe_ix ix_tup (pv 4) pe_int (fun _ _ => rfl)) (pe_ix ix_tup (pv 4) pe_int (fun _ _ => rfl)))) (pss_one (ps_if (pt_not (pt_chain op_le op_le (pe_call (ok_least_passed T) (hr.mono (by decide)) (by rfl) T.g_least_passed T.F_least_passed.kp T.b_least_passed .nil pass0 (pa_cons (pv 9) (pa_cons (pv 3) pa_nil))) (pv 5) (pe_call (ok_most_passed T) (hr.mono (by decide)) (by rfl) T.g_most_passed T.F_most_passed.kp T.b_most_passed .nil pass0 (pa_cons (pv 9) (pa_cons (pv 3) pa_nil))))) (pss_one (ps_ret pe_bl)) pss_nil)))))))))))))) (pss_one (ps_ret pe_bl))), ?_⟩
    refine ⟨_, rfl, l, _, rfl, .inl hS, 10, _, rfl, 1, _, rfl, _, rfl, ?_, ?_, ?_⟩
    · rw [List.length_map]; (repeat' split) <;> omega
    · rw [List.length_map]; (repeat' split) <;> omega
    have hN : (if (if ((ns.map V.int).length : Int) < 10 then ((ns.map V.int).length : Int) else 10) > 1 then (if ((ns.map V.int).length : Int) < 10 then ((ns.map V.int).length : Int) else 10) else (1 : Int)).toNat ≤ 10 := by
      rw [List.length_map]; (repeat' split) <;> omega
    refine for_range (fun i σ H' => Same H H' ∧ ∃ v1 v2 v3 v4 v5 v6 v7 v8 v9 : Option V, σ = [some (.ref l), v1, v2, v3, v4, v5, v6, v7, v8, v9]) ⟨Same.refl H, none, none, none, none, none, none, none, none, none, rfl⟩ ?_ ?_
    · rintro i σ H1 hi ⟨s1, v1, v2, v3, v4, v5, v6, v7, v8, v9, rfl⟩
      refine ⟨_, rfl, _, rfl, l, ns, _, rfl, s1.seq hS, hl, by omega, by omega, fun s H2 ns0 s2 hs2 => ?_⟩
      have sH2 : Same H H2 := s1.trans s2
      have ns1 : H s = none := s1.free ns0
      refine ⟨_, rfl, s, rfl, hs2, fun t b dr H3 K3 hd3 => ?_⟩
      refine ⟨len2, fun pg ng => ?_⟩
      have K4 := K3.new (o := .tup [.int 0, .int 1]) ng
      have hd4 : DrAt (upd H3 pg (.tup [.int 0, .int 1])) dr t b := ⟨by rw [upd_ne (ne_of_none hd3.1 ng)]; exact hd3.1, hd3.2⟩
      refine ⟨_, rfl, s, 30, rfl, K4.2, (by decide), (by decide), fun r1 H4 r10 r11 K5 => ?_⟩
      refine ⟨1, r1, rfl, rfl, _, rfl, by omega, by omega, ?_⟩
      have K6 := K4.trans K5
      have hd5 : DrAt H4 dr t b := ⟨K5.tup K4.2 hd4.1, hd4.2⟩
      have hg5 : H4 pg = some (.tup [.int 0, .int 1]) := K5.tup K4.2 upd_same
      obtain ⟨_, t0, tb, b1⟩ := id hd5
      refine for_range (fun j σ H' => Kp s H4 H' ∧ ∃ (x y p : Int) (g : Addr) (v6 v7 v8 v9 : Option V), σ = [some (.ref l), some (.int (0 + (i : Int))), some (.ref s), some (.ref dr), some (.ref g), some (.int p), v6, v7, v8, v9] ∧ H' g = some (.tup [.int x, .int y]) ∧ Path t b x y p j)
        ⟨K6.2.kp, 0, 1, 0, pg, v6, v7, v8, v9, rfl, hg5, Path.start⟩ ?_ ?_
      · rintro j σ H5 hj ⟨K7, x, y, p, g, v6, v7, v8, v9, rfl, hg, hp⟩
        have hj30 : j ≤ 30 := by omega
        have hdr := K7.tup K6.2 hd5.1
        refine ⟨_, rfl, _, rfl, s, dr, t, b, rfl, K7.2, ⟨hdr, t0, tb, b1⟩, fun px py pp H6 K8 hpc => ?_⟩
        obtain ⟨hpp, x0, x1, y0, y1, w1, w2⟩ := hpc
        -- many
        refine ⟨_, rfl, s, 50, rfl, K8.2, (by decide), (by decide), fun a1 H7 a10 a11 K9 => ?_⟩
        refine ⟨_, rfl, _, _, rfl, rfl, ⟨by decide, by decide, by decide⟩, s, _, rfl, K9.2, (by decide), (by decide), fun a2 H8 a20 a21 K10 => ?_⟩
        refine ⟨(by decide : 5 ≤ sizeLine), fun pm nm => ?_⟩
        have K11 := (K8.trans K9).trans K10
        have K12 := K11.new (o := .lst [.int 0, .int 1, .int 2, .int a1, .int a2]) nm
        refine ⟨_, rfl, s, 5, rfl, K12.2, (by decide), (by decide), fun a3 H9 a30 a31 K13 => ?_⟩
        have gm : H9 pm = some (.lst [.int 0, .int 1, .int 2, .int a1, .int a2]) := K13.1 _ _ (K11.2.ne_new nm) upd_same
        obtain ⟨m, hm, m0, m1⟩ : ∃ z : Int, atI [V.int 0, V.int 1, V.int 2, V.int a1, V.int a2] a3 = some (V.int z) ∧ 0 ≤ z ∧ z ≤ 1000000 := by
          have a21' : a2 < 1000000 := a21
          have : a3 = 0 ∨ a3 = 1 ∨ a3 = 2 ∨ a3 = 3 ∨ a3 = 4 := by omega
          rcases this with rfl | rfl | rfl | rfl | rfl
          · exact ⟨0, rfl, by decide, by decide⟩
          · exact ⟨1, rfl, by decide, by decide⟩
          · exact ⟨2, rfl, by decide, by decide⟩
          · exact ⟨a1, rfl, by omega, by omega⟩
          · exact ⟨a2, rfl, by omega, by omega⟩
        refine ⟨pm, _, a3, _, rfl, rfl, SqL.of gm, hm, ?_⟩
        have K14 := K12.trans K13
        have K15 := K7.trans K14
        have hg9 : H9 g = some (.tup [.int x, .int y]) := K14.tup K7.2 hg
        have hp9 : H9 pp = some (.tup [.int px, .int py]) := (((K9.trans K10).new nm).trans K13).tup K8.2 hpp
        have hd9 : H9 dr = some (.tup [.int t, .int b]) := K15.tup K6.2 hd5.1
        have mp0 : 0 ≤ m * px := Int.mul_nonneg m0 x0
        have mp1 : m * px ≤ 1000000 * 14000 := Int.le_trans (Int.mul_le_mul_of_nonneg_right m1 x0) (Int.mul_le_mul_of_nonneg_left x1 (by decide))
        have yb := hp.big (show j ≤ 32 by omega)
        -- gone
        refine ⟨_, rfl, g, _, 0, _, rfl, rfl, SqT.of hg9, rfl, _, rfl, pp, _, 1, _, rfl, rfl, SqT.of hp9, rfl, x, py, rfl, rfl, .inr (m64 (by omega) (by omega)), ?_⟩
        refine ⟨_, rfl, _, rfl, pp, _, 0, _, rfl, rfl, SqT.of hp9, rfl, m, px, rfl, rfl, .inr (m64 (by omega) (by omega)), _, rfl, g, _, 1, _, rfl, rfl, SqT.of hg9, rfl, m * px, y, rfl, rfl, .inl (m64 (by omega) (by omega)), _, _, rfl, rfl, ?_⟩
        refine ⟨_, rfl, g, _, 1, _, rfl, rfl, SqT.of hg9, rfl, _, rfl, pp, _, 1, _, rfl, rfl, SqT.of hp9, rfl, y, py, rfl, rfl, .inr (m64 (by omega) (by omega)), ?_⟩
        have u0 : 0 ≤ x * py + m * px * y := Int.add_nonneg (Int.mul_nonneg hp.x0 (by omega)) (Int.mul_nonneg mp0 (Int.le_of_lt hp.y0))
        have l0 : 0 < y * py := Int.mul_pos hp.y0 y0
        have l1 : y * py < 2 ^ 2000 := by
          have z1 := Int.mul_le_mul_of_nonneg_right hp.y1 (Int.le_of_lt y0)
          have z2 := Int.mul_le_mul_of_nonneg_left y1 (Int.le_of_lt (show (0 : Int) < 7000 ^ j from Int.pow_pos (by decide)))
          have z3 := pow_mono_i (show j + 1 ≤ 32 by omega)
          rw [Int.pow_succ] at z3
          have z4 : (7000 : Int) ^ 32 < 2 ^ 2000 := by decide
          omega
        refine ⟨_, _, rfl, u0, l0, l1, fun G x' y' g' hG ex ey _ ng' => ?_⟩
        have hp' := hp.more t0 tb m0 x0 y0 y1 w1 w2 hG ex ey
        have K16 := K15.new (o := .tup [.int x', .int y']) ng'
        have hdA : DrAt (upd H9 g' (.tup [.int x', .int y'])) dr t b := ⟨K16.tup K6.2 hd5.1, t0, tb, b1⟩
        refine ⟨_, rfl, _, rfl, p, m, rfl, rfl, ?_⟩
        refine ⟨_, rfl, g', _, 0, _, rfl, rfl, SqT.of upd_same, rfl, _, rfl, g', _, 1, _, rfl, rfl, SqT.of upd_same, rfl, x', y', rfl, rfl, divW hp'.y0 (hp'.big (by omega)), ?_⟩
        have c0 : 0 ≤ x' / y' := Int.ediv_nonneg hp'.x0 (Int.le_of_lt hp'.y0)
        refine ⟨_, rfl, _, rfl, _, t, b, dr, rfl, c0, hdA, _, rfl, _, _, rfl, rfl, _, rfl, ?_⟩
        refine iteDT (hp'.least t0 tb) ?_
        refine ⟨_, rfl, _, rfl, _, t, b, dr, rfl, c0, hdA, _, _, rfl, rfl, _, rfl, ?_⟩
        refine iteNS (hp'.most t0 tb) ?_
        exact ⟨K16, x', y', p + m, g', _, _, _, _, rfl, upd_same, hp'⟩
      · rintro σ H5 ⟨K7, x, y, p, g, v6, v7, v8, v9, rfl, hg, hp⟩
        refine ⟨Kp.same sH2 ns1 (K6.trans K7), _, _, _, _, _, _, _, _, _, rfl⟩
    · rintro σ H1 ⟨s1, v1, v2, v3, v4, v5, v6, v7, v8, v9, rfl⟩
      exact q _

theorem all_mk {l : PySem.W.OpenLaw} {w : World} {K : PySem.W.Frag} {h : Heap} {mg : Str → Option Value} {fa : Addr} {f0 f1 f2 f3 f4 f5 f6 f7 f8 f9 f10 f11 f12 : Addr} (X : K.In h) (G : h.Ns mainGlobals mg) (hfa : mg "law" = some (.ref fa))
    {od0 od1 od2 od3 od4 od5 od6 od7 od8 od9 od10 od11 od12 : Option Addr} {an0 an1 an2 an3 an4 an5 an6 an7 an8 an9 an10 an11 an12 : Option Addr} {sl0 sl1 sl2 sl3 sl4 sl5 sl6 sl7 sl8 sl9 sl10 sl11 sl12 : Array (Option Value)} {oc0 kV0 dc0 pm0 cd0 ct0 oc1 kV1 dc1 pm1 cd1 ct1 oc2 kV2 dc2 pm2 cd2 ct2 oc3 kV3 dc3 pm3 cd3 ct3 oc4 kV4 dc4 pm4 cd4 ct4 oc5 kV5 dc5 pm5 cd5 ct5 oc6 kV6 dc6 pm6 cd6 ct6 oc7 kV7 dc7 pm7 cd7 ct7 oc8 kV8 dc8 pm8 cd8 ct8 oc9 kV9 dc9 pm9 cd9 ct9 oc10 kV10 dc10 pm10 cd10 ct10 oc11 kV11 dc11 pm11 cd11 ct11 oc12 kV12 dc12 pm12 cd12 ct12 : Value}
    (a0 : PySem.W.nsIn K mainGlobals "is_whole" = some (some (.ref f0)))
    (l0 : K.lookup f0 = some ⟨oc0, od0, .func (PySem.W.fnOf "is_whole" "is_whole" (defArgs s_is_whole) (defBody s_is_whole) (defScope s_is_whole) .none kV0 dc0 pm0 an0 cd0 ct0), sl0⟩) (c0 : PySem.W.codeIn K cd0 "is_whole" = true) (k0 : PySem.W.keepIn K (.ref f0) = true)
    (a1 : PySem.W.nsIn K mainGlobals "is_count" = some (some (.ref f1)))
    (l1 : K.lookup f1 = some ⟨oc1, od1, .func (PySem.W.fnOf "is_count" "is_count" (defArgs s_is_count) (defBody s_is_count) (defScope s_is_count) .none kV1 dc1 pm1 an1 cd1 ct1), sl1⟩) (c1 : PySem.W.codeIn K cd1 "is_count" = true) (k1 : PySem.W.keepIn K (.ref f1) = true)
    (a2 : PySem.W.nsIn K mainGlobals "refuse_no_count" = some (some (.ref f2)))
    (l2 : K.lookup f2 = some ⟨oc2, od2, .func (PySem.W.fnOf "refuse_no_count" "refuse_no_count" (defArgs s_refuse_no_count) (defBody s_refuse_no_count) (defScope s_refuse_no_count) .none kV2 dc2 pm2 an2 cd2 ct2), sl2⟩) (c2 : PySem.W.codeIn K cd2 "refuse_no_count" = true) (k2 : PySem.W.keepIn K (.ref f2) = true)
    (a3 : PySem.W.nsIn K mainGlobals "least_passed" = some (some (.ref f3)))
    (l3 : K.lookup f3 = some ⟨oc3, od3, .func (PySem.W.fnOf "least_passed" "least_passed" (defArgs s_least_passed) (defBody s_least_passed) (defScope s_least_passed) .none kV3 dc3 pm3 an3 cd3 ct3), sl3⟩) (c3 : PySem.W.codeIn K cd3 "least_passed" = true) (k3 : PySem.W.keepIn K (.ref f3) = true)
    (a4 : PySem.W.nsIn K mainGlobals "most_passed" = some (some (.ref f4)))
    (l4 : K.lookup f4 = some ⟨oc4, od4, .func (PySem.W.fnOf "most_passed" "most_passed" (defArgs s_most_passed) (defBody s_most_passed) (defScope s_most_passed) .none kV4 dc4 pm4 an4 cd4 ct4), sl4⟩) (c4 : PySem.W.codeIn K cd4 "most_passed" = true) (k4 : PySem.W.keepIn K (.ref f4) = true)
    (a5 : PySem.W.nsIn K mainGlobals "_law_begun" = some (some (.ref f5)))
    (l5 : K.lookup f5 = some ⟨oc5, od5, .func (PySem.W.fnOf "_law_begun" "_law_begun" (defArgs s_l_begun) (defBody s_l_begun) (defScope s_l_begun) .none kV5 dc5 pm5 an5 cd5 ct5), sl5⟩) (c5 : PySem.W.codeIn K cd5 "_law_begun" = true) (k5 : PySem.W.keepIn K (.ref f5) = true)
    (a6 : PySem.W.nsIn K mainGlobals "_law_take" = some (some (.ref f6)))
    (l6 : K.lookup f6 = some ⟨oc6, od6, .func (PySem.W.fnOf "_law_take" "_law_take" (defArgs s_l_take) (defBody s_l_take) (defScope s_l_take) .none kV6 dc6 pm6 an6 cd6 ct6), sl6⟩) (c6 : PySem.W.codeIn K cd6 "_law_take" = true) (k6 : PySem.W.keepIn K (.ref f6) = true)
    (a7 : PySem.W.nsIn K mainGlobals "_law_low" = some (some (.ref f7)))
    (l7 : K.lookup f7 = some ⟨oc7, od7, .func (PySem.W.fnOf "_law_low" "_law_low" (defArgs s_l_low) (defBody s_l_low) (defScope s_l_low) .none kV7 dc7 pm7 an7 cd7 ct7), sl7⟩) (c7 : PySem.W.codeIn K cd7 "_law_low" = true) (k7 : PySem.W.keepIn K (.ref f7) = true)
    (a8 : PySem.W.nsIn K mainGlobals "_law_drift" = some (some (.ref f8)))
    (l8 : K.lookup f8 = some ⟨oc8, od8, .func (PySem.W.fnOf "_law_drift" "_law_drift" (defArgs s_l_drift) (defBody s_l_drift) (defScope s_l_drift) .none kV8 dc8 pm8 an8 cd8 ct8), sl8⟩) (c8 : PySem.W.codeIn K cd8 "_law_drift" = true) (k8 : PySem.W.keepIn K (.ref f8) = true)
    (a9 : PySem.W.nsIn K mainGlobals "_law_pace" = some (some (.ref f9)))
    (l9 : K.lookup f9 = some ⟨oc9, od9, .func (PySem.W.fnOf "_law_pace" "_law_pace" (defArgs s_l_pace) (defBody s_l_pace) (defScope s_l_pace) .none kV9 dc9 pm9 an9 cd9 ct9), sl9⟩) (c9 : PySem.W.codeIn K cd9 "_law_pace" = true) (k9 : PySem.W.keepIn K (.ref f9) = true)
    (a10 : PySem.W.nsIn K mainGlobals "law" = some (some (.ref f10)))
    (l10 : K.lookup f10 = some ⟨oc10, od10, .func (PySem.W.fnOf "law" "law" (defArgs s_law) (defBody s_law) (defScope s_law) .none kV10 dc10 pm10 an10 cd10 ct10), sl10⟩) (c10 : PySem.W.codeIn K cd10 "law" = true) (k10 : PySem.W.keepIn K (.ref f10) = true)
    (a11 : PySem.W.nsIn K mainGlobals "least_of" = some (some (.ref f11)))
    (l11 : K.lookup f11 = some ⟨oc11, od11, .func (PySem.W.fnOf "least_of" "least_of" (defArgs s_least_of) (defBody s_least_of) (defScope s_least_of) .none kV11 dc11 pm11 an11 cd11 ct11), sl11⟩) (c11 : PySem.W.codeIn K cd11 "least_of" = true) (k11 : PySem.W.keepIn K (.ref f11) = true)
    (a12 : PySem.W.nsIn K mainGlobals "most_of" = some (some (.ref f12)))
    (l12 : K.lookup f12 = some ⟨oc12, od12, .func (PySem.W.fnOf "most_of" "most_of" (defArgs s_most_of) (defBody s_most_of) (defScope s_most_of) .none kV12 dc12 pm12 an12 cd12 ct12), sl12⟩) (c12 : PySem.W.codeIn K cd12 "most_of" = true) (k12 : PySem.W.keepIn K (.ref f12) = true)
    (z_max : PySem.W.nsIn K mainGlobals "max" = some none)
    (z_min : PySem.W.nsIn K mainGlobals "min" = some none)
    (z_abs : PySem.W.nsIn K mainGlobals "abs" = some none)
    (z_len : PySem.W.nsIn K mainGlobals "len" = some none)
    (z_int : PySem.W.nsIn K mainGlobals "int" = some none)
    (z_range : PySem.W.nsIn K mainGlobals "range" = some none)
    (z_isinstance : PySem.W.nsIn K mainGlobals "isinstance" = some none)
    (z_bool : PySem.W.nsIn K mainGlobals "bool" = some none)
    : ∃ fd : FuncData, (∀ (s : Shared) (v : Value), BindsTo s fd ⟨[v], []⟩ [("_law_script", v)]) ∧ ∀ base : Heap, K.In base → base.Ns mainGlobals mg → FnOk l.prog w K mg base CX0 5 fa fd ["_law_script"] (spLaw K) := by
  have e := hfa.symm.trans (PySem.W.mg_of X G a10)
  cases e
  have F0 := fun_mk (st := s_is_whole) l0 c0 k0
  have b0 := F0.binds (ps := ["thing"]) fun _ _ _ _ _ _ us hl => match us, hl with | [_], _ => rfl
  have F1 := fun_mk (st := s_is_count) l1 c1 k1
  have b1 := F1.binds (ps := ["thing"]) fun _ _ _ _ _ _ us hl => match us, hl with | [_], _ => rfl
  have F2 := fun_mk (st := s_refuse_no_count) l2 c2 k2
  have b2 := F2.binds (ps := ["thing"]) fun _ _ _ _ _ _ us hl => match us, hl with | [_], _ => rfl
  have F3 := fun_mk (st := s_least_passed) l3 c3 k3
  have b3 := F3.binds (ps := ["ticks", "drift"]) fun _ _ _ _ _ _ us hl => match us, hl with | [_, _], _ => rfl
  have F4 := fun_mk (st := s_most_passed) l4 c4 k4
  have b4 := F4.binds (ps := ["ticks", "drift"]) fun _ _ _ _ _ _ us hl => match us, hl with | [_, _], _ => rfl
  have F5 := fun_mk (st := s_l_begun) l5 c5 k5
  have b5 := F5.binds (ps := ["_law_script", "_law_k"]) fun _ _ _ _ _ _ us hl => match us, hl with | [_, _], _ => rfl
  have F6 := fun_mk (st := s_l_take) l6 c6 k6
  have b6 := F6.binds (ps := ["_law_state", "_law_many"]) fun _ _ _ _ _ _ us hl => match us, hl with | [_, _], _ => rfl
  have F7 := fun_mk (st := s_l_low) l7 c7 k7
  have b7 := F7.binds (ps := ["_law_upper", "_law_lower"]) fun _ _ _ _ _ _ us hl => match us, hl with | [_, _], _ => rfl
  have F8 := fun_mk (st := s_l_drift) l8 c8 k8
  have b8 := F8.binds (ps := ["_law_state"]) fun _ _ _ _ _ _ us hl => match us, hl with | [_], _ => rfl
  have F9 := fun_mk (st := s_l_pace) l9 c9 k9
  have b9 := F9.binds (ps := ["_law_state", "_law_drift_here"]) fun _ _ _ _ _ _ us hl => match us, hl with | [_, _], _ => rfl
  have F10 := fun_mk (st := s_law) l10 c10 k10
  have b10 := F10.binds (ps := ["_law_script"]) fun _ _ _ _ _ _ us hl => match us, hl with | [_], _ => rfl
  have F11 := fun_mk (st := s_least_of) l11 c11 k11
  have b11 := F11.binds (ps := ["ticks", "drift"]) fun _ _ _ _ _ _ us hl => match us, hl with | [_, _], _ => rfl
  have F12 := fun_mk (st := s_most_of) l12 c12 k12
  have b12 := F12.binds (ps := ["ticks", "drift"]) fun _ _ _ _ _ _ us hl => match us, hl with | [_, _], _ => rfl
  let a : Nat → Addr := fun i => match i with | 0 => f0 | 1 => f1 | 2 => f2 | 3 => f3 | 4 => f4 | 5 => f5 | 6 => f6 | 7 => f7 | 8 => f8 | 9 => f9 | 10 => fa | 11 => f11 | 12 => f12 | _ => 0
  let d : Nat → FuncData := fun i => match i with | 0 => (PySem.W.fnOf "is_whole" "is_whole" (defArgs s_is_whole) (defBody s_is_whole) (defScope s_is_whole) .none kV0 dc0 pm0 an0 cd0 ct0) | 1 => (PySem.W.fnOf "is_count" "is_count" (defArgs s_is_count) (defBody s_is_count) (defScope s_is_count) .none kV1 dc1 pm1 an1 cd1 ct1) | 2 => (PySem.W.fnOf "refuse_no_count" "refuse_no_count" (defArgs s_refuse_no_count) (defBody s_refuse_no_count) (defScope s_refuse_no_count) .none kV2 dc2 pm2 an2 cd2 ct2) | 3 => (PySem.W.fnOf "least_passed" "least_passed" (defArgs s_least_passed) (defBody s_least_passed) (defScope s_least_passed) .none kV3 dc3 pm3 an3 cd3 ct3) | 4 => (PySem.W.fnOf "most_passed" "most_passed" (defArgs s_most_passed) (defBody s_most_passed) (defScope s_most_passed) .none kV4 dc4 pm4 an4 cd4 ct4) | 5 => (PySem.W.fnOf "_law_begun" "_law_begun" (defArgs s_l_begun) (defBody s_l_begun) (defScope s_l_begun) .none kV5 dc5 pm5 an5 cd5 ct5) | 6 => (PySem.W.fnOf "_law_take" "_law_take" (defArgs s_l_take) (defBody s_l_take) (defScope s_l_take) .none kV6 dc6 pm6 an6 cd6 ct6) | 7 => (PySem.W.fnOf "_law_low" "_law_low" (defArgs s_l_low) (defBody s_l_low) (defScope s_l_low) .none kV7 dc7 pm7 an7 cd7 ct7) | 8 => (PySem.W.fnOf "_law_drift" "_law_drift" (defArgs s_l_drift) (defBody s_l_drift) (defScope s_l_drift) .none kV8 dc8 pm8 an8 cd8 ct8) | 9 => (PySem.W.fnOf "_law_pace" "_law_pace" (defArgs s_l_pace) (defBody s_l_pace) (defScope s_l_pace) .none kV9 dc9 pm9 an9 cd9 ct9) | 10 => (PySem.W.fnOf "law" "law" (defArgs s_law) (defBody s_law) (defScope s_law) .none kV10 dc10 pm10 an10 cd10 ct10) | 11 => (PySem.W.fnOf "least_of" "least_of" (defArgs s_least_of) (defBody s_least_of) (defScope s_least_of) .none kV11 dc11 pm11 an11 cd11 ct11) | 12 => (PySem.W.fnOf "most_of" "most_of" (defArgs s_most_of) (defBody s_most_of) (defScope s_most_of) .none kV12 dc12 pm12 an12 cd12 ct12) | _ => (PySem.W.fnOf "law" "law" (defArgs s_law) (defBody s_law) (defScope s_law) .none kV10 dc10 pm10 an10 cd10 ct10)
  have T : Txt K mg a d := ⟨PySem.W.mg_of X G a0, F0, b0, PySem.W.mg_of X G a1, F1, b1, PySem.W.mg_of X G a2, F2, b2, PySem.W.mg_of X G a3, F3, b3, PySem.W.mg_of X G a4, F4, b4, PySem.W.mg_of X G a5, F5, b5, PySem.W.mg_of X G a6, F6, b6, PySem.W.mg_of X G a7, F7, b7, PySem.W.mg_of X G a8, F8, b8, PySem.W.mg_of X G a9, F9, b9, PySem.W.mg_of X G a10, F10, b10, PySem.W.mg_of X G a11, F11, b11, PySem.W.mg_of X G a12, F12, b12, PySem.W.mg_none_of X G z_max, PySem.W.mg_none_of X G z_min, PySem.W.mg_none_of X G z_abs, PySem.W.mg_none_of X G z_len, PySem.W.mg_none_of X G z_int, PySem.W.mg_none_of X G z_range, PySem.W.mg_none_of X G z_isinstance, PySem.W.mg_none_of X G z_bool⟩
  exact ⟨(PySem.W.fnOf "law" "law" (defArgs s_law) (defBody s_law) (defScope s_law) .none kV10 dc10 pm10 an10 cd10 ct10), fun s v => .of_eq rfl, fun base _ _ => ok_law T⟩
theorem walk {l : PySem.W.OpenLaw} {q : Program} {loose : List Str} {XP : (Str → Option Value) → Heap → Prop} {YP : World → Heap → Prop} {d : DefRec} {K : Params → PySem.W.Frag} (hn : l.most = some 63) (hdf : d.params.defaults = [])
    (hY : ∀ (w : World) (h : Heap), YP w h → (K w.params).In h)
    (F : ∀ (w : World) (mg : Str → Option Value) (fa : Addr) (h : Heap), (K w.params).In h → h.Ns mainGlobals mg → mg d.name = some (.ref fa) →
      ∃ fd : FuncData, (∀ (s : Shared) (u : Value), BindsTo s fd ⟨[u], []⟩ [("_law_script", u)]) ∧ ∀ base : Heap, (K w.params).In base → base.Ns mainGlobals mg → FnOk l.prog w (K w.params) mg base CX0 5 fa fd ["_law_script"] (spLaw (K w.params))) :
    PySem.W.WalkO q loose XP YP l.row.toRowW d [] (fun f vs => PySem.call f vs) :=
  L2.walk_of (n := 63) (k := 5) (x := "_law_script") (CX := fun _ => CX0) (sp := fun w => (spLaw (K w.params))) hn (by decide) hdf ⟨rfl, by decide, by decide⟩ hY F (fun _ _ a ns hl _ hS => ⟨a, ns, rfl, hS, hl, fun _ => rfl⟩) fun _ _ _ _ _ z => z
end M

open PySem PySem.W PyProof.Rows in
set_option maxRecDepth 100000 in
set_option maxHeartbeats 0 in
theorem PySem.Challenge.cw_stampedwait_k04_whole_whatever_pace_holds : PySem.Challenge.rw_stampedwait_k04_whole_whatever_pace.Holds := by
  w_on; o_law; k_head; (case hw => w_witness2)
  k_fill
  refine M.walk (l := PySem.Challenge.rw_stampedwait_k04_whole_whatever_pace) rfl rfl (fun w h Y => PySem.W.kIn_of Y) ?F
  case F =>
    intro w mg fa h KX G hmg
    refine' M.all_mk KX G hmg ?a0 ?l0 ?c0 ?k0 ?a1 ?l1 ?c1 ?k1 ?a2 ?l2 ?c2 ?k2 ?a3 ?l3 ?c3 ?k3 ?a4 ?l4 ?c4 ?k4 ?a5 ?l5 ?c5 ?k5 ?a6 ?l6 ?c6 ?k6 ?a7 ?l7 ?c7 ?k7 ?a8 ?l8 ?c8 ?k8 ?a9 ?l9 ?c9 ?k9 ?a10 ?l10 ?c10 ?k10 ?a11 ?l11 ?c11 ?k11 ?a12 ?l12 ?c12 ?k12 ?z_max ?z_min ?z_abs ?z_len ?z_int ?z_range ?z_isinstance ?z_bool
    (case a0 => k_is)
    (case l0 => k_is)
    (case c0 => k_is)
    (case k0 => k_is)
    (case a1 => k_is)
    (case l1 => k_is)
    (case c1 => k_is)
    (case k1 => k_is)
    (case a2 => k_is)
    (case l2 => k_is)
    (case c2 => k_is)
    (case k2 => k_is)
    (case a3 => k_is)
    (case l3 => k_is)
    (case c3 => k_is)
    (case k3 => k_is)
    (case a4 => k_is)
    (case l4 => k_is)
    (case c4 => k_is)
    (case k4 => k_is)
    (case a5 => k_is)
    (case l5 => k_is)
    (case c5 => k_is)
    (case k5 => k_is)
    (case a6 => k_is)
    (case l6 => k_is)
    (case c6 => k_is)
    (case k6 => k_is)
    (case a7 => k_is)
    (case l7 => k_is)
    (case c7 => k_is)
    (case k7 => k_is)
    (case a8 => k_is)
    (case l8 => k_is)
    (case c8 => k_is)
    (case k8 => k_is)
    (case a9 => k_is)
    (case l9 => k_is)
    (case c9 => k_is)
    (case k9 => k_is)
    (case a10 => k_is)
    (case l10 => k_is)
    (case c10 => k_is)
    (case k10 => k_is)
    (case a11 => k_is)
    (case l11 => k_is)
    (case c11 => k_is)
    (case k11 => k_is)
    (case a12 => k_is)
    (case l12 => k_is)
    (case c12 => k_is)
    (case k12 => k_is)
    (case z_max => k_is)
    (case z_min => k_is)
    (case z_abs => k_is)
    (case z_len => k_is)
    (case z_int => k_is)
    (case z_range => k_is)
    (case z_isinstance => k_is)
    (case z_bool => k_is)
