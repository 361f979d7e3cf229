import PyProof.Rows.All
import Wide.All
import OpenK.AllK
import Wide.FinOn
import HandS.ForMost
import HandS.ForExc
import HandS.Flow
import HandS.Style
import HandS.IsInst
import HandS.Wide
import HandS.Property
import HandS.ClsMeth
import HandS.SortInts
import HandS.Strs
import HandS.ExcInit
import HandS.ExcField
import HandS.Defaults
import KE.KOpsOwn
import KE.KIsAll
import KE.KTryMore
import HandS.ExcIs
import PyProof.NeKinds
import PyProof.TwoTypes
import HandS.NoneIn
import PySem.Challenge.RW_untilrows_k03_rows_that_are_shifted
set_option Elab.async false
set_option linter.all false
set_option maxRecDepth 100000
set_option maxHeartbeats 4000000
namespace Vf
open PySem PySem.Spec PyProof.Rows L2

/-! ### heaps -/
def Ex (H H' : Hp) : Prop := ∀ a o, H a = some o → H' a = some o
theorem Ex.refl (H : Hp) : Ex H H := fun _ _ h => h
theorem Ex.trans {H H1 H2 : Hp} (a : Ex H H1) (b : Ex H1 H2) : Ex H H2 := fun x o h => b x o (a x o h)
theorem Ex.new {H : Hp} {p : Addr} {o : HO} (h : H p = none) : Ex H (upd H p o) := fun a u e => by
  rw [upd_ne (ne_of_none e h)]
  exact e
theorem Ex.free {H H' : Hp} {p : Addr} (e : Ex H H') (h : H' p = none) : H p = none := by
  cases h1 : H p with
  | none => rfl
  | some o =>
    rw [e p o h1] at h
    cases h
/-- all but what stands at l is kept -/
def But (l : Addr) (H H' : Hp) : Prop := ∀ a o, a ≠ l → H a = some o → H' a = some o
theorem Ex.but {H H' : Hp} {l : Addr} (e : Ex H H') : But l H H' := fun a o _ h => e a o h
theorem But.refl (l : Addr) (H : Hp) : But l H H := fun _ _ _ h => h
theorem But.trans {l : Addr} {H H1 H2 : Hp} (a : But l H H1) (b : But l H1 H2) : But l H H2 := fun x o n h => b x o n (a x o n h)
theorem But.upd {l : Addr} {H : Hp} {o : HO} : But l H (upd H l o) := fun a u n e => by
  rw [upd_ne n]
  exact e
theorem But.free {l p : Addr} {H H' : Hp} {o : HO} (b : But l H H') (hl : H' l = some o) (h : H' p = none) : H p = none := by
  cases h1 : H p with
  | none => rfl
  | some u =>
    by_cases e : p = l
    · subst e; rw [hl] at h; cases h
    · rw [b p u e h1] at h; cases h
/-- l was new: the elder heap is kept as a whole -/
theorem Ex.mut {H H1 H2 : Hp} {l : Addr} (e : Ex H H1) (b : But l H1 H2) (n : H l = none) : Ex H H2 := fun a o h => b a o (ne_of_none h n) (e a o h)
theorem lkE {H H' : Hp} {a : Addr} {o : HO} (e : Ex H H') (h : H a = some o) : H' a = some o := e a o h
theorem lkB {H H' : Hp} {l a : Addr} {o : HO} (b : But l H H') (n : a ≠ l) (h : H a = some o) : H' a = some o := b a o n h
/-- tuples stay -/
def Tp (H H' : Hp) : Prop := ∀ a xs, H a = some (.tup xs) → H' a = some (.tup xs)
theorem Tp.refl (H : Hp) : Tp H H := fun _ _ h => h
theorem Tp.trans {H H1 H2 : Hp} (a : Tp H H1) (b : Tp H1 H2) : Tp H H2 := fun x o h => b x o (a x o h)
theorem Ex.tp {H H' : Hp} (e : Ex H H') : Tp H H' := fun a xs h => e a _ h
theorem But.tpL {H H' : Hp} {l : Addr} {xs : List V} (b : But l H H') (h : H l = some (.lst xs)) : Tp H H' := fun a ys q => b a _ (by
  intro e; subst e; rw [h] at q; cases q) q
theorem But.tpI {H H' : Hp} {l C dx : Addr} {fs : List (Str × V)} (b : But l H H') (h : H l = some (.ins C dx fs)) : Tp H H' := fun a ys q => b a _ (by
  intro e; subst e; rw [h] at q; cases q) q

/-- a new object: the heap gets a name -/
theorem al {H : Hp} {o : HO} {R : Addr → Hp → Prop} (k : ∀ p H', H p = none → Ex H H' → H' p = some o → R p H') : ∀ p, H p = none → R p (upd H p o) := fun p hp => k p _ hp (Ex.new hp) upd_same
/-- an object changed -/
theorem mu {H : Hp} {l : Addr} {o : HO} {R : Hp → Prop} (k : ∀ H', But l H H' → H' l = some o → R H') : R (upd H l o) := k _ But.upd upd_same

theorem szO {n : Nat} (h : n ≤ 16000000 := by decide) : n ≤ sizeLine := Nat.le_trans h (by decide)
theorem szL {n : Nat} (h : n < 16000000 := by decide) : n < sizeLine := Nat.lt_of_lt_of_le h (by decide)

/-! ### readings, step by step -/
section
variable {K : PySem.W.Frag} {σ : L2.St} {H : Hp} {Q : VK} {QB : Bool → Hp → Prop} {QL : List V → Hp → Prop} {QS : L2.St → Hp → Prop} {nx bk ct : L2.St → Hp → Prop} {rt : VK} {ta tb te tc : TE} {t u c : TT} {x y z v : V} {r : R2} {sa sb : TS} {g : TG} {tr tl : TA}
theorem r_var {i : Nat} (h : σ[i]? = some (some v)) (q : Q v H) : tVar i σ H Q := ⟨v, h, q⟩
theorem r_c (q : Q v H) : tC v σ H Q := q
theorem r_op (q : ta σ H fun x H1 => tb σ H1 fun y H2 => r x y H2 Q) : tOp r ta tb σ H Q := q
theorem r_un {r : V → Hp → VK → Prop} (q : ta σ H fun x H1 => r x H1 Q) : tUn r ta σ H Q := q
theorem r_I0 {g : Int → Int → V} {i j : Int} (q : Q (g i j) H) : rI0 g (.int i) (.int j) H Q := ⟨i, j, rfl, rfl, q⟩
theorem r_I {C : Int → Int → Prop} {g : Int → Int → V} {i j : Int} (hc : C i j) (q : Q (g i j) H) : rI C g (.int i) (.int j) H Q := ⟨i, j, rfl, rfl, hc, q⟩
theorem r_U {g : Int → V} {i : Int} (q : Q (g i) H) : rU g (.int i) H Q := ⟨i, rfl, q⟩
theorem r_eqI {i j : Int} (q : Q (.bl (decide (i = j))) H) : rEq (.int i) (.int j) H Q := ⟨rfl, by simpa using q⟩
theorem r_neI {i j : Int} (q : Q (.bl (!decide (i = j))) H) : rNe (.int i) (.int j) H Q := ⟨rfl, by simpa using q⟩
theorem r_eq (h : scal x y = true) (q : Q (.bl (decide (x = y))) H) : rEq x y H Q := ⟨h, q⟩
theorem r_ne (h : scal x y = true) (q : Q (.bl (!decide (x = y))) H) : rNe x y H Q := ⟨h, q⟩
theorem r_test (q : te σ H fun x H' => ∃ k, x = .bl k ∧ QB k H') : tTest te σ H QB := q
theorem r_tB (q : te σ H fun x H' => ∃ k, x = .bl k ∧ QB k H') : tB te σ H QB := q
theorem r_bl {b : Bool} (q : QB b H) : ∃ k, V.bl b = .bl k ∧ QB k H := ⟨b, rfl, q⟩
theorem r_and (q : t σ H fun c H1 => if c = true then u σ H1 QB else QB false H1) : tAnd t u σ H QB := q
theorem r_or (q : t σ H fun c H1 => if c = true then QB true H1 else u σ H1 QB) : tOr t u σ H QB := q
theorem r_not (q : t σ H fun c H1 => QB (!c) H1) : tNot t σ H QB := q
theorem r_andV (q : ta σ H fun x H1 => ∃ c, x = .bl c ∧ if c = true then tb σ H1 Q else Q (.bl false) H1) : tAndV ta tb σ H Q := q
theorem r_orV (q : ta σ H fun x H1 => ∃ c, x = .bl c ∧ if c = true then Q (.bl true) H1 else tb σ H1 Q) : tOrV ta tb σ H Q := q
theorem r_notV (q : ta σ H fun x H1 => ∃ c, x = .bl c ∧ Q (.bl (!c)) H1) : tNotV ta σ H Q := q
theorem r_bl1 {b : Bool} {A : Bool → Prop} (q : A b) : ∃ c, V.bl b = .bl c ∧ A c := ⟨b, rfl, q⟩
theorem r_isN (q : ta σ H fun x H1 => Q (.bl (decide (x = .non))) H1) : tIsN ta σ H Q := q
theorem r_notN (q : ta σ H fun x H1 => Q (.bl (!decide (x = .non))) H1) : tNotN ta σ H Q := q
theorem r_if (q : t σ H fun c H1 => if c = true then ta σ H1 Q else tb σ H1 Q) : tIf t ta tb σ H Q := q
theorem r_tup (q : tl σ H fun xs H1 => xs.length ≤ sizeLine ∧ ∀ p, H1 p = none → Q (.ref p) (upd H1 p (.tup xs))) : tTup tl σ H Q := q
theorem r_lst (q : tl σ H fun xs H1 => xs.length ≤ sizeLine ∧ ∀ p, H1 p = none → Q (.ref p) (upd H1 p (.lst xs))) : tLst tl σ H Q := q
theorem r_cons (q : ta σ H fun x H1 => tr σ H1 fun xs H2 => QL (x :: xs) H2) : tCons ta tr σ H QL := q
theorem r_nil (q : QL [] H) : tNil σ H QL := q
theorem r_CB {r : List V → Hp → VK → Prop} (q : tl σ H fun vs H1 => r vs H1 Q) : tCB r tl σ H Q := q
theorem r_call {sp : Sp} {dvs : List V} {E : XK} (q : tl σ H fun vs H1 => sp (vs ++ dvs) H1 Q E) : tCall sp dvs E tl σ H Q := q
/-! statements -/
theorem r_next (q : nx σ H) : tNext ⟨nx, rt, bk, ct⟩ σ H := q
theorem r_cont (q : ct σ H) : tCont ⟨nx, rt, bk, ct⟩ σ H := q
theorem r_break (q : bk σ H) : tBreak ⟨nx, rt, bk, ct⟩ σ H := q
theorem r_seq (q : sa ⟨sb ⟨nx, rt, bk, ct⟩, rt, bk, ct⟩ σ H) : tSeq sa sb ⟨nx, rt, bk, ct⟩ σ H := q
theorem r_asg (q : te σ H fun x H1 => g x σ H1 nx) : tAsg te g ⟨nx, rt, bk, ct⟩ σ H := q
theorem r_name {i : Nat} (q : QS (σ.set i (some v)) H) : gName i v σ H QS := q
theorem r_sub {ts : TSet} (q : ta σ H fun o H1 => tb σ H1 fun i H2 => ts o i v H2 fun H3 => QS σ H3) : gSub ta tb ts v σ H QS := q
theorem r_drop (q : te σ H fun _ H1 => nx σ H1) : tDrop te ⟨nx, rt, bk, ct⟩ σ H := q
theorem r_ret (q : te σ H rt) : tRet te ⟨nx, rt, bk, ct⟩ σ H := q
theorem r_retN (q : rt .non H) : tRetN ⟨nx, rt, bk, ct⟩ σ H := q
theorem r_ifS (q : t σ H fun b H1 => if b = true then sa ⟨nx, rt, bk, ct⟩ σ H1 else sb ⟨nx, rt, bk, ct⟩ σ H1) : tIfS t sa sb ⟨nx, rt, bk, ct⟩ σ H := q
theorem r_par {i j : Nat} (q : tl σ H fun vs H1 => ∃ v w, vs = [v, w] ∧ nx ((σ.set i (some v)).set j (some w)) H1) : tPar i j tl ⟨nx, rt, bk, ct⟩ σ H := q
/-! ends of tests -/
theorem if_b {b : Bool} {A B : Prop} (h1 : b = true → A) (h2 : b = false → B) : if b = true then A else B := by
  cases b with
  | true => exact h1 rfl
  | false => exact h2 rfl
theorem if_d {p : Prop} [Decidable p] {A B : Prop} (h1 : p → A) (h2 : ¬ p → B) : if decide p = true then A else B := by
  by_cases h : p
  · rw [decide_eq_true h]; exact h1 h
  · rw [decide_eq_false h]; exact h2 h
theorem if_dT {p : Prop} [Decidable p] {A B : Prop} (h : p) (q : A) : if decide p = true then A else B := if_d (fun _ => q) fun n => absurd h n
theorem if_dF {p : Prop} [Decidable p] {A B : Prop} (h : ¬ p) (q : B) : if decide p = true then A else B := if_d (fun y => absurd y h) fun _ => q
theorem if_nd {p : Prop} [Decidable p] {A B : Prop} (h1 : ¬ p → A) (h2 : p → B) : if (!decide p) = true then A else B := by
  by_cases h : p
  · rw [decide_eq_true h]; exact h2 h
  · rw [decide_eq_false h]; exact h1 h
theorem if_bT {b : Bool} {A B : Prop} (h : b = true) (q : A) : if b = true then A else B := by
  subst h; exact q
theorem if_bF {b : Bool} {A B : Prop} (h : b = false) (q : B) : if b = true then A else B := by
  subst h; exact q
theorem if_T {A B : Prop} (q : A) : if true = true then A else B := q
theorem if_F {A B : Prop} (q : B) : if false = true then A else B := q
/-! built-ins -/
theorem r_len {n : Nat} (h : LenV K x H n) (q : Q (.int n) H) : (fun xs H Q => ∃ x n, xs = [x] ∧ LenV K x H n ∧ Q (.int n) H) [x] H Q := ⟨x, n, rfl, h, q⟩
end
end Vf
namespace Vf
open PySem PySem.Spec PyProof.Rows L2
theorem pow1000 {i : Int} (h1 : -(2 ^ 1000) < i) (h2 : i < 2 ^ 1000) : i.natAbs < 2 ^ 1000 := by omega
theorem mulS {i j : Int} (h1 : -(2 ^ 1000) < i) (h2 : i < 2 ^ 1000) (h3 : -(2 ^ 1000) < j) (h4 : j < 2 ^ 1000) : CMulW i j := wide_mul (pow1000 h1 h2) (pow1000 h3 h4) (by decide) (by decide) (by decide)
theorem log2_lt {n k : Nat} (h : n < 2 ^ k) (hk : 0 < k) : n.log2 < k := by
  by_cases h0 : n = 0
  · subst h0; simpa using hk
  · exact (Nat.log2_lt h0).mpr h
theorem divS {i j : Int} (h1 : 0 < j) (h2 : j < 2 ^ 1000) : CDivW i j := ⟨h1, Nat.lt_trans (log2_lt (k := 1000) (by omega) (by decide)) (by decide)⟩
theorem powS {i j : Int} (h1 : 0 ≤ j) (h2 : j ≤ 1000000) (h3 : i.natAbs < 2 ^ 64) : CPow i j := ⟨h1, h2, h3⟩

/-! ### the bag of a law: three ints -/
def Bag (H : Hp) (b : Addr) (k : Nat) : Prop := ∃ a n c : Int, H b = some (.lst [.int a, .int n, .int c]) ∧ 0 ≤ a ∧ 0 ≤ n ∧ n < 12000000000000000000 ∧ 0 ≤ c ∧ c ≤ k
theorem Bag.ex {H H' : Hp} {b : Addr} {k : Nat} (h : Bag H b k) (e : Ex H H') : Bag H' b k := by
  obtain ⟨a, n, c, h1, h2⟩ := h
  exact ⟨a, n, c, e _ _ h1, h2⟩
theorem Bag.but {H H' : Hp} {b l : Addr} {k : Nat} (h : Bag H b k) (e : But l H H') (n : b ≠ l) : Bag H' b k := by
  obtain ⟨a, n', c, h1, h2⟩ := h
  exact ⟨a, n', c, e _ _ n h1, h2⟩
theorem Bag.mono {H : Hp} {b : Addr} {k j : Nat} (h : Bag H b k) (e : k ≤ j) : Bag H b j := by
  obtain ⟨a, n', c, h1, h2, h3, h4, h5, h6⟩ := h
  exact ⟨a, n', c, h1, h2, h3, h4, h5, by omega⟩
theorem Bag.lst {H : Hp} {b : Addr} {k : Nat} (h : Bag H b k) : ∃ xs, H b = some (.lst xs) := by
  obtain ⟨a, n', c, h1, _⟩ := h
  exact ⟨_, h1⟩
theorem Bag.tp {H H' : Hp} {b : Addr} {k : Nat} (h : Bag H b k) (e : But b H H') : Tp H H' := by
  obtain ⟨a, n', c, h1, _⟩ := h
  exact e.tpL h1

theorem ix_of {n j : Nat} {k : Int} (e : k = (j : Int)) (h : j < n) : ixN n k = some j := by
  subst e
  unfold ixN
  rw [if_pos (by omega), if_pos (by omega)]
  simp
/-! ### built-ins, their readings by name -/
def rAbs : List V → Hp → VK → Prop := fun xs H Q => ∃ i, xs = [.int i] ∧ Q (.int (if i < 0 then -i else i)) H
def rInt1 : List V → Hp → VK → Prop := fun xs H Q => (∃ i, xs = [.int i] ∧ Q (.int i) H) ∨ ∃ k, xs = [.bl k] ∧ Q (.int (if k then 1 else 0)) H
def rLen (K : PySem.W.Frag) : List V → Hp → VK → Prop := fun xs H Q => ∃ x n, xs = [x] ∧ LenV K x H n ∧ Q (.int n) H
def rMax2 : List V → Hp → VK → Prop := fun xs H Q => ∃ i j, xs = [.int i, .int j] ∧ Q (.int (if j > i then j else i)) H
def rMin2 : List V → Hp → VK → Prop := fun xs H Q => ∃ i j, xs = [.int i, .int j] ∧ Q (.int (if j < i then j else i)) H
def rStrI : List V → Hp → VK → Prop := fun xs H Q => ∃ i, xs = [.int i] ∧ i.natAbs.log2 < 1920 ∧ Q (.str (toString i)) H
def rListOf (K : PySem.W.Frag) : List V → Hp → VK → Prop := fun xs H Q => ∃ p ys, xs = [.ref p] ∧ (SqL K H p ys ∨ SqT K H p ys) ∧ ∀ l, H l = none → Q (.ref l) (upd H l (.lst ys))
/-- + of ints, texts, lists -/
def rAddX : R2 := fun x y H Q => (∃ i j, x = .int i ∧ y = .int j ∧ Q (.int (i + j)) H) ∨ (∃ i j, x = .str i ∧ y = .str j ∧ i.length + j.length ≤ sizeLine ∧ Q (.str (i ++ j)) H) ∨ rCat x y H Q
section
variable {X : Cx}
theorem c_abs : CallR X (.builtin "abs") rAbs := call_abs
theorem c_int1 : CallR X (.type "int") rInt1 := call_int1
theorem c_len : CallR X (.builtin "len") (rLen X.K) := call_len
theorem c_max2 (hc : X.calm = true) : CallR X (.builtin "max") rMax2 := call_max2 hc
theorem c_min2 (hc : X.calm = true) : CallR X (.builtin "min") rMin2 := call_min2 hc
theorem c_strI : CallR X (.type "str") rStrI := call_str_int
theorem c_listOf : CallR X (.type "list") (rListOf X.K) := call_list_of
theorem op_addX : OpR X (binaryOp .Add) rAddX := op_add.or (op_add_str.or op_cat)
end
section
variable {K : PySem.W.Frag} {σ : L2.St} {H : Hp} {Q : VK} {QH : Hp → Prop} {x y z v : V}
theorem r_powI {i j z : Int} (h : CPow i j) (e : i ^ j.toNat = z) (q : Q (.int z) H) : rI CPow (fun i j => .int (i ^ j.toNat)) (.int i) (.int j) H Q := ⟨i, j, rfl, rfl, h, by subst e; exact q⟩
theorem r_abs {i : Int} (q : Q (.int (if i < 0 then -i else i)) H) : rAbs [.int i] H Q := ⟨i, rfl, q⟩
theorem r_int1 {i : Int} (q : Q (.int i) H) : rInt1 [.int i] H Q := .inl ⟨i, rfl, q⟩
theorem r_int1b {b : Bool} (q : Q (.int (if b then 1 else 0)) H) : rInt1 [.bl b] H Q := .inr ⟨b, rfl, q⟩
theorem r_lenL {p : Addr} {xs : List V} (h : SqL K H p xs) (q : Q (.int xs.length) H) : rLen K [.ref p] H Q := ⟨_, _, rfl, .inl ⟨xs, h, rfl⟩, q⟩
theorem r_lenT {p : Addr} {xs : List V} (h : SqT K H p xs) (q : Q (.int xs.length) H) : rLen K [.ref p] H Q := ⟨_, _, rfl, .inr ⟨xs, h, rfl⟩, q⟩
theorem r_lenS {s : Str} (h : s.length ≤ sizeLine) (q : Q (.int s.length) H) : rLen K [.str s] H Q := ⟨_, _, rfl, ⟨h, rfl⟩, q⟩
theorem r_max2 {i j : Int} (q : Q (.int (if j > i then j else i)) H) : rMax2 [.int i, .int j] H Q := ⟨i, j, rfl, q⟩
theorem r_min2 {i j : Int} (q : Q (.int (if j < i then j else i)) H) : rMin2 [.int i, .int j] H Q := ⟨i, j, rfl, q⟩
theorem r_addI {i j : Int} (q : Q (.int (i + j)) H) : rAddX (.int i) (.int j) H Q := .inl ⟨i, j, rfl, rfl, q⟩
theorem r_addS {i j : Str} (h : i.length + j.length ≤ sizeLine) (q : Q (.str (i ++ j)) H) : rAddX (.str i) (.str j) H Q := .inr (.inl ⟨i, j, rfl, rfl, h, q⟩)
theorem r_addL {a b : Addr} {xs ys : List V} (ha : H a = some (.lst xs)) (hb : H b = some (.lst ys)) (hz : xs.length + ys.length ≤ sizeLine) (q : ∀ p H', H p = none → Ex H H' → H' p = some (.lst (xs ++ ys)) → Q (.ref p) H') : rAddX (.ref a) (.ref b) H Q :=
  .inr (.inr ⟨a, b, xs, ys, rfl, rfl, ha, hb, hz, al q⟩)
theorem r_ixL {p : Addr} {xs : List V} {i : Int} (h : SqL K H p xs) (ha : atI xs i = some v) (q : Q v H) : rIx K (.ref p) (.int i) H Q := .inl ⟨p, xs, i, v, rfl, rfl, h, ha, q⟩
theorem r_ixT {p : Addr} {xs : List V} {i : Int} (h : SqT K H p xs) (ha : atI xs i = some v) (q : Q v H) : rIx K (.ref p) (.int i) H Q := .inr (.inl ⟨p, xs, i, v, rfl, rfl, h, ha, q⟩)
theorem r_ixS {s : Str} {i : Int} {c : Nat} (h : s.length ≤ sizeLine) (ha : atI s.cps.toList i = some c) (q : Q (.str ⟨#[c]⟩) H) : rIx K (.str s) (.int i) H Q := .inr (.inr ⟨s, i, c, rfl, rfl, h, ha, q⟩)
theorem r_setL {p : Addr} {xs : List V} {k : Int} {j : Nat} (h : H p = some (.lst xs)) (hj : ixN xs.length k = some j) (q : ∀ H', But p H H' → H' p = some (.lst (xs.set j v)) → QH H') : rSetL (.ref p) (.int k) v H QH :=
  ⟨p, xs, k, j, rfl, rfl, h, hj, mu q⟩
theorem r_app {l : Addr} {xs : List V} (h : H l = some (.lst xs)) (hz : xs.length < sizeLine) (q : ∀ H', But l H H' → H' l = some (.lst (xs ++ [v])) → Q .non H') : rAppend (.ref l) [v] H Q :=
  ⟨l, xs, v, rfl, rfl, h, hz, mu q⟩
theorem r_alT {xs : List V} {B : Addr → Prop} (hz : xs.length ≤ sizeLine) (q : ∀ p, H p = none → ∀ H', H' = upd H p (.tup xs) → B p) : xs.length ≤ sizeLine ∧ ∀ p, H p = none → B p := ⟨hz, fun p hp => q p hp _ rfl⟩
theorem r_alL {xs : List V} {B : Addr → Prop} (hz : xs.length ≤ sizeLine) (q : ∀ p, H p = none → ∀ H', H' = upd H p (.lst xs) → B p) : xs.length ≤ sizeLine ∧ ∀ p, H p = none → B p := ⟨hz, fun p hp => q p hp _ rfl⟩
theorem r_al {o : HO} {B : Addr → Prop} (q : ∀ p, H p = none → ∀ H', H' = upd H p o → B p) : ∀ p, H p = none → B p := fun p hp => q p hp _ rfl
theorem ofE {H' : Hp} {p : Addr} {o : HO} (e : H' = upd H p o) (n : H p = none) : Ex H H' := by
  rw [e]; exact Ex.new n
theorem ofA {H' : Hp} {p : Addr} {o : HO} (e : H' = upd H p o) : H' p = some o := by
  rw [e]; exact upd_same
/-- a method of a built-in list -/
theorem r_BM {r : V → List V → Hp → VK → Prop} {p : Addr} {to : TE} {tl : TA} (q : to σ H fun x H1 => tyV K "list" x H1 ∧ tl σ H1 fun xs H2 => r x xs H2 Q) : tBM K "list" r to tl σ H Q := q
end

/-! ### loops -/
def ForW (J : It) (g : TG) (tb : TS) (nx : L2.St → Hp → Prop) (rt : VK) (σ : L2.St) (H : Hp) : Prop := ∃ W : Nat → Nat → L2.St → Hp → Prop, (∃ m, W 0 m σ H) ∧ ∀ i m σ H, W i m σ H →
  (J.stop i H ∧ nx σ H) ∨ (J.go i H ∧ ∃ N : L2.St → Hp → Prop, (∀ σ' H', N σ' H' → ∃ m', m' < m ∧ W (i + 1) m' σ' H') ∧ ∀ x H', J.yld i H x H' → g x σ H' fun σ2 H2 => tb ⟨N, rt, nx, N⟩ σ2 H2)
section
variable {K : PySem.W.Frag} {σ : L2.St} {H : Hp} {Q : VK} {nx bk ct : L2.St → Hp → Prop} {rt : VK} {g : TG} {tb : TS} {ta : TA} {tl : TE} {R : It → Hp → Prop} {wi : TI}
theorem r_for (q : wi σ H fun J H1 => ForW J g tb nx rt σ H1) : tFor wi g tb ⟨nx, rt, bk, ct⟩ σ H := q
theorem r_rng1 (q : ta σ H fun vs H1 => ∃ j : Int, vs = [.int j] ∧ -(2 ^ 62) ≤ j ∧ j < 2 ^ 62 ∧ R (Itr 0 j.toNat) H1) : iRng1 ta σ H R := q
theorem r_rng2 (q : ta σ H fun vs H1 => ∃ i j : Int, vs = [.int i, .int j] ∧ (-(2 ^ 62) ≤ i ∧ i < 2 ^ 62 ∧ -(2 ^ 62) ≤ j ∧ j < 2 ^ 62) ∧ R (Itr i (j - i).toNat) H1) : iRng2 ta σ H R := q
theorem r_rng1e {n : Int} {B : Int → Prop} (h1 : -(2 ^ 62) ≤ n) (h2 : n < 2 ^ 62) (q : B n) : ∃ j : Int, [V.int n] = [V.int j] ∧ -(2 ^ 62) ≤ j ∧ j < 2 ^ 62 ∧ B j := ⟨n, rfl, h1, h2, q⟩
theorem r_rng2e {n m : Int} {B : Int → Int → Prop} (h1 : -(2 ^ 62) ≤ n) (h2 : n < 2 ^ 62) (h3 : -(2 ^ 62) ≤ m) (h4 : m < 2 ^ 62) (q : B n m) : ∃ i j : Int, [V.int n, V.int m] = [V.int i, V.int j] ∧ (-(2 ^ 62) ≤ i ∧ i < 2 ^ 62 ∧ -(2 ^ 62) ≤ j ∧ j < 2 ^ 62) ∧ B i j := ⟨n, m, rfl, ⟨h1, h2, h3, h4⟩, q⟩
theorem r_il (q : tl σ H fun x H1 => ∃ a, x = .ref a ∧ (∃ xs, SqL K H1 a xs) ∧ R (Itl K a) H1) : iList K tl σ H R := q
theorem r_it (q : tl σ H fun x H1 => ∃ a, x = .ref a ∧ (∃ xs, SqT K H1 a xs) ∧ R (Itt K a) H1) : iTup K tl σ H R := q
theorem r_ile {p : Addr} {xs : List V} {B : Addr → Prop} (h : SqL K H p xs) (q : B p) : ∃ a, V.ref p = .ref a ∧ (∃ xs, SqL K H a xs) ∧ B a := ⟨p, rfl, ⟨xs, h⟩, q⟩
theorem r_ite {p : Addr} {xs : List V} {B : Addr → Prop} (h : SqT K H p xs) (q : B p) : ∃ a, V.ref p = .ref a ∧ (∃ xs, SqT K H a xs) ∧ B a := ⟨p, rfl, ⟨xs, h⟩, q⟩
theorem fo_range {lo : Int} {n : Nat} (Pv : Nat → L2.St → Hp → Prop) (h0 : Pv 0 σ H)
    (hs : ∀ i σ H, i < n → Pv i σ H → g (.int (lo + i)) σ H fun σ2 H2 => tb ⟨Pv (i + 1), rt, nx, Pv (i + 1)⟩ σ2 H2) (hd : ∀ σ H, Pv n σ H → nx σ H) : ForW (Itr lo n) g tb nx rt σ H :=
  for_range (D := ⟨nx, rt, nx, nx⟩) Pv h0 hs hd
theorem fo_list {a : Addr} {xs : List V} (Pv : Nat → L2.St → Hp → Prop) (h0 : Pv 0 σ H) (hl : ∀ i σ H, i ≤ xs.length → Pv i σ H → SqL K H a xs)
    (hs : ∀ i x σ H, xs[i]? = some x → Pv i σ H → g x σ H fun σ2 H2 => tb ⟨Pv (i + 1), rt, nx, Pv (i + 1)⟩ σ2 H2) (hd : ∀ σ H, Pv xs.length σ H → nx σ H) : ForW (Itl K a) g tb nx rt σ H :=
  for_list (D := ⟨nx, rt, nx, nx⟩) Pv h0 hl hs hd
theorem fo_tup {a : Addr} {xs : List V} (Pv : Nat → L2.St → Hp → Prop) (h0 : Pv 0 σ H) (hl : ∀ i σ H, i ≤ xs.length → Pv i σ H → SqT K H a xs)
    (hs : ∀ i x σ H, xs[i]? = some x → Pv i σ H → g x σ H fun σ2 H2 => tb ⟨Pv (i + 1), rt, nx, Pv (i + 1)⟩ σ2 H2) (hd : ∀ σ H, Pv xs.length σ H → nx σ H) : ForW (Itt K a) g tb nx rt σ H :=
  for_tup (D := ⟨nx, rt, nx, nx⟩) Pv h0 hl hs hd
end
end Vf
namespace Vf
open PySem PySem.Spec PyProof.Rows L2

/-! ### own operators -/
section
variable {X : Cx} {CX : CXT} {k : Nat} {C f : Addr} {fd : FuncData} {ps : List Str} {sp : Sp} {E : XK}
/-- x in o, by the class's own def -/
def rInOwn (C : Addr) (sp : Sp) (E : XK) : R2 := fun x y H Q => ∃ a dx fs, y = .ref a ∧ H a = some (.ins C dx fs) ∧ sp [.ref a, x] H (fun v H' => ∃ b, v = .bl b ∧ Q (.bl b) H') E
def rNotInOwn (C : Addr) (sp : Sp) (E : XK) : R2 := fun x y H Q => ∃ a dx fs, y = .ref a ∧ H a = some (.ins C dx fs) ∧ sp [.ref a, x] H (fun v H' => ∃ b, v = .bl b ∧ Q (.bl (!b)) H') E
theorem op_inOwn (m : Meth X.K C "__contains__" f) (F : FnOk X.prog X.w X.K X.mg X.base CX k f fd ps sp) (hr : Room k X.A) (hb : Binds X.K fd ps []) (hx : Passes CX X E) : OpR X (compareOp .In) (rInOwn C sp E) := by
  intro pins s σ H x y v u Q I rx ry h
  obtain ⟨a, dx, fs, rfl, ea, q⟩ := h
  obtain rfl : u = Value.ref a := ry
  obtain ⟨mA, O, _⟩ := ins_get I.hok ea
  obtain ⟨od, J, _⟩ := O.look
  obtain ⟨mm, fr⟩ := I.fr
  refine PySem.W.in_K fr I.mod.kin J m.at_ m.fn ?_
  refine thn (run_fn (dvs := []) (us := [.ref a, v]) (vs := [.ref a, x]) F hr hb .nil hx I (.cons rfl (.cons rx .nil)) q) fun r s' h2 => ?_
  obtain ⟨z, H', I', rz, b, e, q2⟩ := h2
  subst e
  cases rz
  exact wpAny_truthy_bool ⟨.bl b, H', I', rfl, q2⟩
theorem op_notInOwn (m : Meth X.K C "__contains__" f) (F : FnOk X.prog X.w X.K X.mg X.base CX k f fd ps sp) (hr : Room k X.A) (hb : Binds X.K fd ps []) (hx : Passes CX X E) : OpR X (compareOp .NotIn) (rNotInOwn C sp E) := by
  intro pins s σ H x y v u Q I rx ry h
  obtain ⟨a, dx, fs, rfl, ea, q⟩ := h
  obtain rfl : u = Value.ref a := ry
  obtain ⟨mA, O, _⟩ := ins_get I.hok ea
  obtain ⟨od, J, _⟩ := O.look
  obtain ⟨mm, fr⟩ := I.fr
  refine PySem.W.notIn_K fr I.mod.kin J m.at_ m.fn ?_
  refine thn (run_fn (dvs := []) (us := [.ref a, v]) (vs := [.ref a, x]) F hr hb .nil hx I (.cons rfl (.cons rx .nil)) q) fun r s' h2 => ?_
  obtain ⟨z, H', I', rz, b, e, q2⟩ := h2
  subst e
  cases rz
  exact wpAny_truthy_bool ⟨.bl (!b), H', I', rfl, q2⟩
end
section
variable {K : PySem.W.Frag} {σ : L2.St} {H : Hp} {Q : VK} {C a dx : Addr} {fs : List (Str × V)} {sp : Sp} {E : XK} {x v : V} {u : Value} {f : Str} {te ta tv : TE} {nx bk ct : L2.St → Hp → Prop} {rt : VK} {tl : TA}
theorem r_inOwn (h : H a = some (.ins C dx fs)) (q : sp [.ref a, x] H (fun v H' => ∃ b, v = .bl b ∧ Q (.bl b) H') E) : rInOwn C sp E x (.ref a) H Q := ⟨a, dx, fs, rfl, h, q⟩
theorem r_notInOwn (h : H a = some (.ins C dx fs)) (q : sp [.ref a, x] H (fun v H' => ∃ b, v = .bl b ∧ Q (.bl (!b)) H') E) : rNotInOwn C sp E x (.ref a) H Q := ⟨a, dx, fs, rfl, h, q⟩
/-! ### attributes of written names -/
theorem lookup_hd {α : Type} {f : Str} {v : α} {r : List (Str × α)} : List.lookup f ((f, v) :: r) = some v := by simp [List.lookup]
theorem lookup_tl {α : Type} {f g : Str} {v : α} {r : List (Str × α)} (h : ¬ f = g) : List.lookup f ((g, v) :: r) = List.lookup f r := by
  have e : (f == g) = false := by simpa using h
  simp [List.lookup, e]
theorem lookup_none {α : Type} {f : Str} : List.lookup f ([] : List (Str × α)) = none := rfl
theorem putF_nil {f : Str} {v : V} : putF f v [] = [(f, v)] := rfl
theorem putF_hd {f : Str} {v x : V} {r : List (Str × V)} : putF f v ((f, x) :: r) = (f, v) :: r := if_pos rfl
theorem putF_tl {f g : Str} {v x : V} {r r' : List (Str × V)} (h : ¬ g = f) (e : putF f v r = r') : putF f v ((g, x) :: r) = (g, x) :: r' := by
  subst e
  exact if_neg h
/-! ### instances, step by step: what is asked at each, by a name -/
def GetF (K : PySem.W.Frag) (f : Str) (Q : VK) (x : V) (H : Hp) : Prop := ∃ a C dx fs v, x = .ref a ∧ H a = some (.ins C dx fs) ∧ Cls K C ∧ NoAttr K C f ∧ fs.lookup f = some v ∧ Q v H
def GetC (K : PySem.W.Frag) (f : Str) (Q : VK) (x : V) (H : Hp) : Prop := ∃ C mc v u, x = .ref C ∧ ClX.CRead K C mc ∧ ClX.CVal K C mc f v u ∧ Q v H
def GetP (C : Addr) (sp : Sp) (dvs : List V) (E : XK) (Q : VK) (x : V) (H : Hp) : Prop := ∃ a dx fs, x = .ref a ∧ H a = some (.ins C dx fs) ∧ sp (.ref a :: dvs) H Q E
def SetF (K : PySem.W.Frag) (f : Str) (nx : L2.St → Hp → Prop) (σ : L2.St) (y x : V) (H : Hp) : Prop := ∃ a C dx fs, x = .ref a ∧ H a = some (.ins C dx fs) ∧ Cls K C ∧ NoAttr K C f ∧ fs.length < 1000 ∧ nx σ (upd H a (.ins C dx (putF f y fs)))
def MethW (C : Addr) (m : Str) (sp : Sp) (dvs : List V) (E : XK) (tl : TA) (σ : L2.St) (Q : VK) (x : V) (H : Hp) : Prop := ∃ a dx fs, x = .ref a ∧ H a = some (.ins C dx fs) ∧ fs.lookup m = none ∧ tl σ H fun vs H2 => sp (x :: (vs ++ dvs)) H2 Q E
theorem r_fld (q : te σ H fun x H1 => GetF K f Q x H1) : tFld K te f σ H Q := q
theorem r_getF (h : H a = some (.ins C dx fs)) (c : Cls K C) (n : NoAttr K C f) (l : fs.lookup f = some v) (q : Q v H) : GetF K f Q (.ref a) H := ⟨a, C, dx, fs, v, rfl, h, c, n, l, q⟩
theorem r_cval (q : te σ H fun x H1 => GetC K f Q x H1) : ClX.tCVal K te f σ H Q := q
theorem r_getC {mc : Value} (r : ClX.CRead K C mc) (c : ClX.CVal K C mc f v u) (q : Q v H) : GetC K f Q (.ref C) H := ⟨C, mc, v, u, rfl, r, c, q⟩
theorem r_prop {dvs : List V} (q : te σ H fun x H1 => GetP C sp dvs E Q x H1) : tProp C sp dvs E te σ H Q := q
theorem r_getP {dvs : List V} (h : H a = some (.ins C dx fs)) (q : sp (.ref a :: dvs) H Q E) : GetP C sp dvs E Q (.ref a) H := ⟨a, dx, fs, rfl, h, q⟩
theorem r_sfld (q : tv σ H fun y H1 => ta σ H1 fun x H2 => SetF K f nx σ y x H2) : sFld K ta tv f ⟨nx, rt, bk, ct⟩ σ H := q
theorem r_setF {y : V} {fs' : List (Str × V)} (h : H a = some (.ins C dx fs)) (c : Cls K C) (n : NoAttr K C f) (e : putF f y fs = fs') (hz : fs.length < 1000) (q : ∀ H', But a H H' → H' a = some (.ins C dx fs') → nx σ H') : SetF K f nx σ y (.ref a) H := by
  subst e
  exact ⟨a, C, dx, fs, rfl, h, c, n, hz, mu q⟩
theorem r_meth {m : Str} {dvs : List V} (q : ta σ H fun x H1 => MethW C m sp dvs E tl σ Q x H1) : tMeth C m sp dvs E ta tl σ H Q := q
theorem r_methW {m : Str} {dvs : List V} (h : H a = some (.ins C dx fs)) (l : fs.lookup m = none) (q : tl σ H fun vs H2 => sp (.ref a :: (vs ++ dvs)) H2 Q E) : MethW C m sp dvs E tl σ Q (.ref a) H := ⟨a, dx, fs, rfl, h, l, q⟩
theorem r_make {dvs : List V} (q : tl σ H fun vs H1 => ∀ x dx, H1 x = none → H1 dx = none → dx ≠ x → sp (.ref x :: (vs ++ dvs)) (upd (upd H1 dx (.own x)) x (.ins C dx [])) (fun v H2 => v = .non ∧ Q (.ref x) H2) E) : tMake C sp dvs E tl σ H Q := q
end
/-- a new instance, laid over a heap: all that stood there stays -/
theorem made_ex {H H' : Hp} {x dx C : Addr} (nx : H x = none) (nd : H dx = none) (b : But x (upd (upd H dx (.own x)) x (.ins C dx [])) H') : Ex H H' := fun c o e =>
  b c o (ne_of_none e nx) (by rw [upd_ne (ne_of_none e nx), upd_ne (ne_of_none e nd)]; exact e)
end Vf
set_option maxHeartbeats 2000000
/-! isinstance of a caught error that has fields -/
namespace Vf
open PySem PySem.Spec PyProof.Rows PySem.W
section
variable {prog : Program} {w : World} {A : Around} {E : Value → Shared → Prop} {s : Shared} {K : Frag} {x D : Addr} {ox od : Obj}
theorem cls_of_exc {Q : Option Value → Shared → Prop} (T : L2.ExcC K D) (X : K.In s.heap) (I : InstAt s.heap x ox D (some od)) (h : Q (some (.ref D)) { s with toks := s.toks + 1 }) :
    wpAny (model prog w) A (getAttr? (.ref x) "__class__") Q E s := by
  have isC : (clsIn K D).isSome = true := let ⟨cd, hc, _⟩ := any_some T.hd; by rw [hc] <;> rfl
  have find : findObj K D (some od) "__class__" = some (.bind (.builtin "getset_descriptor.__get__") (.builtin "object.__class__")) := findObj_data isC T.ha T.hn T.ht
  obtain ⟨hh, gg, dd, tt, oo⟩ := s
  have ty := I.type (M := model prog w)
  have lga := looks_findIn (M := model prog w) X T.hg
  have lgk := looks_findIn (M := model prog w) X T.hk
  have lfi := looks_find (M := model prog w) X I find
  have isx : Looks (model prog w) hh (isInstance (.ref x) (.type "BaseException")) true := ty.andThen (looks_subIn X T.hs)
  have n0 : (false && onTheHeap (Value.builtin "BaseException.__getattribute__")) = false := rfl
  have n1 : (Value.builtin "BaseException.__getattribute__" == Value.builtin "object.__getattribute__") = false := by decide +kernel
  have n2 : (onTheHeap (Value.ref D) && Value.builtin "BaseException.__getattribute__" == Value.builtin "object.__getattribute__") = false := by rw [n1] <;> rfl
  unfold getAttr? getAttrBy? getAttrBy
  refine wpAny_bind (wpAny_mkText (wpAny_bind (wpAny_attempt (wpAny_holding (wpAny_bind (ty.at (wpAny_bind (lga.at ?_))))))))
  show wpAny _ _ (if (onTheHeap (Value.ref D) && Value.builtin "BaseException.__getattribute__" == Value.builtin "object.__getattribute__") = true then _ else _) _ _ _
  rw [n2, if_neg Bool.false_ne_true]
  unfold getAttrByItsOwn hookBefore
  refine wpAny_bind ?_
  rw [if_pos (show onTheHeap (Value.ref D) = true from rfl)]
  refine lgk.at (wpAny_bind (wpAny_attempt (wpAny_holding ?_)))
  unfold callGetattribute
  rw [n0, if_neg Bool.false_ne_true]
  unfold boundAndCalled
  rw [PySem.F.excAttr_ValueError.ga.bind (.ref x)]
  refine wpAny_bind (wpAny_pure ?_)
  show wpAny _ _ (call (.builtin "BaseException.__getattribute__") [.ref x, .str "__class__" tt]) _ _ _
  refine wpAny_call (codeAny_call_builtin PySem.F.excAttr_ValueError.ga.plain PySem.F.entry_bexc_ga ?_)
  refine @check_slot (model prog w) _ _ ⟨hh, gg, dd, tt + 1, oo⟩ "BaseException.__getattribute__" "BaseException" "__getattribute__" (.ref x) [.str "__class__" tt] [] _ (by decide +kernel) (by decide +kernel) isx (PySem.F.args_bexc_ga (.ref x) (.str "__class__" tt)) ?_
  unfold Builtin.«object.__getattribute__»
  refine wpAny_bind (wpAny_of_eq (a := ((Value.ref x : Value), [Value.str "__class__" tt])) (by first | rfl | (simp only [slotArgs]; rfl)) ?_)
  refine wpAny_bind (wpAny_pure (wpAny_bind (ty.at (wpAny_bind (lfi.at ?_)))))
  show wpAny _ _ (holding [Value.builtin "object.__class__"] (call (.builtin "getset_descriptor.__get__") [.builtin "object.__class__", .ref x, .ref D]) >>= ret) _ _ _
  refine wpAny_bind (wpAny_holding (wpAny_call (class_get (s := ⟨hh, gg, dd, tt + 1, oo⟩) (ox := ox) (od := some od) X I T.hm ?_)))
  refine wpAny_pure ?_
  show wpAny _ _ (handedOut (.ref D)) _ _ _
  rw [handedOut_of (v := .ref D) rfl]
  first
    | exact wpAny_pure (wpAny_pure h)
    | exact wpAny_pure h
    | exact wpAny_pure (wpAny_bind (wpAny_pure (wpAny_pure h)))
theorem kitx_exc (T : L2.ExcC K D) : KitX K (.ref x) (.ref D) (fun h => InstAt h x ox D (some od)) where
  ty := fun _ _ _ I => I.type
  it := fun _ _ X _ => by
    obtain ⟨cdD, hcD, _⟩ := any_some T.hd
    unfold clsIn at hcD
    split at hcD
    · rename_i c' d' cd' sl' ho
      intro A' Q' E' s' k q
      unfold isType loadHead
      exact wpAny_bind (wpAny_loadPart (k _ _ (X _ _ ho)) (wpAny_pure q))
    · cases hcD
  ne := fun h tp dd its n sl X htp => by
    obtain ⟨cdD, hcD, _⟩ := any_some T.hd
    refine Bool.eq_false_iff.mpr fun q => ?_
    obtain rfl : D = tp := Value.ref.inj (beq_iff_eq.mp q)
    unfold clsIn at hcD
    split at hcD
    · rename_i c' d' cd' sl' ho
      have z := (X _ _ ho).symm.trans htp
      cases z
    · cases hcD
  ca := fun X I k => cls_of_exc T X I k
end
end Vf
namespace Vf
open PySem PySem.Spec PyProof.Rows L2
/-- isinstance(e, c), e the caught exception at a, of the class D -/
def rIsD (K : PySem.W.Frag) (D a : Addr) (d : Option Addr) : List V → Hp → VK → Prop := fun xs H Q => ∃ (c : V) (cv : Value) (dd : Addr) (fs : List (Str × V)) (b : Bool), xs = [.ref a, c] ∧ d = some dd ∧ H dd = some (.xd fs) ∧ (∀ u, RelV c u → u = cv) ∧ PySem.W.kitOne K (.ref D) cv = some b ∧ Q (.bl b) H
theorem call_isD {X : Cx} {a D : Addr} {oe : Obj} {cls : Value} {d : Option Addr} {pn : List (Addr × Obj)} (T : ExcC X.K D) (hc : cls = .ref D) (hz : Zc cls d oe) (hf : ∃ vs, oe.data = .fields vs) : CallR (X.suite a ((a, oe) :: pn)) (.builtin "isinstance") (rIsD X.K D a d) := by
  subst hc
  intro pins s σ H xs us Q I r h
  obtain ⟨c, cv, dd, fs, b, rfl, rfl, hd, hcv, e, q⟩ := h
  cases r with
  | cons rx rr =>
    cases rr with
    | cons rt rr =>
      cases rr
      cases rx
      have ec := hcv _ rt
      subst ec
      obtain ⟨hget, _⟩ := I.pin (a, oe) (List.mem_append.mpr (.inl List.mem_cons_self))
      obtain ⟨vs, hv⟩ := hf
      have ob : ObjOk X.prog X.w H s.heap dd (.xd fs) := I.hok dd _ hd
      obtain ⟨mA, hns, _⟩ := ob
      obtain ⟨od, ho, _⟩ := lookIn_ns hns
      have J : PySem.W.InstAt s.heap a oe D (some od) := ⟨hget, hz.1, by unfold PySem.W.notCls; rw [hv] <;> rfl, by rw [hz.2]; exact ho⟩
      exact PySem.W.kia_one (kitx_exc T) I.kIn J e (fun z => nomatch z) fun tk => ⟨.bl b, H, I.kept (t' := tk) fun _ _ z => z, rfl, q⟩
/-- the same where the class is told by the reading (it must be D) -/
def rIsD' (K : PySem.W.Frag) (D a : Addr) (cls : Value) (d : Option Addr) : List V → Hp → VK → Prop := fun xs H Q => cls = .ref D ∧ rIsD K D a d xs H Q
theorem call_isD' {X : Cx} {a D : Addr} {oe : Obj} {cls : Value} {d : Option Addr} {pn : List (Addr × Obj)} (T : ExcC X.K D) (hz : Zc cls d oe) (hf : ∃ vs, oe.data = .fields vs) : CallR (X.suite a ((a, oe) :: pn)) (.builtin "isinstance") (rIsD' X.K D a cls d) := by
  intro pins s σ H xs us Q I r h
  obtain ⟨e, q⟩ := h
  exact call_isD T e hz hf pins s σ H xs us Q I r q
theorem r_isD {K : PySem.W.Frag} {D a dd : Addr} {cls : Value} {d : Option Addr} {c : V} {cv : Value} {fs : List (Str × V)} {b : Bool} {H : Hp} {Q : VK} (hc : cls = .ref D) (hd : d = some dd) (h : H dd = some (.xd fs)) (hu : ∀ u, RelV c u → u = cv)
    (e : PySem.W.kitOne K (.ref D) cv = some b) (q : Q (.bl b) H) : rIsD' K D a cls d [.ref a, c] H Q := ⟨hc, c, cv, dd, fs, b, rfl, hd, h, hu, e, q⟩
/-- a field of the caught error -/
theorem r_xfV {C a dd : Addr} {cls : Value} {d : Option Addr} {fs : List (Str × V)} {f : Str} {v : V} {H : Hp} {Q : V → Prop} (hc : cls = .ref C) (hd : d = some dd) (h : H dd = some (.xd fs)) (hl : fs.lookup f = some v) (q : Q v) :
    V.ref a = .ref a ∧ cls = .ref C ∧ ∃ (dd : Addr) (fs : List (Str × V)) (v : V), d = some dd ∧ H dd = some (.xd fs) ∧ fs.lookup f = some v ∧ Q v := ⟨rfl, hc, dd, fs, v, hd, h, hl, q⟩
/-! ### what a class of errors must have -/
structure ExcF (K : PySem.W.Frag) (C fI : Addr) : Prop where
  ox : OexC K C
  xf : XfC K C
  ic : ExcC K C
  ini : PySem.W.findIn K (.ref C) "__init__" = some (some (.ref fI))
  tI : PySem.W.typeIn K (.ref fI) = some (.type "function")
  te : PySem.W.exmOne K (.ref C) (.ref C) = some true
/-- a property with a setter -/
structure PropSet (K : PySem.W.Frag) (C : Addr) (f : Str) (p g : Addr) : Prop where
  at_ : PySem.W.findIn K (.ref C) f = some (some (.ref p))
  ty : PySem.W.typeIn K (.ref p) = some (.type "property")
  rec_ : ∃ a rest, PySem.W.recIn K p "property" = some (a :: .ref g :: rest)
  tak : PySem.W.takerIn K C f = some (some (.ref p))
/-! ### makes and methods that may raise, in a try -/
section
variable {X : Cx} {CX : CXT} {k : Nat} {f C : Addr} {fd : FuncData} {ps : List Str} {sp : Sp} {dvs : List V} {ds : List Value} {E : L2.St → XK} {x m : Str} {p pos apos : Pos} {e o : Expr} {es : List Expr} {ta : TE} {t : TA}
theorem run_fnA {pins : List (Addr × Obj)} {σ : L2.St} {H : Hp} {s : Shared} {Q : VK} {us : List Value} {vs : List V} (F : FnOk X.prog X.w X.K X.mg X.base CX k f fd ps sp) (hr : Room k X.A) (hb : Binds X.K fd ps ds) (hd : Vals dvs ds) (hx : PassesAt CX X σ (E σ))
    (I : Inv X pins σ H s) (r : Vals vs us) (h : sp (vs ++ dvs) H Q (E σ)) : wpAny (model X.prog X.w) X.A (call (.ref f) us) (EP X pins σ Q) X.xe s := by
  have r2 : Vals (vs ++ dvs) (us ++ ds) := r.append hd
  have hl : (us ++ ds).length = ps.length := r2.length.symm.trans (F.len _ _ _ _ h)
  refine wpAny_call (codeAny_mono (F.run X.A X.stack s H ⟨us, []⟩ (us ++ ds) (vs ++ dvs) Q (E σ) hr I.env0 (hb s us I.kIn hl) r2 h) fun res s' hq => ?_)
  cases res with
  | error er => exact hx pins H s er s' I hq
  | ok fl =>
    cases fl with
    | ret u => exact I.after hq
    | _ => exact False.elim hq
def tMakeS (C : Addr) (sp : Sp) (dvs : List V) (E : L2.St → XK) (t : TA) : TE := fun σ H Q => t σ H fun vs H1 => ∀ x dx, H1 x = none → H1 dx = none → dx ≠ x →
  sp (.ref x :: (vs ++ dvs)) (upd (upd H1 dx (.own x)) x (.ins C dx [])) (fun v H2 => v = .non ∧ Q (.ref x) H2) (E σ)
theorem run_makeS {pins : List (Addr × Obj)} {σ : L2.St} {H : Hp} {s : Shared} {Q : VK} {us : List Value} {vs : List V} (M : Mk X.K C f) (F : FnOk X.prog X.w X.K X.mg X.base CX k f fd ps sp) (hr : Room (k + 1) X.A) (hb : Binds X.K fd ps ds) (hd : Vals dvs ds)
    (hx : PassesAt CX X σ (E σ)) (I : Inv X pins σ H s) (r : Vals vs us)
    (h : ∀ x dx, H x = none → H dx = none → dx ≠ x → sp (.ref x :: (vs ++ dvs)) (upd (upd H dx (.own x)) x (.ins C dx [])) (fun v H2 => v = .non ∧ Q (.ref x) H2) (E σ)) :
    wpAny (model X.prog X.w) X.A (call (.ref C) us) (EP X pins σ Q) X.xe s := by
  have n1 := I.hok.fresh (Nat.le_succ s.heap.objs.size)
  have n0 := I.hok.fresh (Nat.le_refl s.heap.objs.size)
  have hq := h (s.heap.objs.size + 1) s.heap.objs.size n1 n0 (Nat.ne_of_lt (Nat.lt_succ_self _))
  have I2 := Inv.made (C := C) I
  have r2 : Vals (V.ref (s.heap.objs.size + 1) :: (vs ++ dvs)) (Value.ref (s.heap.objs.size + 1) :: (us ++ ds)) := .cons rfl (r.append hd)
  have hl : (Value.ref (s.heap.objs.size + 1) :: us ++ ds).length = ps.length := (r2.length.symm.trans (F.len _ _ _ _ hq))
  have bnd := hb _ (Value.ref (s.heap.objs.size + 1) :: us) I2.kIn hl
  refine wpAny_call (make_map (f := f) I.kIn M.makes M.init (beq_iff_eq.mp M.fn) (codeAny_mono (F.run _ X.stack _ _ ⟨Value.ref (s.heap.objs.size + 1) :: us, []⟩ _ _ _ (E σ) (hr.make C us []) (I2.env0.make C us []) bnd r2 hq) fun res s' hq' => ?_))
  cases res with
  | error er => exact hx pins _ _ er s' I2 hq'
  | ok fl =>
    cases fl with
    | ret u =>
      obtain ⟨v, H', I3, rv, ev, q3⟩ := I2.after hq'
      subst ev
      exact ⟨rv, ⟨V.ref (s.heap.objs.size + 1), H', I3, rfl, q3⟩⟩
    | _ => exact False.elim hq'
theorem pe_makeS (M : Mk X.K C f) (F : FnOk X.prog X.w X.K X.mg X.base CX k f fd ps sp) (hr : Room (k + 1) X.A) (hg : Gl X x) (hm : X.mg x = some (.ref C)) (hb : Binds X.K fd ps ds) (hd : Vals dvs ds) (hx : ∀ σ, PassesAt CX X σ (E σ))
    (ha : PA X (e :: es) t) (hdb : (x == ("__debug__" : Str)) = false := by decide) (he : starEach (e :: es) X.env = (false, eval e X.env) :: starEach es X.env := by rfl) (hpl : (backTo pos (starEach es X.env)).any (·.1) = false := by rfl) :
    PE X (.Call (.Name x p) (e :: es) [] pos) (tMakeS C sp dvs E t) := by
  refine ⟨fun pins s σ H Q I h => wpAny_Call_Name_kw (ld_glob I hg hm ?_ hdb)⟩
  refine PySem.W.callWith_K (h₀ := X.base) I.ok.mod.kin M.kp (thn (ha.run pos pins s σ H _ I h) fun us s1 hh => ?_) he hpl
  obtain ⟨vs, H1, I1, r, q⟩ := hh
  exact ⟨I1.kIn, run_makeS M F hr hb hd (hx σ) I1 r q⟩
def tMethS (C : Addr) (m : Str) (sp : Sp) (dvs : List V) (E : L2.St → XK) (ta : TE) (t : TA) : TE := fun σ H Q => ta σ H fun x H1 => ∃ a dx fs, x = .ref a ∧ H1 a = some (.ins C dx fs) ∧ fs.lookup m = none ∧
  t σ H1 fun vs H2 => sp (x :: (vs ++ dvs)) H2 Q (E σ)
theorem pe_methE {pl : Sem Bool} (he : PE X o ta) (c : Cls X.K C) (hm : Meth X.K C m f) (F : FnOk X.prog X.w X.K X.mg X.base CX k f fd ps sp) (hr : Room k X.A) (hb : Binds X.K fd ps ds) (hd : Vals dvs ds) (hx : ∀ σ, PassesAt CX X σ (E σ)) (ha : PA X (e :: es) t)
    (hst : starEach (e :: es) X.env = (false, eval e X.env) :: starEach es X.env := by rfl) (hpl : (backTo pos (starEach es X.env)).any (·.1) = false := by rfl)
    (ht : eval (.Call (.Attribute o m apos) (e :: es) [] pos) X.env = (do
      let ov ← eval o X.env
      standAt apos.atName
      let (f, first) ← holding [ov] (getMethod ov m pl)
      callWith pos f first (backTo pos (starEach (e :: es) X.env)) (backToKw pos (keywordEach [] X.env))) := by rfl) :
    PE X (.Call (.Attribute o m apos) (e :: es) [] pos) (tMethS C m sp dvs E ta t) := by
  refine ⟨fun pins s σ H Q I h => PySem.W.methodCall_KW (pl := pl) (thn (he.run pins s σ H _ I h) fun u s1 hh => ?_) ht⟩
  obtain ⟨x, H1, I1, rx, a, dx, fs, rfl, ea, l, q⟩ := hh
  obtain rfl : u = Value.ref a := rx
  refine getmeth_ok I1 ea c hm l ?_
  refine PySem.W.callWith_K (first := [.ref a]) (h₀ := X.base) I.ok.mod.kin hm.kp (thn (ha.run pos pins s1 σ H1 _ I1 q) fun us s2 h2 => ?_) hst hpl
  obtain ⟨vs, H2, I2, r, q2⟩ := h2
  exact ⟨I2.kIn, run_fnA (us := .ref a :: us) (vs := .ref a :: vs) F hr hb hd (hx σ) I2 (.cons rfl r) q2⟩
end
section
variable {K : PySem.W.Frag} {σ : L2.St} {H : Hp} {Q : VK} {C : Addr} {sp : Sp} {dvs : List V} {E : L2.St → XK} {tl : TA} {te ta : TE} {m f : Str}
theorem r_makeS (q : tl σ H fun vs H1 => ∀ x dx, H1 x = none → H1 dx = none → dx ≠ x → sp (.ref x :: (vs ++ dvs)) (upd (upd H1 dx (.own x)) x (.ins C dx [])) (fun v H2 => v = .non ∧ Q (.ref x) H2) (E σ)) : tMakeS C sp dvs E tl σ H Q := q
def MethX (C : Addr) (m : Str) (sp : Sp) (dvs : List V) (E : L2.St → XK) (tl : TA) (σ : L2.St) (Q : VK) (x : V) (H : Hp) : Prop := ∃ a dx fs, x = .ref a ∧ H a = some (.ins C dx fs) ∧ fs.lookup m = none ∧ tl σ H fun vs H2 => sp (x :: (vs ++ dvs)) H2 Q (E σ)
theorem r_methS (q : ta σ H fun x H1 => MethX C m sp dvs E tl σ Q x H1) : tMethS C m sp dvs E ta tl σ H Q := q
theorem r_methX {a dx : Addr} {fs : List (Str × V)} (h : H a = some (.ins C dx fs)) (l : fs.lookup m = none) (q : tl σ H fun vs H2 => sp (.ref a :: (vs ++ dvs)) H2 Q (E σ)) : MethX C m sp dvs E tl σ Q (.ref a) H := ⟨a, dx, fs, rfl, h, l, q⟩
def OstW (K : PySem.W.Frag) (f : Str) (nx : L2.St → Hp → Prop) (σ : L2.St) (y x : V) (H2 : Hp) : Prop := ∃ a C : Addr, x = .ref a ∧ OexC K C ∧ PySem.W.findIn K (.ref C) f = some none ∧
  ((H2 a = some (exo a C none) ∧ ∀ dx, H2 dx = none → dx ≠ a → nx σ (upd (upd H2 dx (exd dx [(f, y)])) a (exo a C (some dx)))) ∨
    ∃ (dx : Addr) (fs : List (Str × V)), H2 a = some (exo a C (some dx)) ∧ H2 dx = some (exd dx fs) ∧ fs.length ≤ 900 ∧ nx σ (upd H2 dx (exd dx ((f, y) :: fs))))
theorem r_ost {nx bk ct : L2.St → Hp → Prop} {rt : VK} (q : te σ H fun y H1 => ta σ H1 fun x H2 => OstW K f nx σ y x H2) : tOst K f ta te ⟨nx, rt, bk, ct⟩ σ H := q
theorem r_callS (q : tl σ H fun vs H1 => sp vs H1 Q (E σ)) : tCallS sp E tl σ H Q := q
theorem r_xf {a : Addr} {cls : Value} {d : Option Addr} (q : te σ H fun x H1 => x = .ref a ∧ cls = .ref C ∧ ∃ (dd : Addr) (fs : List (Str × V)) (v : V), d = some dd ∧ H1 dd = some (.xd fs) ∧ fs.lookup f = some v ∧ Q v H1) : tXf a cls d C f te σ H Q := q
end
/-- the promise of an error's __init__ that stores its two arguments -/
def spInit2 (C : Addr) (f1 f2 : Str) : Sp := fun vs H Q _ => ∃ (a : Addr) (u v : V), vs = [.ref a, u, v] ∧ H a = some (exo a C none) ∧
  ∀ d H', H d = none → d ≠ a → H' a = some (exo a C (some d)) → H' d = some (exd d [(f2, v), (f1, u)]) → (∀ b o, H b = some o → b ≠ a → H' b = some o) → Q .non H'
def spInit1 (C : Addr) (f1 : Str) : Sp := fun vs H Q _ => ∃ (a : Addr) (u : V), vs = [.ref a, u] ∧ H a = some (exo a C none) ∧
  ∀ d H', H d = none → d ≠ a → H' a = some (exo a C (some d)) → H' d = some (exd d [(f1, u)]) → (∀ b o, H b = some o → b ≠ a → H' b = some o) → Q .non H'
end Vf
namespace Vf
open PySem PySem.Spec PyProof.Rows L2
/-! ### isinstance, all and any, comparisons of data -/
section
variable {K : PySem.W.Frag} {σ : L2.St} {H : Hp} {Q : VK} {x c : V} {t u : Value} {b : Bool}
theorem r_isi (k : ClsV c u) (ty : TyX K H x t) (e : PySem.W.kitOne K t u = some b) (q : Q (.bl b) H) : rIsi K [x, c] H Q := ⟨x, c, t, u, b, rfl, k, ty, e, q⟩
/-- what of a class isinstance asks of its instances -/
structure InsT (K : PySem.W.Frag) (C : Addr) : Prop where
  ha : PySem.W.findIn K (.ref C) "__class__" = some (some (.builtin "object.__class__"))
  hn : PySem.W.specialIn K (.builtin "object.__class__") "__get__" = some (some (.builtin "getset_descriptor.__get__"))
  ht : PySem.W.takesIn K (.builtin "object.__class__") = some true
  hm : PySem.W.mroIn K C (.type "object") = some true
theorem tyIns {a C dx : Addr} {fs : List (Str × V)} (cl : Cls K C) (T : InsT K C) (h : H a = some (.ins C dx fs)) : TyX K H (.ref a) (.ref C) := .base (.ins h cl T.ha T.hn T.ht T.hm)
theorem r_all {p : Addr} {bs : List Bool} (h : SqL K H p (bs.map V.bl)) (q : Q (.bl (bs.all id)) H) : rAll K [.ref p] H Q := ⟨p, bs, rfl, h, q⟩
theorem r_any {p : Addr} {bs : List Bool} (h : SqL K H p (bs.map V.bl)) (q : Q (.bl (bs.any id)) H) : rAny K [.ref p] H Q := ⟨p, bs, rfl, h, q⟩
theorem r_eqB {a b : Bool} (q : Q (.bl (a == b)) H) : rEq (.bl a) (.bl b) H Q := r_eq rfl (by rw [dec_bl]; exact q)
theorem r_eqS {a b : Str} (q : Q (.bl (decide (a = b))) H) : rEq (.str a) (.str b) H Q := r_eq rfl (by simpa using q)
theorem r_neS {a b : Str} (q : Q (.bl (!decide (a = b))) H) : rNe (.str a) (.str b) H Q := r_ne rfl (by simpa using q)
end
end Vf
namespace Vf
open PySem PySem.Spec PyProof.Rows L2
theorem ints_at {ns : List Int} {i : Nat} {x : V} (h : (ns.map V.int)[i]? = some x) : ∃ d, x = V.int d := by
  rw [List.getElem?_map] at h
  cases e : ns[i]? with
  | none => rw [e] at h; cases h
  | some d => rw [e] at h; exact ⟨d, (Option.some.inj h).symm⟩
/-! ### comprehensions -/
section
variable {K : PySem.W.Frag} {σ : L2.St} {H : Hp} {Q : VK} {g : TG} {tt : TT} {te : TE} {vs : List Nat} {wi : TI} {a : Addr} {xs : List V}
def LcW (J : It) (g : TG) (tt : TT) (te : TE) (vs : List Nat) (σ : L2.St) (Q : VK) (H1 : Hp) : Prop := ∀ D, H1 D = none → ∃ W : Nat → Nat → Hp → Prop, (∃ m, W 0 m (upd H1 D (.lst []))) ∧ ∀ i m H, W i m H →
  (J.stop i H ∧ Q (.ref D) H) ∨ (J.go i H ∧ ∃ Nx : Hp → Prop, (∀ H', Nx H' → ∃ m', m' < m ∧ W (i + 1) m' H') ∧ ∀ x H', J.yld i H x H' → g x (wipe σ vs) H' fun σ2 H2 => wipe σ2 vs = wipe σ vs ∧ tt σ2 H2 fun b H3 =>
    if b = true then te σ2 H3 fun y H4 => ∃ acc, H4 D = some (.lst acc) ∧ acc.length < sizeLine ∧ Nx (upd H4 D (.lst (acc ++ [y]))) else Nx H3)
theorem r_lc (q : wi σ H fun J H1 => LcW J g tt te vs σ Q H1) : tLc wi g tt te vs σ H Q := q
theorem r_yes {QB : Bool → Hp → Prop} (q : QB true H) : tYes σ H QB := q
/-- over a list; PA: what holds of the items made so far -/
theorem lcx (PA : Nat → List V → Hp → Prop) (hx : SqL K H a xs) (hz : xs.length < 10000000) (h0 : ∀ H', Ex H H' → PA 0 [] H') (mono : ∀ i acc H H', Tp H H' → PA i acc H → PA i acc H')
    (step : ∀ i x acc H' (Qk : VK) (Qn : Hp → Prop), xs[i]? = some x → Ex H H' → acc.length ≤ i → PA i acc H' → (∀ y H4, Ex H' H4 → PA (i + 1) (acc ++ [y]) H4 → Qk y H4) → (∀ H3, Ex H' H3 → PA (i + 1) acc H3 → Qn H3) →
      g x (wipe σ vs) H' fun σ2 H2 => wipe σ2 vs = wipe σ vs ∧ tt σ2 H2 fun b H3 => if b = true then te σ2 H3 Qk else Qn H3)
    (hd : ∀ D acc H', H D = none → Ex H H' → H' D = some (.lst acc) → acc.length ≤ xs.length → PA xs.length acc H' → Q (.ref D) H') : LcW (Itl K a) g tt te vs σ Q H := by
  intro D hD
  have seq : ∀ {H'}, Ex H H' → SqL K H' a xs := fun {H'} e => by
    rcases hx with (h | ⟨o, h⟩) | h
    · exact .inl (.inl (e _ _ h))
    · exact .inl (.inr ⟨o, e _ _ h⟩)
    · exact .inr h
  refine lc_list (K := K) (a := a) (xs := xs) (fun i H' => Ex H H' ∧ ∃ acc, H' D = some (.lst acc) ∧ acc.length ≤ i ∧ PA i acc H') ⟨Ex.new hD, [], upd_same, Nat.le_refl _, h0 _ (Ex.new hD)⟩ (fun i H' _ p => seq p.1) ?_ ?_
  · rintro i x H' hi ⟨e, acc, hD', hl, pa⟩
    have il : i < xs.length := (List.getElem?_eq_some_iff.mp hi).1
    refine step i x acc H' _ _ hi e hl pa (fun y H4 e4 p4 => ?_) (fun H3 e3 p3 => ?_)
    · refine ⟨acc, e4 _ _ hD', szL (by omega), fun b o q => ?_, acc ++ [y], upd_same, by simp; omega, mono _ _ _ _ ?_ p4⟩
      · rw [upd_ne (ne_of_none q hD)]
        exact e4 _ _ (e _ _ q)
      · exact (But.upd (o := .lst (acc ++ [y]))).tpL (e4 _ _ hD')
    · exact ⟨e.trans e3, acc, e3 _ _ hD', by omega, p3⟩
  · rintro H' ⟨e, acc, hD', hl, pa⟩
    exact hd D acc H' hD e hD' hl pa
end

section
variable {σ : L2.St} {H : Hp} {nx bk ct : L2.St → Hp → Prop} {rt : VK} {tl : TA}
theorem r_par3 {i j l : Nat} (q : tl σ H fun vs H1 => ∃ u v w, vs = [u, v, w] ∧ nx (((σ.set i (some u)).set j (some v)).set l (some w)) H1) : tPar3 i j l tl ⟨nx, rt, bk, ct⟩ σ H := q
theorem r_ex2 {x y : V} {B : V → V → Prop} (q : B x y) : ∃ u v, [x, y] = [u, v] ∧ B u v := ⟨x, y, rfl, q⟩
theorem r_ex3 {x y z : V} {B : V → V → V → Prop} (q : B x y z) : ∃ u v w, [x, y, z] = [u, v, w] ∧ B u v w := ⟨x, y, z, rfl, q⟩
end
/-- the promise of a law's own def -/
def spLaw (K : PySem.W.Frag) : Sp := fun vs H Q _ => ∃ (a : Addr) (ns : List Int), vs = [.ref a] ∧ SqL K H a (ns.map V.int) ∧ ns.length ≤ 63 ∧ ∀ H', Q (.bl true) H'
theorem SqL.exx {K : PySem.W.Frag} {H H' : Hp} {a : Addr} {xs : List V} (h : SqL K H a xs) (e : Ex H H') : SqL K H' a xs := by
  rcases h with (h | ⟨o, h⟩) | h
  · exact .inl (.inl (e _ _ h))
  · exact .inl (.inr ⟨o, e _ _ h⟩)
  · exact .inr h
theorem pg_tupK {X : Cx} {pos : Pos} {es : List Expr} {k : Nat} {t : TGs} {n : Nat} {K0 : PySem.W.Frag} (hc : X.calm = true) (h : PGs X es t) (hK : X.K = K0 := by rfl)
    (hn : (assignEach es X.env).length = n := by rfl) (hst : (assignEach es X.env).findIdx? (·.1) = none := by rfl) : PG X (.Tuple es k pos) (gTup K0 n t) := hK ▸ pg_tup hc h hn hst
section
variable {σ : L2.St} {H : Hp} {QS : L2.St → Hp → Prop}
theorem r_gT {K : PySem.W.Frag} {n : Nat} {t : TGs} {a : Addr} {xs : List V} (h : SqT K H a xs) (hl : xs.length = n) (q : t xs σ H QS) : gTup K n t (.ref a) σ H QS := ⟨a, xs, rfl, h, hl, q⟩
theorem r_gCons {t : TG} {u : TGs} {v : V} {r : List V} (q : t v σ H fun σ' H' => u r σ' H' QS) : gCons t u (v :: r) σ H QS := ⟨v, r, rfl, q⟩
theorem r_gNil (q : QS σ H) : gNil [] σ H QS := ⟨rfl, q⟩
end
section
variable {K : PySem.W.Frag} {σ : L2.St} {H : Hp} {Q : VK}
theorem r_BM1 {r : V → List V → Hp → VK → Prop} {to : TE} {tl : TA} (q : to σ H fun x H1 => tyV K "list" x H1 ∧ tl σ H1 fun xs H2 => r x xs H2 Q) : tBM K "list" r to tl σ H Q := q
theorem r_tyL {P : Prop} {p : Addr} {xs : List V} (h : H p = some (.lst xs)) (q : P) : tyV K "list" (.ref p) H ∧ P := ⟨.inl ⟨rfl, xs, .of h⟩, q⟩
theorem r_neDs {x y : V} {d : PyData} (h1 : Dp K H x d) (h2 : Dp K H y d) (sh : SeqAt.shaped d = true) (e : PyData.eqv d d = true) (q : Q (.bl false) H) : rNeD K x y H Q := ⟨d, d, h1, h2, sh, sh, by rw [e]; exact q⟩
theorem refused_ok (f n : Int) : SeqAt.shaped (.tuple [.str "refused", .int f, .int n, .bool true]) = true ∧ PyData.eqv (.tuple [.str "refused", .int f, .int n, .bool true]) (.tuple [.str "refused", .int f, .int n, .bool true]) = true := by
  constructor
  · have h : PyData.strOk (Str.ofString "refused") = true := by decide +kernel
    simp [SeqAt.shaped, PyData.canLay0, PyData.canLayAll0, PyData.depth, PyData.depthAll, h]
  · simp [PyData.eqv, PyData.eqvAll]
theorem refused_dp {p : Addr} {f n : Int} (h : H p = some (.tup [.str "refused", .int f, .int n, .bl true])) : Dp K H (.ref p) (.tuple [.str "refused", .int f, .int n, .bool true]) :=
  .tup (.of h) (.cons (.str _) (.cons (.int _) (.cons (.int _) (.cons (.bl _) .nil))))
end
/-! isinstance of classes, from what the top tells -/
theorem kit_rt {K : PySem.W.Frag} {A : Addr} {T : String} {b : Bool} (hm : PySem.W.kitMeta T = true) (hs : PySem.W.subIn K (.ref A) (.type T) = some b) : PySem.W.kitOne K (.ref A) (.type T) = some b := by
  unfold PySem.W.kitOne
  rw [if_neg (by intro z; cases eq_of_beq z)]
  show (if PySem.W.kitMeta T = true then PySem.W.subIn K (.ref A) (.type T) else none) = some b
  rw [if_pos hm, hs]
theorem kit_rr {K : PySem.W.Frag} {A B : Addr} {b : Bool} (hc : PySem.W.isClsIn K B = true) (ht : PySem.W.typeIn K (.ref B) = some (.type "type")) (hs : PySem.W.subIn K (.ref A) (.ref B) = some b) (hB : PySem.W.subIn K (.ref B) (.ref B) = some true) : PySem.W.kitOne K (.ref A) (.ref B) = some b := by
  unfold PySem.W.kitOne
  by_cases e : ((Value.ref A : Value) == .ref B) = true
  · rw [if_pos e]
    cases eq_of_beq e
    exact hB.symm.trans hs
  · rw [if_neg e]
    have e2 : ((PySem.W.clsIn K B).isSome && PySem.W.typeIn K (.ref B) == some (.type "type")) = true := by
      have h2 : (PySem.W.clsIn K B).isSome = true := hc
      rw [h2, ht] <;> rfl
    show (if ((PySem.W.clsIn K B).isSome && PySem.W.typeIn K (.ref B) == some (.type "type")) = true then PySem.W.subIn K (.ref A) (.ref B) else none) = some b
    rw [if_pos e2, hs]
end Vf
set_option maxHeartbeats 2000000
/-! a store through a property's setter -/
namespace Vf
open PySem PySem.Spec PyProof.Rows L2
section
variable {X : Cx} {CX : CXT} {k : Nat} {C p g a dx : Addr} {fs : List (Str × V)} {f : Str} {fd : FuncData} {ps : List Str} {sp : Sp} {E : XK} {o value : Expr} {pos pos' : Pos} {ta tv : TE}
theorem setprop_ok {pins : List (Addr × Obj)} {σ : L2.St} {H : Hp} {s : Shared} {QV : VK} {y : V} {u : Value} {QU : Unit → Shared → Prop} (I : Inv X pins σ H s) (ea : H a = some (.ins C dx fs)) (c : Cls X.K C) (hp : PropSet X.K C f p g)
    (F : FnOk X.prog X.w X.K X.mg X.base CX k g fd ps sp) (hr : Room (k + 2) X.A) (hb : Binds X.K fd ps []) (hx : Passes CX X E) (ry : RelV y u) (h : sp [.ref a, y] H QV E)
    (hq : ∀ v H1 s1, Inv X pins σ H1 s1 → QV v H1 → QU () s1) : wpAny (model X.prog X.w) X.A (setAttr (.ref a) f u) QU X.xe s := by
  obtain ⟨mA, O, _, _, _, _⟩ := ins_get I.hok ea
  obtain ⟨od, J, _⟩ := O.look
  obtain ⟨e0, rest, hrec⟩ := hp.rec_
  have I1 := I.tok (s.toks + 1)
  have hl : ([Value.ref a, u] ++ []).length = ps.length := F.len _ _ _ _ h
  refine PySem.W.set_plain I.kIn J c.sa (PySem.W.osa_descr (s := { s with toks := s.toks + 1 }) PySem.W.KF.slot_pset I.kIn J c.po hp.tak hp.ty (PySem.W.prop_set (s := { s with toks := s.toks + 1 }) I.kIn hrec ?_))
  refine codeAny_mono (F.run X.A.in1.in1 X.stack { s with toks := s.toks + 1 } H ⟨[.ref a, u], []⟩ [.ref a, u] [.ref a, y] QV E (Room.in1 (Room.in1 hr)) I1.env0.in1.in1 (hb _ [.ref a, u] I1.kIn hl) (.cons rfl (.cons ry .nil)) h) fun r s' hq' => ?_
  cases r with
  | error er => exact hx pins σ H { s with toks := s.toks + 1 } er s' I1 hq'
  | ok fl =>
    cases fl with
    | ret w =>
      obtain ⟨v, H', I3, rv, q3⟩ := I1.after hq'
      exact hq v H' s' I3 q3
    | next => exact False.elim hq'
    | brk => exact False.elim hq'
    | cont => exact False.elim hq'
/-- o.f = value, f a property with a setter -/
def sPropSet (C : Addr) (sp : Sp) (E : XK) (ta tv : TE) : TS := fun D σ H => tv σ H fun y H1 => ta σ H1 fun x H2 => ∃ a dx fs, x = .ref a ∧ H2 a = some (.ins C dx fs) ∧ sp [.ref a, y] H2 (fun _ H3 => D.nx σ H3) E
theorem ps_prop (ha : PE X o ta) (hv : PE X value tv) (c : Cls X.K C) (hp : PropSet X.K C f p g) (F : FnOk X.prog X.w X.K X.mg X.base CX k g fd ps sp) (hr : Room (k + 2) X.A) (hb : Binds X.K fd ps []) (hx : Passes CX X E)
    (hs : swapsWith value (some (.Attribute o f pos')) pos.line X.env = pure false := by rfl) : PS X (.Assign [.Attribute o f pos'] value pos) (sPropSet C sp E ta tv) := by
  refine ⟨fun pins s σ H D I h => ?_⟩
  refine plainObj_wpAny_Assign_Attribute (thn (hv.run pins s σ H _ I h) fun u s1 ⟨y, H1, I1, ry, q⟩ => thn (ha.run pins s1 σ H1 _ I1 q) fun ov s2 ⟨x, H2, I2, rx, a, dx, fs, ex, ea, q2⟩ => ?_) hs
  subst ex
  obtain rfl : ov = Value.ref a := rx
  exact setprop_ok I2 ea c hp F hr hb hx ry q2 fun v H3 s3 I3 q3 => ⟨σ, H3, I3, q3⟩
def SetP (C : Addr) (sp : Sp) (E : XK) (nx : L2.St → Hp → Prop) (σ : L2.St) (y x : V) (H2 : Hp) : Prop := ∃ a dx fs, x = .ref a ∧ H2 a = some (.ins C dx fs) ∧ sp [.ref a, y] H2 (fun _ H3 => nx σ H3) E
theorem r_propSet {σ : L2.St} {H : Hp} {nx bk ct : L2.St → Hp → Prop} {rt : VK} {ta tv : TE} (q : tv σ H fun y H1 => ta σ H1 fun x H2 => SetP C sp E nx σ y x H2) : sPropSet C sp E ta tv ⟨nx, rt, bk, ct⟩ σ H := q
theorem r_setP {σ : L2.St} {H : Hp} {nx : L2.St → Hp → Prop} {y : V} (h : H a = some (.ins C dx fs)) (q : sp [.ref a, y] H (fun _ H3 => nx σ H3) E) : SetP C sp E nx σ y (.ref a) H := ⟨a, dx, fs, rfl, h, q⟩
end
end Vf
set_option maxHeartbeats 2000000
/-! operators of own classes -/
namespace Vf
open PySem PySem.Spec PyProof.Rows
theorem int_add_declines (b : Int) (u : Tok) (l : Addr) (c : Value) (dd : Option Addr) (sl : Array (Option Value)) :
    Meets (Builtin.«int.__add__» ⟨[.int b u, .ref l], []⟩) (fun _ R s => s.heap.get? l = some { cls := c, dict := dd, data := .plain, slots := sl } ∧ R (.ok (.ret .notImplemented)) s) :=
  .of_wp fun prog w A R s h => by obtain ⟨hp, g, d, tk, os⟩ := s; obtain ⟨hl, h⟩ := h; wp_walk using wpAny_loadPart' hl, wpAny_load hl; exact ⟨_, rfl, h⟩
section
open PySem.W
variable {prog : Program} {w : World} {A : Around} {E : Value → Shared → Prop} {s : Shared} {K : Frag} {x C L f r : Addr} {h₀ : Heap} {m : Str → Option Value} {ox : Obj} {od : Option Obj}
theorem refl_add {i : Int} {t : Tok} {Q : Value → Shared → Prop} {dd : Option Addr} {sl : Array (Option Value)} (Fm : Fr h₀ L s.heap m) (X₀ : K.In h₀) (I : InstAt s.heap x ox C od) (hx : s.heap.get? x = some { cls := .ref C, dict := dd, data := .plain, slots := sl }) (hc : selfFirst K C = true)
    (hs : findIn K (.ref C) "__add__" = some (some (.ref f))) (hr : findIn K (.ref C) "__radd__" = some (some (.ref r))) (hf : isFn K (.ref r) = true) (hsub : subIn K (.ref C) (.type "int") = some false)
    (h : wpAny (model prog w) A (call (.ref r) [.ref x, .int i t]) (PySem.W.CmpBack Q) E s) : wpAny (model prog w) A (binaryOp .Add (.int i t) (.ref x)) Q E s := by
  have X := X₀.keeps Fm.keep
  obtain ⟨cd, rest, hcd, hm⟩ := ksp_first hc
  have one := ksp_try X I hr hf h
  have L3 : fillsNumberSlot (.type "int") "add" = pure true := PySem.F.fills_int_add
  have none1 : ∀ (Q' : Option Value → Shared → Prop), Q' none s → wpAny (model prog w) A (tryMethod (.int i t) (dunder "add") (.ref x)) Q' E s := fun Q' hq =>
    wpAny_tryMethod_declines (typeIs_int s i t) PySem.F.slot_int_add (call_meets PySem.F.slot_int_add (typeIs_int s i t) PySem.F.entry_int_add (PySem.F.args_int_add_2 _ _) (int_add_declines i t x (.ref C) dd sl) ⟨hx, rfl, hq⟩)
  obtain ⟨hh, g, d, tt, os⟩ := s
  have L1 : Looks (model prog w) hh (typeOf (.int i t)) (.type "int") := Looks.of_pure rfl
  have L2 : Looks (model prog w) hh (typeOf (.ref x)) (.ref C) := I.type
  have L4 : Looks (model prog w) hh (fillsNumberSlot (.ref C) "add") true := fills_K X hcd hm hs
  have L3' : Looks (model prog w) hh (fillsNumberSlot (.type "int") "add") true := Looks.of_pure L3
  have L5 : Looks (model prog w) hh (isSubtype (.ref C) (.type "int")) false := looks_subIn X hsub
  have L7 : Looks (model prog w) hh (numberSlotInPython (.type "int") "add") false := Looks.of_pure rfl
  have hne : (Value.type "int" == Value.ref C) = false := Bool.eq_false_iff.mpr fun q => by cases beq_iff_eq.mp q
  show wpAny _ _ (binaryOp .Add (.int i t) (.ref x)) _ _ _
  have hi : Operator.Add.info = ("+", "add") := rfl
  simp only [binaryOp, hi]
  refine wpAny_holding (wpAny_bind ?_)
  unfold binaryOp1
  refine wpAny_bind (L1.at (wpAny_bind (L2.at (wpAny_bind (L3'.at ?_)))))
  simp only [hne, Bool.false_eq_true, if_false]
  ksp_lk
  refine none1 _ ?_
  ksp_lk
  refine wpAny_mono one (fun r s' hr' => ?_) fun _ _ e => e
  obtain ⟨v, rfl, hq⟩ := hr'
  ksp_lk
  exact hq
end
theorem int_add_in {K : PySem.W.Frag} : ∃ o, PySem.W.findIn K (.type "int") (PySem.dunder Operator.Add.info.2) = some o := by
  have h : (PySem.fastLookup "int" (PySem.dunder Operator.Add.info.2)).isSome = true := by decide +kernel
  exact Option.isSome_iff_exists.mp h
theorem int_radd_in {K : PySem.W.Frag} : ∃ o, PySem.W.findIn K (.type "int") (PySem.dunderR Operator.Add.info.2) = some o := by
  have h : (PySem.fastLookup "int" (PySem.dunderR Operator.Add.info.2)).isSome = true := by decide +kernel
  exact Option.isSome_iff_exists.mp h
theorem int_sub {K : PySem.W.Frag} {C : Addr} : PySem.W.subIn K (.type "int") (.ref C) = some false := by
  have h : PySem.fastBuiltinMro "int" = some [.type "int", .type "object"] := by decide +kernel
  show (PySem.fastBuiltinMro "int").map (·.contains (.ref C)) = some false
  rw [h]
  simp
end Vf
set_option maxHeartbeats 2000000
/-! operators of own classes, step by step -/
namespace Vf
open PySem PySem.Spec PyProof.Rows L2
theorem back_of {v : V} {u : Value} {s' : Shared} {Q : Value → Shared → Prop} (r : RelV v u) (q : Q u s') : PySem.W.CmpBack Q u s' := by
  cases v <;> first | (cases r; exact q) | (obtain ⟨t, rfl⟩ := r; exact q)
/-- what + asks of a class with __add__ and __radd__ -/
structure AddT (K : PySem.W.Frag) (C : Addr) : Prop where
  sf : PySem.W.selfFirst K C = true
  nC : PySem.W.subIn K (.ref C) (.type "int") = some false
section
variable {X : Cx} {CX : CXT} {k : Nat} {C f r : Addr} {fd : FuncData} {ps : List Str} {sp : Sp} {E : XK}
/-- own + int -/
def rAddOI (C : Addr) (sp : Sp) (E : XK) : R2 := fun x y H Q => ∃ a dx fs i, x = .ref a ∧ y = .int i ∧ H a = some (.ins C dx fs) ∧ sp [.ref a, .int i] H Q E
/-- int + own -/
def rAddIO (C : Addr) (sp : Sp) (E : XK) : R2 := fun x y H Q => ∃ a dx fs i, x = .int i ∧ y = .ref a ∧ H a = some (.ins C dx fs) ∧ sp [.ref a, .int i] H Q E
/-- own - own -/
def rSubOO (C : Addr) (sp : Sp) (E : XK) : R2 := fun x y H Q => ∃ a dx fs b dy gs, x = .ref a ∧ y = .ref b ∧ H a = some (.ins C dx fs) ∧ H b = some (.ins C dy gs) ∧ sp [.ref a, .ref b] H Q E
/-- own == own -/
def rEqOO (C : Addr) (sp : Sp) (E : XK) : R2 := fun x y H Q => ∃ a dx fs b dy gs, x = .ref a ∧ y = .ref b ∧ H a = some (.ins C dx fs) ∧ H b = some (.ins C dy gs) ∧ sp [.ref a, .ref b] H Q E
theorem op_addOI (t : AddT X.K C) (m : Meth X.K C "__add__" f) (mr : Meth X.K C "__radd__" r) (F : FnOk X.prog X.w X.K X.mg X.base CX k f fd ps sp) (hr : Room k X.A) (hb : Binds X.K fd ps []) (hx : Passes CX X E) : OpR X (binaryOp .Add) (rAddOI C sp E) := by
  intro pins s σ H x y v u Q I rx ry h
  obtain ⟨a, dx, fs, i, rfl, rfl, ea, q⟩ := h
  obtain rfl : v = Value.ref a := rx
  obtain ⟨tk, rfl⟩ := (show ∃ t, u = Value.int i t from ry)
  obtain ⟨mA, O, _⟩ := ins_get I.hok ea
  obtain ⟨od, J, _⟩ := O.look
  obtain ⟨mm, fr⟩ := I.fr
  obtain ⟨o1, h1⟩ := int_add_in (K := X.K)
  obtain ⟨o2, h2⟩ := int_radd_in (K := X.K)
  refine PySem.W.ksp_binT (op := .Add) (T := "int") fr I.mod.kin J rfl t.sf m.at_ m.fn mr.at_ (.inr ⟨_, rfl⟩) h1 h2 int_sub ?_
  refine thn (run_fn (dvs := []) (us := [.ref a, .int i tk]) (vs := [.ref a, .int i]) F hr hb .nil hx I (.cons rfl (.cons ⟨tk, rfl⟩ .nil)) q) fun w s' h3 => ?_
  obtain ⟨z, H', I', rz, q2⟩ := h3
  exact back_of rz ⟨z, H', I', rz, q2⟩
theorem op_addIO (t : AddT X.K C) (m : Meth X.K C "__add__" f) (mr : Meth X.K C "__radd__" r) (F : FnOk X.prog X.w X.K X.mg X.base CX k r fd ps sp) (hr : Room k X.A) (hb : Binds X.K fd ps []) (hx : Passes CX X E) : OpR X (binaryOp .Add) (rAddIO C sp E) := by
  intro pins s σ H x y v u Q I rx ry h
  obtain ⟨a, dx, fs, i, rfl, rfl, ea, q⟩ := h
  obtain rfl : u = Value.ref a := ry
  obtain ⟨tk, rfl⟩ := (show ∃ t, v = Value.int i t from rx)
  obtain ⟨mA, O, _⟩ := ins_get I.hok ea
  obtain ⟨od, J, _⟩ := O.look
  obtain ⟨mm, fr⟩ := I.fr
  refine refl_add fr I.mod.kin J O.obj t.sf m.at_ mr.at_ mr.fn t.nC ?_
  refine thn (run_fn (dvs := []) (us := [.ref a, .int i tk]) (vs := [.ref a, .int i]) F hr hb .nil hx I (.cons rfl (.cons ⟨tk, rfl⟩ .nil)) q) fun w s' h3 => ?_
  obtain ⟨z, H', I', rz, q2⟩ := h3
  exact back_of rz ⟨z, H', I', rz, q2⟩
theorem op_subOO (t : AddT X.K C) (m : Meth X.K C "__sub__" f) (F : FnOk X.prog X.w X.K X.mg X.base CX k f fd ps sp) (hr : Room k X.A) (hb : Binds X.K fd ps []) (hx : Passes CX X E) : OpR X (binaryOp .Sub) (rSubOO C sp E) := by
  intro pins s σ H x y v u Q I rx ry h
  obtain ⟨a, dx, fs, b, dy, gs, rfl, rfl, ea, eb, q⟩ := h
  obtain rfl : v = Value.ref a := rx
  obtain rfl : u = Value.ref b := ry
  obtain ⟨mA, O, _⟩ := ins_get I.hok ea
  obtain ⟨mB, O', _⟩ := ins_get I.hok eb
  obtain ⟨od, J, _⟩ := O.look
  obtain ⟨od', J', _⟩ := O'.look
  obtain ⟨mm, fr⟩ := I.fr
  refine PySem.W.binop_K (op := .Sub) fr I.mod.kin J J'.type t.sf m.at_ m.fn ?_
  refine thn (run_fn (dvs := []) (us := [.ref a, .ref b]) (vs := [.ref a, .ref b]) F hr hb .nil hx I (.cons rfl (.cons rfl .nil)) q) fun w s' h3 => ?_
  obtain ⟨z, H', I', rz, q2⟩ := h3
  exact back_of rz ⟨z, H', I', rz, q2⟩
theorem op_eqOO (m : Meth X.K C "__eq__" f) (F : FnOk X.prog X.w X.K X.mg X.base CX k f fd ps sp) (hr : Room k X.A) (hb : Binds X.K fd ps []) (hx : Passes CX X E) : OpR X (compareOp .Eq) (rEqOO C sp E) := by
  intro pins s σ H x y v u Q I rx ry h
  obtain ⟨a, dx, fs, b, dy, gs, rfl, rfl, ea, eb, q⟩ := h
  obtain rfl : v = Value.ref a := rx
  obtain rfl : u = Value.ref b := ry
  obtain ⟨mA, O, _⟩ := ins_get I.hok ea
  obtain ⟨mB, O', _⟩ := ins_get I.hok eb
  obtain ⟨od, J, _⟩ := O.look
  obtain ⟨od', J', _⟩ := O'.look
  obtain ⟨mm, fr⟩ := I.fr
  show wpAny _ _ (richCompare .Eq (.ref a) (.ref b)) _ _ _
  refine PySem.W.cmp_K (op := .Eq) (tb := .ref C) hr.units0 fr I.mod.kin J J'.type (by simp [PySem.W.notFirst]) m.at_ m.fn ?_
  refine thn (run_fn (dvs := []) (us := [.ref a, .ref b]) (vs := [.ref a, .ref b]) F hr hb .nil hx I (.cons rfl (.cons rfl .nil)) q) fun w s' h3 => ?_
  obtain ⟨z, H', I', rz, q2⟩ := h3
  exact back_of rz ⟨z, H', I', rz, q2⟩
end
section
variable {C a b dx dy : Addr} {fs gs : List (Str × V)} {i : Int} {sp : Sp} {E : XK} {H : Hp} {Q : VK}
theorem r_addOI (h : H a = some (.ins C dx fs)) (q : sp [.ref a, .int i] H Q E) : rAddOI C sp E (.ref a) (.int i) H Q := ⟨a, dx, fs, i, rfl, rfl, h, q⟩
theorem r_addIO (h : H a = some (.ins C dx fs)) (q : sp [.ref a, .int i] H Q E) : rAddIO C sp E (.int i) (.ref a) H Q := ⟨a, dx, fs, i, rfl, rfl, h, q⟩
theorem r_subOO (h : H a = some (.ins C dx fs)) (h2 : H b = some (.ins C dy gs)) (q : sp [.ref a, .ref b] H Q E) : rSubOO C sp E (.ref a) (.ref b) H Q := ⟨a, dx, fs, b, dy, gs, rfl, rfl, h, h2, q⟩
theorem r_eqOO (h : H a = some (.ins C dx fs)) (h2 : H b = some (.ins C dy gs)) (q : sp [.ref a, .ref b] H Q E) : rEqOO C sp E (.ref a) (.ref b) H Q := ⟨a, dx, fs, b, dy, gs, rfl, rfl, h, h2, q⟩
end
/-! unpacking a list; a comprehension that draws from the bag -/
theorem pg_unlK {X : Cx} {pos : Pos} {es : List Expr} {k : Nat} {t : TGs} {n : Nat} {K0 : PySem.W.Frag} (hc : X.calm = true) (h : PGs X es t) (hK : X.K = K0 := by rfl)
    (hn : (assignEach es X.env).length = n := by rfl) (hst : (assignEach es X.env).findIdx? (·.1) = none := by rfl) : PG X (.Tuple es k pos) (gUnl K0 n t) := hK ▸ pg_unl hc h hn hst
theorem r_gU {σ : L2.St} {H : Hp} {QS : L2.St → Hp → Prop} {K : PySem.W.Frag} {n : Nat} {t : TGs} {a : Addr} {xs : List V} (h : SqL K H a xs) (hl : xs.length = n) (q : t xs σ H QS) : gUnl K n t (.ref a) σ H QS := ⟨a, xs, rfl, h, hl, q⟩
section
variable {K : PySem.W.Frag} {σ : L2.St} {H : Hp} {Q : VK} {g : TG} {tt : TT} {te : TE} {vs : List Nat} {a b : Addr} {xs : List V}
theorem lcxB (PA : Nat → List V → Hp → Prop) (hab : a ≠ b) (hbN : ∃ ys, H b = some (.lst ys)) (hx : H a = some (.lst xs)) (hz : xs.length < 10000000) (h0 : ∀ H', Ex H H' → PA 0 [] H') (mono : ∀ i acc D H H', b ≠ D → But D H H' → PA i acc H → PA i acc H')
    (step : ∀ i x acc H' (Qk : VK) (Qn : Hp → Prop), xs[i]? = some x → But b H H' → acc.length ≤ i → PA i acc H' → (∀ y H4, But b H' H4 → PA (i + 1) (acc ++ [y]) H4 → Qk y H4) →
      g x (wipe σ vs) H' fun σ2 H2 => wipe σ2 vs = wipe σ vs ∧ tt σ2 H2 fun b H3 => if b = true then te σ2 H3 Qk else Qn H3)
    (hd : ∀ D acc H', H D = none → But b H H' → H' D = some (.lst acc) → acc.length ≤ xs.length → PA xs.length acc H' → Q (.ref D) H') : LcW (Itl K a) g tt te vs σ Q H := by
  intro D hD
  have hDb : D ≠ b := by
    obtain ⟨ys, hy⟩ := hbN
    exact (ne_of_none hy hD).symm
  refine lc_list (K := K) (a := a) (xs := xs) (fun i H' => But b H H' ∧ ∃ acc, H' D = some (.lst acc) ∧ acc.length ≤ i ∧ PA i acc H') ⟨(Ex.new hD).but, [], upd_same, Nat.le_refl _, h0 _ (Ex.new hD)⟩ (fun i H' _ p => SqL.of (p.1 _ _ hab hx)) ?_ ?_
  · rintro i x H' hi ⟨e, acc, hD', hl, pa⟩
    have il : i < xs.length := (List.getElem?_eq_some_iff.mp hi).1
    refine step i x acc H' _ _ hi e hl pa (fun y H4 e4 p4 => ?_)
    refine ⟨acc, e4 _ _ hDb hD', szL (by omega), fun c o nc q => ?_, acc ++ [y], upd_same, by simp; omega, mono _ _ D _ _ hDb.symm But.upd p4⟩
    rw [upd_ne (ne_of_none q hD)]
    exact e4 _ _ nc (e _ _ nc q)
  · rintro H' ⟨e, acc, hD', hl, pa⟩
    exact hd D acc H' hD e hD' hl pa
end
end Vf

set_option exponentiation.threshold 3000
set_option hygiene false
local macro_rules | `(tactic| walk_at "lkx") => `(tactic| first
  | assumption
  | (refine' lkE ?lke ?lkh; (case lke => assumption); (case lkh => walk_at "lkx"))
  | fail)
local macro_rules | `(tactic| walk_at "ne") => `(tactic| first
  | assumption
  | exact Ne.symm (by assumption)
  | (refine' ne_of ?ne1 ?ne2 ?ne3; (case ne2 => assumption); (case ne1 => walk_at "lkx"); (case ne3 => intro nez; cases nez))
  | (refine' ne_of ?ne1 ?ne2 ?ne3; (case ne1 => assumption); (case ne2 => walk_at "lkx"); (case ne3 => intro nez; cases nez))
  | (refine' ne_of_none ?ne1 ?ne2; (case ne2 => assumption); (case ne1 => walk_at "lkx"))
  | (refine' Ne.symm (ne_of_none ?ne1 ?ne2); (case ne2 => assumption); (case ne1 => walk_at "lkx"))
  | fail)
local macro_rules | `(tactic| walk_at "lk") => `(tactic| first
  | assumption
  | (refine' lkB ?lke ?lkn ?lkh; (case lke => assumption); (case lkn => walk_at "ne"); (case lkh => walk_at "lk"))
  | (refine' lkE ?lke ?lkh; (case lke => assumption); (case lkh => walk_at "lk"))
  | fail)
local macro_rules | `(tactic| walk_at "lkp") => `(tactic| first
  | exact lookup_hd
  | exact lookup_none
  | (refine (lookup_tl (by decide +kernel)).trans ?_; walk_at "lkp"))
local macro_rules | `(tactic| walk_at "ptf") => `(tactic| first
  | exact putF_nil
  | exact putF_hd
  | (refine' putF_tl (by decide +kernel) ?pe; (case pe => walk_at "ptf")))
local macro_rules | `(tactic| walk_at "tyx") => `(tactic| first
  | assumption
  | exact .base (.int _)
  | exact .base (.str _)
  | exact .base .non
  | exact .base (.bl _)
  | (refine' TyX.base (.tup ?tyq); (case tyq => walk_at "lk"))
  | (refine' TyX.base (.lst ?tyq); (case tyq => walk_at "lk"))
  | walk_at "tyi"
  | fail)
local macro_rules | `(tactic| walk_at "kit") => `(tactic| first
  | assumption
  | exact (show PySem.W.kitOne _ _ _ = some true from kit_ty (by decide +kernel))
  | exact (show PySem.W.kitOne _ _ _ = some false from kit_ty (by decide +kernel))
  | walk_at "kits"
  | fail)
local macro_rules | `(tactic| walk_at "sz") => `(tactic| first
  | exact szO
  | exact szL
  | assumption
  | (simp only [List.length_cons, List.length_nil, List.length_append]; first | exact szO (by omega) | exact szL (by omega)))
local macro_rules | `(tactic| walk_at "new") => `(tactic| (intro pn hmN Hm hmQ; rw [← hmQ]; have hmE := ofE hmQ hmN; have hmA := ofA hmQ; clear hmQ))
local macro_rules | `(tactic| walk_at "at") => `(tactic| first
  | exact rfl
  | exact at_of (j := 0) rfl rfl
  | exact at_of (j := 1) rfl rfl
  | exact at_of (j := 2) rfl rfl
  | exact at_of (j := 3) rfl rfl
  | exact at_of (j := 4) rfl rfl
  | exact ix_of (j := 0) rfl (by decide)
  | exact ix_of (j := 1) rfl (by decide)
  | exact ix_of (j := 2) rfl (by decide)
  | assumption)
local macro_rules | `(tactic| walk_at "side") => `(tactic| first
  | assumption
  | decide
  | omega
  | (refine ⟨?_, ?_⟩ <;> first | decide | omega)
  | (refine ⟨?_, ?_, ?_⟩ <;> first | decide | omega)
  | (refine mulS ?_ ?_ ?_ ?_ <;> omega)
  | (refine divS ?_ ?_ <;> omega)
  | exact powS (by omega) (by omega) (by omega))
local macro_rules | `(tactic| walk_at "st1") => `(tactic| first
  | ((with_reducible refine' r_var ?hv ?_); (case hv => exact rfl))
  | with_reducible refine r_c ?_
  | with_reducible refine r_seq ?_
  | with_reducible refine r_asg ?_
  | with_reducible refine r_name ?_
  | with_reducible refine r_op ?_
  | with_reducible refine r_I0 ?_
  | ((with_reducible refine' r_powI ?sc ?se ?_); (case sc => walk_at "side"); (case se => (first | (simp only [Int.reduceToNat]; exact rfl) | exact rfl)))
  | ((with_reducible refine r_I ?sc ?_); (case sc => walk_at "side"))
  | with_reducible refine r_test ?_
  | with_reducible refine r_tB ?_
  | with_reducible refine r_bl ?_
  | with_reducible refine r_ifS ?_
  | with_reducible refine r_if ?_
  | with_reducible refine r_cons ?_
  | with_reducible refine r_nil ?_
  | with_reducible refine r_CB ?_
  | with_reducible refine r_call ?_
  | with_reducible refine r_ret ?_
  | with_reducible refine r_next ?_
  | with_reducible refine r_drop ?_
  | with_reducible refine r_tup ?_
  | with_reducible refine r_lst ?_
  | with_reducible refine r_and ?_
  | with_reducible refine r_or ?_
  | with_reducible refine r_not ?_
  | with_reducible refine r_isN ?_
  | with_reducible refine r_notN ?_
  | with_reducible refine r_eqI ?_
  | with_reducible refine r_neI ?_
  | with_reducible refine r_un ?_
  | with_reducible refine r_U ?_
  | with_reducible refine r_sub ?_
  | with_reducible refine r_par ?_
  | with_reducible refine r_andV ?_
  | with_reducible refine r_orV ?_
  | with_reducible refine r_notV ?_
  | with_reducible refine r_bl1 ?_
  | with_reducible refine r_fld ?_
  | with_reducible refine r_cont ?_
  | with_reducible refine r_retN ?_
  | with_reducible refine r_par3 ?_
  | with_reducible refine r_ex2 ?_
  | with_reducible refine r_ex3 ?_
  | with_reducible refine if_T ?_
  | with_reducible refine if_F ?_
  | ((with_reducible refine' if_bT ?hb ?_); (case hb => first | exact rfl | assumption | (simp; done)))
  | ((with_reducible refine' if_bF ?hb ?_); (case hb => first | exact rfl | assumption | (simp; done)))
  | ((with_reducible refine' r_isD rfl rfl ?hh ?hu ?he ?_); (case hh => walk_at "lk"); (case hu => intro u hu; exact hu); (case he => walk_at "kit"))
  | ((with_reducible refine' r_xfV rfl rfl ?hh ?hl ?_); (case hh => walk_at "lk"); (case hl => walk_at "lkp"))
  | with_reducible refine r_lc ?_
  | with_reducible refine r_yes ?_
  | ((with_reducible refine' r_isi ?hk ?ht ?he ?_); (case hk => first | exact .ty _ | exact .own _); (case ht => walk_at "tyx"); (case he => walk_at "kit"))
  | with_reducible refine r_eqS ?_
  | with_reducible refine r_neS ?_
  | with_reducible refine r_eqB ?_
  | ((with_reducible refine' r_getF ?hh ?hc ?hn ?hl ?_); (case hh => walk_at "lk"); (case hc => walk_at "cls"); (case hn => walk_at "nattr"); (case hl => walk_at "lkp"))
  | ((with_reducible refine' r_getP ?hh ?_); (case hh => walk_at "lk"))
  | ((with_reducible refine' r_getC ?hc ?hv ?_); (case hc => walk_at "cread"); (case hv => walk_at "cval"))
  | ((with_reducible refine' r_setF ?hh ?hc ?hn ?he ?hz ?_); (case hh => walk_at "lk"); (case hc => walk_at "cls"); (case hn => walk_at "nattr"); (case he => walk_at "ptf"); (case hz => simp); intro Hm hmB hmA)
  | ((with_reducible refine' r_methW ?hh ?hl ?_); (case hh => walk_at "lk"); (case hl => walk_at "lkp"))
  | ((with_reducible refine' r_methX ?hh ?hl ?_); (case hh => walk_at "lk"); (case hl => walk_at "lkp"))
  | ((with_reducible refine' r_inOwn ?hh ?_); (case hh => walk_at "lk"))
  | ((with_reducible refine' r_notInOwn ?hh ?_); (case hh => walk_at "lk"))
  | with_reducible refine r_ost ?_
  | with_reducible refine r_cval ?_
  | with_reducible refine r_prop ?_
  | with_reducible refine r_sfld ?_
  | with_reducible refine r_make ?_
  | with_reducible refine r_makeS ?_
  | with_reducible refine r_meth ?_
  | with_reducible refine r_methS ?_
  | with_reducible refine r_callS ?_
  | with_reducible refine r_xf ?_
  | with_reducible refine r_for ?_
  | with_reducible refine r_rng1 ?_
  | with_reducible refine r_rng2 ?_
  | with_reducible refine r_il ?_
  | with_reducible refine r_it ?_
  | ((with_reducible refine' r_rng1e ?hs ?hs2 ?_); (case hs => omega); (case hs2 => omega))
  | ((with_reducible refine' r_rng2e ?hs ?hs2 ?hs3 ?hs4 ?_); (case hs => omega); (case hs2 => omega); (case hs3 => omega); (case hs4 => omega))
  | ((with_reducible refine' r_ile ?hs ?_); (case hs => (refine' SqL.of ?sqq; (case sqq => walk_at "lk"))))
  | ((with_reducible refine' r_ite ?hs ?_); (case hs => (refine' SqT.of ?sqq; (case sqq => walk_at "lk"))))
  | with_reducible refine r_int1 ?_
  | with_reducible refine r_int1b ?_
  | with_reducible refine r_abs ?_
  | with_reducible refine r_max2 ?_
  | with_reducible refine r_min2 ?_
  | with_reducible refine r_addI ?_
  | ((with_reducible refine' r_ixL ?hs ?ha ?_); (case hs => (refine' SqL.of ?sqq; (case sqq => walk_at "lk"))); (case ha => walk_at "at"))
  | ((with_reducible refine' r_ixT ?hs ?ha ?_); (case hs => (refine' SqT.of ?sqq; (case sqq => walk_at "lk"))); (case ha => walk_at "at"))
  | ((with_reducible refine' r_lenL ?hs ?_); (case hs => (refine' SqL.of ?sqq; (case sqq => walk_at "lk"))))
  | ((with_reducible refine' r_lenT ?hs ?_); (case hs => (refine' SqT.of ?sqq; (case sqq => walk_at "lk"))))
  | ((with_reducible refine' r_setL ?hs ?ha ?_); (case hs => walk_at "lk"); (case ha => walk_at "at"); intro Hm hmB hmA)
  | ((with_reducible refine' r_app ?hs ?ha ?_); (case hs => walk_at "lk"); (case ha => walk_at "sz"); intro Hm hmB hmA)
  | ((with_reducible refine' r_alT ?hs ?_); (case hs => walk_at "sz"); walk_at "new")
  | ((with_reducible refine' r_alL ?hs ?_); (case hs => walk_at "sz"); walk_at "new")
  | ((with_reducible refine' r_addS ?hs ?_); (case hs => walk_at "sz"))
  | ((with_reducible refine' r_addL ?hs ?hs2 ?ha ?_); (case hs => walk_at "lk"); (case hs2 => walk_at "lk"); (case ha => walk_at "sz"); intro pn Hm hmN hmE hmA)
  | with_reducible refine r_break ?_
  | ((with_reducible refine' r_addOI ?hh ?_); (case hh => walk_at "lk"))
  | ((with_reducible refine' r_addIO ?hh ?_); (case hh => walk_at "lk"))
  | ((with_reducible refine' r_subOO ?hh ?hh2 ?_); (case hh => walk_at "lk"); (case hh2 => walk_at "lk"))
  | ((with_reducible refine' r_eqOO ?hh ?hh2 ?_); (case hh => walk_at "lk"); (case hh2 => walk_at "lk"))
  | with_reducible refine r_propSet ?_
  | ((with_reducible refine' r_setP ?hh ?_); (case hh => walk_at "lk"))
  | with_reducible refine r_BM1 ?_
  | ((with_reducible refine' r_tyL ?hs ?_); (case hs => walk_at "lk"))
  | ((with_reducible refine' r_gT ?hs ?hl ?_); (case hs => (refine' SqT.of ?sqq; (case sqq => walk_at "lk"))); (case hl => exact rfl))
  | ((with_reducible refine' r_gU ?hs ?hl ?_); (case hs => (refine' SqL.of ?sqq; (case sqq => walk_at "lk"))); (case hl => exact rfl))
  | with_reducible refine r_gCons ?_
  | with_reducible refine r_gNil ?_
  | walk_at "st2"
  | ((with_reducible refine' r_eq ?h ?_); (case h => exact rfl))
  | ((with_reducible refine' r_ne ?h ?_); (case h => exact rfl)))
local macro_rules | `(tactic| walk_at "st") => `(tactic| repeat (walk_at "st1"))
local macro_rules | `(tactic| walk_at "rowat") => `(tactic| first
  | assumption
  | (refine' RowAt.ex ?rae ?rah; (case rae => assumption); (case rah => walk_at "rowat"))
  | fail)
local macro_rules | `(tactic| walk_at "exh") => `(tactic| first
  | assumption
  | exact Ex.refl _
  | (refine' Ex.trans ?exa ?exb; (case exb => assumption); (case exa => walk_at "exh"))
  | fail)

namespace Vf
open PySem PySem.Spec PyProof.Rows L2
def top (i : Nat) : Stmt := PySem.Challenge.pw_untilrows_k03_rows_that_are_shifted.main.body.getD i (.Pass ⟨0, 0, 0, 0⟩)
abbrev s_EmptyRow_init : Stmt := inClass (top 3) 0
theorem sc_EmptyRow_init : FnScope ["self", "first", "end"] ["self", "first", "end"] (defScope s_EmptyRow_init) := ⟨rfl, rfl, rfl, by decide +kernel, rfl, by decide +kernel, by decide +kernel⟩
abbrev s_stop_of : Stmt := top 6
theorem sc_stop_of : FnScope ["until", "ends"] ["until", "ends"] (defScope s_stop_of) := ⟨rfl, rfl, rfl, by decide +kernel, rfl, by decide +kernel, by decide +kernel⟩
abbrev s_bears_no_day : Stmt := top 7
theorem sc_bears_no_day : FnScope ["first", "until", "ends", "stop"] ["first", "until", "ends"] (defScope s_bears_no_day) := ⟨rfl, rfl, rfl, by decide +kernel, rfl, by decide +kernel, by decide +kernel⟩
abbrev s_checked_until : Stmt := top 8
theorem sc_checked_until : FnScope ["first", "until", "ends"] ["first", "until", "ends"] (defScope s_checked_until) := ⟨rfl, rfl, rfl, by decide +kernel, rfl, by decide +kernel, by decide +kernel⟩
abbrev s_Row_init : Stmt := inClass (top 9) 0
theorem sc_Row_init : FnScope ["self", "first", "until", "value", "ends"] ["self", "first", "until", "value", "ends"] (defScope s_Row_init) := ⟨rfl, rfl, rfl, by decide +kernel, rfl, by decide +kernel, by decide +kernel⟩
abbrev s_Row_until : Stmt := inClass (top 9) 1
theorem sc_Row_until : FnScope ["self"] ["self"] (defScope s_Row_until) := ⟨rfl, rfl, rfl, by decide +kernel, rfl, by decide +kernel, by decide +kernel⟩
abbrev s_Row_until_set : Stmt := inClass (top 9) 2
theorem sc_Row_until_set : FnScope ["self", "value"] ["self", "value"] (defScope s_Row_until_set) := ⟨rfl, rfl, rfl, by decide +kernel, rfl, by decide +kernel, by decide +kernel⟩
abbrev s_Row_stop : Stmt := inClass (top 9) 3
theorem sc_Row_stop : FnScope ["self"] ["self"] (defScope s_Row_stop) := ⟨rfl, rfl, rfl, by decide +kernel, rfl, by decide +kernel, by decide +kernel⟩
abbrev s_Row_close : Stmt := inClass (top 9) 4
theorem sc_Row_close : FnScope ["self", "until"] ["self", "until"] (defScope s_Row_close) := ⟨rfl, rfl, rfl, by decide +kernel, rfl, by decide +kernel, by decide +kernel⟩
abbrev s_Row_add : Stmt := inClass (top 9) 6
theorem sc_Row_add : FnScope ["self", "other", "until"] ["self", "other"] (defScope s_Row_add) := ⟨rfl, rfl, rfl, by decide +kernel, rfl, by decide +kernel, by decide +kernel⟩
abbrev s_Row_radd : Stmt := inClass (top 9) 7
theorem sc_Row_radd : FnScope ["self", "other"] ["self", "other"] (defScope s_Row_radd) := ⟨rfl, rfl, rfl, by decide +kernel, rfl, by decide +kernel, by decide +kernel⟩
abbrev s_Row_sub : Stmt := inClass (top 9) 8
theorem sc_Row_sub : FnScope ["self", "other"] ["self", "other"] (defScope s_Row_sub) := ⟨rfl, rfl, rfl, by decide +kernel, rfl, by decide +kernel, by decide +kernel⟩
abbrev s_Row_contains : Stmt := inClass (top 9) 9
theorem sc_Row_contains : FnScope ["self", "x", "stop"] ["self", "x"] (defScope s_Row_contains) := ⟨rfl, rfl, rfl, by decide +kernel, rfl, by decide +kernel, by decide +kernel⟩
abbrev s_Row_eq : Stmt := inClass (top 9) 10
theorem sc_Row_eq : FnScope ["self", "other"] ["self", "other"] (defScope s_Row_eq) := ⟨rfl, rfl, rfl, by decide +kernel, rfl, by decide +kernel, by decide +kernel⟩
abbrev s_Lbag : Stmt := top 11
theorem sc_Lbag : FnScope ["script", "at", "cell", "digits"] ["script", "at"] (defScope s_Lbag) := ⟨rfl, rfl, rfl, by decide +kernel, rfl, by decide +kernel, by decide +kernel⟩
abbrev s_Ltake : Stmt := top 12
theorem sc_Ltake : FnScope ["bag", "many", "digit", "mixed"] ["bag", "many"] (defScope s_Ltake) := ⟨rfl, rfl, rfl, by decide +kernel, rfl, by decide +kernel, by decide +kernel⟩
abbrev s_Lwide : Stmt := top 13
theorem sc_Lwide : FnScope ["bag", "many", "number", "turn"] ["bag", "many"] (defScope s_Lwide) := ⟨rfl, rfl, rfl, by decide +kernel, rfl, by decide +kernel, by decide +kernel⟩
abbrev s_Lof : Stmt := top 14
theorem sc_Lof : FnScope ["bag", "some"] ["bag", "some"] (defScope s_Lof) := ⟨rfl, rfl, rfl, by decide +kernel, rfl, by decide +kernel, by decide +kernel⟩
abbrev s_Lday : Stmt := top 15
theorem sc_Lday : FnScope ["bag", "size"] ["bag"] (defScope s_Lday) := ⟨rfl, rfl, rfl, by decide +kernel, rfl, by decide +kernel, by decide +kernel⟩
abbrev s_Lvalue : Stmt := top 16
theorem sc_Lvalue : FnScope ["bag", "road", "text", "turn"] ["bag"] (defScope s_Lvalue) := ⟨rfl, rfl, rfl, by decide +kernel, rfl, by decide +kernel, by decide +kernel⟩
abbrev s_Lends : Stmt := top 17
theorem sc_Lends : FnScope ["bag"] ["bag"] (defScope s_Lends) := ⟨rfl, rfl, rfl, by decide +kernel, rfl, by decide +kernel, by decide +kernel⟩
abbrev s_Lsame_value : Stmt := top 18
theorem sc_Lsame_value : FnScope ["one", "other"] ["one", "other"] (defScope s_Lsame_value) := ⟨rfl, rfl, rfl, by decide +kernel, rfl, by decide +kernel, by decide +kernel⟩
abbrev s_Lis_number : Stmt := top 19
theorem sc_Lis_number : FnScope ["thing"] ["thing"] (defScope s_Lis_number) := ⟨rfl, rfl, rfl, by decide +kernel, rfl, by decide +kernel, by decide +kernel⟩
abbrev s_Lparts : Stmt := top 20
theorem sc_Lparts : FnScope ["script", "most"] ["script", "most"] (defScope s_Lparts) := ⟨rfl, rfl, rfl, by decide +kernel, rfl, by decide +kernel, by decide +kernel⟩
abbrev s_Lsame : Stmt := top 21
theorem sc_Lsame : FnScope ["told", "due"] ["told", "due"] (defScope s_Lsame) := ⟨rfl, rfl, rfl, by decide +kernel, rfl, by decide +kernel, by decide +kernel⟩
abbrev s_Lmoved : Stmt := top 22
theorem sc_Lmoved : FnScope ["row", "first", "until", "value", "ends", "stop"] ["row", "first", "until", "value", "ends"] (defScope s_Lmoved) := ⟨rfl, rfl, rfl, by decide +kernel, rfl, by decide +kernel, by decide +kernel⟩
abbrev s_Llater : Stmt := top 23
theorem sc_Llater : FnScope ["until", "many"] ["until", "many"] (defScope s_Llater) := ⟨rfl, rfl, rfl, by decide +kernel, rfl, by decide +kernel, by decide +kernel⟩
abbrev s_law : Stmt := top 24
theorem sc_law : FnScope ["script", "before", "at", "bag", "ends", "first", "value", "until", "row", "many", "more", "later", "same", "one", "twice", "zero", "turn"] ["script"] (defScope s_law) := ⟨rfl, rfl, rfl, by decide +kernel, rfl, by decide +kernel, by decide +kernel⟩
structure Tx (K : PySem.W.Frag) (mg : Str → Option Value) : Type where
  c_EmptyRow : Addr
  g_EmptyRow : mg "EmptyRow" = some (.ref c_EmptyRow)
  c_Ends : Addr
  g_Ends : mg "Ends" = some (.ref c_Ends)
  r_Ends : ClX.CRead K c_Ends (.type "type")
  u_Ends_NEXT_DAY : Tok
  v_Ends_NEXT_DAY : ClX.CVal K c_Ends (.type "type") "NEXT_DAY" (.str "next day") (.str "next day" u_Ends_NEXT_DAY)
  c_Row : Addr
  g_Row : mg "Row" = some (.ref c_Row)
  cl_Row : Cls K c_Row
  t_Row : InsT K c_Row
  n_Row_first : NoAttr K c_Row "first"
  n_Row__until : NoAttr K c_Row "_until"
  n_Row_value : NoAttr K c_Row "value"
  n_Row_ends : NoAttr K c_Row "ends"
  a_EmptyRow_init : Addr
  fd_EmptyRow_init : FuncData
  F_EmptyRow_init : Fun K "__init__" "EmptyRow.__init__" s_EmptyRow_init a_EmptyRow_init fd_EmptyRow_init
  b_EmptyRow_init : Binds K fd_EmptyRow_init ["self", "first", "end"] []
  x_EmptyRow : ExcF K c_EmptyRow a_EmptyRow_init
  n_EmptyRow_first : PySem.W.findIn K (.ref c_EmptyRow) "first" = some none
  n_EmptyRow_end : PySem.W.findIn K (.ref c_EmptyRow) "end" = some none
  a_stop_of : Addr
  fd_stop_of : FuncData
  F_stop_of : Fun K "stop_of" "stop_of" s_stop_of a_stop_of fd_stop_of
  b_stop_of : Binds K fd_stop_of ["until", "ends"] []
  g_stop_of : mg "stop_of" = some (.ref a_stop_of)
  a_bears_no_day : Addr
  fd_bears_no_day : FuncData
  F_bears_no_day : Fun K "bears_no_day" "bears_no_day" s_bears_no_day a_bears_no_day fd_bears_no_day
  b_bears_no_day : Binds K fd_bears_no_day ["first", "until", "ends"] []
  g_bears_no_day : mg "bears_no_day" = some (.ref a_bears_no_day)
  a_checked_until : Addr
  fd_checked_until : FuncData
  F_checked_until : Fun K "checked_until" "checked_until" s_checked_until a_checked_until fd_checked_until
  b_checked_until : Binds K fd_checked_until ["first", "until", "ends"] []
  g_checked_until : mg "checked_until" = some (.ref a_checked_until)
  a_Row_init : Addr
  fd_Row_init : FuncData
  F_Row_init : FunD K "__init__" "Row.__init__" (defArgs s_Row_init) (defBody s_Row_init) (defScope s_Row_init) [.str "last day"] [] a_Row_init fd_Row_init
  b4_Row_init : ∃ ds, Vals ([.str "last day"] : List V) ds ∧ Binds K fd_Row_init ["self", "first", "until", "value", "ends"] ds
  b5_Row_init : ∃ ds, Vals ([] : List V) ds ∧ Binds K fd_Row_init ["self", "first", "until", "value", "ends"] ds
  mk_Row : Mk K c_Row a_Row_init
  a_Row_until : Addr
  fd_Row_until : FuncData
  F_Row_until : Fun K "until" "Row.until" s_Row_until a_Row_until fd_Row_until
  b_Row_until : Binds K fd_Row_until ["self"] []
  pa_Row_until : Addr
  p_Row_until : PropOf K c_Row "until" pa_Row_until a_Row_until
  a_Row_until_set : Addr
  fd_Row_until_set : FuncData
  F_Row_until_set : Fun K "until" "Row.until" s_Row_until_set a_Row_until_set fd_Row_until_set
  b_Row_until_set : Binds K fd_Row_until_set ["self", "value"] []
  pa_Row_until_set : Addr
  p_Row_until_set : PropSet K c_Row "until" pa_Row_until_set a_Row_until_set
  a_Row_stop : Addr
  fd_Row_stop : FuncData
  F_Row_stop : Fun K "stop" "Row.stop" s_Row_stop a_Row_stop fd_Row_stop
  b_Row_stop : Binds K fd_Row_stop ["self"] []
  pa_Row_stop : Addr
  p_Row_stop : PropOf K c_Row "stop" pa_Row_stop a_Row_stop
  a_Row_close : Addr
  fd_Row_close : FuncData
  F_Row_close : Fun K "close" "Row.close" s_Row_close a_Row_close fd_Row_close
  b_Row_close : Binds K fd_Row_close ["self", "until"] []
  m_Row_close : Meth K c_Row "close" a_Row_close
  a_Row_add : Addr
  fd_Row_add : FuncData
  F_Row_add : Fun K "__add__" "Row.__add__" s_Row_add a_Row_add fd_Row_add
  b_Row_add : Binds K fd_Row_add ["self", "other"] []
  m_Row_add : Meth K c_Row "__add__" a_Row_add
  a_Row_radd : Addr
  fd_Row_radd : FuncData
  F_Row_radd : Fun K "__radd__" "Row.__radd__" s_Row_radd a_Row_radd fd_Row_radd
  b_Row_radd : Binds K fd_Row_radd ["self", "other"] []
  m_Row_radd : Meth K c_Row "__radd__" a_Row_radd
  a_Row_sub : Addr
  fd_Row_sub : FuncData
  F_Row_sub : Fun K "__sub__" "Row.__sub__" s_Row_sub a_Row_sub fd_Row_sub
  b_Row_sub : Binds K fd_Row_sub ["self", "other"] []
  m_Row_sub : Meth K c_Row "__sub__" a_Row_sub
  a_Row_contains : Addr
  fd_Row_contains : FuncData
  F_Row_contains : Fun K "__contains__" "Row.__contains__" s_Row_contains a_Row_contains fd_Row_contains
  b_Row_contains : Binds K fd_Row_contains ["self", "x"] []
  m_Row_contains : Meth K c_Row "__contains__" a_Row_contains
  a_Row_eq : Addr
  fd_Row_eq : FuncData
  F_Row_eq : Fun K "__eq__" "Row.__eq__" s_Row_eq a_Row_eq fd_Row_eq
  b_Row_eq : Binds K fd_Row_eq ["self", "other"] []
  m_Row_eq : Meth K c_Row "__eq__" a_Row_eq
  a_Lbag : Addr
  fd_Lbag : FuncData
  F_Lbag : Fun K "_law_bag" "_law_bag" s_Lbag a_Lbag fd_Lbag
  b_Lbag : Binds K fd_Lbag ["script", "at"] []
  g_Lbag : mg "_law_bag" = some (.ref a_Lbag)
  a_Ltake : Addr
  fd_Ltake : FuncData
  F_Ltake : Fun K "_law_take" "_law_take" s_Ltake a_Ltake fd_Ltake
  b_Ltake : Binds K fd_Ltake ["bag", "many"] []
  g_Ltake : mg "_law_take" = some (.ref a_Ltake)
  a_Lwide : Addr
  fd_Lwide : FuncData
  F_Lwide : Fun K "_law_wide" "_law_wide" s_Lwide a_Lwide fd_Lwide
  b_Lwide : Binds K fd_Lwide ["bag", "many"] []
  g_Lwide : mg "_law_wide" = some (.ref a_Lwide)
  a_Lof : Addr
  fd_Lof : FuncData
  F_Lof : Fun K "_law_of" "_law_of" s_Lof a_Lof fd_Lof
  b_Lof : Binds K fd_Lof ["bag", "some"] []
  g_Lof : mg "_law_of" = some (.ref a_Lof)
  a_Lday : Addr
  fd_Lday : FuncData
  F_Lday : Fun K "_law_day" "_law_day" s_Lday a_Lday fd_Lday
  b_Lday : Binds K fd_Lday ["bag"] []
  g_Lday : mg "_law_day" = some (.ref a_Lday)
  a_Lvalue : Addr
  fd_Lvalue : FuncData
  F_Lvalue : Fun K "_law_value" "_law_value" s_Lvalue a_Lvalue fd_Lvalue
  b_Lvalue : Binds K fd_Lvalue ["bag"] []
  g_Lvalue : mg "_law_value" = some (.ref a_Lvalue)
  a_Lends : Addr
  fd_Lends : FuncData
  F_Lends : Fun K "_law_ends" "_law_ends" s_Lends a_Lends fd_Lends
  b_Lends : Binds K fd_Lends ["bag"] []
  g_Lends : mg "_law_ends" = some (.ref a_Lends)
  a_Lsame_value : Addr
  fd_Lsame_value : FuncData
  F_Lsame_value : Fun K "_law_same_value" "_law_same_value" s_Lsame_value a_Lsame_value fd_Lsame_value
  b_Lsame_value : Binds K fd_Lsame_value ["one", "other"] []
  g_Lsame_value : mg "_law_same_value" = some (.ref a_Lsame_value)
  a_Lis_number : Addr
  fd_Lis_number : FuncData
  F_Lis_number : Fun K "_law_is_number" "_law_is_number" s_Lis_number a_Lis_number fd_Lis_number
  b_Lis_number : Binds K fd_Lis_number ["thing"] []
  g_Lis_number : mg "_law_is_number" = some (.ref a_Lis_number)
  a_Lparts : Addr
  fd_Lparts : FuncData
  F_Lparts : Fun K "_law_parts" "_law_parts" s_Lparts a_Lparts fd_Lparts
  b_Lparts : Binds K fd_Lparts ["script", "most"] []
  g_Lparts : mg "_law_parts" = some (.ref a_Lparts)
  a_Lsame : Addr
  fd_Lsame : FuncData
  F_Lsame : Fun K "_law_same" "_law_same" s_Lsame a_Lsame fd_Lsame
  b_Lsame : Binds K fd_Lsame ["told", "due"] []
  g_Lsame : mg "_law_same" = some (.ref a_Lsame)
  a_Lmoved : Addr
  fd_Lmoved : FuncData
  F_Lmoved : Fun K "_law_moved" "_law_moved" s_Lmoved a_Lmoved fd_Lmoved
  b_Lmoved : Binds K fd_Lmoved ["row", "first", "until", "value", "ends"] []
  g_Lmoved : mg "_law_moved" = some (.ref a_Lmoved)
  a_Llater : Addr
  fd_Llater : FuncData
  F_Llater : Fun K "_law_later" "_law_later" s_Llater a_Llater fd_Llater
  b_Llater : Binds K fd_Llater ["until", "many"] []
  g_Llater : mg "_law_later" = some (.ref a_Llater)
  a_law : Addr
  fd_law : FuncData
  F_law : Fun K "law" "law" s_law a_law fd_law
  b_law : Binds K fd_law ["script"] []
  g_law : mg "law" = some (.ref a_law)
  ad_Row : AddT K c_Row
  n_isinstance : mg "isinstance" = none
  n_abs : mg "abs" = none
  n_len : mg "len" = none
  n_int : mg "int" = none
  n_range : mg "range" = none
  n_bool : mg "bool" = none
  n_max : mg "max" = none
  n_min : mg "min" = none
  k_Row_Row : PySem.W.kitOne K (.ref c_Row) (.ref c_Row) = some true
@[reducible] def stopOf (u : Option Int) (s : Str) : Option Int := u.map fun n => if s = "next day" then n else n + 1
@[reducible] def optI : Option Int → V
  | none => .non
  | some n => .int n
def spStopOf : Sp := fun vs H Q _ => ∃ (u : Option Int) (s : Str), vs = [optI u, .str s] ∧ Q (optI (stopOf u s)) H
def noDay (f : Int) (u : Option Int) (s : Str) : Bool := match stopOf u s with | none => false | some n => decide (n ≤ f)
def spBearsNo : Sp := fun vs H Q _ => ∃ (f : Int) (u : Option Int) (s : Str), vs = [.int f, optI u, .str s] ∧ Q (.bl (noDay f u s)) H
def spChecked (C : Addr) : Sp := fun vs H Q E => ∃ (f : Int) (u : Option Int) (s : Str), vs = [.int f, optI u, .str s] ∧
  (noDay f u s = true → ∀ d H', H d = none → Ex H H' → H' d = some (.xd [("end", optI u), ("first", .int f)]) → E (.ref C) (some d) H') ∧ (noDay f u s = false → Q (optI u) H)
def rowF (f : Int) (u : Option Int) (v : V) (s : Str) : List (Str × V) := [("first", .int f), ("_until", optI u), ("value", v), ("ends", .str s)]
def RowAt (C : Addr) (H : Hp) (p : Addr) (f : Int) (u : Option Int) (v : V) (s : Str) : Prop := ∃ dx, H p = some (.ins C dx (rowF f u v s))
theorem RowAt.ex {C : Addr} {H H' : Hp} {p : Addr} {f : Int} {u : Option Int} {v : V} {s : Str} (e : Ex H H') (h : RowAt C H p f u v s) : RowAt C H' p f u v s := by
  obtain ⟨dx, h⟩ := h
  exact ⟨dx, e _ _ h⟩
def spRowInit (C CE : Addr) : Sp := fun vs H Q E => ∃ (p dx : Addr) (f : Int) (u : Option Int) (v : V) (s : Str), vs = [.ref p, .int f, optI u, v, .str s] ∧ H p = some (.ins C dx []) ∧
  (noDay f u s = true → ∀ d H', H d = none → (∀ b o, b ≠ p → H b = some o → H' b = some o) → H' d = some (.xd [("end", optI u), ("first", .int f)]) → E (.ref CE) (some d) H') ∧
  (noDay f u s = false → ∀ H', But p H H' → RowAt C H' p f u v s → Q .non H')
def spRowUntil (C : Addr) : Sp := fun vs H Q _ => ∃ (p : Addr) (f : Int) (u : Option Int) (v : V) (s : Str), vs = [.ref p] ∧ RowAt C H p f u v s ∧ Q (optI u) H
theorem use_RowUntil {C p : Addr} {f : Int} {u : Option Int} {v : V} {s : Str} {H : Hp} {Q : VK} {E : XK} (h : RowAt C H p f u v s) (q : Q (optI u) H) : spRowUntil C [.ref p] H Q E := ⟨p, f, u, v, s, rfl, h, q⟩
/-- a new until: refused, or the row bears it -/
def spRowSet (C CE : Addr) : Sp := fun vs H Q E => ∃ (p : Addr) (f : Int) (u u2 : Option Int) (v : V) (s : Str), vs = [.ref p, optI u2] ∧ RowAt C H p f u v s ∧
  (noDay f u2 s = true → ∀ d H', H d = none → Ex H H' → H' d = some (.xd [("end", optI u2), ("first", .int f)]) → E (.ref CE) (some d) H') ∧
  (noDay f u2 s = false → ∀ H', But p H H' → RowAt C H' p f u2 v s → Q .non H')
def spRowStop (C : Addr) : Sp := fun vs H Q _ => ∃ (p : Addr) (f : Int) (u : Option Int) (v : V) (s : Str), vs = [.ref p] ∧ RowAt C H p f u v s ∧ Q (optI (stopOf u s)) H
theorem use_RowStop {C p : Addr} {f : Int} {u : Option Int} {v : V} {s : Str} {H : Hp} {Q : VK} {E : XK} (h : RowAt C H p f u v s) (q : Q (optI (stopOf u s)) H) : spRowStop C [.ref p] H Q E := ⟨p, f, u, v, s, rfl, h, q⟩
def spRowAdd (C : Addr) : Sp := fun vs H Q _ => ∃ (p : Addr) (i f : Int) (u : Option Int) (v : V) (s : Str), vs = [.ref p, .int i] ∧ RowAt C H p f u v s ∧ noDay f u s = false ∧
  ∀ q H', H q = none → Ex H H' → RowAt C H' q (f + i) (u.map (· + i)) v s → Q (.ref q) H'
theorem noDay_move (f i : Int) (u : Option Int) (s : Str) : noDay (f + i) (u.map (· + i)) s = noDay f u s := by
  cases u with
  | none => rfl
  | some n =>
    simp only [noDay, stopOf, Option.map]
    split <;> (apply Bool.eq_iff_iff.mpr; simp only [decide_eq_true_eq]; omega)
def spRowSub (C : Addr) : Sp := fun vs H Q _ => ∃ (p q : Addr) (f : Int) (u : Option Int) (v : V) (s : Str) (f2 : Int) (u2 : Option Int) (v2 : V) (s2 : Str), vs = [.ref p, .ref q] ∧ RowAt C H p f u v s ∧ RowAt C H q f2 u2 v2 s2 ∧ Q (.int (f - f2)) H
def bears (f : Int) (st : Option Int) (d : Int) : Bool := decide (f ≤ d) && (match st with | none => true | some n => decide (d < n))
def spRowIn (C : Addr) : Sp := fun vs H Q _ => ∃ (p : Addr) (f : Int) (u : Option Int) (v : V) (s : Str) (d : Int), vs = [.ref p, .int d] ∧ RowAt C H p f u v s ∧ Q (.bl (bears f (stopOf u s) d)) H
theorem use_RowIn {C p : Addr} {f d : Int} {u : Option Int} {v : V} {s : Str} {H : Hp} {Q : VK} {E : XK} (h : RowAt C H p f u v s) (q : Q (.bl (bears f (stopOf u s) d)) H) : spRowIn C [.ref p, .int d] H Q E := ⟨p, f, u, v, s, d, rfl, h, q⟩
theorem r_exb {b : Bool} {A : Bool → Prop} (q : A b) : ∃ c, V.bl b = .bl c ∧ A c := ⟨b, rfl, q⟩
def spRowEq (C : Addr) : Sp := fun vs H Q _ => ∃ (p q : Addr) (f : Int) (u : Option Int) (v : V) (s : Str), vs = [.ref p, .ref q] ∧ RowAt C H p f u v s ∧ RowAt C H q f u v s ∧ ((∃ i, v = .int i) ∨ ∃ t, v = .str t) ∧ Q (.bl true) H
def spLbag (K : PySem.W.Frag) : Sp := fun vs H Q _ => ∃ (a : Addr) (ns : List Int) (i : Int), vs = [.ref a, .int i] ∧ SqL K H a (ns.map V.int) ∧ 0 ≤ i ∧ i ≤ 1000 ∧
  ∀ p H', H p = none → Ex H H' → Bag H' p 0 → Q (.ref p) H'
theorem Lbag_fin {z i : Int} (h0 : 0 ≤ i) (h1 : i ≤ 1000) : 0 ≤ z % 2305843009213693951 * 5 + 6691 * i + 3067 ∧ z % 2305843009213693951 * 5 + 6691 * i + 3067 < 12000000000000000000 := by
  have a := Int.emod_nonneg z (b := 2305843009213693951) (by decide)
  have b := Int.emod_lt_of_pos z (b := 2305843009213693951) (by decide)
  omega
def spLtake : Sp := fun vs H Q _ => ∃ (b : Addr) (k : Nat) (m : Int), vs = [.ref b, .int m] ∧ Bag H b k ∧ k < 1000000000 ∧ 0 < m ∧ m < 2 ^ 900 ∧
  ∀ r H', 0 ≤ r → r < m → But b H H' → Bag H' b (k + 1) → Q (.int r) H'
def spLwide : Sp := fun vs H Q _ => ∃ (b : Addr) (k : Nat) (m : Int), vs = [.ref b, .int m] ∧ Bag H b k ∧ k + 5 < 1000000000 ∧ 0 < m ∧ m < 2 ^ 900 ∧
  ∀ r H', 0 ≤ r → r < m → But b H H' → Bag H' b (k + 5) → Q (.int r) H'
def wideB : Nat → Int
  | 0 => 1
  | n + 1 => wideB n * 1125899906842624
theorem wideB_lt : ∀ i, i ≤ 5 → wideB i < 2 ^ 900 := by
  intro i hi
  match i, hi with
  | 0, _ => decide
  | 1, _ => decide
  | 2, _ => decide
  | 3, _ => decide
  | 4, _ => decide
  | 5, _ => decide
theorem wideB_step {n r : Int} {i : Nat} (h0 : 0 ≤ n) (h1 : n < wideB i) (r0 : 0 ≤ r) (r1 : r < 1125899906842624) : 0 ≤ n * 1125899906842624 + r ∧ n * 1125899906842624 + r < wideB (i + 1) := by
  unfold wideB
  omega
/-- what a sequence shows, item by item: a list that is not the bag, a tuple, a text's signs -/
inductive Seqs (H : Hp) (b : Addr) : V → List V → Prop where
  | lst {p : Addr} {xs : List V} : H p = some (.lst xs) → p ≠ b → Seqs H b (.ref p) xs
  | tup {p : Addr} {xs : List V} : H p = some (.tup xs) → Seqs H b (.ref p) xs
  | str {s : Str} {cs : List Nat} : s.cps.toList = cs → s.length ≤ sizeLine → Seqs H b (.str s) (cs.map fun c => V.str ⟨#[c]⟩)
def spLof : Sp := fun vs H Q _ => ∃ (b : Addr) (k : Nat) (x : V) (xs : List V), vs = [.ref b, x] ∧ Bag H b k ∧ k < 1000000000 ∧ Seqs H b x xs ∧ xs ≠ [] ∧ xs.length < 1000000000 ∧
  ∀ v H', v ∈ xs → But b H H' → Bag H' b (k + 1) → Q v H'
def spLday : Sp := fun vs H Q _ => ∃ (b : Addr) (k : Nat), vs = [.ref b] ∧ Bag H b k ∧ k + 6 < 1000000000 ∧
  ∀ r H', -(10 ^ 59) ≤ r → r ≤ 10 ^ 59 → But b H H' → Bag H' b (k + 6) → Q (.int r) H'
/-- a value: an int of at most sixty figures, a short text -/
inductive IsVal : V → Prop where
  | int {i : Int} : -(10 ^ 59) ≤ i → i ≤ 10 ^ 59 → IsVal (.int i)
  | str {s : Str} : s.length ≤ 100 → IsVal (.str s)
def spLvalue : Sp := fun vs H Q _ => ∃ (b : Addr) (k : Nat), vs = [.ref b] ∧ Bag H b k ∧ k + 20 < 1000000000 ∧
  ∀ v H', IsVal v → But b H H' → Bag H' b (k + 20) → Q v H'
def IsEnds (s : Str) : Prop := s = "last day" ∨ s = "next day"
def spLends : Sp := fun vs H Q _ => ∃ (b : Addr) (k : Nat), vs = [.ref b] ∧ Bag H b k ∧ k < 1000000000 ∧
  ∀ s H', IsEnds s → But b H H' → Bag H' b (k + 1) → Q (.str s) H'
/-- same kind, int or not, and equal -/
def sameV (x y : V) : Bool := decide (x = y)
/-- ints and texts -/
inductive Worth : V → Prop where
  | int (i : Int) : Worth (.int i)
  | str (s : Str) : Worth (.str s)
def spLsameV : Sp := fun vs H Q _ => ∃ x y, vs = [x, y] ∧ Worth x ∧ Worth y ∧ Q (.bl (sameV x y)) H
theorem use_LsameV {x y : V} {H : Hp} {Q : VK} {E : XK} (h : Worth x) (h2 : Worth y) (q : Q (.bl (sameV x y)) H) : spLsameV ([x, y] ++ []) H Q E := ⟨x, y, rfl, h, h2, q⟩
/-- no object: None, a truth value, an int, a text -/
inductive Scal : V → Prop where
  | non : Scal .non
  | bl (b : Bool) : Scal (.bl b)
  | int (i : Int) : Scal (.int i)
  | str (s : Str) : Scal (.str s)
def isI : V → Bool
  | .int _ => true
  | _ => false
def spLisNum : Sp := fun vs H Q _ => ∃ x, vs = [x] ∧ Scal x ∧ Q (.bl (isI x)) H
theorem use_LisNum {x : V} {H : Hp} {Q : VK} {E : XK} (h : Scal x) (q : Q (.bl (isI x)) H) : spLisNum ([x] ++ []) H Q E := ⟨x, rfl, h, q⟩
def spLparts (K : PySem.W.Frag) : Sp := fun vs H Q _ => ∃ (a : Addr) (xs : List V) (m : Int), vs = [.ref a, .int m] ∧ SqL K H a xs ∧ ∀ n : Int, (1 ≤ n) → (n ≤ 1 ∨ n ≤ m) → Q (.int n) H
/-- a value or None -/
inductive OptW : V → Prop where
  | non : OptW .non
  | w {x : V} : Worth x → OptW x
def spLsame : Sp := fun vs H Q _ => ∃ x y, vs = [x, y] ∧ OptW x ∧ OptW y ∧ Q (.bl (decide (x = y))) H
theorem use_Lsame {x y : V} {H : Hp} {Q : VK} {E : XK} (h : OptW x) (h2 : OptW y) (q : Q (.bl (decide (x = y))) H) : spLsame ([x, y] ++ []) H Q E := ⟨x, y, rfl, h, h2, q⟩
def spLmoved (C : Addr) : Sp := fun vs H Q _ => ∃ (p : Addr) (f : Int) (u : Option Int) (v : V) (s : Str), vs = [.ref p, .int f, optI u, v, .str s] ∧ RowAt C H p f u v s ∧ Worth v ∧ IsEnds s ∧ noDay f u s = false ∧ Q (.bl true) H
def spLlater : Sp := fun vs H Q _ => ∃ (u : Option Int) (i : Int), vs = [optI u, .int i] ∧ Q (optI (u.map (· + i))) H
theorem use_Llater {u : Option Int} {i : Int} {H : Hp} {Q : VK} {E : XK} (q : Q (optI (u.map (· + i))) H) : spLlater ([optI u, .int i] ++ []) H Q E := ⟨u, i, rfl, q⟩
theorem noDay_some {f n : Int} {s : Str} (h : IsEnds s) : noDay f (some n) s = decide ((n + if decide (s = Str.ofString "last day") = true then 1 else 0) ≤ f) := by
  have es : ("last day" : Str) ≠ "next day" := by decide +kernel
  have es2 := es.symm
  rcases h with rfl | rfl
  · simp [noDay, stopOf, es]
  · have e3 : ¬ (("next day" : Str) = Str.ofString "last day") := es2
    simp [noDay, stopOf, e3]
theorem noDay_ge {f z : Int} {s : Str} (h : IsEnds s) (hz : 1 ≤ z) : noDay f (some (f + z)) s = false := by
  rw [noDay_some h]
  refine decide_eq_false ?_
  split <;> omega
theorem RowAt.but {C : Addr} {H H' : Hp} {p l : Addr} {f : Int} {u : Option Int} {v : V} {s : Str} {xs : List V} (h : RowAt C H p f u v s) (b : But l H H') (hl : H l = some (.lst xs)) : RowAt C H' p f u v s := by
  obtain ⟨dx, h⟩ := h
  exact ⟨dx, b _ _ (ne_of h hl (by intro z; cases z)) h⟩
theorem RowAt.butNe {C : Addr} {H H' : Hp} {p l : Addr} {f : Int} {u : Option Int} {v : V} {s : Str} (h : RowAt C H p f u v s) (b : But l H H') (n : p ≠ l) : RowAt C H' p f u v s := by
  obtain ⟨dx, h⟩ := h
  exact ⟨dx, b _ _ n h⟩
theorem IsVal.worth {v : V} (h : IsVal v) : Worth v := by
  cases h with
  | int _ _ => exact .int _
  | str _ => exact .str _
/-- the row kept from the turn before -/
def Bef3 (C : Addr) (H : Hp) (x : V) : Prop := x = .non ∨ ∃ (t q : Addr) (f : Int) (u : Option Int) (v : V) (s : Str), x = .ref t ∧ H t = some (.tup [.ref q, .int f]) ∧ RowAt C H q f u v s
theorem Bef3.ex {C : Addr} {H H' : Hp} {x : V} (h : Bef3 C H x) (e : Ex H H') : Bef3 C H' x := by
  rcases h with h | ⟨t, q, f, u, v, s, h1, h2, h3⟩
  · exact .inl h
  · exact .inr ⟨t, q, f, u, v, s, h1, e _ _ h2, RowAt.ex e h3⟩
theorem IsVal.two {v : V} (h : IsVal v) : (∃ i, v = .int i) ∨ ∃ t, v = .str t := by
  cases h with
  | int _ _ => exact .inl ⟨_, rfl⟩
  | str _ => exact .inr ⟨_, rfl⟩
end Vf
local macro_rules | `(tactic| walk_at "cls") => `(tactic| first | exact T.cl_Row)
local macro_rules | `(tactic| walk_at "nattr") => `(tactic| first | exact T.n_Row_first | exact T.n_Row__until | exact T.n_Row_value | exact T.n_Row_ends)
local macro_rules | `(tactic| walk_at "cread") => `(tactic| first | exact T.r_Ends)
local macro_rules | `(tactic| walk_at "cval") => `(tactic| first | exact T.v_Ends_NEXT_DAY)
local macro_rules | `(tactic| walk_at "st2") => `(tactic| first 
  | ((with_reducible refine' use_RowUntil ?h ?_); (case h => walk_at "rowat")) 
  | ((with_reducible refine' use_RowStop ?h ?_); (case h => walk_at "rowat")) 
  | ((with_reducible refine' use_RowIn ?h ?_); (case h => walk_at "rowat"); refine' r_exb ?_) 
  | ((with_reducible refine' use_LsameV ?h ?h2 ?_); (case h => first | assumption | constructor); (case h2 => first | assumption | constructor)) 
  | ((with_reducible refine' use_LisNum ?h ?_); (case h => first | constructor | assumption)) 
  | ((with_reducible refine' use_Lsame ?h ?h2 ?_); (case h => first | assumption | exact .non | exact .w (by assumption) | exact .w (.int _) | exact .w (.str _)); (case h2 => first | assumption | exact .non | exact .w (by assumption) | exact .w (.int _) | exact .w (.str _))) | fail)
local macro_rules | `(tactic| walk_at "kits") => `(tactic| first | exact T.k_Row_Row)
local macro_rules | `(tactic| walk_at "tyi") => `(tactic| first | (refine' tyIns T.cl_Row T.t_Row ?tyq; (case tyq => walk_at "lk")))
namespace Vf
open PySem PySem.Spec PyProof.Rows L2
section
variable {P : Program} {w : World} {K : PySem.W.Frag} {mg : Str → Option Value} {base : Heap}
theorem ok_EmptyRow_init (T : Tx K mg) : FnOk P w K mg base CX0 1 T.a_EmptyRow_init T.fd_EmptyRow_init ["self", "first", "end"] (spInit2 T.c_EmptyRow "first" "end") := by
  refine T.F_EmptyRow_init.ok sc_EmptyRow_init (fun vs H Q E h => ?_) (fun cdv A outer s H vs Q E hr h => ?_)
  · obtain ⟨a, u, v, rfl, _⟩ := h
    rfl
  · obtain ⟨a, u, v, rfl, ha, kk⟩ := h
    refine ⟨_, (pss_cons (ps_ost (pv 0) (pv 1)) (pss_one (ps_ost (pv 0) (pv 2)))), ?_⟩; (try simp only [cxOf])
    walk_at "st"
    refine ⟨a, T.c_EmptyRow, rfl, T.x_EmptyRow.ox, T.n_EmptyRow_first, .inl ⟨ha, fun dx hdx ne => ?_⟩⟩
    walk_at "st"
    refine ⟨a, T.c_EmptyRow, rfl, T.x_EmptyRow.ox, T.n_EmptyRow_end, .inr ⟨dx, _, upd_same, (by rw [upd_ne ne, upd_same]), by simp, ?_⟩⟩
    refine kk dx _ hdx ne (by rw [upd_ne (Ne.symm ne), upd_same]) (by rw [upd_same]) fun b o e hb => ?_
    have hbd : b ≠ dx := ne_of_none e hdx
    rw [upd_ne hbd, upd_ne hb, upd_ne hbd]
    exact e
theorem ok_stop_of (T : Tx K mg) : FnOk P w K mg base CX0 1 T.a_stop_of T.fd_stop_of ["until", "ends"] (spStopOf) := by
  refine T.F_stop_of.ok sc_stop_of (fun vs H Q E h => ?_) (fun cdv A outer s H vs Q E hr h => ?_)
  · obtain ⟨u, s, rfl, _⟩ := h
    rfl
  · obtain ⟨u, s, rfl, kk⟩ := h
    refine ⟨_, (pss_cons (ps_if (PW.pt (pw_or (pt_cmp (pc_isN (pv 0))) (pw_or1 (pt_cmpR op_eq (pv 1) (ClX.pe_cval (pe_glob (v := .ref T.c_Ends) rfl T.g_Ends rfl) rfl) (nomark _))))) (pss_one (ps_ret (pv 0))) pss_nil) (pss_one (ps_ret (pe_op op_addX (pv 0) pe_int)))), ?_⟩; (try simp only [cxOf])
    cases u with
    | none =>
      walk_at "st"
      exact kk
    | some n =>
      walk_at "st"
      have e : stopOf (some n) s = some (if s = "next day" then n else n + 1) := rfl
      rw [e] at kk
      refine if_d (fun h => ?_) (fun h => ?_)
      · have h' : s = "next day" := by first | exact h | exact V.str.inj h
        rw [if_pos h'] at kk
        walk_at "st"
        exact kk
      · have h' : ¬ s = "next day" := by first | exact h | exact fun z => h (congrArg V.str z)
        rw [if_neg h'] at kk
        walk_at "st"
        simp only [optI] at kk ⊢
        walk_at "st"
        exact kk
theorem ok_bears_no_day (T : Tx K mg) : FnOk P w K mg base CX0 2 T.a_bears_no_day T.fd_bears_no_day ["first", "until", "ends"] (spBearsNo) := by
  refine T.F_bears_no_day.ok sc_bears_no_day (fun vs H Q E h => ?_) (fun cdv A outer s H vs Q E hr h => ?_)
  · obtain ⟨f, u, s, rfl, _⟩ := h
    rfl
  · obtain ⟨f, u, s, rfl, kk⟩ := h
    refine ⟨_, (pss_cons (ps_set (i := 3) sc_bears_no_day.nd rfl (by first | exact Or.inl rfl | exact Or.inr rfl) (pe_call (ok_stop_of T) (hr.mono (by decide)) rfl T.g_stop_of T.F_stop_of.kp T.b_stop_of .nil pass0 (pa_cons (pv 1) (pa_cons (pv 2) pa_nil)))) (pss_one (ps_ret (pe_and (pe_cmp (pc_notN (pv 3))) (pe_one (pe_cmpR op_le (pv 3) (pv 0) (nomark _))))))), ?_⟩; (try simp only [cxOf])
    walk_at "st"
    refine ⟨u, s, rfl, ?_⟩
    walk_at "st"
    have e : noDay f u s = match stopOf u s with | none => false | some n => decide (n ≤ f) := rfl
    cases h : stopOf u s with
    | none =>
      rw [h] at e
      rw [e] at kk
      refine if_nd (fun z => absurd rfl z) (fun _ => ?_)
      simpa [optI] using kk
    | some n =>
      rw [h] at e
      rw [e] at kk
      refine if_nd (fun _ => ?_) (fun z => by cases z)
      simp only [optI]
      walk_at "st"
      exact kk
theorem ok_checked_until (T : Tx K mg) : FnOk P w K mg base (L2.CX P w) 4 T.a_checked_until T.fd_checked_until ["first", "until", "ends"] (spChecked T.c_EmptyRow) := by
  refine T.F_checked_until.okX sc_checked_until (fun vs H Q E h => ?_) (fun cdv A outer s H vs Q E hr h => ?_)
  · obtain ⟨f, u, s, rfl, _⟩ := h
    rfl
  · obtain ⟨f, u, s, rfl, kE, kQ⟩ := h
    refine ⟨_, (pss_cons (ps_if (pt_val (pe_call (ok_bears_no_day T) (hr.mono (by decide)) rfl T.g_bears_no_day T.F_bears_no_day.kp T.b_bears_no_day .nil pass0 (pa_cons (pv 0) (pa_cons (pv 1) (pa_cons (pv 2) pa_nil))))) (pss_one (ps_raise rfl (takes_of rfl rfl rfl rfl) (pmk_oex T.x_EmptyRow.ox T.x_EmptyRow.ini T.x_EmptyRow.tI (ok_EmptyRow_init T) (hr.mono (by decide)) T.b_EmptyRow_init .nil pass0 rfl T.g_EmptyRow (pa_cons (pv 0) (pa_cons (pv 1) pa_nil))))) pss_nil) (pss_one (ps_ret (pv 1)))), ?_⟩; (try simp only [cxOf])
    walk_at "st"
    refine ⟨f, u, s, rfl, ?_⟩
    walk_at "st"
    refine if_b (fun h => ?_) (fun h => ?_)
    · show tMkO _ _ _ _ _ _ _
      refine ⟨_, rfl, _, rfl, by simp, fun a ha => ?_⟩
      refine ⟨a, _, _, rfl, upd_same, fun d H' hd ne h1 h2 hk => ⟨rfl, d, _, h1, h2, ?_, ?_⟩⟩
      · rw [upd_ne ne] at hd; exact hd
      · rw [upd_ne ne] at hd
        refine kE h d _ hd (fun b o e => ?_) upd_same
        have hb : b ≠ a := ne_of_none e ha
        rw [upd_ne (ne_of_none e hd), del_ne hb]
        exact hk b o (by rw [upd_ne hb]; exact e) hb
    · walk_at "st"
      exact kQ h
theorem ok_Row_init (T : Tx K mg) : FnOk P w K mg base (L2.CX P w) 5 T.a_Row_init T.fd_Row_init ["self", "first", "until", "value", "ends"] (spRowInit T.c_Row T.c_EmptyRow) := by
  refine T.F_Row_init.ok (CX := (L2.CX P w)) sc_Row_init (fun vs H Q E h => ?_) (fun cdv A outer s H vs Q E hr h => ?_)
  · obtain ⟨p, dx, f, u, v, s, rfl, _⟩ := h
    rfl
  · obtain ⟨p, dx, f, u, v, s, rfl, hp, kE, kQ⟩ := h
    refine ⟨_, (pss_cons (ps_fld (pv 0) (pv 1) rfl) (pss_cons (ps_fld (pv 0) (pe_call (ok_checked_until T) (hr.mono (by decide)) rfl T.g_checked_until T.F_checked_until.kp T.b_checked_until .nil (passes_call (W := fun cls d _ H => E cls d H) (takes_of rfl rfl rfl rfl) (fun _ _ _ _ h => h)) (pa_cons (pv 1) (pa_cons (pv 2) (pa_cons (pv 4) pa_nil)))) rfl) (pss_cons (ps_fld (pv 0) (pv 3) rfl) (pss_one (ps_fld (pv 0) (pv 4) rfl))))), ?_⟩; (try simp only [cxOf])
    walk_at "st"
    refine ⟨f, u, s, rfl, fun hn d H' hd ex hd' => ?_, fun hn => ?_⟩
    · refine kE hn d H' (hmB.free hmA hd) (fun b o hb e => ex _ _ (hmB b o hb e)) hd'
    · walk_at "st"
      exact kQ hn _ (fun b o hb e => by walk_at "lk") ⟨dx, hmA⟩
theorem ok_Row_until (T : Tx K mg) : FnOk P w K mg base CX0 1 T.a_Row_until T.fd_Row_until ["self"] (spRowUntil T.c_Row) := by
  refine T.F_Row_until.ok sc_Row_until (fun vs H Q E h => ?_) (fun cdv A outer s H vs Q E hr h => ?_)
  · obtain ⟨p, f, u, v, s, rfl, _⟩ := h
    rfl
  · obtain ⟨p, f, u, v, s, rfl, ⟨dx, hp⟩, kk⟩ := h
    unfold rowF at hp
    refine ⟨_, (pss_one (ps_ret (pe_fld (pv 0) rfl))), ?_⟩; (try simp only [cxOf])
    walk_at "st"
    exact kk
theorem ok_Row_until_set (T : Tx K mg) : FnOk P w K mg base (L2.CX P w) 5 T.a_Row_until_set T.fd_Row_until_set ["self", "value"] (spRowSet T.c_Row T.c_EmptyRow) := by
  refine T.F_Row_until_set.okX sc_Row_until_set (fun vs H Q E h => ?_) (fun cdv A outer s H vs Q E hr h => ?_)
  · obtain ⟨p, f, u, u2, v, s, rfl, _⟩ := h
    rfl
  · obtain ⟨p, f, u, u2, v, s, rfl, hp, kE, kQ⟩ := h
    refine ⟨_, (pss_one (ps_fld (pv 0) (pe_call (ok_checked_until T) (hr.mono (by decide)) rfl T.g_checked_until T.F_checked_until.kp T.b_checked_until .nil (passes_call (W := fun cls d _ H => E cls d H) (takes_of rfl rfl rfl rfl) (fun _ _ _ _ h => h)) (pa_cons (pe_fld (pv 0) rfl) (pa_cons (pv 1) (pa_cons (pe_fld (pv 0) rfl) pa_nil)))) rfl)), ?_⟩; (try simp only [cxOf])
    obtain ⟨dx, hp0⟩ := hp
    unfold rowF at hp0
    walk_at "st"
    refine ⟨f, u2, s, rfl, fun hn d H' hd ex hd' => ?_, fun hn => ?_⟩
    · exact kE hn d H' hd ex hd'
    · walk_at "st"
      exact kQ hn _ hmB ⟨dx, hmA⟩
theorem ok_Row_stop (T : Tx K mg) : FnOk P w K mg base CX0 2 T.a_Row_stop T.fd_Row_stop ["self"] (spRowStop T.c_Row) := by
  refine T.F_Row_stop.ok sc_Row_stop (fun vs H Q E h => ?_) (fun cdv A outer s H vs Q E hr h => ?_)
  · obtain ⟨p, f, u, v, s, rfl, _⟩ := h
    rfl
  · obtain ⟨p, f, u, v, s, rfl, ⟨dx, hp⟩, kk⟩ := h
    unfold rowF at hp
    refine ⟨_, (pss_one (ps_ret (pe_call (ok_stop_of T) (hr.mono (by decide)) rfl T.g_stop_of T.F_stop_of.kp T.b_stop_of .nil pass0 (pa_cons (pe_fld (pv 0) rfl) (pa_cons (pe_fld (pv 0) rfl) pa_nil))))), ?_⟩; (try simp only [cxOf])
    walk_at "st"
    exact ⟨u, s, rfl, kk⟩
theorem ok_Row_close (T : Tx K mg) : FnOk P w K mg base (L2.CX P w) 8 T.a_Row_close T.fd_Row_close ["self", "until"] (spRowSet T.c_Row T.c_EmptyRow) := by
  refine T.F_Row_close.okX sc_Row_close (fun vs H Q E h => ?_) (fun cdv A outer s H vs Q E hr h => ?_)
  · obtain ⟨p, f, u, u2, v, s, rfl, _⟩ := h
    rfl
  · obtain ⟨p, f, u, u2, v, s, rfl, hp, kE, kQ⟩ := h
    refine ⟨_, (pss_one (ps_prop (pv 0) (pv 1) T.cl_Row T.p_Row_until_set (ok_Row_until_set T) (hr.mono (by decide)) T.b_Row_until_set (passes_call (W := fun cls d _ H => E cls d H) (takes_of rfl rfl rfl rfl) (fun _ _ _ _ h => h)))), ?_⟩; (try simp only [cxOf])
    have hp1 := hp
    obtain ⟨dx, hp0⟩ := hp1
    walk_at "st"
    refine ⟨p, f, u, u2, v, s, rfl, hp, fun hn d H' hd ex hd' => ?_, fun hn H' hb hr' => ?_⟩
    · exact kE hn d H' hd ex hd'
    · walk_at "st"
      exact kQ hn _ hb hr'
theorem ok_Row_add (T : Tx K mg) : FnOk P w K mg base CX0 7 T.a_Row_add T.fd_Row_add ["self", "other"] (spRowAdd T.c_Row) := by
  refine T.F_Row_add.ok sc_Row_add (fun vs H Q E h => ?_) (fun cdv A outer s H vs Q E hr h => ?_)
  · obtain ⟨p, i, f, u, v, s, rfl, _⟩ := h
    rfl
  · obtain ⟨p, i, f, u, v, s, rfl, hp, hn, kk⟩ := h
    refine ⟨_, (pss_cons (ps_set (i := 2) sc_Row_add.nd rfl (by first | exact Or.inl rfl | exact Or.inr rfl) (pe_ifExp (pt_cmp (pc_isN (pe_fld (pv 0) rfl))) pe_non (pe_op op_addX (pe_fld (pv 0) rfl) (pv 1)))) (pss_one (ps_ret (pe_make T.mk_Row (ok_Row_init T) (hr.mono (by decide)) rfl T.g_Row (T.b5_Row_init).choose_spec.2 (T.b5_Row_init).choose_spec.1 passL (pa_cons (pe_op op_addX (pe_fld (pv 0) rfl) (pv 1)) (pa_cons (pv 2) (pa_cons (pe_fld (pv 0) rfl) (pa_cons (pe_fld (pv 0) rfl) pa_nil)))))))), ?_⟩; (try simp only [cxOf])
    have hn2 := noDay_move f i u s
    rw [hn] at hn2
    obtain ⟨dx, hp0⟩ := hp
    unfold rowF at hp0
    cases u with
    | none =>
      simp only [optI] at *
      walk_at "st"
      intro x dx nx ndx ne
      refine ⟨x, dx, f + i, none, v, s, rfl, upd_same, fun h => (by cases h), fun _ H' bu hr' => ⟨rfl, ?_⟩⟩
      exact kk x _ nx (made_ex nx ndx bu) hr'
    | some n =>
      simp only [optI] at *
      walk_at "st"
      intro x dx nx ndx ne
      refine ⟨x, dx, f + i, some (n + i), v, s, rfl, upd_same, fun h => (by rw [show noDay (f + i) (some (n + i)) s = false from hn2] at h; cases h), fun _ H' bu hr' => ⟨rfl, ?_⟩⟩
      exact kk x _ nx (made_ex nx ndx bu) hr'
theorem ok_Row_radd (T : Tx K mg) : FnOk P w K mg base CX0 9 T.a_Row_radd T.fd_Row_radd ["self", "other"] (spRowAdd T.c_Row) := by
  refine T.F_Row_radd.ok sc_Row_radd (fun vs H Q E h => ?_) (fun cdv A outer s H vs Q E hr h => ?_)
  · obtain ⟨p, i, f, u, v, s, rfl, _⟩ := h
    rfl
  · obtain ⟨p, i, f, u, v, s, rfl, hp, hn, kk⟩ := h
    refine ⟨_, (pss_one (ps_ret (pe_op (op_addOI T.ad_Row T.m_Row_add T.m_Row_radd (ok_Row_add T) (hr.mono (by decide)) T.b_Row_add pass0) (pv 0) (pv 1)))), ?_⟩; (try simp only [cxOf])
    obtain ⟨dx, hp0⟩ := id hp
    walk_at "st"
    exact ⟨p, i, f, u, v, s, rfl, hp, hn, kk⟩
theorem ok_Row_sub (T : Tx K mg) : FnOk P w K mg base CX0 1 T.a_Row_sub T.fd_Row_sub ["self", "other"] (spRowSub T.c_Row) := by
  refine T.F_Row_sub.ok sc_Row_sub (fun vs H Q E h => ?_) (fun cdv A outer s H vs Q E hr h => ?_)
  · obtain ⟨p, q, f, u, v, s, f2, u2, v2, s2, rfl, _⟩ := h
    rfl
  · obtain ⟨p, q, f, u, v, s, f2, u2, v2, s2, rfl, hp, hq, kk⟩ := h
    refine ⟨_, (pss_one (ps_ret (pe_op op_sub (pe_fld (pv 0) rfl) (pe_fld (pv 1) rfl)))), ?_⟩; (try simp only [cxOf])
    obtain ⟨dx, hp0⟩ := hp
    obtain ⟨dy, hq0⟩ := hq
    unfold rowF at hp0 hq0
    walk_at "st"
    exact kk
theorem ok_Row_contains (T : Tx K mg) : FnOk P w K mg base CX0 4 T.a_Row_contains T.fd_Row_contains ["self", "x"] (spRowIn T.c_Row) := by
  refine T.F_Row_contains.ok sc_Row_contains (fun vs H Q E h => ?_) (fun cdv A outer s H vs Q E hr h => ?_)
  · obtain ⟨p, f, u, v, s, d, rfl, _⟩ := h
    rfl
  · obtain ⟨p, f, u, v, s, d, rfl, ⟨dx, hp⟩, kk⟩ := h
    refine ⟨_, (pss_cons (ps_set (i := 2) sc_Row_contains.nd rfl (by first | exact Or.inl rfl | exact Or.inr rfl) (pe_prop (pv 0) T.cl_Row T.p_Row_stop (ok_Row_stop T) (hr.mono (by decide)) T.b_Row_stop .nil pass0 rfl)) (pss_one (ps_ret (pe_and (pe_cmpR op_le (pe_fld (pv 0) rfl) (pv 1) (nomark _)) (pe_one (pe_or (pe_cmp (pc_isN (pv 2))) (pe_one (pe_cmpR op_lt (pv 1) (pv 2) (nomark _))))))))), ?_⟩; (try simp only [cxOf])
    have hp' := hp
    unfold rowF at hp
    walk_at "st"
    refine ⟨p, f, u, v, s, rfl, ⟨dx, hp'⟩, ?_⟩
    walk_at "st"
    refine if_d (fun h => ?_) (fun h => ?_)
    · walk_at "st"
      cases hs : stopOf u s with
      | none =>
        refine if_dT rfl ?_
        simpa [bears, hs, h] using kk
      | some n =>
        refine if_dF (fun z => by cases z) ?_
        simp only [optI]
        walk_at "st"
        simpa [bears, hs, h] using kk
    · simpa [bears, h] using kk
theorem ok_Row_eq (T : Tx K mg) : FnOk P w K mg base CX0 7 T.a_Row_eq T.fd_Row_eq ["self", "other"] (spRowEq T.c_Row) := by
  refine T.F_Row_eq.ok sc_Row_eq (fun vs H Q E h => ?_) (fun cdv A outer s H vs Q E hr h => ?_)
  · obtain ⟨p, q, f, u, v, s, rfl, _⟩ := h
    rfl
  · obtain ⟨p, q, f, u, v, s, rfl, hp, hq, hv, kk⟩ := h
    refine ⟨_, (pss_one (ps_ret (pe_and (pe_callB call_isi (by rfl) T.n_isinstance (by decide +kernel) (pa_cons (pv 1) (pa_cons (pe_glob (v := .ref T.c_Row) rfl T.g_Row rfl) pa_nil))) (pe_and (pe_cmpR op_eq (pe_fld (pv 0) rfl) (pe_fld (pv 1) rfl) (nomark _)) (pe_and (pe_cmpR op_eq (pe_fld (pv 0) rfl) (pe_fld (pv 1) rfl) (nomark _)) (pe_and (pe_cmpR op_eq (pe_fld (pv 0) rfl) (pe_fld (pv 1) rfl) (nomark _)) (pe_one (pe_cmpR op_eq (pe_fld (pv 0) rfl) (pe_fld (pv 1) rfl) (nomark _))))))))), ?_⟩; (try simp only [cxOf])
    obtain ⟨dx, hp0⟩ := hp
    obtain ⟨dy, hq0⟩ := hq
    unfold rowF at hp0 hq0
    cases u <;> rcases hv with ⟨i, rfl⟩ | ⟨t, rfl⟩ <;>
    · simp only [optI] at *
      walk_at "st"
      simpa using kk
theorem ok_Lbag (T : Tx K mg) : FnOk P w K mg base CX0 1 T.a_Lbag T.fd_Lbag ["script", "at"] (spLbag K) := by
  refine T.F_Lbag.ok sc_Lbag (fun vs H Q E h => ?_) (fun cdv A outer s H vs Q E hr h => ?_)
  · obtain ⟨a, ns, i, rfl, _⟩ := h
    rfl
  · obtain ⟨a, ns, i, rfl, hs, h0, h1, kk⟩ := h
    refine ⟨_, (pss_cons (ps_set (i := 2) sc_Lbag.nd rfl (by first | exact Or.inl rfl | exact Or.inr rfl) (pe_ifExp (pt_cmpR op_lt (pv 1) (pe_callB c_len (by rfl) T.n_len (by decide +kernel) (pa_cons (pv 0) pa_nil)) (nomark _)) (pe_ix ix_seq (pv 0) (pv 1) (fun _ _ => rfl)) pe_int)) (pss_cons (ps_set (i := 3) sc_Lbag.nd rfl (by first | exact Or.inl rfl | exact Or.inr rfl) (pe_ifExp (pt_cmpR op_ge (pe_callB c_abs (by rfl) T.n_abs (by decide +kernel) (pa_cons (pv 2) pa_nil)) (pe_op op_pow pe_int pe_int) (nomark _)) (pe_callB c_abs (by rfl) T.n_abs (by decide +kernel) (pa_cons (pv 2) pa_nil)) pe_int)) (pss_one (ps_ret (pe_lst (pa_cons (pv 3) (pa_cons (pe_op op_addX (pe_op op_addX (pe_op op_mulW (pe_op op_mod (pe_callTy c_int1 (by rfl) T.n_int (by decide +kernel) (pa_cons (pv 2) pa_nil)) pe_int) pe_int) (pe_op op_mulW pe_int (pv 1))) pe_int) (pa_cons pe_int pa_nil)))))))), ?_⟩; (try simp only [cxOf])
    walk_at "st"
    refine r_lenL hs ?_
    walk_at "st"
    have key : ∀ z : Int, ∃ d : Int, 0 ≤ d ∧ (if (if z < 0 then -z else z) ≥ 10 ^ 18 then (if z < 0 then -z else z) else 0) = d := fun z => ⟨_, by split <;> (try split) <;> omega, rfl⟩
    refine if_d (fun hi => ?_) (fun hi => ?_)
    · obtain ⟨j, rfl⟩ : ∃ j : Nat, i = j := ⟨i.toNat, by omega⟩
      have hj : j < ns.length := by simp only [List.length_map] at hi; omega
      walk_at "st"
      refine r_ixL hs (at_of rfl (v := V.int ns[j]) (by simp [hj])) ?_
      walk_at "st"
      have b := Lbag_fin (z := ns[j]) h0 h1
      refine if_d (fun hd => ?_) (fun hd => ?_)
      · walk_at "st"
        have e1 := Int.emod_nonneg ns[j] (b := 2305843009213693951) (by decide)
        have e2 := Int.emod_lt_of_pos ns[j] (b := 2305843009213693951) (by decide)
        walk_at "st"
        exact kk _ _ hmN hmE ⟨_, _, _, hmA, by split <;> omega, b.1, b.2, by omega, by omega⟩
      · walk_at "st"
        have e1 := Int.emod_nonneg ns[j] (b := 2305843009213693951) (by decide)
        have e2 := Int.emod_lt_of_pos ns[j] (b := 2305843009213693951) (by decide)
        walk_at "st"
        exact kk _ _ hmN hmE ⟨_, _, _, hmA, by omega, b.1, b.2, by omega, by omega⟩
    · walk_at "st"
      have b := Lbag_fin (z := 0) h0 h1
      exact kk _ _ hmN hmE ⟨_, _, _, hmA, by (first | omega | (split <;> omega) | simp), b.1, b.2, by omega, by omega⟩
theorem ok_Ltake (T : Tx K mg) : FnOk P w K mg base CX0 1 T.a_Ltake T.fd_Ltake ["bag", "many"] (spLtake) := by
  refine T.F_Ltake.ok sc_Ltake (fun vs H Q E h => ?_) (fun cdv A outer s H vs Q E hr h => ?_)
  · obtain ⟨b, k, m, rfl, _⟩ := h
    rfl
  · obtain ⟨b, k, m, rfl, hb, hk, h0, h1, kk⟩ := h
    obtain ⟨a, n, c, hb, a0, n0, n1, c0, c1⟩ := hb
    refine ⟨_, (pss_cons (ps_if (pt_cmpR op_gt (pe_ix ix_seq (pv 0) pe_int (fun _ _ => rfl)) pe_int (nomark _)) (pss_cons (ps_set (i := 2) sc_Ltake.nd rfl (by first | exact Or.inl rfl | exact Or.inr rfl) (pe_op op_mod (pe_callTy c_int1 (by rfl) T.n_int (by decide +kernel) (pa_cons (pe_ix ix_seq (pv 0) pe_int (fun _ _ => rfl)) pa_nil)) (pv 1))) (pss_cons (ps_asg (pe_op op_fdivW (pe_ix ix_seq (pv 0) pe_int (fun _ _ => rfl)) (pv 1)) (pg_sub (pv 0) pe_int set_list)) (pss_one (ps_ret (pv 2))))) pss_nil) (pss_cons (ps_asg (pe_op op_addX (pe_ix ix_seq (pv 0) pe_int (fun _ _ => rfl)) pe_int) (pg_sub (pv 0) pe_int set_list)) (pss_cons (ps_set (i := 3) sc_Ltake.nd rfl (by first | exact Or.inl rfl | exact Or.inr rfl) (pe_op op_mod (pe_callTy c_int1 (by rfl) T.n_int (by decide +kernel) (pa_cons (pe_op op_pow (pe_op op_addX (pe_ix ix_seq (pv 0) pe_int (fun _ _ => rfl)) (pe_op op_mulW pe_int (pe_ix ix_seq (pv 0) pe_int (fun _ _ => rfl)))) pe_int) pa_nil)) pe_int)) (pss_cons (ps_set (i := 3) sc_Ltake.nd rfl (by first | exact Or.inl rfl | exact Or.inr rfl) (pe_op op_mod (pe_callTy c_int1 (by rfl) T.n_int (by decide +kernel) (pa_cons (pe_op op_pow (pe_op op_addX (pv 3) (pe_op op_mulW pe_int (pe_ix ix_seq (pv 0) pe_int (fun _ _ => rfl)))) pe_int) pa_nil)) pe_int)) (pss_one (ps_ret (pe_op op_mod (pe_callTy c_int1 (by rfl) T.n_int (by decide +kernel) (pa_cons (pe_op op_fdivW (pv 3) pe_int) pa_nil)) (pv 1)))))))), ?_⟩; (try simp only [cxOf])
    walk_at "st"
    refine if_d (fun ha => ?_) (fun ha => ?_)
    · walk_at "st"
      exact kk _ _ (Int.emod_nonneg _ (by omega)) (Int.emod_lt_of_pos _ h0) hmB ⟨_, n, c, hmA, Int.ediv_nonneg a0 (by omega), n0, n1, c0, by omega⟩
    · walk_at "st"
      exact kk _ _ (Int.emod_nonneg _ (by omega)) (Int.emod_lt_of_pos _ h0) hmB ⟨_, n, c + 1, hmA, a0, n0, n1, by omega, by omega⟩
theorem ok_Lwide (T : Tx K mg) : FnOk P w K mg base CX0 2 T.a_Lwide T.fd_Lwide ["bag", "many"] (spLwide) := by
  refine T.F_Lwide.ok sc_Lwide (fun vs H Q E h => ?_) (fun cdv A outer s H vs Q E hr h => ?_)
  · obtain ⟨b, k, m, rfl, _⟩ := h
    rfl
  · obtain ⟨b, k, m, rfl, hb, hk, h0, h1, kk⟩ := h
    have hb' := hb
    obtain ⟨a, n, c, hl, _⟩ := hb'
    refine ⟨_, (pss_cons (ps_if (pt_cmpR op_gt (pe_ix ix_seq (pv 0) pe_int (fun _ _ => rfl)) pe_int (nomark _)) (pss_one (ps_ret (pe_call (ok_Ltake T) (hr.mono (by decide)) rfl T.g_Ltake T.F_Ltake.kp T.b_Ltake .nil pass0 (pa_cons (pv 0) (pa_cons (pv 1) pa_nil))))) pss_nil) (pss_cons (ps_set (i := 2) sc_Lwide.nd rfl (by first | exact Or.inl rfl | exact Or.inr rfl) pe_int) (pss_cons (ps_for PassesOwn.never rfl (pi_range1 (by rfl) T.n_range (pa_cons pe_int pa_nil)) (pg_name (i := 3) sc_Lwide.nd rfl (by first | exact Or.inl rfl | exact Or.inr rfl)) (pss_one (ps_set (i := 2) sc_Lwide.nd rfl (by first | exact Or.inl rfl | exact Or.inr rfl) (pe_op op_addX (pe_op op_mulW (pv 2) pe_int) (pe_call (ok_Ltake T) (hr.mono (by decide)) rfl T.g_Ltake T.F_Ltake.kp T.b_Ltake .nil pass0 (pa_cons (pv 0) (pa_cons pe_int pa_nil))))))) (pss_one (ps_ret (pe_op op_mod (pe_callTy c_int1 (by rfl) T.n_int (by decide +kernel) (pa_cons (pv 2) pa_nil)) (pv 1))))))), ?_⟩; (try simp only [cxOf])
    walk_at "st"
    refine if_d (fun ha => ?_) (fun ha => ?_)
    · walk_at "st"
      exact ⟨b, k, m, rfl, hb, by omega, h0, h1, fun r H' r0 r1 B B' => kk r H' r0 r1 B (B'.mono (by omega))⟩
    · walk_at "st"
      refine fo_range (fun i σ' H' => ∃ (z : Int) (t : Option V), σ' = [some (.ref b), some (.int m), some (.int z), t] ∧ 0 ≤ z ∧ z < wideB i ∧ But b H H' ∧ Bag H' b (k + i)) ⟨0, none, rfl, by decide, by decide, But.refl _ _, hb⟩ ?_ ?_
      · rintro i σ' H' hi ⟨z, t, rfl, z0, z1, e, B⟩
        have zb := wideB_lt i (by omega)
        walk_at "st"
        refine ⟨b, k + i, _, rfl, B, by omega, by decide, by decide, fun r H2 r0 r1 e2 B2 => ?_⟩
        walk_at "st"
        have st := wideB_step z0 z1 r0 r1
        exact ⟨_, _, rfl, st.1, st.2, e.trans e2, B2⟩
      · rintro σ' H' ⟨z, t, rfl, z0, z1, e, B⟩
        walk_at "st"
        exact kk _ _ (Int.emod_nonneg _ (by omega)) (Int.emod_lt_of_pos _ h0) e B
theorem ok_Lof (T : Tx K mg) : FnOk P w K mg base CX0 2 T.a_Lof T.fd_Lof ["bag", "some"] (spLof) := by
  refine T.F_Lof.ok sc_Lof (fun vs H Q E h => ?_) (fun cdv A outer s H vs Q E hr h => ?_)
  · obtain ⟨b, k, x, vs', rfl, _⟩ := h
    rfl
  · obtain ⟨b, k, x, xs, rfl, hb, hk, hx, hne, hl, kk⟩ := h
    have hlen : 0 < xs.length := List.length_pos_iff.mpr hne
    refine ⟨_, (pss_one (ps_ret (pe_ix ix_seq (pv 1) (pe_call (ok_Ltake T) (hr.mono (by decide)) rfl T.g_Ltake T.F_Ltake.kp T.b_Ltake .nil pass0 (pa_cons (pv 0) (pa_cons (pe_callB c_len (by rfl) T.n_len (by decide +kernel) (pa_cons (pv 1) pa_nil)) pa_nil))) (fun _ _ => rfl)))), ?_⟩; (try simp only [cxOf])
    walk_at "st"
    cases hx with
    | @lst p _ hp hpb =>
      walk_at "st"
      refine ⟨b, k, _, rfl, hb, hk, by omega, by omega, fun r H' r0 r1 e B => ?_⟩
      obtain ⟨j, rfl⟩ : ∃ j : Nat, r = j := ⟨r.toNat, by omega⟩
      have hj : j < xs.length := by omega
      exact r_ixL (SqL.of (e _ _ hpb hp)) (at_of rfl (v := xs[j]) (by simp [hj])) (kk _ _ (List.getElem_mem hj) e B)
    | @tup p _ hp =>
      walk_at "st"
      refine ⟨b, k, _, rfl, hb, hk, by omega, by omega, fun r H' r0 r1 e B => ?_⟩
      obtain ⟨j, rfl⟩ : ∃ j : Nat, r = j := ⟨r.toNat, by omega⟩
      have hj : j < xs.length := by omega
      exact r_ixT (SqT.of (hb.tp e _ _ hp)) (at_of rfl (v := xs[j]) (by simp [hj])) (kk _ _ (List.getElem_mem hj) e B)
    | @str s cs hs hz =>
      refine r_lenS hz ?_
      walk_at "st"
      have hc : s.length = cs.length := by rw [← hs]; simp [Str.length]
      simp only [List.length_map] at hlen hl
      refine ⟨b, k, _, rfl, hb, hk, by omega, by omega, fun r H' r0 r1 e B => ?_⟩
      obtain ⟨j, rfl⟩ : ∃ j : Nat, r = j := ⟨r.toNat, by omega⟩
      have hj : j < cs.length := by omega
      exact r_ixS hz (c := cs[j]) (by rw [hs]; exact atI_nat (by simp [hj])) (kk _ _ (List.mem_map.mpr ⟨cs[j], List.getElem_mem hj, rfl⟩) e B)
theorem ok_Lday (T : Tx K mg) : FnOk P w K mg base CX0 3 T.a_Lday T.fd_Lday ["bag"] (spLday) := by
  refine T.F_Lday.ok sc_Lday (fun vs H Q E h => ?_) (fun cdv A outer s H vs Q E hr h => ?_)
  · obtain ⟨b, k, rfl, _⟩ := h
    rfl
  · obtain ⟨b, k, rfl, hb, hk, kk⟩ := h
    refine ⟨_, (pss_cons (ps_set (i := 1) sc_Lday.nd rfl (by first | exact Or.inl rfl | exact Or.inr rfl) (pe_call (ok_Lof T) (hr.mono (by decide)) rfl T.g_Lof T.F_Lof.kp T.b_Lof .nil pass0 (pa_cons (pv 0) (pa_cons (pe_lst (pa_cons pe_int (pa_cons pe_int (pa_cons pe_int (pa_cons (pe_op op_pow pe_int pe_int) (pa_cons (pe_op op_pow pe_int pe_int) (pa_cons (pe_op op_pow pe_int pe_int) pa_nil))))))) pa_nil)))) (pss_one (ps_ret (pe_op op_sub (pe_call (ok_Lwide T) (hr.mono (by decide)) rfl T.g_Lwide T.F_Lwide.kp T.b_Lwide .nil pass0 (pa_cons (pv 0) (pa_cons (pe_op op_addX (pe_op op_mulW pe_int (pv 1)) pe_int) pa_nil))) (pv 1))))), ?_⟩; (try simp only [cxOf])
    walk_at "st"
    have hbp : b ≠ pn := by
      obtain ⟨_, hl⟩ := hb.lst
      exact ne_of_none hl hmN
    refine ⟨b, k, _, _, rfl, hb.ex hmE, by omega, .lst hmA hbp.symm, by simp, by simp, fun v H' hv e B => ?_⟩
    obtain ⟨z, rfl, z0, z1⟩ : ∃ z : Int, v = .int z ∧ 0 ≤ z ∧ z ≤ 10 ^ 59 := by
      simp only [List.mem_cons, List.not_mem_nil, or_false] at hv
      rcases hv with rfl | rfl | rfl | rfl | rfl | rfl <;> exact ⟨_, rfl, by decide, by decide⟩
    walk_at "st"
    refine ⟨b, k + 1, _, rfl, B, by omega, by omega, by omega, fun r H2 r0 r1 e2 B2 => ?_⟩
    walk_at "st"
    exact kk _ _ (by omega) (by omega) ((hmE.but (l := b)).trans (e.trans e2)) B2
theorem ok_Lvalue (T : Tx K mg) : FnOk P w K mg base CX0 3 T.a_Lvalue T.fd_Lvalue ["bag"] (spLvalue) := by
  refine T.F_Lvalue.ok sc_Lvalue (fun vs H Q E h => ?_) (fun cdv A outer s H vs Q E hr h => ?_)
  · obtain ⟨b, k, rfl, _⟩ := h
    rfl
  · obtain ⟨b, k, rfl, hb, hk, kk⟩ := h
    refine ⟨_, (pss_cons (ps_set (i := 1) sc_Lvalue.nd rfl (by first | exact Or.inl rfl | exact Or.inr rfl) (pe_call (ok_Ltake T) (hr.mono (by decide)) rfl T.g_Ltake T.F_Ltake.kp T.b_Ltake .nil pass0 (pa_cons (pv 0) (pa_cons pe_int pa_nil)))) (pss_cons (ps_if (pt_cmpR op_eq (pv 1) pe_int (nomark _)) (pss_one (ps_ret (pe_op op_sub (pe_call (ok_Ltake T) (hr.mono (by decide)) rfl T.g_Ltake T.F_Ltake.kp T.b_Ltake .nil pass0 (pa_cons (pv 0) (pa_cons pe_int pa_nil))) pe_int))) pss_nil) (pss_cons (ps_if (pt_cmpR op_eq (pv 1) pe_int (nomark _)) (pss_one (ps_ret (pe_op op_sub (pe_call (ok_Lwide T) (hr.mono (by decide)) rfl T.g_Lwide T.F_Lwide.kp T.b_Lwide .nil pass0 (pa_cons (pv 0) (pa_cons (pe_op op_mulW pe_int (pe_op op_pow pe_int pe_int)) pa_nil))) (pe_op op_pow pe_int pe_int)))) pss_nil) (pss_cons (ps_set (i := 2) sc_Lvalue.nd rfl (by first | exact Or.inl rfl | exact Or.inr rfl) pe_str) (pss_cons (ps_for PassesOwn.never rfl (pi_range1 (by rfl) T.n_range (pa_cons (pe_call (ok_Lof T) (hr.mono (by decide)) rfl T.g_Lof T.F_Lof.kp T.b_Lof .nil pass0 (pa_cons (pv 0) (pa_cons (pe_lst (pa_cons pe_int (pa_cons pe_int (pa_cons pe_int (pa_cons pe_int pa_nil))))) pa_nil))) pa_nil)) (pg_name (i := 3) sc_Lvalue.nd rfl (by first | exact Or.inl rfl | exact Or.inr rfl)) (pss_one (ps_set (i := 2) sc_Lvalue.nd rfl (by first | exact Or.inl rfl | exact Or.inr rfl) (pe_op op_addX (pv 2) (pe_call (ok_Lof T) (hr.mono (by decide)) rfl T.g_Lof T.F_Lof.kp T.b_Lof .nil pass0 (pa_cons (pv 0) (pa_cons pe_str pa_nil))))))) (pss_one (ps_ret (pv 2)))))))), ?_⟩; (try simp only [cxOf])
    walk_at "st"
    refine ⟨b, k, 4, rfl, hb, by omega, by decide, by decide, fun r H1 r0 r1 e1 B1 => ?_⟩
    walk_at "st"
    refine if_d (fun h => ?_) (fun h => ?_)
    · walk_at "st"
      refine ⟨b, k + 1, 5, rfl, B1, by omega, by decide, by decide, fun r2 H2 r20 r21 e2 B2 => ?_⟩
      walk_at "st"
      exact kk _ _ (.int (by omega) (by omega)) (e1.trans e2) (B2.mono (by omega))
    · walk_at "st"
      refine if_d (fun h2 => ?_) (fun h2 => ?_)
      · walk_at "st"
        refine ⟨b, k + 1, _, rfl, B1, by omega, by decide, by decide, fun r2 H2 r20 r21 e2 B2 => ?_⟩
        walk_at "st"
        exact kk _ _ (.int (by omega) (by omega)) (e1.trans e2) (B2.mono (by omega))
      · walk_at "st"
        have hbp : b ≠ pn := by
          obtain ⟨_, hl⟩ := B1.lst
          exact ne_of_none hl hmN
        refine ⟨b, k + 1, _, _, rfl, B1.ex hmE, by omega, .lst hmA hbp.symm, by simp, by simp, fun v H2 hv e2 B2 => ?_⟩
        obtain ⟨n, rfl, hn⟩ : ∃ n : Nat, v = .int n ∧ n ≤ 9 := by
          simp only [List.mem_cons, List.not_mem_nil, or_false] at hv
          rcases hv with rfl | rfl | rfl | rfl
          · exact ⟨0, rfl, by decide⟩
          · exact ⟨1, rfl, by decide⟩
          · exact ⟨2, rfl, by decide⟩
          · exact ⟨9, rfl, by decide⟩
        have eA : But b H H2 := e1.trans ((hmE.but (l := b)).trans e2)
        walk_at "st"
        refine fo_range (fun i σ' H' => ∃ (s : Str) (t : Option V), σ' = [some (.ref b), some (.int r), some (.str s), t] ∧ s.length = i ∧ But b H H' ∧ Bag H' b (k + 2 + i)) ⟨_, none, rfl, rfl, eA, B2⟩ ?_ ?_
        · rintro i σ' H' hi ⟨s, t, rfl, hs, e, B⟩
          walk_at "st"
          refine ⟨b, k + 2 + i, _, _, rfl, B, by omega, .str rfl (by decide), by decide, by decide, fun v H3 hv e3 B3 => ?_⟩
          obtain ⟨c, _, rfl⟩ := List.mem_map.mp hv
          refine r_addS (szO (by rw [hs]; show i + 1 ≤ _; omega)) ?_
          walk_at "st"
          refine ⟨_, _, rfl, ?_, e.trans e3, B3⟩
          rw [PySem.Str.length_append, hs]; rfl
        · rintro σ' H' ⟨s, t, rfl, hs, e, B⟩
          walk_at "st"
          exact kk _ _ (.str (by omega)) e (B.mono (by omega))
theorem ok_Lends (T : Tx K mg) : FnOk P w K mg base CX0 3 T.a_Lends T.fd_Lends ["bag"] (spLends) := by
  refine T.F_Lends.ok sc_Lends (fun vs H Q E h => ?_) (fun cdv A outer s H vs Q E hr h => ?_)
  · obtain ⟨b, k, rfl, _⟩ := h
    rfl
  · obtain ⟨b, k, rfl, hb, hk, kk⟩ := h
    refine ⟨_, (pss_one (ps_ret (pe_call (ok_Lof T) (hr.mono (by decide)) rfl T.g_Lof T.F_Lof.kp T.b_Lof .nil pass0 (pa_cons (pv 0) (pa_cons (pe_lst (pa_cons pe_str (pa_cons pe_str pa_nil))) pa_nil))))), ?_⟩; (try simp only [cxOf])
    walk_at "st"
    have hbp : b ≠ pn := by
      obtain ⟨_, hl⟩ := hb.lst
      exact ne_of_none hl hmN
    refine ⟨b, k, _, _, rfl, hb.ex hmE, by omega, .lst hmA hbp.symm, by simp, by simp, fun v H' hv e B => ?_⟩
    simp only [List.mem_cons, List.not_mem_nil, or_false] at hv
    rcases hv with rfl | rfl
    · exact kk _ _ (.inl rfl) ((hmE.but (l := b)).trans e) B
    · exact kk _ _ (.inr rfl) ((hmE.but (l := b)).trans e) B
theorem ok_Lsame_value (T : Tx K mg) : FnOk P w K mg base CX0 1 T.a_Lsame_value T.fd_Lsame_value ["one", "other"] (spLsameV) := by
  refine T.F_Lsame_value.ok sc_Lsame_value (fun vs H Q E h => ?_) (fun cdv A outer s H vs Q E hr h => ?_)
  · obtain ⟨x, y, rfl, _⟩ := h
    rfl
  · obtain ⟨x, y, rfl, hx, hy, kk⟩ := h
    refine ⟨_, (pss_one (ps_ret (pe_and (pe_cmpR op_eq (pe_callB call_isi (by rfl) T.n_isinstance (by decide +kernel) (pa_cons (pv 0) (pa_cons (pe_bltn (v := .ty "int") (by rfl) T.n_int (by decide +kernel) rfl) pa_nil))) (pe_callB call_isi (by rfl) T.n_isinstance (by decide +kernel) (pa_cons (pv 1) (pa_cons (pe_bltn (v := .ty "int") (by rfl) T.n_int (by decide +kernel) rfl) pa_nil))) (nomark _)) (pe_one (pe_cmpR op_eq (pv 0) (pv 1) (nomark _)))))), ?_⟩; (try simp only [cxOf])
    cases hx <;> cases hy
    · walk_at "st"
      simpa [sameV] using kk
    · walk_at "st"
      simpa [sameV] using kk
    · walk_at "st"
      simpa [sameV] using kk
    · walk_at "st"
      simpa [sameV] using kk
theorem ok_Lis_number (T : Tx K mg) : FnOk P w K mg base CX0 1 T.a_Lis_number T.fd_Lis_number ["thing"] (spLisNum) := by
  refine T.F_Lis_number.ok sc_Lis_number (fun vs H Q E h => ?_) (fun cdv A outer s H vs Q E hr h => ?_)
  · obtain ⟨x, rfl, _⟩ := h
    rfl
  · obtain ⟨x, rfl, hx, kk⟩ := h
    refine ⟨_, (pss_one (ps_ret (pe_and (pe_callB call_isi (by rfl) T.n_isinstance (by decide +kernel) (pa_cons (pv 0) (pa_cons (pe_bltn (v := .ty "int") (by rfl) T.n_int (by decide +kernel) rfl) pa_nil))) (pe_one (pe_not (pe_callB call_isi (by rfl) T.n_isinstance (by decide +kernel) (pa_cons (pv 0) (pa_cons (pe_bltn (v := .ty "bool") (by rfl) T.n_bool (by decide +kernel) rfl) pa_nil)))))))), ?_⟩; (try simp only [cxOf])
    cases hx <;>
    · walk_at "st"
      first
        | exact kk
        | exact if_F kk
        | (refine if_T ?_; walk_at "st"; exact kk)
theorem ok_Lparts (T : Tx K mg) : FnOk P w K mg base CX0 1 T.a_Lparts T.fd_Lparts ["script", "most"] (spLparts K) := by
  refine T.F_Lparts.ok sc_Lparts (fun vs H Q E h => ?_) (fun cdv A outer s H vs Q E hr h => ?_)
  · obtain ⟨a, ns, m, rfl, _⟩ := h
    rfl
  · obtain ⟨a, xs, m, rfl, hs, kk⟩ := h
    refine ⟨_, (pss_one (ps_ret (pe_callB (c_max2 rfl) (by rfl) T.n_max (by decide +kernel) (pa_cons pe_int (pa_cons (pe_callB (c_min2 rfl) (by rfl) T.n_min (by decide +kernel) (pa_cons (pe_callB c_len (by rfl) T.n_len (by decide +kernel) (pa_cons (pv 0) pa_nil)) (pa_cons (pv 1) pa_nil))) pa_nil))))), ?_⟩; (try simp only [cxOf])
    walk_at "st"
    refine r_lenL hs ?_
    walk_at "st"
    refine kk _ ?_ ?_ <;> (split <;> split <;> omega)
theorem ok_Lsame (T : Tx K mg) : FnOk P w K mg base CX0 2 T.a_Lsame T.fd_Lsame ["told", "due"] (spLsame) := by
  refine T.F_Lsame.ok sc_Lsame (fun vs H Q E h => ?_) (fun cdv A outer s H vs Q E hr h => ?_)
  · obtain ⟨x, y, rfl, _⟩ := h
    rfl
  · obtain ⟨x, y, rfl, hx, hy, kk⟩ := h
    refine ⟨_, (pss_cons (ps_if (PW.pt (pw_or (pt_cmp (pc_isN (pv 0))) (pw_or1 (pt_cmp (pc_isN (pv 1)))))) (pss_one (ps_ret (pe_and (pe_cmp (pc_isN (pv 0))) (pe_one (pe_cmp (pc_isN (pv 1))))))) pss_nil) (pss_one (ps_ret (pe_and (pe_not (pe_callB call_isi (by rfl) T.n_isinstance (by decide +kernel) (pa_cons (pv 0) (pa_cons (pe_bltn (v := .ty "bool") (by rfl) T.n_bool (by decide +kernel) rfl) pa_nil)))) (pe_one (pe_call (ok_Lsame_value T) (hr.mono (by decide)) rfl T.g_Lsame_value T.F_Lsame_value.kp T.b_Lsame_value .nil pass0 (pa_cons (pv 0) (pa_cons (pv 1) pa_nil)))))))), ?_⟩; (try simp only [cxOf])
    cases hx with
    | non =>
      walk_at "st"
      try refine if_dT rfl ?_
      try refine if_T ?_
      walk_at "st"
      try refine if_dT rfl ?_
      walk_at "st"
      have e : decide (V.non = y) = decide (y = V.non) := by simp [eq_comm]
      rw [← e]
      exact kk
    | w wx =>
      have nx : ¬ x = V.non := by intro z; subst z; cases wx
      walk_at "st"
      try refine if_dF nx ?_
      walk_at "st"
      cases hy with
      | non =>
        try refine if_T ?_
        walk_at "st"
        try refine if_dF nx ?_
        simpa [nx] using kk
      | w wy =>
        have ny : ¬ y = V.non := by intro z; subst z; cases wy
        try refine if_dF ny ?_
        walk_at "st"
        cases wx <;>
        · walk_at "st"
          try refine if_T ?_
          walk_at "st"
          exact kk
theorem ok_Lmoved (T : Tx K mg) : FnOk P w K mg base CX0 6 T.a_Lmoved T.fd_Lmoved ["row", "first", "until", "value", "ends"] (spLmoved T.c_Row) := by
  refine T.F_Lmoved.ok sc_Lmoved (fun vs H Q E h => ?_) (fun cdv A outer s H vs Q E hr h => ?_)
  · obtain ⟨p, f, u, v, s, rfl, _⟩ := h
    rfl
  · obtain ⟨p, f, u, v, s, rfl, hp, hv, hs, hn, kk⟩ := h
    refine ⟨_, (pss_cons (ps_if (PW.pt (pw_or (pt_not (pt_val (pe_call (ok_Lis_number T) (hr.mono (by decide)) rfl T.g_Lis_number T.F_Lis_number.kp T.b_Lis_number .nil pass0 (pa_cons (pe_fld (pv 0) rfl) pa_nil)))) (pw_or (pt_cmpR op_ne (pe_fld (pv 0) rfl) (pv 1) (nomark _)) (pw_or (pt_cmpR op_ne (pe_prop (pv 0) T.cl_Row T.p_Row_until (ok_Row_until T) (hr.mono (by decide)) T.b_Row_until .nil pass0 rfl) (pv 2) (nomark _)) (pw_or1 (pt_cmpR op_ne (pe_fld (pv 0) rfl) (pv 4) (nomark _))))))) (pss_one (ps_ret pe_bl)) pss_nil) (pss_cons (ps_set (i := 5) sc_Lmoved.nd rfl (by first | exact Or.inl rfl | exact Or.inr rfl) (pe_ifExp (pt_cmp (pc_isN (pv 2))) pe_non (pe_op op_addX (pv 2) (pe_callTy c_int1 (by rfl) T.n_int (by decide +kernel) (pa_cons (pe_cmpR op_eq (pv 4) pe_str (nomark _)) pa_nil))))) (pss_cons (ps_if (PW.pt (pw_or (pt_cmpR op_ne (pe_prop (pv 0) T.cl_Row T.p_Row_stop (ok_Row_stop T) (hr.mono (by decide)) T.b_Row_stop .nil pass0 rfl) (pv 5) (nomark _)) (pw_or (pt_cmpR (op_notInOwn T.m_Row_contains (ok_Row_contains T) (hr.mono (by decide)) T.b_Row_contains pass0) (pv 1) (pv 0) (by with_unfolding_all rfl)) (pw_or1 (pt_cmpR (op_inOwn T.m_Row_contains (ok_Row_contains T) (hr.mono (by decide)) T.b_Row_contains pass0) (pe_op op_sub (pv 1) pe_int) (pv 0) (by with_unfolding_all rfl)))))) (pss_one (ps_ret pe_bl)) pss_nil) (pss_one (ps_ret (pe_and (pe_call (ok_Lsame T) (hr.mono (by decide)) rfl T.g_Lsame T.F_Lsame.kp T.b_Lsame .nil pass0 (pa_cons (pe_fld (pv 0) rfl) (pa_cons (pv 3) pa_nil))) (pe_one (pe_or (pe_cmp (pc_isN (pv 5))) (pe_one (pe_and (pe_cmpR (op_inOwn T.m_Row_contains (ok_Row_contains T) (hr.mono (by decide)) T.b_Row_contains pass0) (pe_op op_sub (pv 5) pe_int) (pv 0) (by with_unfolding_all rfl)) (pe_one (pe_cmpR (op_notInOwn T.m_Row_contains (ok_Row_contains T) (hr.mono (by decide)) T.b_Row_contains pass0) (pv 5) (pv 0) (by with_unfolding_all rfl))))))))))))), ?_⟩; (try simp only [cxOf])
    have hp1 := hp
    obtain ⟨dx, hp0⟩ := hp1
    unfold rowF at hp0
    have es : ("last day" : Str) ≠ "next day" := by decide +kernel
    have es2 := es.symm
    rcases hs with rfl | rfl <;> cases u with
    | none =>
      simp only [optI] at *
      walk_at "st"
      refine if_bF (by first | (simp [bears, stopOf, es, es2]; done) | (simp [bears, stopOf, es, es2]; omega)) ?_
      walk_at "st"
      refine if_bF (by first | (simp [bears, stopOf, es, es2]; done) | (simp [bears, stopOf, es, es2]; omega)) ?_
      walk_at "st"
      exact kk
    | some n =>
      simp [noDay, stopOf, es] at hn
      simp only [optI] at *
      walk_at "st"
      refine if_bF (by simp [stopOf, optI, es, es2]) ?_
      walk_at "st"
      refine if_bF (by first | (simp [bears, stopOf, es, es2]; done) | (simp [bears, stopOf, es, es2]; omega)) ?_
      walk_at "st"
      refine if_bF (by first | (simp [bears, stopOf, es, es2]; done) | (simp [bears, stopOf, es, es2]; omega)) ?_
      walk_at "st"
      refine if_bT (by first | (simp [bears, stopOf, es, es2]; done) | (simp [bears, stopOf, es, es2]; omega)) ?_
      walk_at "st"
      simpa [bears, stopOf, es, es2] using kk
theorem ok_Llater (T : Tx K mg) : FnOk P w K mg base CX0 1 T.a_Llater T.fd_Llater ["until", "many"] (spLlater) := by
  refine T.F_Llater.ok sc_Llater (fun vs H Q E h => ?_) (fun cdv A outer s H vs Q E hr h => ?_)
  · obtain ⟨u, i, rfl, _⟩ := h
    rfl
  · obtain ⟨u, i, rfl, kk⟩ := h
    refine ⟨_, (pss_one (ps_ret (pe_ifExp (pt_cmp (pc_isN (pv 0))) pe_non (pe_op op_addX (pv 0) (pv 1))))), ?_⟩; (try simp only [cxOf])
    cases u with
    | none =>
      simp only [optI] at *
      walk_at "st"
      exact kk
    | some n =>
      simp only [optI] at *
      walk_at "st"
      exact kk
theorem ok_law (T : Tx K mg) : FnOk P w K mg base CX0 13 T.a_law T.fd_law ["script"] (spLaw K) := by
  refine T.F_law.ok sc_law (fun vs H Q E h => ?_) (fun cdv A outer s H vs Q E hr h => ?_)
  · obtain ⟨a, ns, rfl, _⟩ := h
    rfl
  · obtain ⟨a, ns, rfl, hs, hl, kk⟩ := h
    refine ⟨_, (pss_cons (ps_set (i := 1) sc_law.nd rfl (by first | exact Or.inl rfl | exact Or.inr rfl) pe_non) (pss_cons (ps_for PassesOwn.never rfl (pi_range1 (by rfl) T.n_range (pa_cons (pe_call (ok_Lparts T) (hr.mono (by decide)) rfl T.g_Lparts T.F_Lparts.kp T.b_Lparts .nil pass0 (pa_cons (pv 0) (pa_cons pe_int pa_nil))) pa_nil)) (pg_name (i := 2) sc_law.nd rfl (by first | exact Or.inl rfl | exact Or.inr rfl)) (pss_cons (ps_set (i := 3) sc_law.nd rfl (by first | exact Or.inl rfl | exact Or.inr rfl) (pe_call (ok_Lbag T) (hr.mono (by decide)) rfl T.g_Lbag T.F_Lbag.kp T.b_Lbag .nil pass0 (pa_cons (pv 0) (pa_cons (pv 2) pa_nil)))) (pss_cons (ps_par3 (i := 4) (j := 5) (l := 6) rfl sc_law.nd rfl rfl rfl (by decide) (by decide) (by decide) rfl rfl rfl (by exact (pa_cons (pe_call (ok_Lends T) (hr.mono (by decide)) rfl T.g_Lends T.F_Lends.kp T.b_Lends .nil pass0 (pa_cons (pv 3) pa_nil)) (pa_cons (pe_call (ok_Lday T) (hr.mono (by decide)) rfl T.g_Lday T.F_Lday.kp T.b_Lday .nil pass0 (pa_cons (pv 3) pa_nil)) (pa_cons (pe_call (ok_Lvalue T) (hr.mono (by decide)) rfl T.g_Lvalue T.F_Lvalue.kp T.b_Lvalue .nil pass0 (pa_cons (pv 3) pa_nil)) pa_nil)))) (by rfl)) (pss_cons (ps_set (i := 7) sc_law.nd rfl (by first | exact Or.inl rfl | exact Or.inr rfl) (pe_ifExp (pt_cmpR op_eq (pe_call (ok_Ltake T) (hr.mono (by decide)) rfl T.g_Ltake T.F_Ltake.kp T.b_Ltake .nil pass0 (pa_cons (pv 3) (pa_cons pe_int pa_nil))) pe_int (nomark _)) pe_non (pe_op op_addX (pv 5) (pe_call (ok_Lof T) (hr.mono (by decide)) rfl T.g_Lof T.F_Lof.kp T.b_Lof .nil pass0 (pa_cons (pv 3) (pa_cons (pe_lst (pa_cons pe_int (pa_cons pe_int (pa_cons pe_int (pa_cons (pe_op op_pow pe_int pe_int) pa_nil))))) pa_nil)))))) (pss_cons (ps_set (i := 8) sc_law.nd rfl (by first | exact Or.inl rfl | exact Or.inr rfl) (pe_make T.mk_Row (ok_Row_init T) (hr.mono (by decide)) rfl T.g_Row (T.b5_Row_init).choose_spec.2 (T.b5_Row_init).choose_spec.1 passL (pa_cons (pv 5) (pa_cons (pv 7) (pa_cons (pv 6) (pa_cons (pv 4) pa_nil)))))) (pss_cons (ps_asg (pe_lc (own := [("turn", 16)]) rfl sc_law.nd (pi_list (pe_lst (pa_cons pe_int (pa_cons pe_int pa_nil)))) (blkOk_by (N := ["script", "before", "at", "bag", "ends", "first", "value", "until", "row", "many", "more", "later", "same", "one", "twice", "zero", "turn"]) (sc := defScope s_law) (by decide +kernel)) (fun _ _ _ _ _ =>  by exact (pg_name (i := 16) sc_law.nd rfl (by first | exact Or.inl rfl | exact Or.inr rfl))) (fun _ _ _ _ _ =>  by exact pts_nil) (fun _ _ _ _ _ =>  by exact (pe_op op_mulW (pe_call (ok_Lof T) (hr.mono (by decide)) rfl T.g_Lof T.F_Lof.kp T.b_Lof .nil pass0 (pa_cons (pv 3) (pa_cons (pe_lst (pa_cons pe_int (pa_cons (pe_un un_neg pe_int) (pa_cons pe_int (pa_cons pe_int (pa_cons (pe_un un_neg pe_int) (pa_cons pe_int (pa_cons (pe_op op_pow pe_int pe_int) (pa_cons (pe_un un_neg (pe_op op_pow pe_int pe_int)) pa_nil))))))))) pa_nil))) (pe_op op_addX pe_int (pe_call (ok_Ltake T) (hr.mono (by decide)) rfl T.g_Ltake T.F_Ltake.kp T.b_Ltake .nil pass0 (pa_cons (pv 3) (pa_cons pe_int pa_nil))))))) (pg_unlK (K0 := K) (n := 2) rfl (pgs_cons (pg_name (i := 9) sc_law.nd rfl (by first | exact Or.inl rfl | exact Or.inr rfl)) (pgs_cons (pg_name (i := 10) sc_law.nd rfl (by first | exact Or.inl rfl | exact Or.inr rfl)) pgs_nil)))) (pss_cons (ps_par (i := 11) (j := 12) rfl sc_law.nd rfl rfl (by decide) rfl rfl (by exact (pa_cons (pe_op (op_addOI T.ad_Row T.m_Row_add T.m_Row_radd (ok_Row_add T) (hr.mono (by decide)) T.b_Row_add pass0) (pv 8) (pv 9)) (pa_cons (pe_op (op_addIO T.ad_Row T.m_Row_add T.m_Row_radd (ok_Row_radd T) (hr.mono (by decide)) T.b_Row_radd pass0) (pv 9) (pv 8)) pa_nil))) (by rfl)) (pss_cons (ps_for PassesOwn.never rfl (pi_list (pe_lst (pa_cons (pv 11) (pa_cons (pv 12) pa_nil)))) (pg_name (i := 13) sc_law.nd rfl (by first | exact Or.inl rfl | exact Or.inr rfl)) (pss_one (ps_if (pt_not (pt_val (pe_call (ok_Lmoved T) (hr.mono (by decide)) rfl T.g_Lmoved T.F_Lmoved.kp T.b_Lmoved .nil pass0 (pa_cons (pv 13) (pa_cons (pe_op op_addX (pv 5) (pv 9)) (pa_cons (pe_call (ok_Llater T) (hr.mono (by decide)) rfl T.g_Llater T.F_Llater.kp T.b_Llater .nil pass0 (pa_cons (pv 7) (pa_cons (pv 9) pa_nil))) (pa_cons (pv 6) (pa_cons (pv 4) pa_nil)))))))) (pss_one (ps_ret pe_bl)) pss_nil))) (pss_cons (ps_set (i := 14) sc_law.nd rfl (by first | exact Or.inl rfl | exact Or.inr rfl) (pe_op (op_addIO T.ad_Row T.m_Row_add T.m_Row_radd (ok_Row_radd T) (hr.mono (by decide)) T.b_Row_radd pass0) (pv 10) (pv 11))) (pss_cons (ps_if (pt_not (pt_val (pe_call (ok_Lmoved T) (hr.mono (by decide)) rfl T.g_Lmoved T.F_Lmoved.kp T.b_Lmoved .nil pass0 (pa_cons (pv 14) (pa_cons (pe_op op_addX (pe_op op_addX (pv 5) (pv 9)) (pv 10)) (pa_cons (pe_call (ok_Llater T) (hr.mono (by decide)) rfl T.g_Llater T.F_Llater.kp T.b_Llater .nil pass0 (pa_cons (pv 7) (pa_cons (pe_op op_addX (pv 9) (pv 10)) pa_nil))) (pa_cons (pv 6) (pa_cons (pv 4) pa_nil)))))))) (pss_one (ps_ret pe_bl)) pss_nil) (pss_cons (ps_if (PW.pt (pw_or (pt_cmpR op_ne (pe_op (op_subOO T.ad_Row T.m_Row_sub (ok_Row_sub T) (hr.mono (by decide)) T.b_Row_sub pass0) (pv 11) (pv 8)) (pv 9) (nomark _)) (pw_or (pt_cmpR op_ne (pe_op (op_subOO T.ad_Row T.m_Row_sub (ok_Row_sub T) (hr.mono (by decide)) T.b_Row_sub pass0) (pv 8) (pv 11)) (pe_un un_neg (pv 9)) (nomark _)) (pw_or (pt_cmpR op_ne (pe_op (op_subOO T.ad_Row T.m_Row_sub (ok_Row_sub T) (hr.mono (by decide)) T.b_Row_sub pass0) (pv 14) (pv 8)) (pe_op op_addX (pv 9) (pv 10)) (nomark _)) (pw_or1 (pt_not (pt_val (pe_call (ok_Lis_number T) (hr.mono (by decide)) rfl T.g_Lis_number T.F_Lis_number.kp T.b_Lis_number .nil pass0 (pa_cons (pe_op (op_subOO T.ad_Row T.m_Row_sub (ok_Row_sub T) (hr.mono (by decide)) T.b_Row_sub pass0) (pv 11) (pv 8)) pa_nil))))))))) (pss_one (ps_ret pe_bl)) pss_nil) (pss_cons (ps_if (PW.pt (pw_or (pt_cmp (pc_notN (pe_meth (pv 11) T.cl_Row T.m_Row_close (ok_Row_close T) (hr.mono (by decide)) T.b_Row_close .nil passL (pa_cons (pe_op op_addX (pe_op op_addX (pv 5) (pv 9)) pe_int) pa_nil)))) (pw_or1 (pt_not (pt_val (pe_call (ok_Lmoved T) (hr.mono (by decide)) rfl T.g_Lmoved T.F_Lmoved.kp T.b_Lmoved .nil pass0 (pa_cons (pv 8) (pa_cons (pv 5) (pa_cons (pv 7) (pa_cons (pv 6) (pa_cons (pv 4) pa_nil))))))))))) (pss_one (ps_ret pe_bl)) pss_nil) (pss_cons (ps_if (pt_not (pt_val (pe_call (ok_Lmoved T) (hr.mono (by decide)) rfl T.g_Lmoved T.F_Lmoved.kp T.b_Lmoved .nil pass0 (pa_cons (pv 11) (pa_cons (pe_op op_addX (pv 5) (pv 9)) (pa_cons (pe_op op_addX (pe_op op_addX (pv 5) (pv 9)) pe_int) (pa_cons (pv 6) (pa_cons (pv 4) pa_nil)))))))) (pss_one (ps_ret pe_bl)) pss_nil) (pss_cons (ps_if (pt_not (pt_val (pe_call (ok_Lmoved T) (hr.mono (by decide)) rfl T.g_Lmoved T.F_Lmoved.kp T.b_Lmoved .nil pass0 (pa_cons (pv 12) (pa_cons (pe_op op_addX (pv 5) (pv 9)) (pa_cons (pe_call (ok_Llater T) (hr.mono (by decide)) rfl T.g_Llater T.F_Llater.kp T.b_Llater .nil pass0 (pa_cons (pv 7) (pa_cons (pv 9) pa_nil))) (pa_cons (pv 6) (pa_cons (pv 4) pa_nil)))))))) (pss_one (ps_ret pe_bl)) pss_nil) (pss_cons (ps_for PassesOwn.never rfl (pi_list (pe_lst (pa_cons (pe_op (op_addIO T.ad_Row T.m_Row_add T.m_Row_radd (ok_Row_radd T) (hr.mono (by decide)) T.b_Row_radd pass0) pe_int (pv 8)) (pa_cons (pe_op (op_addOI T.ad_Row T.m_Row_add T.m_Row_radd (ok_Row_add T) (hr.mono (by decide)) T.b_Row_add pass0) (pv 8) pe_int) pa_nil)))) (pg_name (i := 15) sc_law.nd rfl (by first | exact Or.inl rfl | exact Or.inr rfl)) (pss_cons (ps_if (PW.pt (pw_or (pt_not (pt_cmpR (op_eqOO T.m_Row_eq (ok_Row_eq T) (hr.mono (by decide)) T.b_Row_eq pass0) (pv 15) (pv 8) (nomark _))) (pw_or (pt_cmp (pc_notN (pe_meth (pv 15) T.cl_Row T.m_Row_close (ok_Row_close T) (hr.mono (by decide)) T.b_Row_close .nil passL (pa_cons (pe_op op_addX (pv 5) pe_int) pa_nil)))) (pw_or1 (pt_cmpR op_ne (pe_prop (pv 15) T.cl_Row T.p_Row_until (ok_Row_until T) (hr.mono (by decide)) T.b_Row_until .nil pass0 rfl) (pe_op op_addX (pv 5) pe_int) (nomark _)))))) (pss_one (ps_ret pe_bl)) pss_nil) (pss_one (ps_if (pt_not (pt_val (pe_call (ok_Lmoved T) (hr.mono (by decide)) rfl T.g_Lmoved T.F_Lmoved.kp T.b_Lmoved .nil pass0 (pa_cons (pv 8) (pa_cons (pv 5) (pa_cons (pv 7) (pa_cons (pv 6) (pa_cons (pv 4) pa_nil)))))))) (pss_one (ps_ret pe_bl)) pss_nil)))) (pss_cons (ps_if (PW.pt (pw_and (pt_cmp (pc_notN (pv 1))) (pw_and1 (PW.pt (pw_or (pt_cmpR op_ne (pe_op (op_subOO T.ad_Row T.m_Row_sub (ok_Row_sub T) (hr.mono (by decide)) T.b_Row_sub pass0) (pv 8) (pe_ix ix_seq (pv 1) pe_int (fun _ _ => rfl))) (pe_op op_sub (pv 5) (pe_ix ix_seq (pv 1) pe_int (fun _ _ => rfl))) (nomark _)) (pw_or1 (pt_cmpR op_ne (pe_op (op_subOO T.ad_Row T.m_Row_sub (ok_Row_sub T) (hr.mono (by decide)) T.b_Row_sub pass0) (pe_ix ix_seq (pv 1) pe_int (fun _ _ => rfl)) (pv 8)) (pe_op op_sub (pe_ix ix_seq (pv 1) pe_int (fun _ _ => rfl)) (pv 5)) (nomark _)))))))) (pss_one (ps_ret pe_bl)) pss_nil) (pss_one (ps_set (i := 1) sc_law.nd rfl (by first | exact Or.inl rfl | exact Or.inr rfl) (pe_tup (pa_cons (pv 8) (pa_cons (pv 5) pa_nil))))))))))))))))))))) (pss_one (ps_ret pe_bl)))), ?_⟩; (try simp only [cxOf])
    walk_at "st"
    refine ⟨a, _, _, rfl, hs, fun n n1 n2 => ?_⟩
    walk_at "st"
    refine fo_range (fun i σ' H' => ∃ (tb : V) (t2 t3 t4 t5 t6 t7 t8 t9 t10 t11 t12 t13 t14 t15 t16 : Option V), σ' = [some (.ref a), some tb, t2, t3, t4, t5, t6, t7, t8, t9, t10, t11, t12, t13, t14, t15, t16] ∧ Ex H H' ∧ Bef3 T.c_Row H' tb)
      ⟨.non, _, _, _, _, _, _, _, _, _, _, _, _, _, _, _, rfl, Ex.refl _, .inl rfl⟩ ?_ ?_
    · rintro i σ' H1 hi ⟨tb, t2, t3, t4, t5, t6, t7, t8, t9, t10, t11, t12, t13, t14, t15, t16, rfl, e1, hB⟩
      walk_at "st"
      refine ⟨a, ns, _, rfl, SqL.exx hs e1, by omega, by omega, fun b H2 nb e2 B0 => ?_⟩
      walk_at "st"
      refine ⟨b, 0, rfl, B0, by omega, fun s H3 hs3 b3 B3 => ?_⟩
      walk_at "st"
      refine ⟨b, 1, rfl, B3, by omega, fun f H4 f0 f1 b4 B4 => ?_⟩
      walk_at "st"
      refine ⟨b, 7, rfl, B4, by omega, fun v H5 hv b5 B5 => ?_⟩
      walk_at "st"
      refine ⟨b, 27, 4, rfl, B5, by omega, by decide, by decide, fun r H6 r0 r1 b6 B6 => ?_⟩
      walk_at "st"
      have bb : But b H2 H6 := b3.trans (b4.trans (b5.trans b6))
      clear B0 B3 B4 B5 b3 b4 b5 b6
      refine if_d (fun h => ?_) (fun h => ?_)
      · have hb0 : noDay f none s = false := rfl
        have eK : Ex H1 H6 := Ex.mut e2 bb nb
        walk_at "st"
        intro p dp np ndp nedp
        refine ⟨p, dp, f, none, v, s, rfl, upd_same, fun hn => (by rw [hb0] at hn; cases hn), fun _ H8 bu8 hr8 => ⟨rfl, ?_⟩⟩
        have e8 := made_ex np ndp bu8
        have np1 : H1 p = none := eK.free np
        have B8 := B6.ex e8
        have eH8 : Ex H1 H8 := eK.trans e8
        clear bu8 e8
        walk_at "st"
        have nab : pn ≠ b := by
          obtain ⟨_, hl⟩ := B8.lst
          exact (ne_of_none hl hmN).symm
        refine lcxB (b := b) (fun i acc H' => Bag H' b (28 + 2 * i) ∧ acc.length = i ∧ ∀ x ∈ acc, ∃ z, x = V.int z) nab (B8.ex hmE).lst hmA (by simp) (fun H' e => ⟨(B8.ex hmE).ex e, rfl, by simp⟩) (fun i acc D H H' nd bd h => ⟨h.1.but bd nd, h.2⟩) (fun i x acc Hi Qk Qn hx bi hl pa kk1 => ?_) (fun D acc Hc hD bc hD' hl pa => ?_)
        · obtain ⟨w, rfl⟩ : ∃ w, x = V.int w := ints_at (ns := [_, _]) hx
          have hil : i < 2 := by
            have h0 := (List.getElem?_eq_some_iff.mp hx).1
            simpa using h0
          obtain ⟨Bi, hai, hac⟩ := pa
          walk_at "st"
          refine ⟨rfl, ?_⟩
          walk_at "st"
          have hbp2 : b ≠ pn := by
            obtain ⟨_, hl⟩ := Bi.lst
            exact ne_of_none hl hmN
          refine ⟨b, _, _, _, rfl, Bi.ex hmE, by omega, .lst hmA hbp2.symm, by simp, by simp, fun x Hj hx bj Bj => ?_⟩
          obtain ⟨z, rfl, z0, z1⟩ : ∃ z : Int, x = .int z ∧ -(10 ^ 50) ≤ z ∧ z ≤ 10 ^ 50 := by
            simp only [List.mem_cons, List.not_mem_nil, or_false] at hx
            rcases hx with rfl | rfl | rfl | rfl | rfl | rfl | rfl | rfl <;> exact ⟨_, rfl, by decide, by decide⟩
          walk_at "st"
          refine ⟨b, _, 9, rfl, Bj, by omega, by decide, by decide, fun r9 Hl r90 r91 bl Bl => ?_⟩
          walk_at "st"
          exact kk1 _ _ ((hmE.but (l := b)).trans (bj.trans bl)) ⟨Bl.mono (by omega), by simp [hai], fun y hy => by
            rcases List.mem_append.mp hy with hy | hy
            · exact hac y hy
            · simp only [List.mem_cons, List.not_mem_nil, or_false] at hy
              exact ⟨_, hy⟩⟩
        · obtain ⟨Bc, hac, hai⟩ := pa
          obtain ⟨m, e, rfl⟩ : ∃ m e : Int, acc = [.int m, .int e] := by
            rcases acc with _ | ⟨x, _ | ⟨y, _ | ⟨w, r⟩⟩⟩
            · simp at hac
            · simp at hac
            · obtain ⟨m, rfl⟩ := hai x (by simp)
              obtain ⟨e, rfl⟩ := hai y (by simp)
              exact ⟨m, e, rfl⟩
            · simp at hac
          obtain ⟨_, hbm⟩ := (B8.ex hmE).lst
          have hrow := (RowAt.ex hmE hr8).but bc hbm
          have eHc : Ex H1 Hc := Ex.mut (eH8.trans hmE) bc nb
          have hb0m : noDay (f + m) (Option.map (· + m) none) s = false := (noDay_move f m none s).trans hb0
          have em : Option.map (· + e) (Option.map (· + m) none) = Option.map (· + (m + e)) none := by simp [Int.add_assoc]
          clear hr8 B8 eH8 hmE hmA hmN Bc hai bc hac
          obtain ⟨dxp, hp0⟩ := id hrow
          walk_at "st"
          refine ⟨p, m, f, none, v, s, rfl, hrow, hb0, fun q1 G1 nq1 g1 hq1 => ?_⟩
          obtain ⟨dq1, hq10⟩ := id hq1
          walk_at "st"
          refine ⟨p, m, f, none, v, s, rfl, RowAt.ex g1 hrow, hb0, fun q2 G2 nq2 g2 hq2 => ?_⟩
          obtain ⟨dq2, hq20⟩ := id hq2
          walk_at "st"
          have gm : Ex G2 Hm := hmE
          refine fo_list (xs := [.ref q1, .ref q2]) (fun i σ' H' => ∃ (t2 t13 t14 t15 t16 : Option V), σ' = [some (.ref a), some tb, t2, some (.ref b), some (.str s), some (.int f), some v, some (.non), some (.ref p), some (.int m), some (.int e), some (.ref q1), some (.ref q2), t13, t14, t15, t16] ∧ H' = Hm)
            ⟨_, _, _, _, _, rfl, rfl⟩ (fun i σ' H' _ h => (by obtain ⟨_, _, _, _, _, _, rfl⟩ := h; exact SqL.of hmA)) ?_ ?_
          · rintro i x σ' H' hx ⟨t2, t13, t14, t15, t16, rfl, rfl⟩
            obtain ⟨qx, rfl, hqx⟩ : ∃ qx, x = .ref qx ∧ RowAt T.c_Row H' qx (f + m) (Option.map (· + m) none) v s := by
              rcases i with _ | _ | i
              · simp at hx
                exact ⟨q1, hx.symm, RowAt.ex (g2.trans gm) hq1⟩
              · simp at hx
                exact ⟨q2, hx.symm, RowAt.ex gm hq2⟩
              · simp at hx
            walk_at "st"
            refine ⟨none, m, rfl, ?_⟩
            walk_at "st"
            refine ⟨qx, f + m, Option.map (· + m) none, v, s, rfl, hqx, hv.worth, hs3, hb0m, ?_⟩
            walk_at "st"
            exact ⟨_, _, _, _, _, rfl, rfl⟩
          · rintro σ' H' ⟨t2, t13, t14, t15, t16, rfl, rfl⟩
            walk_at "st"
            refine ⟨q1, e, f + m, Option.map (· + m) none, v, s, rfl, RowAt.ex (g2.trans gm) hq1, hb0m, fun q3 G3 nq3 g3 hq3 => ?_⟩
            rw [em] at hq3
            obtain ⟨dq3, hq30⟩ := id hq3
            have hb0e : noDay (f + m + e) (Option.map (· + (m + e)) none) s = false := by
              rw [← em]
              exact (noDay_move (f + m) e (Option.map (· + m) none) s).trans hb0m
            walk_at "st"
            refine ⟨none, m + e, rfl, ?_⟩
            walk_at "st"
            refine ⟨q3, f + m + e, Option.map (· + (m + e)) none, v, s, rfl, hq3, hv.worth, hs3, hb0e, ?_⟩
            walk_at "st"
            have q1G := RowAt.ex (g2.trans (gm.trans g3)) hq1
            have q2G := RowAt.ex (gm.trans g3) hq2
            have rowG := RowAt.ex (g1.trans (g2.trans (gm.trans g3))) hrow
            have eG3 : Ex H1 G3 := eHc.trans (g1.trans (g2.trans (gm.trans g3)))
            have np1' : p ≠ q1 := ne_of_none hp0 nq1
            have nq21 : q2 ≠ q1 := (ne_of_none hq10 nq2).symm
            have n1q1 : H1 q1 = none := eHc.free nq1
            clear hq1 hq2 hrow eHc hp0 hq10 hq20 hmA nq1 nq2 nq3 gm g1 g2 g3
            obtain ⟨dxp, hp0⟩ := id rowG
            obtain ⟨dq1, hq10⟩ := id q1G
            walk_at "st"
            refine ⟨q1, p, f + m, Option.map (· + m) none, v, s, f, none, v, s, rfl, q1G, rowG, ?_⟩
            walk_at "st"
            try refine if_bF (by simp; omega) ?_
            walk_at "st"
            refine ⟨p, q1, f, none, v, s, f + m, Option.map (· + m) none, v, s, rfl, rowG, q1G, ?_⟩
            walk_at "st"
            try refine if_bF (by simp; omega) ?_
            walk_at "st"
            refine ⟨q3, p, f + m + e, Option.map (· + (m + e)) none, v, s, f, none, v, s, rfl, hq3, rowG, ?_⟩
            walk_at "st"
            try refine if_bF (by simp; omega) ?_
            walk_at "st"
            refine ⟨q1, p, f + m, Option.map (· + m) none, v, s, f, none, v, s, rfl, q1G, rowG, ?_⟩
            walk_at "st"
            have h3 : noDay (f + m) (some (f + m + 3)) s = false := noDay_ge hs3 (by decide)
            refine ⟨q1, f + m, Option.map (· + m) none, some (f + m + 3), v, s, rfl, q1G, fun hn => (by rw [h3] at hn; cases hn), fun hn G4 b4 hq1' => ?_⟩
            have rowH := rowG.butNe b4 np1'
            have q2H := q2G.butNe b4 nq21
            have eG4 : Ex H1 G4 := Ex.mut eG3 b4 n1q1
            clear rowG q2G q1G eG3 b4 hp0 hq10 hq30 hq3
            obtain ⟨dxp, hp0⟩ := id rowH
            walk_at "st"
            refine ⟨p, f, none, v, s, rfl, rowH, hv.worth, hs3, hb0, ?_⟩
            walk_at "st"
            refine ⟨q1, f + m, some (f + m + 3), v, s, rfl, hq1', hv.worth, hs3, h3, ?_⟩
            walk_at "st"
            refine ⟨none, m, rfl, ?_⟩
            walk_at "st"
            refine ⟨q2, f + m, Option.map (· + m) none, v, s, rfl, q2H, hv.worth, hs3, hb0m, ?_⟩
            walk_at "st"
            refine ⟨p, 0, f, none, v, s, rfl, rowH, hb0, fun q5 G5 nq5 g5 hq5 => ?_⟩
            walk_at "st"
            refine ⟨p, 0, f, none, v, s, rfl, RowAt.ex g5 rowH, hb0, fun q6 G6 nq6 g6 hq6 => ?_⟩
            walk_at "st"
            have e0 : Option.map (· + (0 : Int)) none = none := by simp
            rw [e0, Int.add_zero] at hq5 hq6
            have r5 := RowAt.ex (g6.trans hmE) hq5
            have r6 := RowAt.ex hmE hq6
            have rp := RowAt.ex (g5.trans (g6.trans hmE)) rowH
            have eM : Ex H1 Hm := eG4.trans (g5.trans (g6.trans hmE))
            obtain ⟨d5, h50⟩ := id hq5
            obtain ⟨d6, h60⟩ := id hq6
            have np5 : p ≠ q5 := ne_of_none hp0 nq5
            have np6 : p ≠ q6 := ne_of_none (g5 _ _ hp0) nq6
            have n65 : q6 ≠ q5 := (ne_of_none h50 nq6).symm
            have n5 : H1 q5 = none := eG4.free nq5
            have n6 : H1 q6 = none := (eG4.trans g5).free nq6
            have npn5 : pn ≠ q5 := (ne_of_none (g6 _ _ h50) hmN).symm
            have npn6 : pn ≠ q6 := (ne_of_none h60 hmN).symm
            clear hq5 hq6 rowH q2H eG4 h50 h60 g5 g6 hmE hmN nq5 nq6 hp0 hq1'
            refine fo_list (xs := [.ref q5, .ref q6]) (fun i σ' H' => ∃ (t2 t13 t14 t15 t16 : Option V), σ' = [some (.ref a), some tb, t2, some (.ref b), some (.str s), some (.int f), some v, some (.non), some (.ref p), some (.int m), some (.int e), some (.ref q1), some (.ref q2), t13, t14, t15, t16] ∧ Ex H1 H' ∧ H' pn = some (.lst [.ref q5, .ref q6]) ∧ RowAt T.c_Row H' p f none v s ∧ (i = 0 → RowAt T.c_Row H' q5 f none v s) ∧ (i ≤ 1 → RowAt T.c_Row H' q6 f none v s))
              ⟨_, _, _, _, _, rfl, eM, hmA, rp, fun _ => r5, fun _ => r6⟩ (fun i σ' H' _ h => (by obtain ⟨_, _, _, _, _, _, _, h, _⟩ := h; exact SqL.of h)) ?_ ?_
            · clear eM hmA rp r5 r6
              rintro i x σ' H' hx ⟨t2, t13, t14, t15, t16, rfl, ei, hpl, rpi, h5i, h6i⟩
              obtain ⟨qx, rfl, hqx, npx, n1x, npl, hn6⟩ : ∃ qx, x = .ref qx ∧ RowAt T.c_Row H' qx f none v s ∧ p ≠ qx ∧ H1 qx = none ∧ pn ≠ qx ∧ (i + 1 ≤ 1 → q6 ≠ qx) := by
                rcases i with _ | _ | i
                · simp at hx
                  exact ⟨q5, hx.symm, h5i rfl, np5, n5, npn5, fun _ => n65⟩
                · simp at hx
                  exact ⟨q6, hx.symm, h6i (by omega), np6, n6, npn6, fun z => (by omega)⟩
                · simp at hx
              obtain ⟨dxp, hp0⟩ := id rpi
              obtain ⟨dqx, hqx0⟩ := id hqx
              walk_at "st"
              refine ⟨qx, p, f, none, v, s, rfl, hqx, rpi, hv.two, ?_⟩
              walk_at "st"
              have h4 : noDay f (some (f + 4)) s = false := noDay_ge hs3 (by decide)
              refine ⟨qx, f, none, some (f + 4), v, s, rfl, hqx, fun hn => (by rw [h4] at hn; cases hn), fun hn G7 b7 hq7 => ?_⟩
              have rp7 := rpi.butNe b7 npx
              clear hp0 hqx0
              obtain ⟨dxp, hp0⟩ := id rp7
              obtain ⟨dqx, hqx0⟩ := id hq7
              walk_at "st"
              try refine if_bF (by simp) ?_
              walk_at "st"
              refine ⟨p, f, none, v, s, rfl, rp7, hv.worth, hs3, hb0, ?_⟩
              walk_at "st"
              exact ⟨_, _, _, _, _, rfl, Ex.mut ei b7 n1x, b7 _ _ npl hpl, rp7, fun z => (by omega), fun z => (h6i (by omega)).butNe b7 (hn6 z)⟩
            · clear eM hmA rp r5 r6
              rintro σ' H' ⟨t2, t13, t14, t15, t16, rfl, ei, hpl, rpi, _, _⟩
              have hBi := hB.ex ei
              rcases hBi with rfl | ⟨t, q, f', u', v', s', rfl, k1, k2⟩
              · walk_at "st"
                exact ⟨_, _, _, _, _, _, _, _, _, _, _, _, _, _, _, _, rfl, e1.trans (ei.trans hmE), .inr ⟨pn, p, f, none, v, s, rfl, hmA, RowAt.ex hmE rpi⟩⟩
              · obtain ⟨dxp, hp0⟩ := id rpi
                obtain ⟨dq, hq0⟩ := id k2
                walk_at "st"
                refine ⟨p, q, f, none, v, s, f', u', v', s', rfl, rpi, k2, ?_⟩
                walk_at "st"
                try refine if_bF (by simp) ?_
                walk_at "st"
                refine ⟨q, p, f', u', v', s', f, none, v, s, rfl, k2, rpi, ?_⟩
                walk_at "st"
                try refine if_bF (by simp) ?_
                walk_at "st"
                exact ⟨_, _, _, _, _, _, _, _, _, _, _, _, _, _, _, _, rfl, e1.trans (ei.trans hmE), .inr ⟨pn, p, f, none, v, s, rfl, hmA, RowAt.ex hmE rpi⟩⟩
      · walk_at "st"
        have hbp : b ≠ pn := by
          obtain ⟨_, hl⟩ := B6.lst
          exact ne_of_none hl hmN
        refine ⟨b, 28, _, _, rfl, B6.ex hmE, by omega, .lst hmA hbp.symm, by simp, by simp, fun x H7 hx b7 B7 => ?_⟩
        have bb7 : But b H2 H7 := bb.trans ((hmE.but (l := b)).trans b7)
        obtain ⟨y, rfl, y0, y1⟩ : ∃ y : Int, x = .int y ∧ 1 ≤ y ∧ y ≤ 10 ^ 30 := by
          simp only [List.mem_cons, List.not_mem_nil, or_false] at hx
          rcases hx with rfl | rfl | rfl | rfl <;> exact ⟨_, rfl, by decide, by decide⟩
        clear hx b7 bb B6 hmE hmA hmN
        have hb0 : noDay f (some (f + y)) s = false := noDay_ge hs3 y0
        have eK : Ex H1 H7 := Ex.mut e2 bb7 nb
        walk_at "st"
        intro p dp np ndp nedp
        refine ⟨p, dp, f, (some (f + y)), v, s, rfl, upd_same, fun hn => (by rw [hb0] at hn; cases hn), fun _ H8 bu8 hr8 => ⟨rfl, ?_⟩⟩
        have e8 := made_ex np ndp bu8
        have np1 : H1 p = none := eK.free np
        have B8 := B7.ex e8
        have eH8 : Ex H1 H8 := eK.trans e8
        clear bu8 e8
        walk_at "st"
        have nab : pn ≠ b := by
          obtain ⟨_, hl⟩ := B8.lst
          exact (ne_of_none hl hmN).symm
        refine lcxB (b := b) (fun i acc H' => Bag H' b (29 + 2 * i) ∧ acc.length = i ∧ ∀ x ∈ acc, ∃ z, x = V.int z) nab (B8.ex hmE).lst hmA (by simp) (fun H' e => ⟨(B8.ex hmE).ex e, rfl, by simp⟩) (fun i acc D H H' nd bd h => ⟨h.1.but bd nd, h.2⟩) (fun i x acc Hi Qk Qn hx bi hl pa kk1 => ?_) (fun D acc Hc hD bc hD' hl pa => ?_)
        · obtain ⟨w, rfl⟩ : ∃ w, x = V.int w := ints_at (ns := [_, _]) hx
          have hil : i < 2 := by
            have h0 := (List.getElem?_eq_some_iff.mp hx).1
            simpa using h0
          obtain ⟨Bi, hai, hac⟩ := pa
          walk_at "st"
          refine ⟨rfl, ?_⟩
          walk_at "st"
          have hbp2 : b ≠ pn := by
            obtain ⟨_, hl⟩ := Bi.lst
            exact ne_of_none hl hmN
          refine ⟨b, _, _, _, rfl, Bi.ex hmE, by omega, .lst hmA hbp2.symm, by simp, by simp, fun x Hj hx bj Bj => ?_⟩
          obtain ⟨z, rfl, z0, z1⟩ : ∃ z : Int, x = .int z ∧ -(10 ^ 50) ≤ z ∧ z ≤ 10 ^ 50 := by
            simp only [List.mem_cons, List.not_mem_nil, or_false] at hx
            rcases hx with rfl | rfl | rfl | rfl | rfl | rfl | rfl | rfl <;> exact ⟨_, rfl, by decide, by decide⟩
          walk_at "st"
          refine ⟨b, _, 9, rfl, Bj, by omega, by decide, by decide, fun r9 Hl r90 r91 bl Bl => ?_⟩
          walk_at "st"
          exact kk1 _ _ ((hmE.but (l := b)).trans (bj.trans bl)) ⟨Bl.mono (by omega), by simp [hai], fun y hy => by
            rcases List.mem_append.mp hy with hy | hy
            · exact hac y hy
            · simp only [List.mem_cons, List.not_mem_nil, or_false] at hy
              exact ⟨_, hy⟩⟩
        · obtain ⟨Bc, hac, hai⟩ := pa
          obtain ⟨m, e, rfl⟩ : ∃ m e : Int, acc = [.int m, .int e] := by
            rcases acc with _ | ⟨x, _ | ⟨y, _ | ⟨w, r⟩⟩⟩
            · simp at hac
            · simp at hac
            · obtain ⟨m, rfl⟩ := hai x (by simp)
              obtain ⟨e, rfl⟩ := hai y (by simp)
              exact ⟨m, e, rfl⟩
            · simp at hac
          obtain ⟨_, hbm⟩ := (B8.ex hmE).lst
          have hrow := (RowAt.ex hmE hr8).but bc hbm
          have eHc : Ex H1 Hc := Ex.mut (eH8.trans hmE) bc nb
          have hb0m : noDay (f + m) (Option.map (· + m) (some (f + y))) s = false := (noDay_move f m (some (f + y)) s).trans hb0
          have em : Option.map (· + e) (Option.map (· + m) (some (f + y))) = Option.map (· + (m + e)) (some (f + y)) := by simp [Int.add_assoc]
          clear hr8 B8 eH8 hmE hmA hmN Bc hai bc hac
          obtain ⟨dxp, hp0⟩ := id hrow
          walk_at "st"
          refine ⟨p, m, f, (some (f + y)), v, s, rfl, hrow, hb0, fun q1 G1 nq1 g1 hq1 => ?_⟩
          obtain ⟨dq1, hq10⟩ := id hq1
          walk_at "st"
          refine ⟨p, m, f, (some (f + y)), v, s, rfl, RowAt.ex g1 hrow, hb0, fun q2 G2 nq2 g2 hq2 => ?_⟩
          obtain ⟨dq2, hq20⟩ := id hq2
          walk_at "st"
          have gm : Ex G2 Hm := hmE
          refine fo_list (xs := [.ref q1, .ref q2]) (fun i σ' H' => ∃ (t2 t13 t14 t15 t16 : Option V), σ' = [some (.ref a), some tb, t2, some (.ref b), some (.str s), some (.int f), some v, some (.int (f + y)), some (.ref p), some (.int m), some (.int e), some (.ref q1), some (.ref q2), t13, t14, t15, t16] ∧ H' = Hm)
            ⟨_, _, _, _, _, rfl, rfl⟩ (fun i σ' H' _ h => (by obtain ⟨_, _, _, _, _, _, rfl⟩ := h; exact SqL.of hmA)) ?_ ?_
          · rintro i x σ' H' hx ⟨t2, t13, t14, t15, t16, rfl, rfl⟩
            obtain ⟨qx, rfl, hqx⟩ : ∃ qx, x = .ref qx ∧ RowAt T.c_Row H' qx (f + m) (Option.map (· + m) (some (f + y))) v s := by
              rcases i with _ | _ | i
              · simp at hx
                exact ⟨q1, hx.symm, RowAt.ex (g2.trans gm) hq1⟩
              · simp at hx
                exact ⟨q2, hx.symm, RowAt.ex gm hq2⟩
              · simp at hx
            walk_at "st"
            refine ⟨(some (f + y)), m, rfl, ?_⟩
            walk_at "st"
            refine ⟨qx, f + m, Option.map (· + m) (some (f + y)), v, s, rfl, hqx, hv.worth, hs3, hb0m, ?_⟩
            walk_at "st"
            exact ⟨_, _, _, _, _, rfl, rfl⟩
          · rintro σ' H' ⟨t2, t13, t14, t15, t16, rfl, rfl⟩
            walk_at "st"
            refine ⟨q1, e, f + m, Option.map (· + m) (some (f + y)), v, s, rfl, RowAt.ex (g2.trans gm) hq1, hb0m, fun q3 G3 nq3 g3 hq3 => ?_⟩
            rw [em] at hq3
            obtain ⟨dq3, hq30⟩ := id hq3
            have hb0e : noDay (f + m + e) (Option.map (· + (m + e)) (some (f + y))) s = false := by
              rw [← em]
              exact (noDay_move (f + m) e (Option.map (· + m) (some (f + y))) s).trans hb0m
            walk_at "st"
            refine ⟨(some (f + y)), m + e, rfl, ?_⟩
            walk_at "st"
            refine ⟨q3, f + m + e, Option.map (· + (m + e)) (some (f + y)), v, s, rfl, hq3, hv.worth, hs3, hb0e, ?_⟩
            walk_at "st"
            have q1G := RowAt.ex (g2.trans (gm.trans g3)) hq1
            have q2G := RowAt.ex (gm.trans g3) hq2
            have rowG := RowAt.ex (g1.trans (g2.trans (gm.trans g3))) hrow
            have eG3 : Ex H1 G3 := eHc.trans (g1.trans (g2.trans (gm.trans g3)))
            have np1' : p ≠ q1 := ne_of_none hp0 nq1
            have nq21 : q2 ≠ q1 := (ne_of_none hq10 nq2).symm
            have n1q1 : H1 q1 = none := eHc.free nq1
            clear hq1 hq2 hrow eHc hp0 hq10 hq20 hmA nq1 nq2 nq3 gm g1 g2 g3
            obtain ⟨dxp, hp0⟩ := id rowG
            obtain ⟨dq1, hq10⟩ := id q1G
            walk_at "st"
            refine ⟨q1, p, f + m, Option.map (· + m) (some (f + y)), v, s, f, (some (f + y)), v, s, rfl, q1G, rowG, ?_⟩
            walk_at "st"
            try refine if_bF (by simp; omega) ?_
            walk_at "st"
            refine ⟨p, q1, f, (some (f + y)), v, s, f + m, Option.map (· + m) (some (f + y)), v, s, rfl, rowG, q1G, ?_⟩
            walk_at "st"
            try refine if_bF (by simp; omega) ?_
            walk_at "st"
            refine ⟨q3, p, f + m + e, Option.map (· + (m + e)) (some (f + y)), v, s, f, (some (f + y)), v, s, rfl, hq3, rowG, ?_⟩
            walk_at "st"
            try refine if_bF (by simp; omega) ?_
            walk_at "st"
            refine ⟨q1, p, f + m, Option.map (· + m) (some (f + y)), v, s, f, (some (f + y)), v, s, rfl, q1G, rowG, ?_⟩
            walk_at "st"
            have h3 : noDay (f + m) (some (f + m + 3)) s = false := noDay_ge hs3 (by decide)
            refine ⟨q1, f + m, Option.map (· + m) (some (f + y)), some (f + m + 3), v, s, rfl, q1G, fun hn => (by rw [h3] at hn; cases hn), fun hn G4 b4 hq1' => ?_⟩
            have rowH := rowG.butNe b4 np1'
            have q2H := q2G.butNe b4 nq21
            have eG4 : Ex H1 G4 := Ex.mut eG3 b4 n1q1
            clear rowG q2G q1G eG3 b4 hp0 hq10 hq30 hq3
            obtain ⟨dxp, hp0⟩ := id rowH
            walk_at "st"
            refine ⟨p, f, (some (f + y)), v, s, rfl, rowH, hv.worth, hs3, hb0, ?_⟩
            walk_at "st"
            refine ⟨q1, f + m, some (f + m + 3), v, s, rfl, hq1', hv.worth, hs3, h3, ?_⟩
            walk_at "st"
            refine ⟨(some (f + y)), m, rfl, ?_⟩
            walk_at "st"
            refine ⟨q2, f + m, Option.map (· + m) (some (f + y)), v, s, rfl, q2H, hv.worth, hs3, hb0m, ?_⟩
            walk_at "st"
            refine ⟨p, 0, f, (some (f + y)), v, s, rfl, rowH, hb0, fun q5 G5 nq5 g5 hq5 => ?_⟩
            walk_at "st"
            refine ⟨p, 0, f, (some (f + y)), v, s, rfl, RowAt.ex g5 rowH, hb0, fun q6 G6 nq6 g6 hq6 => ?_⟩
            walk_at "st"
            have e0 : Option.map (· + (0 : Int)) (some (f + y)) = (some (f + y)) := by simp
            rw [e0, Int.add_zero] at hq5 hq6
            have r5 := RowAt.ex (g6.trans hmE) hq5
            have r6 := RowAt.ex hmE hq6
            have rp := RowAt.ex (g5.trans (g6.trans hmE)) rowH
            have eM : Ex H1 Hm := eG4.trans (g5.trans (g6.trans hmE))
            obtain ⟨d5, h50⟩ := id hq5
            obtain ⟨d6, h60⟩ := id hq6
            have np5 : p ≠ q5 := ne_of_none hp0 nq5
            have np6 : p ≠ q6 := ne_of_none (g5 _ _ hp0) nq6
            have n65 : q6 ≠ q5 := (ne_of_none h50 nq6).symm
            have n5 : H1 q5 = none := eG4.free nq5
            have n6 : H1 q6 = none := (eG4.trans g5).free nq6
            have npn5 : pn ≠ q5 := (ne_of_none (g6 _ _ h50) hmN).symm
            have npn6 : pn ≠ q6 := (ne_of_none h60 hmN).symm
            clear hq5 hq6 rowH q2H eG4 h50 h60 g5 g6 hmE hmN nq5 nq6 hp0 hq1'
            refine fo_list (xs := [.ref q5, .ref q6]) (fun i σ' H' => ∃ (t2 t13 t14 t15 t16 : Option V), σ' = [some (.ref a), some tb, t2, some (.ref b), some (.str s), some (.int f), some v, some (.int (f + y)), some (.ref p), some (.int m), some (.int e), some (.ref q1), some (.ref q2), t13, t14, t15, t16] ∧ Ex H1 H' ∧ H' pn = some (.lst [.ref q5, .ref q6]) ∧ RowAt T.c_Row H' p f (some (f + y)) v s ∧ (i = 0 → RowAt T.c_Row H' q5 f (some (f + y)) v s) ∧ (i ≤ 1 → RowAt T.c_Row H' q6 f (some (f + y)) v s))
              ⟨_, _, _, _, _, rfl, eM, hmA, rp, fun _ => r5, fun _ => r6⟩ (fun i σ' H' _ h => (by obtain ⟨_, _, _, _, _, _, _, h, _⟩ := h; exact SqL.of h)) ?_ ?_
            · clear eM hmA rp r5 r6
              rintro i x σ' H' hx ⟨t2, t13, t14, t15, t16, rfl, ei, hpl, rpi, h5i, h6i⟩
              obtain ⟨qx, rfl, hqx, npx, n1x, npl, hn6⟩ : ∃ qx, x = .ref qx ∧ RowAt T.c_Row H' qx f (some (f + y)) v s ∧ p ≠ qx ∧ H1 qx = none ∧ pn ≠ qx ∧ (i + 1 ≤ 1 → q6 ≠ qx) := by
                rcases i with _ | _ | i
                · simp at hx
                  exact ⟨q5, hx.symm, h5i rfl, np5, n5, npn5, fun _ => n65⟩
                · simp at hx
                  exact ⟨q6, hx.symm, h6i (by omega), np6, n6, npn6, fun z => (by omega)⟩
                · simp at hx
              obtain ⟨dxp, hp0⟩ := id rpi
              obtain ⟨dqx, hqx0⟩ := id hqx
              walk_at "st"
              refine ⟨qx, p, f, (some (f + y)), v, s, rfl, hqx, rpi, hv.two, ?_⟩
              walk_at "st"
              have h4 : noDay f (some (f + 4)) s = false := noDay_ge hs3 (by decide)
              refine ⟨qx, f, (some (f + y)), some (f + 4), v, s, rfl, hqx, fun hn => (by rw [h4] at hn; cases hn), fun hn G7 b7 hq7 => ?_⟩
              have rp7 := rpi.butNe b7 npx
              clear hp0 hqx0
              obtain ⟨dxp, hp0⟩ := id rp7
              obtain ⟨dqx, hqx0⟩ := id hq7
              walk_at "st"
              try refine if_bF (by simp) ?_
              walk_at "st"
              refine ⟨p, f, (some (f + y)), v, s, rfl, rp7, hv.worth, hs3, hb0, ?_⟩
              walk_at "st"
              exact ⟨_, _, _, _, _, rfl, Ex.mut ei b7 n1x, b7 _ _ npl hpl, rp7, fun z => (by omega), fun z => (h6i (by omega)).butNe b7 (hn6 z)⟩
            · clear eM hmA rp r5 r6
              rintro σ' H' ⟨t2, t13, t14, t15, t16, rfl, ei, hpl, rpi, _, _⟩
              have hBi := hB.ex ei
              rcases hBi with rfl | ⟨t, q, f', u', v', s', rfl, k1, k2⟩
              · walk_at "st"
                exact ⟨_, _, _, _, _, _, _, _, _, _, _, _, _, _, _, _, rfl, e1.trans (ei.trans hmE), .inr ⟨pn, p, f, (some (f + y)), v, s, rfl, hmA, RowAt.ex hmE rpi⟩⟩
              · obtain ⟨dxp, hp0⟩ := id rpi
                obtain ⟨dq, hq0⟩ := id k2
                walk_at "st"
                refine ⟨p, q, f, (some (f + y)), v, s, f', u', v', s', rfl, rpi, k2, ?_⟩
                walk_at "st"
                try refine if_bF (by simp) ?_
                walk_at "st"
                refine ⟨q, p, f', u', v', s', f, (some (f + y)), v, s, rfl, k2, rpi, ?_⟩
                walk_at "st"
                try refine if_bF (by simp) ?_
                walk_at "st"
                exact ⟨_, _, _, _, _, _, _, _, _, _, _, _, _, _, _, _, rfl, e1.trans (ei.trans hmE), .inr ⟨pn, p, f, (some (f + y)), v, s, rfl, hmA, RowAt.ex hmE rpi⟩⟩
    · rintro σ' H1 ⟨tb, t2, t3, t4, t5, t6, t7, t8, t9, t10, t11, t12, t13, t14, t15, t16, rfl, e1, hB⟩
      walk_at "st"
      exact kk _
end
theorem all_mk {l : PySem.W.OpenLaw} {w : World} {K : PySem.W.Frag} {h : Heap} {mg : Str → Option Value} {fa : Addr} (X : K.In h) (G : h.Ns mainGlobals mg) (hfa : mg "law" = some (.ref fa))
    {C_EmptyRow : Addr} {C_Ends : Addr} {tk_Ends_NEXT_DAY : Tok} {C_Row : Addr} {f_EmptyRow_init : Addr} {od_EmptyRow_init an_EmptyRow_init : Option Addr} {sl_EmptyRow_init : Array (Option Value)} {oc_EmptyRow_init kV_EmptyRow_init dc_EmptyRow_init pm_EmptyRow_init cd_EmptyRow_init ct_EmptyRow_init : Value} {nm_EmptyRow q_EmptyRow : Str} {N_EmptyRow : Addr} {bs_EmptyRow bm_EmptyRow sub_EmptyRow : List Value} {sn_EmptyRow : List Str} {ab_EmptyRow : Bool} {col_EmptyRow : Option Bool} {dd_EmptyRow : Option Addr} {m0_EmptyRow m1_EmptyRow m2_EmptyRow m3_EmptyRow m5_EmptyRow : Option Value} {f_stop_of : Addr} {od_stop_of an_stop_of : Option Addr} {sl_stop_of : Array (Option Value)} {oc_stop_of kV_stop_of dc_stop_of pm_stop_of cd_stop_of ct_stop_of : Value} {f_bears_no_day : Addr} {od_bears_no_day an_bears_no_day : Option Addr} {sl_bears_no_day : Array (Option Value)} {oc_bears_no_day kV_bears_no_day dc_bears_no_day pm_bears_no_day cd_bears_no_day ct_bears_no_day : Value} {f_checked_until : Addr} {od_checked_until an_checked_until : Option Addr} {sl_checked_until : Array (Option Value)} {oc_checked_until kV_checked_until dc_checked_until pm_checked_until cd_checked_until ct_checked_until : Value} {f_Row_init : Addr} {od_Row_init an_Row_init : Option Addr} {sl_Row_init : Array (Option Value)} {oc_Row_init kV_Row_init dc_Row_init pm_Row_init cd_Row_init ct_Row_init : Value} {td_Row_init : Addr} {tc_Row_init : Value} {to_Row_init : Option Addr} {tn_Row_init : Nat} {ts_Row_init : Array (Option Value)} {tkd_Row_init_0 : Tok} {f_Row_until : Addr} {od_Row_until an_Row_until : Option Addr} {sl_Row_until : Array (Option Value)} {oc_Row_until kV_Row_until dc_Row_until pm_Row_until cd_Row_until ct_Row_until : Value} {pp_Row_until : Addr} {re_Row_until : List Value} {f_Row_until_set : Addr} {od_Row_until_set an_Row_until_set : Option Addr} {sl_Row_until_set : Array (Option Value)} {oc_Row_until_set kV_Row_until_set dc_Row_until_set pm_Row_until_set cd_Row_until_set ct_Row_until_set : Value} {pp_Row_until_set : Addr} {re_Row_until_set : List Value} {gt_Row_until_set : Value} {f_Row_stop : Addr} {od_Row_stop an_Row_stop : Option Addr} {sl_Row_stop : Array (Option Value)} {oc_Row_stop kV_Row_stop dc_Row_stop pm_Row_stop cd_Row_stop ct_Row_stop : Value} {pp_Row_stop : Addr} {re_Row_stop : List Value} {f_Row_close : Addr} {od_Row_close an_Row_close : Option Addr} {sl_Row_close : Array (Option Value)} {oc_Row_close kV_Row_close dc_Row_close pm_Row_close cd_Row_close ct_Row_close : Value} {f_Row_add : Addr} {od_Row_add an_Row_add : Option Addr} {sl_Row_add : Array (Option Value)} {oc_Row_add kV_Row_add dc_Row_add pm_Row_add cd_Row_add ct_Row_add : Value} {f_Row_radd : Addr} {od_Row_radd an_Row_radd : Option Addr} {sl_Row_radd : Array (Option Value)} {oc_Row_radd kV_Row_radd dc_Row_radd pm_Row_radd cd_Row_radd ct_Row_radd : Value} {f_Row_sub : Addr} {od_Row_sub an_Row_sub : Option Addr} {sl_Row_sub : Array (Option Value)} {oc_Row_sub kV_Row_sub dc_Row_sub pm_Row_sub cd_Row_sub ct_Row_sub : Value} {f_Row_contains : Addr} {od_Row_contains an_Row_contains : Option Addr} {sl_Row_contains : Array (Option Value)} {oc_Row_contains kV_Row_contains dc_Row_contains pm_Row_contains cd_Row_contains ct_Row_contains : Value} {f_Row_eq : Addr} {od_Row_eq an_Row_eq : Option Addr} {sl_Row_eq : Array (Option Value)} {oc_Row_eq kV_Row_eq dc_Row_eq pm_Row_eq cd_Row_eq ct_Row_eq : Value} {f_Lbag : Addr} {od_Lbag an_Lbag : Option Addr} {sl_Lbag : Array (Option Value)} {oc_Lbag kV_Lbag dc_Lbag pm_Lbag cd_Lbag ct_Lbag : Value} {f_Ltake : Addr} {od_Ltake an_Ltake : Option Addr} {sl_Ltake : Array (Option Value)} {oc_Ltake kV_Ltake dc_Ltake pm_Ltake cd_Ltake ct_Ltake : Value} {f_Lwide : Addr} {od_Lwide an_Lwide : Option Addr} {sl_Lwide : Array (Option Value)} {oc_Lwide kV_Lwide dc_Lwide pm_Lwide cd_Lwide ct_Lwide : Value} {f_Lof : Addr} {od_Lof an_Lof : Option Addr} {sl_Lof : Array (Option Value)} {oc_Lof kV_Lof dc_Lof pm_Lof cd_Lof ct_Lof : Value} {f_Lday : Addr} {od_Lday an_Lday : Option Addr} {sl_Lday : Array (Option Value)} {oc_Lday kV_Lday dc_Lday pm_Lday cd_Lday ct_Lday : Value} {f_Lvalue : Addr} {od_Lvalue an_Lvalue : Option Addr} {sl_Lvalue : Array (Option Value)} {oc_Lvalue kV_Lvalue dc_Lvalue pm_Lvalue cd_Lvalue ct_Lvalue : Value} {f_Lends : Addr} {od_Lends an_Lends : Option Addr} {sl_Lends : Array (Option Value)} {oc_Lends kV_Lends dc_Lends pm_Lends cd_Lends ct_Lends : Value} {f_Lsame_value : Addr} {od_Lsame_value an_Lsame_value : Option Addr} {sl_Lsame_value : Array (Option Value)} {oc_Lsame_value kV_Lsame_value dc_Lsame_value pm_Lsame_value cd_Lsame_value ct_Lsame_value : Value} {f_Lis_number : Addr} {od_Lis_number an_Lis_number : Option Addr} {sl_Lis_number : Array (Option Value)} {oc_Lis_number kV_Lis_number dc_Lis_number pm_Lis_number cd_Lis_number ct_Lis_number : Value} {f_Lparts : Addr} {od_Lparts an_Lparts : Option Addr} {sl_Lparts : Array (Option Value)} {oc_Lparts kV_Lparts dc_Lparts pm_Lparts cd_Lparts ct_Lparts : Value} {f_Lsame : Addr} {od_Lsame an_Lsame : Option Addr} {sl_Lsame : Array (Option Value)} {oc_Lsame kV_Lsame dc_Lsame pm_Lsame cd_Lsame ct_Lsame : Value} {f_Lmoved : Addr} {od_Lmoved an_Lmoved : Option Addr} {sl_Lmoved : Array (Option Value)} {oc_Lmoved kV_Lmoved dc_Lmoved pm_Lmoved cd_Lmoved ct_Lmoved : Value} {f_Llater : Addr} {od_Llater an_Llater : Option Addr} {sl_Llater : Array (Option Value)} {oc_Llater kV_Llater dc_Llater pm_Llater cd_Llater ct_Llater : Value} {f_law : Addr} {od_law an_law : Option Addr} {sl_law : Array (Option Value)} {oc_law kV_law dc_law pm_law cd_law ct_law : Value}
    (gsd : PySem.W.specialIn K (.builtin "object.__class__") "__get__" = some (some (.builtin "getset_descriptor.__get__")))
    (gst : PySem.W.takesIn K (.builtin "object.__class__") = some true)
    (aC_EmptyRow : PySem.W.nsIn K mainGlobals "EmptyRow" = some (some (.ref C_EmptyRow)))
    (aC_Ends : PySem.W.nsIn K mainGlobals "Ends" = some (some (.ref C_Ends)))
    (rd_Ends : PySem.W.readsIn K C_Ends (.type "type") = true)
    (rg_Ends : PySem.W.specialIn K (.ref C_Ends) "__getattribute__" = some (some (.builtin "type.__getattribute__")))
    (cv_Ends_NEXT_DAY : PySem.W.findCls K (.ref C_Ends) (.type "type") "NEXT_DAY" = some (.val (.str "next day" tk_Ends_NEXT_DAY)))
    (aC_Row : PySem.W.nsIn K mainGlobals "Row" = some (some (.ref C_Row)))
    (pg_Row : PySem.W.plainGet K C_Row Str.empty = true)
    (hd_Row : PySem.W.hasDictIn K C_Row = true)
    (po_Row : PySem.W.plainOver K C_Row = true)
    (sa_Row : PySem.W.findIn K (.ref C_Row) "__setattr__" = some (some (.builtin "object.__setattr__")))
    (icc_Row : PySem.W.findIn K (.ref C_Row) "__class__" = some (some (.builtin "object.__class__")))
    (imr_Row : PySem.W.mroIn K C_Row (.type "object") = some true)
    (na_Row_first : PySem.W.findIn K (.ref C_Row) "first" = some none)
    (na_Row__until : PySem.W.findIn K (.ref C_Row) "_until" = some none)
    (na_Row_value : PySem.W.findIn K (.ref C_Row) "value" = some none)
    (na_Row_ends : PySem.W.findIn K (.ref C_Row) "ends" = some none)
    (a_EmptyRow_init : PySem.W.findIn K (.ref C_EmptyRow) "__init__" = some (some (.ref f_EmptyRow_init)))
    (l_EmptyRow_init : K.lookup f_EmptyRow_init = some ⟨oc_EmptyRow_init, od_EmptyRow_init, .func (PySem.W.fnOf "__init__" "EmptyRow.__init__" (defArgs s_EmptyRow_init) (defBody s_EmptyRow_init) (defScope s_EmptyRow_init) .none kV_EmptyRow_init dc_EmptyRow_init pm_EmptyRow_init an_EmptyRow_init cd_EmptyRow_init ct_EmptyRow_init), sl_EmptyRow_init⟩)
    (co_EmptyRow_init : PySem.W.codeIn K cd_EmptyRow_init "EmptyRow.__init__" = true)
    (k_EmptyRow_init : PySem.W.keepIn K (.ref f_EmptyRow_init) = true)
    (xL_EmptyRow : K.lookup C_EmptyRow = some (excClassObj nm_EmptyRow q_EmptyRow C_EmptyRow N_EmptyRow bs_EmptyRow bm_EmptyRow true sn_EmptyRow sub_EmptyRow ab_EmptyRow col_EmptyRow dd_EmptyRow m0_EmptyRow m1_EmptyRow m2_EmptyRow m3_EmptyRow m5_EmptyRow "ValueError.__new__"))
    (vE_EmptyRow : PySem.HandSPX.refsVE bm_EmptyRow = true)
    (sa_EmptyRow : PySem.W.findIn K (.ref C_EmptyRow) "__setattr__" = some (some (.builtin "object.__setattr__")))
    (ga_EmptyRow : PySem.W.findIn K (.ref C_EmptyRow) "__getattribute__" = some (some (.builtin "BaseException.__getattribute__")))
    (gg_EmptyRow : PySem.W.findIn K (.ref C_EmptyRow) "__getattr__" = some none)
    (eC_EmptyRow : PySem.W.subIn K (.ref C_EmptyRow) (.type "BaseException") = some true)
    (tC_EmptyRow : PySem.W.typeIn K (.ref C_EmptyRow) = some (.type "type"))
    (kC_EmptyRow : PySem.W.keepIn K (.ref C_EmptyRow) = true)
    (hC_EmptyRow : PySem.W.hasDictIn K C_EmptyRow = true)
    (iC_EmptyRow : PySem.W.isClsIn K C_EmptyRow = true)
    (sC_EmptyRow : PySem.W.subIn K (.ref C_EmptyRow) (.ref C_EmptyRow) = some true)
    (cc_EmptyRow : PySem.W.findIn K (.ref C_EmptyRow) "__class__" = some (some (.builtin "object.__class__")))
    (mC_EmptyRow : PySem.W.mroIn K C_EmptyRow (.type "object") = some true)
    (tI_EmptyRow : PySem.W.typeIn K (.ref f_EmptyRow_init) = some (.type "function"))
    (na_EmptyRow_first : PySem.W.findIn K (.ref C_EmptyRow) "first" = some none)
    (na_EmptyRow_end : PySem.W.findIn K (.ref C_EmptyRow) "end" = some none)
    (a_stop_of : PySem.W.nsIn K mainGlobals "stop_of" = some (some (.ref f_stop_of)))
    (l_stop_of : K.lookup f_stop_of = some ⟨oc_stop_of, od_stop_of, .func (PySem.W.fnOf "stop_of" "stop_of" (defArgs s_stop_of) (defBody s_stop_of) (defScope s_stop_of) .none kV_stop_of dc_stop_of pm_stop_of an_stop_of cd_stop_of ct_stop_of), sl_stop_of⟩)
    (co_stop_of : PySem.W.codeIn K cd_stop_of "stop_of" = true)
    (k_stop_of : PySem.W.keepIn K (.ref f_stop_of) = true)
    (a_bears_no_day : PySem.W.nsIn K mainGlobals "bears_no_day" = some (some (.ref f_bears_no_day)))
    (l_bears_no_day : K.lookup f_bears_no_day = some ⟨oc_bears_no_day, od_bears_no_day, .func (PySem.W.fnOf "bears_no_day" "bears_no_day" (defArgs s_bears_no_day) (defBody s_bears_no_day) (defScope s_bears_no_day) .none kV_bears_no_day dc_bears_no_day pm_bears_no_day an_bears_no_day cd_bears_no_day ct_bears_no_day), sl_bears_no_day⟩)
    (co_bears_no_day : PySem.W.codeIn K cd_bears_no_day "bears_no_day" = true)
    (k_bears_no_day : PySem.W.keepIn K (.ref f_bears_no_day) = true)
    (a_checked_until : PySem.W.nsIn K mainGlobals "checked_until" = some (some (.ref f_checked_until)))
    (l_checked_until : K.lookup f_checked_until = some ⟨oc_checked_until, od_checked_until, .func (PySem.W.fnOf "checked_until" "checked_until" (defArgs s_checked_until) (defBody s_checked_until) (defScope s_checked_until) .none kV_checked_until dc_checked_until pm_checked_until an_checked_until cd_checked_until ct_checked_until), sl_checked_until⟩)
    (co_checked_until : PySem.W.codeIn K cd_checked_until "checked_until" = true)
    (k_checked_until : PySem.W.keepIn K (.ref f_checked_until) = true)
    (a_Row_init : PySem.W.findIn K (.ref C_Row) "__init__" = some (some (.ref f_Row_init)))
    (i_Row_init : PySem.W.isFn K (.ref f_Row_init) = true)
    (l_Row_init : K.lookup f_Row_init = some ⟨oc_Row_init, od_Row_init, .func (PySem.W.fnOf "__init__" "Row.__init__" (defArgs s_Row_init) (defBody s_Row_init) (defScope s_Row_init) (.ref td_Row_init) kV_Row_init dc_Row_init pm_Row_init an_Row_init cd_Row_init ct_Row_init), sl_Row_init⟩)
    (co_Row_init : PySem.W.codeIn K cd_Row_init "Row.__init__" = true)
    (k_Row_init : PySem.W.keepIn K (.ref f_Row_init) = true)
    (td0_Row_init : K.lookup td_Row_init = some ⟨tc_Row_init, to_Row_init, .seq #[.str "last day" tkd_Row_init_0] tn_Row_init, ts_Row_init⟩)
    (mk_Row : PySem.W.makesIn K C_Row = true)
    (kC_Row : PySem.W.keepIn K (.ref C_Row) = true)
    (a_Row_until : PySem.W.findIn K (.ref C_Row) "until" = some (some (.ref pp_Row_until)))
    (pgt_Row_until : PySem.W.specialIn K (.ref pp_Row_until) "__get__" = some (some (.builtin "property.__get__")))
    (ptk_Row_until : PySem.W.takesIn K (.ref pp_Row_until) = some true)
    (prc_Row_until : PySem.W.recIn K pp_Row_until "property" = some (.ref f_Row_until :: re_Row_until))
    (l_Row_until : K.lookup f_Row_until = some ⟨oc_Row_until, od_Row_until, .func (PySem.W.fnOf "until" "Row.until" (defArgs s_Row_until) (defBody s_Row_until) (defScope s_Row_until) .none kV_Row_until dc_Row_until pm_Row_until an_Row_until cd_Row_until ct_Row_until), sl_Row_until⟩)
    (co_Row_until : PySem.W.codeIn K cd_Row_until "Row.until" = true)
    (k_Row_until : PySem.W.keepIn K (.ref f_Row_until) = true)
    (a_Row_until_set : PySem.W.findIn K (.ref C_Row) "until" = some (some (.ref pp_Row_until_set)))
    (pst_Row_until_set : PySem.W.typeIn K (.ref pp_Row_until_set) = some (.type "property"))
    (prc_Row_until_set : PySem.W.recIn K pp_Row_until_set "property" = some (gt_Row_until_set :: .ref f_Row_until_set :: re_Row_until_set))
    (ptt_Row_until_set : PySem.W.takerIn K C_Row "until" = some (some (.ref pp_Row_until_set)))
    (l_Row_until_set : K.lookup f_Row_until_set = some ⟨oc_Row_until_set, od_Row_until_set, .func (PySem.W.fnOf "until" "Row.until" (defArgs s_Row_until_set) (defBody s_Row_until_set) (defScope s_Row_until_set) .none kV_Row_until_set dc_Row_until_set pm_Row_until_set an_Row_until_set cd_Row_until_set ct_Row_until_set), sl_Row_until_set⟩)
    (co_Row_until_set : PySem.W.codeIn K cd_Row_until_set "Row.until" = true)
    (k_Row_until_set : PySem.W.keepIn K (.ref f_Row_until_set) = true)
    (a_Row_stop : PySem.W.findIn K (.ref C_Row) "stop" = some (some (.ref pp_Row_stop)))
    (pgt_Row_stop : PySem.W.specialIn K (.ref pp_Row_stop) "__get__" = some (some (.builtin "property.__get__")))
    (ptk_Row_stop : PySem.W.takesIn K (.ref pp_Row_stop) = some true)
    (prc_Row_stop : PySem.W.recIn K pp_Row_stop "property" = some (.ref f_Row_stop :: re_Row_stop))
    (l_Row_stop : K.lookup f_Row_stop = some ⟨oc_Row_stop, od_Row_stop, .func (PySem.W.fnOf "stop" "Row.stop" (defArgs s_Row_stop) (defBody s_Row_stop) (defScope s_Row_stop) .none kV_Row_stop dc_Row_stop pm_Row_stop an_Row_stop cd_Row_stop ct_Row_stop), sl_Row_stop⟩)
    (co_Row_stop : PySem.W.codeIn K cd_Row_stop "Row.stop" = true)
    (k_Row_stop : PySem.W.keepIn K (.ref f_Row_stop) = true)
    (a_Row_close : PySem.W.findIn K (.ref C_Row) "close" = some (some (.ref f_Row_close)))
    (i_Row_close : PySem.W.isFn K (.ref f_Row_close) = true)
    (l_Row_close : K.lookup f_Row_close = some ⟨oc_Row_close, od_Row_close, .func (PySem.W.fnOf "close" "Row.close" (defArgs s_Row_close) (defBody s_Row_close) (defScope s_Row_close) .none kV_Row_close dc_Row_close pm_Row_close an_Row_close cd_Row_close ct_Row_close), sl_Row_close⟩)
    (co_Row_close : PySem.W.codeIn K cd_Row_close "Row.close" = true)
    (k_Row_close : PySem.W.keepIn K (.ref f_Row_close) = true)
    (a_Row_add : PySem.W.findIn K (.ref C_Row) "__add__" = some (some (.ref f_Row_add)))
    (i_Row_add : PySem.W.isFn K (.ref f_Row_add) = true)
    (l_Row_add : K.lookup f_Row_add = some ⟨oc_Row_add, od_Row_add, .func (PySem.W.fnOf "__add__" "Row.__add__" (defArgs s_Row_add) (defBody s_Row_add) (defScope s_Row_add) .none kV_Row_add dc_Row_add pm_Row_add an_Row_add cd_Row_add ct_Row_add), sl_Row_add⟩)
    (co_Row_add : PySem.W.codeIn K cd_Row_add "Row.__add__" = true)
    (k_Row_add : PySem.W.keepIn K (.ref f_Row_add) = true)
    (a_Row_radd : PySem.W.findIn K (.ref C_Row) "__radd__" = some (some (.ref f_Row_radd)))
    (i_Row_radd : PySem.W.isFn K (.ref f_Row_radd) = true)
    (l_Row_radd : K.lookup f_Row_radd = some ⟨oc_Row_radd, od_Row_radd, .func (PySem.W.fnOf "__radd__" "Row.__radd__" (defArgs s_Row_radd) (defBody s_Row_radd) (defScope s_Row_radd) .none kV_Row_radd dc_Row_radd pm_Row_radd an_Row_radd cd_Row_radd ct_Row_radd), sl_Row_radd⟩)
    (co_Row_radd : PySem.W.codeIn K cd_Row_radd "Row.__radd__" = true)
    (k_Row_radd : PySem.W.keepIn K (.ref f_Row_radd) = true)
    (a_Row_sub : PySem.W.findIn K (.ref C_Row) "__sub__" = some (some (.ref f_Row_sub)))
    (i_Row_sub : PySem.W.isFn K (.ref f_Row_sub) = true)
    (l_Row_sub : K.lookup f_Row_sub = some ⟨oc_Row_sub, od_Row_sub, .func (PySem.W.fnOf "__sub__" "Row.__sub__" (defArgs s_Row_sub) (defBody s_Row_sub) (defScope s_Row_sub) .none kV_Row_sub dc_Row_sub pm_Row_sub an_Row_sub cd_Row_sub ct_Row_sub), sl_Row_sub⟩)
    (co_Row_sub : PySem.W.codeIn K cd_Row_sub "Row.__sub__" = true)
    (k_Row_sub : PySem.W.keepIn K (.ref f_Row_sub) = true)
    (a_Row_contains : PySem.W.findIn K (.ref C_Row) "__contains__" = some (some (.ref f_Row_contains)))
    (i_Row_contains : PySem.W.isFn K (.ref f_Row_contains) = true)
    (l_Row_contains : K.lookup f_Row_contains = some ⟨oc_Row_contains, od_Row_contains, .func (PySem.W.fnOf "__contains__" "Row.__contains__" (defArgs s_Row_contains) (defBody s_Row_contains) (defScope s_Row_contains) .none kV_Row_contains dc_Row_contains pm_Row_contains an_Row_contains cd_Row_contains ct_Row_contains), sl_Row_contains⟩)
    (co_Row_contains : PySem.W.codeIn K cd_Row_contains "Row.__contains__" = true)
    (k_Row_contains : PySem.W.keepIn K (.ref f_Row_contains) = true)
    (a_Row_eq : PySem.W.findIn K (.ref C_Row) "__eq__" = some (some (.ref f_Row_eq)))
    (i_Row_eq : PySem.W.isFn K (.ref f_Row_eq) = true)
    (l_Row_eq : K.lookup f_Row_eq = some ⟨oc_Row_eq, od_Row_eq, .func (PySem.W.fnOf "__eq__" "Row.__eq__" (defArgs s_Row_eq) (defBody s_Row_eq) (defScope s_Row_eq) .none kV_Row_eq dc_Row_eq pm_Row_eq an_Row_eq cd_Row_eq ct_Row_eq), sl_Row_eq⟩)
    (co_Row_eq : PySem.W.codeIn K cd_Row_eq "Row.__eq__" = true)
    (k_Row_eq : PySem.W.keepIn K (.ref f_Row_eq) = true)
    (a_Lbag : PySem.W.nsIn K mainGlobals "_law_bag" = some (some (.ref f_Lbag)))
    (l_Lbag : K.lookup f_Lbag = some ⟨oc_Lbag, od_Lbag, .func (PySem.W.fnOf "_law_bag" "_law_bag" (defArgs s_Lbag) (defBody s_Lbag) (defScope s_Lbag) .none kV_Lbag dc_Lbag pm_Lbag an_Lbag cd_Lbag ct_Lbag), sl_Lbag⟩)
    (co_Lbag : PySem.W.codeIn K cd_Lbag "_law_bag" = true)
    (k_Lbag : PySem.W.keepIn K (.ref f_Lbag) = true)
    (a_Ltake : PySem.W.nsIn K mainGlobals "_law_take" = some (some (.ref f_Ltake)))
    (l_Ltake : K.lookup f_Ltake = some ⟨oc_Ltake, od_Ltake, .func (PySem.W.fnOf "_law_take" "_law_take" (defArgs s_Ltake) (defBody s_Ltake) (defScope s_Ltake) .none kV_Ltake dc_Ltake pm_Ltake an_Ltake cd_Ltake ct_Ltake), sl_Ltake⟩)
    (co_Ltake : PySem.W.codeIn K cd_Ltake "_law_take" = true)
    (k_Ltake : PySem.W.keepIn K (.ref f_Ltake) = true)
    (a_Lwide : PySem.W.nsIn K mainGlobals "_law_wide" = some (some (.ref f_Lwide)))
    (l_Lwide : K.lookup f_Lwide = some ⟨oc_Lwide, od_Lwide, .func (PySem.W.fnOf "_law_wide" "_law_wide" (defArgs s_Lwide) (defBody s_Lwide) (defScope s_Lwide) .none kV_Lwide dc_Lwide pm_Lwide an_Lwide cd_Lwide ct_Lwide), sl_Lwide⟩)
    (co_Lwide : PySem.W.codeIn K cd_Lwide "_law_wide" = true)
    (k_Lwide : PySem.W.keepIn K (.ref f_Lwide) = true)
    (a_Lof : PySem.W.nsIn K mainGlobals "_law_of" = some (some (.ref f_Lof)))
    (l_Lof : K.lookup f_Lof = some ⟨oc_Lof, od_Lof, .func (PySem.W.fnOf "_law_of" "_law_of" (defArgs s_Lof) (defBody s_Lof) (defScope s_Lof) .none kV_Lof dc_Lof pm_Lof an_Lof cd_Lof ct_Lof), sl_Lof⟩)
    (co_Lof : PySem.W.codeIn K cd_Lof "_law_of" = true)
    (k_Lof : PySem.W.keepIn K (.ref f_Lof) = true)
    (a_Lday : PySem.W.nsIn K mainGlobals "_law_day" = some (some (.ref f_Lday)))
    (l_Lday : K.lookup f_Lday = some ⟨oc_Lday, od_Lday, .func (PySem.W.fnOf "_law_day" "_law_day" (defArgs s_Lday) (defBody s_Lday) (defScope s_Lday) .none kV_Lday dc_Lday pm_Lday an_Lday cd_Lday ct_Lday), sl_Lday⟩)
    (co_Lday : PySem.W.codeIn K cd_Lday "_law_day" = true)
    (k_Lday : PySem.W.keepIn K (.ref f_Lday) = true)
    (a_Lvalue : PySem.W.nsIn K mainGlobals "_law_value" = some (some (.ref f_Lvalue)))
    (l_Lvalue : K.lookup f_Lvalue = some ⟨oc_Lvalue, od_Lvalue, .func (PySem.W.fnOf "_law_value" "_law_value" (defArgs s_Lvalue) (defBody s_Lvalue) (defScope s_Lvalue) .none kV_Lvalue dc_Lvalue pm_Lvalue an_Lvalue cd_Lvalue ct_Lvalue), sl_Lvalue⟩)
    (co_Lvalue : PySem.W.codeIn K cd_Lvalue "_law_value" = true)
    (k_Lvalue : PySem.W.keepIn K (.ref f_Lvalue) = true)
    (a_Lends : PySem.W.nsIn K mainGlobals "_law_ends" = some (some (.ref f_Lends)))
    (l_Lends : K.lookup f_Lends = some ⟨oc_Lends, od_Lends, .func (PySem.W.fnOf "_law_ends" "_law_ends" (defArgs s_Lends) (defBody s_Lends) (defScope s_Lends) .none kV_Lends dc_Lends pm_Lends an_Lends cd_Lends ct_Lends), sl_Lends⟩)
    (co_Lends : PySem.W.codeIn K cd_Lends "_law_ends" = true)
    (k_Lends : PySem.W.keepIn K (.ref f_Lends) = true)
    (a_Lsame_value : PySem.W.nsIn K mainGlobals "_law_same_value" = some (some (.ref f_Lsame_value)))
    (l_Lsame_value : K.lookup f_Lsame_value = some ⟨oc_Lsame_value, od_Lsame_value, .func (PySem.W.fnOf "_law_same_value" "_law_same_value" (defArgs s_Lsame_value) (defBody s_Lsame_value) (defScope s_Lsame_value) .none kV_Lsame_value dc_Lsame_value pm_Lsame_value an_Lsame_value cd_Lsame_value ct_Lsame_value), sl_Lsame_value⟩)
    (co_Lsame_value : PySem.W.codeIn K cd_Lsame_value "_law_same_value" = true)
    (k_Lsame_value : PySem.W.keepIn K (.ref f_Lsame_value) = true)
    (a_Lis_number : PySem.W.nsIn K mainGlobals "_law_is_number" = some (some (.ref f_Lis_number)))
    (l_Lis_number : K.lookup f_Lis_number = some ⟨oc_Lis_number, od_Lis_number, .func (PySem.W.fnOf "_law_is_number" "_law_is_number" (defArgs s_Lis_number) (defBody s_Lis_number) (defScope s_Lis_number) .none kV_Lis_number dc_Lis_number pm_Lis_number an_Lis_number cd_Lis_number ct_Lis_number), sl_Lis_number⟩)
    (co_Lis_number : PySem.W.codeIn K cd_Lis_number "_law_is_number" = true)
    (k_Lis_number : PySem.W.keepIn K (.ref f_Lis_number) = true)
    (a_Lparts : PySem.W.nsIn K mainGlobals "_law_parts" = some (some (.ref f_Lparts)))
    (l_Lparts : K.lookup f_Lparts = some ⟨oc_Lparts, od_Lparts, .func (PySem.W.fnOf "_law_parts" "_law_parts" (defArgs s_Lparts) (defBody s_Lparts) (defScope s_Lparts) .none kV_Lparts dc_Lparts pm_Lparts an_Lparts cd_Lparts ct_Lparts), sl_Lparts⟩)
    (co_Lparts : PySem.W.codeIn K cd_Lparts "_law_parts" = true)
    (k_Lparts : PySem.W.keepIn K (.ref f_Lparts) = true)
    (a_Lsame : PySem.W.nsIn K mainGlobals "_law_same" = some (some (.ref f_Lsame)))
    (l_Lsame : K.lookup f_Lsame = some ⟨oc_Lsame, od_Lsame, .func (PySem.W.fnOf "_law_same" "_law_same" (defArgs s_Lsame) (defBody s_Lsame) (defScope s_Lsame) .none kV_Lsame dc_Lsame pm_Lsame an_Lsame cd_Lsame ct_Lsame), sl_Lsame⟩)
    (co_Lsame : PySem.W.codeIn K cd_Lsame "_law_same" = true)
    (k_Lsame : PySem.W.keepIn K (.ref f_Lsame) = true)
    (a_Lmoved : PySem.W.nsIn K mainGlobals "_law_moved" = some (some (.ref f_Lmoved)))
    (l_Lmoved : K.lookup f_Lmoved = some ⟨oc_Lmoved, od_Lmoved, .func (PySem.W.fnOf "_law_moved" "_law_moved" (defArgs s_Lmoved) (defBody s_Lmoved) (defScope s_Lmoved) .none kV_Lmoved dc_Lmoved pm_Lmoved an_Lmoved cd_Lmoved ct_Lmoved), sl_Lmoved⟩)
    (co_Lmoved : PySem.W.codeIn K cd_Lmoved "_law_moved" = true)
    (k_Lmoved : PySem.W.keepIn K (.ref f_Lmoved) = true)
    (a_Llater : PySem.W.nsIn K mainGlobals "_law_later" = some (some (.ref f_Llater)))
    (l_Llater : K.lookup f_Llater = some ⟨oc_Llater, od_Llater, .func (PySem.W.fnOf "_law_later" "_law_later" (defArgs s_Llater) (defBody s_Llater) (defScope s_Llater) .none kV_Llater dc_Llater pm_Llater an_Llater cd_Llater ct_Llater), sl_Llater⟩)
    (co_Llater : PySem.W.codeIn K cd_Llater "_law_later" = true)
    (k_Llater : PySem.W.keepIn K (.ref f_Llater) = true)
    (a_law : PySem.W.nsIn K mainGlobals "law" = some (some (.ref f_law)))
    (l_law : K.lookup f_law = some ⟨oc_law, od_law, .func (PySem.W.fnOf "law" "law" (defArgs s_law) (defBody s_law) (defScope s_law) .none kV_law dc_law pm_law an_law cd_law ct_law), sl_law⟩)
    (co_law : PySem.W.codeIn K cd_law "law" = true)
    (k_law : PySem.W.keepIn K (.ref f_law) = true)
    (sf_Row : PySem.W.selfFirst K C_Row = true)
    (ni_Row : PySem.W.subIn K (.ref C_Row) (.type "int") = some false)
    (z_isinstance : PySem.W.nsIn K mainGlobals "isinstance" = some none)
    (z_abs : PySem.W.nsIn K mainGlobals "abs" = some none)
    (z_len : PySem.W.nsIn K mainGlobals "len" = some none)
    (z_int : PySem.W.nsIn K mainGlobals "int" = some none)
    (z_range : PySem.W.nsIn K mainGlobals "range" = some none)
    (z_bool : PySem.W.nsIn K mainGlobals "bool" = some none)
    (z_max : PySem.W.nsIn K mainGlobals "max" = some none)
    (z_min : PySem.W.nsIn K mainGlobals "min" = some none)
    (kc_Row : PySem.W.isClsIn K C_Row = true)
    (kt_Row : PySem.W.typeIn K (.ref C_Row) = some (.type "type"))
    (kb_Row : PySem.W.subIn K (.ref C_Row) (.ref C_Row) = some true)
    (ks_k_Row_Row : PySem.W.subIn K (.ref C_Row) (.ref C_Row) = some true) :
    ∃ fd : FuncData, (∀ (s : Shared) (v : Value), BindsTo s fd ⟨[v], []⟩ [("script", v)]) ∧ ∀ base : Heap, K.In base → base.Ns mainGlobals mg → FnOk l.prog w K mg base CX0 13 fa fd ["script"] (spLaw K) := by
  have e : f_law = fa := by
    have e := hfa.symm.trans (PySem.W.mg_of X G a_law)
    cases e
    rfl
  subst e
  let T : Tx K mg := {
      c_EmptyRow := C_EmptyRow,
      g_EmptyRow := PySem.W.mg_of X G aC_EmptyRow,
      c_Ends := C_Ends,
      g_Ends := PySem.W.mg_of X G aC_Ends,
      r_Ends := ⟨rd_Ends, rg_Ends⟩,
      u_Ends_NEXT_DAY := tk_Ends_NEXT_DAY,
      v_Ends_NEXT_DAY := ⟨cv_Ends_NEXT_DAY, ⟨_, rfl⟩⟩,
      c_Row := C_Row,
      g_Row := PySem.W.mg_of X G aC_Row,
      cl_Row := ⟨pg_Row, hd_Row, po_Row, sa_Row⟩,
      t_Row := ⟨icc_Row, gsd, gst, imr_Row⟩,
      n_Row_first := na_Row_first,
      n_Row__until := na_Row__until,
      n_Row_value := na_Row_value,
      n_Row_ends := na_Row_ends,
      a_EmptyRow_init := f_EmptyRow_init,
      fd_EmptyRow_init := PySem.W.fnOf "__init__" "EmptyRow.__init__" (defArgs s_EmptyRow_init) (defBody s_EmptyRow_init) (defScope s_EmptyRow_init) .none kV_EmptyRow_init dc_EmptyRow_init pm_EmptyRow_init an_EmptyRow_init cd_EmptyRow_init ct_EmptyRow_init,
      F_EmptyRow_init := fun_mk (st := s_EmptyRow_init) l_EmptyRow_init co_EmptyRow_init k_EmptyRow_init,
      b_EmptyRow_init := (fun_mk (st := s_EmptyRow_init) l_EmptyRow_init co_EmptyRow_init k_EmptyRow_init).binds (ps := ["self", "first", "end"]) fun _ _ _ _ _ _ us hl => match us, hl with | [_, _, _], _ => rfl,
      x_EmptyRow := ⟨⟨⟨_, _, _, _, _, _, _, _, _, _, _, _, _, _, _, xL_EmptyRow, vE_EmptyRow⟩, sa_EmptyRow, eC_EmptyRow, tC_EmptyRow, kC_EmptyRow⟩, ⟨ga_EmptyRow, gg_EmptyRow, eC_EmptyRow, hC_EmptyRow⟩, ⟨ga_EmptyRow, gg_EmptyRow, eC_EmptyRow, hC_EmptyRow, cc_EmptyRow, gsd, gst, mC_EmptyRow⟩, a_EmptyRow_init, tI_EmptyRow, PySem.W.exm_ref eC_EmptyRow hC_EmptyRow tC_EmptyRow sC_EmptyRow⟩,
      n_EmptyRow_first := na_EmptyRow_first,
      n_EmptyRow_end := na_EmptyRow_end,
      a_stop_of := f_stop_of,
      fd_stop_of := PySem.W.fnOf "stop_of" "stop_of" (defArgs s_stop_of) (defBody s_stop_of) (defScope s_stop_of) .none kV_stop_of dc_stop_of pm_stop_of an_stop_of cd_stop_of ct_stop_of,
      F_stop_of := fun_mk (st := s_stop_of) l_stop_of co_stop_of k_stop_of,
      b_stop_of := (fun_mk (st := s_stop_of) l_stop_of co_stop_of k_stop_of).binds (ps := ["until", "ends"]) fun _ _ _ _ _ _ us hl => match us, hl with | [_, _], _ => rfl,
      g_stop_of := PySem.W.mg_of X G a_stop_of,
      a_bears_no_day := f_bears_no_day,
      fd_bears_no_day := PySem.W.fnOf "bears_no_day" "bears_no_day" (defArgs s_bears_no_day) (defBody s_bears_no_day) (defScope s_bears_no_day) .none kV_bears_no_day dc_bears_no_day pm_bears_no_day an_bears_no_day cd_bears_no_day ct_bears_no_day,
      F_bears_no_day := fun_mk (st := s_bears_no_day) l_bears_no_day co_bears_no_day k_bears_no_day,
      b_bears_no_day := (fun_mk (st := s_bears_no_day) l_bears_no_day co_bears_no_day k_bears_no_day).binds (ps := ["first", "until", "ends"]) fun _ _ _ _ _ _ us hl => match us, hl with | [_, _, _], _ => rfl,
      g_bears_no_day := PySem.W.mg_of X G a_bears_no_day,
      a_checked_until := f_checked_until,
      fd_checked_until := PySem.W.fnOf "checked_until" "checked_until" (defArgs s_checked_until) (defBody s_checked_until) (defScope s_checked_until) .none kV_checked_until dc_checked_until pm_checked_until an_checked_until cd_checked_until ct_checked_until,
      F_checked_until := fun_mk (st := s_checked_until) l_checked_until co_checked_until k_checked_until,
      b_checked_until := (fun_mk (st := s_checked_until) l_checked_until co_checked_until k_checked_until).binds (ps := ["first", "until", "ends"]) fun _ _ _ _ _ _ us hl => match us, hl with | [_, _, _], _ => rfl,
      g_checked_until := PySem.W.mg_of X G a_checked_until,
      a_Row_init := f_Row_init,
      fd_Row_init := PySem.W.fnOf "__init__" "Row.__init__" (defArgs s_Row_init) (defBody s_Row_init) (defScope s_Row_init) (.ref td_Row_init) kV_Row_init dc_Row_init pm_Row_init an_Row_init cd_Row_init ct_Row_init,
      F_Row_init := ⟨⟨_, _, _, _, _, _, _, _, _, _, rfl, l_Row_init, co_Row_init, .inr ⟨by simp, _, _, [.str "last day" tkd_Row_init_0], _, rfl, td0_Row_init, rfl, (.cons ⟨_, rfl⟩ .nil)⟩, .inl rfl⟩, k_Row_init⟩,
      b4_Row_init := FunD.binds1 (ps := ["self", "first", "until", "value", "ends"]) (show FunD K "__init__" "Row.__init__" (defArgs s_Row_init) (defBody s_Row_init) (defScope s_Row_init) [.str "last day"] [] f_Row_init _ from ⟨⟨_, _, _, _, _, _, _, _, _, _, rfl, l_Row_init, co_Row_init, .inr ⟨by simp, _, _, [.str "last day" tkd_Row_init_0], _, rfl, td0_Row_init, rfl, (.cons ⟨_, rfl⟩ .nil)⟩, .inl rfl⟩, k_Row_init⟩) 4 0 (by simp) (by rfl) fun _ _ _ _ _ _ _ us its hl hi => match us, hl, its, hi with | [_, _, _, _], _, [_], _ => ⟨_, rfl, rfl⟩,
      b5_Row_init := FunD.binds1 (ps := ["self", "first", "until", "value", "ends"]) (show FunD K "__init__" "Row.__init__" (defArgs s_Row_init) (defBody s_Row_init) (defScope s_Row_init) [.str "last day"] [] f_Row_init _ from ⟨⟨_, _, _, _, _, _, _, _, _, _, rfl, l_Row_init, co_Row_init, .inr ⟨by simp, _, _, [.str "last day" tkd_Row_init_0], _, rfl, td0_Row_init, rfl, (.cons ⟨_, rfl⟩ .nil)⟩, .inl rfl⟩, k_Row_init⟩) 5 1 (by simp) (by rfl) fun _ _ _ _ _ _ _ us its hl hi => match us, hl, its, hi with | [_, _, _, _, _], _, [_], _ => ⟨_, rfl, rfl⟩,
      mk_Row := ⟨mk_Row, a_Row_init, i_Row_init, kC_Row⟩,
      a_Row_until := f_Row_until,
      fd_Row_until := PySem.W.fnOf "until" "Row.until" (defArgs s_Row_until) (defBody s_Row_until) (defScope s_Row_until) .none kV_Row_until dc_Row_until pm_Row_until an_Row_until cd_Row_until ct_Row_until,
      F_Row_until := fun_mk (st := s_Row_until) l_Row_until co_Row_until k_Row_until,
      b_Row_until := (fun_mk (st := s_Row_until) l_Row_until co_Row_until k_Row_until).binds (ps := ["self"]) fun _ _ _ _ _ _ us hl => match us, hl with | [_], _ => rfl,
      pa_Row_until := pp_Row_until,
      p_Row_until := ⟨a_Row_until, pgt_Row_until, ptk_Row_until, ⟨_, prc_Row_until⟩⟩,
      a_Row_until_set := f_Row_until_set,
      fd_Row_until_set := PySem.W.fnOf "until" "Row.until" (defArgs s_Row_until_set) (defBody s_Row_until_set) (defScope s_Row_until_set) .none kV_Row_until_set dc_Row_until_set pm_Row_until_set an_Row_until_set cd_Row_until_set ct_Row_until_set,
      F_Row_until_set := fun_mk (st := s_Row_until_set) l_Row_until_set co_Row_until_set k_Row_until_set,
      b_Row_until_set := (fun_mk (st := s_Row_until_set) l_Row_until_set co_Row_until_set k_Row_until_set).binds (ps := ["self", "value"]) fun _ _ _ _ _ _ us hl => match us, hl with | [_, _], _ => rfl,
      pa_Row_until_set := pp_Row_until_set,
      p_Row_until_set := ⟨a_Row_until_set, pst_Row_until_set, ⟨_, _, prc_Row_until_set⟩, ptt_Row_until_set⟩,
      a_Row_stop := f_Row_stop,
      fd_Row_stop := PySem.W.fnOf "stop" "Row.stop" (defArgs s_Row_stop) (defBody s_Row_stop) (defScope s_Row_stop) .none kV_Row_stop dc_Row_stop pm_Row_stop an_Row_stop cd_Row_stop ct_Row_stop,
      F_Row_stop := fun_mk (st := s_Row_stop) l_Row_stop co_Row_stop k_Row_stop,
      b_Row_stop := (fun_mk (st := s_Row_stop) l_Row_stop co_Row_stop k_Row_stop).binds (ps := ["self"]) fun _ _ _ _ _ _ us hl => match us, hl with | [_], _ => rfl,
      pa_Row_stop := pp_Row_stop,
      p_Row_stop := ⟨a_Row_stop, pgt_Row_stop, ptk_Row_stop, ⟨_, prc_Row_stop⟩⟩,
      a_Row_close := f_Row_close,
      fd_Row_close := PySem.W.fnOf "close" "Row.close" (defArgs s_Row_close) (defBody s_Row_close) (defScope s_Row_close) .none kV_Row_close dc_Row_close pm_Row_close an_Row_close cd_Row_close ct_Row_close,
      F_Row_close := fun_mk (st := s_Row_close) l_Row_close co_Row_close k_Row_close,
      b_Row_close := (fun_mk (st := s_Row_close) l_Row_close co_Row_close k_Row_close).binds (ps := ["self", "until"]) fun _ _ _ _ _ _ us hl => match us, hl with | [_, _], _ => rfl,
      m_Row_close := ⟨a_Row_close, i_Row_close, k_Row_close⟩,
      a_Row_add := f_Row_add,
      fd_Row_add := PySem.W.fnOf "__add__" "Row.__add__" (defArgs s_Row_add) (defBody s_Row_add) (defScope s_Row_add) .none kV_Row_add dc_Row_add pm_Row_add an_Row_add cd_Row_add ct_Row_add,
      F_Row_add := fun_mk (st := s_Row_add) l_Row_add co_Row_add k_Row_add,
      b_Row_add := (fun_mk (st := s_Row_add) l_Row_add co_Row_add k_Row_add).binds (ps := ["self", "other"]) fun _ _ _ _ _ _ us hl => match us, hl with | [_, _], _ => rfl,
      m_Row_add := ⟨a_Row_add, i_Row_add, k_Row_add⟩,
      a_Row_radd := f_Row_radd,
      fd_Row_radd := PySem.W.fnOf "__radd__" "Row.__radd__" (defArgs s_Row_radd) (defBody s_Row_radd) (defScope s_Row_radd) .none kV_Row_radd dc_Row_radd pm_Row_radd an_Row_radd cd_Row_radd ct_Row_radd,
      F_Row_radd := fun_mk (st := s_Row_radd) l_Row_radd co_Row_radd k_Row_radd,
      b_Row_radd := (fun_mk (st := s_Row_radd) l_Row_radd co_Row_radd k_Row_radd).binds (ps := ["self", "other"]) fun _ _ _ _ _ _ us hl => match us, hl with | [_, _], _ => rfl,
      m_Row_radd := ⟨a_Row_radd, i_Row_radd, k_Row_radd⟩,
      a_Row_sub := f_Row_sub,
      fd_Row_sub := PySem.W.fnOf "__sub__" "Row.__sub__" (defArgs s_Row_sub) (defBody s_Row_sub) (defScope s_Row_sub) .none kV_Row_sub dc_Row_sub pm_Row_sub an_Row_sub cd_Row_sub ct_Row_sub,
      F_Row_sub := fun_mk (st := s_Row_sub) l_Row_sub co_Row_sub k_Row_sub,
      b_Row_sub := (fun_mk (st := s_Row_sub) l_Row_sub co_Row_sub k_Row_sub).binds (ps := ["self", "other"]) fun _ _ _ _ _ _ us hl => match us, hl with | [_, _], _ => rfl,
      m_Row_sub := ⟨a_Row_sub, i_Row_sub, k_Row_sub⟩,
      a_Row_contains := f_Row_contains,
      fd_Row_contains := PySem.W.fnOf "__contains__" "Row.__contains__" (defArgs s_Row_contains) (defBody s_Row_contains) (defScope s_Row_contains) .none kV_Row_contains dc_Row_contains pm_Row_contains an_Row_contains cd_Row_contains ct_Row_contains,
      F_Row_contains := fun_mk (st := s_Row_contains) l_Row_contains co_Row_contains k_Row_contains,
      b_Row_contains := (fun_mk (st := s_Row_contains) l_Row_contains co_Row_contains k_Row_contains).binds (ps := ["self", "x"]) fun _ _ _ _ _ _ us hl => match us, hl with | [_, _], _ => rfl,
      m_Row_contains := ⟨a_Row_contains, i_Row_contains, k_Row_contains⟩,
      a_Row_eq := f_Row_eq,
      fd_Row_eq := PySem.W.fnOf "__eq__" "Row.__eq__" (defArgs s_Row_eq) (defBody s_Row_eq) (defScope s_Row_eq) .none kV_Row_eq dc_Row_eq pm_Row_eq an_Row_eq cd_Row_eq ct_Row_eq,
      F_Row_eq := fun_mk (st := s_Row_eq) l_Row_eq co_Row_eq k_Row_eq,
      b_Row_eq := (fun_mk (st := s_Row_eq) l_Row_eq co_Row_eq k_Row_eq).binds (ps := ["self", "other"]) fun _ _ _ _ _ _ us hl => match us, hl with | [_, _], _ => rfl,
      m_Row_eq := ⟨a_Row_eq, i_Row_eq, k_Row_eq⟩,
      a_Lbag := f_Lbag,
      fd_Lbag := PySem.W.fnOf "_law_bag" "_law_bag" (defArgs s_Lbag) (defBody s_Lbag) (defScope s_Lbag) .none kV_Lbag dc_Lbag pm_Lbag an_Lbag cd_Lbag ct_Lbag,
      F_Lbag := fun_mk (st := s_Lbag) l_Lbag co_Lbag k_Lbag,
      b_Lbag := (fun_mk (st := s_Lbag) l_Lbag co_Lbag k_Lbag).binds (ps := ["script", "at"]) fun _ _ _ _ _ _ us hl => match us, hl with | [_, _], _ => rfl,
      g_Lbag := PySem.W.mg_of X G a_Lbag,
      a_Ltake := f_Ltake,
      fd_Ltake := PySem.W.fnOf "_law_take" "_law_take" (defArgs s_Ltake) (defBody s_Ltake) (defScope s_Ltake) .none kV_Ltake dc_Ltake pm_Ltake an_Ltake cd_Ltake ct_Ltake,
      F_Ltake := fun_mk (st := s_Ltake) l_Ltake co_Ltake k_Ltake,
      b_Ltake := (fun_mk (st := s_Ltake) l_Ltake co_Ltake k_Ltake).binds (ps := ["bag", "many"]) fun _ _ _ _ _ _ us hl => match us, hl with | [_, _], _ => rfl,
      g_Ltake := PySem.W.mg_of X G a_Ltake,
      a_Lwide := f_Lwide,
      fd_Lwide := PySem.W.fnOf "_law_wide" "_law_wide" (defArgs s_Lwide) (defBody s_Lwide) (defScope s_Lwide) .none kV_Lwide dc_Lwide pm_Lwide an_Lwide cd_Lwide ct_Lwide,
      F_Lwide := fun_mk (st := s_Lwide) l_Lwide co_Lwide k_Lwide,
      b_Lwide := (fun_mk (st := s_Lwide) l_Lwide co_Lwide k_Lwide).binds (ps := ["bag", "many"]) fun _ _ _ _ _ _ us hl => match us, hl with | [_, _], _ => rfl,
      g_Lwide := PySem.W.mg_of X G a_Lwide,
      a_Lof := f_Lof,
      fd_Lof := PySem.W.fnOf "_law_of" "_law_of" (defArgs s_Lof) (defBody s_Lof) (defScope s_Lof) .none kV_Lof dc_Lof pm_Lof an_Lof cd_Lof ct_Lof,
      F_Lof := fun_mk (st := s_Lof) l_Lof co_Lof k_Lof,
      b_Lof := (fun_mk (st := s_Lof) l_Lof co_Lof k_Lof).binds (ps := ["bag", "some"]) fun _ _ _ _ _ _ us hl => match us, hl with | [_, _], _ => rfl,
      g_Lof := PySem.W.mg_of X G a_Lof,
      a_Lday := f_Lday,
      fd_Lday := PySem.W.fnOf "_law_day" "_law_day" (defArgs s_Lday) (defBody s_Lday) (defScope s_Lday) .none kV_Lday dc_Lday pm_Lday an_Lday cd_Lday ct_Lday,
      F_Lday := fun_mk (st := s_Lday) l_Lday co_Lday k_Lday,
      b_Lday := (fun_mk (st := s_Lday) l_Lday co_Lday k_Lday).binds (ps := ["bag"]) fun _ _ _ _ _ _ us hl => match us, hl with | [_], _ => rfl,
      g_Lday := PySem.W.mg_of X G a_Lday,
      a_Lvalue := f_Lvalue,
      fd_Lvalue := PySem.W.fnOf "_law_value" "_law_value" (defArgs s_Lvalue) (defBody s_Lvalue) (defScope s_Lvalue) .none kV_Lvalue dc_Lvalue pm_Lvalue an_Lvalue cd_Lvalue ct_Lvalue,
      F_Lvalue := fun_mk (st := s_Lvalue) l_Lvalue co_Lvalue k_Lvalue,
      b_Lvalue := (fun_mk (st := s_Lvalue) l_Lvalue co_Lvalue k_Lvalue).binds (ps := ["bag"]) fun _ _ _ _ _ _ us hl => match us, hl with | [_], _ => rfl,
      g_Lvalue := PySem.W.mg_of X G a_Lvalue,
      a_Lends := f_Lends,
      fd_Lends := PySem.W.fnOf "_law_ends" "_law_ends" (defArgs s_Lends) (defBody s_Lends) (defScope s_Lends) .none kV_Lends dc_Lends pm_Lends an_Lends cd_Lends ct_Lends,
      F_Lends := fun_mk (st := s_Lends) l_Lends co_Lends k_Lends,
      b_Lends := (fun_mk (st := s_Lends) l_Lends co_Lends k_Lends).binds (ps := ["bag"]) fun _ _ _ _ _ _ us hl => match us, hl with | [_], _ => rfl,
      g_Lends := PySem.W.mg_of X G a_Lends,
      a_Lsame_value := f_Lsame_value,
      fd_Lsame_value := PySem.W.fnOf "_law_same_value" "_law_same_value" (defArgs s_Lsame_value) (defBody s_Lsame_value) (defScope s_Lsame_value) .none kV_Lsame_value dc_Lsame_value pm_Lsame_value an_Lsame_value cd_Lsame_value ct_Lsame_value,
      F_Lsame_value := fun_mk (st := s_Lsame_value) l_Lsame_value co_Lsame_value k_Lsame_value,
      b_Lsame_value := (fun_mk (st := s_Lsame_value) l_Lsame_value co_Lsame_value k_Lsame_value).binds (ps := ["one", "other"]) fun _ _ _ _ _ _ us hl => match us, hl with | [_, _], _ => rfl,
      g_Lsame_value := PySem.W.mg_of X G a_Lsame_value,
      a_Lis_number := f_Lis_number,
      fd_Lis_number := PySem.W.fnOf "_law_is_number" "_law_is_number" (defArgs s_Lis_number) (defBody s_Lis_number) (defScope s_Lis_number) .none kV_Lis_number dc_Lis_number pm_Lis_number an_Lis_number cd_Lis_number ct_Lis_number,
      F_Lis_number := fun_mk (st := s_Lis_number) l_Lis_number co_Lis_number k_Lis_number,
      b_Lis_number := (fun_mk (st := s_Lis_number) l_Lis_number co_Lis_number k_Lis_number).binds (ps := ["thing"]) fun _ _ _ _ _ _ us hl => match us, hl with | [_], _ => rfl,
      g_Lis_number := PySem.W.mg_of X G a_Lis_number,
      a_Lparts := f_Lparts,
      fd_Lparts := PySem.W.fnOf "_law_parts" "_law_parts" (defArgs s_Lparts) (defBody s_Lparts) (defScope s_Lparts) .none kV_Lparts dc_Lparts pm_Lparts an_Lparts cd_Lparts ct_Lparts,
      F_Lparts := fun_mk (st := s_Lparts) l_Lparts co_Lparts k_Lparts,
      b_Lparts := (fun_mk (st := s_Lparts) l_Lparts co_Lparts k_Lparts).binds (ps := ["script", "most"]) fun _ _ _ _ _ _ us hl => match us, hl with | [_, _], _ => rfl,
      g_Lparts := PySem.W.mg_of X G a_Lparts,
      a_Lsame := f_Lsame,
      fd_Lsame := PySem.W.fnOf "_law_same" "_law_same" (defArgs s_Lsame) (defBody s_Lsame) (defScope s_Lsame) .none kV_Lsame dc_Lsame pm_Lsame an_Lsame cd_Lsame ct_Lsame,
      F_Lsame := fun_mk (st := s_Lsame) l_Lsame co_Lsame k_Lsame,
      b_Lsame := (fun_mk (st := s_Lsame) l_Lsame co_Lsame k_Lsame).binds (ps := ["told", "due"]) fun _ _ _ _ _ _ us hl => match us, hl with | [_, _], _ => rfl,
      g_Lsame := PySem.W.mg_of X G a_Lsame,
      a_Lmoved := f_Lmoved,
      fd_Lmoved := PySem.W.fnOf "_law_moved" "_law_moved" (defArgs s_Lmoved) (defBody s_Lmoved) (defScope s_Lmoved) .none kV_Lmoved dc_Lmoved pm_Lmoved an_Lmoved cd_Lmoved ct_Lmoved,
      F_Lmoved := fun_mk (st := s_Lmoved) l_Lmoved co_Lmoved k_Lmoved,
      b_Lmoved := (fun_mk (st := s_Lmoved) l_Lmoved co_Lmoved k_Lmoved).binds (ps := ["row", "first", "until", "value", "ends"]) fun _ _ _ _ _ _ us hl => match us, hl with | [_, _, _, _, _], _ => rfl,
      g_Lmoved := PySem.W.mg_of X G a_Lmoved,
      a_Llater := f_Llater,
      fd_Llater := PySem.W.fnOf "_law_later" "_law_later" (defArgs s_Llater) (defBody s_Llater) (defScope s_Llater) .none kV_Llater dc_Llater pm_Llater an_Llater cd_Llater ct_Llater,
      F_Llater := fun_mk (st := s_Llater) l_Llater co_Llater k_Llater,
      b_Llater := (fun_mk (st := s_Llater) l_Llater co_Llater k_Llater).binds (ps := ["until", "many"]) fun _ _ _ _ _ _ us hl => match us, hl with | [_, _], _ => rfl,
      g_Llater := PySem.W.mg_of X G a_Llater,
      a_law := f_law,
      fd_law := PySem.W.fnOf "law" "law" (defArgs s_law) (defBody s_law) (defScope s_law) .none kV_law dc_law pm_law an_law cd_law ct_law,
      F_law := fun_mk (st := s_law) l_law co_law k_law,
      b_law := (fun_mk (st := s_law) l_law co_law k_law).binds (ps := ["script"]) fun _ _ _ _ _ _ us hl => match us, hl with | [_], _ => rfl,
      g_law := PySem.W.mg_of X G a_law,
      ad_Row := ⟨sf_Row, ni_Row⟩,
      n_isinstance := PySem.W.mg_none_of X G z_isinstance,
      n_abs := PySem.W.mg_none_of X G z_abs,
      n_len := PySem.W.mg_none_of X G z_len,
      n_int := PySem.W.mg_none_of X G z_int,
      n_range := PySem.W.mg_none_of X G z_range,
      n_bool := PySem.W.mg_none_of X G z_bool,
      n_max := PySem.W.mg_none_of X G z_max,
      n_min := PySem.W.mg_none_of X G z_min,
      k_Row_Row := kit_rr kc_Row kt_Row ks_k_Row_Row kb_Row }
  exact ⟨PySem.W.fnOf "law" "law" (defArgs s_law) (defBody s_law) (defScope s_law) .none kV_law dc_law pm_law an_law cd_law ct_law, fun s v => .of_eq rfl, fun base _ _ => ok_law T⟩
theorem walk {l : PySem.W.OpenLaw} {q : Program} {loose : List Str} {XP : (Str → Option Value) → Heap → Prop} {YP : World → Heap → Prop} {d : DefRec} {K : Params → PySem.W.Frag} (hn : l.most = some 63) (hdf : d.params.defaults = [])
    (hY : ∀ (w : World) (h : Heap), YP w h → (K w.params).In h)
    (F : ∀ (w : World) (mg : Str → Option Value) (fa : Addr) (h : Heap), (K w.params).In h → h.Ns mainGlobals mg → mg d.name = some (.ref fa) →
      ∃ fd : FuncData, (∀ (s : Shared) (u : Value), BindsTo s fd ⟨[u], []⟩ [("script", u)]) ∧ ∀ base : Heap, (K w.params).In base → base.Ns mainGlobals mg → FnOk l.prog w (K w.params) mg base CX0 13 fa fd ["script"] (spLaw (K w.params))) :
    PySem.W.WalkO q loose XP YP l.row.toRowW d [] (fun f vs => PySem.call f vs) :=
  L2.walk_of (n := 63) (k := 13) (x := "script") (CX := fun _ => CX0) (sp := fun w => spLaw (K w.params)) hn (by decide) hdf ⟨rfl, by decide, by decide⟩ hY F (fun _ _ a ns hl _ hS => ⟨a, ns, rfl, hS, hl, fun _ => rfl⟩) fun _ _ _ _ _ z => z
end Vf
open PySem PySem.W PyProof.Rows
set_option maxRecDepth 100000 in
set_option maxHeartbeats 0 in
theorem PySem.Challenge.cw_untilrows_k03_rows_that_are_shifted_holds : PySem.Challenge.rw_untilrows_k03_rows_that_are_shifted.Holds := by
  w_on; o_law; k_head; (case hw => w_witness2)
  k_fill
  refine Vf.walk (l := PySem.Challenge.rw_untilrows_k03_rows_that_are_shifted) rfl rfl (fun w h Y => PySem.W.kIn_of Y) ?F
  case F =>
    intro w mg fa h KX G hmg
    refine' Vf.all_mk KX G hmg ?q_gsd ?q_gst ?q_aC_EmptyRow ?q_aC_Ends ?q_rd_Ends ?q_rg_Ends ?q_cv_Ends_NEXT_DAY ?q_aC_Row ?q_pg_Row ?q_hd_Row ?q_po_Row ?q_sa_Row ?q_icc_Row ?q_imr_Row ?q_na_Row_first ?q_na_Row__until ?q_na_Row_value ?q_na_Row_ends ?q_a_EmptyRow_init ?q_l_EmptyRow_init ?q_co_EmptyRow_init ?q_k_EmptyRow_init ?q_xL_EmptyRow ?q_vE_EmptyRow ?q_sa_EmptyRow ?q_ga_EmptyRow ?q_gg_EmptyRow ?q_eC_EmptyRow ?q_tC_EmptyRow ?q_kC_EmptyRow ?q_hC_EmptyRow ?q_iC_EmptyRow ?q_sC_EmptyRow ?q_cc_EmptyRow ?q_mC_EmptyRow ?q_tI_EmptyRow ?q_na_EmptyRow_first ?q_na_EmptyRow_end ?q_a_stop_of ?q_l_stop_of ?q_co_stop_of ?q_k_stop_of ?q_a_bears_no_day ?q_l_bears_no_day ?q_co_bears_no_day ?q_k_bears_no_day ?q_a_checked_until ?q_l_checked_until ?q_co_checked_until ?q_k_checked_until ?q_a_Row_init ?q_i_Row_init ?q_l_Row_init ?q_co_Row_init ?q_k_Row_init ?q_td0_Row_init ?q_mk_Row ?q_kC_Row ?q_a_Row_until ?q_pgt_Row_until ?q_ptk_Row_until ?q_prc_Row_until ?q_l_Row_until ?q_co_Row_until ?q_k_Row_until ?q_a_Row_until_set ?q_pst_Row_until_set ?q_prc_Row_until_set ?q_ptt_Row_until_set ?q_l_Row_until_set ?q_co_Row_until_set ?q_k_Row_until_set ?q_a_Row_stop ?q_pgt_Row_stop ?q_ptk_Row_stop ?q_prc_Row_stop ?q_l_Row_stop ?q_co_Row_stop ?q_k_Row_stop ?q_a_Row_close ?q_i_Row_close ?q_l_Row_close ?q_co_Row_close ?q_k_Row_close ?q_a_Row_add ?q_i_Row_add ?q_l_Row_add ?q_co_Row_add ?q_k_Row_add ?q_a_Row_radd ?q_i_Row_radd ?q_l_Row_radd ?q_co_Row_radd ?q_k_Row_radd ?q_a_Row_sub ?q_i_Row_sub ?q_l_Row_sub ?q_co_Row_sub ?q_k_Row_sub ?q_a_Row_contains ?q_i_Row_contains ?q_l_Row_contains ?q_co_Row_contains ?q_k_Row_contains ?q_a_Row_eq ?q_i_Row_eq ?q_l_Row_eq ?q_co_Row_eq ?q_k_Row_eq ?q_a_Lbag ?q_l_Lbag ?q_co_Lbag ?q_k_Lbag ?q_a_Ltake ?q_l_Ltake ?q_co_Ltake ?q_k_Ltake ?q_a_Lwide ?q_l_Lwide ?q_co_Lwide ?q_k_Lwide ?q_a_Lof ?q_l_Lof ?q_co_Lof ?q_k_Lof ?q_a_Lday ?q_l_Lday ?q_co_Lday ?q_k_Lday ?q_a_Lvalue ?q_l_Lvalue ?q_co_Lvalue ?q_k_Lvalue ?q_a_Lends ?q_l_Lends ?q_co_Lends ?q_k_Lends ?q_a_Lsame_value ?q_l_Lsame_value ?q_co_Lsame_value ?q_k_Lsame_value ?q_a_Lis_number ?q_l_Lis_number ?q_co_Lis_number ?q_k_Lis_number ?q_a_Lparts ?q_l_Lparts ?q_co_Lparts ?q_k_Lparts ?q_a_Lsame ?q_l_Lsame ?q_co_Lsame ?q_k_Lsame ?q_a_Lmoved ?q_l_Lmoved ?q_co_Lmoved ?q_k_Lmoved ?q_a_Llater ?q_l_Llater ?q_co_Llater ?q_k_Llater ?q_a_law ?q_l_law ?q_co_law ?q_k_law ?q_sf_Row ?q_ni_Row ?q_z_isinstance ?q_z_abs ?q_z_len ?q_z_int ?q_z_range ?q_z_bool ?q_z_max ?q_z_min ?q_kc_Row ?q_kt_Row ?q_kb_Row ?q_ks_k_Row_Row
    (case q_gsd => k_is)
    (case q_gst => k_is)
    (case q_aC_EmptyRow => k_is)
    (case q_aC_Ends => k_is)
    (case q_rd_Ends => k_is)
    (case q_rg_Ends => k_is)
    (case q_cv_Ends_NEXT_DAY => k_is)
    (case q_aC_Row => k_is)
    (case q_pg_Row => k_is)
    (case q_hd_Row => k_is)
    (case q_po_Row => k_is)
    (case q_sa_Row => k_is)
    (case q_icc_Row => k_is)
    (case q_imr_Row => k_is)
    (case q_na_Row_first => k_is)
    (case q_na_Row__until => k_is)
    (case q_na_Row_value => k_is)
    (case q_na_Row_ends => k_is)
    (case q_a_EmptyRow_init => k_is)
    (case q_l_EmptyRow_init => k_is)
    (case q_co_EmptyRow_init => k_is)
    (case q_k_EmptyRow_init => k_is)
    (case q_xL_EmptyRow => k_is)
    (case q_vE_EmptyRow => decide +kernel)
    (case q_sa_EmptyRow => k_is)
    (case q_ga_EmptyRow => k_is)
    (case q_gg_EmptyRow => k_is)
    (case q_eC_EmptyRow => k_is)
    (case q_tC_EmptyRow => k_is)
    (case q_kC_EmptyRow => k_is)
    (case q_hC_EmptyRow => k_is)
    (case q_iC_EmptyRow => k_is)
    (case q_sC_EmptyRow => first | rfl | k_is)
    (case q_cc_EmptyRow => k_is)
    (case q_mC_EmptyRow => k_is)
    (case q_tI_EmptyRow => k_is)
    (case q_na_EmptyRow_first => k_is)
    (case q_na_EmptyRow_end => k_is)
    (case q_a_stop_of => k_is)
    (case q_l_stop_of => k_is)
    (case q_co_stop_of => k_is)
    (case q_k_stop_of => k_is)
    (case q_a_bears_no_day => k_is)
    (case q_l_bears_no_day => k_is)
    (case q_co_bears_no_day => k_is)
    (case q_k_bears_no_day => k_is)
    (case q_a_checked_until => k_is)
    (case q_l_checked_until => k_is)
    (case q_co_checked_until => k_is)
    (case q_k_checked_until => k_is)
    (case q_a_Row_init => k_is)
    (case q_i_Row_init => k_is)
    (case q_l_Row_init => k_is)
    (case q_co_Row_init => k_is)
    (case q_k_Row_init => k_is)
    (case q_td0_Row_init => k_is)
    (case q_mk_Row => k_is)
    (case q_kC_Row => k_is)
    (case q_a_Row_until => k_is)
    (case q_pgt_Row_until => k_is)
    (case q_ptk_Row_until => k_is)
    (case q_prc_Row_until => k_is)
    (case q_l_Row_until => k_is)
    (case q_co_Row_until => k_is)
    (case q_k_Row_until => k_is)
    (case q_a_Row_until_set => k_is)
    (case q_pst_Row_until_set => k_is)
    (case q_prc_Row_until_set => k_is)
    (case q_ptt_Row_until_set => k_is)
    (case q_l_Row_until_set => k_is)
    (case q_co_Row_until_set => k_is)
    (case q_k_Row_until_set => k_is)
    (case q_a_Row_stop => k_is)
    (case q_pgt_Row_stop => k_is)
    (case q_ptk_Row_stop => k_is)
    (case q_prc_Row_stop => k_is)
    (case q_l_Row_stop => k_is)
    (case q_co_Row_stop => k_is)
    (case q_k_Row_stop => k_is)
    (case q_a_Row_close => k_is)
    (case q_i_Row_close => k_is)
    (case q_l_Row_close => k_is)
    (case q_co_Row_close => k_is)
    (case q_k_Row_close => k_is)
    (case q_a_Row_add => k_is)
    (case q_i_Row_add => k_is)
    (case q_l_Row_add => k_is)
    (case q_co_Row_add => k_is)
    (case q_k_Row_add => k_is)
    (case q_a_Row_radd => k_is)
    (case q_i_Row_radd => k_is)
    (case q_l_Row_radd => k_is)
    (case q_co_Row_radd => k_is)
    (case q_k_Row_radd => k_is)
    (case q_a_Row_sub => k_is)
    (case q_i_Row_sub => k_is)
    (case q_l_Row_sub => k_is)
    (case q_co_Row_sub => k_is)
    (case q_k_Row_sub => k_is)
    (case q_a_Row_contains => k_is)
    (case q_i_Row_contains => k_is)
    (case q_l_Row_contains => k_is)
    (case q_co_Row_contains => k_is)
    (case q_k_Row_contains => k_is)
    (case q_a_Row_eq => k_is)
    (case q_i_Row_eq => k_is)
    (case q_l_Row_eq => k_is)
    (case q_co_Row_eq => k_is)
    (case q_k_Row_eq => k_is)
    (case q_a_Lbag => k_is)
    (case q_l_Lbag => k_is)
    (case q_co_Lbag => k_is)
    (case q_k_Lbag => k_is)
    (case q_a_Ltake => k_is)
    (case q_l_Ltake => k_is)
    (case q_co_Ltake => k_is)
    (case q_k_Ltake => k_is)
    (case q_a_Lwide => k_is)
    (case q_l_Lwide => k_is)
    (case q_co_Lwide => k_is)
    (case q_k_Lwide => k_is)
    (case q_a_Lof => k_is)
    (case q_l_Lof => k_is)
    (case q_co_Lof => k_is)
    (case q_k_Lof => k_is)
    (case q_a_Lday => k_is)
    (case q_l_Lday => k_is)
    (case q_co_Lday => k_is)
    (case q_k_Lday => k_is)
    (case q_a_Lvalue => k_is)
    (case q_l_Lvalue => k_is)
    (case q_co_Lvalue => k_is)
    (case q_k_Lvalue => k_is)
    (case q_a_Lends => k_is)
    (case q_l_Lends => k_is)
    (case q_co_Lends => k_is)
    (case q_k_Lends => k_is)
    (case q_a_Lsame_value => k_is)
    (case q_l_Lsame_value => k_is)
    (case q_co_Lsame_value => k_is)
    (case q_k_Lsame_value => k_is)
    (case q_a_Lis_number => k_is)
    (case q_l_Lis_number => k_is)
    (case q_co_Lis_number => k_is)
    (case q_k_Lis_number => k_is)
    (case q_a_Lparts => k_is)
    (case q_l_Lparts => k_is)
    (case q_co_Lparts => k_is)
    (case q_k_Lparts => k_is)
    (case q_a_Lsame => k_is)
    (case q_l_Lsame => k_is)
    (case q_co_Lsame => k_is)
    (case q_k_Lsame => k_is)
    (case q_a_Lmoved => k_is)
    (case q_l_Lmoved => k_is)
    (case q_co_Lmoved => k_is)
    (case q_k_Lmoved => k_is)
    (case q_a_Llater => k_is)
    (case q_l_Llater => k_is)
    (case q_co_Llater => k_is)
    (case q_k_Llater => k_is)
    (case q_a_law => k_is)
    (case q_l_law => k_is)
    (case q_co_law => k_is)
    (case q_k_law => k_is)
    (case q_sf_Row => k_is)
    (case q_ni_Row => k_is)
    (case q_z_isinstance => k_is)
    (case q_z_abs => k_is)
    (case q_z_len => k_is)
    (case q_z_int => k_is)
    (case q_z_range => k_is)
    (case q_z_bool => k_is)
    (case q_z_max => k_is)
    (case q_z_min => k_is)
    (case q_kc_Row => k_is)
    (case q_kt_Row => k_is)
    (case q_kb_Row => first | rfl | k_is)
    (case q_ks_k_Row_Row => k_is)
