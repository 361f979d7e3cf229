import PyProof.Rows.All
import Wide.All
import OpenK.AllK
import Wide.FinOn
import KE.HD2
import HandS.ForMost
import HandS.ForExc
import HandS.Flow
import HandS.Style
import HandS.IsInst
import HandS.Wide
import HandS.Property
import HandS.ClsMeth
import HandS.SortInts
import HandS.Strs
import HandS.ExcInit
import HandS.ExcField
import HandS.Defaults
import KE.KOpsOwn
import KE.KIsAll
import KE.KTryMore
import HandS.ExcIs
import PyProof.NeKinds
import PyProof.TwoTypes
import HandS.NoneIn
import HandS.ExcValue
import HandS.ExcOwn
import HandS.Star
import HandS.SetFor
import HandS.IterVal
import HandS.OwnIter
import HandS.Sort
import HandS.More
import HandS.Text
import HandS.Codes
import KE.SortKeyHeap
import KE.SortData
import HandS.SortKw
import HandS.MakeKwOnly
import KE.KStar
import HandS.Lambda
import HandS.EndTab
import HandS.Deep
import HandS.MakeKw
import HandS.CallLocal
import PyProof.Rows.StrIntSpec
import PyProof.FString3
import HandS.FStr
import HandS.StrMore
import PySem.Challenge.RW_untilrows_k27_printed_books
set_option Elab.async false
set_option linter.all false
set_option maxRecDepth 100000
set_option maxHeartbeats 4000000
namespace Vf
open PySem PySem.Spec PyProof.Rows L2

/-! ### heaps -/
def Ex (H H' : Hp) : Prop := ∀ a o, H a = some o → H' a = some o
theorem Ex.refl (H : Hp) : Ex H H := fun _ _ h => h
theorem Ex.trans {H H1 H2 : Hp} (a : Ex H H1) (b : Ex H1 H2) : Ex H H2 := fun x o h => b x o (a x o h)
theorem Ex.new {H : Hp} {p : Addr} {o : HO} (h : H p = none) : Ex H (upd H p o) := fun a u e => by
  rw [upd_ne (ne_of_none e h)]
  exact e
theorem Ex.free {H H' : Hp} {p : Addr} (e : Ex H H') (h : H' p = none) : H p = none := by
  cases h1 : H p with
  | none => rfl
  | some o =>
    rw [e p o h1] at h
    cases h
/-- all but what stands at l is kept -/
def But (l : Addr) (H H' : Hp) : Prop := ∀ a o, a ≠ l → H a = some o → H' a = some o
theorem Ex.but {H H' : Hp} {l : Addr} (e : Ex H H') : But l H H' := fun a o _ h => e a o h
theorem But.refl (l : Addr) (H : Hp) : But l H H := fun _ _ _ h => h
theorem But.trans {l : Addr} {H H1 H2 : Hp} (a : But l H H1) (b : But l H1 H2) : But l H H2 := fun x o n h => b x o n (a x o n h)
theorem But.upd {l : Addr} {H : Hp} {o : HO} : But l H (upd H l o) := fun a u n e => by
  rw [upd_ne n]
  exact e
theorem But.free {l p : Addr} {H H' : Hp} {o : HO} (b : But l H H') (hl : H' l = some o) (h : H' p = none) : H p = none := by
  cases h1 : H p with
  | none => rfl
  | some u =>
    by_cases e : p = l
    · subst e; rw [hl] at h; cases h
    · rw [b p u e h1] at h; cases h
/-- l was new: the elder heap is kept as a whole -/
theorem Ex.mut {H H1 H2 : Hp} {l : Addr} (e : Ex H H1) (b : But l H1 H2) (n : H l = none) : Ex H H2 := fun a o h => b a o (ne_of_none h n) (e a o h)
theorem lkE {H H' : Hp} {a : Addr} {o : HO} (e : Ex H H') (h : H a = some o) : H' a = some o := e a o h
theorem lkB {H H' : Hp} {l a : Addr} {o : HO} (b : But l H H') (n : a ≠ l) (h : H a = some o) : H' a = some o := b a o n h
/-- tuples stay -/
def Tp (H H' : Hp) : Prop := ∀ a xs, H a = some (.tup xs) → H' a = some (.tup xs)
theorem Tp.refl (H : Hp) : Tp H H := fun _ _ h => h
theorem Tp.trans {H H1 H2 : Hp} (a : Tp H H1) (b : Tp H1 H2) : Tp H H2 := fun x o h => b x o (a x o h)
theorem Ex.tp {H H' : Hp} (e : Ex H H') : Tp H H' := fun a xs h => e a _ h
theorem But.tpL {H H' : Hp} {l : Addr} {xs : List V} (b : But l H H') (h : H l = some (.lst xs)) : Tp H H' := fun a ys q => b a _ (by
  intro e; subst e; rw [h] at q; cases q) q
theorem But.tpI {H H' : Hp} {l C dx : Addr} {fs : List (Str × V)} (b : But l H H') (h : H l = some (.ins C dx fs)) : Tp H H' := fun a ys q => b a _ (by
  intro e; subst e; rw [h] at q; cases q) q

/-- a new object: the heap gets a name -/
theorem al {H : Hp} {o : HO} {R : Addr → Hp → Prop} (k : ∀ p H', H p = none → Ex H H' → H' p = some o → R p H') : ∀ p, H p = none → R p (upd H p o) := fun p hp => k p _ hp (Ex.new hp) upd_same
/-- an object changed -/
theorem mu {H : Hp} {l : Addr} {o : HO} {R : Hp → Prop} (k : ∀ H', But l H H' → H' l = some o → R H') : R (upd H l o) := k _ But.upd upd_same

theorem szO {n : Nat} (h : n ≤ 16000000 := by decide) : n ≤ sizeLine := Nat.le_trans h (by decide)
theorem szL {n : Nat} (h : n < 16000000 := by decide) : n < sizeLine := Nat.lt_of_lt_of_le h (by decide)

/-! ### readings, step by step -/
section
variable {K : PySem.W.Frag} {σ : L2.St} {H : Hp} {Q : VK} {QB : Bool → Hp → Prop} {QL : List V → Hp → Prop} {QS : L2.St → Hp → Prop} {nx bk ct : L2.St → Hp → Prop} {rt : VK} {ta tb te tc : TE} {t u c : TT} {x y z v : V} {r : R2} {sa sb : TS} {g : TG} {tr tl : TA}
theorem r_var {i : Nat} (h : σ[i]? = some (some v)) (q : Q v H) : tVar i σ H Q := ⟨v, h, q⟩
theorem r_c (q : Q v H) : tC v σ H Q := q
theorem r_op (q : ta σ H fun x H1 => tb σ H1 fun y H2 => r x y H2 Q) : tOp r ta tb σ H Q := q
theorem r_un {r : V → Hp → VK → Prop} (q : ta σ H fun x H1 => r x H1 Q) : tUn r ta σ H Q := q
theorem r_I0 {g : Int → Int → V} {i j : Int} (q : Q (g i j) H) : rI0 g (.int i) (.int j) H Q := ⟨i, j, rfl, rfl, q⟩
theorem r_I {C : Int → Int → Prop} {g : Int → Int → V} {i j : Int} (hc : C i j) (q : Q (g i j) H) : rI C g (.int i) (.int j) H Q := ⟨i, j, rfl, rfl, hc, q⟩
theorem r_U {g : Int → V} {i : Int} (q : Q (g i) H) : rU g (.int i) H Q := ⟨i, rfl, q⟩
theorem r_eqI {i j : Int} (q : Q (.bl (decide (i = j))) H) : rEq (.int i) (.int j) H Q := ⟨rfl, by simpa using q⟩
theorem r_neI {i j : Int} (q : Q (.bl (!decide (i = j))) H) : rNe (.int i) (.int j) H Q := ⟨rfl, by simpa using q⟩
theorem r_eq (h : scal x y = true) (q : Q (.bl (decide (x = y))) H) : rEq x y H Q := ⟨h, q⟩
theorem r_ne (h : scal x y = true) (q : Q (.bl (!decide (x = y))) H) : rNe x y H Q := ⟨h, q⟩
theorem r_test (q : te σ H fun x H' => ∃ k, x = .bl k ∧ QB k H') : tTest te σ H QB := q
theorem r_tB (q : te σ H fun x H' => ∃ k, x = .bl k ∧ QB k H') : tB te σ H QB := q
theorem r_bl {b : Bool} (q : QB b H) : ∃ k, V.bl b = .bl k ∧ QB k H := ⟨b, rfl, q⟩
theorem r_and (q : t σ H fun c H1 => if c = true then u σ H1 QB else QB false H1) : tAnd t u σ H QB := q
theorem r_or (q : t σ H fun c H1 => if c = true then QB true H1 else u σ H1 QB) : tOr t u σ H QB := q
theorem r_not (q : t σ H fun c H1 => QB (!c) H1) : tNot t σ H QB := q
theorem r_andV (q : ta σ H fun x H1 => ∃ c, x = .bl c ∧ if c = true then tb σ H1 Q else Q (.bl false) H1) : tAndV ta tb σ H Q := q
theorem r_orV (q : ta σ H fun x H1 => ∃ c, x = .bl c ∧ if c = true then Q (.bl true) H1 else tb σ H1 Q) : tOrV ta tb σ H Q := q
theorem r_notV (q : ta σ H fun x H1 => ∃ c, x = .bl c ∧ Q (.bl (!c)) H1) : tNotV ta σ H Q := q
theorem r_bl1 {b : Bool} {A : Bool → Prop} (q : A b) : ∃ c, V.bl b = .bl c ∧ A c := ⟨b, rfl, q⟩
theorem r_isN (q : ta σ H fun x H1 => Q (.bl (decide (x = .non))) H1) : tIsN ta σ H Q := q
theorem r_notN (q : ta σ H fun x H1 => Q (.bl (!decide (x = .non))) H1) : tNotN ta σ H Q := q
theorem r_if (q : t σ H fun c H1 => if c = true then ta σ H1 Q else tb σ H1 Q) : tIf t ta tb σ H Q := q
theorem r_tup (q : tl σ H fun xs H1 => xs.length ≤ sizeLine ∧ ∀ p, H1 p = none → Q (.ref p) (upd H1 p (.tup xs))) : tTup tl σ H Q := q
theorem r_lst (q : tl σ H fun xs H1 => xs.length ≤ sizeLine ∧ ∀ p, H1 p = none → Q (.ref p) (upd H1 p (.lst xs))) : tLst tl σ H Q := q
theorem r_cons (q : ta σ H fun x H1 => tr σ H1 fun xs H2 => QL (x :: xs) H2) : tCons ta tr σ H QL := q
theorem r_nil (q : QL [] H) : tNil σ H QL := q
theorem r_CB {r : List V → Hp → VK → Prop} (q : tl σ H fun vs H1 => r vs H1 Q) : tCB r tl σ H Q := q
theorem r_call {sp : Sp} {dvs : List V} {E : XK} (q : tl σ H fun vs H1 => sp (vs ++ dvs) H1 Q E) : tCall sp dvs E tl σ H Q := q
/-! statements -/
theorem r_next (q : nx σ H) : tNext ⟨nx, rt, bk, ct⟩ σ H := q
theorem r_cont (q : ct σ H) : tCont ⟨nx, rt, bk, ct⟩ σ H := q
theorem r_break (q : bk σ H) : tBreak ⟨nx, rt, bk, ct⟩ σ H := q
theorem r_seq (q : sa ⟨sb ⟨nx, rt, bk, ct⟩, rt, bk, ct⟩ σ H) : tSeq sa sb ⟨nx, rt, bk, ct⟩ σ H := q
theorem r_asg (q : te σ H fun x H1 => g x σ H1 nx) : tAsg te g ⟨nx, rt, bk, ct⟩ σ H := q
theorem r_name {i : Nat} (q : QS (σ.set i (some v)) H) : gName i v σ H QS := q
theorem r_sub {ts : TSet} (q : ta σ H fun o H1 => tb σ H1 fun i H2 => ts o i v H2 fun H3 => QS σ H3) : gSub ta tb ts v σ H QS := q
theorem r_drop (q : te σ H fun _ H1 => nx σ H1) : tDrop te ⟨nx, rt, bk, ct⟩ σ H := q
theorem r_ret (q : te σ H rt) : tRet te ⟨nx, rt, bk, ct⟩ σ H := q
theorem r_retN (q : rt .non H) : tRetN ⟨nx, rt, bk, ct⟩ σ H := q
theorem r_ifS (q : t σ H fun b H1 => if b = true then sa ⟨nx, rt, bk, ct⟩ σ H1 else sb ⟨nx, rt, bk, ct⟩ σ H1) : tIfS t sa sb ⟨nx, rt, bk, ct⟩ σ H := q
theorem r_par {i j : Nat} (q : tl σ H fun vs H1 => ∃ v w, vs = [v, w] ∧ nx ((σ.set i (some v)).set j (some w)) H1) : tPar i j tl ⟨nx, rt, bk, ct⟩ σ H := q
/-! ends of tests -/
theorem if_b {b : Bool} {A B : Prop} (h1 : b = true → A) (h2 : b = false → B) : if b = true then A else B := by
  cases b with
  | true => exact h1 rfl
  | false => exact h2 rfl
theorem if_d {p : Prop} [Decidable p] {A B : Prop} (h1 : p → A) (h2 : ¬ p → B) : if decide p = true then A else B := by
  by_cases h : p
  · rw [decide_eq_true h]; exact h1 h
  · rw [decide_eq_false h]; exact h2 h
theorem if_dT {p : Prop} [Decidable p] {A B : Prop} (h : p) (q : A) : if decide p = true then A else B := if_d (fun _ => q) fun n => absurd h n
theorem if_dF {p : Prop} [Decidable p] {A B : Prop} (h : ¬ p) (q : B) : if decide p = true then A else B := if_d (fun y => absurd y h) fun _ => q
theorem if_nd {p : Prop} [Decidable p] {A B : Prop} (h1 : ¬ p → A) (h2 : p → B) : if (!decide p) = true then A else B := by
  by_cases h : p
  · rw [decide_eq_true h]; exact h2 h
  · rw [decide_eq_false h]; exact h1 h
theorem if_bT {b : Bool} {A B : Prop} (h : b = true) (q : A) : if b = true then A else B := by
  subst h; exact q
theorem if_bF {b : Bool} {A B : Prop} (h : b = false) (q : B) : if b = true then A else B := by
  subst h; exact q
theorem if_T {A B : Prop} (q : A) : if true = true then A else B := q
theorem if_F {A B : Prop} (q : B) : if false = true then A else B := q
/-! built-ins -/
theorem r_len {n : Nat} (h : LenV K x H n) (q : Q (.int n) H) : (fun xs H Q => ∃ x n, xs = [x] ∧ LenV K x H n ∧ Q (.int n) H) [x] H Q := ⟨x, n, rfl, h, q⟩
end
@[reducible] def optI : Option Int → V
  | none => .non
  | some n => .int n
/-- ints and texts -/
inductive Worth : V → Prop where
  | int (i : Int) : Worth (.int i)
  | str (s : Str) : PyData.strOk s = true → Worth (.str s)
/-- a value: an int of at most sixty figures, a short text -/
inductive IsVal : V → Prop where
  | int {i : Int} : -(10 ^ 59) ≤ i → i ≤ 10 ^ 59 → IsVal (.int i)
  | str {s : Str} : s.length ≤ 100 → PyData.strOk s = true → IsVal (.str s)
theorem IsVal.worth {v : V} (h : IsVal v) : Worth v := by
  cases h with
  | int _ _ => exact .int _
  | str _ h => exact .str _ h
theorem strOk_of (s : String) : PyData.strOk (Str.ofString s) = true := by
  rw [Str.ofString_eq_toList]
  unfold PyData.strOk
  rw [List.all_toArray, List.all_eq_true]
  intro c hc
  obtain ⟨x, _, rfl⟩ := List.mem_map.mp hc
  have h := x.valid
  have : x.toNat < 0x110000 := by
    rcases h with h | ⟨_, h⟩
    · exact Nat.lt_trans h (by decide)
    · exact h
  simpa using this
theorem strOk_app {a b : Str} (ha : PyData.strOk a = true) (hb : PyData.strOk b = true) : PyData.strOk (a ++ b) = true := by
  have e : (a ++ b).cps = a.cps ++ b.cps := rfl
  unfold PyData.strOk at *
  rw [e, Array.all_append, ha, hb]
  rfl
/-- a value or None -/
inductive OptW : V → Prop where
  | non : OptW .non
  | w {x : V} : Worth x → OptW x
end Vf
namespace Vf
open PySem PySem.Spec PyProof.Rows L2
theorem pow1000 {i : Int} (h1 : -(2 ^ 1000) < i) (h2 : i < 2 ^ 1000) : i.natAbs < 2 ^ 1000 := by omega
theorem mulS {i j : Int} (h1 : -(2 ^ 1000) < i) (h2 : i < 2 ^ 1000) (h3 : -(2 ^ 1000) < j) (h4 : j < 2 ^ 1000) : CMulW i j := wide_mul (pow1000 h1 h2) (pow1000 h3 h4) (by decide) (by decide) (by decide)
theorem log2_lt {n k : Nat} (h : n < 2 ^ k) (hk : 0 < k) : n.log2 < k := by
  by_cases h0 : n = 0
  · subst h0; simpa using hk
  · exact (Nat.log2_lt h0).mpr h
theorem divS {i j : Int} (h1 : 0 < j) (h2 : j < 2 ^ 1000) : CDivW i j := ⟨h1, Nat.lt_trans (log2_lt (k := 1000) (by omega) (by decide)) (by decide)⟩
theorem powS {i j : Int} (h1 : 0 ≤ j) (h2 : j ≤ 1000000) (h3 : i.natAbs < 2 ^ 64) : CPow i j := ⟨h1, h2, h3⟩

/-! ### the bag of a law: three ints -/
def Bag (H : Hp) (b : Addr) (k : Nat) : Prop := ∃ a n c : Int, H b = some (.lst [.int a, .int n, .int c]) ∧ 0 ≤ a ∧ 0 ≤ n ∧ n < 12000000000000000000 ∧ 0 ≤ c ∧ c ≤ k
theorem Bag.ex {H H' : Hp} {b : Addr} {k : Nat} (h : Bag H b k) (e : Ex H H') : Bag H' b k := by
  obtain ⟨a, n, c, h1, h2⟩ := h
  exact ⟨a, n, c, e _ _ h1, h2⟩
theorem Bag.but {H H' : Hp} {b l : Addr} {k : Nat} (h : Bag H b k) (e : But l H H') (n : b ≠ l) : Bag H' b k := by
  obtain ⟨a, n', c, h1, h2⟩ := h
  exact ⟨a, n', c, e _ _ n h1, h2⟩
theorem Bag.mono {H : Hp} {b : Addr} {k j : Nat} (h : Bag H b k) (e : k ≤ j) : Bag H b j := by
  obtain ⟨a, n', c, h1, h2, h3, h4, h5, h6⟩ := h
  exact ⟨a, n', c, h1, h2, h3, h4, h5, by omega⟩
theorem Bag.lst {H : Hp} {b : Addr} {k : Nat} (h : Bag H b k) : ∃ xs, H b = some (.lst xs) := by
  obtain ⟨a, n', c, h1, _⟩ := h
  exact ⟨_, h1⟩
theorem Bag.tp {H H' : Hp} {b : Addr} {k : Nat} (h : Bag H b k) (e : But b H H') : Tp H H' := by
  obtain ⟨a, n', c, h1, _⟩ := h
  exact e.tpL h1

theorem ix_of {n j : Nat} {k : Int} (e : k = (j : Int)) (h : j < n) : ixN n k = some j := by
  subst e
  unfold ixN
  rw [if_pos (by omega), if_pos (by omega)]
  simp
/-! ### built-ins, their readings by name -/
def rAbs : List V → Hp → VK → Prop := fun xs H Q => ∃ i, xs = [.int i] ∧ Q (.int (if i < 0 then -i else i)) H
def rInt1 : List V → Hp → VK → Prop := fun xs H Q => (∃ i, xs = [.int i] ∧ Q (.int i) H) ∨ ∃ k, xs = [.bl k] ∧ Q (.int (if k then 1 else 0)) H
def rLen (K : PySem.W.Frag) : List V → Hp → VK → Prop := fun xs H Q => ∃ x n, xs = [x] ∧ LenV K x H n ∧ Q (.int n) H
def rMax2 : List V → Hp → VK → Prop := fun xs H Q => ∃ i j, xs = [.int i, .int j] ∧ Q (.int (if j > i then j else i)) H
def rMin2 : List V → Hp → VK → Prop := fun xs H Q => ∃ i j, xs = [.int i, .int j] ∧ Q (.int (if j < i then j else i)) H
def rStrI : List V → Hp → VK → Prop := fun xs H Q => ∃ i, xs = [.int i] ∧ i.natAbs.log2 < 1920 ∧ Q (.str (toString i)) H
def rListOf (K : PySem.W.Frag) : List V → Hp → VK → Prop := fun xs H Q => ∃ p ys, xs = [.ref p] ∧ (SqL K H p ys ∨ SqT K H p ys) ∧ ∀ l, H l = none → Q (.ref l) (upd H l (.lst ys))
/-- + of ints, texts, lists -/
def rAddX : R2 := fun x y H Q => (∃ i j, x = .int i ∧ y = .int j ∧ Q (.int (i + j)) H) ∨ (∃ i j, x = .str i ∧ y = .str j ∧ i.length + j.length ≤ sizeLine ∧ Q (.str (i ++ j)) H) ∨ rCat x y H Q
section
variable {X : Cx}
theorem c_abs : CallR X (.builtin "abs") rAbs := call_abs
theorem c_int1 : CallR X (.type "int") rInt1 := call_int1
theorem c_len : CallR X (.builtin "len") (rLen X.K) := call_len
theorem c_max2 (hc : X.calm = true) : CallR X (.builtin "max") rMax2 := call_max2 hc
theorem c_min2 (hc : X.calm = true) : CallR X (.builtin "min") rMin2 := call_min2 hc
theorem c_strI : CallR X (.type "str") rStrI := call_str_int
theorem c_listOf : CallR X (.type "list") (rListOf X.K) := call_list_of
theorem op_addX : OpR X (binaryOp .Add) rAddX := op_add.or (op_add_str.or op_cat)
end
section
variable {K : PySem.W.Frag} {σ : L2.St} {H : Hp} {Q : VK} {QH : Hp → Prop} {x y z v : V}
theorem r_powI {i j z : Int} (h : CPow i j) (e : i ^ j.toNat = z) (q : Q (.int z) H) : rI CPow (fun i j => .int (i ^ j.toNat)) (.int i) (.int j) H Q := ⟨i, j, rfl, rfl, h, by subst e; exact q⟩
theorem r_abs {i : Int} (q : Q (.int (if i < 0 then -i else i)) H) : rAbs [.int i] H Q := ⟨i, rfl, q⟩
theorem r_int1 {i : Int} (q : Q (.int i) H) : rInt1 [.int i] H Q := .inl ⟨i, rfl, q⟩
theorem r_int1b {b : Bool} (q : Q (.int (if b then 1 else 0)) H) : rInt1 [.bl b] H Q := .inr ⟨b, rfl, q⟩
theorem r_lenL {p : Addr} {xs : List V} (h : SqL K H p xs) (q : Q (.int xs.length) H) : rLen K [.ref p] H Q := ⟨_, _, rfl, .inl ⟨xs, h, rfl⟩, q⟩
theorem r_lenT {p : Addr} {xs : List V} (h : SqT K H p xs) (q : Q (.int xs.length) H) : rLen K [.ref p] H Q := ⟨_, _, rfl, .inr ⟨xs, h, rfl⟩, q⟩
theorem r_lenS {s : Str} (h : s.length ≤ sizeLine) (q : Q (.int s.length) H) : rLen K [.str s] H Q := ⟨_, _, rfl, ⟨h, rfl⟩, q⟩
theorem r_max2 {i j : Int} (q : Q (.int (if j > i then j else i)) H) : rMax2 [.int i, .int j] H Q := ⟨i, j, rfl, q⟩
theorem r_min2 {i j : Int} (q : Q (.int (if j < i then j else i)) H) : rMin2 [.int i, .int j] H Q := ⟨i, j, rfl, q⟩
theorem r_addI {i j : Int} (q : Q (.int (i + j)) H) : rAddX (.int i) (.int j) H Q := .inl ⟨i, j, rfl, rfl, q⟩
theorem r_addS {i j : Str} (h : i.length + j.length ≤ sizeLine) (q : Q (.str (i ++ j)) H) : rAddX (.str i) (.str j) H Q := .inr (.inl ⟨i, j, rfl, rfl, h, q⟩)
theorem r_addL {a b : Addr} {xs ys : List V} (ha : H a = some (.lst xs)) (hb : H b = some (.lst ys)) (hz : xs.length + ys.length ≤ sizeLine) (q : ∀ p H', H p = none → Ex H H' → H' p = some (.lst (xs ++ ys)) → Q (.ref p) H') : rAddX (.ref a) (.ref b) H Q :=
  .inr (.inr ⟨a, b, xs, ys, rfl, rfl, ha, hb, hz, al q⟩)
theorem r_ixL {p : Addr} {xs : List V} {i : Int} (h : SqL K H p xs) (ha : atI xs i = some v) (q : Q v H) : rIx K (.ref p) (.int i) H Q := .inl ⟨p, xs, i, v, rfl, rfl, h, ha, q⟩
theorem r_ixT {p : Addr} {xs : List V} {i : Int} (h : SqT K H p xs) (ha : atI xs i = some v) (q : Q v H) : rIx K (.ref p) (.int i) H Q := .inr (.inl ⟨p, xs, i, v, rfl, rfl, h, ha, q⟩)
theorem r_ixS {s : Str} {i : Int} {c : Nat} (h : s.length ≤ sizeLine) (ha : atI s.cps.toList i = some c) (q : Q (.str ⟨#[c]⟩) H) : rIx K (.str s) (.int i) H Q := .inr (.inr ⟨s, i, c, rfl, rfl, h, ha, q⟩)
theorem r_setL {p : Addr} {xs : List V} {k : Int} {j : Nat} (h : H p = some (.lst xs)) (hj : ixN xs.length k = some j) (q : ∀ H', But p H H' → H' p = some (.lst (xs.set j v)) → QH H') : rSetL (.ref p) (.int k) v H QH :=
  ⟨p, xs, k, j, rfl, rfl, h, hj, mu q⟩
theorem r_app {l : Addr} {xs : List V} (h : H l = some (.lst xs)) (hz : xs.length < sizeLine) (q : ∀ H', But l H H' → H' l = some (.lst (xs ++ [v])) → Q .non H') : rAppend (.ref l) [v] H Q :=
  ⟨l, xs, v, rfl, rfl, h, hz, mu q⟩
theorem r_alT {xs : List V} {B : Addr → Prop} (hz : xs.length ≤ sizeLine) (q : ∀ p, H p = none → ∀ H', H' = upd H p (.tup xs) → B p) : xs.length ≤ sizeLine ∧ ∀ p, H p = none → B p := ⟨hz, fun p hp => q p hp _ rfl⟩
theorem r_alL {xs : List V} {B : Addr → Prop} (hz : xs.length ≤ sizeLine) (q : ∀ p, H p = none → ∀ H', H' = upd H p (.lst xs) → B p) : xs.length ≤ sizeLine ∧ ∀ p, H p = none → B p := ⟨hz, fun p hp => q p hp _ rfl⟩
theorem r_al {o : HO} {B : Addr → Prop} (q : ∀ p, H p = none → ∀ H', H' = upd H p o → B p) : ∀ p, H p = none → B p := fun p hp => q p hp _ rfl
theorem ofE {H' : Hp} {p : Addr} {o : HO} (e : H' = upd H p o) (n : H p = none) : Ex H H' := by
  rw [e]; exact Ex.new n
theorem ofA {H' : Hp} {p : Addr} {o : HO} (e : H' = upd H p o) : H' p = some o := by
  rw [e]; exact upd_same
/-- a method of a built-in list -/
theorem r_BM {r : V → List V → Hp → VK → Prop} {p : Addr} {to : TE} {tl : TA} (q : to σ H fun x H1 => tyV K "list" x H1 ∧ tl σ H1 fun xs H2 => r x xs H2 Q) : tBM K "list" r to tl σ H Q := q
end

/-! ### loops -/
def ForW (J : It) (g : TG) (tb : TS) (nx : L2.St → Hp → Prop) (rt : VK) (σ : L2.St) (H : Hp) : Prop := ∃ W : Nat → Nat → L2.St → Hp → Prop, (∃ m, W 0 m σ H) ∧ ∀ i m σ H, W i m σ H →
  (J.stop i H ∧ nx σ H) ∨ (J.go i H ∧ ∃ N : L2.St → Hp → Prop, (∀ σ' H', N σ' H' → ∃ m', m' < m ∧ W (i + 1) m' σ' H') ∧ ∀ x H', J.yld i H x H' → g x σ H' fun σ2 H2 => tb ⟨N, rt, nx, N⟩ σ2 H2)
section
variable {K : PySem.W.Frag} {σ : L2.St} {H : Hp} {Q : VK} {nx bk ct : L2.St → Hp → Prop} {rt : VK} {g : TG} {tb : TS} {ta : TA} {tl : TE} {R : It → Hp → Prop} {wi : TI}
theorem r_for (q : wi σ H fun J H1 => ForW J g tb nx rt σ H1) : tFor wi g tb ⟨nx, rt, bk, ct⟩ σ H := q
theorem r_rng1 (q : ta σ H fun vs H1 => ∃ j : Int, vs = [.int j] ∧ -(2 ^ 62) ≤ j ∧ j < 2 ^ 62 ∧ R (Itr 0 j.toNat) H1) : iRng1 ta σ H R := q
theorem r_rng2 (q : ta σ H fun vs H1 => ∃ i j : Int, vs = [.int i, .int j] ∧ (-(2 ^ 62) ≤ i ∧ i < 2 ^ 62 ∧ -(2 ^ 62) ≤ j ∧ j < 2 ^ 62) ∧ R (Itr i (j - i).toNat) H1) : iRng2 ta σ H R := q
theorem r_rng1e {n : Int} {B : Int → Prop} (h1 : -(2 ^ 62) ≤ n) (h2 : n < 2 ^ 62) (q : B n) : ∃ j : Int, [V.int n] = [V.int j] ∧ -(2 ^ 62) ≤ j ∧ j < 2 ^ 62 ∧ B j := ⟨n, rfl, h1, h2, q⟩
theorem r_rng2e {n m : Int} {B : Int → Int → Prop} (h1 : -(2 ^ 62) ≤ n) (h2 : n < 2 ^ 62) (h3 : -(2 ^ 62) ≤ m) (h4 : m < 2 ^ 62) (q : B n m) : ∃ i j : Int, [V.int n, V.int m] = [V.int i, V.int j] ∧ (-(2 ^ 62) ≤ i ∧ i < 2 ^ 62 ∧ -(2 ^ 62) ≤ j ∧ j < 2 ^ 62) ∧ B i j := ⟨n, m, rfl, ⟨h1, h2, h3, h4⟩, q⟩
theorem r_il (q : tl σ H fun x H1 => ∃ a, x = .ref a ∧ (∃ xs, SqL K H1 a xs) ∧ R (Itl K a) H1) : iList K tl σ H R := q
theorem r_it (q : tl σ H fun x H1 => ∃ a, x = .ref a ∧ (∃ xs, SqT K H1 a xs) ∧ R (Itt K a) H1) : iTup K tl σ H R := q
theorem r_ile {p : Addr} {xs : List V} {B : Addr → Prop} (h : SqL K H p xs) (q : B p) : ∃ a, V.ref p = .ref a ∧ (∃ xs, SqL K H a xs) ∧ B a := ⟨p, rfl, ⟨xs, h⟩, q⟩
theorem r_ite {p : Addr} {xs : List V} {B : Addr → Prop} (h : SqT K H p xs) (q : B p) : ∃ a, V.ref p = .ref a ∧ (∃ xs, SqT K H a xs) ∧ B a := ⟨p, rfl, ⟨xs, h⟩, q⟩
theorem fo_range {lo : Int} {n : Nat} (Pv : Nat → L2.St → Hp → Prop) (h0 : Pv 0 σ H)
    (hs : ∀ i σ H, i < n → Pv i σ H → g (.int (lo + i)) σ H fun σ2 H2 => tb ⟨Pv (i + 1), rt, nx, Pv (i + 1)⟩ σ2 H2) (hd : ∀ σ H, Pv n σ H → nx σ H) : ForW (Itr lo n) g tb nx rt σ H :=
  for_range (D := ⟨nx, rt, nx, nx⟩) Pv h0 hs hd
theorem fo_list {a : Addr} {xs : List V} (Pv : Nat → L2.St → Hp → Prop) (h0 : Pv 0 σ H) (hl : ∀ i σ H, i ≤ xs.length → Pv i σ H → SqL K H a xs)
    (hs : ∀ i x σ H, xs[i]? = some x → Pv i σ H → g x σ H fun σ2 H2 => tb ⟨Pv (i + 1), rt, nx, Pv (i + 1)⟩ σ2 H2) (hd : ∀ σ H, Pv xs.length σ H → nx σ H) : ForW (Itl K a) g tb nx rt σ H :=
  for_list (D := ⟨nx, rt, nx, nx⟩) Pv h0 hl hs hd
theorem fo_tup {a : Addr} {xs : List V} (Pv : Nat → L2.St → Hp → Prop) (h0 : Pv 0 σ H) (hl : ∀ i σ H, i ≤ xs.length → Pv i σ H → SqT K H a xs)
    (hs : ∀ i x σ H, xs[i]? = some x → Pv i σ H → g x σ H fun σ2 H2 => tb ⟨Pv (i + 1), rt, nx, Pv (i + 1)⟩ σ2 H2) (hd : ∀ σ H, Pv xs.length σ H → nx σ H) : ForW (Itt K a) g tb nx rt σ H :=
  for_tup (D := ⟨nx, rt, nx, nx⟩) Pv h0 hl hs hd
end
end Vf
namespace Vf
open PySem PySem.Spec PyProof.Rows L2

/-! ### own operators -/
section
variable {X : Cx} {CX : CXT} {k : Nat} {C f : Addr} {fd : FuncData} {ps : List Str} {sp : Sp} {E : XK}
/-- x in o, by the class's own def -/
def rInOwn (C : Addr) (sp : Sp) (E : XK) : R2 := fun x y H Q => ∃ a dx fs, y = .ref a ∧ H a = some (.ins C dx fs) ∧ sp [.ref a, x] H (fun v H' => ∃ b, v = .bl b ∧ Q (.bl b) H') E
def rNotInOwn (C : Addr) (sp : Sp) (E : XK) : R2 := fun x y H Q => ∃ a dx fs, y = .ref a ∧ H a = some (.ins C dx fs) ∧ sp [.ref a, x] H (fun v H' => ∃ b, v = .bl b ∧ Q (.bl (!b)) H') E
theorem op_inOwn (m : Meth X.K C "__contains__" f) (F : FnOk X.prog X.w X.K X.mg X.base CX k f fd ps sp) (hr : Room k X.A) (hb : Binds X.K fd ps []) (hx : Passes CX X E) : OpR X (compareOp .In) (rInOwn C sp E) := by
  intro pins s σ H x y v u Q I rx ry h
  obtain ⟨a, dx, fs, rfl, ea, q⟩ := h
  obtain rfl : u = Value.ref a := ry
  obtain ⟨mA, O, _⟩ := ins_get I.hok ea
  obtain ⟨od, J, _⟩ := O.look
  obtain ⟨mm, fr⟩ := I.fr
  refine PySem.W.in_K fr I.mod.kin J m.at_ m.fn ?_
  refine thn (run_fn (dvs := []) (us := [.ref a, v]) (vs := [.ref a, x]) F hr hb .nil hx I (.cons rfl (.cons rx .nil)) q) fun r s' h2 => ?_
  obtain ⟨z, H', I', rz, b, e, q2⟩ := h2
  subst e
  cases rz
  exact wpAny_truthy_bool ⟨.bl b, H', I', rfl, q2⟩
theorem op_notInOwn (m : Meth X.K C "__contains__" f) (F : FnOk X.prog X.w X.K X.mg X.base CX k f fd ps sp) (hr : Room k X.A) (hb : Binds X.K fd ps []) (hx : Passes CX X E) : OpR X (compareOp .NotIn) (rNotInOwn C sp E) := by
  intro pins s σ H x y v u Q I rx ry h
  obtain ⟨a, dx, fs, rfl, ea, q⟩ := h
  obtain rfl : u = Value.ref a := ry
  obtain ⟨mA, O, _⟩ := ins_get I.hok ea
  obtain ⟨od, J, _⟩ := O.look
  obtain ⟨mm, fr⟩ := I.fr
  refine PySem.W.notIn_K fr I.mod.kin J m.at_ m.fn ?_
  refine thn (run_fn (dvs := []) (us := [.ref a, v]) (vs := [.ref a, x]) F hr hb .nil hx I (.cons rfl (.cons rx .nil)) q) fun r s' h2 => ?_
  obtain ⟨z, H', I', rz, b, e, q2⟩ := h2
  subst e
  cases rz
  exact wpAny_truthy_bool ⟨.bl (!b), H', I', rfl, q2⟩
end
section
variable {K : PySem.W.Frag} {σ : L2.St} {H : Hp} {Q : VK} {C a dx : Addr} {fs : List (Str × V)} {sp : Sp} {E : XK} {x v : V} {u : Value} {f : Str} {te ta tv : TE} {nx bk ct : L2.St → Hp → Prop} {rt : VK} {tl : TA}
theorem r_inOwn (h : H a = some (.ins C dx fs)) (q : sp [.ref a, x] H (fun v H' => ∃ b, v = .bl b ∧ Q (.bl b) H') E) : rInOwn C sp E x (.ref a) H Q := ⟨a, dx, fs, rfl, h, q⟩
theorem r_notInOwn (h : H a = some (.ins C dx fs)) (q : sp [.ref a, x] H (fun v H' => ∃ b, v = .bl b ∧ Q (.bl (!b)) H') E) : rNotInOwn C sp E x (.ref a) H Q := ⟨a, dx, fs, rfl, h, q⟩
/-! ### attributes of written names -/
theorem lookup_hd {α : Type} {f : Str} {v : α} {r : List (Str × α)} : List.lookup f ((f, v) :: r) = some v := by simp [List.lookup]
theorem lookup_tl {α : Type} {f g : Str} {v : α} {r : List (Str × α)} (h : ¬ f = g) : List.lookup f ((g, v) :: r) = List.lookup f r := by
  have e : (f == g) = false := by simpa using h
  simp [List.lookup, e]
theorem lookup_none {α : Type} {f : Str} : List.lookup f ([] : List (Str × α)) = none := rfl
theorem putF_nil {f : Str} {v : V} : putF f v [] = [(f, v)] := rfl
theorem putF_hd {f : Str} {v x : V} {r : List (Str × V)} : putF f v ((f, x) :: r) = (f, v) :: r := if_pos rfl
theorem putF_tl {f g : Str} {v x : V} {r r' : List (Str × V)} (h : ¬ g = f) (e : putF f v r = r') : putF f v ((g, x) :: r) = (g, x) :: r' := by
  subst e
  exact if_neg h
/-! ### instances, step by step: what is asked at each, by a name -/
def GetF (K : PySem.W.Frag) (f : Str) (Q : VK) (x : V) (H : Hp) : Prop := ∃ a C dx fs v, x = .ref a ∧ H a = some (.ins C dx fs) ∧ Cls K C ∧ NoAttr K C f ∧ fs.lookup f = some v ∧ Q v H
def GetC (K : PySem.W.Frag) (f : Str) (Q : VK) (x : V) (H : Hp) : Prop := ∃ C mc v u, x = .ref C ∧ ClX.CRead K C mc ∧ ClX.CVal K C mc f v u ∧ Q v H
def GetP (C : Addr) (sp : Sp) (dvs : List V) (E : XK) (Q : VK) (x : V) (H : Hp) : Prop := ∃ a dx fs, x = .ref a ∧ H a = some (.ins C dx fs) ∧ sp (.ref a :: dvs) H Q E
def SetF (K : PySem.W.Frag) (f : Str) (nx : L2.St → Hp → Prop) (σ : L2.St) (y x : V) (H : Hp) : Prop := ∃ a C dx fs, x = .ref a ∧ H a = some (.ins C dx fs) ∧ Cls K C ∧ NoAttr K C f ∧ fs.length < 1000 ∧ nx σ (upd H a (.ins C dx (putF f y fs)))
def MethW (C : Addr) (m : Str) (sp : Sp) (dvs : List V) (E : XK) (tl : TA) (σ : L2.St) (Q : VK) (x : V) (H : Hp) : Prop := ∃ a dx fs, x = .ref a ∧ H a = some (.ins C dx fs) ∧ fs.lookup m = none ∧ tl σ H fun vs H2 => sp (x :: (vs ++ dvs)) H2 Q E
theorem r_fld (q : te σ H fun x H1 => GetF K f Q x H1) : tFld K te f σ H Q := q
theorem r_getF (h : H a = some (.ins C dx fs)) (c : Cls K C) (n : NoAttr K C f) (l : fs.lookup f = some v) (q : Q v H) : GetF K f Q (.ref a) H := ⟨a, C, dx, fs, v, rfl, h, c, n, l, q⟩
theorem r_cval (q : te σ H fun x H1 => GetC K f Q x H1) : ClX.tCVal K te f σ H Q := q
theorem r_getC {mc : Value} (r : ClX.CRead K C mc) (c : ClX.CVal K C mc f v u) (q : Q v H) : GetC K f Q (.ref C) H := ⟨C, mc, v, u, rfl, r, c, q⟩
theorem r_prop {dvs : List V} (q : te σ H fun x H1 => GetP C sp dvs E Q x H1) : tProp C sp dvs E te σ H Q := q
theorem r_getP {dvs : List V} (h : H a = some (.ins C dx fs)) (q : sp (.ref a :: dvs) H Q E) : GetP C sp dvs E Q (.ref a) H := ⟨a, dx, fs, rfl, h, q⟩
theorem r_sfld (q : tv σ H fun y H1 => ta σ H1 fun x H2 => SetF K f nx σ y x H2) : sFld K ta tv f ⟨nx, rt, bk, ct⟩ σ H := q
theorem r_setF {y : V} {fs' : List (Str × V)} (h : H a = some (.ins C dx fs)) (c : Cls K C) (n : NoAttr K C f) (e : putF f y fs = fs') (hz : fs.length < 1000) (q : ∀ H', But a H H' → H' a = some (.ins C dx fs') → nx σ H') : SetF K f nx σ y (.ref a) H := by
  subst e
  exact ⟨a, C, dx, fs, rfl, h, c, n, hz, mu q⟩
theorem r_meth {m : Str} {dvs : List V} (q : ta σ H fun x H1 => MethW C m sp dvs E tl σ Q x H1) : tMeth C m sp dvs E ta tl σ H Q := q
theorem r_methW {m : Str} {dvs : List V} (h : H a = some (.ins C dx fs)) (l : fs.lookup m = none) (q : tl σ H fun vs H2 => sp (.ref a :: (vs ++ dvs)) H2 Q E) : MethW C m sp dvs E tl σ Q (.ref a) H := ⟨a, dx, fs, rfl, h, l, q⟩
theorem r_make {dvs : List V} (q : tl σ H fun vs H1 => ∀ x dx, H1 x = none → H1 dx = none → dx ≠ x → sp (.ref x :: (vs ++ dvs)) (upd (upd H1 dx (.own x)) x (.ins C dx [])) (fun v H2 => v = .non ∧ Q (.ref x) H2) E) : tMake C sp dvs E tl σ H Q := q
end
/-- a new instance, laid over a heap: all that stood there stays -/
theorem made_ex {H H' : Hp} {x dx C : Addr} (nx : H x = none) (nd : H dx = none) (b : But x (upd (upd H dx (.own x)) x (.ins C dx [])) H') : Ex H H' := fun c o e =>
  b c o (ne_of_none e nx) (by rw [upd_ne (ne_of_none e nx), upd_ne (ne_of_none e nd)]; exact e)
end Vf
set_option maxHeartbeats 2000000
/-! isinstance of a caught error that has fields -/
namespace Vf
open PySem PySem.Spec PyProof.Rows PySem.W
section
variable {prog : Program} {w : World} {A : Around} {E : Value → Shared → Prop} {s : Shared} {K : Frag} {x D : Addr} {ox : Obj} {od : Option Obj}
theorem cls_of_exc {Q : Option Value → Shared → Prop} (T : L2.ExcC K D) (X : K.In s.heap) (I : InstAt s.heap x ox D od) (h : Q (some (.ref D)) { s with toks := s.toks + 1 }) :
    wpAny (model prog w) A (getAttr? (.ref x) "__class__") Q E s := by
  have isC : (clsIn K D).isSome = true := let ⟨cd, hc, _⟩ := any_some T.hd; by rw [hc] <;> rfl
  have find : findObj K D od "__class__" = some (.bind (.builtin "getset_descriptor.__get__") (.builtin "object.__class__")) := by
    obtain ⟨cd, hc⟩ := Option.isSome_iff_exists.mp isC
    unfold findObj
    rw [hc, Option.bind_some, T.ha, Option.bind_some]
    simp [T.hn, T.ht]
  obtain ⟨hh, gg, dd, tt, oo⟩ := s
  have ty := I.type (M := model prog w)
  have lga := looks_findIn (M := model prog w) X T.hg
  have lgk := looks_findIn (M := model prog w) X T.hk
  have lfi := looks_find (M := model prog w) X I find
  have isx : Looks (model prog w) hh (isInstance (.ref x) (.type "BaseException")) true := ty.andThen (looks_subIn X T.hs)
  have n0 : (false && onTheHeap (Value.builtin "BaseException.__getattribute__")) = false := rfl
  have n1 : (Value.builtin "BaseException.__getattribute__" == Value.builtin "object.__getattribute__") = false := by decide +kernel
  have n2 : (onTheHeap (Value.ref D) && Value.builtin "BaseException.__getattribute__" == Value.builtin "object.__getattribute__") = false := by rw [n1] <;> rfl
  unfold getAttr? getAttrBy? getAttrBy
  refine wpAny_bind (wpAny_mkText (wpAny_bind (wpAny_attempt (wpAny_holding (wpAny_bind (ty.at (wpAny_bind (lga.at ?_))))))))
  show wpAny _ _ (if (onTheHeap (Value.ref D) && Value.builtin "BaseException.__getattribute__" == Value.builtin "object.__getattribute__") = true then _ else _) _ _ _
  rw [n2, if_neg Bool.false_ne_true]
  unfold getAttrByItsOwn hookBefore
  refine wpAny_bind ?_
  rw [if_pos (show onTheHeap (Value.ref D) = true from rfl)]
  refine lgk.at (wpAny_bind (wpAny_attempt (wpAny_holding ?_)))
  unfold callGetattribute
  rw [n0, if_neg Bool.false_ne_true]
  unfold boundAndCalled
  rw [PySem.F.excAttr_ValueError.ga.bind (.ref x)]
  refine wpAny_bind (wpAny_pure ?_)
  show wpAny _ _ (call (.builtin "BaseException.__getattribute__") [.ref x, .str "__class__" tt]) _ _ _
  refine wpAny_call (codeAny_call_builtin PySem.F.excAttr_ValueError.ga.plain PySem.F.entry_bexc_ga ?_)
  refine @check_slot (model prog w) _ _ ⟨hh, gg, dd, tt + 1, oo⟩ "BaseException.__getattribute__" "BaseException" "__getattribute__" (.ref x) [.str "__class__" tt] [] _ (by decide +kernel) (by decide +kernel) isx (PySem.F.args_bexc_ga (.ref x) (.str "__class__" tt)) ?_
  unfold Builtin.«object.__getattribute__»
  refine wpAny_bind (wpAny_of_eq (a := ((Value.ref x : Value), [Value.str "__class__" tt])) (by first | rfl | (simp only [slotArgs]; rfl)) ?_)
  refine wpAny_bind (wpAny_pure (wpAny_bind (ty.at (wpAny_bind (lfi.at ?_)))))
  show wpAny _ _ (holding [Value.builtin "object.__class__"] (call (.builtin "getset_descriptor.__get__") [.builtin "object.__class__", .ref x, .ref D]) >>= ret) _ _ _
  refine wpAny_bind (wpAny_holding (wpAny_call (class_get (s := ⟨hh, gg, dd, tt + 1, oo⟩) (ox := ox) (od := od) X I T.hm ?_)))
  refine wpAny_pure ?_
  show wpAny _ _ (handedOut (.ref D)) _ _ _
  rw [handedOut_of (v := .ref D) rfl]
  first
    | exact wpAny_pure (wpAny_pure h)
    | exact wpAny_pure h
    | exact wpAny_pure (wpAny_bind (wpAny_pure (wpAny_pure h)))
theorem kitx_exc (T : L2.ExcC K D) : KitX K (.ref x) (.ref D) (fun h => InstAt h x ox D od) where
  ty := fun _ _ _ I => I.type
  it := fun _ _ X _ => by
    obtain ⟨cdD, hcD, _⟩ := any_some T.hd
    unfold clsIn at hcD
    split at hcD
    · rename_i c' d' cd' sl' ho
      intro A' Q' E' s' k q
      unfold isType loadHead
      exact wpAny_bind (wpAny_loadPart (k _ _ (X _ _ ho)) (wpAny_pure q))
    · cases hcD
  ne := fun h tp dd its n sl X htp => by
    obtain ⟨cdD, hcD, _⟩ := any_some T.hd
    refine Bool.eq_false_iff.mpr fun q => ?_
    obtain rfl : D = tp := Value.ref.inj (beq_iff_eq.mp q)
    unfold clsIn at hcD
    split at hcD
    · rename_i c' d' cd' sl' ho
      have z := (X _ _ ho).symm.trans htp
      cases z
    · cases hcD
  ca := fun X I k => cls_of_exc T X I k
end
end Vf
namespace Vf
open PySem PySem.Spec PyProof.Rows L2
/-- isinstance(e, c), e the caught exception at a, of the class D -/
def rIsD (K : PySem.W.Frag) (D a : Addr) (d : Option Addr) : List V → Hp → VK → Prop := fun xs H Q => ∃ (c : V) (cv : Value) (dd : Addr) (fs : List (Str × V)) (b : Bool), xs = [.ref a, c] ∧ d = some dd ∧ H dd = some (.xd fs) ∧ (∀ u, RelV c u → u = cv) ∧ PySem.W.kitOne K (.ref D) cv = some b ∧ Q (.bl b) H
theorem call_isD {X : Cx} {a D : Addr} {oe : Obj} {cls : Value} {d : Option Addr} {pn : List (Addr × Obj)} (T : ExcC X.K D) (hc : cls = .ref D) (hz : Zc cls d oe) (hf : ∃ vs, oe.data = .fields vs) : CallR (X.suite a ((a, oe) :: pn)) (.builtin "isinstance") (rIsD X.K D a d) := by
  subst hc
  intro pins s σ H xs us Q I r h
  obtain ⟨c, cv, dd, fs, b, rfl, rfl, hd, hcv, e, q⟩ := h
  cases r with
  | cons rx rr =>
    cases rr with
    | cons rt rr =>
      cases rr
      cases rx
      have ec := hcv _ rt
      subst ec
      obtain ⟨hget, _⟩ := I.pin (a, oe) (List.mem_append.mpr (.inl List.mem_cons_self))
      obtain ⟨vs, hv⟩ := hf
      have ob : ObjOk X.prog X.w H s.heap dd (.xd fs) := I.hok dd _ hd
      obtain ⟨mA, hns, _⟩ := ob
      obtain ⟨od, ho, _⟩ := lookIn_ns hns
      have J : PySem.W.InstAt s.heap a oe D (some od) := ⟨hget, hz.1, by unfold PySem.W.notCls; rw [hv] <;> rfl, by rw [hz.2]; exact ho⟩
      exact PySem.W.kia_one (kitx_exc T) I.kIn J e (fun z => nomatch z) fun tk => ⟨.bl b, H, I.kept (t' := tk) fun _ _ z => z, rfl, q⟩
/-- the same where the class is told by the reading (it must be D) -/
def rIsD' (K : PySem.W.Frag) (D a : Addr) (cls : Value) (d : Option Addr) : List V → Hp → VK → Prop := fun xs H Q => cls = .ref D ∧ rIsD K D a d xs H Q
theorem call_isD' {X : Cx} {a D : Addr} {oe : Obj} {cls : Value} {d : Option Addr} {pn : List (Addr × Obj)} (T : ExcC X.K D) (hz : Zc cls d oe) (hf : ∃ vs, oe.data = .fields vs) : CallR (X.suite a ((a, oe) :: pn)) (.builtin "isinstance") (rIsD' X.K D a cls d) := by
  intro pins s σ H xs us Q I r h
  obtain ⟨e, q⟩ := h
  exact call_isD T e hz hf pins s σ H xs us Q I r q
theorem r_isD {K : PySem.W.Frag} {D a dd : Addr} {cls : Value} {d : Option Addr} {c : V} {cv : Value} {fs : List (Str × V)} {b : Bool} {H : Hp} {Q : VK} (hc : cls = .ref D) (hd : d = some dd) (h : H dd = some (.xd fs)) (hu : ∀ u, RelV c u → u = cv)
    (e : PySem.W.kitOne K (.ref D) cv = some b) (q : Q (.bl b) H) : rIsD' K D a cls d [.ref a, c] H Q := ⟨hc, c, cv, dd, fs, b, rfl, hd, h, hu, e, q⟩
/-- a field of the caught error -/
theorem r_xfV {C a dd : Addr} {cls : Value} {d : Option Addr} {fs : List (Str × V)} {f : Str} {v : V} {H : Hp} {Q : V → Prop} (hc : cls = .ref C) (hd : d = some dd) (h : H dd = some (.xd fs)) (hl : fs.lookup f = some v) (q : Q v) :
    V.ref a = .ref a ∧ cls = .ref C ∧ ∃ (dd : Addr) (fs : List (Str × V)) (v : V), d = some dd ∧ H dd = some (.xd fs) ∧ fs.lookup f = some v ∧ Q v := ⟨rfl, hc, dd, fs, v, hd, h, hl, q⟩
/-! ### what a class of errors must have -/
structure ExcF (K : PySem.W.Frag) (C fI : Addr) : Prop where
  ox : OexC K C
  xf : XfC K C
  ic : ExcC K C
  ini : PySem.W.findIn K (.ref C) "__init__" = some (some (.ref fI))
  tI : PySem.W.typeIn K (.ref fI) = some (.type "function")
  te : PySem.W.exmOne K (.ref C) (.ref C) = some true
/-- a property with a setter -/
structure PropSet (K : PySem.W.Frag) (C : Addr) (f : Str) (p g : Addr) : Prop where
  at_ : PySem.W.findIn K (.ref C) f = some (some (.ref p))
  ty : PySem.W.typeIn K (.ref p) = some (.type "property")
  rec_ : ∃ a rest, PySem.W.recIn K p "property" = some (a :: .ref g :: rest)
  tak : PySem.W.takerIn K C f = some (some (.ref p))
/-! ### makes and methods that may raise, in a try -/
section
variable {X : Cx} {CX : CXT} {k : Nat} {f C : Addr} {fd : FuncData} {ps : List Str} {sp : Sp} {dvs : List V} {ds : List Value} {E : L2.St → XK} {x m : Str} {p pos apos : Pos} {e o : Expr} {es : List Expr} {ta : TE} {t : TA}
theorem run_fnA {pins : List (Addr × Obj)} {σ : L2.St} {H : Hp} {s : Shared} {Q : VK} {us : List Value} {vs : List V} (F : FnOk X.prog X.w X.K X.mg X.base CX k f fd ps sp) (hr : Room k X.A) (hb : Binds X.K fd ps ds) (hd : Vals dvs ds) (hx : PassesAt CX X σ (E σ))
    (I : Inv X pins σ H s) (r : Vals vs us) (h : sp (vs ++ dvs) H Q (E σ)) : wpAny (model X.prog X.w) X.A (call (.ref f) us) (EP X pins σ Q) X.xe s := by
  have r2 : Vals (vs ++ dvs) (us ++ ds) := r.append hd
  have hl : (us ++ ds).length = ps.length := r2.length.symm.trans (F.len _ _ _ _ h)
  refine wpAny_call (codeAny_mono (F.run X.A X.stack s H ⟨us, []⟩ (us ++ ds) (vs ++ dvs) Q (E σ) hr I.env0 (hb s us I.kIn hl) r2 h) fun res s' hq => ?_)
  cases res with
  | error er => exact hx pins H s er s' I hq
  | ok fl =>
    cases fl with
    | ret u => exact I.after hq
    | _ => exact False.elim hq
def tMakeS (C : Addr) (sp : Sp) (dvs : List V) (E : L2.St → XK) (t : TA) : TE := fun σ H Q => t σ H fun vs H1 => ∀ x dx, H1 x = none → H1 dx = none → dx ≠ x →
  sp (.ref x :: (vs ++ dvs)) (upd (upd H1 dx (.own x)) x (.ins C dx [])) (fun v H2 => v = .non ∧ Q (.ref x) H2) (E σ)
theorem run_makeS {pins : List (Addr × Obj)} {σ : L2.St} {H : Hp} {s : Shared} {Q : VK} {us : List Value} {vs : List V} (M : Mk X.K C f) (F : FnOk X.prog X.w X.K X.mg X.base CX k f fd ps sp) (hr : Room (k + 1) X.A) (hb : Binds X.K fd ps ds) (hd : Vals dvs ds)
    (hx : PassesAt CX X σ (E σ)) (I : Inv X pins σ H s) (r : Vals vs us)
    (h : ∀ x dx, H x = none → H dx = none → dx ≠ x → sp (.ref x :: (vs ++ dvs)) (upd (upd H dx (.own x)) x (.ins C dx [])) (fun v H2 => v = .non ∧ Q (.ref x) H2) (E σ)) :
    wpAny (model X.prog X.w) X.A (call (.ref C) us) (EP X pins σ Q) X.xe s := by
  have n1 := I.hok.fresh (Nat.le_succ s.heap.objs.size)
  have n0 := I.hok.fresh (Nat.le_refl s.heap.objs.size)
  have hq := h (s.heap.objs.size + 1) s.heap.objs.size n1 n0 (Nat.ne_of_lt (Nat.lt_succ_self _))
  have I2 := Inv.made (C := C) I
  have r2 : Vals (V.ref (s.heap.objs.size + 1) :: (vs ++ dvs)) (Value.ref (s.heap.objs.size + 1) :: (us ++ ds)) := .cons rfl (r.append hd)
  have hl : (Value.ref (s.heap.objs.size + 1) :: us ++ ds).length = ps.length := (r2.length.symm.trans (F.len _ _ _ _ hq))
  have bnd := hb _ (Value.ref (s.heap.objs.size + 1) :: us) I2.kIn hl
  refine wpAny_call (make_map (f := f) I.kIn M.makes M.init (beq_iff_eq.mp M.fn) (codeAny_mono (F.run _ X.stack _ _ ⟨Value.ref (s.heap.objs.size + 1) :: us, []⟩ _ _ _ (E σ) (hr.make C us []) (I2.env0.make C us []) bnd r2 hq) fun res s' hq' => ?_))
  cases res with
  | error er => exact hx pins _ _ er s' I2 hq'
  | ok fl =>
    cases fl with
    | ret u =>
      obtain ⟨v, H', I3, rv, ev, q3⟩ := I2.after hq'
      subst ev
      exact ⟨rv, ⟨V.ref (s.heap.objs.size + 1), H', I3, rfl, q3⟩⟩
    | _ => exact False.elim hq'
theorem pe_makeS (M : Mk X.K C f) (F : FnOk X.prog X.w X.K X.mg X.base CX k f fd ps sp) (hr : Room (k + 1) X.A) (hg : Gl X x) (hm : X.mg x = some (.ref C)) (hb : Binds X.K fd ps ds) (hd : Vals dvs ds) (hx : ∀ σ, PassesAt CX X σ (E σ))
    (ha : PA X (e :: es) t) (hdb : (x == ("__debug__" : Str)) = false := by decide) (he : starEach (e :: es) X.env = (false, eval e X.env) :: starEach es X.env := by rfl) (hpl : (backTo pos (starEach es X.env)).any (·.1) = false := by rfl) :
    PE X (.Call (.Name x p) (e :: es) [] pos) (tMakeS C sp dvs E t) := by
  refine ⟨fun pins s σ H Q I h => wpAny_Call_Name_kw (ld_glob I hg hm ?_ hdb)⟩
  refine PySem.W.callWith_K (h₀ := X.base) I.ok.mod.kin M.kp (thn (ha.run pos pins s σ H _ I h) fun us s1 hh => ?_) he hpl
  obtain ⟨vs, H1, I1, r, q⟩ := hh
  exact ⟨I1.kIn, run_makeS M F hr hb hd (hx σ) I1 r q⟩
def tMethS (C : Addr) (m : Str) (sp : Sp) (dvs : List V) (E : L2.St → XK) (ta : TE) (t : TA) : TE := fun σ H Q => ta σ H fun x H1 => ∃ a dx fs, x = .ref a ∧ H1 a = some (.ins C dx fs) ∧ fs.lookup m = none ∧
  t σ H1 fun vs H2 => sp (x :: (vs ++ dvs)) H2 Q (E σ)
theorem pe_methE {pl : Sem Bool} (he : PE X o ta) (c : Cls X.K C) (hm : Meth X.K C m f) (F : FnOk X.prog X.w X.K X.mg X.base CX k f fd ps sp) (hr : Room k X.A) (hb : Binds X.K fd ps ds) (hd : Vals dvs ds) (hx : ∀ σ, PassesAt CX X σ (E σ)) (ha : PA X (e :: es) t)
    (hst : starEach (e :: es) X.env = (false, eval e X.env) :: starEach es X.env := by rfl) (hpl : (backTo pos (starEach es X.env)).any (·.1) = false := by rfl)
    (ht : eval (.Call (.Attribute o m apos) (e :: es) [] pos) X.env = (do
      let ov ← eval o X.env
      standAt apos.atName
      let (f, first) ← holding [ov] (getMethod ov m pl)
      callWith pos f first (backTo pos (starEach (e :: es) X.env)) (backToKw pos (keywordEach [] X.env))) := by rfl) :
    PE X (.Call (.Attribute o m apos) (e :: es) [] pos) (tMethS C m sp dvs E ta t) := by
  refine ⟨fun pins s σ H Q I h => PySem.W.methodCall_KW (pl := pl) (thn (he.run pins s σ H _ I h) fun u s1 hh => ?_) ht⟩
  obtain ⟨x, H1, I1, rx, a, dx, fs, rfl, ea, l, q⟩ := hh
  obtain rfl : u = Value.ref a := rx
  refine getmeth_ok I1 ea c hm l ?_
  refine PySem.W.callWith_K (first := [.ref a]) (h₀ := X.base) I.ok.mod.kin hm.kp (thn (ha.run pos pins s1 σ H1 _ I1 q) fun us s2 h2 => ?_) hst hpl
  obtain ⟨vs, H2, I2, r, q2⟩ := h2
  exact ⟨I2.kIn, run_fnA (us := .ref a :: us) (vs := .ref a :: vs) F hr hb hd (hx σ) I2 (.cons rfl r) q2⟩
end
section
variable {K : PySem.W.Frag} {σ : L2.St} {H : Hp} {Q : VK} {C : Addr} {sp : Sp} {dvs : List V} {E : L2.St → XK} {tl : TA} {te ta : TE} {m f : Str}
theorem r_makeS (q : tl σ H fun vs H1 => ∀ x dx, H1 x = none → H1 dx = none → dx ≠ x → sp (.ref x :: (vs ++ dvs)) (upd (upd H1 dx (.own x)) x (.ins C dx [])) (fun v H2 => v = .non ∧ Q (.ref x) H2) (E σ)) : tMakeS C sp dvs E tl σ H Q := q
def MethX (C : Addr) (m : Str) (sp : Sp) (dvs : List V) (E : L2.St → XK) (tl : TA) (σ : L2.St) (Q : VK) (x : V) (H : Hp) : Prop := ∃ a dx fs, x = .ref a ∧ H a = some (.ins C dx fs) ∧ fs.lookup m = none ∧ tl σ H fun vs H2 => sp (x :: (vs ++ dvs)) H2 Q (E σ)
theorem r_methS (q : ta σ H fun x H1 => MethX C m sp dvs E tl σ Q x H1) : tMethS C m sp dvs E ta tl σ H Q := q
theorem r_methX {a dx : Addr} {fs : List (Str × V)} (h : H a = some (.ins C dx fs)) (l : fs.lookup m = none) (q : tl σ H fun vs H2 => sp (.ref a :: (vs ++ dvs)) H2 Q (E σ)) : MethX C m sp dvs E tl σ Q (.ref a) H := ⟨a, dx, fs, rfl, h, l, q⟩
def OstW (K : PySem.W.Frag) (f : Str) (nx : L2.St → Hp → Prop) (σ : L2.St) (y x : V) (H2 : Hp) : Prop := ∃ a C : Addr, x = .ref a ∧ OexC K C ∧ PySem.W.findIn K (.ref C) f = some none ∧
  ((H2 a = some (exo a C none) ∧ ∀ dx, H2 dx = none → dx ≠ a → nx σ (upd (upd H2 dx (exd dx [(f, y)])) a (exo a C (some dx)))) ∨
    ∃ (dx : Addr) (fs : List (Str × V)), H2 a = some (exo a C (some dx)) ∧ H2 dx = some (exd dx fs) ∧ fs.length ≤ 900 ∧ nx σ (upd H2 dx (exd dx ((f, y) :: fs))))
theorem r_ost {nx bk ct : L2.St → Hp → Prop} {rt : VK} (q : te σ H fun y H1 => ta σ H1 fun x H2 => OstW K f nx σ y x H2) : tOst K f ta te ⟨nx, rt, bk, ct⟩ σ H := q
theorem r_callS (q : tl σ H fun vs H1 => sp vs H1 Q (E σ)) : tCallS sp E tl σ H Q := q
theorem r_xf {a : Addr} {cls : Value} {d : Option Addr} (q : te σ H fun x H1 => x = .ref a ∧ cls = .ref C ∧ ∃ (dd : Addr) (fs : List (Str × V)) (v : V), d = some dd ∧ H1 dd = some (.xd fs) ∧ fs.lookup f = some v ∧ Q v H1) : tXf a cls d C f te σ H Q := q
end
/-- the promise of an error's __init__ that stores its two arguments -/
def spInit2 (C : Addr) (f1 f2 : Str) : Sp := fun vs H Q _ => ∃ (a : Addr) (u v : V), vs = [.ref a, u, v] ∧ H a = some (exo a C none) ∧
  ∀ d H', H d = none → d ≠ a → H' a = some (exo a C (some d)) → H' d = some (exd d [(f2, v), (f1, u)]) → (∀ b o, H b = some o → b ≠ a → H' b = some o) → Q .non H'
def spInit1 (C : Addr) (f1 : Str) : Sp := fun vs H Q _ => ∃ (a : Addr) (u : V), vs = [.ref a, u] ∧ H a = some (exo a C none) ∧
  ∀ d H', H d = none → d ≠ a → H' a = some (exo a C (some d)) → H' d = some (exd d [(f1, u)]) → (∀ b o, H b = some o → b ≠ a → H' b = some o) → Q .non H'
end Vf
namespace Vf
open PySem PySem.Spec PyProof.Rows L2
/-! ### isinstance, all and any, comparisons of data -/
section
variable {K : PySem.W.Frag} {σ : L2.St} {H : Hp} {Q : VK} {x c : V} {t u : Value} {b : Bool}
theorem r_isi (k : ClsV c u) (ty : TyX K H x t) (e : PySem.W.kitOne K t u = some b) (q : Q (.bl b) H) : rIsi K [x, c] H Q := ⟨x, c, t, u, b, rfl, k, ty, e, q⟩
/-- what of a class isinstance asks of its instances -/
structure InsT (K : PySem.W.Frag) (C : Addr) : Prop where
  ha : PySem.W.findIn K (.ref C) "__class__" = some (some (.builtin "object.__class__"))
  hn : PySem.W.specialIn K (.builtin "object.__class__") "__get__" = some (some (.builtin "getset_descriptor.__get__"))
  ht : PySem.W.takesIn K (.builtin "object.__class__") = some true
  hm : PySem.W.mroIn K C (.type "object") = some true
theorem tyIns {a C dx : Addr} {fs : List (Str × V)} (cl : Cls K C) (T : InsT K C) (h : H a = some (.ins C dx fs)) : TyX K H (.ref a) (.ref C) := .base (.ins h cl T.ha T.hn T.ht T.hm)
theorem r_all {p : Addr} {bs : List Bool} (h : SqL K H p (bs.map V.bl)) (q : Q (.bl (bs.all id)) H) : rAll K [.ref p] H Q := ⟨p, bs, rfl, h, q⟩
theorem r_any {p : Addr} {bs : List Bool} (h : SqL K H p (bs.map V.bl)) (q : Q (.bl (bs.any id)) H) : rAny K [.ref p] H Q := ⟨p, bs, rfl, h, q⟩
theorem r_eqB {a b : Bool} (q : Q (.bl (a == b)) H) : rEq (.bl a) (.bl b) H Q := r_eq rfl (by rw [dec_bl]; exact q)
theorem r_eqS {a b : Str} (q : Q (.bl (decide (a = b))) H) : rEq (.str a) (.str b) H Q := r_eq rfl (by simpa using q)
theorem r_neS {a b : Str} (q : Q (.bl (!decide (a = b))) H) : rNe (.str a) (.str b) H Q := r_ne rfl (by simpa using q)
end
end Vf
namespace Vf
open PySem PySem.Spec PyProof.Rows L2
theorem ints_at {ns : List Int} {i : Nat} {x : V} (h : (ns.map V.int)[i]? = some x) : ∃ d, x = V.int d := by
  rw [List.getElem?_map] at h
  cases e : ns[i]? with
  | none => rw [e] at h; cases h
  | some d => rw [e] at h; exact ⟨d, (Option.some.inj h).symm⟩
/-! ### comprehensions -/
section
variable {K : PySem.W.Frag} {σ : L2.St} {H : Hp} {Q : VK} {g : TG} {tt : TT} {te : TE} {vs : List Nat} {wi : TI} {a : Addr} {xs : List V}
def LcW (J : It) (g : TG) (tt : TT) (te : TE) (vs : List Nat) (σ : L2.St) (Q : VK) (H1 : Hp) : Prop := ∀ D, H1 D = none → ∃ W : Nat → Nat → Hp → Prop, (∃ m, W 0 m (upd H1 D (.lst []))) ∧ ∀ i m H, W i m H →
  (J.stop i H ∧ Q (.ref D) H) ∨ (J.go i H ∧ ∃ Nx : Hp → Prop, (∀ H', Nx H' → ∃ m', m' < m ∧ W (i + 1) m' H') ∧ ∀ x H', J.yld i H x H' → g x (wipe σ vs) H' fun σ2 H2 => wipe σ2 vs = wipe σ vs ∧ tt σ2 H2 fun b H3 =>
    if b = true then te σ2 H3 fun y H4 => ∃ acc, H4 D = some (.lst acc) ∧ acc.length < sizeLine ∧ Nx (upd H4 D (.lst (acc ++ [y]))) else Nx H3)
theorem r_lc (q : wi σ H fun J H1 => LcW J g tt te vs σ Q H1) : tLc wi g tt te vs σ H Q := q
theorem r_yes {QB : Bool → Hp → Prop} (q : QB true H) : tYes σ H QB := q
/-- over a list; PA: what holds of the items made so far -/
theorem lcx (PA : Nat → List V → Hp → Prop) (hx : SqL K H a xs) (hz : xs.length < 10000000) (h0 : ∀ H', Ex H H' → PA 0 [] H') (mono : ∀ i acc H H', Tp H H' → PA i acc H → PA i acc H')
    (step : ∀ i x acc H' (Qk : VK) (Qn : Hp → Prop), xs[i]? = some x → Ex H H' → acc.length ≤ i → PA i acc H' → (∀ y H4, Ex H' H4 → PA (i + 1) (acc ++ [y]) H4 → Qk y H4) → (∀ H3, Ex H' H3 → PA (i + 1) acc H3 → Qn H3) →
      g x (wipe σ vs) H' fun σ2 H2 => wipe σ2 vs = wipe σ vs ∧ tt σ2 H2 fun b H3 => if b = true then te σ2 H3 Qk else Qn H3)
    (hd : ∀ D acc H', H D = none → Ex H H' → H' D = some (.lst acc) → acc.length ≤ xs.length → PA xs.length acc H' → Q (.ref D) H') : LcW (Itl K a) g tt te vs σ Q H := by
  intro D hD
  have seq : ∀ {H'}, Ex H H' → SqL K H' a xs := fun {H'} e => by
    rcases hx with (h | ⟨o, h⟩) | h
    · exact .inl (.inl (e _ _ h))
    · exact .inl (.inr ⟨o, e _ _ h⟩)
    · exact .inr h
  refine lc_list (K := K) (a := a) (xs := xs) (fun i H' => Ex H H' ∧ ∃ acc, H' D = some (.lst acc) ∧ acc.length ≤ i ∧ PA i acc H') ⟨Ex.new hD, [], upd_same, Nat.le_refl _, h0 _ (Ex.new hD)⟩ (fun i H' _ p => seq p.1) ?_ ?_
  · rintro i x H' hi ⟨e, acc, hD', hl, pa⟩
    have il : i < xs.length := (List.getElem?_eq_some_iff.mp hi).1
    refine step i x acc H' _ _ hi e hl pa (fun y H4 e4 p4 => ?_) (fun H3 e3 p3 => ?_)
    · refine ⟨acc, e4 _ _ hD', szL (by omega), fun b o q => ?_, acc ++ [y], upd_same, by simp; omega, mono _ _ _ _ ?_ p4⟩
      · rw [upd_ne (ne_of_none q hD)]
        exact e4 _ _ (e _ _ q)
      · exact (But.upd (o := .lst (acc ++ [y]))).tpL (e4 _ _ hD')
    · exact ⟨e.trans e3, acc, e3 _ _ hD', by omega, p3⟩
  · rintro H' ⟨e, acc, hD', hl, pa⟩
    exact hd D acc H' hD e hD' hl pa
end

section
variable {σ : L2.St} {H : Hp} {nx bk ct : L2.St → Hp → Prop} {rt : VK} {tl : TA}
theorem r_par3 {i j l : Nat} (q : tl σ H fun vs H1 => ∃ u v w, vs = [u, v, w] ∧ nx (((σ.set i (some u)).set j (some v)).set l (some w)) H1) : tPar3 i j l tl ⟨nx, rt, bk, ct⟩ σ H := q
theorem r_ex2 {x y : V} {B : V → V → Prop} (q : B x y) : ∃ u v, [x, y] = [u, v] ∧ B u v := ⟨x, y, rfl, q⟩
theorem r_ex3 {x y z : V} {B : V → V → V → Prop} (q : B x y z) : ∃ u v w, [x, y, z] = [u, v, w] ∧ B u v w := ⟨x, y, z, rfl, q⟩
end
/-- the promise of a law's own def -/
def spLaw (K : PySem.W.Frag) : Sp := fun vs H Q _ => ∃ (a : Addr) (ns : List Int), vs = [.ref a] ∧ SqL K H a (ns.map V.int) ∧ ns.length ≤ 63 ∧ ∀ H', Q (.bl true) H'
theorem SqL.exx {K : PySem.W.Frag} {H H' : Hp} {a : Addr} {xs : List V} (h : SqL K H a xs) (e : Ex H H') : SqL K H' a xs := by
  rcases h with (h | ⟨o, h⟩) | h
  · exact .inl (.inl (e _ _ h))
  · exact .inl (.inr ⟨o, e _ _ h⟩)
  · exact .inr h
theorem pg_tupK {X : Cx} {pos : Pos} {es : List Expr} {k : Nat} {t : TGs} {n : Nat} {K0 : PySem.W.Frag} (hc : X.calm = true) (h : PGs X es t) (hK : X.K = K0 := by rfl)
    (hn : (assignEach es X.env).length = n := by rfl) (hst : (assignEach es X.env).findIdx? (·.1) = none := by rfl) : PG X (.Tuple es k pos) (gTup K0 n t) := hK ▸ pg_tup hc h hn hst
section
variable {σ : L2.St} {H : Hp} {QS : L2.St → Hp → Prop}
theorem r_gT {K : PySem.W.Frag} {n : Nat} {t : TGs} {a : Addr} {xs : List V} (h : SqT K H a xs) (hl : xs.length = n) (q : t xs σ H QS) : gTup K n t (.ref a) σ H QS := ⟨a, xs, rfl, h, hl, q⟩
theorem r_gCons {t : TG} {u : TGs} {v : V} {r : List V} (q : t v σ H fun σ' H' => u r σ' H' QS) : gCons t u (v :: r) σ H QS := ⟨v, r, rfl, q⟩
theorem r_gNil (q : QS σ H) : gNil [] σ H QS := ⟨rfl, q⟩
end
section
variable {K : PySem.W.Frag} {σ : L2.St} {H : Hp} {Q : VK}
theorem r_BM1 {r : V → List V → Hp → VK → Prop} {to : TE} {tl : TA} (q : to σ H fun x H1 => tyV K "list" x H1 ∧ tl σ H1 fun xs H2 => r x xs H2 Q) : tBM K "list" r to tl σ H Q := q
theorem r_tyL {P : Prop} {p : Addr} {xs : List V} (h : H p = some (.lst xs)) (q : P) : tyV K "list" (.ref p) H ∧ P := ⟨.inl ⟨rfl, xs, .of h⟩, q⟩
theorem r_neDs {x y : V} {d : PyData} (h1 : Dp K H x d) (h2 : Dp K H y d) (sh : SeqAt.shaped d = true) (e : PyData.eqv d d = true) (q : Q (.bl false) H) : rNeD K x y H Q := ⟨d, d, h1, h2, sh, sh, by rw [e]; exact q⟩
theorem refused_ok (f n : Int) : SeqAt.shaped (.tuple [.str "refused", .int f, .int n, .bool true]) = true ∧ PyData.eqv (.tuple [.str "refused", .int f, .int n, .bool true]) (.tuple [.str "refused", .int f, .int n, .bool true]) = true := by
  constructor
  · have h : PyData.strOk (Str.ofString "refused") = true := by decide +kernel
    simp [SeqAt.shaped, PyData.canLay0, PyData.canLayAll0, PyData.depth, PyData.depthAll, h]
  · simp [PyData.eqv, PyData.eqvAll]
theorem refused_dp {p : Addr} {f n : Int} (h : H p = some (.tup [.str "refused", .int f, .int n, .bl true])) : Dp K H (.ref p) (.tuple [.str "refused", .int f, .int n, .bool true]) :=
  .tup (.of h) (.cons (.str _) (.cons (.int _) (.cons (.int _) (.cons (.bl _) .nil))))
end
/-! isinstance of classes, from what the top tells -/
theorem kit_rt {K : PySem.W.Frag} {A : Addr} {T : String} {b : Bool} (hm : PySem.W.kitMeta T = true) (hs : PySem.W.subIn K (.ref A) (.type T) = some b) : PySem.W.kitOne K (.ref A) (.type T) = some b := by
  unfold PySem.W.kitOne
  rw [if_neg (by intro z; cases eq_of_beq z)]
  show (if PySem.W.kitMeta T = true then PySem.W.subIn K (.ref A) (.type T) else none) = some b
  rw [if_pos hm, hs]
theorem kit_rr {K : PySem.W.Frag} {A B : Addr} {b : Bool} (hc : PySem.W.isClsIn K B = true) (ht : PySem.W.typeIn K (.ref B) = some (.type "type")) (hs : PySem.W.subIn K (.ref A) (.ref B) = some b) (hB : PySem.W.subIn K (.ref B) (.ref B) = some true) : PySem.W.kitOne K (.ref A) (.ref B) = some b := by
  unfold PySem.W.kitOne
  by_cases e : ((Value.ref A : Value) == .ref B) = true
  · rw [if_pos e]
    cases eq_of_beq e
    exact hB.symm.trans hs
  · rw [if_neg e]
    have e2 : ((PySem.W.clsIn K B).isSome && PySem.W.typeIn K (.ref B) == some (.type "type")) = true := by
      have h2 : (PySem.W.clsIn K B).isSome = true := hc
      rw [h2, ht] <;> rfl
    show (if ((PySem.W.clsIn K B).isSome && PySem.W.typeIn K (.ref B) == some (.type "type")) = true then PySem.W.subIn K (.ref A) (.ref B) else none) = some b
    rw [if_pos e2, hs]
end Vf
set_option maxHeartbeats 2000000
/-! a store through a property's setter -/
namespace Vf
open PySem PySem.Spec PyProof.Rows L2
section
variable {X : Cx} {CX : CXT} {k : Nat} {C p g a dx : Addr} {fs : List (Str × V)} {f : Str} {fd : FuncData} {ps : List Str} {sp : Sp} {E : XK} {o value : Expr} {pos pos' : Pos} {ta tv : TE}
theorem setprop_ok {pins : List (Addr × Obj)} {σ : L2.St} {H : Hp} {s : Shared} {QV : VK} {y : V} {u : Value} {QU : Unit → Shared → Prop} (I : Inv X pins σ H s) (ea : H a = some (.ins C dx fs)) (c : Cls X.K C) (hp : PropSet X.K C f p g)
    (F : FnOk X.prog X.w X.K X.mg X.base CX k g fd ps sp) (hr : Room (k + 2) X.A) (hb : Binds X.K fd ps []) (hx : Passes CX X E) (ry : RelV y u) (h : sp [.ref a, y] H QV E)
    (hq : ∀ v H1 s1, Inv X pins σ H1 s1 → QV v H1 → QU () s1) : wpAny (model X.prog X.w) X.A (setAttr (.ref a) f u) QU X.xe s := by
  obtain ⟨mA, O, _, _, _, _⟩ := ins_get I.hok ea
  obtain ⟨od, J, _⟩ := O.look
  obtain ⟨e0, rest, hrec⟩ := hp.rec_
  have I1 := I.tok (s.toks + 1)
  have hl : ([Value.ref a, u] ++ []).length = ps.length := F.len _ _ _ _ h
  refine PySem.W.set_plain I.kIn J c.sa (PySem.W.osa_descr (s := { s with toks := s.toks + 1 }) PySem.W.KF.slot_pset I.kIn J c.po hp.tak hp.ty (PySem.W.prop_set (s := { s with toks := s.toks + 1 }) I.kIn hrec ?_))
  refine codeAny_mono (F.run X.A.in1.in1 X.stack { s with toks := s.toks + 1 } H ⟨[.ref a, u], []⟩ [.ref a, u] [.ref a, y] QV E (Room.in1 (Room.in1 hr)) I1.env0.in1.in1 (hb _ [.ref a, u] I1.kIn hl) (.cons rfl (.cons ry .nil)) h) fun r s' hq' => ?_
  cases r with
  | error er => exact hx pins σ H { s with toks := s.toks + 1 } er s' I1 hq'
  | ok fl =>
    cases fl with
    | ret w =>
      obtain ⟨v, H', I3, rv, q3⟩ := I1.after hq'
      exact hq v H' s' I3 q3
    | next => exact False.elim hq'
    | brk => exact False.elim hq'
    | cont => exact False.elim hq'
/-- o.f = value, f a property with a setter -/
def sPropSet (C : Addr) (sp : Sp) (E : XK) (ta tv : TE) : TS := fun D σ H => tv σ H fun y H1 => ta σ H1 fun x H2 => ∃ a dx fs, x = .ref a ∧ H2 a = some (.ins C dx fs) ∧ sp [.ref a, y] H2 (fun _ H3 => D.nx σ H3) E
theorem ps_prop (ha : PE X o ta) (hv : PE X value tv) (c : Cls X.K C) (hp : PropSet X.K C f p g) (F : FnOk X.prog X.w X.K X.mg X.base CX k g fd ps sp) (hr : Room (k + 2) X.A) (hb : Binds X.K fd ps []) (hx : Passes CX X E)
    (hs : swapsWith value (some (.Attribute o f pos')) pos.line X.env = pure false := by rfl) : PS X (.Assign [.Attribute o f pos'] value pos) (sPropSet C sp E ta tv) := by
  refine ⟨fun pins s σ H D I h => ?_⟩
  refine plainObj_wpAny_Assign_Attribute (thn (hv.run pins s σ H _ I h) fun u s1 ⟨y, H1, I1, ry, q⟩ => thn (ha.run pins s1 σ H1 _ I1 q) fun ov s2 ⟨x, H2, I2, rx, a, dx, fs, ex, ea, q2⟩ => ?_) hs
  subst ex
  obtain rfl : ov = Value.ref a := rx
  exact setprop_ok I2 ea c hp F hr hb hx ry q2 fun v H3 s3 I3 q3 => ⟨σ, H3, I3, q3⟩
def SetP (C : Addr) (sp : Sp) (E : XK) (nx : L2.St → Hp → Prop) (σ : L2.St) (y x : V) (H2 : Hp) : Prop := ∃ a dx fs, x = .ref a ∧ H2 a = some (.ins C dx fs) ∧ sp [.ref a, y] H2 (fun _ H3 => nx σ H3) E
theorem r_propSet {σ : L2.St} {H : Hp} {nx bk ct : L2.St → Hp → Prop} {rt : VK} {ta tv : TE} (q : tv σ H fun y H1 => ta σ H1 fun x H2 => SetP C sp E nx σ y x H2) : sPropSet C sp E ta tv ⟨nx, rt, bk, ct⟩ σ H := q
theorem r_setP {σ : L2.St} {H : Hp} {nx : L2.St → Hp → Prop} {y : V} (h : H a = some (.ins C dx fs)) (q : sp [.ref a, y] H (fun _ H3 => nx σ H3) E) : SetP C sp E nx σ y (.ref a) H := ⟨a, dx, fs, rfl, h, q⟩
end
end Vf
set_option maxHeartbeats 2000000
/-! operators of own classes -/
namespace Vf
open PySem PySem.Spec PyProof.Rows
theorem int_add_declines (b : Int) (u : Tok) (l : Addr) (c : Value) (dd : Option Addr) (sl : Array (Option Value)) :
    Meets (Builtin.«int.__add__» ⟨[.int b u, .ref l], []⟩) (fun _ R s => s.heap.get? l = some { cls := c, dict := dd, data := .plain, slots := sl } ∧ R (.ok (.ret .notImplemented)) s) :=
  .of_wp fun prog w A R s h => by obtain ⟨hp, g, d, tk, os⟩ := s; obtain ⟨hl, h⟩ := h; wp_walk using wpAny_loadPart' hl, wpAny_load hl; exact ⟨_, rfl, h⟩
section
open PySem.W
variable {prog : Program} {w : World} {A : Around} {E : Value → Shared → Prop} {s : Shared} {K : Frag} {x C L f r : Addr} {h₀ : Heap} {m : Str → Option Value} {ox : Obj} {od : Option Obj}
theorem refl_add {i : Int} {t : Tok} {Q : Value → Shared → Prop} {dd : Option Addr} {sl : Array (Option Value)} (Fm : Fr h₀ L s.heap m) (X₀ : K.In h₀) (I : InstAt s.heap x ox C od) (hx : s.heap.get? x = some { cls := .ref C, dict := dd, data := .plain, slots := sl }) (hc : selfFirst K C = true)
    (hs : findIn K (.ref C) "__add__" = some (some (.ref f))) (hr : findIn K (.ref C) "__radd__" = some (some (.ref r))) (hf : isFn K (.ref r) = true) (hsub : subIn K (.ref C) (.type "int") = some false)
    (h : wpAny (model prog w) A (call (.ref r) [.ref x, .int i t]) (PySem.W.CmpBack Q) E s) : wpAny (model prog w) A (binaryOp .Add (.int i t) (.ref x)) Q E s := by
  have X := X₀.keeps Fm.keep
  obtain ⟨cd, rest, hcd, hm⟩ := ksp_first hc
  have one := ksp_try X I hr hf h
  have L3 : fillsNumberSlot (.type "int") "add" = pure true := PySem.F.fills_int_add
  have none1 : ∀ (Q' : Option Value → Shared → Prop), Q' none s → wpAny (model prog w) A (tryMethod (.int i t) (dunder "add") (.ref x)) Q' E s := fun Q' hq =>
    wpAny_tryMethod_declines (typeIs_int s i t) PySem.F.slot_int_add (call_meets PySem.F.slot_int_add (typeIs_int s i t) PySem.F.entry_int_add (PySem.F.args_int_add_2 _ _) (int_add_declines i t x (.ref C) dd sl) ⟨hx, rfl, hq⟩)
  obtain ⟨hh, g, d, tt, os⟩ := s
  have L1 : Looks (model prog w) hh (typeOf (.int i t)) (.type "int") := Looks.of_pure rfl
  have L2 : Looks (model prog w) hh (typeOf (.ref x)) (.ref C) := I.type
  have L4 : Looks (model prog w) hh (fillsNumberSlot (.ref C) "add") true := fills_K X hcd hm hs
  have L3' : Looks (model prog w) hh (fillsNumberSlot (.type "int") "add") true := Looks.of_pure L3
  have L5 : Looks (model prog w) hh (isSubtype (.ref C) (.type "int")) false := looks_subIn X hsub
  have L7 : Looks (model prog w) hh (numberSlotInPython (.type "int") "add") false := Looks.of_pure rfl
  have hne : (Value.type "int" == Value.ref C) = false := Bool.eq_false_iff.mpr fun q => by cases beq_iff_eq.mp q
  show wpAny _ _ (binaryOp .Add (.int i t) (.ref x)) _ _ _
  have hi : Operator.Add.info = ("+", "add") := rfl
  simp only [binaryOp, hi]
  refine wpAny_holding (wpAny_bind ?_)
  unfold binaryOp1
  refine wpAny_bind (L1.at (wpAny_bind (L2.at (wpAny_bind (L3'.at ?_)))))
  simp only [hne, Bool.false_eq_true, if_false]
  ksp_lk
  refine none1 _ ?_
  ksp_lk
  refine wpAny_mono one (fun r s' hr' => ?_) fun _ _ e => e
  obtain ⟨v, rfl, hq⟩ := hr'
  ksp_lk
  exact hq
end
theorem int_add_in {K : PySem.W.Frag} : ∃ o, PySem.W.findIn K (.type "int") (PySem.dunder Operator.Add.info.2) = some o := by
  have h : (PySem.fastLookup "int" (PySem.dunder Operator.Add.info.2)).isSome = true := by decide +kernel
  exact Option.isSome_iff_exists.mp h
theorem int_radd_in {K : PySem.W.Frag} : ∃ o, PySem.W.findIn K (.type "int") (PySem.dunderR Operator.Add.info.2) = some o := by
  have h : (PySem.fastLookup "int" (PySem.dunderR Operator.Add.info.2)).isSome = true := by decide +kernel
  exact Option.isSome_iff_exists.mp h
theorem int_sub {K : PySem.W.Frag} {C : Addr} : PySem.W.subIn K (.type "int") (.ref C) = some false := by
  have h : PySem.fastBuiltinMro "int" = some [.type "int", .type "object"] := by decide +kernel
  show (PySem.fastBuiltinMro "int").map (·.contains (.ref C)) = some false
  rw [h]
  simp
end Vf
set_option maxHeartbeats 2000000
/-! operators of own classes, step by step -/
namespace Vf
open PySem PySem.Spec PyProof.Rows L2
theorem back_of {v : V} {u : Value} {s' : Shared} {Q : Value → Shared → Prop} (r : RelV v u) (q : Q u s') : PySem.W.CmpBack Q u s' := by
  cases v <;> first | (cases r; exact q) | (obtain ⟨t, rfl⟩ := r; exact q)
/-- what + asks of a class with __add__ and __radd__ -/
structure AddT (K : PySem.W.Frag) (C : Addr) : Prop where
  sf : PySem.W.selfFirst K C = true
  nC : PySem.W.subIn K (.ref C) (.type "int") = some false
section
variable {X : Cx} {CX : CXT} {k : Nat} {C f r : Addr} {fd : FuncData} {ps : List Str} {sp : Sp} {E : XK}
/-- own + int -/
def rAddOI (C : Addr) (sp : Sp) (E : XK) : R2 := fun x y H Q => ∃ a dx fs i, x = .ref a ∧ y = .int i ∧ H a = some (.ins C dx fs) ∧ sp [.ref a, .int i] H Q E
/-- int + own -/
def rAddIO (C : Addr) (sp : Sp) (E : XK) : R2 := fun x y H Q => ∃ a dx fs i, x = .int i ∧ y = .ref a ∧ H a = some (.ins C dx fs) ∧ sp [.ref a, .int i] H Q E
/-- own - own -/
def rSubOO (C : Addr) (sp : Sp) (E : XK) : R2 := fun x y H Q => ∃ a dx fs b dy gs, x = .ref a ∧ y = .ref b ∧ H a = some (.ins C dx fs) ∧ H b = some (.ins C dy gs) ∧ sp [.ref a, .ref b] H Q E
/-- own == own -/
def rEqOO (C : Addr) (sp : Sp) (E : XK) : R2 := fun x y H Q => ∃ a dx fs b dy gs, x = .ref a ∧ y = .ref b ∧ H a = some (.ins C dx fs) ∧ H b = some (.ins C dy gs) ∧ sp [.ref a, .ref b] H Q E
theorem op_addOI (t : AddT X.K C) (m : Meth X.K C "__add__" f) (mr : Meth X.K C "__radd__" r) (F : FnOk X.prog X.w X.K X.mg X.base CX k f fd ps sp) (hr : Room k X.A) (hb : Binds X.K fd ps []) (hx : Passes CX X E) : OpR X (binaryOp .Add) (rAddOI C sp E) := by
  intro pins s σ H x y v u Q I rx ry h
  obtain ⟨a, dx, fs, i, rfl, rfl, ea, q⟩ := h
  obtain rfl : v = Value.ref a := rx
  obtain ⟨tk, rfl⟩ := (show ∃ t, u = Value.int i t from ry)
  obtain ⟨mA, O, _⟩ := ins_get I.hok ea
  obtain ⟨od, J, _⟩ := O.look
  obtain ⟨mm, fr⟩ := I.fr
  obtain ⟨o1, h1⟩ := int_add_in (K := X.K)
  obtain ⟨o2, h2⟩ := int_radd_in (K := X.K)
  refine PySem.W.ksp_binT (op := .Add) (T := "int") fr I.mod.kin J rfl t.sf m.at_ m.fn mr.at_ (.inr ⟨_, rfl⟩) h1 h2 int_sub ?_
  refine thn (run_fn (dvs := []) (us := [.ref a, .int i tk]) (vs := [.ref a, .int i]) F hr hb .nil hx I (.cons rfl (.cons ⟨tk, rfl⟩ .nil)) q) fun w s' h3 => ?_
  obtain ⟨z, H', I', rz, q2⟩ := h3
  exact back_of rz ⟨z, H', I', rz, q2⟩
theorem op_addIO (t : AddT X.K C) (m : Meth X.K C "__add__" f) (mr : Meth X.K C "__radd__" r) (F : FnOk X.prog X.w X.K X.mg X.base CX k r fd ps sp) (hr : Room k X.A) (hb : Binds X.K fd ps []) (hx : Passes CX X E) : OpR X (binaryOp .Add) (rAddIO C sp E) := by
  intro pins s σ H x y v u Q I rx ry h
  obtain ⟨a, dx, fs, i, rfl, rfl, ea, q⟩ := h
  obtain rfl : u = Value.ref a := ry
  obtain ⟨tk, rfl⟩ := (show ∃ t, v = Value.int i t from rx)
  obtain ⟨mA, O, _⟩ := ins_get I.hok ea
  obtain ⟨od, J, _⟩ := O.look
  obtain ⟨mm, fr⟩ := I.fr
  refine refl_add fr I.mod.kin J O.obj t.sf m.at_ mr.at_ mr.fn t.nC ?_
  refine thn (run_fn (dvs := []) (us := [.ref a, .int i tk]) (vs := [.ref a, .int i]) F hr hb .nil hx I (.cons rfl (.cons ⟨tk, rfl⟩ .nil)) q) fun w s' h3 => ?_
  obtain ⟨z, H', I', rz, q2⟩ := h3
  exact back_of rz ⟨z, H', I', rz, q2⟩
theorem op_subOO (t : AddT X.K C) (m : Meth X.K C "__sub__" f) (F : FnOk X.prog X.w X.K X.mg X.base CX k f fd ps sp) (hr : Room k X.A) (hb : Binds X.K fd ps []) (hx : Passes CX X E) : OpR X (binaryOp .Sub) (rSubOO C sp E) := by
  intro pins s σ H x y v u Q I rx ry h
  obtain ⟨a, dx, fs, b, dy, gs, rfl, rfl, ea, eb, q⟩ := h
  obtain rfl : v = Value.ref a := rx
  obtain rfl : u = Value.ref b := ry
  obtain ⟨mA, O, _⟩ := ins_get I.hok ea
  obtain ⟨mB, O', _⟩ := ins_get I.hok eb
  obtain ⟨od, J, _⟩ := O.look
  obtain ⟨od', J', _⟩ := O'.look
  obtain ⟨mm, fr⟩ := I.fr
  refine PySem.W.binop_K (op := .Sub) fr I.mod.kin J J'.type t.sf m.at_ m.fn ?_
  refine thn (run_fn (dvs := []) (us := [.ref a, .ref b]) (vs := [.ref a, .ref b]) F hr hb .nil hx I (.cons rfl (.cons rfl .nil)) q) fun w s' h3 => ?_
  obtain ⟨z, H', I', rz, q2⟩ := h3
  exact back_of rz ⟨z, H', I', rz, q2⟩
theorem op_eqOO (m : Meth X.K C "__eq__" f) (F : FnOk X.prog X.w X.K X.mg X.base CX k f fd ps sp) (hr : Room k X.A) (hb : Binds X.K fd ps []) (hx : Passes CX X E) : OpR X (compareOp .Eq) (rEqOO C sp E) := by
  intro pins s σ H x y v u Q I rx ry h
  obtain ⟨a, dx, fs, b, dy, gs, rfl, rfl, ea, eb, q⟩ := h
  obtain rfl : v = Value.ref a := rx
  obtain rfl : u = Value.ref b := ry
  obtain ⟨mA, O, _⟩ := ins_get I.hok ea
  obtain ⟨mB, O', _⟩ := ins_get I.hok eb
  obtain ⟨od, J, _⟩ := O.look
  obtain ⟨od', J', _⟩ := O'.look
  obtain ⟨mm, fr⟩ := I.fr
  show wpAny _ _ (richCompare .Eq (.ref a) (.ref b)) _ _ _
  refine PySem.W.cmp_K (op := .Eq) (tb := .ref C) hr.units0 fr I.mod.kin J J'.type (by simp [PySem.W.notFirst]) m.at_ m.fn ?_
  refine thn (run_fn (dvs := []) (us := [.ref a, .ref b]) (vs := [.ref a, .ref b]) F hr hb .nil hx I (.cons rfl (.cons rfl .nil)) q) fun w s' h3 => ?_
  obtain ⟨z, H', I', rz, q2⟩ := h3
  exact back_of rz ⟨z, H', I', rz, q2⟩
end
section
variable {C a b dx dy : Addr} {fs gs : List (Str × V)} {i : Int} {sp : Sp} {E : XK} {H : Hp} {Q : VK}
theorem r_addOI (h : H a = some (.ins C dx fs)) (q : sp [.ref a, .int i] H Q E) : rAddOI C sp E (.ref a) (.int i) H Q := ⟨a, dx, fs, i, rfl, rfl, h, q⟩
theorem r_addIO (h : H a = some (.ins C dx fs)) (q : sp [.ref a, .int i] H Q E) : rAddIO C sp E (.int i) (.ref a) H Q := ⟨a, dx, fs, i, rfl, rfl, h, q⟩
theorem r_subOO (h : H a = some (.ins C dx fs)) (h2 : H b = some (.ins C dy gs)) (q : sp [.ref a, .ref b] H Q E) : rSubOO C sp E (.ref a) (.ref b) H Q := ⟨a, dx, fs, b, dy, gs, rfl, rfl, h, h2, q⟩
theorem r_eqOO (h : H a = some (.ins C dx fs)) (h2 : H b = some (.ins C dy gs)) (q : sp [.ref a, .ref b] H Q E) : rEqOO C sp E (.ref a) (.ref b) H Q := ⟨a, dx, fs, b, dy, gs, rfl, rfl, h, h2, q⟩
end
/-! unpacking a list; a comprehension that draws from the bag -/
theorem pg_unlK {X : Cx} {pos : Pos} {es : List Expr} {k : Nat} {t : TGs} {n : Nat} {K0 : PySem.W.Frag} (hc : X.calm = true) (h : PGs X es t) (hK : X.K = K0 := by rfl)
    (hn : (assignEach es X.env).length = n := by rfl) (hst : (assignEach es X.env).findIdx? (·.1) = none := by rfl) : PG X (.Tuple es k pos) (gUnl K0 n t) := hK ▸ pg_unl hc h hn hst
theorem r_gU {σ : L2.St} {H : Hp} {QS : L2.St → Hp → Prop} {K : PySem.W.Frag} {n : Nat} {t : TGs} {a : Addr} {xs : List V} (h : SqL K H a xs) (hl : xs.length = n) (q : t xs σ H QS) : gUnl K n t (.ref a) σ H QS := ⟨a, xs, rfl, h, hl, q⟩
section
variable {K : PySem.W.Frag} {σ : L2.St} {H : Hp} {Q : VK} {g : TG} {tt : TT} {te : TE} {vs : List Nat} {a b : Addr} {xs : List V}
theorem lcxB (PA : Nat → List V → Hp → Prop) (hab : a ≠ b) (hbN : ∃ ys, H b = some (.lst ys)) (hx : H a = some (.lst xs)) (hz : xs.length < 10000000) (h0 : ∀ H', Ex H H' → PA 0 [] H') (mono : ∀ i acc D H H', b ≠ D → But D H H' → PA i acc H → PA i acc H')
    (step : ∀ i x acc H' (Qk : VK) (Qn : Hp → Prop), xs[i]? = some x → But b H H' → acc.length ≤ i → PA i acc H' → (∀ y H4, But b H' H4 → PA (i + 1) (acc ++ [y]) H4 → Qk y H4) →
      g x (wipe σ vs) H' fun σ2 H2 => wipe σ2 vs = wipe σ vs ∧ tt σ2 H2 fun b H3 => if b = true then te σ2 H3 Qk else Qn H3)
    (hd : ∀ D acc H', H D = none → But b H H' → H' D = some (.lst acc) → acc.length ≤ xs.length → PA xs.length acc H' → Q (.ref D) H') : LcW (Itl K a) g tt te vs σ Q H := by
  intro D hD
  have hDb : D ≠ b := by
    obtain ⟨ys, hy⟩ := hbN
    exact (ne_of_none hy hD).symm
  refine lc_list (K := K) (a := a) (xs := xs) (fun i H' => But b H H' ∧ ∃ acc, H' D = some (.lst acc) ∧ acc.length ≤ i ∧ PA i acc H') ⟨(Ex.new hD).but, [], upd_same, Nat.le_refl _, h0 _ (Ex.new hD)⟩ (fun i H' _ p => SqL.of (p.1 _ _ hab hx)) ?_ ?_
  · rintro i x H' hi ⟨e, acc, hD', hl, pa⟩
    have il : i < xs.length := (List.getElem?_eq_some_iff.mp hi).1
    refine step i x acc H' _ _ hi e hl pa (fun y H4 e4 p4 => ?_)
    refine ⟨acc, e4 _ _ hDb hD', szL (by omega), fun c o nc q => ?_, acc ++ [y], upd_same, by simp; omega, mono _ _ D _ _ hDb.symm But.upd p4⟩
    rw [upd_ne (ne_of_none q hD)]
    exact e4 _ _ nc (e _ _ nc q)
  · rintro H' ⟨e, acc, hD', hl, pa⟩
    exact hd D acc H' hD e hD' hl pa
end
end Vf
set_option maxHeartbeats 2000000
/-! errors as values -/
namespace Vf
open PySem PySem.Spec PyProof.Rows L2
/-- an error of the class C at a, with these fields -/
def ErrAt (H : Hp) (C a : Addr) (fs : List (Str × V)) : Prop := ∃ d, H a = some (exo a C (some d)) ∧ H d = some (exd d fs)
theorem ErrAt.ex {H H' : Hp} {C a : Addr} {fs : List (Str × V)} (h : ErrAt H C a fs) (e : Ex H H') : ErrAt H' C a fs := by
  obtain ⟨d, h1, h2⟩ := h
  exact ⟨d, e _ _ h1, e _ _ h2⟩
def spInit3 (C : Addr) (f1 f2 f3 : Str) : Sp := fun vs H Q _ => ∃ (a : Addr) (u v w : V), vs = [.ref a, u, v, w] ∧ H a = some (exo a C none) ∧
  ∀ d H', H d = none → d ≠ a → H' a = some (exo a C (some d)) → H' d = some (exd d [(f3, w), (f2, v), (f1, u)]) → (∀ b o, H b = some o → b ≠ a → H' b = some o) → Q .non H'
section
variable {X : Cx} {CX : CXT} {k : Nat} {f C fI : Addr} {fd : FuncData} {ps : List Str} {sp : Sp} {dvs : List V} {ds : List Value} {E : XK} {x n : Str} {p pos : Pos} {e : Expr} {es : List Expr} {ta : TA} {te : TE}
def tMakeO (C : Addr) (sp : Sp) (dvs : List V) (ta : TA) : TE := fun σ H Q => ta σ H fun vs H1 => vs.length ≤ 1000 ∧ ∀ a, H1 a = none → sp (.ref a :: (vs ++ dvs)) (upd H1 a (exo a C none)) (fun v H2 => v = .non ∧ Q (.ref a) H2) E0
theorem pe_makeO (T : OexC X.K C) (iC : PySem.W.findIn X.K (.ref C) "__init__" = some (some (.ref fI))) (tI : PySem.W.typeIn X.K (.ref fI) = some (.type "function"))
    (F1 : FnOk X.prog X.w X.K X.mg X.base CX k fI fd ps sp) (hr : Room (k + 1) X.A) (hb : Binds X.K fd ps ds) (hd : Vals dvs ds) (hx : Passes CX X E0) (hg : Gl X x) (hm : X.mg x = some (.ref C)) (ha : PA X (e :: es) ta)
    (hdb : (x == ("__debug__" : Str)) = false := by decide) (he : starEach (e :: es) X.env = (false, eval e X.env) :: starEach es X.env := by rfl) (hpl : (backTo pos (starEach es X.env)).any (·.1) = false := by rfl) :
    PE X (.Call (.Name x p) (e :: es) [] pos) (tMakeO C sp dvs ta) := by
  refine ⟨fun pins s σ H Q I h => ?_⟩
  obtain ⟨nm, q, N, bs, bm, sn, sub, ab, col, dd, k0, k1, k2, k3, k5, hC, hbm⟩ := T.cls
  refine wpAny_Call_Name_kw (ld_glob I hg hm ?_ hdb)
  refine PySem.W.callWith_K (h₀ := X.base) I.ok.mod.kin T.kC (thn (ha.run pos pins s σ H _ I h) fun us s1 ⟨vs, H1, I1, r1, hz, q1⟩ => ⟨I1.kIn, ?_⟩) he hpl
  show wpAny _ _ (call (.ref C) us) _ _ _
  obtain ⟨hp, g, dr, tk, os⟩ := s1
  have hsz : hp.objs.size ≤ hp.objs.size + 1 := Nat.le_succ _
  have hn : H1 (hp.objs.size + 1) = none := I1.hok.fresh hsz
  have hq := q1 (hp.objs.size + 1) hn
  have kk : ∀ b o, hp.get? b = some o → ((hp.push (PySem.W.kdv_tup us)).push (PySem.HandSPX.excO C hp.objs.size)).get? b = some o := fun b o e => Heap.get?_push_of_some _ (Heap.get?_push_of_some _ e)
  have hget : ((hp.push (PySem.W.kdv_tup us)).push (PySem.HandSPX.excO C hp.objs.size)).get? (hp.objs.size + 1) = some (PySem.HandSPX.excO C hp.objs.size) := by heap_get
  have I2 : Inv X pins σ (upd H1 (hp.objs.size + 1) (exo (hp.objs.size + 1) C none)) ⟨(hp.push (PySem.W.kdv_tup us)).push (PySem.HandSPX.excO C hp.objs.size), g, dr, tk, os⟩ :=
    I1.laid (t' := tk) (a := hp.objs.size + 1) (o := exo (hp.objs.size + 1) C none) (h' := (hp.push (PySem.W.kdv_tup us)).push (PySem.HandSPX.excO C hp.objs.size)) kk hsz (exo_ok hget)
  have r2 : Vals (V.ref (hp.objs.size + 1) :: (vs ++ dvs)) (Value.ref (hp.objs.size + 1) :: (us ++ ds)) := .cons rfl (r1.append hd)
  have hl : (Value.ref (hp.objs.size + 1) :: us ++ ds).length = ps.length := by
    have e := r2.length
    rw [F1.len _ _ _ _ hq] at e
    exact e.symm
  have hus : us.length ≤ sizeLine := by
    rw [← Paired.length r1, sizeLine_eq]
    omega
  refine wpAny_call (PySem.HandSPX.call_own F.excBase_ValueError (fun Y => PySem.HandSPX.refsVE_contains Y bm hbm) (I1.kIn _ _ hC) (PySem.W.looks_findIn I1.kIn iC) (fun self => PySem.W.bind_fn I1.kIn self tI) hus
    (codeAny_mono (F1.run _ X.stack _ _ ⟨Value.ref (hp.objs.size + 1) :: us, []⟩ (Value.ref (hp.objs.size + 1) :: (us ++ ds)) _ _ E0 (hr.make C us []) (I2.env0.make C us []) (hb _ (Value.ref (hp.objs.size + 1) :: us) I2.kIn hl) r2 hq) fun r s' hq' => ?_))
  cases r with
  | error er => exact hx pins σ _ _ er s' I2 hq'
  | ok fl =>
    cases fl with
    | ret u =>
      obtain ⟨v, H', I3, rv, ev, q3⟩ := I2.after hq'
      subst ev
      exact ⟨rv, ⟨V.ref (hp.objs.size + 1), H', I3, rfl, q3⟩⟩
    | next => exact False.elim hq'
    | brk => exact False.elim hq'
    | cont => exact False.elim hq'
/-- a field of an error -/
def tOF (K : PySem.W.Frag) (te : TE) (n : Str) : TE := fun σ H Q => te σ H fun x H1 => ∃ a C fs v, x = .ref a ∧ ErrAt H1 C a fs ∧ XfC K C ∧ PySem.W.findIn K (.ref C) n = some none ∧ fs.lookup n = some v ∧ Q v H1
theorem err_at {pins : List (Addr × Obj)} {σ : L2.St} {H : Hp} {s : Shared} {a : Addr} {fs : List (Str × V)} (I : Inv X pins σ H s) (h : ErrAt H C a fs) :
    ∃ oe od, PySem.W.InstAt s.heap a oe C (some od) ∧ ∀ f, ∃ o, PySem.W.lookIn f od = some o ∧ RelO (fs.lookup f) o := by
  obtain ⟨d, h1, h2⟩ := h
  have o1 : ObjOk X.prog X.w H s.heap a (exo a C (some d)) := I.hok a _ h1
  have o2 : ObjOk X.prog X.w H s.heap d (exd d fs) := I.hok d _ h2
  obtain ⟨⟨t1, hg⟩, _⟩ := o1
  obtain ⟨⟨mA, hns, hr⟩, _⟩ := o2
  obtain ⟨od, ho, hl⟩ := lookIn_ns hns
  exact ⟨_, od, ⟨hg, rfl, rfl, ho⟩, fun f => ⟨mA f, hl f, hr f⟩⟩
theorem pe_of (he : PE X e te) (hb : attributeBase e n X.env (eval e X.env) = eval e X.env := by rfl) : PE X (.Attribute e n pos) (tOF X.K te n) := by
  refine ⟨fun pins s σ H Q I h => ?_⟩
  refine attr_of hb (thn (he.run pins s σ H _ I h) fun u s1 hh => ?_)
  obtain ⟨x, H1, I1, rx, a, C, fs, v, ex, ea, T, hno, l, q⟩ := hh
  subst ex
  obtain rfl : u = Value.ref a := rx
  obtain ⟨oe, od, J, hl⟩ := err_at I1 ea
  obtain ⟨o, ho, ro⟩ := hl n
  obtain ⟨u, hu, ru⟩ := RelO.some_of (v := v) (o := o) (by rw [← l]; exact ro)
  exact HandSPX.exc_get I1.kIn J T.ga T.gg T.exC (PySem.W.findObj_own T.hdC hno rfl (by rw [ho, hu])) (handed_of ru) ⟨v, H1, I1.tok _, ru, q⟩
/-- an error of the class C at a, with fields or without any -/
def ErrO (H : Hp) (C a : Addr) : Prop := H a = some (exo a C none) ∨ ∃ fs, ErrAt H C a fs
theorem ErrO.ex {H H' : Hp} {C a : Addr} (h : ErrO H C a) (e : Ex H H') : ErrO H' C a := by
  rcases h with h | ⟨fs, h⟩
  · exact .inl (e _ _ h)
  · exact .inr ⟨fs, h.ex e⟩
theorem erro_at {pins : List (Addr × Obj)} {σ : L2.St} {H : Hp} {s : Shared} {a : Addr} (I : Inv X pins σ H s) (h : ErrO H C a) : ∃ oe od, PySem.W.InstAt s.heap a oe C od := by
  rcases h with h | ⟨fs, h⟩
  · have o1 : ObjOk X.prog X.w H s.heap a (exo a C none) := I.hok a _ h
    obtain ⟨⟨t1, hg⟩, _⟩ := o1
    exact ⟨_, none, ⟨hg, rfl, rfl, trivial⟩⟩
  · obtain ⟨oe, od, J, _⟩ := err_at I h
    exact ⟨oe, some od, J⟩
/-- isinstance of an error -/
def rIsO (K : PySem.W.Frag) : List V → Hp → VK → Prop := fun xs H Q => ∃ (a C : Addr) (c : V) (cv : Value) (b : Bool), xs = [.ref a, c] ∧ ErrO H C a ∧ ExcC K C ∧ (∀ u, RelV c u → u = cv) ∧ PySem.W.kitOne K (.ref C) cv = some b ∧ Q (.bl b) H
theorem call_isO : CallR X (.builtin "isinstance") (rIsO X.K) := by
  intro pins s σ H xs us Q I r h
  obtain ⟨a, C, c, cv, b, rfl, hE, T, hcv, e, q⟩ := h
  cases r with
  | cons rx rr =>
    cases rr with
    | cons rt rr =>
      cases rr
      cases rx
      have ec := hcv _ rt
      subst ec
      obtain ⟨oe, od, J⟩ := erro_at I hE
      exact PySem.W.kia_one (kitx_exc T) I.kIn J e (fun z => nomatch z) fun tk => ⟨.bl b, H, I.kept (t' := tk) fun _ _ z => z, rfl, q⟩
/-- X(), X a class of errors without an own __init__ -/
def tMakeN (C : Addr) : TE := fun _ H Q => ∀ a, H a = none → Q (.ref a) (upd H a (exo a C none))
theorem pe_makeN {bmB : List Value} {B newId initId : String} (F : ExcBaseFacts B newId initId bmB) (q : PySem.W.excIn X.K C bmB newId = true) (gC : X.mg x = some (.ref C)) (kC : PySem.W.keepIn X.K (.ref C) = true) (hg : Gl X x)
    (hdb : (x == ("__debug__" : Str)) = false := by decide) : PE X (.Call (.Name x p) [] [] pos) (tMakeN C) := by
  refine ⟨fun pins s σ H Q I h => ?_⟩
  refine wpAny_Call_Name_kw (ld_glob I hg gC ?_ hdb)
  refine PySem.W.callWith_K0 I.kIn kC ?_
  obtain ⟨bm, N, nm, qn, bs, hdct, sn, sub, ab, col, dd, k0, k1, k2, k3, k5, mN, hC, hN, hni, T⟩ := exc_obj I.kIn q
  refine wpAny_call_exc_subT F T hC hN hni (fun h' e hm => ?_) (by simp)
  obtain ⟨t, he, _, _⟩ := hm.there
  exact ⟨.ref e, _, I.laidN (t' := s.toks) hm.keeps hm.new (I.hok.gone hm.new) (exo_ok he), rfl, h e (I.hok.gone hm.new)⟩
end
/-- what isinstance says of C and each of these classes -/
def Kits (K : PySem.W.Frag) (C : Addr) (b : Nat → Bool) : Nat → List Addr → Prop
  | _, [] => True
  | i, c :: cs => PySem.W.kitOne K (.ref C) (.ref c) = some (b i) ∧ Kits K C b (i + 1) cs
section
variable {K : PySem.W.Frag} {σ : L2.St} {H : Hp} {Q : VK} {C a : Addr} {c : V} {cv : Value} {b : Bool} {fs : List (Str × V)} {v : V} {n : Str} {te : TE} {ta : TA} {sp : Sp} {dvs : List V}
theorem r_isO (h : ErrO H C a) (T : ExcC K C) (hc : ∀ u, RelV c u → u = cv) (e : PySem.W.kitOne K (.ref C) cv = some b) (q : Q (.bl b) H) : rIsO K [.ref a, c] H Q := ⟨a, C, c, cv, b, rfl, h, T, hc, e, q⟩
def GetE (K : PySem.W.Frag) (n : Str) (Q : VK) (x : V) (H1 : Hp) : Prop := ∃ a C fs v, x = .ref a ∧ ErrAt H1 C a fs ∧ XfC K C ∧ PySem.W.findIn K (.ref C) n = some none ∧ fs.lookup n = some v ∧ Q v H1
theorem r_of (q : te σ H fun x H1 => GetE K n Q x H1) : tOF K te n σ H Q := q
theorem r_getE (h : ErrAt H C a fs) (T : XfC K C) (hn : PySem.W.findIn K (.ref C) n = some none) (l : fs.lookup n = some v) (q : Q v H) : GetE K n Q (.ref a) H := ⟨a, C, fs, v, rfl, h, T, hn, l, q⟩
theorem r_makeO (q : ta σ H fun vs H1 => vs.length ≤ 1000 ∧ ∀ a, H1 a = none → sp (.ref a :: (vs ++ dvs)) (upd H1 a (exo a C none)) (fun v H2 => v = .non ∧ Q (.ref a) H2) E0) : tMakeO C sp dvs ta σ H Q := q
theorem r_makeN (q : ∀ p, H p = none → ∀ H', H' = upd H p (exo p C none) → Q (.ref p) H') : tMakeN C σ H Q := fun a ha => q a ha _ rfl
/-- what a maker of two fields leaves -/
theorem err_of {H H' : Hp} {C a d : Addr} {fs : List (Str × V)} (ha : H a = none) (h1 : H' a = some (exo a C (some d))) (h2 : H' d = some (exd d fs)) (hk : ∀ b o, upd H a (exo a C none) b = some o → b ≠ a → H' b = some o) : Ex H H' ∧ ErrAt H' C a fs :=
  ⟨fun b o e => hk b o (by rw [upd_ne (ne_of_none e ha)]; exact e) (ne_of_none e ha), d, h1, h2⟩
end
section
variable {K : PySem.W.Frag} {σ : L2.St} {H : Hp} {Q : VK} {g : TG} {tt : TT} {te : TE} {vs : List Nat} {lo : Int} {n : Nat}
/-- a comprehension over a range -/
theorem lcxr (PA : Nat → List V → Hp → Prop) (hz : n < 10000000) (h0 : ∀ H', Ex H H' → PA 0 [] H') (mono : ∀ i acc H H', Tp H H' → PA i acc H → PA i acc H')
    (step : ∀ i acc H' (Qk : VK) (Qn : Hp → Prop), i < n → Ex H H' → acc.length ≤ i → PA i acc H' → (∀ y H4, Ex H' H4 → PA (i + 1) (acc ++ [y]) H4 → Qk y H4) → (∀ H3, Ex H' H3 → PA (i + 1) acc H3 → Qn H3) →
      g (.int (lo + i)) (wipe σ vs) H' fun σ2 H2 => wipe σ2 vs = wipe σ vs ∧ tt σ2 H2 fun b H3 => if b = true then te σ2 H3 Qk else Qn H3)
    (hd : ∀ D acc H', H D = none → Ex H H' → H' D = some (.lst acc) → acc.length ≤ n → PA n acc H' → Q (.ref D) H') : LcW (Itr lo n) g tt te vs σ Q H := by
  intro D hD
  refine lc_range (fun i H' => Ex H H' ∧ ∃ acc, H' D = some (.lst acc) ∧ acc.length ≤ i ∧ PA i acc H') ⟨Ex.new hD, [], upd_same, Nat.le_refl _, h0 _ (Ex.new hD)⟩ ?_ ?_
  · rintro i H' il ⟨e, acc, hD', hl, pa⟩
    refine step i acc H' _ _ il e hl pa (fun y H4 e4 p4 => ?_) (fun H3 e3 p3 => ?_)
    · refine ⟨acc, e4 _ _ hD', szL (by omega), fun b o q => ?_, acc ++ [y], upd_same, by simp; omega, mono _ _ _ _ ?_ p4⟩
      · rw [upd_ne (ne_of_none q hD)]
        exact e4 _ _ (e _ _ q)
      · exact (But.upd (o := .lst (acc ++ [y]))).tpL (e4 _ _ hD')
    · exact ⟨e.trans e3, acc, e3 _ _ hD', by omega, p3⟩
  · rintro H' ⟨e, acc, hD', hl, pa⟩
    exact hd D acc H' hD e hD' hl pa
end
/-! lists of truth values, compared -/
theorem bools_ok (bs : List Bool) : SeqAt.shaped (.list (bs.map PyData.bool)) = true ∧ PyData.eqv (.list (bs.map PyData.bool)) (.list (bs.map PyData.bool)) = true := by
  have h1 : PyData.canLayAll0 (bs.map PyData.bool) = true := by
    induction bs with
    | nil => rfl
    | cons b r ih => simp [PyData.canLayAll0, PyData.canLay0, ih]
  have h2 : PyData.depthAll (bs.map PyData.bool) ≤ 1 := by
    induction bs with
    | nil => simp [PyData.depthAll]
    | cons b r ih =>
      simp only [List.map_cons, PyData.depthAll, PyData.depth]
      have h1' : PyData.canLayAll0 (r.map PyData.bool) = true := by
        simpa [PyData.canLayAll0, PyData.canLay0] using h1
      have := ih h1'
      omega
  have h3 : PyData.eqvAll (bs.map PyData.bool) (bs.map PyData.bool) = true := by
    clear h1 h2
    induction bs with
    | nil => rfl
    | cons b r ih => simp [PyData.eqvAll, PyData.eqv, ih]
  constructor
  · have h4 : PyData.depthAll (bs.map PyData.bool) + 1 ≤ 64 := by omega
    show (PyData.canLayAll0 (bs.map PyData.bool) && decide (PyData.depthAll (bs.map PyData.bool) + 1 ≤ 64)) = true
    rw [h1, decide_eq_true h4]
    rfl
  · simp only [PyData.eqv, h3]
theorem bools_dp {K : PySem.W.Frag} {H : Hp} {p : Addr} {bs : List Bool} (h : H p = some (.lst (bs.map V.bl))) : Dp K H (.ref p) (.list (bs.map PyData.bool)) := by
  refine .lst (.of h) ?_
  clear h
  induction bs with
  | nil => exact .nil
  | cons b r ih => exact .cons (.bl b) ih
theorem r_eqBools {K : PySem.W.Frag} {H : Hp} {Q : VK} {p q : Addr} {bs : List Bool} (h1 : H p = some (.lst (bs.map V.bl))) (h2 : H q = some (.lst (bs.map V.bl))) (k : Q (.bl true) H) : rEqD K (.ref p) (.ref q) H Q :=
  ⟨_, _, bools_dp h1, bools_dp h2, (bools_ok bs).1, (bools_ok bs).1, by rw [(bools_ok bs).2]; exact k⟩
section
variable {σ : L2.St} {H : Hp} {Q : VK} {C : Addr} {f1 f2 f3 : Str} {u v w : V} {ta : TA}
def MkW1 (C : Addr) (f1 : Str) (Q : VK) (vs : List V) (H : Hp) : Prop := ∃ u, vs = [u] ∧ ∀ a, H a = none → ∀ H', Ex H H' → ErrAt H' C a [(f1, u)] → Q (.ref a) H'
def MkW2 (C : Addr) (f1 f2 : Str) (Q : VK) (vs : List V) (H : Hp) : Prop := ∃ u v, vs = [u, v] ∧ ∀ a, H a = none → ∀ H', Ex H H' → ErrAt H' C a [(f2, v), (f1, u)] → Q (.ref a) H'
def MkW3 (C : Addr) (f1 f2 f3 : Str) (Q : VK) (vs : List V) (H : Hp) : Prop := ∃ u v w, vs = [u, v, w] ∧ ∀ a, H a = none → ∀ H', Ex H H' → ErrAt H' C a [(f3, w), (f2, v), (f1, u)] → Q (.ref a) H'
def TaMono (ta : TA) : Prop := ∀ σ H (Q Q' : List V → Hp → Prop), (∀ vs H', Q vs H' → Q' vs H') → ta σ H Q → ta σ H Q'
theorem r_mk1 (mo : TaMono ta) (q : ta σ H fun vs H1 => MkW1 C f1 Q vs H1) : tMakeO C (spInit1 C f1) [] ta σ H Q := by
  refine mo σ H _ _ (fun vs H' h => ?_) q
  obtain ⟨u, rfl, k⟩ := h
  exact ⟨by simp, fun a ha => ⟨a, u, rfl, upd_same, fun d H2 hd ne h1 h2 hk => ⟨rfl, k a ha H2 (err_of ha h1 h2 hk).1 (err_of ha h1 h2 hk).2⟩⟩⟩
theorem r_mk2 (mo : TaMono ta) (q : ta σ H fun vs H1 => MkW2 C f1 f2 Q vs H1) : tMakeO C (spInit2 C f1 f2) [] ta σ H Q := by
  refine mo σ H _ _ (fun vs H' h => ?_) q
  obtain ⟨u, v, rfl, k⟩ := h
  exact ⟨by simp, fun a ha => ⟨a, u, v, rfl, upd_same, fun d H2 hd ne h1 h2 hk => ⟨rfl, k a ha H2 (err_of ha h1 h2 hk).1 (err_of ha h1 h2 hk).2⟩⟩⟩
theorem r_mk3 (mo : TaMono ta) (q : ta σ H fun vs H1 => MkW3 C f1 f2 f3 Q vs H1) : tMakeO C (spInit3 C f1 f2 f3) [] ta σ H Q := by
  refine mo σ H _ _ (fun vs H' h => ?_) q
  obtain ⟨u, v, w, rfl, k⟩ := h
  exact ⟨by simp, fun a ha => ⟨a, u, v, w, rfl, upd_same, fun d H2 hd ne h1 h2 hk => ⟨rfl, k a ha H2 (err_of ha h1 h2 hk).1 (err_of ha h1 h2 hk).2⟩⟩⟩
theorem mo_nil : TaMono tNil := fun σ H Q Q' h q => h _ _ q
theorem mo_cons {te : TE} {ta : TA} (he : ∀ σ H (Q Q' : VK), (∀ v H', Q v H' → Q' v H') → te σ H Q → te σ H Q') (ha : TaMono ta) : TaMono (tCons te ta) := fun σ H Q Q' h q => he σ H _ _ (fun v H1 q1 => ha σ H1 _ _ (fun vs H2 q2 => h _ _ q2) q1) q
theorem mo_var {i : Nat} : ∀ σ H (Q Q' : VK), (∀ v H', Q v H' → Q' v H') → tVar i σ H Q → tVar i σ H Q' := fun σ H Q Q' h ⟨v, e, q⟩ => ⟨v, e, h _ _ q⟩
theorem mo_c {c : V} : ∀ σ H (Q Q' : VK), (∀ v H', Q v H' → Q' v H') → tC c σ H Q → tC c σ H Q' := fun σ H Q Q' h q => h _ _ q
theorem r_mkW1 (q : ∀ a, H a = none → ∀ H', Ex H H' → ErrAt H' C a [(f1, u)] → Q (.ref a) H') : MkW1 C f1 Q [u] H := ⟨u, rfl, q⟩
theorem r_mkW2 (q : ∀ a, H a = none → ∀ H', Ex H H' → ErrAt H' C a [(f2, v), (f1, u)] → Q (.ref a) H') : MkW2 C f1 f2 Q [u, v] H := ⟨u, v, rfl, q⟩
theorem r_mkW3 (q : ∀ a, H a = none → ∀ H', Ex H H' → ErrAt H' C a [(f3, w), (f2, v), (f1, u)] → Q (.ref a) H') : MkW3 C f1 f2 f3 Q [u, v, w] H := ⟨u, v, w, rfl, q⟩
theorem r_mkN {σ : L2.St} (q : ∀ a, H a = none → ∀ H', Ex H H' → ErrO H' C a → Q (.ref a) H') : tMakeN C σ H Q := fun a ha => q a ha _ (Ex.new ha) (.inl upd_same)
end
end Vf
set_option maxHeartbeats 2000000
/-! o[i] and o[i] = v by an own def; a slice of a list that is stored -/
namespace Vf
open PySem PySem.Spec PyProof.Rows L2
section
variable {X : Cx} {CX : CXT} {k : Nat} {C f : Addr} {fd : FuncData} {ps : List Str} {sp : Sp} {E : XK} {a b : Expr} {ta tb : TE} {pos : Pos}
theorem run_in1 {pins : List (Addr × Obj)} {σ : L2.St} {H : Hp} {s : Shared} {Q : VK} {us : List Value} {vs : List V} (F : FnOk X.prog X.w X.K X.mg X.base CX k f fd ps sp) (hr : Room (k + 1) X.A) (hb : Binds X.K fd ps []) (hx : Passes CX X E)
    (I : Inv X pins σ H s) (r : Vals vs us) (h : sp (vs ++ []) H Q E) : wpAny (model X.prog X.w) X.A.in1 (call (.ref f) us) (EP X pins σ Q) X.xe s := by
  have r2 : Vals (vs ++ []) (us ++ []) := r.append .nil
  have hl : (us ++ []).length = ps.length := r2.length.symm.trans (F.len _ _ _ _ h)
  refine wpAny_call (codeAny_mono (F.run X.A.in1 X.stack s H ⟨us, []⟩ (us ++ []) (vs ++ []) Q E (Room.in1 hr) I.env0.in1 (hb s us I.kIn hl) r2 h) fun res s' hq => ?_)
  cases res with
  | error er => exact hx pins σ H s er s' I hq
  | ok fl =>
    cases fl with
    | ret u => exact I.after hq
    | next => exact False.elim hq
    | brk => exact False.elim hq
    | cont => exact False.elim hq
def rIxOwn (C : Addr) (sp : Sp) (E : XK) : R2 := fun x y H Q => ∃ a dx fs, x = .ref a ∧ H a = some (.ins C dx fs) ∧ sp [.ref a, y] H Q E
theorem pe_ixOwn (m : Meth X.K C "__getitem__" f) (hf : PySem.W.fnIn X.K f = true) (F : FnOk X.prog X.w X.K X.mg X.base CX k f fd ps sp) (hr : Room (k + 1) X.A) (hb : Binds X.K fd ps []) (hx : Passes CX X E) (ha : PE X a ta) (hb' : PE X b tb)
    (hsl : ∀ o i, subscripted b true o i = runValue (.builtin "lifetime.subscript" ⟨[o, i], []⟩) := by intro _ _; rfl) : PE X (.Subscript a b pos) (tOp (rIxOwn C sp E) ta tb) := by
  refine ⟨fun pins s σ H Q I h => ?_⟩
  refine Subscript_ (binT ha hb' I h fun v u s2 x y H2 I2 rx ry q => ?_)
  obtain ⟨p, dx, fs, rfl, ea, q⟩ := q
  obtain rfl : v = Value.ref p := rx
  obtain ⟨mA, O, _⟩ := ins_get I2.hok ea
  obtain ⟨od, J, _⟩ := O.look
  obtain ⟨mm, fr⟩ := I2.fr
  exact PySem.W.sub_K fr I2.mod.kin J m.at_ hf m.fn (run_in1 (us := [.ref p, u]) (vs := [.ref p, y]) F hr hb hx I2 (.cons rfl (.cons ry .nil)) q) (hsl _ _)
theorem r_ixOwn {H : Hp} {Q : VK} {p dx : Addr} {fs : List (Str × V)} {y : V} (h : H p = some (.ins C dx fs)) (q : sp [.ref p, y] H Q E) : rIxOwn C sp E (.ref p) y H Q := ⟨p, dx, fs, rfl, h, q⟩
def rSetOwn (C : Addr) (sp : Sp) (E : XK) : TSet := fun o i v H Q => ∃ a dx fs, o = .ref a ∧ H a = some (.ins C dx fs) ∧ sp [.ref a, i, v] H (fun _ H' => Q H') E
theorem set_own (hq : PySem.W.noSeq X.K C = true) (m : Meth X.K C "__setitem__" f) (F : FnOk X.prog X.w X.K X.mg X.base CX k f fd ps sp) (hr : Room k X.A) (hb : Binds X.K fd ps []) (hx : Passes CX X E) : PSet X (rSetOwn C sp E) := by
  intro pins s σ H o i v ov iv u Q I ro ri rv h
  obtain ⟨p, dx, fs, rfl, ea, q⟩ := h
  obtain rfl : ov = Value.ref p := ro
  obtain ⟨mA, O, _⟩ := ins_get I.hok ea
  obtain ⟨od, J, _⟩ := O.look
  obtain ⟨mm, fr⟩ := I.fr
  refine PySem.W.ksp_setItem fr I.mod.kin J hq m.at_ m.fn ?_
  refine thn (run_fn (dvs := []) (us := [.ref p, iv, u]) (vs := [.ref p, i, v]) F hr hb .nil hx I (.cons rfl (.cons ri (.cons rv .nil))) q) fun w s' h3 => ?_
  obtain ⟨z, H', I', _, q2⟩ := h3
  exact ⟨H', I', q2⟩
theorem r_setOwn {H : Hp} {QH : Hp → Prop} {p dx : Addr} {fs : List (Str × V)} {i v : V} (h : H p = some (.ins C dx fs)) (q : sp [.ref p, i, v] H (fun _ H' => QH H') E) : rSetOwn C sp E (.ref p) i v H QH := ⟨p, dx, fs, rfl, h, q⟩
end
/-! xs[a:c] = ys, c perhaps behind the end -/
section
variable {prog : Program} {w : World} {A : Around} {E : Value → Shared → Prop} {s : Shared}
theorem bounds_clip {a c n : Nat} (h1 : a ≤ c) (h2 : a ≤ n) : sliceBounds (some (a : Int)) (some (c : Int)) none n = ((a : Int), ((min c n : Nat) : Int), 1) := by
  have z1 : ¬ ((a : Int) < 0) := by omega
  have z2 : ¬ ((c : Int) < 0) := by omega
  simp only [sliceBounds, Option.getD_none, z1, z2, if_false, show (1 : Int) > 0 by decide, if_true]
  congr 1
  · omega
  · congr 1; omega
theorem set_slc {l b sl : Addr} {old new : Array Value} {n1 n2 : Nat} {vl vu : Value} {a c : Nat} {Q : Unit → Shared → Prop} (g1 : s.heap.get? l = some { cls := .type "list", data := .seq old n1 }) (g2 : s.heap.get? b = some { cls := .type "list", data := .seq new n2 }) (ne : l ≠ b)
    (hs : s.heap.IsSliceOf sl vl vu .none) (pl : IsPart vl (some (a : Int))) (pu : IsPart vu (some (c : Int))) (hac : a ≤ c) (ha : a ≤ old.size) (hsz : old.size + new.size ≤ sizeLine)
    (h : Q () { s with heap := s.heap.update l (Obj.mapSeq fun xs => xs.extract 0 a ++ new ++ xs.extract (min c old.size) xs.size) }) : wpAny (model prog w) A (setItem (.ref l) (.ref sl) (.ref b)) Q E s := by
  have L1 : s.heap.IsList l old := PySem.IsL.isList g1
  have L2 : s.heap.IsList b new := PySem.IsL.isList g2
  obtain ⟨os, o1, o2, o3⟩ := id hs
  have T : s.TypeIs (.ref sl) "slice" := ⟨os, o1, o2⟩
  have st : ¬ ((rawPart none == rawInt 0) = true) := Bool.false_ne_true
  have same : Builtin.List.listSameRef (.ref l) (.ref b) = false := by unfold Builtin.List.listSameRef; exact beq_eq_false_iff_ne.mpr ne
  have mx : (max (a : Int) ((min c old.size : Nat) : Int)).toNat = min c old.size := by omega
  have z : ((fun xs : Array Value => xs.extract 0 a ++ new ++ xs.extract (min c old.size) xs.size) old).size ≤ sizeLine + 1 := by simp only [Array.size_append, Array.size_extract]; omega
  unfold setItem; (try with_reducible refine wpAny_holding ?_)
  (first | refine wpAny_bind (wpAny_pure ?_) | skip); refine wpAny_bind (wpAny_sequenceKey L1.typeIs (by decide) ?_)
  refine wpAny_bind (wpAny_callSpecial?_slot (name := Str.ofString "__setitem__") L1.typeIs slot_list_setitem (wpAny_call_entry slot_list_setitem L1.typeIs entry_list_setitem ?_ (args_list_setitem _ _ _)))
  show wpAny _ _ (Builtin.List.listSubscript? (.ref sl) >>= _) _ _ s; refine wpAny_bind ?_
  unfold Builtin.List.listSubscript?; refine wpAny_bind (wpAny_specialOf T slice_no_index ?_)
  simp only [Option.isNone_none, if_true]; refine wpAny_pure ?_
  show wpAny _ _ (typeOf (.ref sl) >>= _) _ _ s; refine wpAny_bind (wpAny_typeOf T ?_)
  first | rw [if_neg (by decide)] | refine PySem.W.KFB.if_not (by decide) ?_
  rw [listSliceParts_eq]; refine wpAny_bind (wpAny_bind (wpAny_field o1 o3 (x := .none) rfl (wpAny_bind (wpAny_listPart .none ?_))))
  rw [if_neg st]; refine wpAny_bind (wpAny_field o1 o3 (x := vl) rfl (wpAny_bind (wpAny_listPart pl ?_)))
  refine wpAny_bind (wpAny_field o1 o3 (x := vu) rfl (wpAny_bind (wpAny_listPart pu (wpAny_pure ?_))))
  first | simp only [same, Bool.false_eq_true, if_false] | refine PySem.W.KFB.if_not same ?_ | (dsimp only; rw [if_neg (by rw [same]; exact Bool.false_ne_true)])
  refine wpAny_bind (m := Builtin.List.listAllItems (.ref b) "must assign iterable to extended slice") ?_; unfold Builtin.List.listAllItems; refine wpAny_bind (wpAny_typeOf L2.typeIs ?_)
  first | refine PySem.W.KFB.if_so (by decide) ?_ | rw [if_pos (by decide)] | simp only [beq_self_eq_true, Bool.true_or, if_true]
  unfold Builtin.List.listItems; refine wpAny_bind (wpAny_seqItems g2 rfl (wpAny_pure ?_)); refine wpAny_bind (wpAny_bind (wpAny_seqItems g1 rfl (wpAny_pure ?_)))
  refine wpAny_bind (wpAny_of_eq ((sliceIndices_raw (some (a : Int)) (some (c : Int)) none old.size (by simp)).trans (congrArg (pure : Int × Int × Int → Sem (Int × Int × Int)) (bounds_clip hac ha))) ?_)
  show wpAny _ _ (if ((1 : Int) == 1) = true then _ else _) _ _ s; rw [if_pos (by decide)]; refine wpAny_bind (wpAny_rule ?_)
  first | simp only [notLongL hsz, Bool.false_eq_true, if_false] | refine PySem.W.KFB.if_not (notLongL hsz) ?_
  (first | refine wpAny_bind (wpAny_pure ?_) | skip); show wpAny _ _ (updateSeq l (fun xs => xs.extract 0 ((a : Int)).toNat ++ new ++ xs.extract (max (a : Int) ((min c old.size : Nat) : Int)).toNat xs.size) >>= _) _ _ s
  rw [mx, Int.toNat_natCast]; refine wpAny_bind (wpAny_updateSeq (hz := Nat.le_trans (Nat.le_add_right _ _) hsz) (_hz' := z) g1 rfl ?_); refine wpAny_bind (wpAny_letGo ?_)
  first | exact wpAny_bind (wpAny_pure (wpAny_pure ⟨.none, rfl, wpAny_pure h⟩)) | exact wpAny_pure ⟨.none, rfl, wpAny_pure h⟩
end
section
variable {X : Cx} {o lo hi : Expr} {to : TE} {tl th : TO} {pos p2 : Pos}
def SlcSet (nx : L2.St → Hp → Prop) (σ : L2.St) (v o : V) (a c : Option Int) (H : Hp) : Prop := ∃ (l b : Addr) (xs ys : List V) (i j : Nat), o = .ref l ∧ v = .ref b ∧ a = some (i : Int) ∧ c = some (j : Int) ∧ H l = some (.lst xs) ∧ H b = some (.lst ys) ∧ l ≠ b ∧ i ≤ j ∧ i ≤ xs.length ∧
  xs.length + ys.length ≤ sizeLine ∧ ∀ H', But l H H' → H' l = some (.lst (xs.take i ++ ys ++ xs.drop j)) → nx σ H'
def gSlc (to : TE) (tl th : TO) : TG := fun v σ H Q => to σ H fun o H1 => tl σ H1 fun a H2 => th σ H2 fun c H3 => SlcSet Q σ v o a c H3
theorem drop_clip {α : Type} (xs : List α) (j : Nat) : xs.drop (min j xs.length) = xs.drop j := by
  rcases Nat.le_total j xs.length with h | h
  · rw [Nat.min_eq_left h]
  · rw [Nat.min_eq_right h, List.drop_of_length_le (Nat.le_refl _), List.drop_of_length_le h]
theorem pg_slc (ho : PE X o to) (hl : PO X (some lo) tl) (hh : PO X (some hi) th)
    (ha : ∀ v, assign (.Subscript o (.Slice (some lo) (some hi) none p2) pos) X.env v = (do
      let ov ← holding [v] (eval o X.env)
      let iv ← holding [v, ov] (eval (.Slice (some lo) (some hi) none p2) X.env)
      standAt pos
      holding [v, ov, iv] (setItem ov iv v)
      release [iv, v, ov] []) := by intro _; rfl) : PG X (.Subscript o (.Slice (some lo) (some hi) none p2) pos) (gSlc to tl th) := by
  refine ⟨fun pins s σ H v u Q I r h => ?_⟩
  rw [ha]
  refine wpAny_bind (wpAny_holding (thn (ho.run pins s σ H _ I h) fun ov s1 ⟨x, H1, I1, r1, q1⟩ => ?_))
  refine wpAny_bind (wpAny_holding (wpAny_Slice (thn (hl.run pins s1 σ H1 _ I1 q1) fun vl s2 ⟨a, H2, I2, pa, q2⟩ => thn (hh.run pins s2 σ H2 _ I2 q2) fun vu s3 ⟨c, H3, I3, pc, q3⟩ => ?_)))
  rw [evalPart_none]
  refine wpAny_pure ?_
  have I4 : Inv X pins σ H3 { s3 with heap := s3.heap.push { cls := .type "slice", data := .fields #[vl, vu, .none] } } := I3.kept (t' := s3.toks) fun b ob q => Heap.get?_push_of_some _ q
  obtain ⟨l, b, xs, ys, i, j, rfl, rfl, rfl, rfl, hx, hy, ne, h1, h2, hz, q⟩ := q3
  obtain rfl : ov = Value.ref l := r1
  obtain rfl : u = Value.ref b := r
  refine wpAny_bind (wpAny_standAt (wpAny_bind (wpAny_holding ?_)))
  obtain ⟨z1, its, n1, w1, e1, g1⟩ := I4.lstM hx
  obtain ⟨z2, jts, n2, w2, e2, g2⟩ := I4.lstM hy
  refine set_slc g1 g2 ne (Heap.IsSliceOf.new ..) pa pc h1 (by rw [List.size_toArray]; omega) (by rw [List.size_toArray, List.size_toArray]; omega) (wpAny_release ?_)
  refine ⟨σ, upd H3 l (.lst (xs.take i ++ ys ++ xs.drop j)), ?_, q _ But.upd upd_same⟩
  have := I4.lset (its' := its.take i ++ jts ++ its.drop j) (t' := s3.toks) (ys := xs.take i ++ ys ++ xs.drop j) hx g1 (f := fun zs : Array Value => zs.extract 0 i ++ jts.toArray ++ zs.extract (min j its.toArray.size) zs.size) ?_ (Vals.append (Vals.append (w1.take _) w2) (w1.drop _)) ?_
  · exact this
  · show its.toArray.extract 0 i ++ jts.toArray ++ its.toArray.extract (min j its.toArray.size) its.toArray.size = _
    rw [splice_eq, List.size_toArray, drop_clip]
  · rw [List.length_append, List.length_append, List.length_take, List.length_drop]
    omega
theorem r_slc {σ : L2.St} {H : Hp} {QS : L2.St → Hp → Prop} {v : V} (q : to σ H fun o H1 => tl σ H1 fun a H2 => th σ H2 fun c H3 => SlcSet QS σ v o a c H3) : gSlc to tl th v σ H QS := q
theorem r_slcSet {σ : L2.St} {H : Hp} {nx : L2.St → Hp → Prop} {l b : Addr} {xs ys : List V} {i j : Nat} (hx : H l = some (.lst xs)) (hy : H b = some (.lst ys)) (ne : l ≠ b) (h1 : i ≤ j) (h2 : i ≤ xs.length) (hz : xs.length + ys.length ≤ sizeLine)
    (q : ∀ H', But l H H' → H' l = some (.lst (xs.take i ++ ys ++ xs.drop j)) → nx σ H') : SlcSet nx σ (.ref b) (.ref l) (some (i : Int)) (some (j : Int)) H := ⟨l, b, xs, ys, i, j, rfl, rfl, rfl, rfl, hx, hy, ne, h1, h2, hz, q⟩
end
end Vf
namespace Vf
/-! ### tables as lists of runs (first, last or none, value) -/
section
variable {α : Type} [DecidableEq α] {nn : α}
abbrev Rn (α : Type) := Int × Option Int × α
/-- the run ends ahead of the day -/
def endsB {α : Type} (d : Int) (r : Rn α) : Bool := match r.2.1 with
  | none => false
  | some l => decide (l < d)
def hasD {α : Type} (r : Rn α) (d : Int) : Bool := decide (r.1 ≤ d) && match r.2.1 with
  | none => true
  | some l => decide (d ≤ l)
def cover {α : Type} : List (Rn α) → Int → Option α
  | [], _ => none
  | r :: t, d => if hasD r d = true then some r.2.2 else cover t d
def lookR (nn : α) (rs : List (Rn α)) (d : Int) : α := (cover rs d).getD nn
def ValR {α : Type} (r : Rn α) : Prop := ∀ l, r.2.1 = some l → r.1 ≤ l
def Bef {α : Type} (r r' : Rn α) : Prop := ∃ l, r.2.1 = some l ∧ l < r'.1
def AscR {α : Type} (rs : List (Rn α)) : Prop := (∀ r ∈ rs, ValR r) ∧ rs.Pairwise Bef
/-- r' goes on where r ends, with the same value -/
def goesOn (r r' : Rn α) : Bool := decide (r.2.1 = some (r'.1 - 1)) && decide (r.2.2 = r'.2.2)
def NormR (nn : α) (rs : List (Rn α)) : Prop := AscR rs ∧ (∀ r ∈ rs, r.2.2 ≠ nn) ∧ rs.Pairwise fun r r' => goesOn r r' = false
theorem hasD_iff {r : Rn α} {d : Int} : hasD r d = true ↔ r.1 ≤ d ∧ ∀ l, r.2.1 = some l → d ≤ l := by
  obtain ⟨f, l, v⟩ := r
  cases l <;> simp [hasD]
theorem endsB_iff {r : Rn α} {d : Int} : endsB d r = true ↔ ∃ l, r.2.1 = some l ∧ l < d := by
  obtain ⟨f, l, v⟩ := r
  cases l <;> simp [endsB]
theorem endsB_not {r : Rn α} {d : Int} : endsB d r = false ↔ ∀ l, r.2.1 = some l → d ≤ l := by
  obtain ⟨f, l, v⟩ := r
  cases l <;> simp [endsB]
theorem Bef.trans {a b c : Rn α} (vb : ValR b) (h1 : Bef a b) (h2 : Bef b c) : Bef a c := by
  obtain ⟨l, e, h⟩ := h1
  obtain ⟨m, e2, h2⟩ := h2
  exact ⟨l, e, by have := vb _ e2; omega⟩
theorem cover_append {xs ys : List (Rn α)} {d : Int} : cover (xs ++ ys) d = (cover xs d).or (cover ys d) := by
  induction xs with
  | nil => simp [cover]
  | cons r t ih =>
    simp only [List.cons_append, cover]
    split <;> simp [ih]
theorem cover_none {rs : List (Rn α)} {d : Int} (h : ∀ r ∈ rs, hasD r d = false) : cover rs d = none := by
  induction rs with
  | nil => rfl
  | cons r t ih =>
    simp only [cover]
    rw [if_neg (by simp [h r List.mem_cons_self]), ih fun r hr => h r (List.mem_cons_of_mem _ hr)]
theorem cover_some {rs : List (Rn α)} {d : Int} {v : α} (h : cover rs d = some v) : ∃ r ∈ rs, hasD r d = true ∧ r.2.2 = v := by
  induction rs with
  | nil => cases h
  | cons r t ih =>
    simp only [cover] at h
    split at h
    · rename_i hr
      exact ⟨r, List.mem_cons_self, hr, Option.some.inj h⟩
    · obtain ⟨r', h1, h2⟩ := ih h
      exact ⟨r', List.mem_cons_of_mem _ h1, h2⟩
/-- runs behind a day -/
theorem has_after {r s : Rn α} {d : Int} (b : Bef r s) (h : hasD s d = true) : hasD r d = false := by
  obtain ⟨l, e, hl⟩ := b
  have h1 := (hasD_iff.mp h).1
  refine Bool.eq_false_iff.mpr fun z => ?_
  have := (hasD_iff.mp z).2 _ e
  omega
/-- one stretch more -/
def pushR (nn : α) (acc : List (Rn α)) (s : Rn α) : List (Rn α) :=
  if s.2.2 = nn then acc else match acc.getLast? with
    | none => acc ++ [s]
    | some r => if goesOn r s = true then acc.dropLast ++ [(r.1, s.2.1, s.2.2)] else acc ++ [s]
def joinR (nn : α) (ss : List (Rn α)) : List (Rn α) := ss.foldl (pushR nn) []
theorem push_nn {acc : List (Rn α)} {s : Rn α} (h : s.2.2 = nn) : pushR nn acc s = acc := if_pos h
theorem push_go {acc : List (Rn α)} {r s : Rn α} (h : s.2.2 ≠ nn) (g : goesOn r s = true) : pushR nn (acc ++ [r]) s = acc ++ [(r.1, s.2.1, s.2.2)] := by
  unfold pushR
  rw [if_neg h]
  simp [g]
theorem push_no {acc : List (Rn α)} {s : Rn α} (h : s.2.2 ≠ nn) (g : ∀ r, acc.getLast? = some r → goesOn r s = false) : pushR nn acc s = acc ++ [s] := by
  unfold pushR
  rw [if_neg h]
  cases e : acc.getLast? with
  | none => rfl
  | some r => simp [g r e]
theorem push_cases (acc : List (Rn α)) (s : Rn α) : (s.2.2 = nn ∧ pushR nn acc s = acc) ∨ (s.2.2 ≠ nn ∧ (∀ r, acc.getLast? = some r → goesOn r s = false) ∧ pushR nn acc s = acc ++ [s]) ∨
    (s.2.2 ≠ nn ∧ ∃ a r, acc = a ++ [r] ∧ goesOn r s = true ∧ pushR nn acc s = a ++ [(r.1, s.2.1, s.2.2)]) := by
  by_cases h : s.2.2 = nn
  · exact .inl ⟨h, push_nn h⟩
  · rcases List.eq_nil_or_concat acc with rfl | ⟨a, r, rfl⟩
    · exact .inr (.inl ⟨h, by simp, push_no h (by simp)⟩)
    · rw [List.concat_eq_append]
      by_cases g : goesOn r s = true
      · exact .inr (.inr ⟨h, a, r, rfl, g, push_go h g⟩)
      · refine .inr (.inl ⟨h, ?_, push_no h ?_⟩) <;>
        · intro r' e
          simp at e
          subst e
          simpa using g
theorem goesOn_iff {r s : Rn α} : goesOn r s = true ↔ r.2.1 = some (s.1 - 1) ∧ r.2.2 = s.2.2 := by simp [goesOn]
theorem push_norm {acc : List (Rn α)} {s : Rn α} (n : NormR nn acc) (v : ValR s) (b : ∀ r ∈ acc, Bef r s) :
    NormR nn (pushR nn acc s) ∧ ∀ d, lookR nn (pushR nn acc s) d = if hasD s d = true then s.2.2 else lookR nn acc d := by
  obtain ⟨⟨nv, na⟩, nz, ng⟩ := n
  have cz : ∀ d, hasD s d = true → cover acc d = none := fun d h => cover_none fun r hr => has_after (b r hr) h
  rcases push_cases acc s (nn := nn) with ⟨h, e⟩ | ⟨h, g, e⟩ | ⟨h, a, r, rfl, g, e⟩
  · rw [e]
    refine ⟨⟨⟨nv, na⟩, nz, ng⟩, fun d => ?_⟩
    split
    · rename_i hd
      rw [lookR, cz d hd, h]; rfl
    · rfl
  · rw [e]
    refine ⟨⟨⟨?_, ?_⟩, ?_, ?_⟩, fun d => ?_⟩
    · intro r hr
      rcases List.mem_append.mp hr with hr | hr
      · exact nv r hr
      · rw [List.mem_singleton] at hr; subst hr; exact v
    · refine List.pairwise_append.mpr ⟨na, List.pairwise_singleton .., fun x hx y hy => ?_⟩
      rw [List.mem_singleton] at hy; subst hy
      exact b x hx
    · intro r hr
      rcases List.mem_append.mp hr with hr | hr
      · exact nz r hr
      · rw [List.mem_singleton] at hr; subst hr; exact h
    · refine List.pairwise_append.mpr ⟨ng, List.pairwise_singleton .., fun x hx y hy => ?_⟩
      rw [List.mem_singleton] at hy; subst hy
      rcases List.eq_nil_or_concat acc with rfl | ⟨a, r, rfl⟩
      · cases hx
      · rw [List.concat_eq_append] at *
        rcases List.mem_append.mp hx with hx | hx
        · -- an earlier one ends ahead of r
          refine Bool.eq_false_iff.mpr fun z => ?_
          obtain ⟨e1, _⟩ := goesOn_iff.mp z
          obtain ⟨l, e2, h2⟩ := (List.pairwise_append.mp na).2.2 x hx r (by simp)
          obtain ⟨l', e3, h3⟩ := b r (by simp)
          have := nv r (by simp) _ e3
          rw [e1] at e2
          cases e2
          omega
        · rw [List.mem_singleton] at hx; subst hx
          exact g _ (by simp)
    · rw [lookR, cover_append]
      split
      · rename_i hd
        rw [cz d hd]
        simp [cover, hd]
      · rename_i hd
        simp [cover, hd, lookR]
  · rw [e]
    obtain ⟨g1, g2⟩ := goesOn_iff.mp g
    have vr := nv r (by simp)
    have vr1 := vr _ g1
    obtain ⟨na1, _, na2⟩ := List.pairwise_append.mp na
    obtain ⟨ng1, _, ng2⟩ := List.pairwise_append.mp ng
    refine ⟨⟨⟨?_, ?_⟩, ?_, ?_⟩, fun d => ?_⟩
    · intro x hx
      rcases List.mem_append.mp hx with hx | hx
      · exact nv x (by simp [hx])
      · rw [List.mem_singleton] at hx; subst hx
        intro l e1
        have := v l e1
        show r.1 ≤ l
        omega
    · refine List.pairwise_append.mpr ⟨na1, List.pairwise_singleton .., fun x hx y hy => ?_⟩
      rw [List.mem_singleton] at hy; subst hy
      exact na2 x hx r (by simp)
    · intro x hx
      rcases List.mem_append.mp hx with hx | hx
      · exact nz x (by simp [hx])
      · rw [List.mem_singleton] at hx; subst hx; exact h
    · refine List.pairwise_append.mpr ⟨ng1, List.pairwise_singleton .., fun x hx y hy => ?_⟩
      rw [List.mem_singleton] at hy; subst hy
      have := ng2 x hx r (by simp)
      simp only [goesOn] at this ⊢
      rw [← g2]
      exact this
    · rw [lookR, lookR, cover_append, cover_append]
      have k1 : hasD (r.1, s.2.1, s.2.2) d = (hasD r d || hasD s d) := by
        rw [Bool.eq_iff_iff, Bool.or_eq_true, hasD_iff, hasD_iff, hasD_iff]
        constructor
        · rintro ⟨h1, h2⟩
          by_cases hd : d ≤ s.1 - 1
          · exact .inl ⟨h1, fun l e => by rw [g1] at e; cases e; exact hd⟩
          · exact .inr ⟨by omega, h2⟩
        · rintro (⟨h1, h2⟩ | ⟨h1, h2⟩)
          · exact ⟨h1, fun l e => by have a1 := v l e; have a2 := h2 _ g1; show d ≤ l; omega⟩
          · exact ⟨by show r.1 ≤ d; omega, h2⟩
      split
      · rename_i hd
        have c1 : cover a d = none := by
          have := cz d hd
          rw [cover_append] at this
          cases hc : cover a d with
          | none => rfl
          | some v => rw [hc] at this; cases this
        rw [c1]
        simp [cover, k1, hd]
      · rename_i hd
        congr 1
        congr 1
        simp only [cover, k1, Bool.not_eq_true] at hd ⊢
        rw [hd]
        simp [g2]
/-- all that stood ahead ends ahead of whatever comes behind s -/
theorem push_bef {acc : List (Rn α)} {s t : Rn α} (b : ∀ r ∈ acc, Bef r t) (bs : Bef s t) : ∀ r ∈ pushR nn acc s, Bef r t := by
  intro x hx
  rcases push_cases acc s (nn := nn) with ⟨h, e⟩ | ⟨h, g, e⟩ | ⟨h, a, r, rfl, g, e⟩ <;> rw [e] at hx
  · exact b x hx
  · rcases List.mem_append.mp hx with hx | hx
    · exact b x hx
    · rw [List.mem_singleton] at hx; subst hx; exact bs
  · rcases List.mem_append.mp hx with hx | hx
    · exact b x (by simp [hx])
    · rw [List.mem_singleton] at hx; subst hx
      exact bs
theorem AscR.tail {r : Rn α} {rs : List (Rn α)} (h : AscR (r :: rs)) : AscR rs := ⟨fun x hx => h.1 x (List.mem_cons_of_mem _ hx), (List.pairwise_cons.mp h.2).2⟩
theorem fold_norm {ss : List (Rn α)} : ∀ {acc : List (Rn α)}, NormR nn acc → AscR ss → (∀ r ∈ acc, ∀ s ∈ ss, Bef r s) →
    NormR nn (ss.foldl (pushR nn) acc) ∧ ∀ d, lookR nn (ss.foldl (pushR nn) acc) d = (cover ss d).getD (lookR nn acc d) := by
  induction ss with
  | nil => intro acc n _ _; exact ⟨n, fun d => rfl⟩
  | cons s t ih =>
    intro acc n a b
    obtain ⟨n1, l1⟩ := push_norm n (a.1 s List.mem_cons_self) (fun r hr => b r hr s List.mem_cons_self)
    obtain ⟨n2, l2⟩ := ih n1 a.tail fun r hr s' hs => push_bef (fun r hr => b r hr s' (List.mem_cons_of_mem _ hs)) ((List.pairwise_cons.mp a.2).1 s' hs) r hr
    refine ⟨n2, fun d => ?_⟩
    rw [List.foldl_cons, l2, l1]
    simp only [cover]
    split
    · rename_i hd
      rw [cover_none fun r hr => ?_]
      · rfl
      · refine Bool.eq_false_iff.mpr fun z => ?_
        have := has_after ((List.pairwise_cons.mp a.2).1 r hr) z
        rw [hd] at this
        cases this
    · rfl
theorem NormR.nil : NormR nn ([] : List (Rn α)) := ⟨⟨fun _ h => by (cases h), List.Pairwise.nil⟩, fun _ h => by (cases h), List.Pairwise.nil⟩
theorem join_norm {ss : List (Rn α)} (a : AscR ss) : NormR nn (joinR nn ss) ∧ ∀ d, lookR nn (joinR nn ss) d = lookR nn ss d := fold_norm .nil a fun _ h => by cases h
/-! what stands ahead is not touched -/
theorem push_ahead {A acc : List (Rn α)} {s : Rn α} (h : acc ≠ []) : pushR nn (A ++ acc) s = A ++ pushR nn acc s := by
  rcases push_cases acc s (nn := nn) with ⟨h1, e⟩ | ⟨h1, g, e⟩ | ⟨h1, a, r, rfl, g, e⟩ <;> rw [e]
  · exact push_nn h1
  · rw [push_no h1, List.append_assoc]
    intro r hr
    rw [List.getLast?_append] at hr
    cases hl : acc.getLast? with
    | none => exact absurd (List.getLast?_eq_none_iff.mp hl) h
    | some r' =>
      rw [hl] at hr
      simp at hr
      subst hr
      exact g _ hl
  · rw [← List.append_assoc, push_go h1 g, List.append_assoc]
theorem push_ne {acc : List (Rn α)} {s : Rn α} (h : acc ≠ []) : pushR nn acc s ≠ [] := by
  rcases push_cases acc s (nn := nn) with ⟨h1, e⟩ | ⟨h1, g, e⟩ | ⟨h1, a, r, rfl, g, e⟩ <;> rw [e] <;> simp [h]
theorem fold_ahead {A ss : List (Rn α)} : ∀ {acc : List (Rn α)}, acc ≠ [] → ss.foldl (pushR nn) (A ++ acc) = A ++ ss.foldl (pushR nn) acc := by
  induction ss with
  | nil => intro acc _; rfl
  | cons s t ih =>
    intro acc h
    rw [List.foldl_cons, push_ahead h, ih (push_ne h)]
    rfl
/-- no stretch of ss goes on where A ends -/
theorem fold_apart {A ss : List (Rn α)} (h : ∀ r, A.getLast? = some r → ∀ s ∈ ss, goesOn r s = false) : ss.foldl (pushR nn) A = A ++ joinR nn ss := by
  induction ss with
  | nil => simp [joinR]
  | cons s t ih =>
    by_cases hs : s.2.2 = nn
    · rw [List.foldl_cons, push_nn hs, ih fun r hr x hx => h r hr x (List.mem_cons_of_mem _ hx)]
      simp [joinR, push_nn hs]
    · rw [List.foldl_cons, push_no hs fun r hr => h r hr s List.mem_cons_self, fold_ahead (by simp)]
      rw [joinR, List.foldl_cons, push_no hs (by simp)]
      rfl
theorem fold_self {B : List (Rn α)} : ∀ {A : List (Rn α)}, (∀ r ∈ B, r.2.2 ≠ nn) → B.Pairwise (fun r r' => goesOn r r' = false) → (∀ r s, A.getLast? = some r → B.head? = some s → goesOn r s = false) → B.foldl (pushR nn) A = A ++ B := by
  induction B with
  | nil => intro A _ _ _; simp
  | cons s t ih =>
    intro A hz hp hh
    rw [List.foldl_cons, push_no (hz s List.mem_cons_self) fun r hr => hh r s hr rfl, ih (fun r hr => hz r (List.mem_cons_of_mem _ hr)) (List.pairwise_cons.mp hp).2]
    · simp
    · intro r x hr hx
      simp at hr
      subst hr
      exact (List.pairwise_cons.mp hp).1 x (List.mem_of_head? hx)
theorem NormR.same {B : List (Rn α)} (n : NormR nn B) : joinR nn B = B := by
  rw [joinR, fold_self n.2.1 n.2.2 (by simp)]
  rfl
/-- the last one of a join ends as the last stretch -/
theorem fold_last {ss : List (Rn α)} {s r : Rn α} {acc : List (Rn α)} (h : s.2.2 ≠ nn) (e : ((ss ++ [s]).foldl (pushR nn) acc).getLast? = some r) : r.2 = s.2 := by
  rw [List.foldl_append, List.foldl_cons, List.foldl_nil] at e
  rcases push_cases (ss.foldl (pushR nn) acc) s (nn := nn) with ⟨h1, e1⟩ | ⟨h1, g, e1⟩ | ⟨h1, a, r', _, g, e1⟩
  · exact absurd h1 h
  · rw [e1] at e; simp at e; rw [e]
  · rw [e1] at e; simp at e; rw [← e]
/-! ### where a run stands -/
def placeR {α : Type} (rs : List (Rn α)) (d : Int) : Nat := (rs.takeWhile (endsB d)).length
theorem asc_ends {rs : List (Rn α)} (a : AscR rs) {d : Int} {i j : Nat} {r r' : Rn α} (hij : i ≤ j) (hi : rs[i]? = some r) (hj : rs[j]? = some r') (h : endsB d r' = true) : endsB d r = true := by
  rcases Nat.lt_or_eq_of_le hij with hlt | rfl
  · obtain ⟨l, e, hl⟩ := endsB_iff.mp h
    have b : Bef r r' := by
      obtain ⟨hi1, rfl⟩ := List.getElem?_eq_some_iff.mp hi
      obtain ⟨hj1, rfl⟩ := List.getElem?_eq_some_iff.mp hj
      exact List.pairwise_iff_getElem.mp a.2 i j hi1 hj1 hlt
    obtain ⟨m, e2, h2⟩ := b
    have := a.1 r' (List.mem_of_getElem? hj) _ e
    exact endsB_iff.mpr ⟨m, e2, by omega⟩
  · rw [hi] at hj; cases hj; exact h
theorem place_at {rs : List (Rn α)} {d : Int} {n : Nat} (hn : n ≤ rs.length) (h1 : ∀ j r, j < n → rs[j]? = some r → endsB d r = true) (h2 : ∀ r, rs[n]? = some r → endsB d r = false) : placeR rs d = n := by
  induction rs generalizing n with
  | nil => simp at hn; subst hn; rfl
  | cons r t ih =>
    cases n with
    | zero =>
      have := h2 r rfl
      simp [placeR, List.takeWhile, this]
    | succ n =>
      have e := h1 0 r (by omega) rfl
      have := ih (n := n) (by simpa using hn) (fun j x hj hx => h1 (j + 1) x (by omega) (by simpa using hx)) (fun x hx => h2 x (by simpa using hx))
      simp only [placeR, List.takeWhile, e] at this ⊢
      simp [this]
end
end Vf
namespace Vf
section
variable {α : Type} [DecidableEq α] {nn : α}
def startR {α : Type} (f : Int) (near : List (Rn α)) : List (Rn α) := (near.filter fun r => decide (r.1 < f)).map fun r => (r.1, some (f - 1), r.2.2)
def afterR {α : Type} (near : List (Rn α)) (m : Int) : List (Rn α) := (near.filter fun r => !endsB (m + 1) r).map fun r => (max r.1 (m + 1), r.2.1, r.2.2)
def restR {α : Type} (l : Option Int) (near : List (Rn α)) : List (Rn α) := match l with
  | none => []
  | some m => afterR near m
def hiR {α : Type} (rs : List (Rn α)) : Option Int → Nat
  | none => rs.length
  | some m => placeR rs (m + 1) + 1
def nearR {α : Type} (rs : List (Rn α)) (f : Int) (l : Option Int) : List (Rn α) := (rs.drop (placeR rs (f - 1))).take (hiR rs l - placeR rs (f - 1))
def midR {α : Type} (near : List (Rn α)) (f : Int) (l : Option Int) (v : α) : List (Rn α) := startR f near ++ (f, l, v) :: restR l near
def giveR (nn : α) (rs : List (Rn α)) (f : Int) (l : Option Int) (v : α) : List (Rn α) :=
  rs.take (placeR rs (f - 1)) ++ joinR nn (midR (nearR rs f l) f l v) ++ rs.drop (hiR rs l)
theorem start_mem {f : Int} {near : List (Rn α)} {s : Rn α} (h : s ∈ startR f near) : ∃ r ∈ near, r.1 < f ∧ s = (r.1, some (f - 1), r.2.2) := by
  obtain ⟨r, hr, rfl⟩ := List.mem_map.mp h
  obtain ⟨h1, h2⟩ := List.mem_filter.mp hr
  exact ⟨r, h1, by simpa using h2, rfl⟩
theorem after_mem {m : Int} {near : List (Rn α)} {s : Rn α} (h : s ∈ afterR near m) : ∃ r ∈ near, endsB (m + 1) r = false ∧ s = (max r.1 (m + 1), r.2.1, r.2.2) := by
  obtain ⟨r, hr, rfl⟩ := List.mem_map.mp h
  obtain ⟨h1, h2⟩ := List.mem_filter.mp hr
  exact ⟨r, h1, by simpa using h2, rfl⟩
theorem start_cover {f d : Int} (hd : d < f) : ∀ {near : List (Rn α)}, (∀ r ∈ near, endsB (f - 1) r = false) → cover (startR f near) d = cover near d := by
  intro near
  induction near with
  | nil => intro _; rfl
  | cons r t ih =>
    intro h
    have ih := ih fun r hr => h r (List.mem_cons_of_mem _ hr)
    have hr := endsB_not.mp (h r List.mem_cons_self)
    by_cases hf : r.1 < f
    · have e : startR f (r :: t) = (r.1, some (f - 1), r.2.2) :: startR f t := by simp [startR, hf]
      rw [e]
      simp only [cover]
      have k : hasD (r.1, some (f - 1), r.2.2) d = hasD r d := by
        rw [Bool.eq_iff_iff, hasD_iff, hasD_iff]
        constructor
        · rintro ⟨h1, h2⟩
          exact ⟨h1, fun l e => by have := hr l e; omega⟩
        · rintro ⟨h1, h2⟩
          exact ⟨h1, fun l e => by cases e; omega⟩
      rw [k, ih]
    · have e : startR f (r :: t) = startR f t := by simp [startR, hf]
      rw [e, ih]
      simp only [cover]
      rw [if_neg]
      intro z
      have := (hasD_iff.mp z).1
      omega
theorem after_cover {m d : Int} (hd : m < d) {near : List (Rn α)} : cover (afterR near m) d = cover near d := by
  induction near with
  | nil => rfl
  | cons r t ih =>
    by_cases he : endsB (m + 1) r = true
    · have e : afterR (r :: t) m = afterR t m := by simp [afterR, he]
      rw [e, ih]
      simp only [cover]
      rw [if_neg]
      intro z
      obtain ⟨l, e1, h1⟩ := endsB_iff.mp he
      have := (hasD_iff.mp z).2 _ e1
      omega
    · have e : afterR (r :: t) m = (max r.1 (m + 1), r.2.1, r.2.2) :: afterR t m := by simp [afterR, he]
      rw [e]
      simp only [cover]
      have k : hasD (max r.1 (m + 1), r.2.1, r.2.2) d = hasD r d := by
        rw [Bool.eq_iff_iff, hasD_iff, hasD_iff]
        constructor
        · rintro ⟨h1, h2⟩
          exact ⟨by simp only at h1; omega, h2⟩
        · rintro ⟨h1, h2⟩
          exact ⟨by simp only; omega, h2⟩
      rw [k, ih]
theorem after_none {m : Int} {N : List (Rn α)} (h : ∀ r ∈ N, endsB (m + 1) r = true) : afterR N m = [] := by
  have e : N.filter (fun r => !endsB (m + 1) r) = [] := List.filter_eq_nil_iff.mpr fun r hr => by simp [h r hr]
  simp [afterR, e]
theorem after_app {m : Int} {N R : List (Rn α)} : afterR (N ++ R) m = afterR N m ++ afterR R m := by simp [afterR]
theorem give_core {A N R B : List (Rn α)} {f : Int} {l : Option Int} {v : α} (n : NormR nn (A ++ (N ++ R) ++ B)) (vs : ValR (f, l, v)) (hA : ∀ r ∈ A, endsB (f - 1) r = true) (hN : ∀ r ∈ N ++ R, endsB (f - 1) r = false)
    (hc : (l = none ∧ R = [] ∧ B = []) ∨ ∃ m, l = some m ∧ (∀ r ∈ N, endsB (m + 1) r = true) ∧ ((R = [] ∧ B = []) ∨ ∃ r, R = [r] ∧ endsB (m + 1) r = false)) :
    NormR nn (A ++ joinR nn (midR (N ++ R) f l v) ++ B) ∧ ∀ d, lookR nn (A ++ joinR nn (midR (N ++ R) f l v) ++ B) d = if hasD (f, l, v) d = true then v else lookR nn (A ++ (N ++ R) ++ B) d := by
  obtain ⟨⟨nv, na⟩, nz, ng⟩ := n
  have na' := na
  have ng' := ng
  rw [List.pairwise_append, List.pairwise_append] at na ng
  obtain ⟨⟨naA, naN, naAN⟩, naB, naXB⟩ := na
  obtain ⟨⟨ngA, ngN, ngAN⟩, ngB, ngXB⟩ := ng
  have mA : ∀ {r}, r ∈ A → r ∈ A ++ (N ++ R) ++ B := fun h => by simp [h]
  have mN : ∀ {r}, r ∈ N ++ R → r ∈ A ++ (N ++ R) ++ B := fun {r} h => by
    rcases List.mem_append.mp h with h | h <;> simp [h]
  have mB : ∀ {r}, r ∈ B → r ∈ A ++ (N ++ R) ++ B := fun h => by simp [h]
  -- what comes behind the stretch
  have rest_mem : ∀ s ∈ restR l (N ++ R), ∃ m r, l = some m ∧ R = [r] ∧ s = (max r.1 (m + 1), r.2.1, r.2.2) ∧ endsB (m + 1) r = false := by
    intro s hs
    rcases hc with ⟨rfl, rfl, rfl⟩ | ⟨m, rfl, h1, h2⟩
    · cases hs
    · obtain ⟨r, hr, he, rfl⟩ := after_mem hs
      rcases h2 with ⟨rfl, rfl⟩ | ⟨r', rfl, he'⟩
      · rw [List.append_nil] at hr
        rw [h1 r hr] at he; cases he
      · rcases List.mem_append.mp hr with hr | hr
        · rw [h1 r hr] at he; cases he
        · rw [List.mem_singleton] at hr; subst hr
          exact ⟨m, r, rfl, rfl, rfl, he⟩
  have lastA : ∀ r ∈ A, ∃ k, r.2.1 = some k ∧ k < f - 1 := fun r hr => endsB_iff.mp (hA r hr)
  have B_bef : ∀ b ∈ B, ∃ m r, l = some m ∧ R = [r] ∧ endsB (m + 1) r = false ∧ Bef r b := by
    intro b hb
    rcases hc with ⟨rfl, rfl, rfl⟩ | ⟨m, rfl, h1, ⟨rfl, rfl⟩ | ⟨r, rfl, he⟩⟩
    · cases hb
    · cases hb
    · exact ⟨m, r, rfl, rfl, he, naXB r (by simp) b hb⟩
  have restB : ∀ s ∈ restR l (N ++ R), ∀ b ∈ B, Bef s b := by
    intro s hs b hb
    obtain ⟨m, r, rfl, rfl, rfl, he⟩ := rest_mem s hs
    obtain ⟨k, e1, h1⟩ := naXB r (by simp) b hb
    exact ⟨k, e1, h1⟩
  have sRest : ∀ s ∈ restR l (N ++ R), Bef (f, l, v) s := by
    intro s hs
    obtain ⟨m, r, rfl, rfl, rfl, he⟩ := rest_mem s hs
    exact ⟨m, rfl, by simp only; omega⟩
  have sB : ∀ b ∈ B, Bef (f, l, v) b := by
    intro b hb
    obtain ⟨m, r, rfl, rfl, he, k, e1, h1⟩ := B_bef b hb
    exact ⟨m, rfl, by have := endsB_not.mp he k e1; omega⟩
  have vm : ∀ m, l = some m → f ≤ m := fun m e => vs m e
  have stS : ∀ s ∈ startR f (N ++ R), ∀ t : Rn α, f ≤ t.1 → Bef s t := by
    intro s hs t ht
    obtain ⟨r, hr, hf, rfl⟩ := start_mem hs
    exact ⟨f - 1, rfl, by omega⟩
  have asc : AscR (A ++ midR (N ++ R) f l v ++ B) := by
    refine ⟨?_, ?_⟩
    · intro s hs
      simp only [midR, List.mem_append, List.mem_cons] at hs
      rcases hs with (hs | hs | rfl | hs) | hs
      · exact nv s (mA hs)
      · obtain ⟨r, hr, hf, rfl⟩ := start_mem hs
        intro k e; cases e; show r.1 ≤ f - 1; omega
      · exact vs
      · obtain ⟨m, r, rfl, rfl, rfl, he⟩ := rest_mem s hs
        intro k e
        have h1 := endsB_not.mp he k e
        have h2 := nv r (by simp) k e
        show max r.1 (m + 1) ≤ k
        omega
      · exact nv s (mB hs)
    · simp only [midR]
      rw [List.pairwise_append, List.pairwise_append, List.pairwise_append, List.pairwise_cons]
      refine ⟨⟨naA, ⟨?_, ⟨sRest, ?_⟩, ?_⟩, ?_⟩, naB, ?_⟩
      · -- at most one begins ahead of the stretch
        have p1 := (List.Pairwise.and_mem.mp naN).filter (fun r => decide (r.1 < f))
        have p2 : ((N ++ R).filter fun r => decide (r.1 < f)).Pairwise (fun _ _ => False) := p1.imp_of_mem fun {a b} ha hb h => by
          obtain ⟨h1, h2, k, e, hk⟩ := h
          have := endsB_not.mp (hN a h1) k e
          have := (List.mem_filter.mp hb).2
          simp only [decide_eq_true_eq] at this
          omega
        exact List.Pairwise.map (R := fun _ _ => False) _ (fun a b h => h.elim) p2
      · rcases hc with ⟨rfl, rfl, rfl⟩ | ⟨m, rfl, h1, ⟨rfl, rfl⟩ | ⟨r, rfl, he⟩⟩
        · exact List.Pairwise.nil
        · show (afterR (N ++ []) m).Pairwise _
          rw [List.append_nil, after_none h1]
          exact List.Pairwise.nil
        · show (afterR (N ++ [r]) m).Pairwise _
          rw [after_app, after_none h1]
          simp [afterR, he]
      · intro s hs t ht
        rcases List.mem_cons.mp ht with rfl | ht
        · exact stS s hs _ (Int.le_refl f)
        · obtain ⟨m, r, rfl, rfl, rfl, he⟩ := rest_mem t ht
          exact stS s hs _ (by have := vm m rfl; show f ≤ max r.1 (m + 1); omega)
      · intro a ha s hs
        obtain ⟨k, e, hk⟩ := lastA a ha
        rcases List.mem_append.mp hs with hs | hs
        · obtain ⟨r, hr, hf, rfl⟩ := start_mem hs
          obtain ⟨k', e', h'⟩ := naAN a ha r hr
          exact ⟨k', e', h'⟩
        · rcases List.mem_cons.mp hs with rfl | hs
          · exact ⟨k, e, by show k < f; omega⟩
          · obtain ⟨m, r, rfl, rfl, rfl, he⟩ := rest_mem s hs
            exact ⟨k, e, by have := vm m rfl; show k < max r.1 (m + 1); omega⟩
      · intro s hs b hb
        obtain ⟨m, r, rfl, rfl, he, k, e1, h1⟩ := B_bef b hb
        have h2 := endsB_not.mp he k e1
        have h3 := vm m rfl
        rcases List.mem_append.mp hs with hs | hs
        · exact naXB s (by simp [hs]) b hb
        · rcases List.mem_append.mp hs with hs | hs
          · exact stS s hs _ (by omega)
          · rcases List.mem_cons.mp hs with rfl | hs
            · exact sB b hb
            · exact restB s hs b hb
  have joined : joinR nn (A ++ midR (N ++ R) f l v ++ B) = A ++ joinR nn (midR (N ++ R) f l v) ++ B := by
    have eA : A.foldl (pushR nn) [] = A := by
      have := fold_self (nn := nn) (A := []) (B := A) (fun r hr => nz r (mA hr)) ngA (by simp)
      simpa using this
    have eM : (midR (N ++ R) f l v).foldl (pushR nn) A = A ++ joinR nn (midR (N ++ R) f l v) := by
      refine fold_apart fun r hr s hs => ?_
      have hrA : r ∈ A := List.mem_of_getLast? hr
      obtain ⟨k, e, hk⟩ := lastA r hrA
      simp only [midR, List.mem_append, List.mem_cons] at hs
      rcases hs with hs | rfl | hs
      · obtain ⟨r', hr', hf, rfl⟩ := start_mem hs
        exact ngAN r hrA r' hr'
      · refine Bool.eq_false_iff.mpr fun z => ?_
        have := (goesOn_iff.mp z).1
        rw [e] at this
        cases this
        omega
      · obtain ⟨m, r', rfl, rfl, rfl, he⟩ := rest_mem s hs
        refine Bool.eq_false_iff.mpr fun z => ?_
        have := (goesOn_iff.mp z).1
        rw [e] at this
        have h3 := vm m rfl
        simp only [Option.some.injEq] at this
        omega
    rw [joinR, List.foldl_append, List.foldl_append, eA, ← eM]
    refine fold_self (fun r hr => nz r (mB hr)) ngB fun r b hr hb => ?_
    have hb' : b ∈ B := List.mem_of_head? hb
    obtain ⟨m, r', rfl, rfl, he, _⟩ := B_bef b hb'
    have e2 : midR (N ++ [r']) f (some m) v = startR f (N ++ [r']) ++ (f, some m, v) :: afterR N m ++ [(max r'.1 (m + 1), r'.2.1, r'.2.2)] := by
      show startR f (N ++ [r']) ++ (f, some m, v) :: afterR (N ++ [r']) m = _
      rw [after_app]
      simp [afterR, he]
    rw [e2] at hr
    have hz : r'.2.2 ≠ nn := nz r' (by simp)
    have e3 := fold_last (s := (max r'.1 (m + 1), r'.2.1, r'.2.2)) hz hr
    have e4 := ngXB r' (by simp) b hb'
    simp only [goesOn] at e4 ⊢
    rw [e3]
    exact e4
  obtain ⟨j1, j2⟩ := join_norm (nn := nn) asc
  rw [joined] at j1 j2
  refine ⟨j1, fun d => ?_⟩
  rw [j2, lookR, lookR]
  have cA : f - 1 ≤ d → cover A d = none := fun h => cover_none fun r hr => by
    obtain ⟨k, e, hk⟩ := lastA r hr
    exact Bool.eq_false_iff.mpr fun z => by have := (hasD_iff.mp z).2 k e; omega
  have cS : f ≤ d → cover (startR f (N ++ R)) d = none := fun h => cover_none fun s hs => by
    obtain ⟨r, hr, hf, rfl⟩ := start_mem hs
    exact Bool.eq_false_iff.mpr fun z => by have := (hasD_iff.mp z).2 (f - 1) rfl; omega
  have eC : cover (A ++ midR (N ++ R) f l v ++ B) d = (cover A d).or ((cover (startR f (N ++ R)) d).or ((if hasD (f, l, v) d = true then some v else cover (restR l (N ++ R)) d).or (cover B d))) := by
    simp only [midR, cover_append, cover, Option.or_assoc]
  have eR : cover (A ++ (N ++ R) ++ B) d = (cover A d).or ((cover (N ++ R) d).or (cover B d)) := by
    simp only [cover_append, Option.or_assoc]
  rw [eC, eR]
  by_cases hs : hasD (f, l, v) d = true
  · have hd := (hasD_iff.mp hs).1
    simp only at hd
    rw [cA (by omega), cS hd, if_pos hs, if_pos hs]
    simp
  · rw [if_neg hs, if_neg hs]
    by_cases hd : d < f
    · have c1 : cover (restR l (N ++ R)) d = none := cover_none fun s hs' => by
        obtain ⟨m, r, rfl, rfl, rfl, he⟩ := rest_mem s hs'
        refine Bool.eq_false_iff.mpr fun z => ?_
        have h1 := (hasD_iff.mp z).1
        have h2 := vm m rfl
        simp only at h1
        omega
      rw [start_cover hd hN, c1]
      simp
    · have hl : ∃ m, l = some m ∧ m < d := by
        cases l with
        | none => exact absurd (hasD_iff.mpr ⟨by show f ≤ d; omega, fun _ e => by cases e⟩) hs
        | some m =>
          refine ⟨m, rfl, ?_⟩
          apply Classical.byContradiction
          intro hm
          exact hs (hasD_iff.mpr ⟨by show f ≤ d; omega, fun k e => by cases e; omega⟩)
      obtain ⟨m, rfl, hm⟩ := hl
      rw [cS (by omega)]
      show ((cover A d).or ((none : Option α).or ((cover (afterR (N ++ R) m) d).or (cover B d)))).getD nn = _
      rw [after_cover hm]
      simp
theorem fold_mem {ss : List (Rn α)} : ∀ {acc : List (Rn α)} {r : Rn α}, r ∈ ss.foldl (pushR nn) acc → (∃ x ∈ acc, x.2.2 = r.2.2) ∨ ∃ s ∈ ss, s.2.2 = r.2.2 ∧ s.2.2 ≠ nn := by
  induction ss with
  | nil => intro acc r h; exact .inl ⟨r, h, rfl⟩
  | cons s t ih =>
    intro acc r h
    rcases ih (show r ∈ t.foldl (pushR nn) (pushR nn acc s) from h) with ⟨x, hx, e⟩ | ⟨s', hs, e⟩
    · rcases push_cases acc s (nn := nn) with ⟨h1, e1⟩ | ⟨h1, g, e1⟩ | ⟨h1, a, r', rfl, g, e1⟩ <;> rw [e1] at hx
      · exact .inl ⟨x, hx, e⟩
      · rcases List.mem_append.mp hx with hx | hx
        · exact .inl ⟨x, hx, e⟩
        · rw [List.mem_singleton] at hx; subst hx
          exact .inr ⟨x, List.mem_cons_self, e, h1⟩
      · rcases List.mem_append.mp hx with hx | hx
        · exact .inl ⟨x, by simp [hx], e⟩
        · rw [List.mem_singleton] at hx; subst hx
          exact .inr ⟨s, List.mem_cons_self, e, h1⟩
    · exact .inr ⟨s', List.mem_cons_of_mem _ hs, e⟩
theorem join_mem {ss : List (Rn α)} {r : Rn α} (h : r ∈ joinR nn ss) : ∃ s ∈ ss, s.2.2 = r.2.2 ∧ s.2.2 ≠ nn := by
  rcases fold_mem h with ⟨x, hx, _⟩ | h
  · cases hx
  · exact h
theorem push_len {acc : List (Rn α)} {s : Rn α} : (pushR nn acc s).length ≤ acc.length + 1 := by
  rcases push_cases acc s (nn := nn) with ⟨h1, e1⟩ | ⟨h1, g, e1⟩ | ⟨h1, a, r', rfl, g, e1⟩ <;> rw [e1] <;> simp
theorem fold_len {ss : List (Rn α)} : ∀ {acc : List (Rn α)}, (ss.foldl (pushR nn) acc).length ≤ acc.length + ss.length := by
  induction ss with
  | nil => intro acc; simp
  | cons s t ih =>
    intro acc
    have h1 := ih (acc := pushR nn acc s)
    have h2 := push_len (nn := nn) (acc := acc) (s := s)
    rw [List.foldl_cons, List.length_cons]
    omega
theorem join_len {ss : List (Rn α)} : (joinR nn ss).length ≤ ss.length := by
  have := fold_len (nn := nn) (ss := ss) (acc := [])
  rw [List.length_nil, Nat.zero_add] at this
  exact this
theorem place_le {rs : List (Rn α)} {d : Int} : placeR rs d ≤ rs.length := by
  induction rs with
  | nil => simp [placeR]
  | cons r t ih =>
    simp only [placeR, List.takeWhile] at ih ⊢
    split
    · simpa using ih
    · simp
theorem place_take {rs : List (Rn α)} {d : Int} : ∀ r ∈ rs.take (placeR rs d), endsB d r = true := by
  induction rs with
  | nil => simp
  | cons r t ih =>
    simp only [placeR, List.takeWhile]
    split
    · rename_i h
      simp only [List.length_cons, List.take_succ_cons]
      intro x hx
      rcases List.mem_cons.mp hx with rfl | hx
      · exact h
      · exact ih x hx
    · simp
theorem place_drop {rs : List (Rn α)} (a : AscR rs) {d : Int} : ∀ r ∈ rs.drop (placeR rs d), endsB d r = false := by
  induction rs with
  | nil => simp
  | cons r t ih =>
    simp only [placeR, List.takeWhile]
    split
    · rename_i h
      simp only [List.length_cons, List.drop_succ_cons]
      exact ih a.tail
    · rename_i h
      simp only [List.length_nil, List.drop_zero]
      intro x hx
      rcases List.mem_cons.mp hx with rfl | hx
      · simpa using h
      · obtain ⟨l, e, hl⟩ := (List.pairwise_cons.mp a.2).1 x hx
        have h1 := endsB_not.mp (by simpa using h) l e
        refine endsB_not.mpr fun k e2 => ?_
        have := a.1 x (List.mem_cons_of_mem _ hx) k e2
        omega
theorem place_mono {rs : List (Rn α)} (a : AscR rs) {d d' : Int} (h : d ≤ d') : placeR rs d ≤ placeR rs d' := by
  apply Classical.byContradiction
  intro hn
  have hlt : placeR rs d' < placeR rs d := by omega
  have hl := Nat.lt_of_lt_of_le hlt (place_le (rs := rs) (d := d))
  have h1 : endsB d rs[placeR rs d'] = true := place_take (rs := rs) _ (by
    rw [List.mem_iff_getElem?]
    exact ⟨placeR rs d', by rw [List.getElem?_take]; simp [hlt]⟩)
  have h2 : endsB d' rs[placeR rs d'] = false := place_drop a _ (by
    rw [List.mem_iff_getElem?]
    exact ⟨0, by rw [List.getElem?_drop]; simp⟩)
  obtain ⟨l, e, hl⟩ := endsB_iff.mp h1
  have := endsB_not.mp h2 l e
  omega
theorem look_place {rs : List (Rn α)} (a : AscR rs) {d : Int} : lookR nn rs d = match rs[placeR rs d]? with
    | none => nn
    | some r => if r.1 ≤ d then r.2.2 else nn := by
  have h1 : cover (rs.take (placeR rs d)) d = none := cover_none fun r hr => by
    obtain ⟨l, e, hl⟩ := endsB_iff.mp (place_take r hr)
    exact Bool.eq_false_iff.mpr fun z => by have := (hasD_iff.mp z).2 l e; omega
  have h2 := place_drop a (d := d)
  have h3 : (rs.drop (placeR rs d)).Pairwise Bef := a.2.sublist (List.drop_sublist _ _)
  have h4 : rs[placeR rs d]? = (rs.drop (placeR rs d))[0]? := by rw [List.getElem?_drop]; rfl
  have h5 : ∀ r ∈ rs.drop (placeR rs d), ValR r := fun r hr => a.1 r (List.mem_of_mem_drop hr)
  rw [lookR, ← List.take_append_drop (placeR rs d) rs, cover_append, h1, List.take_append_drop, h4]
  generalize rs.drop (placeR rs d) = t at *
  cases t with
  | nil => rfl
  | cons r t =>
    show ((none : Option α).or (cover (r :: t) d)).getD nn = if r.1 ≤ d then r.2.2 else nn
    simp only [cover, Option.none_or]
    by_cases hd : r.1 ≤ d
    · rw [if_pos hd, if_pos (hasD_iff.mpr ⟨hd, endsB_not.mp (h2 r List.mem_cons_self)⟩)]
      rfl
    · rw [if_neg hd, if_neg fun z => hd (hasD_iff.mp z).1, cover_none]
      · rfl
      · intro x hx
        refine Bool.eq_false_iff.mpr fun z => ?_
        obtain ⟨l, e, hl⟩ := (List.pairwise_cons.mp h3).1 x hx
        have g1 := (hasD_iff.mp z).1
        have g2 := h5 r List.mem_cons_self l e
        omega
theorem give_norm {rs : List (Rn α)} {f : Int} {l : Option Int} {v : α} (n : NormR nn rs) (vs : ValR (f, l, v)) :
    NormR nn (giveR nn rs f l v) ∧ ∀ d, lookR nn (giveR nn rs f l v) d = if hasD (f, l, v) d = true then v else lookR nn rs d := by
  have asc := n.1
  have hle : placeR rs (f - 1) ≤ hiR rs l := by
    cases l with
    | none => exact place_le
    | some m => exact Nat.le_succ_of_le (place_mono asc (by have := vs m rfl; show f - 1 ≤ m + 1; simp only at this; omega))
  have split3 : rs = rs.take (placeR rs (f - 1)) ++ nearR rs f l ++ rs.drop (hiR rs l) := by
    have e1 : (rs.drop (placeR rs (f - 1))).take (hiR rs l - placeR rs (f - 1)) ++ rs.drop (hiR rs l) = rs.drop (placeR rs (f - 1)) := by
      have := List.take_append_drop (hiR rs l - placeR rs (f - 1)) (rs.drop (placeR rs (f - 1)))
      rw [List.drop_drop, Nat.add_sub_of_le hle] at this
      exact this
    rw [List.append_assoc, nearR, e1, List.take_append_drop]
  have nearMem : ∀ r ∈ nearR rs f l, endsB (f - 1) r = false := fun r hr => place_drop asc r (List.mem_of_mem_take hr)
  have key : ∀ N R, nearR rs f l = N ++ R → ((l = none ∧ R = [] ∧ rs.drop (hiR rs l) = []) ∨ ∃ m, l = some m ∧ (∀ r ∈ N, endsB (m + 1) r = true) ∧ ((R = [] ∧ rs.drop (hiR rs l) = []) ∨ ∃ r, R = [r] ∧ endsB (m + 1) r = false)) →
      NormR nn (giveR nn rs f l v) ∧ ∀ d, lookR nn (giveR nn rs f l v) d = if hasD (f, l, v) d = true then v else lookR nn rs d := by
    intro N R e hc
    have n' := n
    rw [split3, e] at n'
    have := give_core (v := v) n' vs place_take (fun r hr => nearMem r (by rw [e]; exact hr)) hc
    rw [← e, ← split3] at this
    exact this
  cases l with
  | none => exact key _ [] (List.append_nil _).symm (.inl ⟨rfl, rfl, by simp [hiR]⟩)
  | some m =>
    have hlo : placeR rs (f - 1) ≤ placeR rs (m + 1) := place_mono asc (by have := vs m rfl; simp only at this; omega)
    by_cases hlen : placeR rs (m + 1) < rs.length
    · refine key ((rs.drop (placeR rs (f - 1))).take (placeR rs (m + 1) - placeR rs (f - 1))) [rs[placeR rs (m + 1)]] ?_ (.inr ⟨m, rfl, fun r hr => ?_, .inr ⟨_, rfl, ?_⟩⟩)
      · rw [nearR, hiR, Nat.sub_add_comm hlo, List.take_succ, List.getElem?_drop, Nat.add_sub_of_le hlo]
        simp [hlen]
      · refine place_take (d := m + 1) (rs := rs) r ?_
        rw [← List.drop_take] at hr
        exact List.mem_of_mem_drop hr
      · refine place_drop asc _ (by
          rw [List.mem_iff_getElem?]
          exact ⟨0, by rw [List.getElem?_drop]; simp [hlen]⟩)
    · have e : placeR rs (m + 1) = rs.length := Nat.le_antisymm place_le (by omega)
      refine key _ [] (List.append_nil _).symm (.inr ⟨m, rfl, fun r hr => ?_, .inl ⟨rfl, by simp [hiR, e]⟩⟩)
      refine place_take (d := m + 1) (rs := rs) r ?_
      rw [e, List.take_length]
      exact List.mem_of_mem_drop (List.mem_of_mem_take hr)
theorem near_mem {rs : List (Rn α)} {f : Int} {l : Option Int} {r : Rn α} (h : r ∈ nearR rs f l) : r ∈ rs := List.mem_of_mem_drop (List.mem_of_mem_take h)
theorem mid_mem {near : List (Rn α)} {f : Int} {l : Option Int} {v : α} {s : Rn α} (h : s ∈ midR near f l v) : (∃ r ∈ near, r.2.2 = s.2.2) ∨ s.2.2 = v := by
  simp only [midR, List.mem_append, List.mem_cons] at h
  rcases h with h | rfl | h
  · obtain ⟨r, hr, _, rfl⟩ := start_mem h
    exact .inl ⟨r, hr, rfl⟩
  · exact .inr rfl
  · cases l with
    | none => cases h
    | some m =>
      obtain ⟨r, hr, _, rfl⟩ := after_mem h
      exact .inl ⟨r, hr, rfl⟩
theorem give_mem {rs : List (Rn α)} {f : Int} {l : Option Int} {v : α} {r : Rn α} (h : r ∈ giveR nn rs f l v) : (∃ x ∈ rs, x.2.2 = r.2.2) ∨ r.2.2 = v := by
  simp only [giveR, List.mem_append] at h
  rcases h with (h | h) | h
  · exact .inl ⟨r, List.mem_of_mem_take h, rfl⟩
  · obtain ⟨s, hs, e, _⟩ := join_mem h
    rcases mid_mem hs with ⟨x, hx, e2⟩ | e2
    · exact .inl ⟨x, near_mem hx, e2.trans e⟩
    · exact .inr (e.symm.trans e2)
  · exact .inl ⟨r, List.mem_of_mem_drop h, rfl⟩
theorem start_len {near : List (Rn α)} {f : Int} : (startR f near).length ≤ near.length := by
  simp only [startR, List.length_map]
  exact List.length_filter_le _ _
theorem after_len {near : List (Rn α)} {m : Int} : (afterR near m).length ≤ near.length := by
  simp only [afterR, List.length_map]
  exact List.length_filter_le _ _
theorem mid_len {near : List (Rn α)} {f : Int} {l : Option Int} {v : α} : (midR near f l v).length ≤ 2 * near.length + 1 := by
  have h1 := start_len (near := near) (f := f)
  simp only [midR, List.length_append, List.length_cons]
  cases l with
  | none => simp only [restR, List.length_nil]; omega
  | some m =>
    have h2 := after_len (near := near) (m := m)
    simp only [restR]
    omega
theorem near_len {rs : List (Rn α)} {f : Int} {l : Option Int} : (nearR rs f l).length ≤ rs.length := by
  simp only [nearR, List.length_take, List.length_drop]
  omega
/-- of runs that do not end ahead of the day before f, one at most begins ahead of f -/
theorem start_one {near : List (Rn α)} {f : Int} (p : near.Pairwise Bef) (h : ∀ r ∈ near, endsB (f - 1) r = false) : (startR f near).length ≤ 1 := by
  simp only [startR, List.length_map]
  induction near with
  | nil => simp
  | cons r t ih =>
    obtain ⟨p1, p2⟩ := List.pairwise_cons.mp p
    by_cases hr : r.1 < f
    · have e : t.filter (fun r => decide (r.1 < f)) = [] := List.filter_eq_nil_iff.mpr fun x hx => by
        obtain ⟨l, e, hl⟩ := p1 x hx
        have := endsB_not.mp (h r List.mem_cons_self) l e
        simp
        omega
      simp [hr, e]
    · simp only [hr, decide_false, Bool.false_eq_true, not_false_eq_true, List.filter_cons_of_neg]
      exact ih p2 fun x hx => h x (List.mem_cons_of_mem _ hx)
theorem after_app1 {near : List (Rn α)} {x : Rn α} {m : Int} (h : ∀ r ∈ near, endsB (m + 1) r = true) : (afterR (near ++ [x]) m).length ≤ 1 := by
  rw [after_app, after_none h]
  simp only [List.nil_append, afterR, List.length_map]
  exact List.length_filter_le _ _
theorem give_len {rs : List (Rn α)} {f : Int} {l : Option Int} {v : α} (n : NormR nn rs) (vs : ValR (f, l, v)) : (giveR nn rs f l v).length ≤ rs.length + 3 := by
  have asc := n.1
  have p : (nearR rs f l).Pairwise Bef := asc.2.sublist ((List.take_sublist _ _).trans (List.drop_sublist _ _))
  have h1 := start_one p fun r hr => place_drop asc r (List.mem_of_mem_take hr)
  have hm : (restR l (nearR rs f l)).length ≤ 1 := by
    cases l with
    | none => simp [restR]
    | some m =>
      have hlo : placeR rs (f - 1) ≤ placeR rs (m + 1) := place_mono asc (by have := vs m rfl; simp only at this; omega)
      simp only [restR, nearR, hiR]
      rw [Nat.sub_add_comm hlo, List.take_succ]
      have hN : ∀ r ∈ (rs.drop (placeR rs (f - 1))).take (placeR rs (m + 1) - placeR rs (f - 1)), endsB (m + 1) r = true := fun r hr => by
        refine place_take (d := m + 1) (rs := rs) r ?_
        rw [← List.drop_take] at hr
        exact List.mem_of_mem_drop hr
      cases (rs.drop (placeR rs (f - 1)))[placeR rs (m + 1) - placeR rs (f - 1)]? with
      | none => simp only [Option.toList, List.append_nil]; rw [after_none hN]; simp
      | some x => exact after_app1 hN
  have hj := join_len (nn := nn) (ss := midR (nearR rs f l) f l v)
  have e : (midR (nearR rs f l) f l v).length = (startR f (nearR rs f l)).length + ((restR l (nearR rs f l)).length + 1) := by simp [midR]
  have hlo : placeR rs (f - 1) ≤ hiR rs l := by
    cases l with
    | none => exact place_le
    | some m => exact Nat.le_succ_of_le (place_mono asc (by have := vs m rfl; simp only at this; omega))
  simp only [giveR, List.length_append, List.length_take, List.length_drop]
  omega
/-- two tables of the same values have the same runs -/
theorem norm_one {rs : List (Rn α)} : ∀ {rs' : List (Rn α)}, NormR nn rs → NormR nn rs' → (∀ d, lookR nn rs d = lookR nn rs' d) → rs = rs' := by
  have tl : ∀ {r : Rn α} {t : List (Rn α)}, NormR nn (r :: t) → NormR nn t := fun n => ⟨n.1.tail, fun x hx => n.2.1 x (List.mem_cons_of_mem _ hx), (List.pairwise_cons.mp n.2.2).2⟩
  have hd : ∀ {r : Rn α} {t : List (Rn α)}, NormR nn (r :: t) → lookR nn (r :: t) r.1 = r.2.2 := fun {r t} n => by
    have h : hasD r r.1 = true := hasD_iff.mpr ⟨Int.le_refl _, n.1.1 r List.mem_cons_self⟩
    simp [lookR, cover, h]
  have lo : ∀ {r : Rn α} {t : List (Rn α)} {d : Int}, NormR nn (r :: t) → d < r.1 → lookR nn (r :: t) d = nn := fun {r t d} n h => by
    rw [lookR, cover_none]
    · rfl
    · intro x hx
      refine Bool.eq_false_iff.mpr fun z => ?_
      have h1 := (hasD_iff.mp z).1
      rcases List.mem_cons.mp hx with rfl | hx
      · omega
      · obtain ⟨l, e, hl⟩ := (List.pairwise_cons.mp n.1.2).1 x hx
        have := n.1.1 r List.mem_cons_self l e
        omega
  have un : ∀ {r r' : Rn α} {t t' : List (Rn α)}, NormR nn (r :: t) → NormR nn (r' :: t') → (∀ d, lookR nn (r :: t) d = lookR nn (r' :: t') d) → r.1 = r'.1 → r.2.2 = r'.2.2 → ∀ l, r.2.1 = some l → ∀ k, (r'.2.1 = some k → l < k) → (r'.2.1 = some k ∨ r'.2.1 = none) → False := by
    intro r r' t t' n n' h e1 e2 l el k hk hk2
    have vr := n.1.1 r List.mem_cons_self l el
    have hr' : hasD r' (l + 1) = true := hasD_iff.mpr ⟨by omega, fun m em => by
      rcases hk2 with h2 | h2
      · rw [h2] at em; cases em; have := hk h2; omega
      · rw [h2] at em; cases em⟩
    have h1 := h (l + 1)
    have hr : hasD r (l + 1) = false := Bool.eq_false_iff.mpr fun z => by have := (hasD_iff.mp z).2 l el; omega
    simp only [lookR, cover, hr', if_true, hr, Bool.false_eq_true, if_false, Option.getD_some] at h1
    have nz := n'.2.1 r' List.mem_cons_self
    cases hc : cover t (l + 1) with
    | none => rw [hc] at h1; exact nz h1.symm
    | some v =>
      rw [hc] at h1
      obtain ⟨x, hx, hx2, hx3⟩ := cover_some hc
      obtain ⟨l', el', hl'⟩ := (List.pairwise_cons.mp n.1.2).1 x hx
      rw [el] at el'; cases el'
      have h3 := (hasD_iff.mp hx2).1
      have g := (List.pairwise_cons.mp n.2.2).1 x hx
      have : goesOn r x = true := goesOn_iff.mpr ⟨by rw [el]; congr 1; omega, by rw [hx3, e2]; exact h1.symm⟩
      rw [this] at g; cases g
  induction rs with
  | nil =>
    intro rs' n n' h
    cases rs' with
    | nil => rfl
    | cons r' t' =>
      have := h r'.1
      rw [hd n'] at this
      exact absurd this.symm (n'.2.1 r' List.mem_cons_self)
  | cons r t ih =>
    intro rs' n n' h
    cases rs' with
    | nil =>
      have := h r.1
      rw [hd n] at this
      exact absurd this (n.2.1 r List.mem_cons_self)
    | cons r' t' =>
      have e1 : r.1 = r'.1 := by
        rcases Int.lt_trichotomy r.1 r'.1 with h1 | h1 | h1
        · have := h r.1
          rw [hd n, lo n' h1] at this
          exact absurd this (n.2.1 r List.mem_cons_self)
        · exact h1
        · have := h r'.1
          rw [hd n', lo n h1] at this
          exact absurd this.symm (n'.2.1 r' List.mem_cons_self)
      have e2 : r.2.2 = r'.2.2 := by
        have := h r.1
        rw [hd n] at this
        rw [this, e1, hd n']
      have e3 : r.2.1 = r'.2.1 := by
        cases el : r.2.1 with
        | none =>
          cases el' : r'.2.1 with
          | none => rfl
          | some l' => exact (un n' n (fun d => (h d).symm) e1.symm e2.symm l' el' 0 (fun z => by rw [el] at z; cases z) (.inr el)).elim
        | some l =>
          cases el' : r'.2.1 with
          | none => exact (un n n' h e1 e2 l el 0 (fun z => by rw [el'] at z; cases z) (.inr el')).elim
          | some l' =>
            rcases Int.lt_trichotomy l l' with h1 | h1 | h1
            · exact (un n n' h e1 e2 l el l' (fun _ => h1) (.inl el')).elim
            · rw [h1]
            · exact (un n' n (fun d => (h d).symm) e1.symm e2.symm l' el' l (fun _ => h1) (.inl el)).elim
      have er : r = r' := by
        obtain ⟨a, b, c⟩ := r
        obtain ⟨a', b', c'⟩ := r'
        simp only at e1 e2 e3
        rw [e1, e2, e3]
      subst er
      congr 1
      refine ih (tl n) (tl n') fun d => ?_
      by_cases hr : hasD r d = true
      · have k : ∀ {t : List (Rn α)}, NormR nn (r :: t) → cover t d = none := fun n => cover_none fun x hx => Bool.eq_false_iff.mpr fun z => by
          have := has_after ((List.pairwise_cons.mp n.1.2).1 x hx) z
          rw [hr] at this; cases this
        rw [lookR, lookR, k n, k n']
      · have := h d
        simpa [lookR, cover, hr] using this
theorem rev_ind {α : Type} {C : List α → Prop} (h0 : C []) (hs : ∀ xs x, C xs → C (xs ++ [x])) (xs : List α) : C xs := by
  have h : ∀ ys : List α, C ys.reverse := by
    intro ys
    induction ys with
    | nil => exact h0
    | cons y t ih => rw [List.reverse_cons]; exact hs _ _ ih
  have := h xs.reverse
  rwa [List.reverse_reverse] at this
/-- the value of the latest stretch that has the day -/
def paintR {α : Type} (nn : α) (ss : List (Rn α)) (d : Int) : α := ss.foldl (fun a r => if hasD r d = true then r.2.2 else a) nn
theorem paint_snoc {ss : List (Rn α)} {r : Rn α} {d : Int} : paintR nn (ss ++ [r]) d = if hasD r d = true then r.2.2 else paintR nn ss d := by
  simp [paintR, List.foldl_append]
theorem paint_step {ss : List (Rn α)} {i : Nat} {r : Rn α} {d : Int} (e : ss[i]? = some r) : paintR nn (ss.take (i + 1)) d = if hasD r d = true then r.2.2 else paintR nn (ss.take i) d := by
  rw [List.take_succ, e]
  exact paint_snoc
theorem paint_mem {ss : List (Rn α)} {d : Int} : paintR nn ss d = nn ∨ ∃ r ∈ ss, paintR nn ss d = r.2.2 := by
  refine rev_ind (C := fun ss => paintR nn ss d = nn ∨ ∃ r ∈ ss, paintR nn ss d = r.2.2) (.inl rfl) (fun ss r ih => ?_) ss
  show paintR nn (ss ++ [r]) d = nn ∨ ∃ x ∈ ss ++ [r], paintR nn (ss ++ [r]) d = x.2.2
  rw [paint_snoc]
  split
  · exact .inr ⟨r, by simp, rfl⟩
  · rcases ih with h | ⟨x, hx, h⟩
    · exact .inl h
    · exact .inr ⟨x, by simp [hx], h⟩
/-- a day on which a stretch begins, or the day after its last one -/
def EdgeR {α : Type} (ss : List (Rn α)) (d : Int) : Prop := ∃ r ∈ ss, r.1 = d ∨ ∃ l, r.2.1 = some l ∧ d = l + 1
end
end Vf
set_option maxHeartbeats 2000000
/-! tables in the heap -/
namespace Vf
open PySem PySem.Spec PyProof.Rows L2
abbrev Run := Rn V
@[reducible] def runV (r : Run) : List V := [.int r.1, optI r.2.1, r.2.2]
inductive RunsAt (H : Hp) : List V → List Run → Prop where
  | nil : RunsAt H [] []
  | cons {t : Addr} {xs : List V} {r : Run} {rs : List Run} : H t = some (.tup (runV r)) → RunsAt H xs rs → RunsAt H (.ref t :: xs) (r :: rs)
section
variable {H H' : Hp} {xs ys : List V} {rs ss : List Run}
theorem RunsAt.len (h : RunsAt H xs rs) : xs.length = rs.length := by
  induction h with
  | nil => rfl
  | cons _ _ ih => simp [ih]
theorem RunsAt.tp (h : RunsAt H xs rs) (e : Tp H H') : RunsAt H' xs rs := by
  induction h with
  | nil => exact .nil
  | cons h _ ih => exact .cons (e _ _ h) ih
theorem RunsAt.ex (h : RunsAt H xs rs) (e : Ex H H') : RunsAt H' xs rs := h.tp e.tp
theorem RunsAt.at (h : RunsAt H xs rs) : ∀ {i : Nat} {r : Run}, rs[i]? = some r → ∃ t, xs[i]? = some (.ref t) ∧ H t = some (.tup (runV r)) := by
  induction h with
  | nil => intro i r e; simp at e
  | @cons t xs r' rs ht _ ih =>
    intro i r e
    cases i with
    | zero => simp at e; subst e; exact ⟨t, rfl, ht⟩
    | succ i => simpa using ih (by simpa using e)
theorem RunsAt.at' (h : RunsAt H xs rs) {i : Nat} {x : V} (e : xs[i]? = some x) : ∃ t r, x = .ref t ∧ rs[i]? = some r ∧ H t = some (.tup (runV r)) := by
  have hi : i < rs.length := by rw [← h.len]; exact (List.getElem?_eq_some_iff.mp e).1
  obtain ⟨t, h1, h2⟩ := h.at (List.getElem?_eq_getElem hi)
  rw [e] at h1
  exact ⟨t, _, Option.some.inj h1, List.getElem?_eq_getElem hi, h2⟩
theorem RunsAt.app (h : RunsAt H xs rs) (g : RunsAt H ys ss) : RunsAt H (xs ++ ys) (rs ++ ss) := by
  induction h with
  | nil => exact g
  | cons h _ ih => exact .cons h ih
theorem RunsAt.one {t : Addr} {r : Run} (h : H t = some (.tup (runV r))) : RunsAt H [.ref t] [r] := .cons h .nil
theorem RunsAt.take (h : RunsAt H xs rs) : ∀ n, RunsAt H (xs.take n) (rs.take n) := by
  induction h with
  | nil => intro n; simpa using RunsAt.nil
  | cons h _ ih =>
    intro n
    cases n with
    | zero => exact .nil
    | succ n => exact .cons h (ih n)
theorem RunsAt.drop (h : RunsAt H xs rs) : ∀ n, RunsAt H (xs.drop n) (rs.drop n) := by
  induction h with
  | nil => intro n; simpa using RunsAt.nil
  | cons h g ih =>
    intro n
    cases n with
    | zero => exact .cons h g
    | succ n => exact ih n
theorem RunsAt.split (h : RunsAt H (xs ++ ys) rs) : ∃ r1 r2, rs = r1 ++ r2 ∧ RunsAt H xs r1 ∧ RunsAt H ys r2 := by
  refine ⟨rs.take xs.length, rs.drop xs.length, (List.take_append_drop _ _).symm, ?_, ?_⟩
  · simpa using h.take xs.length
  · simpa using h.drop xs.length
theorem RunsAt.snoc {a : List Run} {r : Run} (h : RunsAt H xs (a ++ [r])) : ∃ ys t, xs = ys ++ [.ref t] ∧ RunsAt H ys a ∧ H t = some (.tup (runV r)) := by
  have h1 := h.take a.length
  have h2 := h.drop a.length
  rw [List.take_left] at h1
  rw [List.drop_left] at h2
  generalize e : xs.drop a.length = zs at h2
  cases h2 with
  | cons ht g =>
    cases g
    exact ⟨xs.take a.length, _, by rw [← e, List.take_append_drop], h1, ht⟩
/-- the same list of items, changed at the end -/
theorem ixN_last {n : Nat} (h : 0 < n) : ixN n (-1) = some (n - 1) := by
  unfold ixN
  rw [if_neg (by omega), if_pos (by omega)]
  congr 1
  omega
theorem set_last {ys : List V} {x y : V} : (ys ++ [x]).set ys.length y = ys ++ [y] := by simp
end
/-- the table of the class C at p, its runs in the list at l -/
def TabAt (C : Addr) (H : Hp) (p l : Addr) (rs : List Run) : Prop := ∃ dx xs, H p = some (.ins C dx [("_runs", .ref l)]) ∧ H l = some (.lst xs) ∧ RunsAt H xs rs
theorem TabAt.ex {C : Addr} {H H' : Hp} {p l : Addr} {rs : List Run} (h : TabAt C H p l rs) (e : Ex H H') : TabAt C H' p l rs := by
  obtain ⟨dx, xs, h1, h2, h3⟩ := h
  exact ⟨dx, xs, e _ _ h1, e _ _ h2, h3.ex e⟩
/-- a list that is not the table's changes -/
theorem TabAt.but {C : Addr} {H H' : Hp} {p l q : Addr} {rs : List Run} {ys : List V} (h : TabAt C H p l rs) (b : But q H H') (hq : H q = some (.lst ys)) (n : l ≠ q) : TabAt C H' p l rs := by
  obtain ⟨dx, xs, h1, h2, h3⟩ := h
  exact ⟨dx, xs, b _ _ (ne_of h1 hq (by intro z; cases z)) h1, b _ _ n h2, h3.tp (b.tpL hq)⟩
theorem TabAt.lst {C : Addr} {H : Hp} {p l : Addr} {rs : List Run} (h : TabAt C H p l rs) : ∃ xs, H l = some (.lst xs) := by
  obtain ⟨dx, xs, h1, h2, h3⟩ := h
  exact ⟨xs, h2⟩
/-- what a table holds is worth something, and in order -/
def Good (rs : List Run) : Prop := NormR .non rs ∧ ∀ r ∈ rs, Worth r.2.2
theorem OptW.worth {v : V} (h : OptW v) (n : v ≠ .non) : Worth v := by
  cases h with
  | non => exact absurd rfl n
  | w h => exact h
theorem Good.nil : Good [] := ⟨.nil, fun _ h => by cases h⟩
theorem Good.give {rs : List Run} {f : Int} {l : Option Int} {v : V} (g : Good rs) (vs : ValR (f, l, v)) (hv : OptW v) : Good (giveR .non rs f l v) := by
  have n := (give_norm g.1 vs).1
  refine ⟨n, fun r hr => ?_⟩
  have ne := n.2.1 r hr
  rcases give_mem hr with ⟨x, hx, e⟩ | e
  · rw [← e]; exact g.2 x hx
  · rw [e] at ne ⊢; exact hv.worth ne
theorem cutV_nat {xs : List V} {i j : Nat} (h1 : i ≤ xs.length) (h2 : i ≤ j) : cutV xs (some (i : Int)) (some (j : Int)) = (xs.drop i).take (j - i) := by
  unfold cutV
  rw [HT.sIx_nat, HT.sIx_nat, Nat.min_eq_left h1]
  rcases Nat.le_total j xs.length with h | h
  · rw [Nat.min_eq_left h]
  · rw [Nat.min_eq_right h, List.take_of_length_le (by simp), List.take_of_length_le (by simp; omega)]
section
variable {σ : L2.St} {H : Hp} {nx bk ct : L2.St → Hp → Prop} {rt : VK} {c : TT} {tb : TS}
theorem r_while (W : Nat → L2.St → Hp → Prop) (m0 : Nat) (w0 : W m0 σ H) (t : ∀ m σ H, W m σ H → c σ H fun b H1 => if b = true then ∃ N : L2.St → Hp → Prop, (∀ σ' H', N σ' H' → ∃ m', m' < m ∧ W m' σ' H') ∧ tb ⟨N, rt, nx, N⟩ σ H1 else nx σ H1) :
    tWhile c tb ⟨nx, rt, bk, ct⟩ σ H := ⟨W, ⟨m0, w0⟩, t⟩
end
section
variable {K : PySem.W.Frag} {σ : L2.St} {H : Hp} {Q : VK} {QL : List V → Hp → Prop} {ta : TE} {tl : TA} {p : Addr} {xs : List V} {B : Bool → Prop}
theorem r_star (q : ta σ H fun x H1 => ∃ p xs, x = V.ref p ∧ (SqT K H1 p xs ∨ SqL K H1 p xs) ∧ tl σ H1 fun ys H2 => QL (xs ++ ys) H2) : StX.tStar K ta tl σ H QL := q
theorem r_starL {B : List V → Prop} (h : H p = some (.lst xs)) (q : B xs) : ∃ p' xs', V.ref p = V.ref p' ∧ (SqT K H p' xs' ∨ SqL K H p' xs') ∧ B xs' := ⟨p, xs, rfl, .inr (.of h), q⟩
theorem r_truL (h : SqL K H p xs) (q : B (!xs.isEmpty)) : ∃ k, TruV K (.ref p) H k ∧ B k := ⟨_, .inl ⟨xs, h, rfl⟩, q⟩
def TruW (K : PySem.W.Frag) (QB : Bool → Hp → Prop) (x : V) (H' : Hp) : Prop := ∃ k, TruV K x H' k ∧ QB k H'
theorem r_tSl {r : V → Option Int → Option Int → Hp → VK → Prop} {tl th : TO} (q : ta σ H fun x H1 => tl σ H1 fun l H2 => th σ H2 fun u H3 => r x l u H3 Q) : tSl r ta tl th σ H Q := q
theorem r_part {R : Option Int → Hp → Prop} (q : ta σ H fun x H1 => ∃ i, x = .int i ∧ R (some i) H1) : tPart ta σ H R := q
theorem r_partI {i : Int} {B : Int → Prop} (q : B i) : ∃ j, V.int i = .int j ∧ B j := ⟨i, rfl, q⟩
theorem r_slL {lo hi : Option Int} (h : SqL K H p xs) (q : ∀ c, H c = none → ∀ H', H' = upd H c (.lst (cutV xs lo hi)) → Q (.ref c) (upd H c (.lst (cutV xs lo hi)))) : rSlL K (.ref p) lo hi H Q := ⟨p, xs, rfl, h, fun c hc => q c hc _ rfl⟩
end
end Vf
set_option maxHeartbeats 4000000
/-! set(xs), xs a list of ints, with the order that sorted asks for -/
namespace Vf
open PySem PySem.Spec PyProof.Rows L2
section
variable {P : Program} {w : World} {A : Around} {E : Value → Shared → Prop} {s : Shared}
@[reducible] def fs0 (w : World) : Obj := { cls := .type "set", dict := none, data := .set #[] 0 (.fresh 0 0 (!w.params.followText "set-order")) }
theorem set_lst {l : Addr} {its : Array Value} (ns : List Int) {Q : Value → Shared → Prop} (hh : A.handled = none) (hl : s.heap.IsList l its) (hit : IntsAre its.toList ns) (hb : ns.length + 1 < scanBound)
    (h : ∀ (h' : Heap) (tk c : Nat), SetR w h' s.heap.objs.size (fun j => decide (j ∈ ns)) c → c ≤ ns.length → (∀ b o, s.heap.get? b = some o → h'.get? b = some o) → Q (.ref s.heap.objs.size) { s with heap := h', toks := tk }) :
    wpAny (model P w) A (call (.type "set") [.ref l]) Q E s := by
  have hz : its.size = ns.length := by have q := IntsAre.length hit; rw [Array.length_toList] at q; exact q
  obtain ⟨c, tl, hmro⟩ := F.called_set.mro
  have made := F.called_set.made; have sub := F.called_set.sub
  refine wpAny_call (codeAny_of_tree ?_); show wpAny _ _ (callAny (.type "set") _) _ _ _
  refine wpAny_pure ⟨Code.quiet_builtin _ (by decide +kernel), codeAny_builtin F.entry_type_call ?_⟩; rw [Around.under_plain (weight_type_call_type "set" [.ref l] []) rfl]
  have n1 := F.called_set.notType; have n2 := F.called_set.canCreate; have n3 := F.typeCall_set_1 (.ref l)
  repeat (any_goals (first | assumption | wp_step))
  refine codeAny_mono (code_set_led1 (.ref l) (E := E) (Q₁ := fun ob s1 => ob = .ref s.heap.objs.size ∧ s1 = { s with heap := s.heap.push { cls := .type "set", dict := none, data := .set #[] 0 (.fresh 0 0 (!w.params.followText "set-order")) } }) ⟨rfl, rfl⟩) fun r s1 hr => ?_
  cases r with
  | error e => exact hr
  | ok fl =>
    cases fl with
    | next => exact hr.elim
    | brk => exact hr.elim
    | cont => exact hr.elim
    | ret ob =>
      obtain ⟨rfl, rfl⟩ := hr
      have g0 : (s.heap.push (fs0 w)).get? s.heap.objs.size = some (fs0 w) := Heap.get?_push_size _ rfl
      have ty : Shared.TypeIs { s with heap := s.heap.push { cls := .type "set", dict := none, data := .set #[] 0 (.fresh 0 0 (!w.params.followText "set-order")) } } (.ref s.heap.objs.size) "set" := ⟨_, g0, rfl⟩
      have i1 := F.called_set.init.lookup; have i2 := F.called_set.init.bind (.ref s.heap.objs.size)
      repeat (any_goals (first | assumption | wp_step))
      refine codeAny_mono (codeAny_call_builtin (R := wants (fun r s2 => r = .none ∧ ∃ h' tk c, s2 = { s with heap := h', toks := tk } ∧ SetR w h' s.heap.objs.size (fun j => decide (j ∈ ns)) c ∧ c ≤ ns.length ∧ (∀ b o, s.heap.get? b = some o → h'.get? b = some o)) E)
        F.called_set.init.plain F.entry_set_init (check_set_init_1 ty ?_)) fun r2 s2 hr2 => ?_
      · obtain ⟨ol, hol, hcl, nl, hdl⟩ := hl
        obtain ⟨oc, od, oa, os⟩ := ol
        simp only at hcl hdl; subst hcl; subst hdl
        have g1 : (s.heap.push { cls := .type "set", dict := none, data := .set #[] 0 (.fresh 0 0 (!w.params.followText "set-order")) }).get? l = some { cls := .type "list", dict := od, data := .seq its nl, slots := os } := Heap.get?_push_of_some _ hol
        have s1 := F.sub_list_set; have s2 := F.sub_list_frozenset; have nd : (Value.type "list" == Value.type "dict") = false := by decide
        have L1 : (s.heap.push { cls := .type "set", dict := none, data := .set #[] 0 (.fresh 0 0 (!w.params.followText "set-order")) }).IsList l its := ⟨_, g1, rfl, nl, rfl⟩
        unfold Builtin.«set.__init__» noKeywords Builtin.Frozenset.updateFrom
        generalize hPI : pyIter = PI
        wp_walk
        subst hPI
        refine wpAny_pyIter_list L1 ?_; refine wpAny_bind (wpAny_runValue ?_)
        have lS : l < s.heap.objs.size := Heap.lt_size hol
        have h3 : A.in1.in1.in1.handled = none := by simp [hh]
        have nI : l ≠ (s.heap.push (fs0 w)).objs.size := by rw [Heap.size_push]; exact Nat.ne_of_lt (Nat.lt_succ_of_lt lS)
        have nS : s.heap.objs.size ∉ [(s.heap.push (fs0 w)).objs.size, l] := by
          rw [Heap.size_push]; simp only [List.mem_cons, List.mem_singleton, List.not_mem_nil, or_false, not_or]; exact ⟨Nat.ne_of_lt (Nat.lt_succ_self _), Nat.ne_of_gt lS⟩
        have val : ∀ (i : Nat) (v : Value), its[i]? = some v → ∃ k t, ns[i]? = some k ∧ v = .int k t := fun i v hv => by
          have hi : i < ns.length := by rw [← hz]; exact (Array.getElem?_eq_some_iff.mp hv).1
          obtain ⟨t, e⟩ := IntsAre.int_at hit i v (by rw [Array.getElem?_toList]; exact hv)
          exact ⟨ns[i], t, List.getElem?_eq_getElem hi, by rw [e, List.getD_eq_getElem?_getD, List.getElem?_eq_getElem hi] <;> rfl⟩
        refine set_update_ints ((Walks.list h3 _ l nI its).toS) s.heap.objs.size nS ns hz hb val (its.size - 0) 0 _ (by omega) (Nat.zero_le _) ⟨⟨_, Heap.get?_push_size _ rfl, rfl, rfl⟩, (L1.push _)⟩ ?a0 ?aR
        case a0 => exact ⟨0, Nat.le_refl 0, setR_new_at (Heap.get?_push_of_some _ g0)⟩
        case aR =>
          intro s' c' hm hc' hS'
          obtain ⟨h', g2, d', tk', os'⟩ := s'
          obtain rfl : g2 = s.gens := hm.gens; obtain rfl : d' = s.drawn := hm.drawn; obtain rfl : os' = s.os := hm.os
          show wpAny _ _ _ _ _ _
          refine wpAny_pure ?_; show wpAny _ _ (ret Value.none) _ _ _
          rw [hz] at hc'
          refine wpAny_pure ⟨rfl, h', tk', c', rfl, hS', hc', fun b o e => hm.heap b o ?_ (Heap.get?_push_of_some _ (Heap.get?_push_of_some _ e))⟩
          have b0 : b < s.heap.objs.size := Heap.lt_size e
          have b2 : b ≠ (s.heap.push (fs0 w)).objs.size := by rw [Heap.size_push]; exact Nat.ne_of_lt (Nat.lt_succ_of_lt b0)
          simp only [List.mem_cons, List.mem_singleton, List.not_mem_nil, or_false, not_or]; exact ⟨Nat.ne_of_lt b0, b2⟩
      · cases r2 with
        | error e => exact hr2
        | ok f2 =>
          cases f2 with
          | next => exact hr2.elim
          | brk => exact hr2.elim
          | cont => exact hr2.elim
          | ret r =>
            obtain ⟨rfl, h', tk, c', rfl, hS', hc', hk'⟩ := hr2
            repeat (any_goals (first | assumption | wp_step))
            exact h _ _ _ hS' hc' hk'
end
section
variable {X : Cx}
def rSetI (K : PySem.W.Frag) (w : World) : List V → Hp → VK → Prop := fun xs H Q => ∃ (l : Addr) (ns : List Int), xs = [.ref l] ∧ SqL K H l (ns.map V.int) ∧ ns.length ≤ 1000 ∧ ∀ a c, H a = none → c ≤ ns.length → Q (.ref a) (upd H a (SetO w a (fun j => decide (j ∈ ns)) c))
theorem cr_setI (hc : X.calm = true) : CallR X (.type "set") (rSetI X.K X.w) := by
  intro pins s σ H xs us Q I r h
  obtain ⟨l, ns, rfl, hs, hn, q⟩ := h
  rw [Vals.ref1 r]
  obtain ⟨its, rv, pl, hz⟩ := I.list hs
  have hi := ints_of_vals rv
  refine set_lst ns (I.ok.hd hc) pl.isList (by simpa using hi) (by unfold scanBound; omega) fun h' tk c hS hc' hk => ?_
  have hnew : H s.heap.objs.size = none := I.hok.fresh (Nat.le_refl _)
  have J : Inv X pins σ (upd H s.heap.objs.size (SetO X.w s.heap.objs.size (fun j => decide (j ∈ ns)) c)) { s with heap := h', toks := tk } := I.laid (t' := tk) hk (Nat.le_refl _) (setO_new hS)
  exact ⟨.ref s.heap.objs.size, _, J, rfl, q _ c hnew hc'⟩
end
/-! lists of ints, compared -/
theorem ints_shaped (ns : List Int) : SeqAt.shaped (.list (ns.map PyData.int)) = true := by
  have h1 : PyData.canLayAll0 (ns.map PyData.int) = true := by
    induction ns with
    | nil => rfl
    | cons b r ih => simp [PyData.canLayAll0, PyData.canLay0, ih]
  have h2 : PyData.depthAll (ns.map PyData.int) ≤ 1 := by
    clear h1
    induction ns with
    | nil => simp [PyData.depthAll]
    | cons b r ih => simp only [List.map_cons, PyData.depthAll, PyData.depth]; omega
  have h4 : PyData.depthAll (ns.map PyData.int) + 1 ≤ 64 := by omega
  show (PyData.canLayAll0 (ns.map PyData.int) && decide (PyData.depthAll (ns.map PyData.int) + 1 ≤ 64)) = true
  rw [h1, decide_eq_true h4]
  rfl
theorem ints_dp {K : PySem.W.Frag} {H : Hp} {p : Addr} {ns : List Int} (h : H p = some (.lst (ns.map V.int))) : Dp K H (.ref p) (.list (ns.map PyData.int)) := by
  refine .lst (.of h) ?_
  clear h
  induction ns with
  | nil => exact .nil
  | cons b r ih => exact .cons (.int b) ih
theorem r_eqNil {K : PySem.W.Frag} {H : Hp} {Q : VK} {p q : Addr} {ns : List Int} (h1 : H p = some (.lst (ns.map V.int))) (h2 : H q = some (.lst [])) (k : Q (.bl ns.isEmpty) H) : rEqD K (.ref p) (.ref q) H Q := by
  refine ⟨_, _, ints_dp h1, ints_dp (ns := []) h2, ints_shaped ns, ints_shaped [], ?_⟩
  have e : PyData.eqv (.list (ns.map PyData.int)) (.list (([] : List Int).map PyData.int)) = ns.isEmpty := by
    cases ns <;> rfl
  rw [e]
  exact k
theorem Bag.new {H : Hp} {b p : Addr} {k : Nat} (B : Bag H b k) (h : H p = none) : p ≠ b := by
  obtain ⟨_, hl⟩ := B.lst
  exact (ne_of_none hl h).symm
/-- what is new now was new before, but for the bag -/
theorem But.new {H H' : Hp} {b p : Addr} (e : But b H H') (h : H' p = none) (n : p ≠ b) : H p = none := by
  cases hq : H p with
  | none => rfl
  | some o => rw [e _ _ n hq] at h; cases h
end Vf
set_option maxHeartbeats 2000000
namespace Vf
open PySem PySem.Spec PyProof.Rows L2
/-! lists of stretches in the heap; where ways join -/
def LstAt (H : Hp) (a : Addr) (ss : List Run) : Prop := ∃ xs, H a = some (.lst xs) ∧ RunsAt H xs ss
theorem LstAt.ex {H H' : Hp} {a : Addr} {ss : List Run} (h : LstAt H a ss) (e : Ex H H') : LstAt H' a ss := by
  obtain ⟨xs, h1, h2⟩ := h
  exact ⟨xs, e _ _ h1, h2.ex e⟩
theorem LstAt.but {H H' : Hp} {a q : Addr} {ss : List Run} {ys : List V} (h : LstAt H a ss) (b : But q H H') (hq : H q = some (.lst ys)) (n : a ≠ q) : LstAt H' a ss := by
  obtain ⟨xs, h1, h2⟩ := h
  exact ⟨xs, b _ _ n h1, h2.tp (b.tpL hq)⟩
theorem LstAt.ne {H : Hp} {a q : Addr} {ss : List Run} (h : LstAt H a ss) (hq : H q = none) : a ≠ q := by
  obtain ⟨xs, h1, h2⟩ := h
  exact ne_of_none h1 hq
theorem TabAt.ne {C : Addr} {H : Hp} {p l q : Addr} {rs : List Run} (h : TabAt C H p l rs) (hq : H q = none) : l ≠ q := by
  obtain ⟨dx, xs, h1, h2, h3⟩ := h
  exact ne_of_none h2 hq
theorem LstAt.snoc {H H' : Hp} {a t : Addr} {ss : List Run} {xs : List V} {r : Run} (h : RunsAt H xs ss) (hx : H a = some (.lst xs)) (b : But a H H') (h' : H' a = some (.lst (xs ++ [.ref t]))) (ht : H t = some (.tup (runV r))) : LstAt H' a (ss ++ [r]) :=
  ⟨_, h', (h.tp (b.tpL hx)).app (.one (b.tpL hx _ _ ht))⟩
theorem free2 {H : Hp} {x dx l : Addr} {o o' : HO} (h : upd (upd H dx o) x o' l = none) : H l = none := by
  by_cases e : l = x
  · subst e; rw [upd_same] at h; cases h
  · rw [upd_ne e] at h
    by_cases e2 : l = dx
    · subst e2; rw [upd_same] at h; cases h
    · rw [upd_ne e2] at h; exact h
def tJoin (s : TS) : TS := s
theorem ps_join {X : Cx} {st : Stmt} {t : TS} (h : PS X st t) : PS X st (tJoin t) := h
theorem r_join {s : TS} {σ : L2.St} {H : Hp} {nx bk ct : L2.St → Hp → Prop} {rt : VK} (N : L2.St → Hp → Prop) (q : ∀ R' : L2.St → Hp → Prop, (∀ σ' H', N σ' H' → R' σ' H') → s ⟨R', rt, bk, ct⟩ σ H) (k : ∀ σ' H', N σ' H' → nx σ' H') : tJoin s ⟨nx, rt, bk, ct⟩ σ H := q nx k
end Vf
set_option maxHeartbeats 4000000
/-! list(o), len(o) of an own class whose __iter__ gives an iterator of a list -/
namespace Vf
open PySem PySem.Spec PyProof.Rows L2
structure SeqC (K : PySem.W.Frag) (C fi fl : Addr) : Prop where
  it : PySem.W.findIn K (.ref C) "__iter__" = some (some (.ref fi))
  itF : PySem.W.isFn K (.ref fi) = true
  ln : PySem.W.findIn K (.ref C) "__len__" = some (some (.ref fl))
  lnF : PySem.W.isFn K (.ref fl) = true
/-- __iter__ and __len__ of a thing that keeps its items in the list at its field f -/
def spIterF (C : Addr) (f : Str) : Sp := fun vs H Q _ => ∃ (a dx l : Addr) (fs : List (Str × V)) (xs : List V), vs = [.ref a] ∧ H a = some (.ins C dx fs) ∧ fs.lookup f = some (.ref l) ∧ H l = some (.lst xs) ∧ ∀ it, H it = none → (∀ b o, H b = some o → b < it) → Q (.ref it) (upd H it (ItO l it 0))
def spLenF (C : Addr) (f : Str) : Sp := fun vs H Q _ => ∃ (a dx l : Addr) (fs : List (Str × V)) (xs : List V), vs = [.ref a] ∧ H a = some (.ins C dx fs) ∧ fs.lookup f = some (.ref l) ∧ H l = some (.lst xs) ∧ Q (.int xs.length) H
section
variable {X : Cx} {pins : List (Addr × Obj)} {σ : L2.St} {H : Hp} {s : Shared} {C fi fl : Addr} {f : Str} {fdI fdL : FuncData} {psI psL : List Str} {n : Nat} {A1 : Around}
/-- a def of ours runs where A1 stands -/
theorem run_sub {k : Nat} {g : Addr} {fd : FuncData} {ps : List Str} {sp : Sp} {Q : VK} {us : List Value} {vs : List V} {Ee : Value → Shared → Prop} (sb : Sub X k A1) (F : FnOk X.prog X.w X.K X.mg X.base CX0 k g fd ps sp) (hb : Binds X.K fd ps [])
    (I : Inv X pins σ H s) (r : Vals vs us) (h : sp vs H Q E0) : wpAny (model X.prog X.w) A1 (call (.ref g) us) (fun u s' => CE X.stack X.prog X.w H s Q u s') Ee s := by
  have e0 : Env0 X.prog X.w X.K X.mg X.base A1 X.stack s H := by
    have e := I.env0
    exact ⟨by rw [sb.fr]; exact e.frames, e.mod, e.bs, e.bsz, e.funs, e.frf, e.hok, e.bare⟩
  have hl : (us ++ []).length = ps.length := by rw [List.append_nil, ← r.length]; exact F.len _ _ _ _ h
  refine wpAny_call (codeAny_mono (F.run A1 X.stack s H ⟨us, []⟩ us vs Q E0 sb.room e0 (by have := hb s us I.kIn hl; simpa using this) r h) fun res s' hq => ?_)
  cases res with
  | error er => exact False.elim hq
  | ok fw =>
    cases fw with
    | ret u => exact hq
    | next => exact False.elim hq
    | brk => exact False.elim hq
    | cont => exact False.elim hq
/-- len(o) -/
def rLenOwn (C : Addr) (f : Str) : List V → Hp → VK → Prop := fun xs H Q => ∃ (a dx l : Addr) (fs : List (Str × V)) (ys : List V), xs = [.ref a] ∧ H a = some (.ins C dx fs) ∧ fs.lookup f = some (.ref l) ∧ H l = some (.lst ys) ∧ Q (.int ys.length) H
theorem len_at {Q : Value → Shared → Prop} {a dx l : Addr} {ys : List V} {Ee : Value → Shared → Prop} (sb : Sub X (n + 1) A1) (hc : SeqC X.K C fi fl) (FL : FnOk X.prog X.w X.K X.mg X.base CX0 n fl fdL psL (spLenF C f)) (bL : Binds X.K fdL psL [])
    (I : Inv X pins σ H s) {fs : List (Str × V)} (ha : H a = some (.ins C dx fs)) (hff : fs.lookup f = some (.ref l)) (hl : H l = some (.lst ys)) (q : ∀ tk s', Inv X pins σ H s' → Q (.int ys.length tk) s') : wpAny (model X.prog X.w) A1 (call (.builtin "len") [.ref a]) Q Ee s := by
  obtain ⟨mA, J, _⟩ := ins_get I.hok ha
  obtain ⟨od, J, _⟩ := J.look
  obtain ⟨m0, hF⟩ := I.fr
  have hz := (I.lstM hl).1
  refine PySem.W.len_K hF I.ok.mod.kin J hc.ln hc.lnF ?_
  refine wpAny_mono (run_sub sb.in1 FL bL I (us := [.ref a]) (vs := [.ref a]) (.cons rfl .nil) (Q := fun v H' => v = .int ys.length ∧ H' = H) ⟨a, dx, l, fs, ys, rfl, ha, hff, hl, rfl, rfl⟩) (fun u s' h => ?_) fun _ _ e => e
  obtain ⟨v, H', I', rv, ev, eH⟩ := I.after h
  subst ev; subst eH
  obtain ⟨tk, rfl⟩ := (show ∃ t, u = Value.int ys.length t from rv)
  refine ⟨⟨by omega, ?_⟩, q _ _ (I'.tok _)⟩
  have : ys.length < 2 ^ 63 := Nat.lt_of_le_of_lt hz (by rw [sizeLine_eq]; decide)
  omega
theorem call_lenOwn (hc : SeqC X.K C fi fl) (FL : FnOk X.prog X.w X.K X.mg X.base CX0 n fl fdL psL (spLenF C f)) (bL : Binds X.K fdL psL []) (hr : Room (n + 1) X.A) : CallR X (.builtin "len") (rLenOwn C f) := by
  intro pins s σ H xs us Q I rv h
  obtain ⟨a, dx, l, fs, ys, rfl, ha, hff, hl, q⟩ := h
  obtain ⟨u, rfl, ru⟩ := rv.one
  cases ru
  exact len_at (⟨hr, rfl⟩ : Sub X (n + 1) X.A) hc FL bL I ha hff hl fun tk s' I' => ⟨.int ys.length, H, I', ⟨tk, rfl⟩, q⟩
/-! list(o) -/
theorem hint_own {Q : Bool → Shared → Prop} {a dx l : Addr} {ys : List V} {Ee : Value → Shared → Prop} (sb : Sub X (n + 1) A1) (hc : SeqC X.K C fi fl) (FL : FnOk X.prog X.w X.K X.mg X.base CX0 n fl fdL psL (spLenF C f)) (bL : Binds X.K fdL psL [])
    (I : Inv X pins σ H s) {fs : List (Str × V)} (ha : H a = some (.ins C dx fs)) (hff : fs.lookup f = some (.ref l)) (hl : H l = some (.lst ys)) (q : ∀ b s', Inv X pins σ H s' → Q b s') : wpAny (model X.prog X.w) A1 (Builtin.List.listLengthHint (.ref a)) Q Ee s := by
  obtain ⟨mA, J, _⟩ := ins_get I.hok ha
  obtain ⟨od, J, _⟩ := J.look
  have hz := (I.lstM hl).1
  unfold Builtin.List.listLengthHint
  refine wpAny_bind (wpAny_bind (J.type.here ((PySem.W.looks_findIn I.kIn hc.ln).here ?_)))
  refine PySem.W.KFB.if_not rfl ?_
  refine PySem.W.KFB.if_so rfl ?_
  refine wpAny_bind (wpAny_rule (wpAny_bind (wpAny_attempt (len_at sb hc FL bL I ha hff hl fun tk s' I' => ?_))))
  refine wpAny_bind (wpAny_pure ?_)
  have : Builtin.List.listTooLong (ys.length : Int).toNat = false := by unfold Builtin.List.listTooLong; simp; omega
  refine PySem.W.KFB.if_not this ?_
  exact wpAny_pure (q _ _ I')
theorem loop_own {q it l : Addr} {ys : List V} {Rs : Result → Shared → Prop} (hh : A1.in1.handled = none) (I : Inv X pins σ H s) (hq : H q = some (.lst [])) (hl : H l = some (.lst ys)) (hne : q ≠ l) (hit : s.heap.get? it = some (GNX.itObj l 0)) (fp : FpOk X pins H it)
    (done : ∀ s', Inv X pins σ (upd H q (.lst ys)) s' → Rs (.ok (.ret .none)) s') : codeAny (model X.prog X.w) A1 (.builtin "list.extend.loop" ⟨[.ref q, .ref it, .none], []⟩) Rs s := by
  obtain ⟨z1, its, n1, r1, hlen, g1⟩ := I.lstM hl
  obtain ⟨z2, jts, n2, r2, _, g2⟩ := I.lstM hq
  cases r2
  have nlit : l ≠ it := ne_of_none hl fp.1
  have nqit : q ≠ it := ne_of_none hq fp.1
  have L1 : s.heap.IsList l its.toArray := PySem.IsL.isList g1
  refine codeAny_extend_loopS (Walks.list hh it l nlit its.toArray).toS (by rw [List.size_toArray, ← hlen]; exact z1) q (by simp [nqit, hne]) .none (its.toArray.size - 0) 0 s #[] n2 rfl (Nat.zero_le _) ⟨⟨_, hit, rfl, rfl⟩, L1⟩ g2 (ItemsOf.nil _) fun s' acc c' hm hS hacc => done s' ?_
  have eacc : acc = its.toArray := by
    refine Array.ext hacc.1 fun j h1 h2 => ?_
    have : its.toArray[j]? = some acc[j] := hacc.2 j acc[j] (by simp [h1])
    rw [Array.getElem?_eq_getElem h2] at this
    exact (Option.some.inj this).symm
  subst eacc
  obtain ⟨h', g', d', t', os'⟩ := s'
  obtain rfl : g' = s.gens := hm.gens
  obtain rfl : d' = s.drawn := hm.drawn
  obtain rfl : os' = s.os := hm.os
  have hmh : ∀ b o, b ≠ q → b ≠ it → s.heap.get? b = some o → h'.get? b = some o := fun b o b1 b2 e => hm.heap b o (by simp [b1, b2]) e
  have IA : Inv X pins σ H { s with heap := h'.update q (fun _ => { cls := .type "list", data := .seq #[] n2 }), toks := t' } := by
    refine I.turned (it := it) (fun b o hb e => ?_) fp.1 fp.2.1 fp.2.2.2.1 fp.2.2.2.2.1 fp.2.2.2.2.2
    by_cases hbq : b = q
    · subst hbq
      rw [g2] at e
      cases e
      exact Heap.get?_update_self _ hS rfl
    · rw [Heap.get?_update_other _ _ (Ne.symm hbq)]
      exact hmh b o hbq hb e
  exact IA.write (x := q) (e := q) (h' := h') (t' := t') (by rw [hq]; exact trivial) (.inl rfl) (fun b u hb e => by rw [← Heap.get?_update_other h' (fun _ => { cls := .type "list", data := .seq #[] n2 }) (Ne.symm hb)]; exact e) ⟨_, hS⟩ ⟨z1, its, _, r1, hS⟩
theorem ext_own {q a dx l : Addr} {ys : List V} {Rs : Result → Shared → Prop} (hh : A1.in1.handled = none) (sb : Sub X (n + 1) A1.in1) (hc : SeqC X.K C fi fl) (FI : FnOk X.prog X.w X.K X.mg X.base CX0 n fi fdI psI (spIterF C f)) (bI : Binds X.K fdI psI [])
    (FL : FnOk X.prog X.w X.K X.mg X.base CX0 n fl fdL psL (spLenF C f)) (bL : Binds X.K fdL psL []) (I : Inv X pins σ H s) {fs : List (Str × V)} (ha : H a = some (.ins C dx fs)) (hff : fs.lookup f = some (.ref l)) (hl : H l = some (.lst ys)) (hq : H q = some (.lst [])) (hne : q ≠ l) (hy : ∀ it, q < it → H it = none → FpOk X pins H it)
    (done : ∀ s', Inv X pins σ (upd H q (.lst ys)) s' → Rs (.ok (.ret .none)) s') :
    wpAny (model X.prog X.w) A1.in1 (Builtin.List.listExtendWith (.ref q) (.ref a) .none) (fun fin s' => match fin with | .done f => Rs (.ok f) s' | .again c' => c'.quiet = true ∧ codeAny (model X.prog X.w) A1 c' Rs s') (fun e s' => Rs (.error e) s') s := by
  have nqa : q ≠ a := ne_of hq ha (fun z => nomatch z)
  obtain ⟨mA, J, _⟩ := ins_get I.hok ha
  obtain ⟨od, J, _⟩ := J.look
  obtain ⟨m0, hF⟩ := I.fr
  unfold Builtin.List.listExtendWith
  refine wpAny_bind (J.type.here ?_)
  have k1 : Builtin.List.listSameRef (.ref q) (.ref a) = false := by simp [Builtin.List.listSameRef, nqa]
  simp only [k1, show (Value.ref C == Value.type "list") = false from rfl, show (Value.ref C == Value.type "tuple") = false from rfl, Bool.or_false, Bool.false_eq_true, if_false]
  refine wpAny_bind (PySem.W.owit_iter hF I.ok.mod.kin J hc.it hc.itF ?_)
  refine wpAny_mono (run_sub (sb.mono (Nat.le_succ _)) FI bI I (us := [.ref a]) (vs := [.ref a]) (.cons rfl .nil) (Q := fun v H' => ∃ it, v = .ref it ∧ H it = none ∧ (∀ b o, H b = some o → b < it) ∧ H' = upd H it (ItO l it 0)) ⟨a, dx, l, fs, ys, rfl, ha, hff, hl, fun it hit big => ⟨it, rfl, hit, big, rfl⟩⟩) (fun u s1 h => ?_) fun _ _ e => e
  obtain ⟨v, H', I', rv, it, ev, hit, big, eH⟩ := I.after h
  subst ev; subst eH
  obtain rfl : u = Value.ref it := rv
  have fp : FpOk X pins H it := hy it (big q _ hq) hit
  have gi : s1.heap.get? it = some (GNX.itObj l 0) := itO_get I' upd_same
  unfold PySem.W.OwitIt
  refine wpAny_specialOf (show s1.TypeIs (.ref it) "list_iterator" from ⟨_, gi, rfl⟩) slot_listiter_next.lookup ?_
  show wpAny _ _ _ _ _ _
  refine wpAny_bind (wpAny_holding (hint_own sb hc FL bL I' (by rw [upd_ne (ne_of_none ha hit)]; exact ha) hff (by rw [upd_ne (ne_of_none hl hit)]; exact hl) fun b s2 I2 => ?_))
  have gi3 : s2.heap.get? it = some (GNX.itObj l 0) := itO_get I2 upd_same
  have I3 : Inv X pins σ H s2 := by
    have := ItX.inv_drop (φ := fun h => h.get? it = some (GNX.itObj l 0)) I2 upd_same
    rwa [ItX.dropH_upd hit] at this
  have nqit : q ≠ it := ne_of_none hq hit
  obtain ⟨z4, its, n4, r4, _, g4⟩ := I3.lstM hq
  cases r4
  refine wpAny_ite_split (fun _ => ?_) (fun _ => wpAny_pure ⟨plainId_quiet PySem.F.plain_extend_loop _, loop_own hh I3 hq hl hne gi3 fp done⟩)
  refine wpAny_bind (wpAny_rule ?_)
  refine wpAny_bind ?_
  show wpAny _ _ (updateSeq q (·.push .none) >>= fun _ => updateSeq q (·.pop)) _ _ _
  refine wpAny_bind (wpAny_updateSeq g4 rfl ?_)
  have J2 := I3.lset (f := (·.push Value.none)) (its' := [Value.none]) (ys := [.non]) (t' := s2.toks) hq g4 (by simp) (.cons rfl .nil) (by rw [List.length_singleton, sizeLine_eq]; decide)
  obtain ⟨z5, its5, n5, r5, _, g5⟩ := J2.lstM upd_same
  obtain ⟨u5, rfl, ru5⟩ := r5.one
  refine wpAny_updateSeq g5 rfl ?_ (by show 1 ≤ sizeLine; rw [sizeLine_eq]; decide) (by show 0 ≤ sizeLine + 1; exact Nat.zero_le _)
  have J3 := J2.lset (f := (·.pop)) (its := [u5]) (its' := []) (ys := []) (t' := s2.toks) upd_same g5 (by rfl) .nil (Nat.zero_le _)
  rw [upd_upd] at J3
  have hH : upd H q (.lst []) = H := by
    funext b
    by_cases hb : b = q
    · rw [hb, upd_same, hq]
    · rw [upd_ne hb]
  rw [hH] at J3
  refine wpAny_pure ⟨plainId_quiet PySem.F.plain_extend_loop _, loop_own hh J3 hq hl hne ?_ fp done⟩
  show ((s2.heap.update q (Obj.mapSeq (·.push Value.none))).update q (Obj.mapSeq (·.pop))).get? it = some (GNX.itObj l 0)
  rw [Heap.get?_update_other _ _ nqit, Heap.get?_update_other _ _ nqit]
  exact gi3
def rListOwn (C : Addr) (f : Str) (n : Nat) : List V → Hp → VK → Prop := fun xs H Q => ∃ (a dx l : Addr) (fs : List (Str × V)) (ys : List V), xs = [.ref a] ∧ H a = some (.ins C dx fs) ∧ fs.lookup f = some (.ref l) ∧ H l = some (.lst ys) ∧ ∀ q H', H q = none → n ≤ q → Ex H H' → H' q = some (.lst ys) → Q (.ref q) H'
theorem call_listF (hk : X.calm = true) (hc : SeqC X.K C fi fl) (FI : FnOk X.prog X.w X.K X.mg X.base CX0 n fi fdI psI (spIterF C f)) (bI : Binds X.K fdI psI []) (FL : FnOk X.prog X.w X.K X.mg X.base CX0 n fl fdL psL (spLenF C f)) (bL : Binds X.K fdL psL []) (hr : Room (n + 3) X.A) :
    CallR X (.type "list") (rListOwn C f X.s_0.heap.objs.size) := by
  intro pins s σ H xs us Q I rv h
  obtain ⟨a, dx, l, fs, ys, rfl, ha, hff, hl, qq⟩ := h
  obtain ⟨u, rfl, ru⟩ := rv.one
  cases ru
  have sb : Sub X (n + 1) X.A.in1.in1 := (Sub.in1 (Sub.in1 (⟨hr, rfl⟩ : Sub X (n + 1 + 2) X.A)))
  refine callType_codes (Q₁ := fun ob s1 => ob = .ref s.heap.objs.size ∧ s1 = { s with heap := s.heap.push { cls := .type "list", data := .seq #[] } }) PySem.F.called_list (PySem.F.typeCall_list_1 _) PySem.F.entry_list_init (code_list_new _ ⟨rfl, rfl⟩) fun ob s1 h1 => ?_
  obtain ⟨rfl, rfl⟩ := h1
  have g0 : (s.heap.push { cls := .type "list", data := .seq #[] }).get? s.heap.objs.size = some { cls := .type "list", data := .seq #[] } := Heap.get?_push_size _ rfl
  refine ⟨⟨_, g0, rfl⟩, PySem.F.args_list_init_2 _ _, ?_⟩
  have fr : H s.heap.objs.size = none := I.hok.fresh (Nat.le_refl _)
  have I1 : Inv X pins σ (upd H s.heap.objs.size (.lst [])) { s with heap := s.heap.push { cls := .type "list", data := .seq #[] } } := I.lnew (its := []) (t' := s.toks) .nil (Nat.zero_le _)
  show wpAny _ _ (do let old ← Builtin.List.listItems (.ref s.heap.objs.size); Builtin.List.listUpdate (.ref s.heap.objs.size) (fun _ => #[]); letGo old.toList.reverse; Builtin.List.listExtendWith (.ref s.heap.objs.size) (.ref a) .none) _ _ _
  refine wpAny_bind ?_; unfold Builtin.List.listItems; refine wpAny_bind (wpAny_seqItems g0 rfl (wpAny_pure ?_))
  show wpAny _ _ (updateSeq s.heap.objs.size (fun _ => #[]) >>= fun _ => letGo (#[] : Array Value).toList.reverse >>= fun _ => Builtin.List.listExtendWith (.ref s.heap.objs.size) (.ref a) .none) _ _ _
  refine wpAny_bind (wpAny_updateSeq g0 rfl ?_)
  have I2 := I1.lset (f := fun _ => #[]) (its := []) (its' := []) (ys := []) (t' := s.toks) upd_same g0 rfl .nil (Nat.zero_le _)
  rw [upd_upd] at I2
  refine wpAny_bind (wpAny_letGo ?_)
  have na : a ≠ s.heap.objs.size := ne_of_none ha fr
  have nl : l ≠ s.heap.objs.size := ne_of_none hl fr
  exact ext_own (A1 := X.A.in1) (Rs := wants (fun r s₂ => r = .none ∧ EP X pins σ Q (.ref s.heap.objs.size) s₂) X.xe) (I.ok.hd hk) sb hc FI bI FL bL I2 (by rw [upd_ne na]; exact ha) hff (by rw [upd_ne nl]; exact hl) upd_same nl.symm
    (fun it hlt hn => by
      have f0 := I.fpOk (H' := upd H s.heap.objs.size (.lst [])) (Nat.le_of_lt hlt) hn
      exact f0) fun s' I' => ⟨rfl, .ref s.heap.objs.size, _, I', rfl, by rw [upd_upd]; exact qq _ _ fr I.sz (Ex.new fr) upd_same⟩
/-- iter(xs): the new place is behind all that is known -/
def rIterY (K : PySem.W.Frag) : List V → Hp → VK → Prop := fun xs H Q => ∃ (l : Addr) (zs : List V), xs = [.ref l] ∧ SqL K H l zs ∧ ∀ it, H it = none → (∀ b o, H b = some o → b < it) → Q (.ref it) (upd H it (ItO l it 0))
theorem call_iterY : CallR X (.builtin "iter") (rIterY X.K) := by
  intro pins s σ H xs us Q I r h
  obtain ⟨l, zs, rfl, hq, q⟩ := h
  obtain rfl := Vals.ref1 r
  obtain ⟨its, rv, pl, hz⟩ := I.list hq
  have fr : H s.heap.objs.size = none := I.hok.fresh (Nat.le_refl _)
  exact GNX.call_iter pl.isList ⟨.ref s.heap.objs.size, _, I.laid (t' := s.toks) (fun b u e => Heap.get?_push_of_some _ e) (Nat.le_refl _) (itO_ok (Heap.get?_push_size _ rfl)), rfl, q _ fr fun b o e => Nat.not_le.mp fun hle => by rw [I.hok.fresh hle] at e; cases e⟩
theorem r_iterY {K : PySem.W.Frag} {Q : VK} {l : Addr} {zs : List V} (h : SqL K H l zs) (q : ∀ it, H it = none → (∀ b o, H b = some o → b < it) → Q (.ref it) (upd H it (ItO l it 0))) : rIterY K [.ref l] H Q := ⟨l, zs, rfl, h, q⟩
theorem r_listOwn {Q : VK} {a dx l : Addr} {ys : List V} {n : Nat} {fs : List (Str × V)} (h : H a = some (.ins C dx fs)) (hff : fs.lookup f = some (.ref l)) (hl : H l = some (.lst ys)) (q : ∀ c H', H c = none → n ≤ c → Ex H H' → H' c = some (.lst ys) → Q (.ref c) H') : rListOwn C f n [.ref a] H Q := ⟨a, dx, l, fs, ys, rfl, h, hff, hl, q⟩
theorem r_lenOwn {Q : VK} {a dx l : Addr} {ys : List V} {fs : List (Str × V)} (h : H a = some (.ins C dx fs)) (hff : fs.lookup f = some (.ref l)) (hl : H l = some (.lst ys)) (q : Q (.int ys.length) H) : rLenOwn C f [.ref a] H Q := ⟨a, dx, l, fs, ys, rfl, h, hff, hl, q⟩
/-- for x in o -/
def iOwn (K : PySem.W.Frag) (C : Addr) (f : Str) (n : Nat) (te : TE) : TI := fun σ H R => te σ H fun v H1 => ∃ (a dx l : Addr) (fs : List (Str × V)) (ys : List V), v = .ref a ∧ H1 a = some (.ins C dx fs) ∧ fs.lookup f = some (.ref l) ∧ H1 l = some (.lst ys) ∧ (∃ b o, H1 b = some o ∧ n ≤ b) ∧ R (Itl K l) H1
theorem pi_own {k : Nat} {tg e : Expr} {te : TE} (hc : SeqC X.K C fi fl) (FI : FnOk X.prog X.w X.K X.mg X.base CX0 k fi fdI psI (spIterF C f)) (bI : Binds X.K fdI psI []) (hr : Room k X.A) (he : PE X e te) : PI X tg e (iOwn X.K C f X.s_0.heap.objs.size te) := by
  refine ⟨fun pins s σ H R I h => thn (he.run pins s σ H _ I h) fun u s1 ⟨v, H1, I1, rv, a, dx, l, fs, ys, ev, ha, hff, hl, ⟨b, o, hb, hsz⟩, q⟩ => ?_⟩
  subst ev
  obtain rfl : u = Value.ref a := rv
  obtain ⟨mA, J, _⟩ := ins_get I1.hok ha
  obtain ⟨od, J, _⟩ := J.look
  obtain ⟨m0, hF⟩ := I1.fr
  refine PySem.W.owit_iter hF I1.ok.mod.kin J hc.it hc.itF ?_
  refine wpAny_mono (run_sub (⟨hr, rfl⟩ : Sub X k X.A) FI bI I1 (us := [.ref a]) (vs := [.ref a]) (.cons rfl .nil) (Q := fun v H' => ∃ it, v = .ref it ∧ H1 it = none ∧ (∀ b o, H1 b = some o → b < it) ∧ H' = upd H1 it (ItO l it 0)) ⟨a, dx, l, fs, ys, rfl, ha, hff, hl, fun it hit big => ⟨it, rfl, hit, big, rfl⟩⟩) (fun u s2 h => ?_) fun _ _ e => e
  obtain ⟨v, H', I', rv, it, ev, hit, big, eH⟩ := I1.after h
  subst ev; subst eH
  obtain rfl : u = Value.ref it := rv
  have fp : FpOk X pins H1 it := by
    have := ItX.inv_fp I' (a := it) upd_same (Nat.le_trans hsz (Nat.le_of_lt (big b o hb)))
    rwa [ItX.dropH_upd hit] at this
  have gi : s2.heap.get? it = some (GNX.itObj l 0) := itO_get I' upd_same
  have I2 : Inv X pins σ H1 s2 := by
    have := ItX.inv_drop (φ := fun h => h.get? it = some (GNX.itObj l 0)) I' upd_same
    rwa [ItX.dropH_upd hit] at this
  unfold PySem.W.OwitIt
  refine wpAny_specialOf (show s2.TypeIs (.ref it) "list_iterator" from ⟨_, gi, rfl⟩) slot_listiter_next.lookup ?_
  refine ⟨it, [it], fun i h => h.IsListIter it l i, Itl X.K l, H1, rfl, I2, turn_list l it, ⟨_, gi, rfl, rfl⟩, fun c hc => ?_, q⟩
  obtain rfl : c = it := by simpa using hc
  exact fp
theorem r_iOwn {K : PySem.W.Frag} {te : TE} {n : Nat} {R : It → Hp → Prop} (q : te σ H fun v H1 => ∃ (a dx l : Addr) (fs : List (Str × V)) (ys : List V), v = .ref a ∧ H1 a = some (.ins C dx fs) ∧ fs.lookup f = some (.ref l) ∧ H1 l = some (.lst ys) ∧ (∃ b o, H1 b = some o ∧ n ≤ b) ∧ R (Itl K l) H1) : iOwn K C f n te σ H R := q
end
end Vf
set_option maxHeartbeats 2000000
namespace Vf
open PySem PySem.Spec PyProof.Rows L2
/-! stretches between edges -/
section
variable {α : Type} [DecidableEq α] {nn : α} {g : Int → α}
def segR (g : Int → α) : List Int → List (Rn α)
  | [] => []
  | [d] => [(d, none, g d)]
  | d :: e :: t => (d, some (e - 1), g d) :: segR g (e :: t)
theorem seg_at : ∀ (es : List Int) (k : Nat), (segR g es)[k]? = es[k]?.map fun d => (d, (es[k + 1]?).map (· - 1), g d)
  | [], k => by simp [segR]
  | [d], k => by cases k <;> simp [segR]
  | d :: e :: t, 0 => by simp [segR]
  | d :: e :: t, k + 1 => by
    have := seg_at (e :: t) k
    simpa [segR] using this
theorem seg_len : ∀ es : List Int, (segR g es).length = es.length
  | [] => rfl
  | [d] => rfl
  | d :: e :: t => by simp [segR, seg_len (e :: t)]
theorem seg_fst : ∀ {es : List Int} {r : Rn α}, r ∈ segR g es → r.1 ∈ es ∧ r.2.2 = g r.1
  | [], r, h => by cases h
  | [d], r, h => by
    simp [segR] at h; subst h; simp
  | d :: e :: t, r, h => by
    simp only [segR] at h
    rcases List.mem_cons.mp h with rfl | h
    · simp
    · obtain ⟨h1, h2⟩ := seg_fst h
      exact ⟨List.mem_cons_of_mem _ h1, h2⟩
theorem seg_asc : ∀ {es : List Int}, es.Pairwise (· < ·) → AscR (segR g es)
  | [], _ => ⟨fun _ h => by (cases h), List.Pairwise.nil⟩
  | [d], _ => ⟨fun r h => by (simp [segR] at h; subst h; intro l e; cases e), List.pairwise_singleton _ _⟩
  | d :: e :: t, h => by
    obtain ⟨h1, h2⟩ := List.pairwise_cons.mp h
    obtain ⟨a1, a2⟩ := seg_asc h2
    have he := h1 e List.mem_cons_self
    refine ⟨fun r hr => ?_, ?_⟩
    · rcases List.mem_cons.mp hr with rfl | hr
      · intro l el; cases el; show d ≤ e - 1; omega
      · exact a1 r hr
    · refine List.pairwise_cons.mpr ⟨fun r hr => ⟨e - 1, rfl, ?_⟩, a2⟩
      have hm := (seg_fst hr).1
      rcases List.mem_cons.mp hm with hm | hm
      · omega
      · have := (List.pairwise_cons.mp h2).1 _ hm
        omega
theorem seg_cover : ∀ {es : List Int}, es.Pairwise (· < ·) → (∀ k d x, es[k]? = some d → d ≤ x → (∀ e, es[k + 1]? = some e → x < e) → g x = g d) → ∀ x, cover (segR g es) x = if (∃ e ∈ es, e ≤ x) then some (g x) else none
  | [], _, _, x => by simp [segR, cover]
  | [d], _, hg, x => by
    simp only [segR, cover]
    by_cases hd : d ≤ x
    · rw [if_pos (hasD_iff.mpr ⟨hd, fun l e => by cases e⟩), if_pos ⟨d, List.mem_cons_self, hd⟩, hg 0 d x rfl hd (fun e he => by simp at he)]
    · rw [if_neg (fun z => hd (hasD_iff.mp z).1), if_neg]
      rintro ⟨e, he, hx⟩
      simp at he
      subst he
      exact hd hx
  | d :: e :: t, h, hg, x => by
    obtain ⟨h1, h2⟩ := List.pairwise_cons.mp h
    have he := h1 e List.mem_cons_self
    simp only [segR, cover]
    by_cases hd : d ≤ x ∧ x < e
    · rw [if_pos (hasD_iff.mpr ⟨hd.1, fun l el => by cases el; show x ≤ e - 1; omega⟩), if_pos ⟨d, List.mem_cons_self, hd.1⟩, hg 0 d x rfl hd.1 (fun e' he' => by simp at he'; omega)]
    · rw [if_neg, seg_cover h2 (fun k d' x hk hdx hn => hg (k + 1) d' x (by simpa using hk) hdx (fun e' he' => hn e' (by simpa using he'))) x]
      · by_cases hx : x < d
        · rw [if_neg, if_neg]
          · rintro ⟨e', he', hx'⟩
            rcases List.mem_cons.mp he' with rfl | he'
            · omega
            · have := h1 _ he'; omega
          · rintro ⟨e', he', hx'⟩
            have := h1 _ he'; omega
        · rw [if_pos ⟨e, List.mem_cons_self, by omega⟩, if_pos ⟨d, List.mem_cons_self, by omega⟩]
      · intro z
        have z1 := (hasD_iff.mp z).1
        have z2 := (hasD_iff.mp z).2 (e - 1) rfl
        simp only at z1
        exact hd ⟨z1, by omega⟩
theorem paint_congr {ss : List (Rn α)} {x d : Int} : (∀ r ∈ ss, hasD r x = hasD r d) → paintR nn ss x = paintR nn ss d := by
  refine rev_ind (C := fun ss => (∀ r ∈ ss, hasD r x = hasD r d) → paintR nn ss x = paintR nn ss d) (fun _ => rfl) (fun ss r ih h => ?_) ss
  rw [paint_snoc, paint_snoc, h r (by simp), ih fun r' hr => h r' (by simp [hr])]
/-- the runs that the edges of the stretches give -/
theorem edge_runs {ss : List (Rn α)} {es : List Int} (hp : es.Pairwise (· < ·)) (he : ∀ d, d ∈ es ↔ EdgeR ss d) :
    NormR nn (joinR nn (segR (paintR nn ss) es)) ∧ ∀ x, lookR nn (joinR nn (segR (paintR nn ss) es)) x = paintR nn ss x := by
  obtain ⟨j1, j2⟩ := join_norm (nn := nn) (seg_asc (g := paintR nn ss) hp)
  refine ⟨j1, fun x => ?_⟩
  rw [j2, lookR, seg_cover hp]
  · split
    · rfl
    · rename_i hx
      show nn = _
      have : ∀ r ∈ ss, hasD r x = false := fun r hr => Bool.eq_false_iff.mpr fun z => hx ⟨r.1, (he r.1).mpr ⟨r, hr, .inl rfl⟩, (hasD_iff.mp z).1⟩
      rcases paint_mem (nn := nn) (ss := ss) (d := x) with h | _
      · exact h.symm
      · have e : paintR nn ss x = nn := by
          refine rev_ind (C := fun ss => (∀ r ∈ ss, hasD r x = false) → paintR nn ss x = nn) (fun _ => rfl) (fun ss r ih h => ?_) ss this
          rw [paint_snoc, h r (by simp)]
          exact ih fun r' hr => h r' (by simp [hr])
        exact e.symm
  · intro k d x hk hdx hn
    refine paint_congr fun r hr => ?_
    have noe : ∀ e, EdgeR ss e → d < e → x < e := fun e hE hde => by
      have hm := (he e).mpr hE
      obtain ⟨j, hj, rfl⟩ := List.mem_iff_getElem.mp hm
      obtain ⟨hk1, rfl⟩ := List.getElem?_eq_some_iff.mp hk
      have hkj : k < j := by
        apply Classical.byContradiction
        intro hnj
        rcases Nat.lt_or_eq_of_le (Nat.not_lt.mp hnj) with hlt | heq
        · have := List.pairwise_iff_getElem.mp hp j k hj hk1 hlt; omega
        · subst heq; omega
      have hk2 : k + 1 < es.length := by omega
      have h1 := hn es[k + 1] (List.getElem?_eq_getElem hk2)
      rcases Nat.lt_or_eq_of_le hkj with hlt | heq
      · have := List.pairwise_iff_getElem.mp hp (k + 1) j hk2 hj hlt; omega
      · subst heq; exact h1
    rw [Bool.eq_iff_iff, hasD_iff, hasD_iff]
    constructor
    · rintro ⟨a, b⟩
      refine ⟨?_, fun l el => by have := b l el; omega⟩
      apply Classical.byContradiction
      intro hlt
      have := noe r.1 ⟨r, hr, .inl rfl⟩ (by omega)
      omega
    · rintro ⟨a, b⟩
      refine ⟨by omega, fun l el => ?_⟩
      apply Classical.byContradiction
      intro hlt
      have := b l el
      have := noe (l + 1) ⟨r, hr, .inr ⟨l, el, rfl⟩⟩ (by omega)
      omega
theorem join_take {ss : List (Rn α)} {i : Nat} {r : Rn α} (h : ss[i]? = some r) : joinR nn (ss.take (i + 1)) = pushR nn (joinR nn (ss.take i)) r := by
  rw [List.take_succ, h, joinR, Option.toList, List.foldl_append]
  rfl
end
/-! for k, x in enumerate(xs) -/
section
variable {K : PySem.W.Frag} {σ : L2.St} {H : Hp} {nx : L2.St → Hp → Prop} {rt : VK} {g : TG} {tb : TS} {a : Addr} {xs : List V}
theorem fo_enum (Pv : Nat → L2.St → Hp → Prop) (h0 : Pv 0 σ H) (hl : ∀ i σ H, i ≤ xs.length → Pv i σ H → SqL K H a xs)
    (hs : ∀ i x T σ H H', xs[i]? = some x → Pv i σ H → H T = none → Ex H H' → H' T = some (.tup [.int (i : Nat), x]) → g (.ref T) σ H' fun σ2 H2 => tb ⟨Pv (i + 1), rt, nx, Pv (i + 1)⟩ σ2 H2) (hd : ∀ σ H, Pv xs.length σ H → nx σ H) : ForW (Ite K a) g tb nx rt σ H := by
  refine ⟨fun i m σ H => m = xs.length - i ∧ i ≤ xs.length ∧ Pv i σ H, ⟨xs.length, by simp, Nat.zero_le _, h0⟩, ?_⟩
  rintro i m σ H ⟨rfl, hi, p⟩
  have q := hl i σ H hi p
  by_cases hlt : i < xs.length
  · refine .inr ⟨⟨xs, xs[i], q, List.getElem?_eq_getElem hlt⟩, Pv (i + 1), fun σ' H' p' => ⟨xs.length - (i + 1), by omega, rfl, hlt, p'⟩, ?_⟩
    rintro v H' ⟨T, x, rfl, hT, rfl, hx⟩
    exact hs i x T σ H _ (hx xs q) p hT (Ex.new hT) upd_same
  · have e : i = xs.length := by omega
    subst e
    exact .inl ⟨⟨xs, q, Nat.le_refl _⟩, hd σ H p⟩
theorem r_enum {ta : TA} {R : It → Hp → Prop} (q : ta σ H fun vs H1 => ∃ a xs, vs = [.ref a] ∧ SqL K H1 a xs ∧ R (Ite K a) H1) : iEnum K ta σ H R := q
end
/-! lists of runs, compared -/
def valD : V → PyData
  | .int i => .int i
  | .str s => .str s
  | .bl b => .bool b
  | _ => .none
def optD : Option Int → PyData
  | none => .none
  | some i => .int i
def runD (r : Run) : PyData := .tuple [.int r.1, optD r.2.1, valD r.2.2]
theorem optw_dp {K : PySem.W.Frag} {H : Hp} {v : V} (h : OptW v) : Dp K H v (valD v) := by
  cases h with
  | non => exact .non
  | w h => cases h with
    | int i => exact .int i
    | str s _ => exact .str s
theorem opt_dp {K : PySem.W.Frag} {H : Hp} (o : Option Int) : Dp K H (optI o) (optD o) := by
  cases o with
  | none => exact .non
  | some i => exact .int i
theorem runs_dpA {K : PySem.W.Frag} {H : Hp} {xs : List V} {rs : List Run} (h : RunsAt H xs rs) (w : ∀ r ∈ rs, OptW r.2.2) : DpAll K H xs (rs.map runD) := by
  induction h with
  | nil => exact .nil
  | cons ht _ ih => exact .cons (.tup (.of ht) (.cons (.int _) (.cons (opt_dp _) (.cons (optw_dp (w _ List.mem_cons_self)) .nil)))) (ih fun r hr => w r (List.mem_cons_of_mem _ hr))
theorem runs_dp {K : PySem.W.Frag} {H : Hp} {p : Addr} {xs : List V} {rs : List Run} (hp : H p = some (.lst xs)) (h : RunsAt H xs rs) (w : ∀ r ∈ rs, OptW r.2.2) : Dp K H (.ref p) (.list (rs.map runD)) := .lst (.of hp) (runs_dpA h w)
theorem val_lay {v : V} (h : OptW v) : PyData.canLay0 (valD v) = true ∧ PyData.depth (valD v) ≤ 1 := by
  cases h with
  | non => exact ⟨rfl, by decide⟩
  | w h => cases h with
    | int i => exact ⟨rfl, by simp [valD, PyData.depth]⟩
    | str s hs => exact ⟨hs, by simp [valD, PyData.depth]⟩
theorem runs_shaped {rs : List Run} (w : ∀ r ∈ rs, OptW r.2.2) : SeqAt.shaped (.list (rs.map runD)) = true := by
  have h1 : PyData.canLayAll0 (rs.map runD) = true := by
    induction rs with
    | nil => rfl
    | cons r t ih =>
      have h := (val_lay (w r List.mem_cons_self)).1
      have ih := ih fun x hx => w x (List.mem_cons_of_mem _ hx)
      obtain ⟨f, l, v⟩ := r
      cases l <;> simp [PyData.canLayAll0, PyData.canLay0, runD, optD, ih, h]
  have h2 : PyData.depthAll (rs.map runD) ≤ 3 := by
    clear h1
    induction rs with
    | nil => simp [PyData.depthAll]
    | cons r t ih =>
      have h := (val_lay (w r List.mem_cons_self)).2
      have ih := ih fun x hx => w x (List.mem_cons_of_mem _ hx)
      obtain ⟨f, l, v⟩ := r
      cases l <;> simp [PyData.depthAll, PyData.depth, runD, optD] at ih h ⊢ <;> omega
  have h4 : PyData.depthAll (rs.map runD) + 1 ≤ 64 := by omega
  show (PyData.canLayAll0 (rs.map runD) && decide (PyData.depthAll (rs.map runD) + 1 ≤ 64)) = true
  rw [h1, decide_eq_true h4]
  rfl
theorem paintW {ss : List Run} (h : ∀ r ∈ ss, OptW r.2.2) (d : Int) : OptW (paintR .non ss d) := by
  rcases paint_mem (nn := V.non) (ss := ss) (d := d) with e | ⟨r, hr, e⟩ <;> rw [e]
  · exact .non
  · exact h r hr
theorem r_neNil {K : PySem.W.Frag} {H : Hp} {Q : VK} {p q : Addr} {xs : List V} {rs : List Run} (hp : H p = some (.lst xs)) (h : RunsAt H xs rs) (w : ∀ r ∈ rs, OptW r.2.2) (hq : H q = some (.lst [])) (k : Q (.bl (!rs.isEmpty)) H) : rNeD K (.ref p) (.ref q) H Q := by
  refine ⟨_, _, runs_dp hp h w, runs_dp (rs := []) hq .nil (fun _ h => by cases h), runs_shaped w, runs_shaped (rs := []) (fun _ h => by cases h), ?_⟩
  have e : (!PyData.eqv (.list (rs.map runD)) (.list (([] : List Run).map runD))) = !rs.isEmpty := by
    cases rs <;> rfl
  rw [e]
  exact k
/-! one table, one list of stretches, the values, the marks -/
def W1 (C p l a s m : Addr) (ws : List V) (rs ss : List Run) (ms : List Int) (H : Hp) : Prop := TabAt C H p l rs ∧ LstAt H a ss ∧ H s = some (.lst ws) ∧ H m = some (.lst (ms.map V.int))
section
variable {C p l a s m : Addr} {ws : List V} {rs ss : List Run} {ms : List Int} {H H' : Hp}
theorem W1.ex (w : W1 C p l a s m ws rs ss ms H) (e : Ex H H') : W1 C p l a s m ws rs ss ms H' := by
  obtain ⟨w1, w3, w5, w6⟩ := w
  exact ⟨w1.ex e, w3.ex e, e _ _ w5, e _ _ w6⟩
theorem W1.new (w : W1 C p l a s m ws rs ss ms H) {q : Addr} (h : H q = none) : l ≠ q ∧ a ≠ q ∧ s ≠ q ∧ m ≠ q := by
  obtain ⟨w1, w3, w5, w6⟩ := w
  exact ⟨w1.ne h, w3.ne h, ne_of_none w5 h, ne_of_none w6 h⟩
theorem W1.but (w : W1 C p l a s m ws rs ss ms H) {q : Addr} {ys : List V} (b : But q H H') (hq : H q = some (.lst ys)) (n : l ≠ q ∧ a ≠ q ∧ s ≠ q ∧ m ≠ q) : W1 C p l a s m ws rs ss ms H' := by
  obtain ⟨w1, w3, w5, w6⟩ := w
  obtain ⟨n1, n3, n5, n6⟩ := n
  exact ⟨w1.but b hq n1, w3.but b hq n3, b _ _ n5 w5, b _ _ n6 w6⟩
theorem W1.set (w : W1 C p l a s m ws rs ss ms H) {rs' : List Run} (b : But l H H') (t : TabAt C H' p l rs') (n : a ≠ l ∧ s ≠ l ∧ m ≠ l) : W1 C p l a s m ws rs' ss ms H' := by
  obtain ⟨w1, w3, w5, w6⟩ := w
  obtain ⟨n3, n5, n6⟩ := n
  obtain ⟨ys, hq⟩ := w1.lst
  exact ⟨t, w3.but b hq n3, b _ _ n5 w5, b _ _ n6 w6⟩
theorem W1.app (w : W1 C p l a s m ws rs ss ms H) {s' : List Run} (b : But a H H') (t : LstAt H' a s') (n : l ≠ a ∧ s ≠ a ∧ m ≠ a) : W1 C p l a s m ws rs s' ms H' := by
  obtain ⟨w1, w3, w5, w6⟩ := w
  obtain ⟨n1, n5, n6⟩ := n
  obtain ⟨ys, hq, _⟩ := w3
  exact ⟨w1.but b hq n1, t, b _ _ n5 w5, b _ _ n6 w6⟩
end
theorem look_give {rs s : List Run} {f : Int} {l : Option Int} {v : V} (g : Good rs) (vs : ValR (f, l, v)) (k : ∀ d, lookR .non rs d = paintR .non s d) : ∀ d, lookR .non (giveR .non rs f l v) d = paintR .non (s ++ [(f, l, v)]) d := fun d => by
  rw [(give_norm g.1 vs).2 d, paint_snoc, k d]
theorem optw_snoc {s : List Run} {r : Run} (h : ∀ r ∈ s, OptW r.2.2) (hr : OptW r.2.2) : ∀ x ∈ s ++ [r], OptW x.2.2 := fun x hx => by
  rcases List.mem_append.mp hx with hx | hx
  · exact h x hx
  · rw [List.mem_singleton] at hx; subst hx; exact hr
theorem palette_ok {n : Int} {v w : V} (hv : IsVal v) (hw : IsVal w) : (∀ x ∈ [V.int n, .str (toString n), v, w], Worth x) := by
  intro x hx
  simp only [List.mem_cons, List.not_mem_nil, or_false] at hx
  rcases hx with rfl | rfl | rfl | rfl
  · exact .int _
  · exact .str _ (strOk_of _)
  · exact hv.worth
  · exact hw.worth
section
variable {K : PySem.W.Frag} {σ : L2.St} {H : Hp} {Q : VK} {to : TE}
theorem r_BM0 {r : V → List V → Hp → VK → Prop} (q : to σ H fun x H1 => tyV K "list" x H1 ∧ r x [] H1 Q) : tBM0 K "list" r to σ H Q := q
theorem r_reverse {l : Addr} {xs : List V} (h : H l = some (.lst xs)) (q : ∀ H', But l H H' → H' l = some (.lst xs.reverse) → Q .non H') : rReverse (.ref l) [] H Q := ⟨l, xs, rfl, rfl, h, q _ But.upd upd_same⟩
end
end Vf
set_option maxHeartbeats 4000000
/-! sorted(s), s a set of any number of ints -/
namespace Vf
open PySem PySem.Spec PyProof.Rows L2
section
variable {P : Program} {w : World} {A : Around} {E : Value → Shared → Prop} {s : Shared} {a : Addr}
theorem sorted_setN {S : Int → Bool} {n : Nat} {Q : Value → Shared → Prop} (R : SetR w s.heap a S n) (hh : A.handled = none) (hn0 : n ≤ 100000)
    (hQ : ∀ s' p (out : Array Value) (c : Nat) (ns : List Int), (∀ b o, s.heap.get? b = some o → s'.heap.get? b = some o) → s'.gens = s.gens → s'.os = s.os → s.heap.objs.size ≤ p → s'.heap.get? p = some (seqObj "list" out c) → IntsAre out.toList ns → ns.Pairwise (· < ·) → (∀ k, k ∈ ns ↔ S k = true) → ns.length = n → Q (.ref p) s') :
    wpAny (model P w) A (call (.builtin "sorted") [.ref a]) Q E s := by
  obtain ⟨o, es, ep, t, ho, hex, hd, g, nd, hm, hb, hf, hn, hr, hl⟩ := R
  refine Calls.call_function_entry kind_sorted plain_sorted entry_sorted (args_sorted1 _) ?_; unfold Builtin.«sorted»; refine wpAny_bind (m := checkCount "sorted" 1 1 _) (wpAny_pure ?_)
  refine wpAny_bind (collect_set (A := A.in1) hh ⟨o, ho, hex.1, hd⟩ hf hb hr hl fun s1 vs k1 hz g1 o1 pm => ?_)
  have lv : vs.length = n := by rw [pm.length_eq, List.length_map, Array.length_toList]; exact hn
  have hI : IntsAre vs (vs.map Builtin.Re.reRawOf) := ints_of vs fun v hv => by
    obtain ⟨e, he, q⟩ := List.mem_map.mp (pm.mem_iff.mp hv)
    obtain ⟨k, tk, e1, _⟩ := g e he
    exact ⟨k, tk, by rw [← q]; exact e1⟩
  have pk : (vs.map Builtin.Re.reRawOf).Perm (es.toList.map keyOf) := by have q := pm.map Builtin.Re.reRawOf; rw [List.map_map] at q; exact q
  refine wpAny_bind (wpAny_newList ?_ (by rw [lv, sizeLine_eq]; omega))
  have oL : (s1.heap.push (seqObj "list" vs.toArray 0)).get? s1.heap.objs.size = some (seqObj "list" vs.toArray 0) := Heap.get?_push_size _ rfl
  refine wpAny_bind (wpAny_holding (wpAny_call_entry slot_list_sort ⟨_, oL, rfl⟩ entry_list_sort (SrtO.list_sort_ord SrtO.swo_int oL (by rw [lv, sizeLine_eq]; omega) (fun h2 => SrtO.ints_sortable hI h2) fun out q1 q2 => ⟨_, rfl, ?_⟩) (args_list_sort _)))
  obtain ⟨r1, r2, r3⟩ := SrtO.ints_out hI q1 q2
  obtain ⟨c, hc⟩ := sortedHeap_at (vs := vs) (out := out.toArray) oL
  have pn : (out.map SrtO.iv).Perm (es.toList.map keyOf) := r2.trans pk
  refine wpAny_pure ⟨_, rfl, hQ _ s1.heap.objs.size out.toArray c (out.map SrtO.iv) (fun b u e => ?_) g1 o1 hz hc (by simpa using r1) (lt_of_le_nodup _ r3 (pn.nodup_iff.mpr nd)) (fun k => by rw [pn.mem_iff, ← hm k]) ?_⟩
  · have q := k1 b u e
    have hlt := Heap.lt_size q
    show (sortedHeap (s1.heap.push (seqObj "list" vs.toArray 0)) s1.heap.objs.size vs out.toArray).get? b = some u
    rw [sortedHeap_old (Nat.ne_of_lt hlt) (by rw [size_push']; exact Nat.lt_succ_of_lt hlt)]; exact Heap.get?_push_of_some _ q
  · rw [pn.length_eq, List.length_map, Array.length_toList]; exact hn
end
section
variable {X : Cx}
def rSortedSetN (w : World) : List V → Hp → VK → Prop := fun vs H Q => ∃ (a : Addr) (S : Int → Bool) (n : Nat), vs = [V.ref a] ∧ H a = some (SetO w a S n) ∧ n ≤ 100000 ∧
  ∀ (ns : List Int) (p : Addr), ns.Pairwise (· < ·) → (∀ k : Int, k ∈ ns ↔ S k = true) → ns.length = n → H p = none → Q (.ref p) (upd H p (.lst (ns.map V.int)))
theorem cr_sortedSetN (hc : X.calm = true) : CallR X (.builtin "sorted") (rSortedSetN X.w) := by
  intro pins s σ H vs us Q I r h
  obtain ⟨a, S, n, rfl, ha, hn, q⟩ := h
  have R := setO_get I ha
  rw [Vals.ref1 r]
  refine sorted_setN R (I.ok.hd hc) hn fun s' p out c ns k g o hp hg hi hs hm hl => ?_
  have hlen : (ns.map V.int).length ≤ sizeLine := by rw [List.length_map, hl, sizeLine_eq]; omega
  have fr : H p = none := I.hok.fresh hp
  have J : Inv X pins σ (upd H p (.lst (ns.map V.int))) { s with heap := s'.heap, gens := s'.gens, drawn := s'.drawn, toks := s'.toks } :=
    I.call (ch := []) (Un.laid k hp fr) (I.hok.laid k hp ⟨hlen, out.toList, c, vals_of_ints hi, hg⟩) (by rw [g]; exact I.bare) (fun _ z => nomatch z)
  have e : s' = { s with heap := s'.heap, gens := s'.gens, drawn := s'.drawn, toks := s'.toks } := by cases s'; cases s; cases o; rfl
  rw [e]
  exact ⟨.ref p, _, J, rfl, q ns p hs hm hl fr⟩
end
end Vf
set_option maxHeartbeats 2000000
/-! o[i] = v by an own def that may raise, in a try; o[i] += v -/
namespace Vf
open PySem PySem.Spec PyProof.Rows L2
section
variable {X : Cx} {CX : CXT} {k : Nat} {C f : Addr} {fd : FuncData} {ps : List Str} {sp : Sp} {o i : Expr} {to ti : TE} {pos : Pos}
def SetOwnS (C : Addr) (sp : Sp) (E : XK) (Q : Hp → Prop) (v o i : V) (H : Hp) : Prop := ∃ a dx fs, o = .ref a ∧ H a = some (.ins C dx fs) ∧ sp [.ref a, i, v] H (fun _ H' => Q H') E
def gOwnS (C : Addr) (sp : Sp) (E : L2.St → XK) (to ti : TE) : TG := fun v σ H Q => to σ H fun o H1 => ti σ H1 fun i H2 => SetOwnS C sp (E σ) (fun H3 => Q σ H3) v o i H2
theorem pg_ownS {E : L2.St → XK} (ho : PE X o to) (hi : PE X i ti) (hq : PySem.W.noSeq X.K C = true) (m : Meth X.K C "__setitem__" f) (F : FnOk X.prog X.w X.K X.mg X.base CX k f fd ps sp) (hr : Room k X.A) (hb : Binds X.K fd ps []) (hx : ∀ σ, PassesAt CX X σ (E σ))
    (ha : ∀ v, assign (.Subscript o i pos) X.env v = (do
      let ov ← holding [v] (eval o X.env)
      let iv ← holding [v, ov] (eval i X.env)
      standAt pos
      holding [v, ov, iv] (setItem ov iv v)
      release [v, ov, iv] []) := by intro _; rfl) : PG X (.Subscript o i pos) (gOwnS C sp E to ti) := by
  refine ⟨fun pins s σ H v u Q I r h => ?_⟩
  rw [ha]
  refine wpAny_bind (wpAny_holding (thn (ho.run pins s σ H _ I h) fun ov s1 ⟨x, H1, I1, r1, q1⟩ => ?_))
  refine wpAny_bind (wpAny_holding (thn (hi.run pins s1 σ H1 _ I1 q1) fun iv s2 ⟨y, H2, I2, r2, q2⟩ => ?_))
  obtain ⟨p, dx, fs, rfl, ea, q⟩ := q2
  obtain rfl : ov = Value.ref p := r1
  obtain ⟨mA, O, _⟩ := ins_get I2.hok ea
  obtain ⟨od, J, _⟩ := O.look
  obtain ⟨mm, fr⟩ := I2.fr
  refine wpAny_bind (wpAny_standAt (wpAny_bind (wpAny_holding (PySem.W.ksp_setItem fr I2.mod.kin J hq m.at_ m.fn ?_))))
  refine thn (run_fnA (dvs := []) (us := [.ref p, iv, u]) (vs := [.ref p, y, v]) F hr hb .nil (hx σ) I2 (.cons rfl (.cons r2 (.cons r .nil))) q) fun w s' h3 => ?_
  obtain ⟨z, H', I', _, q2⟩ := h3
  exact wpAny_release ⟨σ, H', I', q2⟩
theorem r_ownS {E : L2.St → XK} {σ : L2.St} {H : Hp} {QS : L2.St → Hp → Prop} {v : V} (q : to σ H fun o H1 => ti σ H1 fun i H2 => SetOwnS C sp (E σ) (fun H3 => QS σ H3) v o i H2) : gOwnS C sp E to ti v σ H QS := q
theorem r_setOwnS {E : XK} {H : Hp} {QH : Hp → Prop} {p dx : Addr} {fs : List (Str × V)} {y v : V} (h : H p = some (.ins C dx fs)) (q : sp [.ref p, y, v] H (fun _ H' => QH H') E) : SetOwnS C sp E QH v (.ref p) y H := ⟨p, dx, fs, rfl, h, q⟩
theorem get_own {E : XK} (hq : PySem.W.noSeq X.K C = true) (m : Meth X.K C "__getitem__" f) (F : FnOk X.prog X.w X.K X.mg X.base CX k f fd ps sp) (hr : Room k X.A) (hb : Binds X.K fd ps []) (hx : Passes CX X E) : PGet X (rIxOwn C sp E) := by
  intro pins s σ H o i ov iv Q I ro ri h
  obtain ⟨p, dx, fs, rfl, ea, q⟩ := h
  obtain rfl : ov = Value.ref p := ro
  obtain ⟨mA, O, _⟩ := ins_get I.hok ea
  obtain ⟨od, J, _⟩ := O.look
  obtain ⟨mm, fr⟩ := I.fr
  exact PySem.W.getItem_K fr I.mod.kin J hq m.at_ m.fn (run_fn (dvs := []) (us := [.ref p, iv]) (vs := [.ref p, i]) F hr hb .nil hx I (.cons rfl (.cons ri .nil)) q)
theorem r_augS {te : TE} {tget : V → V → Hp → VK → Prop} {tip : TIp} {tset : TSet} {σ : L2.St} {H : Hp} {nx bk ct : L2.St → Hp → Prop} {rt : VK} (q : to σ H fun o H1 => ti σ H1 fun i H2 => tget o i H2 fun x H3 => te σ H3 fun y H4 => tip x y H4 fun z H5 => tset o i z H5 fun H6 => nx σ H6) : tAugS to ti te tget tip tset ⟨nx, rt, bk, ct⟩ σ H := q
theorem r_ipI {g : Int → Int → Int} {i j : Int} {H : Hp} {Q : VK} (q : Q (.int (g i j)) H) : ipI g (.int i) (.int j) H Q := ⟨i, j, rfl, rfl, q⟩
end
/-- a tuple of a first day, a last day, and True -/
theorem told_ok (f : Int) (l : Int) : SeqAt.shaped (.tuple [.int f, .int l, .bool true]) = true ∧ PyData.eqv (.tuple [.int f, .int l, .bool true]) (.tuple [.int f, .int l, .bool true]) = true := by
  constructor
  · simp [SeqAt.shaped, PyData.canLay0, PyData.canLayAll0, PyData.depth, PyData.depthAll]
  · simp [PyData.eqv, PyData.eqvAll]
theorem told_dp {K : PySem.W.Frag} {H : Hp} {p : Addr} {f l : Int} (h : H p = some (.tup [.int f, .int l, .bl true])) : Dp K H (.ref p) (.tuple [.int f, .int l, .bool true]) :=
  .tup (.of h) (.cons (.int _) (.cons (.int _) (.cons (.bl _) .nil)))
theorem r_go {s : TS} {σ : L2.St} {H : Hp} {nx bk ct : L2.St → Hp → Prop} {rt : VK} (q : s ⟨nx, rt, bk, ct⟩ σ H) : tJoin s ⟨nx, rt, bk, ct⟩ σ H := q
theorem give_at {rs : List Run} {f : Int} {l : Option Int} {v : V} (g : Good rs) (vs : ValR (f, l, v)) : lookR .non (giveR .non rs f l v) f = v := by
  rw [(give_norm g.1 vs).2 f, if_pos (hasD_iff.mpr ⟨Int.le_refl _, fun k e => vs k e⟩)]
end Vf
set_option maxHeartbeats 2000000
/-! changes of a table -/
namespace Vf
open PySem PySem.Spec PyProof.Rows L2
section
variable {α : Type} [DecidableEq α] {nn : α}
def gapS {α : Type} (nn : α) (stop : Option Int) (o : Option (Rn α)) : List (Int × α) := match stop with
  | none => []
  | some s => match o with
    | none => [(s, nn)]
    | some r => if s < r.1 then [(s, nn)] else []
def chL {α : Type} (nn : α) : List (Rn α) → List (Int × α)
  | [] => []
  | r :: t => (r.1, r.2.2) :: (gapS nn (r.2.1.map (· + 1)) t.head? ++ chL nn t)
def chI {α : Type} (nn : α) (rs : List (Rn α)) : Nat → List (Int × α)
  | 0 => []
  | i + 1 => match rs[i]? with
    | none => chI nn rs i
    | some r => chI nn rs i ++ (r.1, r.2.2) :: gapS nn (r.2.1.map (· + 1)) rs[i + 1]?
theorem chI_succ {rs : List (Rn α)} {i : Nat} {r : Rn α} (h : rs[i]? = some r) : chI nn rs (i + 1) = chI nn rs i ++ (r.1, r.2.2) :: gapS nn (r.2.1.map (· + 1)) rs[i + 1]? := by
  simp only [chI, h]
theorem chI_chL {rs : List (Rn α)} : ∀ i, i ≤ rs.length → chI nn rs i ++ chL nn (rs.drop i) = chL nn rs
  | 0, _ => rfl
  | i + 1, h => by
    have hi : i < rs.length := h
    have ih := chI_chL i (Nat.le_of_lt hi)
    rw [List.drop_eq_getElem_cons hi] at ih
    simp only [chL, List.head?_drop] at ih
    rw [chI_succ (List.getElem?_eq_getElem hi), ← ih]
    simp
theorem chI_all {rs : List (Rn α)} : chI nn rs rs.length = chL nn rs := by
  have := chI_chL (nn := nn) (rs := rs) rs.length (Nat.le_refl _)
  rw [List.drop_length] at this
  simpa [chL] using this
theorem gap_len {stop : Option Int} {o : Option (Rn α)} : (gapS nn stop o).length ≤ 1 := by
  unfold gapS
  repeat' split
  all_goals simp
theorem chL_len {rs : List (Rn α)} : (chL nn rs).length ≤ 2 * rs.length := by
  induction rs with
  | nil => simp [chL]
  | cons r t ih =>
    have := gap_len (nn := nn) (stop := r.2.1.map (· + 1)) (o := t.head?)
    simp only [chL, List.length_cons, List.length_append]
    omega
theorem chI_len {rs : List (Rn α)} {i : Nat} (h : i ≤ rs.length) : (chI nn rs i).length ≤ 2 * rs.length := by
  have h1 := chI_chL (nn := nn) i h
  have h2 := chL_len (nn := nn) (rs := rs)
  rw [← h1, List.length_append] at h2
  omega
/-- the stretches that changes give -/
def segC {α : Type} : List (Int × α) → List (Rn α)
  | [] => []
  | [c] => [(c.1, none, c.2)]
  | c :: e :: t => (c.1, some (e.1 - 1), c.2) :: segC (e :: t)
def incC {α : Type} : List (Int × α) → Prop
  | [] => True
  | [_] => True
  | c :: e :: t => c.1 < e.1 ∧ incC (e :: t)
theorem inc_at : ∀ {cs : List (Int × α)} {k : Nat} {a b : Int × α}, incC cs → cs[k]? = some a → cs[k + 1]? = some b → a.1 < b.1
  | [], k, a, b, _, h1, _ => by simp at h1
  | [c], k, a, b, _, h1, h2 => by simp at h2
  | c :: e :: t, 0, a, b, h, h1, h2 => by
    simp at h1 h2; subst h1; subst h2; exact h.1
  | c :: e :: t, k + 1, a, b, h, h1, h2 => inc_at (cs := e :: t) (k := k) h.2 (by simpa using h1) (by simpa using h2)
theorem inc_of : ∀ {cs : List (Int × α)}, (∀ k a b, cs[k]? = some a → cs[k + 1]? = some b → a.1 < b.1) → incC cs
  | [], _ => trivial
  | [_], _ => trivial
  | c :: e :: t, h => ⟨h 0 c e rfl rfl, inc_of (cs := e :: t) fun k a b h1 h2 => h (k + 1) a b (by simpa using h1) (by simpa using h2)⟩
theorem segC_len : ∀ cs : List (Int × α), (segC cs).length = cs.length
  | [] => rfl
  | [_] => rfl
  | c :: e :: t => by simp [segC, segC_len (e :: t)]
theorem segC_at : ∀ (cs : List (Int × α)) (k : Nat), (segC cs)[k]? = cs[k]?.map fun c => (c.1, (cs[k + 1]?).map (fun e => e.1 - 1), c.2)
  | [], k => by simp [segC]
  | [d], k => by cases k <;> simp [segC]
  | d :: e :: t, 0 => by simp [segC]
  | d :: e :: t, k + 1 => by
    have := segC_at (e :: t) k
    simpa [segC] using this
theorem chL_inc : ∀ {rs : List (Rn α)}, AscR rs → incC (chL nn rs)
  | [], _ => trivial
  | [r], h => by
    have hv := h.1 r List.mem_cons_self
    obtain ⟨f, l, v⟩ := r
    cases l with
    | none => trivial
    | some l =>
      have hv := hv l rfl
      simp only at hv
      exact ⟨show f < l + 1 by omega, trivial⟩
  | r :: r' :: t, h => by
    have ih := chL_inc h.tail
    obtain ⟨l, e, hb⟩ := (List.pairwise_cons.mp h.2).1 r' List.mem_cons_self
    have hv := h.1 r List.mem_cons_self l e
    obtain ⟨f, l', v⟩ := r
    simp only at e hv
    subst e
    simp only [chL, Option.map_some, List.head?_cons, gapS] at ih ⊢
    by_cases hg : l + 1 < r'.1
    · rw [if_pos hg]
      exact ⟨show f < l + 1 by omega, show l + 1 < r'.1 by omega, ih⟩
    · rw [if_neg hg]
      exact ⟨show f < r'.1 by omega, ih⟩
theorem seg_ch : ∀ {rs : List (Rn α)}, AscR rs → (∀ r ∈ rs, r.2.2 ≠ nn) → (segC (chL nn rs)).filter (fun r => decide (r.2.2 ≠ nn)) = rs
  | [], _, _ => rfl
  | [r], h, hn => by
    have hr := hn r List.mem_cons_self
    obtain ⟨f, l, v⟩ := r
    simp only at hr
    cases l with
    | none => simp [chL, gapS, segC, hr]
    | some l => simp [chL, gapS, segC, hr]
  | r :: r' :: t, h, hn => by
    have ih := seg_ch h.tail (fun x hx => hn x (List.mem_cons_of_mem _ hx))
    obtain ⟨l, e, hb⟩ := (List.pairwise_cons.mp h.2).1 r' List.mem_cons_self
    have hr := hn r List.mem_cons_self
    obtain ⟨f, l', v⟩ := r
    simp only at e hr
    subst e
    simp only [chL, Option.map_some, List.head?_cons, gapS] at ih ⊢
    by_cases hg : l + 1 < r'.1
    · rw [if_pos hg]
      simp only [List.cons_append, List.nil_append, segC]
      rw [List.filter_cons, if_pos (by simpa using hr), List.filter_cons, if_neg (by simp), ih]
      congr 3
      simp
    · rw [if_neg hg]
      simp only [List.nil_append, segC]
      rw [List.filter_cons, if_pos (by simpa using hr), ih]
      have : r'.1 - 1 = l := by omega
      rw [this]
theorem fold_filter {ss : List (Rn α)} : ∀ {acc : List (Rn α)}, ss.foldl (pushR nn) acc = (ss.filter (fun r => decide (r.2.2 ≠ nn))).foldl (pushR nn) acc := by
  induction ss with
  | nil => intro acc; rfl
  | cons s t ih =>
    intro acc
    by_cases h : s.2.2 = nn
    · rw [List.foldl_cons, push_nn h, List.filter_cons, if_neg (by simp [h]), ih]
    · rw [List.filter_cons, if_pos (by simp [h]), List.foldl_cons, List.foldl_cons, ih]
/-- a table made of a table's changes is the table -/
theorem join_ch {rs : List (Rn α)} (n : NormR nn rs) : joinR nn (segC (chL nn rs)) = rs := by
  unfold joinR
  rw [fold_filter, seg_ch n.1 n.2.1]
  exact n.same
theorem ch_mem {rs : List (Rn α)} {c : Int × α} (h : c ∈ chL nn rs) : c.2 = nn ∨ ∃ r ∈ rs, r.2.2 = c.2 := by
  induction rs with
  | nil => cases h
  | cons r t ih =>
    simp only [chL] at h
    rcases List.mem_cons.mp h with rfl | h
    · exact .inr ⟨r, List.mem_cons_self, rfl⟩
    rcases List.mem_append.mp h with h | h
    · left
      unfold gapS at h
      repeat' split at h
      all_goals first | (simp at h; done) | (rw [List.mem_singleton] at h; rw [h])
    · rcases ih h with e | ⟨x, hx, e⟩
      · exact .inl e
      · exact .inr ⟨x, List.mem_cons_of_mem _ hx, e⟩
theorem seg_mem {cs : List (Int × α)} {r : Rn α} (h : r ∈ segC cs) : ∃ c ∈ cs, c.2 = r.2.2 := by
  obtain ⟨k, hk⟩ := List.mem_iff_getElem?.mp h
  rw [segC_at] at hk
  obtain ⟨c, hc, e⟩ := Option.map_eq_some_iff.mp hk
  subst e
  exact ⟨c, List.mem_of_getElem? hc, rfl⟩
end
/-! a list of changes in the heap -/
abbrev Chg := Int × V
inductive ChsAt (H : Hp) : List V → List Chg → Prop where
  | nil : ChsAt H [] []
  | cons {t : Addr} {xs : List V} {c : Chg} {cs : List Chg} : H t = some (.tup [.int c.1, c.2]) → ChsAt H xs cs → ChsAt H (.ref t :: xs) (c :: cs)
section
variable {H H' : Hp} {xs ys : List V} {cs ds : List Chg}
theorem ChsAt.len (h : ChsAt H xs cs) : xs.length = cs.length := by
  induction h with
  | nil => rfl
  | cons _ _ ih => simp [ih]
theorem ChsAt.tp (h : ChsAt H xs cs) (e : Tp H H') : ChsAt H' xs cs := by
  induction h with
  | nil => exact .nil
  | cons h _ ih => exact .cons (e _ _ h) ih
theorem ChsAt.ex (h : ChsAt H xs cs) (e : Ex H H') : ChsAt H' xs cs := h.tp e.tp
theorem ChsAt.at (h : ChsAt H xs cs) : ∀ {i : Nat} {c : Chg}, cs[i]? = some c → ∃ t, xs[i]? = some (.ref t) ∧ H t = some (.tup [.int c.1, c.2]) := by
  induction h with
  | nil => intro i c e; simp at e
  | @cons t xs c' cs ht _ ih =>
    intro i c e
    cases i with
    | zero => simp at e; subst e; exact ⟨t, rfl, ht⟩
    | succ i => simpa using ih (by simpa using e)
theorem ChsAt.at' (h : ChsAt H xs cs) {i : Nat} {x : V} (e : xs[i]? = some x) : ∃ t c, x = .ref t ∧ cs[i]? = some c ∧ H t = some (.tup [.int c.1, c.2]) := by
  have hi : i < cs.length := by rw [← h.len]; exact (List.getElem?_eq_some_iff.mp e).1
  obtain ⟨t, h1, h2⟩ := h.at (List.getElem?_eq_getElem hi)
  rw [e] at h1
  exact ⟨t, _, Option.some.inj h1, List.getElem?_eq_getElem hi, h2⟩
theorem ChsAt.app (h : ChsAt H xs cs) (g : ChsAt H ys ds) : ChsAt H (xs ++ ys) (cs ++ ds) := by
  induction h with
  | nil => exact g
  | cons h _ ih => exact .cons h ih
theorem ChsAt.one {t : Addr} {c : Chg} (h : H t = some (.tup [.int c.1, c.2])) : ChsAt H [.ref t] [c] := .cons h .nil
end
/-! a static method of an own class, called on the class -/
structure SMet (K : PySem.W.Frag) (C : Addr) (mc : Value) (m : Str) (p g : Addr) : Prop where
  rd : PySem.W.readsIn K C mc = true
  ga : PySem.W.specialIn K (.ref C) "__getattribute__" = some (some (.builtin "type.__getattribute__"))
  at_ : PySem.W.findCls K (.ref C) mc m = some (.get (.builtin "staticmethod.__get__") (.ref p) .none (.ref C))
  rc : ∃ rest, PySem.W.recIn K p "staticmethod" = some (.ref g :: rest)
  kp : PySem.W.keepIn K (.ref g) = true
def SMethW (C : Addr) (sp : Sp) (dvs : List V) (E : L2.St → XK) (t : TA) (σ : L2.St) (Q : VK) : VK := fun x H1 => x = .ref C ∧ t σ H1 fun vs H2 => sp (vs ++ dvs) H2 Q (E σ)
def tSMeth (C : Addr) (sp : Sp) (dvs : List V) (E : L2.St → XK) (ta : TE) (t : TA) : TE := fun σ H Q => ta σ H (SMethW C sp dvs E t σ Q)
section
variable {X : Cx} {CX : CXT} {k : Nat} {C p f : Addr} {mc : Value} {sp : Sp} {o e : Expr} {es : List Expr} {m : Str} {pos apos : Pos} {ta : TE} {t : TA} {pl : Sem Bool} {fd : FuncData} {ps : List Str} {ds : List Value} {dvs : List V}
theorem pe_smethE {E : L2.St → XK} (he : PE X o ta) (c : SMet X.K C mc m p f) (F : FnOk X.prog X.w X.K X.mg X.base CX k f fd ps sp) (hr : Room k X.A) (hb : Binds X.K fd ps ds) (hd : Vals dvs ds) (hx : ∀ σ, PassesAt CX X σ (E σ)) (ha : PA X (e :: es) t)
    (hst : starEach (e :: es) X.env = (false, eval e X.env) :: starEach es X.env := by rfl) (hpl : (backTo pos (starEach es X.env)).any (·.1) = false := by rfl)
    (ht : eval (.Call (.Attribute o m apos) (e :: es) [] pos) X.env = (do
      let ov ← eval o X.env
      standAt apos.atName
      let (f, first) ← holding [ov] (getMethod ov m pl)
      callWith pos f first (backTo pos (starEach (e :: es) X.env)) (backToKw pos (keywordEach [] X.env))) := by rfl) :
    PE X (.Call (.Attribute o m apos) (e :: es) [] pos) (tSMeth C sp dvs E ta t) := by
  refine ⟨fun pins s σ H Q I h => ?_⟩
  refine PySem.W.methodCall_KW (pl := pl) (thn (he.run pins s σ H _ I h) fun u s1 ⟨x, H1, I1, rx, ex, q⟩ => ?_) ht
  subst ex
  obtain rfl : u = Value.ref C := rx
  obtain ⟨rest, hp⟩ := c.rc
  refine PySem.W.method_cls I1.kIn c.ga (PySem.W.cls_bind I1.kIn c.rd c.at_ (wpAny_call (PySem.W.sm_get (s := { s1 with toks := s1.toks + 1 }) I1.kIn hp (PySem.W.handed_on rfl ?_))))
  refine PySem.W.callWith_K (first := []) (h₀ := X.base) I.ok.mod.kin c.kp (thn (ha.run pos pins _ σ H1 _ (I1.tok _) q) fun us s2 ⟨vs, H2, I2, r, q2⟩ => ⟨I2.kIn, ?_⟩) hst hpl
  exact run_fnA (us := us) (vs := vs) F hr hb hd (hx σ) I2 r q2
theorem pe_smeth {E : XK} (he : PE X o ta) (c : SMet X.K C mc m p f) (F : FnOk X.prog X.w X.K X.mg X.base CX k f fd ps sp) (hr : Room k X.A) (hb : Binds X.K fd ps ds) (hd : Vals dvs ds) (hx : Passes CX X E) (ha : PA X (e :: es) t)
    (hst : starEach (e :: es) X.env = (false, eval e X.env) :: starEach es X.env := by rfl) (hpl : (backTo pos (starEach es X.env)).any (·.1) = false := by rfl)
    (ht : eval (.Call (.Attribute o m apos) (e :: es) [] pos) X.env = (do
      let ov ← eval o X.env
      standAt apos.atName
      let (f, first) ← holding [ov] (getMethod ov m pl)
      callWith pos f first (backTo pos (starEach (e :: es) X.env)) (backToKw pos (keywordEach [] X.env))) := by rfl) :
    PE X (.Call (.Attribute o m apos) (e :: es) [] pos) (tSMeth C sp dvs (fun _ => E) ta t) := by
  refine ⟨fun pins s σ H Q I h => ?_⟩
  refine PySem.W.methodCall_KW (pl := pl) (thn (he.run pins s σ H _ I h) fun u s1 ⟨x, H1, I1, rx, ex, q⟩ => ?_) ht
  subst ex
  obtain rfl : u = Value.ref C := rx
  obtain ⟨rest, hp⟩ := c.rc
  refine PySem.W.method_cls I1.kIn c.ga (PySem.W.cls_bind I1.kIn c.rd c.at_ (wpAny_call (PySem.W.sm_get (s := { s1 with toks := s1.toks + 1 }) I1.kIn hp (PySem.W.handed_on rfl ?_))))
  refine PySem.W.callWith_K (first := []) (h₀ := X.base) I.ok.mod.kin c.kp (thn (ha.run pos pins _ σ H1 _ (I1.tok _) q) fun us s2 ⟨vs, H2, I2, r, q2⟩ => ⟨I2.kIn, ?_⟩) hst hpl
  exact run_fn (us := us) (vs := vs) F hr hb hd hx I2 r q2
theorem r_smeth {E : L2.St → XK} {σ : L2.St} {H : Hp} {Q : VK} (q : ta σ H (SMethW C sp dvs E t σ Q)) : tSMeth C sp dvs E ta t σ H Q := q
theorem r_smethW {E : L2.St → XK} {σ : L2.St} {H : Hp} {Q : VK} (q : t σ H fun vs H2 => sp (vs ++ dvs) H2 Q (E σ)) : SMethW C sp dvs E t σ Q (.ref C) H := ⟨rfl, q⟩
end
/-! a comprehension over zip(xs, ys) -/
section
variable {K : PySem.W.Frag} {σ : L2.St} {H : Hp} {Q : VK} {g : TG} {tt : TT} {te : TE} {vs : List Nat} {a b : Addr} {xs ys : List V}
theorem lcxZ (PA : Nat → List V → Hp → Prop) (hx : H a = some (.lst xs)) (hy : H b = some (.lst ys)) (hxy : xs.length ≤ ys.length) (hz : xs.length < 10000000) (h0 : ∀ H', Ex H H' → PA 0 [] H') (mono : ∀ i acc H H', Tp H H' → PA i acc H → PA i acc H')
    (step : ∀ i x y T acc H' (Qk : VK) (Qn : Hp → Prop), xs[i]? = some x → ys[i]? = some y → Ex H H' → H' T = some (.tup [x, y]) → acc.length ≤ i → PA i acc H' → (∀ z H4, Ex H' H4 → PA (i + 1) (acc ++ [z]) H4 → Qk z H4) → (∀ H3, Ex H' H3 → PA (i + 1) acc H3 → Qn H3) →
      g (.ref T) (wipe σ vs) H' fun σ2 H2 => wipe σ2 vs = wipe σ vs ∧ tt σ2 H2 fun b H3 => if b = true then te σ2 H3 Qk else Qn H3)
    (hd : ∀ D acc H', H D = none → Ex H H' → H' D = some (.lst acc) → acc.length ≤ xs.length → PA xs.length acc H' → Q (.ref D) H') : LcW (Itz K a b) g tt te vs σ Q H := by
  intro D hD
  let Pv : Nat → Hp → Prop := fun i H' => Ex H H' ∧ ∃ acc, H' D = some (.lst acc) ∧ acc.length ≤ i ∧ PA i acc H'
  refine ⟨fun i m H' => m = xs.length - i ∧ i ≤ xs.length ∧ Pv i H', ⟨xs.length, by simp, Nat.zero_le _, Ex.new hD, [], upd_same, Nat.le_refl _, h0 _ (Ex.new hD)⟩, ?_⟩
  rintro i m H' ⟨rfl, hi, e, acc, hD', hl, pa⟩
  have qx : SqL K H' a xs := SqL.of (e _ _ hx)
  have qy : SqL K H' b ys := SqL.of (e _ _ hy)
  by_cases hlt : i < xs.length
  · have h1 := List.getElem?_eq_getElem hlt
    have h2 := List.getElem?_eq_getElem (show i < ys.length by omega)
    refine .inr ⟨⟨xs, ys, _, _, qx, qy, h1, h2⟩, Pv (i + 1), fun H'' p' => ⟨xs.length - (i + 1), by omega, rfl, hlt, p'⟩, ?_⟩
    rintro v H'' ⟨T, x, y, rfl, hT, rfl, hx', hy'⟩
    have eT := Ex.new (o := .tup [x, y]) hT
    refine step i x y T acc _ _ _ (hx' _ qx) (hy' _ qy) (e.trans eT) upd_same hl (mono _ _ _ _ eT.tp pa) (fun z H4 e4 p4 => ?_) (fun H3 e3 p3 => ?_)
    · have e4 := eT.trans e4
      refine ⟨acc, e4 _ _ hD', szL (by omega), fun b o q => ?_, acc ++ [z], upd_same, by simp; omega, mono _ _ _ _ ?_ p4⟩
      · rw [upd_ne (ne_of_none q hD)]
        exact e4 _ _ (e _ _ q)
      · exact (But.upd (o := .lst (acc ++ [z]))).tpL (e4 _ _ hD')
    · have e3 := eT.trans e3
      exact ⟨e.trans e3, acc, e3 _ _ hD', by omega, p3⟩
  · have e' : i = xs.length := by omega
    subst e'
    exact .inl ⟨⟨xs, ys, qx, qy, .inl (Nat.le_refl _)⟩, hd D acc H' hD e hD' hl pa⟩
theorem r_zip {ta : TA} {R : It → Hp → Prop} (q : ta σ H fun vs H1 => ∃ a b xs ys, vs = [.ref a, .ref b] ∧ SqL K H1 a xs ∧ SqL K H1 b ys ∧ R (Itz K a b) H1) : iZip K ta σ H R := q
end
theorem r_noP {σ : L2.St} {H : Hp} {R : Option Int → Hp → Prop} (q : R none H) : tNoPart σ H R := q
theorem cutV_from {xs : List V} : cutV xs (some 1) none = xs.drop 1 := by
  unfold cutV
  have h : HT.sIx xs.length 0 (some 1) = min 1 xs.length := HT.sIx_nat xs.length 0 1
  rw [h, HT.sIx_none]
  rcases Nat.lt_or_ge xs.length 1 with q | q
  · have : xs = [] := List.eq_nil_of_length_eq_zero (by omega)
    subst this
    rfl
  · rw [Nat.min_eq_left q, List.take_of_length_le (by simp)]
theorem ChsAt.drop {H : Hp} {xs : List V} {cs : List Chg} (h : ChsAt H xs cs) (n : Nat) : ChsAt H (xs.drop n) (cs.drop n) := by
  induction h generalizing n with
  | nil => simpa using ChsAt.nil
  | cons h g ih =>
    cases n with
    | zero => exact .cons h g
    | succ n => exact ih n
theorem lasts_at {cs : List Chg} {i : Nat} (hi : i < cs.length) {y : V} (h : ((((cs.drop 1).map fun c => c.1 - 1).map V.int) ++ [V.non])[i]? = some y) : y = optI ((cs[i + 1]?).map fun e => e.1 - 1) := by
  by_cases h1 : i + 1 < cs.length
  · rw [List.getElem?_append_left (by simp; omega), List.getElem?_map, List.getElem?_map, List.getElem?_drop, Nat.add_comm 1 i] at h
    rw [List.getElem?_eq_getElem h1] at h ⊢
    exact (Option.some.inj h).symm
  · rw [List.getElem?_append_right (by simp; omega)] at h
    have e : i - (((cs.drop 1).map fun c => c.1 - 1).map V.int).length = 0 := by simp; omega
    rw [e] at h
    rw [List.getElem?_eq_none (by omega)]
    exact (Option.some.inj h).symm
/-! runs, compared -/
theorem val_eqv {v w : V} (h : OptW v) (g : OptW w) : PyData.eqv (valD v) (valD w) = decide (v = w) := by
  cases h with
  | non => cases g with
    | non => rfl
    | w g => cases g <;> rfl
  | w h => cases h with
    | int i => cases g with
      | non => rfl
      | w g => cases g with
        | int j => rw [Bool.eq_iff_iff]; simp [valD, PyData.eqv]
        | str s _ => rw [Bool.eq_iff_iff]; simp [valD, PyData.eqv]
    | str s _ => cases g with
      | non => rfl
      | w g => cases g with
        | int j => rw [Bool.eq_iff_iff]; simp [valD, PyData.eqv]
        | str t _ => rw [Bool.eq_iff_iff]; simp [valD, PyData.eqv]
theorem opt_eqv (a b : Option Int) : PyData.eqv (optD a) (optD b) = decide (a = b) := by
  cases a <;> cases b <;> rw [Bool.eq_iff_iff] <;> simp [optD, PyData.eqv]
theorem runs_eqv : ∀ {rs ss : List Run}, (∀ r ∈ rs, OptW r.2.2) → (∀ r ∈ ss, OptW r.2.2) → PyData.eqvAll (rs.map runD) (ss.map runD) = decide (rs = ss)
  | [], [], _, _ => by simp [PyData.eqvAll]
  | [], _ :: _, _, _ => by simp [PyData.eqvAll]
  | _ :: _, [], _, _ => by simp [PyData.eqvAll]
  | r :: rs, s :: ss, h, g => by
    have ih := runs_eqv (fun x hx => h x (List.mem_cons_of_mem _ hx)) (fun x hx => g x (List.mem_cons_of_mem _ hx))
    have h0 := val_eqv (h r List.mem_cons_self) (g s List.mem_cons_self)
    have h1 := opt_eqv r.2.1 s.2.1
    obtain ⟨f, l, v⟩ := r
    obtain ⟨f2, l2, v2⟩ := s
    simp only at h0 h1
    simp only [List.map_cons, PyData.eqvAll, ih, runD, PyData.eqv, h0, h1]
    rw [Bool.eq_iff_iff]
    simp [and_assoc]
theorem r_eqRuns {K : PySem.W.Frag} {H : Hp} {Q : VK} {p q : Addr} {xs ys : List V} {rs ss : List Run} (hp : H p = some (.lst xs)) (h : RunsAt H xs rs) (hq : H q = some (.lst ys)) (g : RunsAt H ys ss) (w : ∀ r ∈ rs, Worth r.2.2) (w2 : ∀ r ∈ ss, Worth r.2.2)
    (k : Q (.bl (decide (rs = ss))) H) : rEqD K (.ref p) (.ref q) H Q := by
  have w := fun r hr => OptW.w (w r hr)
  have w2 := fun r hr => OptW.w (w2 r hr)
  refine ⟨_, _, runs_dp hp h w, runs_dp hq g w2, runs_shaped w, runs_shaped w2, ?_⟩
  have e : PyData.eqv (.list (rs.map runD)) (.list (ss.map runD)) = decide (rs = ss) := by
    simp only [PyData.eqv]
    exact runs_eqv w w2
  rw [e]
  exact k
end Vf
set_option maxHeartbeats 2000000
/-! entries as stretches without an end -/
namespace Vf
open PySem PySem.Spec PyProof.Rows L2
section
variable {α : Type} [DecidableEq α] {nn : α}
def openR {α : Type} (c : Int × α) : Rn α := (c.1, none, c.2)
theorem inc_pair : ∀ {cs : List (Int × α)}, incC cs → (cs.map (·.1)).Pairwise (· < ·)
  | [], _ => List.Pairwise.nil
  | [_], _ => List.pairwise_singleton _ _
  | c :: e :: t, h => by
    have ih := inc_pair (cs := e :: t) h.2
    refine List.pairwise_cons.mpr ⟨fun d hd => ?_, ih⟩
    rcases List.mem_cons.mp hd with rfl | hd
    · exact h.1
    · exact Int.lt_trans h.1 ((List.pairwise_cons.mp ih).1 d hd)
theorem paint_skip {d : Int} {ss : List (Rn α)} : ∀ {x : α}, (∀ r ∈ ss, hasD r d = false) → ss.foldl (fun a r => if hasD r d = true then r.2.2 else a) x = x := by
  induction ss with
  | nil => intro x _; rfl
  | cons r t ih =>
    intro x h
    rw [List.foldl_cons, h r List.mem_cons_self]
    exact ih fun s hs => h s (List.mem_cons_of_mem _ hs)
theorem paint_open {cs : List (Int × α)} (h : incC cs) {k : Nat} {c : Int × α} (hk : cs[k]? = some c) : paintR nn (cs.map openR) c.1 = c.2 := by
  obtain ⟨hlt, e⟩ := List.getElem?_eq_some_iff.mp hk
  have hp := inc_pair h
  have hs : cs = cs.take k ++ c :: cs.drop (k + 1) := by
    rw [← e, ← List.drop_eq_getElem_cons hlt, List.take_append_drop]
  rw [hs]
  rw [hs, List.map_append, List.map_cons] at hp
  have hp2 := (List.pairwise_append.mp hp).2.1
  have h1 := (List.pairwise_cons.mp hp2).1
  unfold paintR
  rw [List.map_append, List.foldl_append, List.map_cons, List.foldl_cons, paint_skip]
  · have hh : hasD (openR c) c.1 = true := hasD_iff.mpr ⟨Int.le_refl _, fun l e => by cases (show (none : Option Int) = some l from e)⟩
    rw [if_pos hh]
    rfl
  · intro r hr
    obtain ⟨x, hx, rfl⟩ := List.mem_map.mp hr
    have := h1 x.1 (List.mem_map.mpr ⟨x, hx, rfl⟩)
    refine Bool.eq_false_iff.mpr fun z => ?_
    have := (hasD_iff.mp z).1
    simp only [openR] at this
    omega
theorem segC_open {cs : List (Int × α)} (h : incC cs) : segC cs = segR (paintR nn (cs.map openR)) (cs.map (·.1)) := by
  refine List.ext_getElem? fun k => ?_
  rw [segC_at, seg_at, List.getElem?_map, List.getElem?_map]
  cases hk : cs[k]? with
  | none => rfl
  | some c =>
    simp only [Option.map_some]
    rw [paint_open h hk]
    cases cs[k + 1]? <;> rfl
theorem open_runs {cs : List (Int × α)} (h : incC cs) : NormR nn (joinR nn (segC cs)) ∧ ∀ x, lookR nn (joinR nn (segC cs)) x = paintR nn (cs.map openR) x := by
  rw [segC_open (nn := nn) h]
  refine edge_runs (inc_pair h) fun d => ?_
  constructor
  · intro hd
    obtain ⟨c, hc, rfl⟩ := List.mem_map.mp hd
    exact ⟨openR c, List.mem_map.mpr ⟨c, hc, rfl⟩, .inl rfl⟩
  · rintro ⟨r, hr, e | ⟨l, e, _⟩⟩
    · obtain ⟨c, hc, rfl⟩ := List.mem_map.mp hr
      exact List.mem_map.mpr ⟨c, hc, e⟩
    · obtain ⟨c, hc, rfl⟩ := List.mem_map.mp hr
      cases e
end
theorem ChsAt.take {H : Hp} {xs : List V} {cs : List Chg} (h : ChsAt H xs cs) : ∀ n, ChsAt H (xs.take n) (cs.take n) := by
  induction h with
  | nil => intro n; simpa using ChsAt.nil
  | cons h _ ih =>
    intro n
    cases n with
    | zero => exact .nil
    | succ n => exact .cons h (ih n)
/-! changes, compared -/
def chgD (c : Chg) : PyData := .tuple [.int c.1, valD c.2]
theorem chs_dpA {K : PySem.W.Frag} {H : Hp} {xs : List V} {cs : List Chg} (h : ChsAt H xs cs) (w : ∀ c ∈ cs, OptW c.2) : DpAll K H xs (cs.map chgD) := by
  induction h with
  | nil => exact .nil
  | cons ht _ ih => exact .cons (.tup (.of ht) (.cons (.int _) (.cons (optw_dp (w _ List.mem_cons_self)) .nil))) (ih fun r hr => w r (List.mem_cons_of_mem _ hr))
theorem chs_dp {K : PySem.W.Frag} {H : Hp} {p : Addr} {xs : List V} {cs : List Chg} (hp : H p = some (.lst xs)) (h : ChsAt H xs cs) (w : ∀ c ∈ cs, OptW c.2) : Dp K H (.ref p) (.list (cs.map chgD)) := .lst (.of hp) (chs_dpA h w)
theorem chs_shaped {cs : List Chg} (w : ∀ c ∈ cs, OptW c.2) : SeqAt.shaped (.list (cs.map chgD)) = true := by
  have h1 : PyData.canLayAll0 (cs.map chgD) = true := by
    induction cs with
    | nil => rfl
    | cons r t ih =>
      have h := (val_lay (w r List.mem_cons_self)).1
      have ih := ih fun x hx => w x (List.mem_cons_of_mem _ hx)
      simp [PyData.canLayAll0, PyData.canLay0, chgD, ih, h]
  have h2 : PyData.depthAll (cs.map chgD) ≤ 3 := by
    clear h1
    induction cs with
    | nil => simp [PyData.depthAll]
    | cons r t ih =>
      have h := (val_lay (w r List.mem_cons_self)).2
      have ih := ih fun x hx => w x (List.mem_cons_of_mem _ hx)
      simp [PyData.depthAll, PyData.depth, chgD] at ih h ⊢
      omega
  have h4 : PyData.depthAll (cs.map chgD) + 1 ≤ 64 := by omega
  show (PyData.canLayAll0 (cs.map chgD) && decide (PyData.depthAll (cs.map chgD) + 1 ≤ 64)) = true
  rw [h1, decide_eq_true h4]
  rfl
theorem chs_eqv : ∀ {cs : List Chg}, (∀ c ∈ cs, OptW c.2) → PyData.eqvAll (cs.map chgD) (cs.map chgD) = true
  | [], _ => by simp [PyData.eqvAll]
  | c :: cs, h => by
    have ih := chs_eqv fun x hx => h x (List.mem_cons_of_mem _ hx)
    have h0 := val_eqv (h c List.mem_cons_self) (h c List.mem_cons_self)
    simp [PyData.eqvAll, ih, chgD, PyData.eqv, h0]
theorem r_neChs {K : PySem.W.Frag} {H : Hp} {Q : VK} {p q : Addr} {xs ys : List V} {cs : List Chg} (hp : H p = some (.lst xs)) (h : ChsAt H xs cs) (hq : H q = some (.lst ys)) (g : ChsAt H ys cs) (w : ∀ c ∈ cs, OptW c.2)
    (k : Q (.bl false) H) : rNeD K (.ref p) (.ref q) H Q := by
  refine ⟨_, _, chs_dp hp h w, chs_dp hq g w, chs_shaped w, chs_shaped w, ?_⟩
  have e : (!PyData.eqv (.list (cs.map chgD)) (.list (cs.map chgD))) = false := by
    simp only [PyData.eqv, chs_eqv w, Bool.not_true]
  rw [e]
  exact k
end Vf
set_option maxHeartbeats 2000000
/-! rows as tuples (first, until, value) -/
namespace Vf
open PySem PySem.Spec PyProof.Rows L2
@[reducible] def stopOf (u : Option Int) (s : Str) : Option Int := u.map fun n => if s = "next day" then n else n + 1
def bears (f : Int) (st : Option Int) (d : Int) : Bool := decide (f ≤ d) && (match st with | none => true | some n => decide (d < n))
theorem r_exb {b : Bool} {A : Bool → Prop} (q : A b) : ∃ c, V.bl b = .bl c ∧ A c := ⟨b, rfl, q⟩
def IsEnds (s : Str) : Prop := s = "last day" ∨ s = "next day"
theorem ends_ne : ("last day" : Str) ≠ "next day" := by decide +kernel
/-- the rows with their stops in the place of the untils -/
def spanR (s : Str) (r : Run) : Run := (r.1, stopOf r.2.1 s, r.2.2)
/-- the values of the rows that bear the day; the untils are stops -/
def shownR (rs : List Run) (d : Int) : List V := (rs.filter fun r => bears r.1 r.2.1 d).map (·.2.2)
theorem shown_snoc {rs : List Run} {d : Int} {i : Nat} {r : Run} (e : rs[i]? = some r) : shownR (rs.take (i + 1)) d = shownR (rs.take i) d ++ (if bears r.1 r.2.1 d = true then [r.2.2] else []) := by
  rw [List.take_succ, e]
  unfold shownR
  rw [List.filter_append, List.map_append]
  congr 1
  by_cases h : bears r.1 r.2.1 d = true <;> simp [h]
theorem shown_mem {rs : List Run} {d : Int} {v : V} (h : v ∈ shownR rs d) : ∃ r ∈ rs, r.2.2 = v := by
  obtain ⟨r, hr, e⟩ := List.mem_map.mp h
  exact ⟨r, (List.mem_filter.mp hr).1, e⟩
theorem shown_len {rs : List Run} {d : Int} : (shownR rs d).length ≤ rs.length := by
  unfold shownR
  rw [List.length_map]
  exact List.length_filter_le _ _
theorem span_at {s : Str} {rs : List Run} {i : Nat} {r : Run} (e : rs[i]? = some r) : (rs.map (spanR s))[i]? = some (r.1, stopOf r.2.1 s, r.2.2) := by
  rw [List.getElem?_map, e]
  rfl
theorem more_of {s : Str} (h : IsEnds s) (u : Option Int) : u.map (· + (if decide (s = "last day") = true then (1 : Int) else 0)) = stopOf u s := by
  cases u with
  | none => rfl
  | some n =>
    rcases h with rfl | rfl
    · simp [stopOf, ends_ne]
    · simp [stopOf, ends_ne.symm]
theorem But.mut {b L : Addr} {H G H' : Hp} (e : But b H G) (m : But L G H') (n : H L = none) : But b H H' := fun a o hb h => m a o (ne_of_none h n) (e a o hb h)
theorem lt_of_mem {x y : V} {xs : List V} (h : ∀ x ∈ xs, Worth x) (e : y ∈ xs) : Worth y := h y e
theorem r_listOf {K : PySem.W.Frag} {H : Hp} {Q : VK} {p : Addr} {ys : List V} (h : SqL K H p ys) (q : ∀ c, H c = none → ∀ H', H' = upd H c (.lst ys) → Q (.ref c) (upd H c (.lst ys))) : rListOf K [.ref p] H Q := ⟨p, ys, rfl, .inl h, fun c hc => q c hc _ rfl⟩
theorem cr_range1 {X : Cx} : CallR X (.type "range") (fun vs H Q => ∃ j, vs = [V.int j] ∧ ∀ p, H p = none → Q (.ref p) (upd H p (.rng 0 j))) := by
  intro pins s σ H vs us Q I r h
  obtain ⟨j, rfl, q⟩ := h
  obtain ⟨u1, rfl, rj⟩ := r.one
  obtain ⟨t, rfl⟩ := (show ∃ t, u1 = Value.int j t from rj)
  refine call_range_1 ⟨.ref s.heap.objs.size, upd H s.heap.objs.size (.rng 0 j), I.laid (t' := s.toks + 1 + 1) (fun b o e => Heap.get?_push_of_some _ e) (Nat.le_refl _) ?_, rfl, q _ (I.hok.fresh (Nat.le_refl _))⟩
  exact ⟨s.toks, t, s.toks + 1, Heap.get?_push_size _ rfl⟩
theorem op_inRng {X : Cx} : OpR X (compareOp .In) (fun x y H Q => ∃ i a lo hi, x = V.int i ∧ y = V.ref a ∧ H a = some (.rng lo hi) ∧ Q (.bl (decide (lo ≤ i ∧ i < hi))) H) := op_in_rng
theorem ErrAt.but {H H' : Hp} {C a b : Addr} {fs : List (Str × V)} {ys : List V} (h : ErrAt H C a fs) (e : But b H H') (hb : H b = some (.lst ys)) : ErrAt H' C a fs := by
  obtain ⟨d, h1, h2⟩ := h
  exact ⟨d, e _ _ (ne_of h1 hb (by unfold exo; intro z; cases z)) h1, e _ _ (ne_of h2 hb (by unfold exd; intro z; cases z)) h2⟩
theorem val_dp {K : PySem.W.Frag} {H : Hp} {v : V} (h : OptW v) : Dp K H v (valD v) := by
  cases h with
  | non => exact .non
  | w h => cases h with
    | int i => exact .int i
    | str s _ => exact .str s
/-- the kind of a thing of the written part -/
def TyXs (K : PySem.W.Frag) (a : Addr) (t : Value) : Prop := ∀ H : Hp, TyX K H (.ref a) t
theorem r_m0 {σ : L2.St} {H : Hp} {Q : VK} {to : TE} {r : V → List V → Hp → VK → Prop} (q : to σ H fun x H1 => (∃ a, x = .str a) ∧ r x [] H1 Q) : tM0 r to σ H Q := q
/-- an index in a comprehension's block -/
theorem ix_seqK {X : Cx} {K0 : PySem.W.Frag} (hK : X.K = K0 := by rfl) : IxR X (rIx K0) := hK ▸ ix_seq
end Vf
set_option maxHeartbeats 2000000
/-! two tables side by side: the least day on which they differ -/
namespace Vf
open PySem PySem.Spec PyProof.Rows L2
section
variable {α : Type} [DecidableEq α] {nn : α}
def EdgesIn {α : Type} (rs : List (Rn α)) (D : List Int) : Prop := ∀ r ∈ rs, r.1 ∈ D ∧ ∀ n, r.2.1 = some n → n + 1 ∈ D
theorem has_const {rs : List (Rn α)} {D : List Int} (hD : EdgesIn rs D) {e x : Int} (hex : e ≤ x) (hn : ∀ d ∈ D, ¬ (e < d ∧ d ≤ x)) : ∀ r ∈ rs, hasD r x = hasD r e := by
  intro r hr
  obtain ⟨h1, h2⟩ := hD r hr
  have a := hn _ h1
  rw [Bool.eq_iff_iff, hasD_iff, hasD_iff]
  constructor
  · rintro ⟨p, q⟩
    exact ⟨by omega, fun l hl => by have := q l hl; omega⟩
  · rintro ⟨p, q⟩
    exact ⟨by omega, fun l hl => by have := q l hl; have := hn _ (h2 l hl); omega⟩
theorem has_early {rs : List (Rn α)} {D : List Int} (hD : EdgesIn rs D) {x : Int} (hn : ∀ d ∈ D, ¬ d ≤ x) : ∀ r ∈ rs, hasD r x = false := by
  intro r hr
  rw [Bool.eq_false_iff, ne_eq, hasD_iff]
  rintro ⟨p, q⟩
  exact hn _ (hD r hr).1 p
theorem cover_congr {x d : Int} : ∀ {rs : List (Rn α)}, (∀ r ∈ rs, hasD r x = hasD r d) → cover rs x = cover rs d
  | [], _ => rfl
  | r :: t, h => by
    simp only [cover]
    rw [h r List.mem_cons_self, cover_congr fun s hs => h s (List.mem_cons_of_mem _ hs)]
theorem greatest (x : Int) : ∀ D : List Int, (∀ d ∈ D, ¬ d ≤ x) ∨ ∃ e ∈ D, e ≤ x ∧ ∀ d ∈ D, ¬ (e < d ∧ d ≤ x)
  | [] => .inl fun _ h => by cases h
  | a :: t => by
    rcases greatest x t with h | ⟨e, he, hx, hn⟩
    · by_cases ha : a ≤ x
      · refine .inr ⟨a, List.mem_cons_self, ha, fun d hd q => ?_⟩
        rcases List.mem_cons.mp hd with rfl | hd
        · omega
        · exact h d hd q.2
      · refine .inl fun d hd => ?_
        rcases List.mem_cons.mp hd with rfl | hd
        · exact ha
        · exact h d hd
    · by_cases ha : a ≤ x ∧ e < a
      · refine .inr ⟨a, List.mem_cons_self, ha.1, fun d hd q => ?_⟩
        rcases List.mem_cons.mp hd with rfl | hd
        · omega
        · exact hn d hd ⟨by omega, q.2⟩
      · refine .inr ⟨e, List.mem_cons_of_mem _ he, hx, fun d hd q => ?_⟩
        rcases List.mem_cons.mp hd with rfl | hd
        · omega
        · exact hn d hd q
theorem ch_edges : ∀ {rs : List (Rn α)}, AscR rs → EdgesIn rs ((chL nn rs).map (·.1))
  | [], _ => fun _ h => by cases h
  | r :: t, h => by
    have ih := ch_edges h.tail
    intro s hs
    simp only [chL, List.map_cons, List.map_append]
    rcases List.mem_cons.mp hs with rfl | hs
    · refine ⟨List.mem_cons_self, fun n hn => ?_⟩
      rw [hn]
      cases t with
      | nil => simp [gapS]
      | cons u t =>
        obtain ⟨l, hl, hlt⟩ := (List.pairwise_cons.mp h.2).1 u List.mem_cons_self
        rw [hn] at hl
        cases hl
        simp only [gapS, List.head?_cons, Option.map_some]
        by_cases q : n + 1 < u.1
        · rw [if_pos q]; simp
        · have e : n + 1 = u.1 := by omega
          rw [if_neg q, e]
          simp [chL]
    · obtain ⟨h1, h2⟩ := ih s hs
      exact ⟨List.mem_cons_of_mem _ (List.mem_append_right _ h1), fun n hn => List.mem_cons_of_mem _ (List.mem_append_right _ (h2 n hn))⟩
/-- the least day on which the two differ -/
def Least {α : Type} (g h : Int → α) : Option Int → Prop
  | none => ∀ x, g x = h x
  | some d => g d ≠ h d ∧ ∀ x, x < d → g x = h x
theorem Least.one {g h : Int → α} : ∀ {o o' : Option Int}, Least g h o → Least g h o' → o = o'
  | none, none, _, _ => rfl
  | none, some d, a, b => absurd (a d) b.1
  | some d, none, a, b => absurd (b d) a.1
  | some d, some e, a, b => by
    rcases Int.lt_trichotomy d e with q | q | q
    · exact absurd (b.2 d q) a.1
    · rw [q]
    · exact absurd (a.2 e q) b.1
theorem Least.congr {g h g' h' : Int → α} {o : Option Int} (a : Least g h o) (e1 : ∀ x, g x = g' x) (e2 : ∀ x, h x = h' x) : Least g' h' o := by
  cases o with
  | none => exact fun x => by rw [← e1, ← e2]; exact a x
  | some d => exact ⟨by rw [← e1, ← e2]; exact a.1, fun x hx => by rw [← e1, ← e2]; exact a.2 x hx⟩
theorem Least.symm {g h : Int → α} {o : Option Int} (a : Least g h o) : Least h g o := by
  cases o with
  | none => exact fun x => (a x).symm
  | some d => exact ⟨a.1.symm, fun x hx => (a.2 x hx).symm⟩
/-- two functions that stay the same but on the days of D -/
structure Steps {α : Type} (g h : Int → α) (D : List Int) : Prop where
  early : ∀ x, (∀ d ∈ D, ¬ d ≤ x) → g x = h x
  stay : ∀ e x, e ≤ x → (∀ d ∈ D, ¬ (e < d ∧ d ≤ x)) → g x = g e ∧ h x = h e
theorem Steps.mem {g h : Int → α} {D D' : List Int} (s : Steps g h D) (e : ∀ d, d ∈ D → d ∈ D') : Steps g h D' :=
  ⟨fun x hx => s.early x fun d hd => hx d (e d hd), fun y x hyx hx => s.stay y x hyx fun d hd => hx d (e d hd)⟩
theorem Steps.all {g h : Int → α} {D : List Int} (s : Steps g h D) (e : ∀ d ∈ D, g d = h d) : Least g h none := fun x => by
  rcases greatest x D with q | ⟨y, hy, hyx, hn⟩
  · exact s.early x q
  · obtain ⟨a, b⟩ := s.stay y x hyx hn
    rw [a, b, e y hy]
theorem Steps.first {g h : Int → α} {D : List Int} (s : Steps g h D) (p : D.Pairwise (· ≤ ·)) {i : Nat} {d : Int} (hd : D[i]? = some d) (e : ∀ y ∈ D.take i, g y = h y) (ne : g d ≠ h d) : Least g h (some d) := by
  refine ⟨ne, fun x hx => ?_⟩
  rcases greatest x D with q | ⟨y, hy, hyx, hn⟩
  · exact s.early x q
  · obtain ⟨a, b⟩ := s.stay y x hyx hn
    rw [a, b]
    refine e y ?_
    obtain ⟨j, hj, rfl⟩ := List.mem_iff_getElem.mp hy
    obtain ⟨hi, rfl⟩ := List.getElem?_eq_some_iff.mp hd
    refine List.mem_iff_getElem.mpr ⟨j, ?_, List.getElem_take⟩
    have : j < i := by
      apply Classical.byContradiction
      intro hnj
      rcases Nat.lt_or_eq_of_le (Nat.not_lt.mp hnj) with hlt | heq
      · have := List.pairwise_iff_getElem.mp p i j hi hj hlt
        omega
      · subst heq; omega
    rw [List.length_take]; omega
theorem steps_look {rs ss : List (Rn α)} {D : List Int} (h1 : EdgesIn rs D) (h2 : EdgesIn ss D) : Steps (lookR nn rs) (lookR nn ss) D :=
  ⟨fun x hx => by unfold lookR; rw [cover_none (has_early h1 hx), cover_none (has_early h2 hx)],
   fun e x hex hn => by unfold lookR; rw [cover_congr (has_const h1 hex hn), cover_congr (has_const h2 hex hn)]; exact ⟨rfl, rfl⟩⟩
theorem paint_early {ss : List (Rn α)} {x : Int} (h : ∀ r ∈ ss, hasD r x = false) : paintR nn ss x = nn := by
  rcases paint_mem (nn := nn) (ss := ss) (d := x) with q | _
  · exact q
  · refine rev_ind (C := fun ss => (∀ r ∈ ss, hasD r x = false) → paintR nn ss x = nn) (fun _ => rfl) (fun ss r ih h => ?_) ss h
    rw [paint_snoc, h r (by simp)]
    exact ih fun r' hr => h r' (by simp [hr])
theorem steps_paint {rs ss : List (Rn α)} {D : List Int} (h1 : EdgesIn rs D) (h2 : EdgesIn ss D) : Steps (paintR nn rs) (paintR nn ss) D :=
  ⟨fun x hx => by rw [paint_early (has_early h1 hx), paint_early (has_early h2 hx)],
   fun e x hex hn => ⟨paint_congr (has_const h1 hex hn), paint_congr (has_const h2 hex hn)⟩⟩
theorem scal_optw {x y : V} (h : OptW x) (g : OptW y) : scal x y = true := by
  cases h with
  | non => cases g with
    | non => rfl
    | w g => cases g <;> rfl
  | w h => cases h with
    | int i => cases g with
      | non => rfl
      | w g => cases g <;> rfl
    | str s _ => cases g with
      | non => rfl
      | w g => cases g <;> rfl
theorem lookW {rs : List Run} (h : ∀ r ∈ rs, Worth r.2.2) (d : Int) : OptW (lookR .non rs d) := by
  unfold lookR
  cases hc : cover rs d with
  | none => exact .non
  | some v =>
    obtain ⟨r, hr, _, rfl⟩ := cover_some hc
    exact .w (h r hr)
theorem edges_in {rs : List (Rn α)} {D : List Int} (h : ∀ d, EdgeR rs d → d ∈ D) : EdgesIn rs D := fun r hr => ⟨h _ ⟨r, hr, .inl rfl⟩, fun n hn => h _ ⟨r, hr, .inr ⟨n, hn, rfl⟩⟩⟩
end
theorem look_low {rs : List Run} {low x : Int} (h : ∀ r ∈ rs, low ≤ r.1) (hx : x < low) : lookR .non rs x = V.non := by
  unfold lookR
  rw [cover_none fun r hr => ?_]
  · rfl
  · rw [Bool.eq_false_iff, ne_eq, hasD_iff]
    rintro ⟨q, _⟩
    have := h r hr
    omega
/-- all days from below the first run on are taken away -/
theorem give_all {rs : List Run} {low : Int} (n : NormR V.non rs) (h : ∀ r ∈ rs, low ≤ r.1) : giveR .non rs low none .non = [] := by
  have vs : ValR ((low, none, V.non) : Run) := fun l e => by cases e
  refine norm_one (give_norm n vs).1 .nil fun d => ?_
  rw [(give_norm n vs).2 d]
  by_cases q : low ≤ d
  · rw [if_pos (hasD_iff.mpr ⟨q, fun l e => by cases e⟩)]; rfl
  · rw [if_neg (fun z => q (hasD_iff.mp z).1), look_low h (by omega)]; rfl
/-! two tables, two lists of stretches, the values, the marks -/
def W5 (C p1 l1 p2 l2 a1 a2 s m : Addr) (ws : List V) (rs1 rs2 s1 s2 : List Run) (ms : List Int) (H : Hp) : Prop := TabAt C H p1 l1 rs1 ∧ TabAt C H p2 l2 rs2 ∧ LstAt H a1 s1 ∧ LstAt H a2 s2 ∧ H s = some (.lst ws) ∧ H m = some (.lst (ms.map V.int))
section
variable {C p1 l1 p2 l2 a1 a2 s m : Addr} {ws : List V} {rs1 rs2 s1 s2 : List Run} {ms : List Int} {H H' : Hp}
theorem W5.ex (w : W5 C p1 l1 p2 l2 a1 a2 s m ws rs1 rs2 s1 s2 ms H) (e : Ex H H') : W5 C p1 l1 p2 l2 a1 a2 s m ws rs1 rs2 s1 s2 ms H' := by
  obtain ⟨w1, w2, w3, w4, w5, w6⟩ := w
  exact ⟨w1.ex e, w2.ex e, w3.ex e, w4.ex e, e _ _ w5, e _ _ w6⟩
theorem W5.new (w : W5 C p1 l1 p2 l2 a1 a2 s m ws rs1 rs2 s1 s2 ms H) {q : Addr} (h : H q = none) : l1 ≠ q ∧ l2 ≠ q ∧ a1 ≠ q ∧ a2 ≠ q ∧ s ≠ q ∧ m ≠ q := by
  obtain ⟨w1, w2, w3, w4, w5, w6⟩ := w
  exact ⟨w1.ne h, w2.ne h, w3.ne h, w4.ne h, ne_of_none w5 h, ne_of_none w6 h⟩
theorem W5.but (w : W5 C p1 l1 p2 l2 a1 a2 s m ws rs1 rs2 s1 s2 ms H) {q : Addr} {ys : List V} (b : But q H H') (hq : H q = some (.lst ys)) (n : l1 ≠ q ∧ l2 ≠ q ∧ a1 ≠ q ∧ a2 ≠ q ∧ s ≠ q ∧ m ≠ q) : W5 C p1 l1 p2 l2 a1 a2 s m ws rs1 rs2 s1 s2 ms H' := by
  obtain ⟨w1, w2, w3, w4, w5, w6⟩ := w
  obtain ⟨n1, n2, n3, n4, n5, n6⟩ := n
  exact ⟨w1.but b hq n1, w2.but b hq n2, w3.but b hq n3, w4.but b hq n4, b _ _ n5 w5, b _ _ n6 w6⟩
theorem W5.set1 (w : W5 C p1 l1 p2 l2 a1 a2 s m ws rs1 rs2 s1 s2 ms H) {rs' : List Run} (b : But l1 H H') (t : TabAt C H' p1 l1 rs') (n : l2 ≠ l1 ∧ a1 ≠ l1 ∧ a2 ≠ l1 ∧ s ≠ l1 ∧ m ≠ l1) : W5 C p1 l1 p2 l2 a1 a2 s m ws rs' rs2 s1 s2 ms H' := by
  obtain ⟨w1, w2, w3, w4, w5, w6⟩ := w
  obtain ⟨n2, n3, n4, n5, n6⟩ := n
  obtain ⟨ys, hq⟩ := w1.lst
  exact ⟨t, w2.but b hq n2, w3.but b hq n3, w4.but b hq n4, b _ _ n5 w5, b _ _ n6 w6⟩
theorem W5.set2 (w : W5 C p1 l1 p2 l2 a1 a2 s m ws rs1 rs2 s1 s2 ms H) {rs' : List Run} (b : But l2 H H') (t : TabAt C H' p2 l2 rs') (n : l1 ≠ l2 ∧ a1 ≠ l2 ∧ a2 ≠ l2 ∧ s ≠ l2 ∧ m ≠ l2) : W5 C p1 l1 p2 l2 a1 a2 s m ws rs1 rs' s1 s2 ms H' := by
  obtain ⟨w1, w2, w3, w4, w5, w6⟩ := w
  obtain ⟨n2, n3, n4, n5, n6⟩ := n
  obtain ⟨ys, hq⟩ := w2.lst
  exact ⟨w1.but b hq n2, t, w3.but b hq n3, w4.but b hq n4, b _ _ n5 w5, b _ _ n6 w6⟩
theorem W5.app1 (w : W5 C p1 l1 p2 l2 a1 a2 s m ws rs1 rs2 s1 s2 ms H) {s' : List Run} (b : But a1 H H') (t : LstAt H' a1 s') (n : l1 ≠ a1 ∧ l2 ≠ a1 ∧ a2 ≠ a1 ∧ s ≠ a1 ∧ m ≠ a1) : W5 C p1 l1 p2 l2 a1 a2 s m ws rs1 rs2 s' s2 ms H' := by
  obtain ⟨w1, w2, w3, w4, w5, w6⟩ := w
  obtain ⟨n1, n2, n4, n5, n6⟩ := n
  obtain ⟨ys, hq, _⟩ := w3
  exact ⟨w1.but b hq n1, w2.but b hq n2, t, w4.but b hq n4, b _ _ n5 w5, b _ _ n6 w6⟩
theorem W5.app2 (w : W5 C p1 l1 p2 l2 a1 a2 s m ws rs1 rs2 s1 s2 ms H) {s' : List Run} (b : But a2 H H') (t : LstAt H' a2 s') (n : l1 ≠ a2 ∧ l2 ≠ a2 ∧ a1 ≠ a2 ∧ s ≠ a2 ∧ m ≠ a2) : W5 C p1 l1 p2 l2 a1 a2 s m ws rs1 rs2 s1 s' ms H' := by
  obtain ⟨w1, w2, w3, w4, w5, w6⟩ := w
  obtain ⟨n1, n2, n4, n5, n6⟩ := n
  obtain ⟨ys, hq, _⟩ := w4
  exact ⟨w1.but b hq n1, w2.but b hq n2, w3.but b hq n4, t, b _ _ n5 w5, b _ _ n6 w6⟩
end
end Vf
set_option maxHeartbeats 2000000
/-! tables written by other roads -/
namespace Vf
open PySem PySem.Spec PyProof.Rows L2
theorem r_popAt {H : Hp} {Q : VK} {l : Addr} {xs : List V} {i : Int} (h : H l = some (.lst xs)) (h0 : 0 ≤ i) (hk : i.toNat < xs.length) (hz : i < 2 ^ 63) (q : ∀ H', But l H H' → H' l = some (.lst (xs.eraseIdx i.toNat)) → Q xs[i.toNat] H') : rPopAt (.ref l) [.int i] H Q :=
  ⟨l, xs, i, i.toNat, xs[i.toNat], rfl, rfl, h, by omega, hz, by
    have e : (if i < 0 then i + (xs.length : Int) else i) = i := if_neg (by omega)
    show (if (decide (0 ≤ (if i < 0 then i + (xs.length : Int) else i)) && decide ((if i < 0 then i + (xs.length : Int) else i) < (xs.length : Int))) = true then some (if i < 0 then i + (xs.length : Int) else i).toNat else none) = some i.toNat
    rw [e, if_pos (by simp; omega)], List.getElem?_eq_getElem hk, q _ But.upd upd_same⟩
section
variable {α : Type} [DecidableEq α] {nn : α}
/-- the runs that more days than the edges give -/
theorem edge_more {ss : List (Rn α)} {es : List Int} (hp : es.Pairwise (· < ·)) (he : EdgesIn ss es) :
    NormR nn (joinR nn (segR (paintR nn ss) es)) ∧ ∀ x, lookR nn (joinR nn (segR (paintR nn ss) es)) x = paintR nn ss x := by
  obtain ⟨j1, j2⟩ := join_norm (nn := nn) (seg_asc (g := paintR nn ss) hp)
  refine ⟨j1, fun x => ?_⟩
  rw [j2, lookR, seg_cover hp]
  · split
    · rfl
    · rename_i hx
      exact (paint_early (has_early he fun d hd q => hx ⟨d, hd, q⟩)).symm
  · intro k d x hk hdx hn
    refine paint_congr (has_const he hdx fun e hm q => ?_)
    obtain ⟨j, hj, rfl⟩ := List.mem_iff_getElem.mp hm
    obtain ⟨hk1, rfl⟩ := List.getElem?_eq_some_iff.mp hk
    have hkj : k < j := by
      apply Classical.byContradiction
      intro hnj
      rcases Nat.lt_or_eq_of_le (Nat.not_lt.mp hnj) with hlt | heq
      · have := List.pairwise_iff_getElem.mp hp j k hj hk1 hlt; omega
      · subst heq; omega
    have hk2 : k + 1 < es.length := by omega
    have h1 := hn es[k + 1] (List.getElem?_eq_getElem hk2)
    rcases Nat.lt_or_eq_of_le hkj with hlt | heq
    · have := List.pairwise_iff_getElem.mp hp (k + 1) j hk2 hj hlt; omega
    · have : es[k + 1] = es[j] := by simp only [← heq]
      omega
theorem segC_map {g : Int → α} {es : List Int} : segC (es.map fun d => (d, g d)) = segR g es := by
  refine List.ext_getElem? fun k => ?_
  rw [segC_at, seg_at]
  simp only [List.getElem?_map]
  cases es[k]? with
  | none => rfl
  | some d => cases es[k + 1]? <;> rfl
theorem incC_map {g : Int → α} {es : List Int} (hp : es.Pairwise (· < ·)) : incC (es.map fun d => (d, g d)) := by
  refine inc_of fun k a b h1 h2 => ?_
  rw [List.getElem?_map] at h1 h2
  obtain ⟨x, hx, rfl⟩ := Option.map_eq_some_iff.mp h1
  obtain ⟨y, hy, rfl⟩ := Option.map_eq_some_iff.mp h2
  obtain ⟨i1, rfl⟩ := List.getElem?_eq_some_iff.mp hx
  obtain ⟨i2, rfl⟩ := List.getElem?_eq_some_iff.mp hy
  exact List.pairwise_iff_getElem.mp hp k (k + 1) i1 i2 (by omega)
theorem look_has : ∀ {rs : List (Rn α)} {r : Rn α} {d : Int}, AscR rs → r ∈ rs → hasD r d = true → lookR nn rs d = r.2.2
  | [], _, _, _, h, _ => by cases h
  | q :: t, r, d, a, h, hd => by
    rcases List.mem_cons.mp h with rfl | h
    · simp [lookR, cover, hd]
    · have := has_after ((List.pairwise_cons.mp a.2).1 r h) hd
      have ih := look_has a.tail h hd
      unfold lookR at ih ⊢
      simp only [cover, this]
      exact ih
theorem paint_fits {d : Int} {v : α} {ss : List (Rn α)} : (∀ r ∈ ss, hasD r d = true → r.2.2 = v) → paintR nn ss d = if ss.any (fun r => hasD r d) = true then v else nn := by
  refine rev_ind (C := fun ss => (∀ r ∈ ss, hasD r d = true → r.2.2 = v) → paintR nn ss d = if ss.any (fun r => hasD r d) = true then v else nn) (fun _ => rfl) (fun ss r ih h => ?_) ss
  rw [paint_snoc, ih fun r' hr => h r' (by simp [hr]), List.any_append]
  by_cases q : hasD r d = true
  · rw [if_pos q, h r (by simp) q, if_pos (by simp [q])]
  · have q2 : hasD r d = false := by simpa using q
    have e : (ss.any (fun r => hasD r d) || ([r].any fun r => hasD r d)) = ss.any (fun r => hasD r d) := by
      show (ss.any (fun r => hasD r d) || (hasD r d || false)) = _
      rw [q2, Bool.or_false, Bool.or_false]
    rw [if_neg q, e]
/-- what a run cut in parts is -/
structure PartsOf {α : Type} (ps : List (Rn α)) (r : Rn α) : Prop where
  val : ∀ p ∈ ps, ValR p ∧ p.2.2 = r.2.2
  sub : ∀ p ∈ ps, ∀ d, hasD p d = true → hasD r d = true
  all : ∀ d, hasD r d = true → ∃ p ∈ ps, hasD p d = true
/-- what is laid instead of the runs -/
structure Laid {α : Type} (nn : α) (ps rs qs : List (Rn α)) : Prop where
  val : ∀ p ∈ ps, ValR p
  mem : ∀ p ∈ ps, ∃ r ∈ rs, p.2.2 = r.2.2
  fit : ∀ p ∈ ps, ∀ d, hasD p d = true → lookR nn rs d = p.2.2
  all : ∀ q ∈ qs, ∀ d, hasD q d = true → ∃ p ∈ ps, hasD p d = true
theorem Laid.nil {rs : List (Rn α)} : Laid nn [] rs [] := ⟨fun _ h => (by cases h), fun _ h => (by cases h), fun _ h => (by cases h), fun _ h => (by cases h)⟩
theorem Laid.more {ps ps2 rs qs : List (Rn α)} {r : Rn α} (h : Laid nn ps rs qs) (a : AscR rs) (hr : r ∈ rs) (g : PartsOf ps2 r) : Laid nn (ps ++ ps2) rs (qs ++ [r]) := by
  refine ⟨fun p hp => ?_, fun p hp => ?_, fun p hp d hd => ?_, fun q hq d hd => ?_⟩
  · rcases List.mem_append.mp hp with hp | hp
    · exact h.val p hp
    · exact (g.val p hp).1
  · rcases List.mem_append.mp hp with hp | hp
    · exact h.mem p hp
    · exact ⟨r, hr, (g.val p hp).2⟩
  · rcases List.mem_append.mp hp with hp | hp
    · exact h.fit p hp d hd
    · rw [(g.val p hp).2]; exact look_has a hr (g.sub p hp d hd)
  · rcases List.mem_append.mp hq with hq | hq
    · obtain ⟨p, hp, e⟩ := h.all q hq d hd
      exact ⟨p, List.mem_append_left _ hp, e⟩
    · rw [List.mem_singleton] at hq
      subst hq
      obtain ⟨p, hp, e⟩ := g.all d hd
      exact ⟨p, List.mem_append_right _ hp, e⟩
theorem Laid.perm {ps ps' rs qs : List (Rn α)} (h : Laid nn ps rs qs) (p : ps'.Perm ps) : Laid nn ps' rs qs :=
  ⟨fun x hx => h.val x (p.mem_iff.mp hx), fun x hx => h.mem x (p.mem_iff.mp hx), fun x hx => h.fit x (p.mem_iff.mp hx), fun q hq d hd => by
    obtain ⟨x, hx, e⟩ := h.all q hq d hd
    exact ⟨x, p.mem_iff.mpr hx, e⟩⟩
theorem Laid.paint {ps rs : List (Rn α)} (h : Laid nn ps rs rs) (d : Int) : paintR nn ps d = lookR nn rs d := by
  rw [paint_fits (v := lookR nn rs d) fun r hr hd => (h.fit r hr d hd).symm]
  split
  · rfl
  · rename_i hn
    unfold lookR
    cases hc : cover rs d with
    | none => rfl
    | some v =>
      obtain ⟨r, hr, hd, _⟩ := cover_some hc
      obtain ⟨p, hp, e⟩ := h.all r hr d hd
      exact absurd (List.any_eq_true.mpr ⟨p, hp, e⟩) hn
end
theorem erase_perm {α : Type} : ∀ {l : List α} {i : Nat} (h : i < l.length), (l[i] :: l.eraseIdx i).Perm l
  | x :: l, 0, _ => .refl _
  | x :: l, i + 1, h => by
    have ih := erase_perm (l := l) (i := i) (by simpa using h)
    simp only [List.getElem_cons_succ, List.eraseIdx_cons_succ]
    exact (List.Perm.swap _ _ _).trans (.cons _ ih)
theorem RunsAt.perm {H : Hp} {xs ys : List V} (p : ys.Perm xs) : ∀ {rs : List Run}, RunsAt H xs rs → ∃ rs', RunsAt H ys rs' ∧ rs'.Perm rs := by
  induction p with
  | nil => intro rs h; exact ⟨rs, h, .refl _⟩
  | cons x _ ih =>
    intro rs h
    cases h with
    | cons ht g =>
      obtain ⟨rs', h1, h2⟩ := ih g
      exact ⟨_ :: rs', .cons ht h1, .cons _ h2⟩
  | swap x y l =>
    intro rs h
    cases h with
    | cons ht g => cases g with
      | cons hu g2 => exact ⟨_ :: _ :: _, .cons hu (.cons ht g2), .swap _ _ _⟩
  | trans _ _ ih1 ih2 =>
    intro rs h
    obtain ⟨r1, h1, p1⟩ := ih2 h
    obtain ⟨r2, h2, p2⟩ := ih1 h1
    exact ⟨r2, h2, p2.trans p1⟩
/-! one table with its mirror, another table, the runs due -/
def W11 (C p l a s m p2 l2 D : Addr) (ws : List V) (rs ss : List Run) (ms : List Int) (rs2 : List Run) (H : Hp) : Prop := W1 C p l a s m ws rs ss ms H ∧ TabAt C H p2 l2 rs2 ∧ LstAt H D rs
section
variable {C p l a s m p2 l2 D : Addr} {ws : List V} {rs ss rs2 : List Run} {ms : List Int} {H H' : Hp}
theorem W11.ex (w : W11 C p l a s m p2 l2 D ws rs ss ms rs2 H) (e : Ex H H') : W11 C p l a s m p2 l2 D ws rs ss ms rs2 H' := ⟨w.1.ex e, w.2.1.ex e, w.2.2.ex e⟩
theorem W11.new (w : W11 C p l a s m p2 l2 D ws rs ss ms rs2 H) {q : Addr} (h : H q = none) : (l ≠ q ∧ a ≠ q ∧ s ≠ q ∧ m ≠ q) ∧ l2 ≠ q ∧ D ≠ q := ⟨w.1.new h, w.2.1.ne h, w.2.2.ne h⟩
theorem W11.but (w : W11 C p l a s m p2 l2 D ws rs ss ms rs2 H) {q : Addr} {ys : List V} (b : But q H H') (hq : H q = some (.lst ys)) (n : (l ≠ q ∧ a ≠ q ∧ s ≠ q ∧ m ≠ q) ∧ l2 ≠ q ∧ D ≠ q) : W11 C p l a s m p2 l2 D ws rs ss ms rs2 H' :=
  ⟨w.1.but b hq n.1, w.2.1.but b hq n.2.1, w.2.2.but b hq n.2.2⟩
theorem W11.set (w : W11 C p l a s m p2 l2 D ws rs ss ms rs2 H) {rs2' : List Run} (b : But l2 H H') (t : TabAt C H' p2 l2 rs2') (n : (l ≠ l2 ∧ a ≠ l2 ∧ s ≠ l2 ∧ m ≠ l2) ∧ D ≠ l2) : W11 C p l a s m p2 l2 D ws rs ss ms rs2' H' := by
  obtain ⟨ys, hq⟩ := w.2.1.lst
  exact ⟨w.1.but b hq n.1, t, w.2.2.but b hq n.2⟩
end
theorem low_of {rs : List Run} {r : Run} (a : AscR (r :: rs)) : ∀ x ∈ r :: rs, r.1 ≤ x.1 := fun x hx => by
  rcases List.mem_cons.mp hx with rfl | hx
  · exact Int.le_refl _
  · obtain ⟨l, e, h⟩ := (List.pairwise_cons.mp a.2).1 x hx
    have := a.1 r List.mem_cons_self l e
    omega
theorem give_twice {low : Int} {x : V} (hx : OptW x) : giveR .non (giveR .non [] low none x) low none .non = ([] : List Run) := by
  have v1 : ValR ((low, none, x) : Run) := fun l e => by cases e
  have v2 : ValR ((low, none, V.non) : Run) := fun l e => by cases e
  have n1 := give_norm (nn := V.non) .nil v1
  refine norm_one (give_norm n1.1 v2).1 .nil fun d => ?_
  rw [(give_norm n1.1 v2).2 d, n1.2 d]
  by_cases q : low ≤ d
  · rw [if_pos (hasD_iff.mpr ⟨q, fun l e => by cases e⟩)]; rfl
  · rw [if_neg (fun z => q (hasD_iff.mp z).1), if_neg (fun z => q (hasD_iff.mp z).1)]
theorem give_day {rs : List Run} {day : Int} {y : V} (n : NormR .non rs) (hy : y ≠ lookR .non rs day) :
    Least (lookR .non rs) (lookR .non (giveR .non rs day (some day) y)) (some day) ∧ rs ≠ giveR .non rs day (some day) y ∧ giveR .non (giveR .non rs day (some day) y) day (some day) (lookR .non rs day) = rs := by
  have v1 : ∀ z : V, ValR ((day, some day, z) : Run) := fun z l e => by cases e; exact Int.le_refl _
  have n1 := give_norm n (v1 y)
  have h1 : ∀ z : V, hasD ((day, some day, z) : Run) day = true := fun z => hasD_iff.mpr ⟨Int.le_refl _, fun l e => by cases e; exact Int.le_refl _⟩
  have h2 : ∀ (z : V) d, d ≠ day → hasD ((day, some day, z) : Run) d = false := fun z d hd => by
    rw [Bool.eq_false_iff, ne_eq, hasD_iff]
    rintro ⟨q1, q2⟩
    have := q2 day rfl
    simp only at q1
    omega
  have e : lookR .non (giveR .non rs day (some day) y) day = y := by rw [n1.2, if_pos (h1 y)]
  refine ⟨⟨by rw [e]; exact Ne.symm hy, fun x hx => by rw [n1.2, h2 y x (by omega)]; rfl⟩, fun q => hy (by rw [← e, ← q]), ?_⟩
  refine norm_one (give_norm n1.1 (v1 _)).1 n fun d => ?_
  rw [(give_norm n1.1 (v1 _)).2 d, n1.2 d]
  by_cases q : d = day
  · subst q; rw [if_pos (h1 _)]
  · rw [h2 _ d q, h2 _ d q]; rfl
end Vf
set_option maxHeartbeats 2000000
/-! books: rows with their stops -/
namespace Vf
open PySem PySem.Spec PyProof.Rows L2
@[reducible] def untilOf (st : Option Int) (s : Str) : Option Int := st.map fun n => if s = "next day" then n else n - 1
/-- a row as it is written with the ends s; the row holds its stop -/
def writR (s : Str) (r : Run) : Run := (r.1, untilOf r.2.1 s, r.2.2)
theorem stop_until (st : Option Int) (s : Str) : stopOf (untilOf st s) s = st := by
  cases st with
  | none => rfl
  | some n =>
    by_cases h : s = "next day"
    · simp [stopOf, untilOf, h]
    · simp [stopOf, untilOf, h]
theorem until_stop (u : Option Int) (s : Str) : untilOf (stopOf u s) s = u := by
  cases u with
  | none => rfl
  | some n =>
    by_cases h : s = "next day"
    · simp [stopOf, untilOf, h]
    · simp [stopOf, untilOf, h]
theorem span_writ (s : Str) (r : Run) : spanR s (writR s r) = r := by
  obtain ⟨f, st, v⟩ := r
  show (f, stopOf (untilOf st s) s, v) = _
  rw [stop_until]
theorem less_of {s : Str} (h : IsEnds s) (u : Option Int) : u.map (· - (if decide (s = "last day") = true then (1 : Int) else 0)) = untilOf u s := by
  cases u with
  | none => rfl
  | some n =>
    rcases h with rfl | rfl
    · simp [untilOf, ends_ne]
    · simp [untilOf, ends_ne.symm]
/-- rows that bear days of their own, ascending; they hold their stops -/
def AscS (rs : List Run) : Prop := (∀ r ∈ rs, ∀ n, r.2.1 = some n → r.1 < n) ∧ rs.Pairwise fun a b => ∃ n, a.2.1 = some n ∧ n ≤ b.1
theorem AscS.nil : AscS [] := ⟨fun _ h => (by cases h), List.Pairwise.nil⟩
theorem AscS.firsts {rs : List Run} (a : AscS rs) : rs.Pairwise fun x y => x.1 < y.1 := by
  refine a.2.imp_of_mem fun {x y} hx hy h => ?_
  obtain ⟨n, e, hn⟩ := h
  have := a.1 x hx n e
  omega
theorem AscS.snoc {rs : List Run} {r : Run} (a : AscS rs) (h : ∀ n, r.2.1 = some n → r.1 < n) (g : ∀ x ∈ rs, ∃ n, x.2.1 = some n ∧ n ≤ r.1) : AscS (rs ++ [r]) := by
  refine ⟨fun x hx => ?_, List.pairwise_append.mpr ⟨a.2, List.pairwise_singleton _ _, fun x hx y hy => ?_⟩⟩
  · rcases List.mem_append.mp hx with hx | hx
    · exact a.1 x hx
    · rw [List.mem_singleton] at hx; subst hx; exact h
  · rw [List.mem_singleton] at hy; subst hy; exact g x hx
theorem AscS.opened {rs : List Run} {r : Run} {v : V} (a : AscS (rs ++ [r])) : AscS (rs ++ [(r.1, none, v)]) := by
  obtain ⟨a1, a2⟩ := a
  obtain ⟨p1, _, p3⟩ := List.pairwise_append.mp a2
  refine ⟨fun x hx => ?_, List.pairwise_append.mpr ⟨p1, List.pairwise_singleton _ _, fun x hx y hy => ?_⟩⟩
  · rcases List.mem_append.mp hx with hx | hx
    · exact a1 x (List.mem_append_left _ hx)
    · rw [List.mem_singleton] at hx; subst hx; intro n e; cases e
  · rw [List.mem_singleton] at hy; subst hy; exact p3 x hx r List.mem_cons_self
/-- what is left of a row ahead of the day low -/
def headR (low : Int) (r : Run) : List Run := if r.1 < low then [(r.1, some (match r.2.1 with | none => low | some n => if n > low then low else n), r.2.2)] else []
/-- what is left of a row from the day high on -/
def tailR (high : Option Int) (r : Run) : List Run := match high with
  | none => []
  | some h => match r.2.1 with
    | none => [(if h > r.1 then h else r.1, none, r.2.2)]
    | some n => if n > h then [(if h > r.1 then h else r.1, some n, r.2.2)] else []
def cutR (low : Int) (high : Option Int) (r : Run) : List Run := headR low r ++ tailR high r
theorem head_len {low : Int} {r : Run} : (headR low r).length ≤ 1 := by
  unfold headR
  split <;> simp
theorem tail_len {high : Option Int} {r : Run} : (tailR high r).length ≤ 1 := by
  unfold tailR
  repeat' split
  all_goals simp
theorem cut_len {low : Int} {high : Option Int} {r : Run} : (cutR low high r).length ≤ 2 := by
  have := head_len (low := low) (r := r)
  have := tail_len (high := high) (r := r)
  unfold cutR
  rw [List.length_append]
  omega
theorem flat_step {g : Run → List Run} {rs : List Run} {i : Nat} {r : Run} (h : rs[i]? = some r) : (rs.take (i + 1)).flatMap g = (rs.take i).flatMap g ++ g r := by
  rw [List.take_succ, h, List.flatMap_append]
  simp
/-- how many rows begin on the day or before it -/
def begunR {α : Type} (rs : List (Rn α)) (d : Int) : Nat := (rs.takeWhile fun r => decide (r.1 ≤ d)).length
theorem begun_at {α : Type} : ∀ {rs : List (Rn α)} {d : Int} {n : Nat}, n ≤ rs.length → (∀ j r, j < n → rs[j]? = some r → r.1 ≤ d) → (∀ r, rs[n]? = some r → ¬ r.1 ≤ d) → begunR rs d = n
  | [], d, n, hn, _, _ => by simp at hn; subst hn; rfl
  | r :: t, d, 0, _, _, h2 => by
    have := h2 r rfl
    unfold begunR
    rw [List.takeWhile_cons, if_neg (by simpa using this)]
    rfl
  | r :: t, d, n + 1, hn, h1, h2 => by
    have h0 := h1 0 r (by omega) rfl
    have ih := begun_at (rs := t) (d := d) (n := n) (by simpa using hn) (fun j x hj e => h1 (j + 1) x (by omega) (by simpa using e)) (fun x e => h2 x (by simpa using e))
    unfold begunR at ih ⊢
    rw [List.takeWhile_cons, if_pos (by simpa using h0), List.length_cons, ih]
theorem asc_at {rs : List Run} (a : rs.Pairwise fun x y => x.1 < y.1) {i j : Nat} {x y : Run} (hij : i < j) (hx : rs[i]? = some x) (hy : rs[j]? = some y) : x.1 < y.1 := by
  obtain ⟨i1, rfl⟩ := List.getElem?_eq_some_iff.mp hx
  obtain ⟨i2, rfl⟩ := List.getElem?_eq_some_iff.mp hy
  exact List.pairwise_iff_getElem.mp a i j i1 i2 hij
end Vf
set_option maxHeartbeats 2000000
/-! books: sorted(rows, key=f), f a def that gives its argument's item 0 -/
namespace Vf
open PySem PySem.Spec PyProof.Rows L2
section
variable {P : Program} {w : World} {K : PySem.W.Frag}
/-- the def's call: the item 0 of the tuple that is given, nothing else is changed -/
theorem key0 {f : Addr} {name qual x : Str} {params : Arguments} {scope : Scope} {dV kV doc pm cdv ct oc : Value} {an od : Option Addr} {osl : Array (Option Value)} {N : List Str} {kd : Nat} {p1 p2 p3 p4 : Pos}
    (lk : K.lookup f = some ⟨oc, od, .func (PySem.W.fnOf name qual params [.Return (some (.Subscript (.Name x p1) (.Constant (.int 0) kd p2) p3)) p4] scope dV kV doc pm an cdv ct), osl⟩)
    (hcd : PySem.W.codeIn K cdv qual = true) (S : FnScope N [x] scope) (hx : scope.names.lookup x = some .local) (hdb : (x == ("__debug__" : Str)) = false)
    (hb : Binds K (PySem.W.fnOf name qual params [.Return (some (.Subscript (.Name x p1) (.Constant (.int 0) kd p2) p3)) p4] scope dV kV doc pm an cdv ct) [x] [])
    {A : Around} {s : Shared} (hr : A.depth < recursionLimit) (KX : K.In s.heap) (lim : s.heap.NoLimit) {t : Addr} {its : Array Value} {u : Value} (ht : IsTup s.heap t its) (hu : its[0]? = some u) (hz : its.size ≤ sizeLine) {E : Value → Shared → Prop} :
    wpAny (model P w) A (call (.ref f) [.ref t]) (fun v s' => v = u ∧ ∃ h' tk, s' = { s with heap := h', toks := tk } ∧ ∀ b o, s.heap.get? b = some o → h'.get? b = some o) E s := by
  refine wpAny_call (codeAny_call_function hr (KX _ _ lk) rfl S.co S.gen rfl (PySem.W.codeRec_of KX hcd) (hb s [.ref t] KX rfl _ _ _ _ ?_))
  refine wpAny_newFunctionEnv_cells S.kind (fun y hy => ?_) fun env he s1 xx => ?_
  · obtain rfl : y = (x, .ref t) := by simpa using hy
    exact .inl hx
  subst he
  refine ⟨lim.keeps xx.toInCall.keep, codeAny_func ?_⟩
  have hk := xx.toInCall.keep
  obtain ⟨h1, tk1, rfl, hk1⟩ := xx.done
  refine wpAny_execs_cons (wpAny_Return_some (wpAny_Subscript_Constant_late (NameLC xx S.kind hx (v := .ref t) ?_ ?_ hdb)))
  · show bindL (envOfC qual scope s.heap.objs.size f cdv).kindOf [(x, .ref t)] (fun _ => none) x = some (.ref t)
    have hk0 : (envOfC qual scope s.heap.objs.size f cdv).kindOf x = some .local := hx
    simp [bindL, hk0]
    done
  · refine wpAny_Constant_int ?_
    have ht1 : IsTup h1 t its := ht.keeps hk1
    have hp : 0 < its.size := by
      rcases Nat.eq_zero_or_pos its.size with h | h
      · have : its = #[] := Array.eq_empty_of_size_eq_zero h
        subst this; simp at hu
      · exact h
    exact ⟨"tuple", _, slot_tuple_getitem.lookup, ht1.typeIs, getItem_tuple (j := 0) (x := u) ht1 (by decide) (by decide) (seqIndex_of (by decide) (by simpa using hp)) hu ⟨rfl, _, _, rfl, hk1⟩⟩
/-- a value and the run that it stands for -/
def Stand (H : Hp) (v : Value) (b : V × Run) : Prop := RelV b.1 v ∧ ∃ t, b.1 = .ref t ∧ H t = some (.tup (runV b.2))
theorem stand_of {H : Hp} {xs : List V} {rs : List Run} (h : RunsAt H xs rs) : ∀ {us : List Value}, Vals xs us → PySem.W.EachIs (Stand H) us (xs.zip rs) := by
  induction h with
  | nil => intro us r; cases r; exact .nil
  | cons ht _ ih =>
    intro us r
    cases r with
    | cons r1 r2 => exact .cons ⟨r1, _, rfl, ht⟩ (ih r2)
theorem of_stand {H : Hp} : ∀ {us : List Value} {bs : List (V × Run)}, PySem.W.EachIs (Stand H) us bs → Vals (bs.map Prod.fst) us ∧ RunsAt H (bs.map Prod.fst) (bs.map Prod.snd)
  | _, _, .nil => ⟨.nil, .nil⟩
  | _, _, .cons h e => by
    obtain ⟨h1, t, h2, h3⟩ := h
    obtain ⟨g1, g2⟩ := of_stand e
    refine ⟨.cons h1 g1, ?_⟩
    rw [List.map_cons, List.map_cons, h2]
    exact .cons h3 g2
/-- sorted(rows, key=f) -/
def rSortedF0 (K : PySem.W.Frag) (f : Addr) : List V → List V → Hp → VK → Prop := fun vs zs H Q => ∃ (a : Addr) (xs : List V) (rs : List Run), vs = [.ref a] ∧ zs = [.ref f] ∧ SqL K H a xs ∧ RunsAt H xs rs ∧ rs.length ≤ 100000 ∧
  ∀ (p : Addr) (ys : List V), H p = none → RunsAt H ys (rs.mergeSort fun a b => decide (a.1 ≤ b.1)) → Q (.ref p) (upd H p (.lst ys))
end
section
variable {X : Cx}
theorem cr_sortedF0 {f : Addr} {name qual x : Str} {st : Stmt} {fd : FuncData} {N : List Str} {kd : Nat} {p1 p2 p3 p4 : Pos} (F : Fun X.K name qual st f fd) (S : FnScope N [x] (defScope st))
    (hbody : defBody st = [.Return (some (.Subscript (.Name x p1) (.Constant (.int 0) kd p2) p3)) p4]) (hx : (defScope st).names.lookup x = some .local) (hdb : (x == ("__debug__" : Str)) = false) (hb : Binds X.K fd [x] []) (hr : Room 0 X.A) :
    CallRK X (.builtin "sorted") [Str.ofString "key"] (rSortedF0 X.K f) := by
  intro pins s σ H vs zs us ws Q I r rz h
  obtain ⟨a, xs, rs, rfl, rfl, hs, hR, hn, q⟩ := h
  obtain rfl := Vals.ref1 r
  obtain ⟨w1, rfl, e1⟩ := vals1 rz
  obtain rfl : w1 = Value.ref f := e1
  obtain ⟨oc, od, kV, doc, pm, an, cdv, ct, osl, rfl, lk, hcd⟩ := F.ex
  rw [hbody] at lk hb
  obtain ⟨its, rv, hl, hz⟩ := I.list hs
  have e := stand_of hR rv
  have hlen := hR.len
  have hbl : (xs.zip rs).length = rs.length := by rw [List.length_zip]; omega
  refine PySem.W.sorted_key_data (b := false) (fun b : V × Run => .int b.2.1) hl.isList e (PySem.W.AllAlike.of fun _ _ => by simp [PySem.W.alike]) (PySem.W.Sortable.others fun _ => ⟨by simp, by simp⟩) (by rw [hbl, sizeLine_eq]; omega) (fun b _ => ?_)
    (PyProof.Rows.ksk_s1 _ _) (fun _ => PyProof.Rows.ksk_l1 _ _) (fun _ => PyProof.Rows.ksk_t1 _ _) (fun v b hv _ h tk kp => ?_) fun out c h' tk kp fr hD hol eo => ?_
  · have := hr.un
    show X.A.units + 2 + 0 < cLine
    omega
  · obtain ⟨rel, t, e2, ht⟩ := hv
    rw [e2] at rel
    obtain rfl : v = .ref t := rel
    obtain ⟨its2, r2, pl, hz2⟩ := I.tuple (SqT.of ht)
    obtain ⟨bx, fst, u, w⟩ := b
    have r2 : Vals [V.int fst, optI u, w] its2 := r2
    cases r2 with
    | cons r1 r3 =>
      obtain ⟨tok, rfl⟩ := r1
      refine wpAny_mono (key0 lk hcd S hx hdb hb (A := X.A.in1.in1) (s := { s with heap := h, toks := tk }) hr.depth (I.kIn.keeps kp) (I.ok.mod.nolimit.keeps fun b o e => kp b o ((I.bs b o e).1)) (pl.keeps kp) rfl ?_) (fun v' s' ⟨ev, h', tk', es, k'⟩ => ⟨h', tk', es, k', by rw [ev]; exact .int fst tok⟩) (fun _ _ z => z)
      have h3 := r3.length
      rw [List.size_toArray, List.length_cons, ← h3]
      exact hz2
  · obtain ⟨g1, g2⟩ := of_stand eo
    have es : ((xs.zip rs).mergeSort (PySem.W.dataLe false fun b : V × Run => .int b.2.1)).map Prod.snd = rs.mergeSort fun a b => decide (a.1 ≤ b.1) := by
      rw [PySem.W.dataLe_int (β := V × Run) (fun b => b.2.1), PySem.W.sort_maps (s := fun a b : Run => decide (a.1 ≤ b.1)) Prod.snd (fun _ _ _ _ => rfl), List.map_snd_zip (by omega)]
    rw [es] at g2
    have gl : (((xs.zip rs).mergeSort (PySem.W.dataLe false fun b : V × Run => .int b.2.1)).map Prod.fst).length ≤ sizeLine := by
      rw [g2.len, List.length_mergeSort, sizeLine_eq]; omega
    exact ⟨.ref (s.heap.objs.size + 1), upd H (s.heap.objs.size + 1) (.lst _), I.laid (t' := tk) kp (Nat.le_succ _) ⟨gl, out, c, g1, hD⟩, rfl, q _ _ (I.hok.fresh (Nat.le_succ _)) g2⟩
theorem r_cKw {r : List V → List V → Hp → VK → Prop} {t tk : TA} {σ : L2.St} {H : Hp} {Q : VK} (h : t σ H fun vs H1 => tk σ H1 fun zs H2 => r vs zs H2 Q) : tCKw r t tk σ H Q := h
end
section
variable {K : PySem.W.Frag} {σ : L2.St} {H : Hp} {nx : L2.St → Hp → Prop} {rt : VK} {g : TG} {tb : TS}
/-- for x, y in zip(xs, ys), ys no longer than xs -/
theorem fo_zip {a b : Addr} {xs ys : List V} (Pv : Nat → L2.St → Hp → Prop) (hxy : ys.length ≤ xs.length) (h0 : Pv 0 σ H) (hl : ∀ i σ H, i ≤ ys.length → Pv i σ H → SqL K H a xs ∧ SqL K H b ys)
    (hs : ∀ i x y T σ H H', xs[i]? = some x → ys[i]? = some y → Pv i σ H → H T = none → Ex H H' → H' T = some (.tup [x, y]) → g (.ref T) σ H' fun σ2 H2 => tb ⟨Pv (i + 1), rt, nx, Pv (i + 1)⟩ σ2 H2) (hd : ∀ σ H, Pv ys.length σ H → nx σ H) :
    ForW (Itz K a b) g tb nx rt σ H := by
  refine ⟨fun i m σ H => m = ys.length - i ∧ i ≤ ys.length ∧ Pv i σ H, ⟨ys.length, by simp, Nat.zero_le _, h0⟩, ?_⟩
  rintro i m σ H ⟨rfl, hi, p⟩
  obtain ⟨qx, qy⟩ := hl i σ H hi p
  by_cases hlt : i < ys.length
  · have h2 := List.getElem?_eq_getElem hlt
    have h1 := List.getElem?_eq_getElem (show i < xs.length by omega)
    refine .inr ⟨⟨xs, ys, _, _, qx, qy, h1, h2⟩, Pv (i + 1), fun σ' H' p' => ⟨ys.length - (i + 1), by omega, rfl, hlt, p'⟩, ?_⟩
    rintro v H' ⟨T, x, y, rfl, hT, rfl, hx', hy'⟩
    exact hs i x y T σ H _ (hx' _ qx) (hy' _ qy) p hT (Ex.new hT) upd_same
  · have e : i = ys.length := by omega
    subst e
    exact .inl ⟨⟨xs, ys, qx, qy, .inr (Nat.le_refl _)⟩, hd σ H p⟩
end
end Vf
set_option maxHeartbeats 2000000
/-! C(*xs, k = v), __init__(self, *rows, k = d) -/
namespace Vf
open PySem PySem.Spec PyProof.Rows L2 StX
section
variable {M : Model} {A : Around} {E : Value → Shared → Prop} {s : Shared}
theorem lone_kw {f : Value} {x : Sem Value} {pos : Pos} {kws : List (Option Str × Sem Value)} {Q : Args → Shared → Prop} (hall : kws.all (·.1.isSome) = true)
    (h : wpAny M A x (fun v s₁ => wpAny M A (evalAll (kws.map (·.2))) (fun ks s₂ => PySem.W.StarOf M A E v (fun vs s₃ => Q ⟨vs, (kws.filterMap (·.1)).zip ks⟩ s₃) s₂) E s₁) E s) :
    wpAny M A (evalArgs f true [(true, (do let v ← x; standAt pos; pure v))] kws) Q E s := by
  unfold evalArgs
  refine wpAny_bind (wpAny_bind (wpAny_mono h (fun v s₁ h₁ => wpAny_bind (wpAny_standAt (wpAny_pure (wpAny_bind (wpAny_pure ?_))))) fun _ _ x => x))
  refine wpAny_holding ?_
  simp only [hall, if_true]
  refine wpAny_bind (wpAny_mono h₁ (fun ks s₂ h₂ => ?_) fun _ _ x => x)
  unfold PySem.W.StarOf at h₂
  refine wpAny_bind (wpAny_bind (wpAny_mono h₂ (fun b s₃ h₃ => ?_) fun _ _ x => x))
  obtain ⟨rfl, h₃⟩ := h₃
  simp only [Bool.false_eq_true, if_false]
  exact wpAny_holding (wpAny_mono h₃ (fun vs s₄ h₄ => wpAny_pure h₄) fun _ _ x => x)
/-- the call's node with a star among the arguments, keywords behind -/
theorem star_call_kw {f : Value} {first : List Value} {pos : Pos} {Q : Value → Shared → Prop} {P : Heap → Prop} {args : List (Bool × Sem Value)} {kws : List (Option Str × Sem Value)} (hst : args.any (·.1) = true)
    (hk : ∀ h, P h → ∃ k, (k = Keeper.frame ∨ k = Keeper.machine ∨ k = Keeper.boundFrame) ∧ PySem.W.Looks M h (keeperOf f) k)
    (h : wpAny M A (evalArgs f true args kws) (fun a s₁ => P s₁.heap ∧ wpAny M A (call f (first ++ a.pos) a.kw) Q E s₁) E s) : wpAny M A (callWith pos f first args kws) Q E s := by
  unfold callWith
  refine wpAny_bind (wpAny_holding (wpAny_mono h (fun a s₁ h₁ => wpAny_bind (wpAny_standAt ?_)) fun _ _ x => x))
  obtain ⟨hp, hc⟩ := h₁
  obtain ⟨k, hk', L⟩ := hk _ hp
  simp only [hst, Bool.true_or]
  refine wpAny_bind (L.here ?_)
  have done : ∀ {t : Sem Value}, wpAny M A t Q E s₁ → wpAny M A (t >>= fun r => holding [r] point >>= fun _ => pure r) Q E s₁ := fun ht =>
    wpAny_bind (wpAny_mono ht (fun r s₂ hr => wpAny_bind (wpAny_holding (wpAny_point (wpAny_pure hr)))) fun _ _ x => x)
  rcases hk' with rfl | rfl | rfl
  · refine done ?_
    unfold callMarked
    exact Calls.wpAny_keep hc
  · exact done (wpAny_operating hc)
  · exact done (wpAny_operating hc)
end
/-- a promise by positional and by keyword values -/
abbrev SpK := List V → List V → Hp → VK → XK → Prop
def FnRK (P : Program) (w : World) (K : PySem.W.Frag) (mg : Str → Option Value) (base : Heap) (CX : CXT) (k : Nat) (f : Addr) (ks : List Str) (sp : SpK) : Prop :=
  ∀ (A : Around) (outer : List Env) (s : Shared) (H : Hp) (us ws : List Value) (vs zs : List V) (Q : VK) (E : XK), Room k A → Env0 P w K mg base A outer s H → Vals vs us → Vals zs ws → zs.length = ks.length → sp vs zs H Q E →
    codeAny (model P w) A (.call (.ref f) ⟨us, ks.zip ws⟩) (CR CX outer P w H s Q E) s
section
variable {CX : CXT} {P : Program} {w : World} {K : PySem.W.Frag} {mg : Str → Option Value} {base : Heap} {k : Nat} {f : Addr} {name qual : Str} {params : Arguments} {body : List Stmt} {scope : Scope} {dV kV doc pm cdv ct oc : Value} {an od : Option Addr}
  {osl : Array (Option Value)} {N : List Str}
/-- def f(a, *v, b) called by f(a, .., b = e): what is left over is a new tuple -/
theorem fn_starK {pa pb pv : Str} {sp : Sp} (lk : K.lookup f = some ⟨oc, od, .func (PySem.W.fnOf name qual params body scope dV kV doc pm an cdv ct), osl⟩) (hcd : PySem.W.codeIn K cdv qual = true) (S : FnScope N [pa, pb, pv] scope) (hCX : CXUp CX)
    (hb : ∀ (u b : Value) (rest : List Value), bindArgs (PySem.W.fnOf name qual params body scope dV kV doc pm an cdv ct) ⟨u :: rest, [(pb, b)]⟩ = (newTuple rest >>= fun t => pure [(pa, u), (pb, b), (pv, t)]))
    (hbody : ∀ (A : Around) (outer : List Env) (s : Shared) (H : Hp) (vs : List V) (Q : VK) (E : XK), Room k (A.deeper (envOfC qual scope s.heap.objs.size f cdv)) → sp vs H Q E →
      ∃ t, PSs (cxOf CX P w K mg base N qual scope f cdv A outer s H E) body t ∧ t { nx := fun _ H' => Q .non H', rt := Q } (start N vs) H) :
    FnRK P w K mg base CX (k + 1) f [pb] (fun vs zs H Q E => ∃ x rest z, vs = x :: rest ∧ zs = [z] ∧ rest.length ≤ sizeLine ∧ ∀ p, H p = Option.none → sp [x, z, V.ref p] (upd H p (.tup rest)) Q E) := by
  intro A outer s H us ws vs zs Q E hr e0 r rz _ hsp
  obtain ⟨x, rest, z, rfl, rfl, hz, hq⟩ := hsp
  cases r with
  | cons r1 r2 =>
  rename_i u u2
  obtain ⟨b, rfl, rb⟩ := vals1 rz
  have hn : H s.heap.objs.size = Option.none := e0.hok.fresh (Nat.le_refl _)
  have hl2 : u2.length ≤ sizeLine := by rw [← r2.length]; exact hz
  refine run_bnd lk hcd S hr e0 (G := fun xs H2 => ∃ p, H p = Option.none ∧ xs = [x, z, V.ref p] ∧ H2 = upd H p (.tup rest)) (fun A' Ex Q' h => ?_) fun s2 H2 xs ⟨p, hp, ex, eH⟩ hr' => ?_
  · show wpAny _ A' (bindArgs _ ⟨u :: u2, [(pb, b)]⟩) Q' Ex s
    rw [hb u b u2]
    refine wpAny_bind (wpAny_newTuple (wpAny_pure ?_) hl2)
    have new : ObjOk P w (upd H s.heap.objs.size (.tup rest)) (s.heap.push ({ cls := .type "tuple", data := .seq u2.toArray } : Obj)) s.heap.objs.size (.tup rest) := ⟨hz, u2, r2, ⟨_, Heap.get?_push_size _ rfl, rfl, _, rfl⟩⟩
    have un := un_laid (fs := frs outer) (s := s) (o := ({ cls := .type "tuple", data := .seq u2.toArray } : Obj)) (u := .tup rest) hn
    exact h _ _ [x, z, V.ref s.heap.objs.size] [u, b, Value.ref s.heap.objs.size] (env0_laid e0 new) un rfl (fun e s' => hCX outer s H _ _ E e s' un (fun b o q => Heap.get?_push_of_some _ q) rfl) (.cons r1 (.cons rb (.cons rfl .nil))) rfl ⟨_, hn, rfl, rfl⟩
  · subst ex eH
    exact hbody A outer s2 _ _ Q E hr' (hq p hp)
end
/-- C(*xs, k = v) -/
def tMakeSK (K : PySem.W.Frag) (C : Addr) (m : Nat) (sp : SpK) (E : XK) (te : TE) (tk : TA) : TE := fun σ H Q => te σ H fun y H1 => tk σ H1 fun zs H2 => ∃ a xs, y = V.ref a ∧ (SqT K H2 a xs ∨ SqL K H2 a xs) ∧ zs.length = m ∧ ∀ x dx, H2 x = Option.none → H2 dx = Option.none → dx ≠ x →
  sp (V.ref x :: xs) zs (upd (upd H2 dx (.own x)) x (.ins C dx [])) (fun v H3 => v = .non ∧ Q (.ref x) H3) E
section
variable {X : Cx} {CX : CXT} {k : Nat} {f C : Addr} {ks : List Str} {sp : SpK} {E : XK} {x : Str} {p sp_ pos : Pos} {e : Expr} {kws : List Keyword} {te : TE} {tk : TA}
theorem run_makeRK {pins : List (Addr × Obj)} {σ : L2.St} {H : Hp} {s : Shared} {Q : VK} {us ws : List Value} {vs zs : List V} (M : Mk X.K C f) (F : FnRK X.prog X.w X.K X.mg X.base CX k f ks sp) (hr : Room (k + 1) X.A) (hx : Passes CX X E) (I : Inv X pins σ H s) (r : Vals vs us) (rz : Vals zs ws) (hl : zs.length = ks.length)
    (h : ∀ x dx, H x = Option.none → H dx = Option.none → dx ≠ x → sp (V.ref x :: vs) zs (upd (upd H dx (.own x)) x (.ins C dx [])) (fun v H2 => v = .non ∧ Q (.ref x) H2) E) :
    wpAny (model X.prog X.w) X.A (call (.ref C) us (ks.zip ws)) (EP X pins σ Q) X.xe s := by
  have hq := h (s.heap.objs.size + 1) s.heap.objs.size (I.hok.fresh (Nat.le_succ _)) (I.hok.fresh (Nat.le_refl _)) (Nat.ne_of_lt (Nat.lt_succ_self _))
  have I2 := Inv.made (C := C) I
  have r2 : Vals (V.ref (s.heap.objs.size + 1) :: vs) (Value.ref (s.heap.objs.size + 1) :: us) := .cons rfl r
  refine wpAny_call (make_map (f := f) I.kIn M.makes M.init (beq_iff_eq.mp M.fn) (codeAny_mono (F _ X.stack _ _ (Value.ref (s.heap.objs.size + 1) :: us) ws _ _ _ E (hr.make C us (ks.zip ws)) (I2.env0.make C us (ks.zip ws)) r2 rz hl hq) fun r s' hq' => ?_))
  cases r with
  | error e => exact hx pins σ _ _ e s' I2 hq'
  | ok fl =>
    cases fl with
    | ret u =>
      obtain ⟨v, H', I3, rv, ev, q3⟩ := I2.after hq'
      subst ev
      exact ⟨rv, ⟨V.ref (s.heap.objs.size + 1), H', I3, rfl, q3⟩⟩
    | next => exact False.elim hq'
    | brk => exact False.elim hq'
    | cont => exact False.elim hq'
theorem pe_makeSK (M : Mk X.K C f) (F : FnRK X.prog X.w X.K X.mg X.base CX k f ks sp) (hr : Room (k + 1) X.A) (hg : Gl X x) (hm : X.mg x = some (.ref C)) (hx : Passes CX X E) (he : PE X e te) (hkw : PK X kws tk) (hdb : (x == ("__debug__" : Str)) = false := by decide)
    (hall : (backToKw pos (keywordEach kws X.env)).all (·.1.isSome) = true := by rfl) (hks : (backToKw pos (keywordEach kws X.env)).filterMap (·.1) = ks := by rfl) (hst : starEach [.Starred e sp_] X.env = [(true, eval e X.env)] := by rfl) :
    PE X (.Call (.Name x p) [.Starred e sp_] kws pos) (tMakeSK X.K C ks.length sp E te tk) := by
  refine ⟨fun pins s σ H Q I h => ?_⟩
  refine wpAny_Call_Name_kw (ld_glob I hg hm ?_ hdb)
  rw [hst]
  refine star_call_kw (P := fun h => X.K.In h) rfl (PySem.W.keeps_K M.kp) (lone_kw hall (thn (he.run pins s σ H _ I h) fun v s1 ⟨y, H1, I1, ry, q⟩ => ?_))
  refine thn (hkw.run pos pins s1 σ H1 _ I1 q) fun ws s2 ⟨zs, H2, I2, rz, a, xs, ey, hxs, hl, q2⟩ => ?_
  subst ey
  obtain rfl : v = Value.ref a := ry
  rw [hks]
  exact star_any I2 hxs fun us s3 I3 rv => ⟨I3.kIn, run_makeRK M F hr hx I3 rv rz hl q2⟩
end
section
theorem r_makeSK {K : PySem.W.Frag} {C : Addr} {m : Nat} {sp : SpK} {E : XK} {te : TE} {tk : TA} {σ : L2.St} {H : Hp} {Q : VK} (q : te σ H fun y H1 => tk σ H1 fun zs H2 => ∃ a xs, y = V.ref a ∧ (SqT K H2 a xs ∨ SqL K H2 a xs) ∧ zs.length = m ∧ ∀ x dx, H2 x = Option.none → H2 dx = Option.none → dx ≠ x →
  sp (V.ref x :: xs) zs (upd (upd H2 dx (.own x)) x (.ins C dx [])) (fun v H3 => v = .non ∧ Q (.ref x) H3) E) : tMakeSK K C m sp E te tk σ H Q := q
end
end Vf
set_option maxHeartbeats 2000000
/-! books: the row that bears a day -/
namespace Vf
open PySem PySem.Spec PyProof.Rows L2
/-- the row that bears the day; the rows hold their stops -/
def bearR (ts : List Run) (d : Int) : Option Run := ts.find? fun r => bears r.1 r.2.1 d
theorem begun_map {s : Str} {ts : List Run} {d : Int} : begunR (ts.map (writR s)) d = begunR ts d := by
  unfold begunR
  rw [List.takeWhile_map, List.length_map]
  rfl
theorem bears_first {f : Int} {st : Option Int} {d : Int} (h : bears f st d = true) : f ≤ d := by
  unfold bears at h
  simp at h
  exact h.1
theorem bears_stop {f n d : Int} (h : bears f (some n) d = true) : d < n := by
  unfold bears at h
  simp at h
  exact h.2
theorem begun_le {ts : List Run} {d : Int} : begunR ts d ≤ ts.length := (List.takeWhile_prefix _).length_le
theorem begun_zero {ts : List Run} {d : Int} (a : ts.Pairwise fun x y => x.1 < y.1) (h : begunR ts d = 0) : bearR ts d = none := by
  cases ts with
  | nil => rfl
  | cons x t =>
    have hx : ¬ x.1 ≤ d := by
      intro z
      unfold begunR at h
      rw [List.takeWhile_cons, if_pos (by simpa using z)] at h
      cases h
    refine List.find?_eq_none.mpr fun y hy hb => ?_
    have hb := bears_first hb
    rcases List.mem_cons.mp hy with rfl | hy
    · exact hx hb
    · have := (List.pairwise_cons.mp a).1 y hy
      omega
theorem bear_at : ∀ {ts : List Run} {d : Int} {n : Nat} {r : Run}, AscS ts → ts[n]? = some r → begunR ts d = n + 1 → bearR ts d = if bears r.1 r.2.1 d = true then some r else none
  | [], _, _, _, _, h, _ => by simp at h
  | x :: t, d, n, r, a, hr, hn => by
    have hx : x.1 ≤ d := by
      refine Classical.byContradiction fun z => ?_
      unfold begunR at hn
      rw [List.takeWhile_cons, if_neg (by simpa using z)] at hn
      cases hn
    have at' : AscS t := ⟨fun y hy => a.1 y (List.mem_cons_of_mem _ hy), (List.pairwise_cons.mp a.2).2⟩
    have hb : begunR t d = n := by
      unfold begunR at hn ⊢
      rw [List.takeWhile_cons, if_pos (by simpa using hx), List.length_cons] at hn
      omega
    cases n with
    | zero =>
      simp at hr
      subst hr
      have h0 := begun_zero at'.firsts hb
      show List.find? _ (x :: t) = _
      rw [List.find?_cons]
      by_cases c : bears x.1 x.2.1 d = true
      · rw [c, if_pos rfl]
      · rw [if_neg c]
        simp only [Bool.not_eq_true] at c
        rw [c]
        exact h0
    | succ m =>
      have hr : t[m]? = some r := by simpa using hr
      rw [← bear_at at' hr hb]
      show List.find? _ (x :: t) = _
      rw [List.find?_cons]
      have c : bears x.1 x.2.1 d = false := by
        refine Bool.eq_false_iff.mpr fun hbx => ?_
        obtain ⟨y, hy, hyd⟩ : ∃ y ∈ t, y.1 ≤ d := by
          cases t with
          | nil => simp at hr
          | cons y t' =>
            refine ⟨y, List.mem_cons_self, Classical.byContradiction fun z => ?_⟩
            unfold begunR at hb
            rw [List.takeWhile_cons, if_neg (by simpa using z)] at hb
            cases hb
        obtain ⟨k, ek, hk⟩ := (List.pairwise_cons.mp a.2).1 y hy
        rw [ek] at hbx
        have := bears_stop hbx
        omega
      rw [c]
      rfl
theorem sort_writ {s : Str} {ts : List Run} (a : AscS ts) : ((ts.map (writR s)).mergeSort fun a b => decide (a.1 ≤ b.1)) = ts.map (writR s) := by
  refine List.mergeSort_of_pairwise (List.pairwise_map.mpr (a.firsts.imp fun {x y} h => ?_))
  show decide (x.1 ≤ y.1) = true
  have : x.1 < y.1 := h
  simp
  omega
theorem firsts_writ {s : Str} {ts : List Run} (a : AscS ts) : (ts.map (writR s)).Pairwise fun x y => x.1 < y.1 := List.pairwise_map.mpr (a.firsts.imp fun {x y} h => h)
theorem AscS.next {ts : List Run} (a : AscS ts) {i : Nat} {x y : Run} (hx : ts[i]? = some x) (hy : ts[i + 1]? = some y) : bears x.1 x.2.1 y.1 = false := by
  obtain ⟨i1, rfl⟩ := List.getElem?_eq_some_iff.mp hx
  obtain ⟨i2, rfl⟩ := List.getElem?_eq_some_iff.mp hy
  obtain ⟨n, e, h⟩ := List.pairwise_iff_getElem.mp a.2 i (i + 1) i1 i2 (by omega)
  refine Bool.eq_false_iff.mpr fun z => ?_
  rw [e] at z
  have := bears_stop z
  omega
theorem bear_mem {ts : List Run} {d : Int} {r : Run} (h : bearR ts d = some r) : r ∈ ts := List.mem_of_find?_eq_some h
section
variable {σ : L2.St} {H : Hp} {Q : VK}
theorem r_ifI {c : Bool} {x y : Int} (q : ∀ m, (m = x ∨ m = y) → Q (.int m) H) : if c = true then tC (.int x) σ H Q else tC (.int y) σ H Q := by
  cases c with
  | true => exact q x (.inl rfl)
  | false => exact q y (.inr rfl)
end
theorem bear_bears {ts : List Run} {d : Int} {r : Run} (h : bearR ts d = some r) : bears r.1 r.2.1 d = true := List.find?_some (p := fun r : Run => bears r.1 r.2.1 d) h
end Vf
set_option maxHeartbeats 2000000
/-! books: a stretch is given; a comprehension with two for's -/
namespace Vf
open PySem PySem.Spec PyProof.Rows L2
def newR (f : Int) (hi : Option Int) (v : V) : List Run := if v = .non then [] else [(f, hi, v)]
/-- the rows after the stretch from f to m got v -/
def putL (ts : List Run) (f : Int) (m : Option Int) (v : V) : List Run := ts.flatMap (headR f) ++ newR f (m.map (· + 1)) v ++ ts.flatMap (tailR (m.map (· + 1)))
theorem head_mem {low : Int} {r r' : Run} (h : r' ∈ headR low r) (hv : ∀ n, r.2.1 = some n → r.1 < n) : ∃ n, r' = (r.1, some n, r.2.2) ∧ r.1 < n ∧ n ≤ low ∧ ∀ k, r.2.1 = some k → n ≤ k := by
  obtain ⟨f, st, v⟩ := r
  unfold headR at h
  split at h
  · rename_i hf
    rw [List.mem_singleton] at h
    cases st with
    | none => exact ⟨low, h, hf, Int.le_refl _, fun k e => by cases e⟩
    | some n =>
      refine ⟨if n > low then low else n, h, ?_, ?_, fun k e => ?_⟩
      · have := hv n rfl
        simp only at hf this ⊢
        split <;> omega
      · split <;> omega
      · cases e
        split <;> omega
  · cases h
theorem tail_mem {hi : Int} {r r' : Run} (h : r' ∈ tailR (some hi) r) (hv : ∀ n, r.2.1 = some n → r.1 < n) : ∃ g, r' = (g, r.2.1, r.2.2) ∧ hi ≤ g ∧ r.1 ≤ g ∧ ∀ n, r.2.1 = some n → g < n := by
  obtain ⟨f, st, v⟩ := r
  cases st with
  | none =>
    have h : r' ∈ [((if hi > f then hi else f), none, v)] := h
    rw [List.mem_singleton] at h
    refine ⟨_, h, ?_, ?_, fun n e => by cases e⟩ <;> first | (split <;> omega) | (simp only; split <;> omega)
  | some n =>
    have h : r' ∈ (if n > hi then [((if hi > f then hi else f), some n, v)] else []) := h
    split at h
    · rw [List.mem_singleton] at h
      have := hv n rfl
      simp only at this
      refine ⟨_, h, ?_, ?_, fun k e => ?_⟩
      · split <;> omega
      · simp only; split <;> omega
      · cases e; split <;> omega
    · cases h
theorem put_asc {ts : List Run} {f : Int} {m : Option Int} {v : V} (a : AscS ts) (hm : ∀ n, m = some n → f ≤ n) : AscS (putL ts f m v) := by
  have hv := a.1
  have nw : ∀ r ∈ newR f (m.map (· + 1)) v, r = (f, m.map (· + 1), v) := fun r hr => by
    unfold newR at hr
    split at hr
    · cases hr
    · exact List.mem_singleton.mp hr
  have ne : ∀ n, m.map (· + 1) = some n → f < n := fun n e => by
    cases m with
    | none => cases e
    | some k => have := hm k rfl; cases e; simp only; omega
  have hd : ∀ r' ∈ ts.flatMap (headR f), (∃ n, r'.2.1 = some n ∧ r'.1 < n ∧ n ≤ f) := fun r' h => by
    obtain ⟨r, hr, h⟩ := List.mem_flatMap.mp h
    obtain ⟨n, rfl, h1, h2, _⟩ := head_mem h (hv r hr)
    exact ⟨n, rfl, h1, h2⟩
  have tl : ∀ r' ∈ ts.flatMap (tailR (m.map (· + 1))), ∃ h, m.map (· + 1) = some h ∧ h ≤ r'.1 ∧ ∀ n, r'.2.1 = some n → r'.1 < n := fun r' h => by
    obtain ⟨r, hr, h⟩ := List.mem_flatMap.mp h
    cases hm' : m.map (· + 1) with
    | none => rw [hm'] at h; cases h
    | some k =>
      rw [hm'] at h
      obtain ⟨g, rfl, h1, h2, h3⟩ := tail_mem h (hv r hr)
      exact ⟨k, rfl, h1, h3⟩
  refine ⟨fun r hr n e => ?_, ?_⟩
  · rcases List.mem_append.mp hr with hr | hr
    · rcases List.mem_append.mp hr with hr | hr
      · obtain ⟨k, e', h1, _⟩ := hd r hr
        rw [e] at e'; cases e'; exact h1
      · cases nw r hr; exact ne n e
    · obtain ⟨h, _, _, q⟩ := tl r hr
      exact q n e
  · refine List.pairwise_append.mpr ⟨List.pairwise_append.mpr ⟨?_, ?_, fun x hx y hy => ?_⟩, ?_, fun x hx y hy => ?_⟩
    · refine List.pairwise_flatMap.mpr ⟨fun r hr => ?_, a.2.imp_of_mem fun {x y} hx hy h x' hx' y' hy' => ?_⟩
      · unfold headR
        split
        · exact List.pairwise_singleton _ _
        · exact List.Pairwise.nil
      · obtain ⟨n, e, hn⟩ := h
        obtain ⟨n1, rfl, p1, p2, p3⟩ := head_mem hx' (hv x hx)
        obtain ⟨n2, rfl, q1, q2, q3⟩ := head_mem hy' (hv y hy)
        exact ⟨n1, rfl, Int.le_trans (p3 n e) hn⟩
    · unfold newR
      split
      · exact List.Pairwise.nil
      · exact List.pairwise_singleton _ _
    · cases nw y hy
      obtain ⟨n, e, _, h2⟩ := hd x hx
      exact ⟨n, e, h2⟩
    · refine List.pairwise_flatMap.mpr ⟨fun r hr => ?_, a.2.imp_of_mem fun {x y} hx hy h x' hx' y' hy' => ?_⟩
      · unfold tailR
        repeat' split
        all_goals first | exact List.Pairwise.nil | exact List.pairwise_singleton _ _
      · obtain ⟨n, e, hn⟩ := h
        cases hm' : m.map (· + 1) with
        | none => rw [hm'] at hx'; cases hx'
        | some k =>
          rw [hm'] at hx' hy'
          obtain ⟨g1, rfl, p1, p2, p3⟩ := tail_mem hx' (hv x hx)
          obtain ⟨g2, rfl, q1, q2, q3⟩ := tail_mem hy' (hv y hy)
          exact ⟨n, e, Int.le_trans hn q2⟩
    · obtain ⟨h, e, h1, _⟩ := tl y hy
      rcases List.mem_append.mp hx with hx | hx
      · obtain ⟨n, e', _, h2⟩ := hd x hx
        have := ne h e
        exact ⟨n, e', by omega⟩
      · cases nw x hx
        exact ⟨h, e, h1⟩
theorem flat_perm {α β : Type} (g h : α → List β) : ∀ xs : List α, (xs.flatMap fun x => g x ++ h x).Perm (xs.flatMap g ++ xs.flatMap h)
  | [] => by simp
  | x :: t => by
    simp only [List.flatMap_cons]
    refine ((flat_perm g h t).append_left (g x ++ h x)).trans ?_
    rw [List.append_assoc, List.append_assoc]
    refine List.Perm.append_left (g x) ?_
    rw [← List.append_assoc, ← List.append_assoc]
    exact List.Perm.append_right _ List.perm_append_comm
theorem put_perm {ts : List Run} {f : Int} {m : Option Int} {v : V} : (ts.flatMap (cutR f (m.map (· + 1))) ++ newR f (m.map (· + 1)) v).Perm (putL ts f m v) := by
  unfold putL
  refine ((flat_perm (headR f) (tailR (m.map (· + 1))) ts).append_right _).trans ?_
  rw [List.append_assoc, List.append_assoc]
  exact List.Perm.append_left _ List.perm_append_comm
theorem sort_of {X L : List Run} (p : X.Perm L) (a : L.Pairwise fun x y => x.1 < y.1) : (X.mergeSort fun a b => decide (a.1 ≤ b.1)) = L := by
  have h1 : ((X.mergeSort fun a b => decide (a.1 ≤ b.1)).Pairwise fun a b => a.1 ≤ b.1) := by
    have := List.pairwise_mergeSort (le := fun a b : Run => decide (a.1 ≤ b.1)) (fun a b c h1 h2 => by simp at *; omega) (fun a b => by simp; omega) X
    exact this.imp fun {x y} h => by simpa using h
  refine List.Perm.eq_of_pairwise (le := fun a b : Run => a.1 ≤ b.1) (fun x y hx hy h1 h2 => ?_) h1 (a.imp fun {x y} h => Int.le_of_lt h) ((List.mergeSort_perm _ _).trans p)
  have hx : x ∈ L := (((List.mergeSort_perm X _).trans p).mem_iff).mp hx
  obtain ⟨i, hi, rfl⟩ := List.mem_iff_getElem.mp hx
  obtain ⟨j, hj, rfl⟩ := List.mem_iff_getElem.mp hy
  have P := List.pairwise_iff_getElem.mp a
  rcases Nat.lt_trichotomy i j with h | h | h
  · have := P i j hi hj h; omega
  · subst h; rfl
  · have := P j i hj hi h; omega
theorem put_sort {ts : List Run} {f : Int} {m : Option Int} {v : V} (a : AscS ts) (hm : ∀ n, m = some n → f ≤ n) : ((ts.flatMap (cutR f (m.map (· + 1))) ++ newR f (m.map (· + 1)) v).mergeSort fun a b => decide (a.1 ≤ b.1)) = putL ts f m v :=
  sort_of put_perm (put_asc a hm).firsts
theorem put_sortW {ts : List Run} {f : Int} {m : Option Int} {v : V} {s : Str} (a : AscS ts) (hm : ∀ n, m = some n → f ≤ n) : (((ts.flatMap (cutR f (m.map (· + 1))) ++ newR f (m.map (· + 1)) v).map (writR s)).mergeSort fun a b => decide (a.1 ≤ b.1)) = (putL ts f m v).map (writR s) :=
  sort_of (put_perm.map _) (firsts_writ (put_asc a hm))
theorem begun_lt {α : Type} : ∀ {rs : List (Rn α)} {d : Int} {j : Nat} {r : Rn α}, j < begunR rs d → rs[j]? = some r → r.1 ≤ d
  | [], _, _, _, h, _ => by cases h
  | x :: t, d, j, r, h, e => by
    unfold begunR at h
    rw [List.takeWhile_cons] at h
    split at h
    · rename_i hx
      cases j with
      | zero => simp at e; subst e; simpa using hx
      | succ j => exact begun_lt (rs := t) (by unfold begunR; simpa using h) (by simpa using e)
    · cases h
theorem begun_ge : ∀ {rs : List Run} {d : Int} {j : Nat} {r : Run}, (rs.Pairwise fun x y => x.1 < y.1) → begunR rs d ≤ j → rs[j]? = some r → d < r.1
  | [], _, _, _, _, _, e => by simp at e
  | x :: t, d, j, r, a, h, e => by
    unfold begunR at h
    rw [List.takeWhile_cons] at h
    split at h
    · cases j with
      | zero => simp at h
      | succ j => exact begun_ge (rs := t) (List.pairwise_cons.mp a).2 (by unfold begunR; simpa using h) (by simpa using e)
    · rename_i hx
      simp at hx
      cases j with
      | zero => simp at e; subst e; exact hx
      | succ j =>
        have hm : r ∈ t := List.mem_of_getElem? (by simpa using e)
        have := (List.pairwise_cons.mp a).1 r hm
        omega
def highB (ts : List Run) : Option Int → Nat
  | none => ts.length
  | some n => begunR ts n
theorem begun_mono {ts : List Run} {d e : Int} (a : ts.Pairwise fun x y => x.1 < y.1) (h : d ≤ e) : begunR ts d ≤ begunR ts e := by
  refine Nat.le_of_not_lt fun q => ?_
  have l1 := begun_le (ts := ts) (d := d)
  have e1 := List.getElem?_eq_getElem (show begunR ts e < ts.length by omega)
  have := begun_ge a (Nat.le_refl _) e1
  have := begun_lt q e1
  omega
theorem low_high {ts : List Run} {f : Int} {m : Option Int} (a : AscS ts) (hm : ∀ n, m = some n → f ≤ n) : begunR ts (f - 1) - 1 ≤ highB ts m := by
  cases m with
  | none =>
    have := begun_le (ts := ts) (d := f - 1)
    show _ ≤ ts.length
    omega
  | some n =>
    have := begun_mono a.firsts (show f - 1 ≤ n by have := hm n rfl; omega)
    show _ ≤ begunR ts n
    omega
theorem flat_self {g : Run → List Run} : ∀ {xs : List Run}, (∀ r ∈ xs, g r = [r]) → xs.flatMap g = xs
  | [], _ => rfl
  | x :: t, h => by rw [List.flatMap_cons, h x List.mem_cons_self, flat_self fun r hr => h r (List.mem_cons_of_mem _ hr)]; rfl
theorem flat_nil {g : Run → List Run} {xs : List Run} (h : ∀ r ∈ xs, g r = []) : xs.flatMap g = [] := by
  rw [List.flatMap_eq_nil_iff]
  exact h
theorem mem_take_at {α : Type} {xs : List α} {k : Nat} {x : α} (h : x ∈ xs.take k) : ∃ j : Nat, j < k ∧ xs[j]? = some x := by
  obtain ⟨j, hj, e⟩ := List.mem_iff_getElem.mp h
  rw [List.length_take] at hj
  refine ⟨j, by omega, ?_⟩
  rw [List.getElem_take] at e
  rw [← e]
  exact List.getElem?_eq_getElem _
theorem mem_drop_at {α : Type} {xs : List α} {k : Nat} {x : α} (h : x ∈ xs.drop k) : ∃ j : Nat, k ≤ j ∧ xs[j]? = some x := by
  obtain ⟨j, hj, e⟩ := List.mem_iff_getElem.mp h
  refine ⟨k + j, by omega, ?_⟩
  rw [← List.getElem?_drop, List.getElem?_eq_getElem hj, e]
theorem put_splice {ts : List Run} {f : Int} {m : Option Int} {v : V} (a : AscS ts) (hm : ∀ n, m = some n → f ≤ n) :
    ts.take (begunR ts (f - 1) - 1) ++ putL ((ts.drop (begunR ts (f - 1) - 1)).take (highB ts m - (begunR ts (f - 1) - 1))) f m v ++ ts.drop (highB ts m) = putL ts f m v := by
  have hlh := low_high a hm
  have bl := begun_le (ts := ts) (d := f - 1)
  generalize hlo : begunR ts (f - 1) - 1 = low at *
  generalize hhi : highB ts m = high at *
  have split : ts = ts.take low ++ (ts.drop low).take (high - low) ++ ts.drop high := by
    have : ts.drop high = (ts.drop low).drop (high - low) := by rw [List.drop_drop]; congr 1; omega
    rw [this, List.append_assoc, List.take_append_drop, List.take_append_drop]
  have hA : ∀ r ∈ ts.take low, ∃ n, r.2.1 = some n ∧ r.1 < n ∧ n < f := fun r hr => by
    obtain ⟨j, hj, e⟩ := mem_take_at hr
    have e1 := List.getElem?_eq_getElem (show j + 1 < ts.length by omega)
    have h1 := begun_lt (show j + 1 < begunR ts (f - 1) by omega) e1
    obtain ⟨i1, rfl⟩ := List.getElem?_eq_some_iff.mp e
    obtain ⟨n, en, hn⟩ := List.pairwise_iff_getElem.mp a.2 j (j + 1) i1 (by omega) (by omega)
    exact ⟨n, en, a.1 _ (List.getElem_mem i1) n en, by omega⟩
  have hC : ∀ r ∈ ts.drop high, ∃ k, m = some k ∧ k < r.1 ∧ r ∈ ts := fun r hr => by
    obtain ⟨j, hj, e⟩ := mem_drop_at hr
    cases m with
    | none =>
      have : ts.length = high := hhi
      rw [List.getElem?_eq_none (by omega)] at e
      cases e
    | some k =>
      have hh : begunR ts k = high := hhi
      exact ⟨k, rfl, begun_ge a.firsts (by omega) e, List.mem_of_getElem? e⟩
  have A1 : (ts.take low).flatMap (headR f) = ts.take low := flat_self fun r hr => by
    obtain ⟨n, e, h1, h2⟩ := hA r hr
    obtain ⟨b, st, w⟩ := r
    cases e
    unfold headR
    rw [if_pos (show b < f by have : b < n := h1; omega)]
    simp only
    rw [if_neg (by omega)]
  have A2 : (ts.take low).flatMap (tailR (m.map (· + 1))) = [] := flat_nil fun r hr => by
    obtain ⟨n, e, h1, h2⟩ := hA r hr
    obtain ⟨b, st, w⟩ := r
    cases e
    cases m with
    | none => rfl
    | some k =>
      have := hm k rfl
      show (if n > k + 1 then _ else _) = _
      rw [if_neg (by omega)]
  have C1 : (ts.drop high).flatMap (headR f) = [] := flat_nil fun r hr => by
    obtain ⟨k, rfl, h1, h2⟩ := hC r hr
    have := hm k rfl
    unfold headR
    rw [if_neg (by omega)]
  have C2 : (ts.drop high).flatMap (tailR (m.map (· + 1))) = ts.drop high := flat_self fun r hr => by
    obtain ⟨k, rfl, h1, h2⟩ := hC r hr
    have h3 := a.1 r h2
    obtain ⟨b, st, w⟩ := r
    have h1 : k < b := h1
    cases st with
    | none =>
      show [((if k + 1 > b then k + 1 else b), none, w)] = _
      rw [if_neg (by omega)]
    | some n =>
      have : b < n := h3 n rfl
      show (if n > k + 1 then [((if k + 1 > b then k + 1 else b), some n, w)] else []) = _
      rw [if_pos (by omega), if_neg (by omega)]
  conv => rhs; rw [split]
  unfold putL
  simp only [List.flatMap_append, A1, A2, C1, C2, List.append_assoc, List.nil_append, List.append_nil]
theorem sub_asc {ts xs : List Run} (a : AscS ts) (h : xs.Sublist ts) : AscS xs := ⟨fun r hr => a.1 r (h.subset hr), a.2.sublist h⟩
theorem mid_asc {ts : List Run} {i j : Nat} (a : AscS ts) : AscS ((ts.drop i).take j) := sub_asc a ((List.take_sublist _ _).trans (List.drop_sublist _ _))
theorem put_len {ts : List Run} {f : Int} {m : Option Int} {v : V} : (putL ts f m v).length ≤ 2 * ts.length + 1 := by
  have h1 : ∀ xs : List Run, (xs.flatMap (headR f)).length ≤ xs.length := fun xs => by
    induction xs with
    | nil => simp
    | cons x t ih =>
      rw [List.flatMap_cons, List.length_append, List.length_cons]
      have := head_len (low := f) (r := x)
      omega
  have h2 : ∀ xs : List Run, (xs.flatMap (tailR (m.map (· + 1)))).length ≤ xs.length := fun xs => by
    induction xs with
    | nil => simp
    | cons x t ih =>
      rw [List.flatMap_cons, List.length_append, List.length_cons]
      have := tail_len (high := m.map (· + 1)) (r := x)
      omega
  have h3 : (newR f (m.map (· + 1)) v).length ≤ 1 := by unfold newR; split <;> simp
  unfold putL
  rw [List.length_append, List.length_append]
  have := h1 ts
  have := h2 ts
  omega
theorem put_worth {ts : List Run} {f : Int} {m : Option Int} {v : V} (a : AscS ts) (hw : ∀ r ∈ ts, Worth r.2.2) (hv : OptW v) : ∀ r ∈ putL ts f m v, Worth r.2.2 := fun r' hr => by
  rcases List.mem_append.mp hr with hr | hr
  · rcases List.mem_append.mp hr with hr | hr
    · obtain ⟨r, h1, h⟩ := List.mem_flatMap.mp hr
      obtain ⟨n, rfl, _⟩ := head_mem h (a.1 r h1)
      exact hw r h1
    · unfold newR at hr
      split at hr
      · cases hr
      · rename_i ne
        rw [List.mem_singleton] at hr
        subst hr
        cases hv with
        | non => exact absurd rfl ne
        | w h => exact h
  · obtain ⟨r, h1, h⟩ := List.mem_flatMap.mp hr
    cases hm' : m.map (· + 1) with
    | none => rw [hm'] at h; cases h
    | some k =>
      rw [hm'] at h
      obtain ⟨g, rfl, _⟩ := tail_mem h (a.1 r h1)
      exact hw r h1
end Vf
namespace Vf
open PySem PySem.Spec PyProof.Rows L2
theorem put_two {f hi : Int} (hf : f < hi) : ∀ {ts : List Run}, AscS ts → (ts.flatMap (headR f)).length + (ts.flatMap (tailR (some hi))).length ≤ ts.length + 1 ∧ ((∀ r ∈ ts, f ≤ r.1) → (ts.flatMap (headR f)).length + (ts.flatMap (tailR (some hi))).length ≤ ts.length)
  | [], _ => by simp
  | x :: t, a => by
    have at' : AscS t := ⟨fun y hy => a.1 y (List.mem_cons_of_mem _ hy), (List.pairwise_cons.mp a.2).2⟩
    obtain ⟨i1, i2⟩ := put_two hf at'
    rw [List.flatMap_cons, List.flatMap_cons, List.length_append, List.length_append, List.length_cons]
    have h1 := head_len (low := f) (r := x)
    have h2 := tail_len (high := some hi) (r := x)
    constructor
    · by_cases hb : (headR f x).length = 1 ∧ (tailR (some hi) x).length = 1
      · have := i2 fun r hr => by
          obtain ⟨n, e, hn⟩ := (List.pairwise_cons.mp a.2).1 r hr
          obtain ⟨b, st, w⟩ := x
          cases e
          have h4 : ((if n > hi then [((if hi > b then hi else b), some n, w)] else []) : List Run).length = 1 := hb.2
          split at h4
          · have : n ≤ r.1 := hn
            omega
          · cases h4
        omega
      · omega
    · intro hall
      have hx := hall x List.mem_cons_self
      have h0 : headR f x = [] := by unfold headR; rw [if_neg (by omega)]
      have := i2 fun r hr => hall r (List.mem_cons_of_mem _ hr)
      rw [h0, List.length_nil]
      omega
theorem put_len2 {ts : List Run} {f : Int} {m : Option Int} {v : V} (a : AscS ts) (hm : ∀ n, m = some n → f ≤ n) : (putL ts f m v).length ≤ ts.length + 2 := by
  have h3 : (newR f (m.map (· + 1)) v).length ≤ 1 := by unfold newR; split <;> simp
  unfold putL
  rw [List.length_append, List.length_append]
  cases m with
  | none =>
    have h1 : ∀ xs : List Run, (xs.flatMap (headR f)).length ≤ xs.length := fun xs => by
      induction xs with
      | nil => simp
      | cons x t ih =>
        rw [List.flatMap_cons, List.length_append, List.length_cons]
        have := head_len (low := f) (r := x)
        omega
    have h2 : ts.flatMap (tailR (Option.map (· + 1) (none : Option Int))) = [] := flat_nil fun _ _ => rfl
    have := h1 ts
    rw [h2, List.length_nil]
    omega
  | some n =>
    have := (put_two (f := f) (hi := n + 1) (by have := hm n rfl; omega) a).1
    simp only [Option.map_some] at h3 ⊢
    omega
end Vf
set_option maxHeartbeats 2000000
/-! [y for x in xs for y in f(x)] -/
namespace Vf
open PySem PySem.Spec PyProof.Rows L2
section
variable {K : PySem.W.Frag} {σ : L2.St} {H : Hp} {Q : VK} {g g1 : TG} {tt tt1 : TT} {te : TE} {vs vs1 : List Nat} {wi wi1 : TI} {a : Addr} {xs : List V}
theorem pi_listK {X : Cx} {tg e : Expr} {tl : TE} {K0 : PySem.W.Frag} (h : PE X e tl) (hK : X.K = K0 := by rfl) : PI X tg e (iList K0 tl) := hK ▸ pi_list h
theorem pe_fldK {X : Cx} {e : Expr} {f : Str} {pos : Pos} {ta : TE} {K0 : PySem.W.Frag} (he : PE X e ta) (hb : attributeBase e f X.env (eval e X.env) = eval e X.env) (hK : X.K = K0 := by rfl) : PE X (.Attribute e f pos) (tFld K0 ta f) := hK ▸ pe_fld he hb
theorem sl_listK {X : Cx} {K0 : PySem.W.Frag} (hK : X.K = K0 := by rfl) : SlR X (rSlL K0) := hK ▸ sl_list
/-- the inner loop of a turn: Nx is reached with the items behind those made so far -/
def Lc2In (D : Addr) (g1 : TG) (tt1 : TT) (te : TE) (vs1 : List Nat) (Nx : Hp → Prop) (σ2 : L2.St) : It → Hp → Prop := fun J1 H4 => ∃ W1 : Nat → Nat → Hp → Prop, (∃ m, W1 0 m H4) ∧ ∀ j k H, W1 j k H →
  (J1.stop j H ∧ Nx H) ∨ (J1.go j H ∧ ∃ Nx1 : Hp → Prop, (∀ H', Nx1 H' → ∃ k', k' < k ∧ W1 (j + 1) k' H') ∧ ∀ x H', J1.yld j H x H' → g1 x (wipe σ2 vs1) H' fun σ3 H5 => wipe σ3 vs1 = wipe σ2 vs1 ∧ tt1 σ3 H5 fun b H6 =>
    if b = true then te σ3 H6 fun y H7 => ∃ acc, H7 D = some (.lst acc) ∧ acc.length < sizeLine ∧ Nx1 (upd H7 D (.lst (acc ++ [y]))) else Nx1 H6)
def Lc2W (J : It) (g : TG) (tt : TT) (wi1 : TI) (g1 : TG) (tt1 : TT) (te : TE) (vs vs1 : List Nat) (σ : L2.St) (Q : VK) (H1 : Hp) : Prop := ∀ D, H1 D = none → ∃ W : Nat → Nat → Hp → Prop, (∃ m, W 0 m (upd H1 D (.lst []))) ∧ ∀ i m H, W i m H →
  (J.stop i H ∧ Q (.ref D) H) ∨ (J.go i H ∧ ∃ Nx : Hp → Prop, (∀ H', Nx H' → ∃ m', m' < m ∧ W (i + 1) m' H') ∧ ∀ x H', J.yld i H x H' → g x (wipe σ vs) H' fun σ2 H2 => wipe σ2 vs = wipe σ vs ∧ tt σ2 H2 fun b H3 =>
    if b = true then wi1 σ2 H3 (Lc2In D g1 tt1 te vs1 Nx σ2) else Nx H3)
theorem r_lc2 (q : wi σ H fun J H1 => Lc2W J g tt wi1 g1 tt1 te vs vs1 σ Q H1) : tLc2 wi g tt wi1 g1 tt1 te vs vs1 σ H Q := q
theorem wipe_set {k : Nat} {x : Option V} : ∀ {σ : L2.St} {vs : List Nat}, k ∈ vs → wipe (σ.set k x) vs = wipe σ vs := fun {σ vs} h => by
  induction vs with
  | nil => cases h
  | cons v t ih =>
    unfold wipe
    by_cases hv : k ∈ t
    · rw [ih hv]
    · have e : v = k := by
        rcases List.mem_cons.mp h with e | e
        · exact e.symm
        · exact absurd e hv
      subst e
      clear ih h
      have aux : ∀ t : List Nat, v ∉ t → (wipe (σ.set v x) t) = (wipe σ t).set v x := fun t => by
        induction t with
        | nil => intro _; rfl
        | cons u r ih2 =>
          intro hn
          unfold wipe
          rw [ih2 fun z => hn (List.mem_cons_of_mem _ z)]
          exact List.set_comm _ _ fun z => hn (by rw [z]; exact List.mem_cons_self)
      rw [aux t hv, List.set_set]
theorem wipe_idem {σ : L2.St} {vs : List Nat} : wipe (wipe σ vs) vs = wipe σ vs := by
  have aux : ∀ ts : List Nat, (∀ u ∈ ts, u ∈ vs) → wipe (wipe σ vs) ts = wipe σ vs := fun ts => by
    induction ts with
    | nil => intro _; rfl
    | cons u r ih =>
      intro hn
      show (wipe (wipe σ vs) r).set u none = wipe σ vs
      rw [ih fun z hz => hn z (List.mem_cons_of_mem _ hz)]
      have hu := hn u List.mem_cons_self
      by_cases hl : u < (wipe σ vs).length
      · refine List.ext_getElem (by rw [List.length_set]) fun n h1 h2 => ?_
        by_cases e : u = n
        · subst e
          rw [List.getElem_set_self]
          have : ∀ x, (wipe σ vs)[u]? = some (some x) → False := fun x hx => (wipe_some hx).2 hu
          cases hq : (wipe σ vs)[u] with
          | none => rfl
          | some x => exact (this x (by rw [List.getElem?_eq_getElem hl, hq])).elim
        · rw [List.getElem_set_ne e]
      · exact List.set_eq_of_length_le (Nat.le_of_not_lt hl)
  exact aux vs fun _ h => h
/-- the inner source is a list that the turn makes; its items are taken as they are -/
theorem lcx2 {k M : Nat} (PA : Nat → List V → Hp → Prop) (hk : k ∈ vs1) (hkl : k < σ.length) (hx : SqL K H a xs) (hz : M * (xs.length + 1) < 10000000) (h0 : ∀ H', Ex H H' → PA 0 [] H') (mono : ∀ i acc H H', Tp H H' → PA i acc H → PA i acc H')
    (step : ∀ i x acc H' (R : L2.St → It → Hp → Prop) (Qn : Hp → Prop), xs[i]? = some x → Ex H H' → acc.length ≤ M * i → PA i acc H' → (∀ σ2 b ys H4, wipe σ2 vs = wipe σ vs → H' b = none → Ex H' H4 → H4 b = some (.lst ys) → ys.length ≤ M → PA (i + 1) (acc ++ ys) H4 → R σ2 (Itl K b) H4) →
      g x (wipe σ vs) H' fun σ2 H2 => wipe σ2 vs = wipe σ vs ∧ tt σ2 H2 fun b H3 => if b = true then wi1 σ2 H3 (R σ2) else Qn H3)
    (hd : ∀ D acc H', H D = none → Ex H H' → H' D = some (.lst acc) → acc.length ≤ M * xs.length → PA xs.length acc H' → Q (.ref D) H') : Lc2W (Itl K a) g tt wi1 (gName k) tYes (tVar k) vs vs1 σ Q H := by
  intro D hD
  have seq : ∀ {H'}, Ex H H' → SqL K H' a xs := fun {H'} e => by
    rcases hx with (h | ⟨o, h⟩) | h
    · exact .inl (.inl (e _ _ h))
    · exact .inl (.inr ⟨o, e _ _ h⟩)
    · exact .inr h
  refine ⟨fun i m H' => m = xs.length - i ∧ i ≤ xs.length ∧ Ex H H' ∧ ∃ acc, H' D = some (.lst acc) ∧ acc.length ≤ M * i ∧ PA i acc H', ⟨xs.length, rfl, Nat.zero_le _, Ex.new hD, [], upd_same, Nat.zero_le _, h0 _ (Ex.new hD)⟩, ?_⟩
  rintro i m H' ⟨rfl, hi, e, acc, hD', hl, pa⟩
  by_cases hlt : i < xs.length
  · have hxi := List.getElem?_eq_getElem hlt
    refine .inr ⟨⟨xs, xs[i], seq e, hxi⟩, fun H2 => Ex H H2 ∧ ∃ acc, H2 D = some (.lst acc) ∧ acc.length ≤ M * (i + 1) ∧ PA (i + 1) acc H2, fun H2 ⟨q1, q2⟩ => ⟨xs.length - (i + 1), by omega, rfl, hlt, q1, q2⟩, ?_⟩
    rintro x H2 ⟨rfl, hy⟩
    have hxx := hy xs (seq e)
    refine step i x acc H2 _ _ hxx e hl pa fun σ2 b ys H4 w1 nb e4 hb hly p4 => ?_
    have hlen : σ2.length = σ.length := by rw [← wipe_length σ2 vs, w1, wipe_length]
    have nbD : b ≠ D := fun z => by rw [z, hD'] at nb; cases nb
    have hD4 := e4 _ _ hD'
    have eM : M * (i + 1) = M * i + M := Nat.mul_succ M i
    have hMi : M * (i + 1) ≤ M * (xs.length + 1) := Nat.mul_le_mul_left M (by omega)
    refine ⟨fun j m H5 => m = ys.length - j ∧ j ≤ ys.length ∧ But D H4 H5 ∧ H5 D = some (.lst (acc ++ ys.take j)), ⟨ys.length, rfl, Nat.zero_le _, But.refl _ _, by simpa using hD4⟩, ?_⟩
    rintro j m H5 ⟨rfl, hj, b5, hD5⟩
    have hb5 := b5 _ _ nbD hb
    by_cases hjl : j < ys.length
    · have hyj := List.getElem?_eq_getElem hjl
      refine .inr ⟨⟨ys, ys[j], .inl (.inl hb5), hyj⟩, fun H6 => But D H4 H6 ∧ H6 D = some (.lst (acc ++ ys.take (j + 1))), fun H6 ⟨q1, q2⟩ => ⟨ys.length - (j + 1), by omega, rfl, hjl, q1, q2⟩, ?_⟩
      rintro y H6 ⟨rfl, hy6⟩
      have hyy := hy6 ys (.inl (.inl hb5))
      rw [hyj] at hyy
      cases hyy
      have hkl2 : k < (wipe σ2 vs1).length := by rw [wipe_length]; omega
      refine ⟨?_, ?_⟩
      · rw [wipe_set hk]
        exact wipe_idem
      · refine ⟨ys[j], by rw [List.getElem?_set_self hkl2], acc ++ ys.take j, hD5, ?_, fun c o hc q => ?_, ?_⟩
        · rw [sizeLine_eq, List.length_append, List.length_take]
          omega
        · rw [upd_ne hc]
          exact b5 c o hc q
        · rw [upd_same, List.take_succ, hyj, List.append_assoc]
          rfl
    · have ej : j = ys.length := by omega
      subst ej
      rw [List.take_length] at hD5
      refine .inl ⟨⟨ys, .inl (.inl hb5), Nat.le_refl _⟩, Ex.mut (e.trans e4) b5 hD, acc ++ ys, hD5, by rw [List.length_append]; omega, mono _ _ _ _ (b5.tpL hD4) p4⟩
  · have ei : i = xs.length := by omega
    subst ei
    exact .inl ⟨⟨xs, seq e, Nat.le_refl _⟩, hd D acc H' hD e hD' hl pa⟩
end
end Vf
set_option maxHeartbeats 2000000
/-! sorted(rows, key=lambda row: row[0]) -/
namespace Vf
open PySem PySem.Spec PyProof.Rows L2 LamX
section
variable {P : Program} {w : World}
/-- the lambda's call: the item 0 of the tuple that is given, nothing else is changed -/
theorem keyL {f c' : Addr} {q x : Str} {params : Arguments} {scope : Scope} {pm ctv : Value} {kd : Nat} {p1 p2 p3 : Pos} {A : Around} {s : Shared}
    (hf : s.heap.get? f = some (PySem.W.kla_obj "<lambda>" q params (.Subscript (.Name x p1) (.Constant (.int 0) kd p2) p3) scope [] pm c' ctv)) (hc : ∃ (oc : Obj) (vs : Array Value) (t : Tok), s.heap.get? c' = some oc ∧ oc.data = .fields vs ∧ vs[1]? = some (.str q t))
    (hk : scope.kind = .function) (hco : scope.isCoroutine = false) (hge : scope.isGenerator = false) (hx : scope.names.lookup x = some .local) (hdb : (x == ("__debug__" : Str)) = false)
    (hb : ∀ u : Value, bindArgs (PySem.W.kla_fn "<lambda>" q params (.Subscript (.Name x p1) (.Constant (.int 0) kd p2) p3) scope [] pm (.ref c') ctv) ⟨[u], []⟩ = pure [(x, u)])
    (hr : A.depth < recursionLimit) (lim : s.heap.NoLimit) {t : Addr} {its : Array Value} {u : Value} (ht : IsTup s.heap t its) (hu : its[0]? = some u) (hz : its.size ≤ sizeLine) {E : Value → Shared → Prop} :
    wpAny (model P w) A (call (.ref f) [.ref t]) (fun v s' => v = u ∧ ∃ h' tk, s' = { s with heap := h', toks := tk } ∧ ∀ b o, s.heap.get? b = some o → h'.get? b = some o) E s := by
  obtain ⟨oc, vs, tc, hoc, hdc, hvc⟩ := hc
  refine wpAny_call (PySem.W.kla_callFunE hr hf rfl hco hge rfl ⟨c', oc, vs, tc, rfl, hoc, hdc, hvc⟩ ?_)
  rw [hb]
  refine wpAny_pure (wpAny_newFunctionEnv_cells hk (fun y hy => ?_) fun env he s1 xx => ?_)
  · obtain rfl : y = (x, .ref t) := by simpa using hy
    exact .inl hx
  subst he
  refine ⟨lim.keeps xx.toInCall.keep, PySem.W.kla_codeExpr ?_⟩
  obtain ⟨h1, tk1, rfl, hk1⟩ := xx.done
  refine wpAny_Subscript_Constant_late (NameLC xx hk hx (v := .ref t) ?_ ?_ hdb)
  · have aux : ∀ k : Str → Option NameKind, k x = some .local → bindL k [(x, Value.ref t)] (fun _ => none) x = some (.ref t) := fun k h => by simp [bindL, h]
    exact aux _ hx
  · refine wpAny_Constant_int ?_
    have ht1 : IsTup h1 t its := ht.keeps hk1
    have hp : 0 < its.size := by
      rcases Nat.eq_zero_or_pos its.size with h | h
      · have : its = #[] := Array.eq_empty_of_size_eq_zero h
        subst this; simp at hu
      · exact h
    exact ⟨"tuple", _, slot_tuple_getitem.lookup, ht1.typeIs, getItem_tuple (j := 0) (x := u) ht1 (by decide) (by decide) (seqIndex_of (by decide) (by simpa using hp)) hu ⟨rfl, _, _, rfl, hk1⟩⟩
end
/-- sorted(xs, key=lambda) : the table of code objects may grow -/
def tSortL (K : PySem.W.Frag) (P : Addr) (q : Str) (t : TA) : TE := fun σ H Q => t σ H fun vs H1 => ∃ (a : Addr) (xs : List V) (rs : List Run), vs = [.ref a] ∧ SqL K H1 a xs ∧ RunsAt H1 xs rs ∧ rs.length ≤ 100000 ∧ TabS H1 P q ∧
  ∀ (H2 : Hp) (p : Addr) (ys : List V), ExtN H1 H2 → TabS H2 P q → H2 p = none → RunsAt H2 ys (rs.mergeSort fun a b => decide (a.1 ≤ b.1)) → Q (.ref p) (upd H2 p (.lst ys))
theorem xn_tup {H H' : Hp} {a : Addr} {xs : List V} (e : ExtN H H') (h : H a = some (.tup xs)) : H' a = some (.tup xs) := e a _ h fun ps z => by cases z
theorem xn_lst {H H' : Hp} {a : Addr} {xs : List V} (e : ExtN H H') (h : H a = some (.lst xs)) : H' a = some (.lst xs) := e a _ h fun ps z => by cases z
theorem xn_tp {H H' : Hp} (e : ExtN H H') : Tp H H' := fun a xs h => xn_tup e h
theorem xn_sql {K : PySem.W.Frag} {H H' : Hp} {a : Addr} {xs : List V} (e : ExtN H H') (h : SqL K H a xs) : SqL K H' a xs := by
  rcases h with (h | ⟨o, h⟩) | h
  · exact .inl (.inl (xn_lst e h))
  · exact .inl (.inr ⟨o, e a _ h fun ps z => by cases z⟩)
  · exact .inr h
theorem xn_free {H H' : Hp} {a : Addr} (e : ExtN H H') (h : H' a = none) : H a = none ∨ ∃ ps, H a = some (.tbl ps) := by
  cases q : H a with
  | none => exact .inl rfl
  | some o =>
    refine .inr (Classical.byContradiction fun n => ?_)
    have := e a o q fun ps z => n ⟨ps, congrArg some z⟩
    rw [h] at this
    cases this
section
variable {X : Cx}
theorem pe_sortedL {c P : Addr} {q x lx : Str} {e : Expr} {t : TA} {params : Arguments} {scope : Scope} {kd : Nat} {p p1 p2 p3 lpos kpos pos : Pos} (hg : Gl X x) (hm : X.mg x = none) (hv : bootBuiltins x = some (.builtin "sorted")) (ha : PA X [e] t)
    (TB : TabB X.base X.mg c P) (hcode : X.env.code = .ref c) (hq : X.env.qual ++ "<lambda>" = q) (hk : scope.kind = .function) (hco : scope.isCoroutine = false) (hge : scope.isGenerator = false) (hx : scope.names.lookup lx = some .local) (hf : ∀ y ∈ scope.names, y.2 ≠ .free)
    (hclo : cloFrom X.env.cells scope.names [] = []) (hdef : defaultsOf params X.env = ([], [])) (hb : ∀ (u c' pm ctv : Value), bindArgs (PySem.W.kla_fn "<lambda>" q params (.Subscript (.Name lx p1) (.Constant (.int 0) kd p2) p3) scope [] pm c' ctv) ⟨[u], []⟩ = pure [(lx, u)])
    (hr : Room 1 X.A) (hn : x ≠ "__name__" := by decide) (hdb : (x == ("__debug__" : Str)) = false := by decide) (hdl : (lx == ("__debug__" : Str)) = false := by decide)
    (h1 : backTo pos (starEach [e] X.env) = (false, eval e X.env) :: backTo pos (starEach [] X.env) := by rfl) (h2 : (backTo pos (starEach [e] X.env)).any (·.1) = false := by rfl)
    (h3 : (backToKw pos (keywordEach [⟨some (Str.ofString "key"), .Lambda params (.Subscript (.Name lx p1) (.Constant (.int 0) kd p2) p3) scope lpos, kpos⟩] X.env)).all (·.1.isSome) = true := by rfl)
    (h4 : (backToKw pos (keywordEach [⟨some (Str.ofString "key"), .Lambda params (.Subscript (.Name lx p1) (.Constant (.int 0) kd p2) p3) scope lpos, kpos⟩] X.env)).any (·.1.isNone) = false := by rfl)
    (h5 : (backToKw pos (keywordEach [⟨some (Str.ofString "key"), .Lambda params (.Subscript (.Name lx p1) (.Constant (.int 0) kd p2) p3) scope lpos, kpos⟩] X.env)).filterMap (·.1) = [Str.ofString "key"] := by rfl) :
    PE X (.Call (.Name x p) [e] [⟨some (Str.ofString "key"), .Lambda params (.Subscript (.Name lx p1) (.Constant (.int 0) kd p2) p3) scope lpos, kpos⟩] pos) (tSortL X.K P q t) := by
  subst hq
  refine ⟨fun pins s σ H Q I h => ?_⟩
  refine wpAny_Call_Name_kw (ld_blt I hg hm hv ?_ hn hdb)
  refine PyProof.Rows.callWith_kw (thn (ha.run pos pins s σ H _ I h) fun us s1 ⟨vs, H1, I1, r1, a, xs, rs, ev, hs, hR, hl, hT, q⟩ => ?_) h1 h2 h3 h4
  subst ev
  obtain rfl := Vals.ref1 r1
  show wpAny _ _ (evalAll [do let v ← eval (.Lambda params (.Subscript (.Name lx p1) (.Constant (.int 0) kd p2) p3) scope lpos) X.env; standAt pos; pure v]) _ _ s1
  have fr : ∀ y ∈ scope.names, y.2 = .free → ∃ c, X.env.cells.lookup y.1 = some c := fun y hy e => absurd e (hf y hy)
  refine wpAny_evalAll_cons (wpAny_bind (lam_make2 (T := [(P, X.env.qual ++ "<lambda>")]) I1 TB hcode (by simp) (fun p hp _ => by simp at hp; rw [hp]) (fun p hp => by simp at hp; rw [hp]; exact hT) hdef fr fun f c' pm ctv H2 s2 I2 eN T2 hfo hfn hfr hco' => wpAny_bind (wpAny_standAt (wpAny_pure (wpAny_evalAll_nil ?_)))))
  rw [h5]
  have hT2 : TabS H2 P (X.env.qual ++ "<lambda>") := T2 (P, X.env.qual ++ "<lambda>") (by simp)
  rw [hclo] at hfo
  obtain ⟨its, rv, hli, hz⟩ := I2.list (xn_sql eN hs)
  have hR2 : RunsAt H2 xs rs := hR.tp (xn_tp eN)
  have e := stand_of hR2 rv
  have hlen := hR.len
  have hbl : (xs.zip rs).length = rs.length := by rw [List.length_zip]; omega
  have hco2 := I2.hok c' _ hco'
  obtain ⟨⟨oc, ovs, ot, hoc, hdc, hvc⟩, _, _⟩ := hco2
  refine PySem.W.sorted_key_data (b := false) (fun b : V × Run => .int b.2.1) hli.isList e (PySem.W.AllAlike.of fun _ _ => by simp [PySem.W.alike]) (PySem.W.Sortable.others fun _ => ⟨by simp, by simp⟩) (by rw [hbl, sizeLine_eq]; omega) (fun b _ => ?_)
    (PyProof.Rows.ksk_s1 _ _) (fun _ => PyProof.Rows.ksk_l1 _ _) (fun _ => PyProof.Rows.ksk_t1 _ _) (fun v b hv _ h tk kp => ?_) fun out c2 h' tk kp fr hD hol eo => ?_
  · have := hr.un
    show X.A.units + 2 + 0 < cLine
    omega
  · obtain ⟨rel, t, e2, ht⟩ := hv
    rw [e2] at rel
    obtain rfl : v = .ref t := rel
    obtain ⟨its2, r2, pl, hz2⟩ := I2.tuple (SqT.of ht)
    obtain ⟨bx, fst, u, w⟩ := b
    have r2 : Vals [V.int fst, optI u, w] its2 := r2
    cases r2 with
    | cons r1 r3 =>
      obtain ⟨tok, rfl⟩ := r1
      refine wpAny_mono (keyL (A := X.A.in1.in1) (s := { s2 with heap := h, toks := tk }) (kp _ _ hfo) ⟨oc, ovs, ot, kp _ _ hoc, hdc, hvc⟩ hk hco hge hx hdl (fun u => hb u _ _ _) hr.depth (I2.ok.mod.nolimit.keeps fun b o e => kp b o ((I2.bs b o e).1)) (pl.keeps kp) rfl ?_) (fun v' s' ⟨ev, h', tk', es, k'⟩ => ⟨h', tk', es, k', by rw [ev]; exact .int fst tok⟩) (fun _ _ z => z)
      have h3 := r3.length
      rw [List.size_toArray, List.length_cons, ← h3]
      exact hz2
  · obtain ⟨g1, g2⟩ := of_stand eo
    have es : ((xs.zip rs).mergeSort (PySem.W.dataLe false fun b : V × Run => .int b.2.1)).map Prod.snd = rs.mergeSort fun a b => decide (a.1 ≤ b.1) := by
      rw [PySem.W.dataLe_int (β := V × Run) (fun b => b.2.1), PySem.W.sort_maps (s := fun a b : Run => decide (a.1 ≤ b.1)) Prod.snd (fun _ _ _ _ => rfl), List.map_snd_zip (by omega)]
    rw [es] at g2
    have gl : (((xs.zip rs).mergeSort (PySem.W.dataLe false fun b : V × Run => .int b.2.1)).map Prod.fst).length ≤ sizeLine := by
      rw [g2.len, List.length_mergeSort, sizeLine_eq]; omega
    have nP : H2 (s2.heap.objs.size + 1) = none := I2.hok.fresh (Nat.le_succ _)
    refine ⟨.ref (s2.heap.objs.size + 1), upd H2 (s2.heap.objs.size + 1) (.lst _), I2.laid (t' := tk) kp (Nat.le_succ _) ⟨gl, out, c2, g1, hD⟩, rfl, q _ _ _ eN hT2 nP g2⟩
end
/-- a def whose code object is known -/
structure FunC (K : PySem.W.Frag) (x qual : Str) (st : Stmt) (f : Addr) (fd : FuncData) (c : Addr) : Prop where
  ex : ∃ (oc : Value) (od : Option Addr) (kV doc pm : Value) (an : Option Addr) (ct : Value) (osl : Array (Option Value)), fd = PySem.W.fnOf x qual (defArgs st) (defBody st) (defScope st) .none kV doc pm an (.ref c) ct ∧ K.lookup f = some ⟨oc, od, .func fd, osl⟩ ∧ PySem.W.codeIn K (.ref c) qual = true
theorem FunC.ok {P : Program} {w : World} {K : PySem.W.Frag} {mg : Str → Option Value} {base : Heap} {x qual : Str} {st : Stmt} {f c : Addr} {fd : FuncData} {N ps : List Str} {k : Nat} {sp : Sp} (F : FunC K x qual st f fd c) (S : FnScope N ps (defScope st)) (len : ∀ vs H Q E, sp vs H Q E → vs.length = ps.length)
    (hbody : ∀ (A : Around) (outer : List Env) (s : Shared) (H : Hp) (vs : List V) (Q : VK) (E : XK), Room k (A.deeper (envOfC qual (defScope st) s.heap.objs.size f (.ref c))) → sp vs H Q E →
      ∃ t, PSs (cxOf CX0 P w K mg base N qual (defScope st) f (.ref c) A outer s H E).nox (defBody st) t ∧ t { nx := fun _ H' => Q .non H', rt := Q } (start N vs) H) : FnOk P w K mg base CX0 (k + 1) f fd ps sp := by
  obtain ⟨oc, od, kV, doc, pm, an, ct, osl, rfl, lk, hcd⟩ := F.ex
  refine fn_of lk hcd S len fun A outer s H vs Q E hr hsp => ?_
  obtain ⟨t, h, q⟩ := hbody A outer s H vs Q E hr hsp
  exact ⟨t, h.nox, q⟩
theorem funC_mk {K : PySem.W.Frag} {x qual : Str} {st : Stmt} {f c : Addr} {oc : Value} {od an : Option Addr} {osl : Array (Option Value)} {kV doc pm ct : Value} (l : K.lookup f = some ⟨oc, od, .func (PySem.W.fnOf x qual (defArgs st) (defBody st) (defScope st) .none kV doc pm an (.ref c) ct), osl⟩)
    (h : PySem.W.codeIn K (.ref c) qual = true) : FunC K x qual st f (PySem.W.fnOf x qual (defArgs st) (defBody st) (defScope st) .none kV doc pm an (.ref c) ct) c := ⟨oc, od, kV, doc, pm, an, ct, osl, rfl, l, h⟩
/-- the table of a def's code object, as the top leaves it -/
theorem tab_by {q : Program} {loose : List Str} {mean : ExcName → Option Value} {mg mb : Str → Option Value} {h : Heap} {K : PySem.W.Frag} {x : Str} {f c P : Addr} {oc oc2 : Value} {od od2 : Option Addr} {sl sl2 : Array (Option Value)} {fd : FuncData} {vs : Array Value} (T : Top q loose mean mg mb h) (X : K.In h)
    (hn : (recsOf q).any (fun d => d.name == x) = true) (a : PySem.W.nsIn K mainGlobals x = some (some (.ref f))) (l : K.lookup f = some ⟨oc, od, .func fd, sl⟩) (hc : fd.code = .ref c) (lc : K.lookup c = some ⟨oc2, od2, .fields vs, sl2⟩) (hP : vs[11]? = some (.ref P)) :
    PySem.W.CodeHd h c P ∧ h.get? P = some { cls := .none, data := .fields #[] } := by
  obtain ⟨d, hd⟩ : ∃ d, (recsOf q).find? (fun e => e.name == x) = some d := by
    rw [← Option.isSome_iff_exists, List.find?_isSome]
    exact List.any_eq_true.mp hn
  refine PySem.W.tab_of T X hd ?_
  unfold PySem.W.tabIn
  rw [a]
  simp only [l, hc, lc, hP]
/-- the promise of a law's own def beside a table of code objects -/
def spLawL (K : PySem.W.Frag) (P : Addr) (q : Str) : Sp := fun vs H Q _ => ∃ (a : Addr) (ns : List Int), vs = [.ref a] ∧ SqL K H a (ns.map V.int) ∧ ns.length ≤ 63 ∧ TabS H P q ∧ ∀ H', Q (.bl true) H'
theorem lawL_at {l : PySem.W.OpenLaw} {w : World} {K : PySem.W.Frag} {k : Nat} {mg : Str → Option Value} {fa c P : Addr} {h : Heap} {q : Str} {fd : FuncData} (hC : PySem.W.CodeHd h c P ∧ h.get? P = some { cls := .none, data := .fields #[] }) (hn : K.lookup P = none)
    (hb : ∀ (s : Shared) (u : Value), BindsTo s fd ⟨[u], []⟩ [("script", u)]) (F : ∀ base : Heap, TabB base mg c P → FnOk l.prog w K mg base CX0 k fa fd ["script"] (spLawL K P q)) : LawAtS l w K CX0 k 63 "script" mg fa h :=
  ⟨fd, [(c, P)], spLawL K P q, fun p hp => by simp at hp; rw [hp]; exact hC.2, fun p hp => by simp at hp; rw [hp]; exact hn, fun p hp => by simp at hp; rw [hp]; exact hC.1, hb,
    fun H a ns h1 _ h3 h4 => ⟨a, ns, rfl, h4, h1, TabS.nil (h3 (c, P) (by simp)), fun _ => rfl⟩, fun base _ _ TB => F base (TB (c, P) (by simp))⟩
theorem walk_L {l : PySem.W.OpenLaw} {k : Nat} {q : Program} {loose : List Str} {XP : (Str → Option Value) → Heap → Prop} {YP : World → Heap → Prop} {d : DefRec} {K : Params → PySem.W.Frag} (hn : l.most = some 63) (hdf : d.params.defaults = []) (hr : Room k callerA) (hY : ∀ (w : World) (h : Heap), YP w h → (K w.params).In h)
    (F : ∀ (w : World) (mg mb : Str → Option Value) (mean : ExcName → Option Value) (fa : Addr) (h : Heap), Top q (PySem.W.looseW q loose) mean mg mb h → (K w.params).In h → h.Ns mainGlobals mg → mg d.name = some (.ref fa) → LawAtS l w (K w.params) CX0 k 63 "script" mg fa h) :
    PySem.W.WalkO q loose XP YP l.row.toRowW d [] fun f vs => PySem.call f vs := by
  refine Att.attach_callB hn hdf fun w s0 s1 mg mb fa o pm cd doc a vs ns G Y ho hd hcd hmg hobj hints hlen hbits hg => ?_
  have KX := hY w _ Y
  obtain ⟨fd, cs, sp, hT, nT, C, hb, hsp, hF⟩ := F w mg mb _ fa _ G.T KX G.T.g hmg
  exact law_callTs KX G.T.g G.T.b G.T.builtins G.T.nolimit hg hT nT C G.T.bmain hobj hints (Nat.le_trans hlen (by decide)) hr hF hb (fun H hH hS => hsp H a ns hlen hbits hH hS) fun H e s' z => z
end Vf
set_option maxHeartbeats 2000000
/-! rows with other values; heaps in which a table of code objects has grown -/
namespace Vf
open PySem PySem.Spec PyProof.Rows L2 LamX
section
variable {K : PySem.W.Frag} {σ : L2.St} {H : Hp} {Q : VK} {g : TG} {tt : TT} {te : TE} {vs : List Nat} {a b : Addr} {xs : List V}
/-- a comprehension that draws from the bag and makes tuples -/
theorem lcxBT (PA : Nat → List V → Hp → Prop) (hab : a ≠ b) (hbN : ∃ ys, H b = some (.lst ys)) (hx : H a = some (.lst xs)) (hz : xs.length < 10000000) (h0 : ∀ H', Ex H H' → PA 0 [] H') (mono : ∀ i acc D H' H'', H D = none → b ≠ D → Tp H' H'' → But D H' H'' → PA i acc H' → PA i acc H'')
    (step : ∀ i x acc H' (Qk : VK) (Qn : Hp → Prop), xs[i]? = some x → But b H H' → Tp H H' → acc.length ≤ i → PA i acc H' → (∀ y H4, But b H' H4 → Tp H' H4 → PA (i + 1) (acc ++ [y]) H4 → Qk y H4) →
      g x (wipe σ vs) H' fun σ2 H2 => wipe σ2 vs = wipe σ vs ∧ tt σ2 H2 fun b H3 => if b = true then te σ2 H3 Qk else Qn H3)
    (hd : ∀ D acc H', H D = none → D ≠ b → But b H H' → Tp H H' → H' D = some (.lst acc) → acc.length ≤ xs.length → PA xs.length acc H' → Q (.ref D) H') : LcW (Itl K a) g tt te vs σ Q H := by
  intro D hD
  have hDb : D ≠ b := by
    obtain ⟨ys, hy⟩ := hbN
    exact (ne_of_none hy hD).symm
  refine lc_list (K := K) (a := a) (xs := xs) (fun i H' => But b H H' ∧ Tp H H' ∧ ∃ acc, H' D = some (.lst acc) ∧ acc.length ≤ i ∧ PA i acc H') ⟨(Ex.new hD).but, (Ex.new hD).tp, [], upd_same, Nat.le_refl _, h0 _ (Ex.new hD)⟩ (fun i H' _ p => SqL.of (p.1 _ _ hab hx)) ?_ ?_
  · rintro i x H' hi ⟨e, tp, acc, hD', hl, pa⟩
    have il : i < xs.length := (List.getElem?_eq_some_iff.mp hi).1
    refine step i x acc H' _ _ hi e tp hl pa (fun y H4 e4 tp4 p4 => ?_)
    have hD4 := e4 _ _ hDb hD'
    have tpu : Tp H4 (upd H4 D (.lst (acc ++ [y]))) := (But.upd (o := .lst (acc ++ [y]))).tpL hD4
    refine ⟨acc, hD4, szL (by omega), fun c o nc q => ?_, (tp.trans tp4).trans tpu, acc ++ [y], upd_same, by simp; omega, mono _ _ D _ _ hD hDb.symm tpu But.upd p4⟩
    rw [upd_ne (ne_of_none q hD)]
    exact e4 _ _ nc (e _ _ nc q)
  · rintro H' ⟨e, tp, acc, hD', hl, pa⟩
    exact hd D acc H' hD hDb e tp hD' hl pa
end
def spanOf (r : Run) : Int × Option Int := (r.1, r.2.1)
theorem asc_span {rs qs : List Run} (e : qs.map spanOf = rs.map spanOf) (a : AscS rs) : AscS qs := by
  have P : ∀ ts : List Run, AscS ts ↔ ((∀ p ∈ ts.map spanOf, ∀ n, p.2 = some n → p.1 < n) ∧ (ts.map spanOf).Pairwise fun a b => ∃ n, a.2 = some n ∧ n ≤ b.1) := fun ts => by
    unfold AscS
    rw [List.pairwise_map]
    refine and_congr ⟨fun h p hp => ?_, fun h r hr => ?_⟩ Iff.rfl
    · obtain ⟨r, hr, rfl⟩ := List.mem_map.mp hp
      exact h r hr
    · exact h _ (List.mem_map_of_mem hr)
  rw [P, e, ← P]
  exact a
theorem xn_bag {H H' : Hp} {b : Addr} {k : Nat} (e : ExtN H H') (h : Bag H b k) : Bag H' b k := by
  obtain ⟨a, n, c, h1, h2⟩ := h
  exact ⟨a, n, c, xn_lst e h1, h2⟩
theorem xn_runs {H H' : Hp} {xs : List V} {rs : List Run} (e : ExtN H H') (h : RunsAt H xs rs) : RunsAt H' xs rs := h.tp (xn_tp e)
theorem xn_ins {H H' : Hp} {a C dx : Addr} {fs : List (Str × V)} (e : ExtN H H') (h : H a = some (.ins C dx fs)) : H' a = some (.ins C dx fs) := e a _ h fun ps z => by cases z
theorem xn_ex {H H' : Hp} (e : Ex H H') : ExtN H H' := ExtN.of e
/-- a change of what was new -/
theorem xn_mut {H H1 H2 : Hp} {l : Addr} (e : ExtN H H1) (b : But l H1 H2) (n : ∀ o, H l = some o → ∃ ps, o = .tbl ps) : ExtN H H2 := fun a o h k => by
  refine b a o (fun z => ?_) (e a o h k)
  subst z
  obtain ⟨ps, q⟩ := n o h
  exact k ps q
theorem tab_but {H H' : Hp} {P l : Addr} {q : Str} (t : TabS H P q) (b : But l H H') (h : ∃ xs, H l = some (.lst xs)) : TabS H' P q := by
  obtain ⟨ps, h1, h2, h3⟩ := t
  obtain ⟨xs, hl⟩ := h
  refine ⟨ps, b _ _ (ne_of h1 hl (fun z => by cases z)) h1, h2, fun pos cv hc => ?_⟩
  obtain ⟨c, e1, e2⟩ := h3 pos cv hc
  refine ⟨c, e1, b _ _ (ne_of e2 hl (fun z => by unfold CodeO at z; cases z)) e2⟩
end Vf
set_option maxHeartbeats 2000000
/-! C(), __init__(self, *rows, k = d); gaps between rows -/
namespace Vf
open PySem PySem.Spec PyProof.Rows L2 StX
/-- a def whose keyword-only defaults stand in the dict at D -/
structure FunK (K : PySem.W.Frag) (x qual : Str) (st : Stmt) (f : Addr) (fd : FuncData) (D : Addr) : Prop where
  ex : ∃ (oc : Value) (od : Option Addr) (doc pm : Value) (an : Option Addr) (cdv ct : Value) (osl : Array (Option Value)), fd = PySem.W.fnOf x qual (defArgs st) (defBody st) (defScope st) .none (.ref D) doc pm an cdv ct ∧ K.lookup f = some ⟨oc, od, .func fd, osl⟩ ∧ PySem.W.codeIn K cdv qual = true
theorem funK_mk {K : PySem.W.Frag} {x qual : Str} {st : Stmt} {f D : Addr} {oc : Value} {od an : Option Addr} {osl : Array (Option Value)} {doc pm cdv ct : Value} (l : K.lookup f = some ⟨oc, od, .func (PySem.W.fnOf x qual (defArgs st) (defBody st) (defScope st) .none (.ref D) doc pm an cdv ct), osl⟩)
    (h : PySem.W.codeIn K cdv qual = true) : FunK K x qual st f (PySem.W.fnOf x qual (defArgs st) (defBody st) (defScope st) .none (.ref D) doc pm an cdv ct) D := ⟨oc, od, doc, pm, an, cdv, ct, osl, rfl, l, h⟩
/-- a promise of a call with its own object alone -/
def FnR0 (P : Program) (w : World) (K : PySem.W.Frag) (mg : Str → Option Value) (base : Heap) (CX : CXT) (k : Nat) (f : Addr) (z : V) (sp : Sp) : Prop :=
  ∀ (A : Around) (outer : List Env) (s : Shared) (H : Hp) (u : Value) (x : V) (Q : VK) (E : XK), Room k A → Env0 P w K mg base A outer s H → RelV x u → (∀ p, H p = Option.none → sp [x, z, V.ref p] (upd H p (.tup [])) Q E) →
    codeAny (model P w) A (.call (.ref f) ⟨[u], []⟩) (CR CX outer P w H s Q E) s
section
variable {CX : CXT} {P : Program} {w : World} {K : PySem.W.Frag} {mg : Str → Option Value} {base : Heap} {k : Nat} {f D : Addr} {name qual : Str} {params : Arguments} {body : List Stmt} {scope : Scope} {doc pm cdv ct oc : Value} {an od : Option Addr}
  {osl : Array (Option Value)} {N : List Str}
theorem fn_star0 {pa pb pv : Str} {sp : Sp} {zv : Value} {z : V} (lk : K.lookup f = some ⟨oc, od, .func (PySem.W.fnOf name qual params body scope .none (.ref D) doc pm an cdv ct), osl⟩) (hcd : PySem.W.codeIn K cdv qual = true) (S : FnScope N [pa, pb, pv] scope) (hCX : CXUp CX)
    (hD : PySem.W.nsIn K D pb = some (some zv)) (hz : RelV z zv)
    (hb : ∀ u : Value, ∃ (β γ : Type) (k1 : Option Value → Sem β) (k2 : β → Sem γ) (k3 : γ → Sem (List (Str × Value))) (a : β), bindArgs (PySem.W.fnOf name qual params body scope .none (.ref D) doc pm an cdv ct) ⟨[u], []⟩ = (((nsGet D pb >>= k1) >>= k2) >>= k3) ∧ k1 (some zv) = pure a ∧ (k2 a >>= k3) = (newTuple [] >>= fun t => pure [(pa, u), (pb, zv), (pv, t)]))
    (hbody : ∀ (A : Around) (outer : List Env) (s : Shared) (H : Hp) (vs : List V) (Q : VK) (E : XK), Room k (A.deeper (envOfC qual scope s.heap.objs.size f cdv)) → sp vs H Q E →
      ∃ t, PSs (cxOf CX P w K mg base N qual scope f cdv A outer s H E) body t ∧ t { nx := fun _ H' => Q .non H', rt := Q } (start N vs) H) : FnR0 P w K mg base CX (k + 1) f z sp := by
  intro A outer s H u x Q E hr e0 rx hq
  have hn : H s.heap.objs.size = Option.none := e0.hok.fresh (Nat.le_refl _)
  have KX : K.In s.heap := e0.mod.kin.keeps fun b o e => (e0.bs b o e).1
  refine run_bnd lk hcd S hr e0 (G := fun xs H2 => ∃ p, H p = Option.none ∧ xs = [x, z, V.ref p] ∧ H2 = upd H p (.tup [])) (fun A' Ex Q' h => ?_) fun s2 H2 xs ⟨p, hp, ex, eH⟩ hr' => ?_
  · obtain ⟨β, γ, k1, k2, k3, a, e1, e2, e3⟩ := hb u
    show wpAny _ A' (bindArgs _ ⟨[u], []⟩) Q' Ex s
    rw [e1]
    rw [bind_assoc]
    refine wpAny_bind (((PySem.W.looks_nsIn KX hD).andThen (PySem.W.Looks.of_pure e2)).here ?_)
    rw [e3]
    refine wpAny_bind (wpAny_newTuple (wpAny_pure ?_) (Nat.zero_le _))
    have new : ObjOk P w (upd H s.heap.objs.size (.tup [])) (s.heap.push ({ cls := .type "tuple", data := .seq #[] } : Obj)) s.heap.objs.size (.tup []) := ⟨Nat.zero_le _, [], .nil, ⟨_, Heap.get?_push_size _ rfl, rfl, _, rfl⟩⟩
    have un := un_laid (fs := frs outer) (s := s) (o := ({ cls := .type "tuple", data := .seq #[] } : Obj)) (u := .tup []) hn
    exact h _ _ [x, z, V.ref s.heap.objs.size] [u, zv, Value.ref s.heap.objs.size] (env0_laid e0 new) un rfl (fun e s' => hCX outer s H _ _ E e s' un (fun b o q => Heap.get?_push_of_some _ q) rfl) (.cons rx (.cons hz (.cons rfl .nil))) rfl ⟨_, hn, rfl, rfl⟩
  · subst ex eH
    exact hbody A outer s2 _ _ Q E hr' (hq p hp)
end
/-- C() -/
def tMake00 (C : Addr) (z : V) (sp : Sp) (E : XK) : TE := fun _ H Q => ∀ x dx, H x = Option.none → H dx = Option.none → dx ≠ x → ∀ p, upd (upd H dx (.own x)) x (.ins C dx []) p = Option.none → sp [V.ref x, z, V.ref p] (upd (upd (upd H dx (.own x)) x (.ins C dx [])) p (.tup [])) (fun v H3 => v = .non ∧ Q (.ref x) H3) E
theorem pe_make00 {X : Cx} {CX : CXT} {k : Nat} {f C : Addr} {z : V} {sp : Sp} {E : XK} {x : Str} {p pos : Pos} (M : Mk X.K C f) (F : FnR0 X.prog X.w X.K X.mg X.base CX k f z sp) (hr : Room (k + 1) X.A) (hg : Gl X x) (hm : X.mg x = some (.ref C)) (hx : Passes CX X E) (hdb : (x == ("__debug__" : Str)) = false := by decide) :
    PE X (.Call (.Name x p) [] [] pos) (tMake00 C z sp E) := by
  refine ⟨fun pins s σ H Q I h => ?_⟩
  refine wpAny_Call_Name_kw (ld_glob I hg hm ?_ hdb)
  have hq := h (s.heap.objs.size + 1) s.heap.objs.size (I.hok.fresh (Nat.le_succ _)) (I.hok.fresh (Nat.le_refl _)) (Nat.ne_of_lt (Nat.lt_succ_self _))
  have I2 := Inv.made (C := C) I
  refine PySem.W.callWith_K0 I.kIn M.kp (wpAny_call (make_map (f := f) I.kIn M.makes M.init (beq_iff_eq.mp M.fn) (codeAny_mono (F _ X.stack _ _ (Value.ref (s.heap.objs.size + 1)) (V.ref (s.heap.objs.size + 1)) _ E (hr.make C [] []) (I2.env0.make C [] []) rfl hq) fun r s' hq' => ?_)))
  cases r with
  | error e => exact hx pins σ _ _ e s' I2 hq'
  | ok fl =>
    cases fl with
    | ret u =>
      obtain ⟨v, H', I3, rv, ev, q3⟩ := I2.after hq'
      subst ev
      exact ⟨rv, ⟨V.ref (s.heap.objs.size + 1), H', I3, rfl, q3⟩⟩
    | next => exact False.elim hq'
    | brk => exact False.elim hq'
    | cont => exact False.elim hq'
/-! ### gaps -/
def gapR (x y : Run) : List Chg := match x.2.1 with
  | none => []
  | some n => if n < y.1 then [(n, .int (y.1 - 1))] else []
def gapsI (ts : List Run) (i : Nat) : List Chg := (List.range i).flatMap fun j => match ts[j]?, ts[j + 1]? with
  | some x, some y => gapR x y
  | _, _ => []
def gapsR (ts : List Run) : List Chg := gapsI ts (ts.length - 1)
theorem gaps_step {ts : List Run} {i : Nat} {x y : Run} (hx : ts[i]? = some x) (hy : ts[i + 1]? = some y) : gapsI ts (i + 1) = gapsI ts i ++ gapR x y := by
  unfold gapsI
  rw [List.range_succ, List.flatMap_append, List.flatMap_cons, List.flatMap_nil, List.append_nil, hx, hy]
def solidI (ts : List Run) (i : Nat) : Bool := (List.range i).all fun j => match ts[j]?, ts[j + 1]? with
  | some x, some y => decide (x.2.1 = some y.1)
  | _, _ => true
def solidR (ts : List Run) : Bool := solidI ts (ts.length - 1)
theorem solid_step {ts : List Run} {i : Nat} {x y : Run} (hx : ts[i]? = some x) (hy : ts[i + 1]? = some y) : solidI ts (i + 1) = (solidI ts i && decide (x.2.1 = some y.1)) := by
  unfold solidI
  rw [List.range_succ, List.all_append, List.all_cons, List.all_nil, Bool.and_true, hx, hy]
theorem gaps_solid {ts : List Run} (a : AscS ts) : (gapsR ts).isEmpty = solidR ts := by
  have key : ∀ i, i ≤ ts.length - 1 → (gapsI ts i).isEmpty = solidI ts i := fun i => by
    induction i with
    | zero => intro _; rfl
    | succ i ih =>
      intro hi
      have e1 := List.getElem?_eq_getElem (show i < ts.length by omega)
      have e2 := List.getElem?_eq_getElem (show i + 1 < ts.length by omega)
      rw [gaps_step e1 e2, solid_step e1 e2, ← ih (by omega), show ∀ a b : List Chg, (a ++ b).isEmpty = (a.isEmpty && b.isEmpty) from fun a b => by cases a <;> simp]
      congr 1
      obtain ⟨n, e, hn⟩ := List.pairwise_iff_getElem.mp a.2 i (i + 1) (by omega) (by omega) (by omega)
      unfold gapR
      rw [e]
      by_cases h : n < ts[i + 1].1
      · have : ¬ n = ts[i + 1].1 := by omega
        simp [h, this]
      · have : n = ts[i + 1].1 := by omega
        simp [this]
  exact key _ (Nat.le_refl _)
def lastOpen (ts : List Run) : Bool := match ts.getLast? with
  | none => false
  | some r => decide (r.2.1 = none)
theorem call_isiK {X : Cx} {K0 : PySem.W.Frag} (hK : X.K = K0 := by rfl) : CallR X (.builtin "isinstance") (rIsi K0) := hK ▸ call_isi
theorem c_lenK {X : Cx} {K0 : PySem.W.Frag} (hK : X.K = K0 := by rfl) : CallR X (.builtin "len") (rLen K0) := hK ▸ c_len
theorem r_truB {K : PySem.W.Frag} {H : Hp} {b : Bool} {B : Bool → Prop} (q : B b) : ∃ k, TruV K (.bl b) H k ∧ B k := ⟨b, rfl, q⟩
theorem strs3_ok {a b c : Str} (ha : PyData.strOk a = true) (hb : PyData.strOk b = true) (hc : PyData.strOk c = true) : SeqAt.shaped (.tuple [.str a, .str b, .str c]) = true ∧ PyData.eqv (.tuple [.str a, .str b, .str c]) (.tuple [.str a, .str b, .str c]) = true := by
  constructor
  · simp [SeqAt.shaped, PyData.canLay0, PyData.canLayAll0, PyData.depth, PyData.depthAll, ha, hb, hc]
  · simp [PyData.eqv, PyData.eqvAll]
theorem strs3_dp {K : PySem.W.Frag} {H : Hp} {p : Addr} {a b c : Str} (h : H p = some (.tup [.str a, .str b, .str c])) : Dp K H (.ref p) (.tuple [.str a, .str b, .str c]) := .tup (.of h) (.cons (.str _) (.cons (.str _) (.cons (.str _) .nil)))
end Vf
set_option maxHeartbeats 2000000
/-! the table of a book's rows; rows joined -/
namespace Vf
open PySem PySem.Spec PyProof.Rows L2 StX
/-- a row up to its last day -/
def lastR (r : Run) : Run := (r.1, r.2.1.map (· - 1), r.2.2)
/-- the runs of the table that rows make -/
def tabL (ts : List Run) : List Run := joinR V.non (ts.map lastR)
/-- rows that go on are one row -/
def joinS (ts : List Run) : List Run := (tabL ts).map (spanR "last day")
theorem last_span (r : Run) : lastR (spanR "last day" r) = r := by
  obtain ⟨f, u, v⟩ := r
  cases u with
  | none => rfl
  | some n =>
    show (f, some ((if ("last day" : Str) = "next day" then n else n + 1) - 1), v) = _
    rw [if_neg ends_ne]
    simp
theorem span_last (r : Run) : spanR "last day" (lastR r) = r := by
  obtain ⟨f, u, v⟩ := r
  cases u with
  | none => rfl
  | some n =>
    show (f, some (if ("last day" : Str) = "next day" then n - 1 else n - 1 + 1), v) = _
    rw [if_neg ends_ne]
    simp
theorem last_writ (r : Run) : lastR r = writR "last day" r := by
  obtain ⟨f, u, v⟩ := r
  cases u with
  | none => rfl
  | some n =>
    show _ = (f, some (if ("last day" : Str) = "next day" then n else n - 1), v)
    rw [if_neg ends_ne]
    rfl
theorem has_last {r : Run} {d : Int} : hasD (lastR r) d = true ↔ r.1 ≤ d ∧ ∀ n, r.2.1 = some n → d < n := by
  rw [hasD_iff]
  obtain ⟨f, u, v⟩ := r
  cases u with
  | none => exact ⟨fun h => ⟨h.1, fun n e => by cases e⟩, fun h => ⟨h.1, fun n e => by cases e⟩⟩
  | some n =>
    refine ⟨fun h => ⟨h.1, fun k e => ?_⟩, fun h => ⟨h.1, fun k e => ?_⟩⟩
    · cases e
      have := h.2 (n - 1) rfl
      omega
    · cases e
      have := h.2 n rfl
      show d ≤ n - 1
      omega
theorem asc_last {ts : List Run} (a : AscS ts) : AscR (ts.map lastR) := by
  refine ⟨fun r hr l e => ?_, List.pairwise_map.mpr (a.2.imp fun {x y} h => ?_)⟩
  · obtain ⟨⟨f, u, v⟩, hx, rfl⟩ := List.mem_map.mp hr
    cases u with
    | none => cases e
    | some n =>
      have := a.1 _ hx n rfl
      cases e
      show f ≤ n - 1
      simp only at this
      omega
  · obtain ⟨n, e, h⟩ := h
    refine ⟨n - 1, ?_, ?_⟩
    · show x.2.1.map (· - 1) = _
      rw [e]; rfl
    · show n - 1 < y.1
      omega
theorem span_asc {rs : List Run} (a : AscR rs) : AscS (rs.map (spanR "last day")) := by
  have e : ∀ n : Int, stopOf (some n) "last day" = some (n + 1) := fun n => by
    show some (if ("last day" : Str) = "next day" then n else n + 1) = _
    rw [if_neg ends_ne]
  refine ⟨fun r hr l h => ?_, List.pairwise_map.mpr (a.2.imp fun {x y} h => ?_)⟩
  · obtain ⟨⟨f, u, v⟩, hx, rfl⟩ := List.mem_map.mp hr
    cases u with
    | none => cases h
    | some n =>
      have := a.1 _ hx n rfl
      have h : stopOf (some n) "last day" = some l := h
      rw [e] at h
      cases h
      show f < n + 1
      simp only at this
      omega
  · obtain ⟨l, h1, h⟩ := h
    refine ⟨l + 1, ?_, ?_⟩
    · show stopOf x.2.1 "last day" = _
      rw [h1, e]
    · show l + 1 ≤ y.1
      omega
theorem tab_norm {ts : List Run} (a : AscS ts) : NormR V.non (tabL ts) := (join_norm (asc_last a)).1
theorem tab_look {ts : List Run} (a : AscS ts) (d : Int) : lookR V.non (tabL ts) d = lookR V.non (ts.map lastR) d := (join_norm (asc_last a)).2 d
theorem tab_len {ts : List Run} : (tabL ts).length ≤ ts.length := by
  have := join_len (nn := V.non) (ss := ts.map lastR)
  rw [List.length_map] at this
  exact this
theorem tab_worth {ts : List Run} (h : ∀ r ∈ ts, Worth r.2.2) : ∀ r ∈ tabL ts, Worth r.2.2 := fun r hr => by
  obtain ⟨s, hs, e, _⟩ := join_mem hr
  obtain ⟨x, hx, rfl⟩ := List.mem_map.mp hs
  rw [← e]
  exact h x hx
theorem tab_good {ts : List Run} (a : AscS ts) (h : ∀ r ∈ ts, Worth r.2.2) : Good (tabL ts) := ⟨tab_norm a, tab_worth h⟩
theorem join_asc {ts : List Run} (a : AscS ts) : AscS (joinS ts) := span_asc (tab_norm a).1
theorem join_lenS {ts : List Run} : (joinS ts).length ≤ ts.length := by
  unfold joinS
  rw [List.length_map]
  exact tab_len
theorem join_worth {ts : List Run} (h : ∀ r ∈ ts, Worth r.2.2) : ∀ r ∈ joinS ts, Worth r.2.2 := fun r hr => by
  obtain ⟨x, hx, rfl⟩ := List.mem_map.mp hr
  exact tab_worth h x hx
theorem join_last {ts : List Run} : (joinS ts).map lastR = tabL ts := by
  unfold joinS
  rw [List.map_map]
  have : lastR ∘ spanR "last day" = id := funext last_span
  rw [this, List.map_id]
theorem tab_join {ts : List Run} (a : AscS ts) : tabL (joinS ts) = tabL ts := by
  show joinR V.non ((joinS ts).map lastR) = _
  rw [join_last]
  exact (tab_norm a).same
theorem join_join {ts : List Run} (a : AscS ts) : joinS (joinS ts) = joinS ts := by
  show (tabL (joinS ts)).map _ = _
  rw [tab_join a]
  rfl
theorem look_mem {rs : List Run} {r : Run} {d : Int} : AscR rs → r ∈ rs → hasD r d = true → lookR V.non rs d = r.2.2 := by
  induction rs with
  | nil => intro _ h; cases h
  | cons x t ih =>
    intro a h hd
    rcases List.mem_cons.mp h with rfl | h
    · simp [lookR, cover, hd]
    · have b := (List.pairwise_cons.mp a.2).1 r h
      have hx := has_after b hd
      have := ih a.tail h hd
      simpa [lookR, cover, hx] using this
theorem look_no {rs : List Run} {d : Int} (h : ∀ r ∈ rs, hasD r d = false) : lookR V.non rs d = V.non := by
  unfold lookR
  rw [cover_none h]
  rfl
/-- a row more is given -/
theorem tab_step {ts : List Run} {i : Nat} {r : Run} (a : AscS ts) (h : ts[i]? = some r) : tabL (ts.take (i + 1)) = giveR V.non (tabL (ts.take i)) r.1 (r.2.1.map (· - 1)) r.2.2 := by
  have e : ts.take (i + 1) = ts.take i ++ [r] := by rw [List.take_succ, h]; rfl
  have a1 : AscS (ts.take (i + 1)) := sub_asc a (List.take_sublist _ _)
  have a0 : AscS (ts.take i) := sub_asc a (List.take_sublist _ _)
  have vr : ValR (lastR r) := (asc_last a).1 _ (List.mem_map_of_mem (List.mem_of_getElem? h))
  obtain ⟨g1, g2⟩ := give_norm (tab_norm a0) vr
  refine norm_one (tab_norm a1) g1 fun d => ?_
  refine Eq.trans ?_ (g2 d).symm
  rw [tab_look a1, tab_look a0, e, List.map_append]
  have bf : ∀ x ∈ (ts.take i).map lastR, Bef x (lastR r) := fun x hx => by
    have p := (asc_last a1).2
    rw [e, List.map_append, List.pairwise_append] at p
    exact p.2.2 x hx _ (by simp)
  unfold lookR
  rw [cover_append]
  by_cases hd : hasD (lastR r) d = true
  · have hn : cover ((ts.take i).map lastR) d = none := cover_none fun x hx => has_after (bf x hx) hd
    have hd2 : hasD (r.1, r.2.1.map (· - 1), r.2.2) d = true := hd
    rw [hn, if_pos hd2]
    simp [cover, hd]
    rfl
  · have hd2 : ¬ hasD (r.1, r.2.1.map (· - 1), r.2.2) d = true := hd
    rw [if_neg hd2]
    simp [cover, hd]
/-- the table of rows into which a stretch was put -/
theorem put_look {ts : List Run} {f : Int} {m : Option Int} {v : V} (a : AscS ts) (hm : ∀ n, m = some n → f ≤ n) (d : Int) :
    lookR V.non ((putL ts f m v).map lastR) d = if hasD (f, m, v) d = true then v else lookR V.non (ts.map lastR) d := by
  have hv := a.1
  have AP := asc_last (put_asc (v := v) a hm)
  have inH : ∀ {r r'}, r ∈ ts → r' ∈ headR f r → r' ∈ putL ts f m v := fun {r r'} h1 h2 => by
    unfold putL
    rw [List.mem_append, List.mem_append]
    exact .inl (.inl (List.mem_flatMap.mpr ⟨r, h1, h2⟩))
  have inT : ∀ {r r'}, r ∈ ts → r' ∈ tailR (m.map (· + 1)) r → r' ∈ putL ts f m v := fun {r r'} h1 h2 => by
    unfold putL
    rw [List.mem_append]
    exact .inr (List.mem_flatMap.mpr ⟨r, h1, h2⟩)
  have cs : ∀ {r'}, r' ∈ putL ts f m v → (∃ r ∈ ts, ∃ n, r' = (r.1, some n, r.2.2) ∧ r.1 < n ∧ n ≤ f ∧ ∀ k, r.2.1 = some k → n ≤ k) ∨ (v ≠ .non ∧ r' = (f, m.map (· + 1), v)) ∨
      (∃ k, m = some k ∧ ∃ r ∈ ts, ∃ g, r' = (g, r.2.1, r.2.2) ∧ k + 1 ≤ g ∧ r.1 ≤ g ∧ ∀ n, r.2.1 = some n → g < n) := fun {r'} h => by
    unfold putL at h
    rw [List.mem_append, List.mem_append] at h
    rcases h with (h | h) | h
    · obtain ⟨r, hr, h⟩ := List.mem_flatMap.mp h
      obtain ⟨n, h⟩ := head_mem h (hv r hr)
      exact .inl ⟨r, hr, n, h⟩
    · unfold newR at h
      split at h
      · cases h
      · rename_i hn
        exact .inr (.inl ⟨hn, List.mem_singleton.mp h⟩)
    · obtain ⟨r, hr, h⟩ := List.mem_flatMap.mp h
      cases m with
      | none => cases h
      | some k =>
        obtain ⟨g, h⟩ := tail_mem h (hv r hr)
        exact .inr (.inr ⟨k, rfl, r, hr, g, h⟩)
  by_cases hd : hasD (f, m, v) d = true
  · rw [if_pos hd]
    obtain ⟨h1, h2⟩ := hasD_iff.mp hd
    simp only at h1 h2
    by_cases hn : v = .non
    · refine (look_no fun x hx => ?_).trans hn.symm
      obtain ⟨r', hr', rfl⟩ := List.mem_map.mp hx
      cases q : hasD (lastR r') d with
      | false => rfl
      | true =>
        obtain ⟨q1, q2⟩ := has_last.mp q
        rcases cs hr' with ⟨r, hr, n, rfl, h3, h4, h5⟩ | ⟨h3, _⟩ | ⟨k, rfl, r, hr, g, rfl, h3, h4, h5⟩
        · have := q2 n rfl
          omega
        · exact absurd hn h3
        · have := h2 k rfl
          simp only at q1
          omega
    · refine look_mem AP (r := lastR (f, m.map (· + 1), v)) (List.mem_map_of_mem ?_) ?_
      · unfold putL newR
        rw [if_neg hn]
        simp
      · refine has_last.mpr ⟨h1, fun n e => ?_⟩
        cases m with
        | none => cases e
        | some k =>
          have := h2 k rfl
          cases e
          show d < k + 1
          omega
  · rw [if_neg hd]
    by_cases ex : ∃ r ∈ ts, hasD (lastR r) d = true
    · obtain ⟨r, hr, hrd⟩ := ex
      rw [look_mem (asc_last a) (List.mem_map_of_mem hr) hrd]
      obtain ⟨h1, h2⟩ := has_last.mp hrd
      by_cases hf : d < f
      · have hlt : r.1 < f := by omega
        have hin : (r.1, some (match r.2.1 with | none => f | some n => if n > f then f else n), r.2.2) ∈ headR f r := by
          unfold headR
          rw [if_pos hlt]
          exact List.mem_singleton.mpr rfl
        have hl := look_mem AP (r := lastR _) (d := d) (List.mem_map_of_mem (inH hr hin)) (has_last.mpr ⟨h1, fun n e => by
          cases e
          cases q : r.2.1 with
          | none => exact hf
          | some k =>
            have := h2 k q
            simp only
            split <;> omega⟩)
        exact hl
      · cases m with
        | none => exact absurd (hasD_iff.mpr ⟨Int.not_lt.mp hf, fun l e => by cases e⟩) hd
        | some k =>
          have hk : k < d := Int.not_le.mp fun z => hd (hasD_iff.mpr ⟨Int.not_lt.mp hf, fun l e => by cases e; exact z⟩)
          obtain ⟨f0, u, v0⟩ := r
          simp only at h1 h2
          have hin : ((if k + 1 > f0 then k + 1 else f0), u, v0) ∈ tailR (some (k + 1)) (f0, u, v0) := by
            cases u with
            | none => exact List.mem_singleton.mpr rfl
            | some n =>
              have := h2 n rfl
              show _ ∈ (if n > k + 1 then [((if k + 1 > f0 then k + 1 else f0), some n, v0)] else [])
              rw [if_pos (by omega)]
              exact List.mem_singleton.mpr rfl
          have hg : (if k + 1 > f0 then k + 1 else f0) ≤ d := by split <;> omega
          generalize (if k + 1 > f0 then k + 1 else f0) = g at *
          exact look_mem AP (r := lastR (g, u, v0)) (d := d) (List.mem_map_of_mem (inT (r := (f0, u, v0)) (r' := (g, u, v0)) hr hin)) (has_last.mpr ⟨hg, h2⟩)
    · have no : ∀ r ∈ ts, hasD (lastR r) d = false := fun r hr => by
        cases q : hasD (lastR r) d with
        | false => rfl
        | true => exact absurd ⟨r, hr, q⟩ ex
      rw [look_no (rs := ts.map lastR) fun x hx => by obtain ⟨r, hr, rfl⟩ := List.mem_map.mp hx; exact no r hr]
      refine look_no fun x hx => ?_
      obtain ⟨r', hr', rfl⟩ := List.mem_map.mp hx
      cases q : hasD (lastR r') d with
      | false => rfl
      | true =>
        exfalso
        obtain ⟨q1, q2⟩ := has_last.mp q
        rcases cs hr' with ⟨r, hr, n, rfl, h3, h4, h5⟩ | ⟨_, rfl⟩ | ⟨k, rfl, r, hr, g, rfl, h3, h4, h5⟩
        · refine ex ⟨r, hr, has_last.mpr ⟨q1, fun k e => ?_⟩⟩
          have := q2 n rfl
          have := h5 k e
          omega
        · refine hd (hasD_iff.mpr ⟨q1, fun l e => ?_⟩)
          have e : m = some l := e
          have := q2 (l + 1) (by show m.map (· + 1) = _; rw [e]; rfl)
          omega
        · simp only at q1
          exact ex ⟨r, hr, has_last.mpr ⟨by omega, q2⟩⟩
theorem tab_put {ts : List Run} {f : Int} {m : Option Int} {v : V} (a : AscS ts) (hm : ∀ n, m = some n → f ≤ n) : tabL (putL ts f m v) = giveR V.non (tabL ts) f m v := by
  obtain ⟨g1, g2⟩ := give_norm (tab_norm a) (show ValR (f, m, v) from hm)
  refine norm_one (tab_norm (put_asc a hm)) g1 fun d => ?_
  rw [tab_look (put_asc a hm), put_look a hm, g2, tab_look a]
/-- a row more is joined -/
theorem join_step {ts : List Run} {i : Nat} {r : Run} (h : ts[i]? = some r) : tabL (ts.take (i + 1)) = pushR V.non (tabL (ts.take i)) (lastR r) := by
  unfold tabL joinR
  rw [List.take_succ, h]
  simp [List.map_append, List.foldl_append]
end Vf
set_option maxHeartbeats 2000000
/-! iter(own object) where nothing new is known: the place of the iterator is behind the frame's start -/
namespace Vf
open PySem PySem.Spec PyProof.Rows L2 StX
section
variable {X : Cx} {e : Expr} {f : Str} {pos : Pos} {ta : TE}
theorem pe_cvalK {K0 : PySem.W.Frag} (he : PE X e ta) (hb : attributeBase e f X.env (eval e X.env) = eval e X.env := by rfl) (hK : X.K = K0 := by rfl) : PE X (.Attribute e f pos) (ClX.tCVal K0 ta f) := hK ▸ ClX.pe_cval he hb
end
/-- a def whose promise may know how many objects there were at its call -/
structure FnAt (P : Program) (w : World) (K : PySem.W.Frag) (mg : Str → Option Value) (base : Heap) (k : Nat) (f : Addr) (fd : FuncData) (ps : List Str) (sp : Nat → Sp) : Prop where
  run : ∀ (A1 : Around) (fr : List Env) (z : Shared) (G : Hp) (us : List Value) (vs : List V) (R : VK), Room k A1 → Env0 P w K mg base A1 fr z G → BindsTo z fd ⟨us, []⟩ (ps.zip us) → Vals vs us → vs.length = ps.length → sp z.heap.objs.size vs G R E0 →
    wpAny (model P w) A1 (call (.ref f) us) (fun u z' => CE fr P w G z R u z') (fun _ _ => False) z
section
variable {P : Program} {w : World} {K : PySem.W.Frag} {mg : Str → Option Value} {base : Heap}
theorem fn_at {x qual : Str} {st : Stmt} {f : Addr} {fd : FuncData} {N ps : List Str} {k : Nat} {sp : Nat → Sp} (F : Fun K x qual st f fd) (S : FnScope N ps (defScope st))
    (body : ∀ (cv : Value) (A1 : Around) (fr : List Env) (z : Shared) (G : Hp) (vs : List V) (R : VK), Room k (A1.deeper (envOfC qual (defScope st) z.heap.objs.size f cv)) → sp z.heap.objs.size vs G R E0 →
      ∃ t, PSs (cxOf CX0 P w K mg base N qual (defScope st) f cv A1 fr z G E0).nox (defBody st) t ∧ t { nx := fun _ G' => R .non G', rt := R } (start N vs) G) : FnAt P w K mg base (k + 1) f fd ps sp := by
  obtain ⟨oc, od, kV, dc, pm, an, cv, ct, sl, rfl, hlk, hcv⟩ := F.ex
  refine ⟨fun A1 fr z G us vs R room e0 bd rv hlen hsp => ?_⟩
  have kin : K.In z.heap := e0.mod.kin.keeps fun b o q => (e0.bs b o q).1
  have nol : z.heap.NoLimit := e0.mod.nolimit.keeps fun b o q => (e0.bs b o q).1
  have knd : ∀ y ∈ ps.zip us, (defScope st).names.lookup y.1 = some .local ∨ ((defScope st).names.lookup y.1 = some .cell ∧ ((cellsFrom (z.heap.objs.size + 1) (defScope st).names []).lookup y.1).isSome = true) := fun ⟨n, v⟩ hy =>
    (S.par n (List.of_mem_zip hy).1).imp id fun q => ⟨q, PySem.W.cellsFrom_some _ _ _ (.inl q)⟩
  refine wpAny_call (codeAny_mono (R := CR CX0 fr P w G z R E0) ?_ fun res z' hq => ?_)
  rotate_left
  · cases res with
    | error er => exact False.elim hq
    | ok fw =>
      cases fw with
      | ret u => exact hq
      | next => exact False.elim hq
      | brk => exact False.elim hq
      | cont => exact False.elim hq
  refine codeAny_call_function room.depth (kin _ _ hlk) rfl S.co S.gen rfl (PySem.W.codeRec_of kin hcv) (bd _ _ _ _ ?_)
  refine wpAny_newFunctionEnv_cells S.kind knd fun ev he z1 xx => ?_
  subst he
  refine ⟨nol.keeps xx.toInCall.keep, codeAny_func ?_⟩
  obtain ⟨t, ht, hq⟩ := body cv A1 fr z G vs R (room.deeper _) hsp
  have J0 : Inv (cxOf CX0 P w K mg base N qual (defScope st) f cv A1 fr z G E0) [] (start N vs) G z1 := inv_start S room.hd e0 hlen rv xx
  refine wpAny_mono (ht.nox.run [] z1 (start N vs) G _ J0 hq) (fun fl z' hs => ?_) fun er z' hs => hs
  cases fl with
    | ret u =>
      obtain ⟨v, σ', G', J, ru, q⟩ := hs
      exact ⟨v, G', J.os, J.bare, J.base, J.hok, ru, q⟩
    | next =>
      obtain ⟨σ', G', J, q⟩ := hs
      exact ⟨V.non, G', J.os, J.bare, J.base, J.hok, rfl, q⟩
    | brk =>
      obtain ⟨_, _, _, q⟩ := hs
      exact False.elim q
    | cont =>
      obtain ⟨_, _, _, q⟩ := hs
      exact False.elim q
end
/-- __iter__ of a thing that keeps its items in the list at its field f, called when there were n objects -/
def spIterN (C : Addr) (f : Str) (n : Nat) : Sp := fun vs H Q _ => ∃ (a dx l : Addr) (fs : List (Str × V)) (xs : List V), vs = [.ref a] ∧ H a = some (.ins C dx fs) ∧ fs.lookup f = some (.ref l) ∧ H l = some (.lst xs) ∧ ∀ it, H it = none → n ≤ it → Q (.ref it) (upd H it (ItO l it 0))
def rIterN (K : PySem.W.Frag) (n : Nat) : List V → Hp → VK → Prop := fun xs H Q => ∃ (l : Addr) (zs : List V), xs = [.ref l] ∧ SqL K H l zs ∧ ∀ it, H it = none → n ≤ it → Q (.ref it) (upd H it (ItO l it 0))
section
variable {X : Cx} {pins : List (Addr × Obj)} {σ : L2.St} {H : Hp} {s : Shared} {C fi fl : Addr} {f : Str} {fdI : FuncData} {psI : List Str} {n : Nat}
theorem call_iterN : CallR X (.builtin "iter") (rIterN X.K X.s_0.heap.objs.size) := by
  intro pins s σ H xs us Q I r h
  obtain ⟨l, zs, rfl, hq, q⟩ := h
  obtain rfl := Vals.ref1 r
  obtain ⟨its, rv, pl, hz⟩ := I.list hq
  have fr : H s.heap.objs.size = none := I.hok.fresh (Nat.le_refl _)
  exact GNX.call_iter pl.isList ⟨.ref s.heap.objs.size, _, I.laid (t' := s.toks) (fun b u e => Heap.get?_push_of_some _ e) (Nat.le_refl _) (itO_ok (Heap.get?_push_size _ rfl)), rfl, q _ fr I.sz⟩
theorem r_iterN {K : PySem.W.Frag} {Q : VK} {l : Addr} {zs : List V} (h : SqL K H l zs) (q : ∀ it, H it = none → n ≤ it → Q (.ref it) (upd H it (ItO l it 0))) : rIterN K n [.ref l] H Q := ⟨l, zs, rfl, h, q⟩
def iOwnN (K : PySem.W.Frag) (C : Addr) (f : Str) (te : TE) : TI := fun σ H R => te σ H fun v H1 => ∃ (a dx l : Addr) (fs : List (Str × V)) (ys : List V), v = .ref a ∧ H1 a = some (.ins C dx fs) ∧ fs.lookup f = some (.ref l) ∧ H1 l = some (.lst ys) ∧ R (Itl K l) H1
theorem pi_ownN {k : Nat} {tg e : Expr} {te : TE} (hc : SeqC X.K C fi fl) (FI : FnAt X.prog X.w X.K X.mg X.base k fi fdI psI (spIterN C f)) (hp1 : psI.length = 1) (bI : Binds X.K fdI psI []) (hr : Room k X.A) (he : PE X e te) : PI X tg e (iOwnN X.K C f te) := by
  refine ⟨fun pins s σ H R I h => thn (he.run pins s σ H _ I h) fun u s1 ⟨v, H1, I1, rv, a, dx, l, fs, ys, ev, ha, hff, hl, q⟩ => ?_⟩
  subst ev
  obtain rfl : u = Value.ref a := rv
  obtain ⟨mA, J, _⟩ := ins_get I1.hok ha
  obtain ⟨od, J, _⟩ := J.look
  obtain ⟨m0, hF⟩ := I1.fr
  refine PySem.W.owit_iter hF I1.ok.mod.kin J hc.it hc.itF ?_
  have bd := bI s1 [.ref a] I1.kIn (by rw [hp1]; rfl)
  refine wpAny_mono (FI.run X.A X.stack s1 H1 [.ref a] [.ref a] (fun v H' => ∃ it, v = .ref it ∧ H1 it = none ∧ s1.heap.objs.size ≤ it ∧ H' = upd H1 it (ItO l it 0)) hr I1.env0 (by simpa using bd) (.cons rfl .nil) (by rw [hp1]; rfl) ⟨a, dx, l, fs, ys, rfl, ha, hff, hl, fun it hit big => ⟨it, rfl, hit, big, rfl⟩⟩) (fun u s2 h => ?_) fun _ _ e => e.elim
  obtain ⟨v, H', I', rv, it, ev, hit, big, eH⟩ := I1.after h
  subst ev; subst eH
  obtain rfl : u = Value.ref it := rv
  have fp : FpOk X pins H1 it := by
    have := ItX.inv_fp I' (a := it) upd_same (Nat.le_trans I1.sz big)
    rwa [ItX.dropH_upd hit] at this
  have gi : s2.heap.get? it = some (GNX.itObj l 0) := itO_get I' upd_same
  have I2 : Inv X pins σ H1 s2 := by
    have := ItX.inv_drop (φ := fun h => h.get? it = some (GNX.itObj l 0)) I' upd_same
    rwa [ItX.dropH_upd hit] at this
  unfold PySem.W.OwitIt
  refine wpAny_specialOf (show s2.TypeIs (.ref it) "list_iterator" from ⟨_, gi, rfl⟩) slot_listiter_next.lookup ?_
  refine ⟨it, [it], fun i h => h.IsListIter it l i, Itl X.K l, H1, rfl, I2, turn_list l it, ⟨_, gi, rfl, rfl⟩, fun c hc => ?_, q⟩
  obtain rfl : c = it := by simpa using hc
  exact fp
theorem r_iOwnN {K : PySem.W.Frag} {te : TE} {R : It → Hp → Prop} (q : te σ H fun v H1 => ∃ (a dx l : Addr) (fs : List (Str × V)) (ys : List V), v = .ref a ∧ H1 a = some (.ins C dx fs) ∧ fs.lookup f = some (.ref l) ∧ H1 l = some (.lst ys) ∧ R (Itl K l) H1) : iOwnN K C f te σ H R := q
end
end Vf
set_option maxHeartbeats 2000000
/-! a row in a list of rows, by what they are -/
namespace Vf
open PySem PySem.Spec PyProof.Rows L2 StX
theorem run_shaped {r : Run} (w : OptW r.2.2) : SeqAt.shaped (runD r) = true := by
  have h := val_lay w
  obtain ⟨f, u, v⟩ := r
  have h1 : (runD (f, u, v)).canLay0 = true := by
    have := h.1
    cases u <;> simp [PyData.canLayAll0, PyData.canLay0, runD, optD] <;> exact this
  have h2 : (runD (f, u, v)).depth ≤ 64 := by
    have := h.2
    simp only at this
    cases u <;> simp [PyData.depthAll, PyData.depth, runD, optD] <;> omega
  show ((runD (f, u, v)).canLay0 && decide ((runD (f, u, v)).depth ≤ 64)) = true
  rw [h1, decide_eq_true h2]
  rfl
theorem run_eqv {r x : Run} (w : OptW r.2.2) (w2 : OptW x.2.2) : PyData.eqv (runD x) (runD r) = decide (x = r) := by
  have h0 := val_eqv w2 w
  have h1 := opt_eqv x.2.1 r.2.1
  obtain ⟨f, l, v⟩ := x
  obtain ⟨f2, l2, v2⟩ := r
  simp only at h0 h1
  simp only [PyData.eqvAll, runD, PyData.eqv, h0, h1]
  rw [Bool.eq_iff_iff]
  simp [and_assoc]
theorem r_inRuns {K : PySem.W.Frag} {H : Hp} {Q : VK} {t p : Addr} {xs : List V} {rs : List Run} {r : Run} (ht : H t = some (.tup (runV r))) (hp : H p = some (.lst xs)) (h : RunsAt H xs rs) (w : OptW r.2.2) (w2 : ∀ r ∈ rs, OptW r.2.2) (q : Q (.bl (decide (r ∈ rs))) H) : rInD K (.ref t) (.ref p) H Q := by
  have hd : Dp K H (.ref t) (runD r) := by
    have := runs_dpA (K := K) (RunsAt.one ht) (fun x hx => by rw [List.mem_singleton] at hx; subst hx; exact w)
    cases this with
    | cons a _ => exact a
  refine ⟨_, _, hd, runs_dp hp h w2, run_shaped w, runs_shaped w2, ?_⟩
  have e : ((rs.map runD).any fun z => PyData.eqv z (runD r)) = decide (r ∈ rs) := by
    rw [Bool.eq_iff_iff, List.any_eq_true, decide_eq_true_eq]
    refine ⟨fun ⟨z, hz, e⟩ => ?_, fun hm => ⟨runD r, List.mem_map_of_mem hm, by rw [run_eqv w w]; simp⟩⟩
    obtain ⟨x, hx, rfl⟩ := List.mem_map.mp hz
    rw [run_eqv w (w2 x hx), decide_eq_true_eq] at e
    exact e ▸ hx
  rw [e]
  exact q
end Vf
set_option maxHeartbeats 2000000
/-! a try with several clauses, each of which names what it caught -/
namespace Vf
open PySem PySem.Spec PyProof.Rows L2
/-- a clause: its class, its name's slot, the wish of its suite -/
structure Arm where
  cl : Value
  at_ : Nat
  su : Addr → Value → Option Addr → TS
/-- the clauses' wish of an error, the first that fits -/
def wArms (K : PySem.W.Frag) (D : Ends) (out : WX) : List Arm → WX
  | [] => out
  | ⟨c, j, su⟩ :: r => fun k d g G => ∃ yes, PySem.W.exmOne K k c = some yes ∧
      (yes = true → ∀ e, G e = none → su e k d { nx := fun f F => D.nx (f.set j none) F, rt := D.rt, bk := fun f F => D.bk (f.set j none) F, ct := fun f F => D.ct (f.set j none) F } (g.set j (some (.ref e))) G) ∧
      (yes = false → wArms K D out r k d g G)
inductive ArmsOk (X : Cx) : List ExceptHandler → List Arm → Prop
  | nil : ArmsOk X [] []
  | cons {x n : Str} {c : Value} {j : Nat} {su : Addr → Value → Option Addr → TS} {b : Stmt} {bs : List Stmt} {p1 p2 : Pos} {gs : List ExceptHandler} {l : List Arm}
      (slot : X.N[j]? = some n) (loc : X.env.kindOf n = some .local) (nm : Names X x c)
      (run : ∀ (e : Addr) (oe : Obj) (k : Value) (d : Option Addr) (pn : List (Addr × Obj)), Zc k d oe → (∃ vs, oe.data = .fields vs) → PSs (X.suite e ((e, oe) :: pn)) (b :: bs) (su e k d)) (more : ArmsOk X gs l) :
      ArmsOk X (.ExceptHandler (some (.Name x p1)) (some n) (b :: bs) p2 :: gs) (⟨c, j, su⟩ :: l)
section
variable {X : Cx} {body : List Stmt} {g₁ : ExceptHandler} {gs : List ExceptHandler} {l : List Arm} {pos : Pos} {tb : WX → TS} {out : WX}
/-- an object with fields is no frame -/
theorem no_frame {hp base : Heap} {env : Env} {outer : List Env} {e : Addr} {o : Obj} {vs : Array Value} (ff : hp.FunFrames base (env :: outer)) (at_ : hp.get? e = some o) (dd : o.data = .fields vs) : e ∉ frs (env :: outer) := by
  intro inF
  obtain ⟨_, o2, at2, nof⟩ := ff.mem inF
  cases at_.symm.trans at2
  exact nof vs dd
theorem ps_try_arms (e1 : X.stack = X.env :: X.outer) (e2 : X.env.frame = some X.env.locals) (nd : X.N.Nodup) (tko : Takes X out)
    (bd : ∀ (V : WX) (ps : List (Addr × Obj)) (xe : Value → Shared → Prop), Takes (X.tr ps xe) V → PassesOwn (model X.prog X.w) X.A X.env xe → PSs (X.tr ps xe) body (tb V))
    (am : ArmsOk X (g₁ :: gs) l) : PS X (.Try body (g₁ :: gs) [] [] pos) (fun D g G => tb (wArms X.K D out l) D g G) := by
  constructor
  intro pins s g G D I want
  have okX := I.ok
  have frX : X.A.frames = some (X.env :: X.outer) := okX.frames.trans (congrArg some e1)
  apply wpAny_Try_except
  refine wpAny_mono ((bd (wArms X.K D out l) (X.pn ++ pins) (fun u t₁ => wpAny (model X.prog X.w) X.A (noteFrame u X.env) (fun _ t₂ => wpAny (model X.prog X.w) X.A (setFlight u none)
    (fun _ t₃ => wpAny (model X.prog X.w) X.A (handleBy u X.env (g₁ :: gs)) (SP X pins D) X.xe t₃) X.xe t₂) X.xe t₁) ?caught PassesOwn.looking).run [] s g G D (I.toTry _) want) ?ended fun _ _ z => z
  case ended =>
    intro fl t hq
    cases fl with
    | next =>
      obtain ⟨g2, G2, J, q⟩ := hq
      exact wpAny_execs_nil ⟨g2, G2, J.ofTry okX, q⟩
    | brk => exact let ⟨g2, G2, J, q⟩ := hq; ⟨g2, G2, J.ofTry okX, q⟩
    | cont => exact let ⟨g2, G2, J, q⟩ := hq; ⟨g2, G2, J.ofTry okX, q⟩
    | ret u => exact let ⟨v, g2, G2, J, r, q⟩ := hq; ⟨v, g2, G2, J.ofTry okX, r, q⟩
  case caught =>
    rintro u t ⟨e, B, sI, pins2, g2, G2, k, d, rfl, JT, nb, up1, sky, nG, eos, bare, ask⟩
    have J : Inv X pins g2 G2 sI := JT.ofTry okX
    rw [show (X.tr (X.pn ++ pins) _).stack = X.env :: X.outer from e1] at sky
    refine Sky.land Zc.steady frX e2 sky fun h1 fly1 up2 => ?_
    have up12 := up1.trans up2
    have J1 : Inv X pins g2 G2 { t with heap := h1 } := J.landed nb fly1.1 up12 eos bare
    obtain ⟨o1, vs1, at1, z1, fd1⟩ := fly1.there
    have nF1 := no_frame fly1.2.2.1 at1 fd1
    have neL : e ≠ X.env.locals := by
      rintro rfl
      exact nF1 (List.mem_filterMap.mpr ⟨X.env, List.mem_cons_self, e2⟩)
    have neF : e ∉ X.fs := by
      intro inF
      obtain ⟨env2, in2, q⟩ := List.mem_filterMap.mp inF
      exact nF1 (List.mem_filterMap.mpr ⟨env2, List.mem_cons_of_mem _ in2, q⟩)
    have S1 := J1.suite at1 fd1 nG neL neF
    have all : ∀ {hs : List ExceptHandler} {ms : List Arm}, ArmsOk X hs ms → wArms X.K D out ms k d g2 G2 →
        wpAny (model X.prog X.w) X.A (handleBy (.ref e) X.env hs) (SP X pins D) X.xe { t with heap := h1 } := by
      intro hs ms ok
      induction ok with
      | nil =>
        intro ask
        apply wpAny_handleBy_nil
        obtain ⟨_, _, _, o3, vs3, T3, oT3, ts3, at3, _, fd3, trc, _⟩ := id fly1
        unfold PySem.passOn
        refine wpAny_bind (wpAny_field at3 fd3 trc ?_)
        have nn : ¬ ((Value.ref T3 == Value.none) = true) := by simp
        rw [if_neg nn]
        have up : wpAny (model X.prog X.w) X.A (setFlight (.ref e) X.env.frame) (fun _ t4 => wpAny (model X.prog X.w) X.A (throw (.ref e) : Sem Flow) (SP X pins D) X.xe t4) X.xe { t with heap := h1 } := by
          rw [e2]
          refine HandSPX.setFlight_upZ fly1 fun h4 held4 up4 => wpAny_throw (tko _ _ ?_)
          refine ⟨e, B, sI, pins, g2, G2, k, d, rfl, J, nb, up12.trans up4, .inr (.inr ?_), nG, eos, bare, ask⟩
          rw [e1]
          exact held4
        first
          | exact wpAny_bind (wpAny_pure (wpAny_bind up))
          | exact wpAny_bind up
      | @cons x n c j su b bs p1 p2 rest ms2 slot loc nm run more ih =>
        rintro ⟨yes, fits, hy, hn⟩
        refine wpAny_handleBy_cons (codeAny_handlers_test ?_) (fun q => by cases q)
        have ty : PySem.W.Looks (model X.prog X.w) h1 (typeOf (.ref e)) k := fun A Q E s m q => wpAny_typeOf_ref (m _ _ at1) (by rw [z1.1]; exact q)
        have look := PySem.W.exm_one (M := model X.prog X.w) J1.kIn ty fits
        have named : ∀ {Q E : Value → Shared → Prop}, Q c { t with heap := h1 } →
            wpAny (model X.prog X.w) (X.A.mark (some (.ref e))) (eval (.Name x p1) X.env) Q E { t with heap := h1 } := by
          intro Q E q
          obtain ⟨gl, dbg, own | ⟨nown, blt, nn⟩⟩ := nm
          · exact ld_glob (X := X.suite e ((e, o1) :: (X.pn ++ pins))) S1 gl own q dbg
          · exact ld_blt (X := X.suite e ((e, o1) :: (X.pn ++ pins))) S1 gl nown blt q nn dbg
        refine named (look.here ?_)
        cases yes with
        | false => exact ih (hn rfl)
        | true =>
          apply codeAny_handlers_suite_as
          refine HandSPX.lands_againZ fly1 fun h4 fly4 up4 => ?_
          have J4 : Inv X pins g2 G2 { t with heap := h4 } := J.landed nb fly4.1 (up12.trans up4) eos bare
          obtain ⟨o4, vs4, at4, z4, fd4⟩ := fly4.there
          refine store_ok (X := X.suite e ((e, o4) :: (X.pn ++ pins))) (v := .ref e) (J4.suite at4 fd4 nG neL neF) nd slot (.inl loc) rfl (fun t5 S5 => ?_) (.inr loc)
          refine wpAny_mono ((run e o4 k d (X.pn ++ pins) z4 ⟨vs4, fd4⟩).run [] t5 _ G2 _ S5 (hy rfl e nG)) ?_ fun _ _ z => z.elim
          intro fl t6 hq
          have gone : ∀ {g6 : L2.St} {G6 : Hp} {Q : Shared → Prop}, Inv (X.suite e ((e, o4) :: (X.pn ++ pins))) [] g6 G6 t6 → (∀ t7, Inv X pins (g6.set j none) G6 t7 → Q t7) →
              wpAny (model X.prog X.w) X.A (do bindName X.env n .none; unbindBehindTheSuite X.env n p2) (fun _ t7 => Q t7) X.xe t6 := by
            intro g6 G6 Q S6 hQ
            exact gone_ok (S6.unsuite okX) nd slot loc hQ
          cases fl with
          | next => exact let ⟨_, _, S6, q⟩ := hq; gone S6 fun t7 J7 => ⟨_, _, J7, q⟩
          | brk => exact let ⟨_, _, S6, q⟩ := hq; gone S6 fun t7 J7 => ⟨_, _, J7, q⟩
          | cont => exact let ⟨_, _, S6, q⟩ := hq; gone S6 fun t7 J7 => ⟨_, _, J7, q⟩
          | ret u => exact let ⟨_, _, _, S6, r, q⟩ := hq; gone S6 fun t7 J7 => ⟨_, _, _, J7, r, q⟩
    exact all am ask
end
/-- a clause of another class does not fit -/
theorem exm_no {K : PySem.W.Frag} {C D : Addr} (h : PySem.W.exmOne K (.ref C) (.ref C) = some true) (n : PySem.W.kitOne K (.ref D) (.ref C) = some false) : PySem.W.exmOne K (.ref D) (.ref C) = some false := by
  unfold PySem.W.kitOne at n
  unfold PySem.W.exmOne at h ⊢
  split at h
  · rename_i q
    rw [if_pos q]
    split at n
    · cases n
    · exact n
  · cases h
/-! rows that are sorted; words of faults as data -/
theorem sort_le {rs : List Run} {i : Nat} {x y : Run} (hx : (rs.mergeSort fun a b => decide (a.1 ≤ b.1))[i]? = some x) (hy : (rs.mergeSort fun a b => decide (a.1 ≤ b.1))[i + 1]? = some y) : x.1 ≤ y.1 := by
  have h := List.pairwise_mergeSort (le := fun a b : Run => decide (a.1 ≤ b.1)) (fun a b c h1 h2 => by simp at *; omega) (fun a b => by simp; omega) rs
  obtain ⟨i1, rfl⟩ := List.getElem?_eq_some_iff.mp hx
  obtain ⟨i2, rfl⟩ := List.getElem?_eq_some_iff.mp hy
  have := List.pairwise_iff_getElem.mp h i (i + 1) i1 i2 (by omega)
  simpa using this
theorem run_lay {r : Run} (w : OptW r.2.2) : (runD r).canLay0 = true ∧ (runD r).depth ≤ 3 := by
  have h := val_lay w
  obtain ⟨f, u, v⟩ := r
  constructor
  · have := h.1
    cases u <;> simp [PyData.canLayAll0, PyData.canLay0, runD, optD] <;> exact this
  · have := h.2
    simp only at this
    cases u <;> simp [PyData.depthAll, PyData.depth, runD, optD] <;> omega
theorem run_self {r : Run} (w : OptW r.2.2) : PyData.eqv (runD r) (runD r) = true := by
  rw [run_eqv w w]
  simp
theorem opt_lay (u : Option Int) : (optD u).canLay0 = true ∧ (optD u).depth ≤ 3 := by
  cases u <;> simp [optD, PyData.canLay0, PyData.depth]
theorem opt_self (u : Option Int) : PyData.eqv (optD u) (optD u) = true := by
  rw [opt_eqv]
  simp
theorem int_lay (i : Int) : (PyData.int i).canLay0 = true ∧ (PyData.int i).depth ≤ 3 := by simp [PyData.canLay0, PyData.depth]
theorem fault4 {w : Str} {a b : PyData} (hw : PyData.strOk w = true) (la : a.canLay0 = true ∧ a.depth ≤ 3) (lb : b.canLay0 = true ∧ b.depth ≤ 3) (ea : PyData.eqv a a = true) (eb : PyData.eqv b b = true) :
    SeqAt.shaped (.tuple [.str w, a, b, .bool true]) = true ∧ PyData.eqv (.tuple [.str w, a, b, .bool true]) (.tuple [.str w, a, b, .bool true]) = true := by
  obtain ⟨a1, a2⟩ := la
  obtain ⟨b1, b2⟩ := lb
  constructor
  · simp [SeqAt.shaped, PyData.canLay0, PyData.canLayAll0, PyData.depth, PyData.depthAll, hw, a1, b1]
    omega
  · simp [PyData.eqv, PyData.eqvAll, ea, eb]
theorem fault3 {w : Str} {a b : PyData} (hw : PyData.strOk w = true) (la : a.canLay0 = true ∧ a.depth ≤ 3) (lb : b.canLay0 = true ∧ b.depth ≤ 3) (ea : PyData.eqv a a = true) (eb : PyData.eqv b b = true) :
    SeqAt.shaped (.tuple [.str w, a, b]) = true ∧ PyData.eqv (.tuple [.str w, a, b]) (.tuple [.str w, a, b]) = true := by
  obtain ⟨a1, a2⟩ := la
  obtain ⟨b1, b2⟩ := lb
  constructor
  · simp [SeqAt.shaped, PyData.canLay0, PyData.canLayAll0, PyData.depth, PyData.depthAll, hw, a1, b1]
    omega
  · simp [PyData.eqv, PyData.eqvAll, ea, eb]
theorem run_dp {K : PySem.W.Frag} {H : Hp} {t : Addr} {r : Run} (ht : H t = some (.tup (runV r))) (w : OptW r.2.2) : Dp K H (.ref t) (runD r) := by
  have := runs_dpA (K := K) (RunsAt.one ht) (fun x hx => by rw [List.mem_singleton] at hx; subst hx; exact w)
  cases this with
  | cons a _ => exact a
/-- a list that is told twice by the same runs -/
theorem r_neRuns {K : PySem.W.Frag} {H : Hp} {Q : VK} {p q : Addr} {xs ys : List V} {rs : List Run} (hp : H p = some (.lst xs)) (h : RunsAt H xs rs) (hq : H q = some (.lst ys)) (g : RunsAt H ys rs) (w : ∀ r ∈ rs, OptW r.2.2) (k : Q (.bl false) H) : rNeD K (.ref p) (.ref q) H Q := by
  refine r_neDs (runs_dp hp h w) (runs_dp hq g w) (runs_shaped w) ?_ k
  simp only [PyData.eqv]
  rw [runs_eqv w w]
  simp
theorem r_catT {K : PySem.W.Frag} {H : Hp} {Q : VK} {a b : Addr} {xs ys : List V} (h : H a = some (.tup xs)) (g : H b = some (.tup ys)) (nx : xs ≠ []) (ny : ys ≠ []) (hz : xs.length + ys.length ≤ sizeLine)
    (k : ∀ p H', H p = none → Ex H H' → H' p = some (.tup (xs ++ ys)) → Q (.ref p) H') : rCatT K (.ref a) (.ref b) H Q :=
  ⟨a, b, xs, ys, rfl, rfl, SqT.of h, SqT.of g, nx, hz, fun e => absurd e ny, fun _ p hp => k p _ hp (Ex.new hp) upd_same⟩
theorem cutV_pre {xs : List V} {j : Nat} : cutV xs none (some (j : Int)) = xs.take j := by
  unfold cutV
  rw [HT.sIx_nat, HT.sIx_none]
  simp only [List.drop_zero, Nat.sub_zero]
  rcases Nat.le_total j xs.length with q | q
  · rw [Nat.min_eq_left q]
  · rw [Nat.min_eq_right q, List.take_of_length_le (Nat.le_refl _), List.take_of_length_le q]
theorem cutV_suf {xs : List V} {j : Nat} : cutV xs (some (j : Int)) none = xs.drop j := by
  unfold cutV
  rw [HT.sIx_nat, HT.sIx_none]
  rcases Nat.le_total j xs.length with q | q
  · rw [Nat.min_eq_left q, List.take_of_length_le (by simp)]
  · rw [Nat.min_eq_right q, List.drop_of_length_le q]
    simp
end Vf
set_option maxHeartbeats 2000000
/-! C(e, .., k = v) where __init__ takes the rest in a star; it may raise, in a try -/
namespace Vf
open PySem PySem.Spec PyProof.Rows L2 StX
def tMakeRS (C : Addr) (m : Nat) (sp : SpK) (E : L2.St → XK) (t tk : TA) : TE := fun g G Q => t g G fun vs G1 => tk g G1 fun zs G2 => zs.length = m ∧ ∀ x dx, G2 x = Option.none → G2 dx = Option.none → dx ≠ x →
  sp (V.ref x :: vs) zs (upd (upd G2 dx (.own x)) x (.ins C dx [])) (fun v G3 => v = .non ∧ Q (.ref x) G3) (E g)
section
variable {X : Cx} {CX : CXT} {k : Nat} {f C : Addr} {ks : List Str} {sp : SpK} {E : L2.St → XK} {x : Str} {p pos : Pos} {e : Expr} {es : List Expr} {kws : List Keyword} {t tk : TA}
theorem run_makeRS {pins : List (Addr × Obj)} {g : L2.St} {G : Hp} {s : Shared} {Q : VK} {E1 : XK} {us ws : List Value} {vs zs : List V} (M : Mk X.K C f) (F : FnRK X.prog X.w X.K X.mg X.base CX k f ks sp) (hr : Room (k + 1) X.A) (hx : PassesAt CX X g E1) (I : Inv X pins g G s) (r : Vals vs us) (rz : Vals zs ws) (hl : zs.length = ks.length)
    (h : ∀ x dx, G x = Option.none → G dx = Option.none → dx ≠ x → sp (V.ref x :: vs) zs (upd (upd G dx (.own x)) x (.ins C dx [])) (fun v G2 => v = .non ∧ Q (.ref x) G2) E1) :
    wpAny (model X.prog X.w) X.A (call (.ref C) us (ks.zip ws)) (EP X pins g Q) X.xe s := by
  have J := Inv.made (C := C) I
  have goal := h (s.heap.objs.size + 1) s.heap.objs.size (I.hok.fresh (Nat.le_succ _)) (I.hok.fresh (Nat.le_refl _)) (Nat.ne_of_lt (Nat.lt_succ_self _))
  have rs : Vals (V.ref (s.heap.objs.size + 1) :: vs) (Value.ref (s.heap.objs.size + 1) :: us) := .cons rfl r
  have run := F _ X.stack _ _ (Value.ref (s.heap.objs.size + 1) :: us) ws _ _ _ E1 (hr.make C us (ks.zip ws)) (J.env0.make C us (ks.zip ws)) rs rz hl goal
  refine wpAny_call (make_map (f := f) I.kIn M.makes M.init (beq_iff_eq.mp M.fn) (codeAny_mono run ?_))
  rintro (er | fl) s2 hq
  · exact hx pins _ _ er s2 J hq
  · cases fl with
    | next => exact hq.elim
    | brk => exact hq.elim
    | cont => exact hq.elim
    | ret u =>
      obtain ⟨v, G3, J3, rv, rfl, q3⟩ := J.after hq
      exact ⟨rv, ⟨V.ref (s.heap.objs.size + 1), G3, J3, rfl, q3⟩⟩
theorem pe_makeRS (M : Mk X.K C f) (F : FnRK X.prog X.w X.K X.mg X.base CX k f ks sp) (hr : Room (k + 1) X.A) (hg : Gl X x) (hm : X.mg x = some (.ref C)) (hx : ∀ g, PassesAt CX X g (E g)) (ha : PA X (e :: es) t) (hkw : PK X kws tk) (hdb : (x == ("__debug__" : Str)) = false := by decide)
    (hall : (backToKw pos (keywordEach kws X.env)).all (·.1.isSome) = true := by rfl) (hks : (backToKw pos (keywordEach kws X.env)).filterMap (·.1) = ks := by rfl)
    (he : starEach (e :: es) X.env = (false, eval e X.env) :: starEach es X.env := by rfl) (hpl : ((backTo pos (starEach (e :: es) X.env)).any (·.1) || (backToKw pos (keywordEach kws X.env)).any (·.1.isNone)) = false := by rfl) :
    PE X (.Call (.Name x p) (e :: es) kws pos) (tMakeRS C ks.length sp E t tk) := by
  constructor
  intro pins s g G Q I want
  apply wpAny_Call_Name_kw
  refine ld_glob I hg hm (PySem.W.callWith_KW (h₀ := X.base) I.ok.mod.kin M.kp hall (thn (ha.run pos pins s g G _ I want) ?_) hpl he) hdb
  rintro us s1 ⟨vs, G1, I1, r, q⟩
  refine thn (hkw.run pos pins s1 g G1 _ I1 q) ?_
  rintro ws s2 ⟨zs, G2, I2, rz, hl, q2⟩
  rw [hks]
  exact ⟨I2.kIn, run_makeRS M F hr (hx g) I2 r rz hl q2⟩
theorem pe_makeRS0 (M : Mk X.K C f) (F : FnRK X.prog X.w X.K X.mg X.base CX k f ks sp) (hr : Room (k + 1) X.A) (hg : Gl X x) (hm : X.mg x = some (.ref C)) (hx : ∀ g, PassesAt CX X g (E g)) (hkw : PK X kws tk) (hdb : (x == ("__debug__" : Str)) = false := by decide)
    (hall : (backToKw pos (keywordEach kws X.env)).all (·.1.isSome) = true := by rfl) (hks : (backToKw pos (keywordEach kws X.env)).filterMap (·.1) = ks := by rfl)
    (hpl : ((backTo pos (starEach [] X.env)).any (·.1) || (backToKw pos (keywordEach kws X.env)).any (·.1.isNone)) = false := by rfl) :
    PE X (.Call (.Name x p) [] kws pos) (tMakeRS C ks.length sp E tNil tk) := by
  constructor
  intro pins s g G Q I want
  apply wpAny_Call_Name_kw
  refine ld_glob I hg hm (PySem.W.callWith_KW0 (h₀ := X.base) I.ok.mod.kin M.kp hall (thn (hkw.run pos pins s g G _ I want) ?_) hpl) hdb
  rintro ws s2 ⟨zs, G2, I2, rz, hl, q2⟩
  rw [hks]
  exact ⟨I2.kIn, run_makeRS (us := []) (vs := []) M F hr (hx g) I2 .nil rz hl q2⟩
end
theorem r_makeRS {C : Addr} {m : Nat} {sp : SpK} {E : L2.St → XK} {t tk : TA} {g : L2.St} {G : Hp} {Q : VK} (q : t g G fun vs G1 => tk g G1 fun zs G2 => zs.length = m ∧ ∀ x dx, G2 x = Option.none → G2 dx = Option.none → dx ≠ x →
  sp (V.ref x :: vs) zs (upd (upd G2 dx (.own x)) x (.ins C dx [])) (fun v G3 => v = .non ∧ Q (.ref x) G3) (E g)) : tMakeRS C m sp E t tk g G Q := q
theorem r_makeKN {C : Addr} {n m : Nat} {sp : Sp} {gV : List V → List V → List V} {E : XK} {t tk : TA} {g : L2.St} {G : Hp} {Q : VK} (q : t g G fun vs G1 => tk g G1 fun zs G2 => vs.length = n ∧ zs.length = m ∧ ∀ x dx, G2 x = Option.none → G2 dx = Option.none → dx ≠ x →
  sp (gV (V.ref x :: vs) zs) (upd (upd G2 dx (.own x)) x (.ins C dx [])) (fun v G3 => v = .non ∧ Q (.ref x) G3) E) : L2.tMakeN C n m sp gV E t tk g G Q := q
theorem op_eqDK {X : Cx} {K0 : PySem.W.Frag} (hu : X.A.units + 64 < cLine) (hK : X.K = K0 := by rfl) : OpR X (compareOp .Eq) (rEqD K0) := hK ▸ op_eqD hu
theorem r_eqDs {K : PySem.W.Frag} {H : Hp} {Q : VK} {x y : V} {d : PyData} (h1 : Dp K H x d) (h2 : Dp K H y d) (sh : SeqAt.shaped d = true) (e : PyData.eqv d d = true) (q : Q (.bl true) H) : rEqD K x y H Q := ⟨d, d, h1, h2, sh, sh, by rw [e]; exact q⟩
theorem cutV_but {xs : List V} {x : V} : cutV (xs ++ [x]) none (some (-1)) = xs := by
  unfold cutV
  have h : HT.sIx (xs ++ [x]).length (xs ++ [x]).length (some (-1)) = xs.length := by
    show (if (-1 : Int) < 0 then ((-1 : Int) + ((xs ++ [x]).length : Int)).toNat else min (-1 : Int).toNat (xs ++ [x]).length) = xs.length
    rw [if_pos (by decide), List.length_append, List.length_singleton]
    omega
  rw [h, HT.sIx_none]
  simp
theorem cutV_end {xs : List V} {x : V} : cutV (xs ++ [x]) (some (-1)) none = [x] := by
  unfold cutV
  have h : HT.sIx (xs ++ [x]).length 0 (some (-1)) = xs.length := by
    show (if (-1 : Int) < 0 then ((-1 : Int) + ((xs ++ [x]).length : Int)).toNat else min (-1 : Int).toNat (xs ++ [x]).length) = xs.length
    rw [if_pos (by decide), List.length_append, List.length_singleton]
    omega
  rw [h, HT.sIx_none]
  simp
theorem cutV_end0 : cutV [] (some (-1)) none = [] := by
  unfold cutV
  simp
/-! rows with one of them changed -/
theorem split_at {rs : List Run} {i : Nat} {r : Run} (h : rs[i]? = some r) : rs = rs.take i ++ [r] ++ rs.drop (i + 1) := by
  obtain ⟨hi, rfl⟩ := List.getElem?_eq_some_iff.mp h
  rw [List.append_assoc, List.singleton_append, ← List.drop_eq_getElem_cons hi, List.take_append_drop]
theorem asc_head {r : Run} {B : List Run} (a : AscS (r :: B)) : AscS ((r.1 - 1, r.2.1, r.2.2) :: B) := by
  refine ⟨fun x hx n e => ?_, ?_⟩
  · rcases List.mem_cons.mp hx with rfl | hx
    · have := a.1 r List.mem_cons_self n e
      show r.1 - 1 < n
      omega
    · exact a.1 x (List.mem_cons_of_mem _ hx) n e
  · obtain ⟨h1, h2⟩ := List.pairwise_cons.mp a.2
    exact List.pairwise_cons.mpr ⟨fun y hy => h1 y hy, h2⟩
theorem asc_tail {A : List Run} {r : Run} {u : Option Int} {v : V} (a : AscS (A ++ [r])) (h : ∀ n, u = some n → r.1 < n) : AscS (A ++ [(r.1, u, v)]) := by
  refine ⟨fun x hx n e => ?_, ?_⟩
  · rcases List.mem_append.mp hx with hx | hx
    · exact a.1 x (List.mem_append_left _ hx) n e
    · rw [List.mem_singleton] at hx
      subst hx
      exact h n e
  · obtain ⟨h1, h2, h3⟩ := List.pairwise_append.mp a.2
    refine List.pairwise_append.mpr ⟨h1, List.pairwise_singleton _ _, fun x hx y hy => ?_⟩
    rw [List.mem_singleton] at hy
    subst hy
    exact h3 x hx r (List.mem_singleton.mpr rfl)
theorem swap_ne {A B : List Run} {r r' : Run} (h : r' ≠ r) : A ++ [r'] ++ B ≠ A ++ [r] ++ B := fun e => h (by simpa using e)
theorem asc_erase {rs : List Run} {i : Nat} (a : AscS rs) : AscS (rs.take i ++ rs.drop (i + 1)) := by
  rw [← List.eraseIdx_eq_take_drop_succ]
  exact sub_asc a (List.eraseIdx_sublist _ _)
/-- the last row in two -/
def partL (A : List Run) (f : Int) (m : Option Int) (v : V) : List Run := A ++ [(f, some (f + 1), v), (f + 1, m, v)]
theorem part_asc {A : List Run} {f : Int} {m : Option Int} {v : V} (a : AscS (A ++ [(f, m, v)])) (h : ∀ n, m = some n → f + 1 < n) : AscS (partL A f m v) := by
  obtain ⟨h1, h2, h3⟩ := List.pairwise_append.mp a.2
  refine ⟨fun x hx n e => ?_, List.pairwise_append.mpr ⟨h1, ?_, fun x hx y hy => ?_⟩⟩
  · rcases List.mem_append.mp hx with hx | hx
    · exact a.1 x (List.mem_append_left _ hx) n e
    · simp only [List.mem_cons, List.not_mem_nil, or_false] at hx
      rcases hx with rfl | rfl
      · cases e
        show f < f + 1
        omega
      · exact h n e
  · refine List.pairwise_cons.mpr ⟨fun y hy => ?_, List.pairwise_singleton _ _⟩
    rw [List.mem_singleton] at hy
    subst hy
    exact ⟨f + 1, rfl, Int.le_refl _⟩
  · obtain ⟨n, e, hn⟩ := h3 x hx (f, m, v) (List.mem_singleton.mpr rfl)
    refine ⟨n, e, ?_⟩
    simp only [List.mem_cons, List.not_mem_nil, or_false] at hy
    have hn : n ≤ f := hn
    rcases hy with rfl | rfl
    · exact hn
    · show n ≤ f + 1
      omega
theorem part_join {A : List Run} {f : Int} {m : Option Int} {v : V} (a : AscS (A ++ [(f, m, v)])) (h : ∀ n, m = some n → f + 1 < n) : joinS (partL A f m v) = joinS (A ++ [(f, m, v)]) := by
  have b := part_asc a h
  unfold joinS
  congr 1
  refine norm_one (tab_norm b) (tab_norm a) fun d => ?_
  rw [tab_look b, tab_look a]
  have la := asc_last a
  have lb := asc_last b
  have mA : ∀ x ∈ A, lastR x ∈ (A ++ [(f, m, v)]).map lastR ∧ lastR x ∈ (partL A f m v).map lastR := fun x hx => ⟨List.mem_map_of_mem (List.mem_append_left _ hx), List.mem_map_of_mem (List.mem_append_left _ hx)⟩
  by_cases hA : ∃ x ∈ A, hasD (lastR x) d = true
  · obtain ⟨x, hx, hd⟩ := hA
    rw [look_mem la (mA x hx).1 hd, look_mem lb (mA x hx).2 hd]
  · by_cases hr : hasD (lastR (f, m, v)) d = true
    · rw [look_mem la (List.mem_map_of_mem (by simp)) hr]
      obtain ⟨g1, g2⟩ := has_last.mp hr
      have g1 : f ≤ d := g1
      by_cases hd : d < f + 1
      · exact look_mem lb (r := lastR (f, some (f + 1), v)) (List.mem_map_of_mem (by simp [partL])) (has_last.mpr ⟨g1, fun n e => by cases e; exact hd⟩)
      · refine look_mem lb (r := lastR (f + 1, m, v)) (List.mem_map_of_mem (by simp [partL])) (has_last.mpr ⟨?_, g2⟩)
        show f + 1 ≤ d
        omega
    · rw [look_no, look_no]
      · intro x hx
        obtain ⟨y, hy, rfl⟩ := List.mem_map.mp hx
        rcases List.mem_append.mp hy with hy | hy
        · exact Bool.eq_false_iff.mpr fun z => hA ⟨y, hy, z⟩
        · rw [List.mem_singleton] at hy
          subst hy
          exact Bool.eq_false_iff.mpr hr
      · intro x hx
        obtain ⟨y, hy, rfl⟩ := List.mem_map.mp hx
        rcases List.mem_append.mp hy with hy | hy
        · exact Bool.eq_false_iff.mpr fun z => hA ⟨y, hy, z⟩
        · refine Bool.eq_false_iff.mpr fun z => hr (has_last.mpr ?_)
          obtain ⟨g1, g2⟩ := has_last.mp z
          simp only [List.mem_cons, List.not_mem_nil, or_false] at hy
          rcases hy with rfl | rfl
          · have g1 : f ≤ d := g1
            have := g2 (f + 1) rfl
            refine ⟨g1, fun n e => ?_⟩
            have := h n e
            omega
          · have g1 : f + 1 ≤ d := g1
            exact ⟨by show f ≤ d; omega, g2⟩
end Vf
set_option maxHeartbeats 2000000
/-! operations: a local name that holds one of several defs; the rows an operation names, the stretches it gives -/
namespace Vf
open PySem PySem.Spec PyProof.Rows L2 StX
/-- a def that keeps a promise at a level up to n -/
structure HeldG (P : Program) (w : World) (K : PySem.W.Frag) (mg : Str → Option Value) (base : Heap) (n : Nat) (f : Addr) (sp : Sp) : Prop where
  ex : ∃ (k : Nat) (fd : FuncData) (ps : List Str), k ≤ n ∧ FnOk P w K mg base CX0 k f fd ps sp ∧ PySem.W.keepIn K (.ref f) = true ∧ Binds K fd ps []
theorem held_mk {P : Program} {w : World} {K : PySem.W.Frag} {mg : Str → Option Value} {base : Heap} {n k : Nat} {f : Addr} {sp : Sp} {fd : FuncData} {ps : List Str} (F : FnOk P w K mg base CX0 k f fd ps sp) (keep : PySem.W.keepIn K (.ref f) = true) (b : Binds K fd ps []) (h : k ≤ n) : HeldG P w K mg base n f sp := ⟨k, fd, ps, h, F, keep, b⟩
def tCallG (i : Nat) (Good : Addr → Sp → Prop) (t : TA) : TE := fun g G Q => ∃ f sp, g[i]? = some (some (.ref f)) ∧ Good f sp ∧ t g G fun vs G1 => sp vs G1 Q E0
section
variable {X : Cx} {n i : Nat} {x : Str} {p pos : Pos} {e : Expr} {es : List Expr} {t : TA} {Good : Addr → Sp → Prop}
theorem pe_callG (A : ∀ f sp, Good f sp → HeldG X.prog X.w X.K X.mg X.base n f sp) (hr : Room n X.A) (hN : X.N[i]? = some x) (hv : Vis X.env.scope x) (ha : PA X (e :: es) t) (hdb : (x == ("__debug__" : Str)) = false := by decide) (hcd : (x == ("__classdict__" : Str)) = false := by decide)
    (he : starEach (e :: es) X.env = (false, eval e X.env) :: starEach es X.env := by rfl) (hpl : (backTo pos (starEach es X.env)).any (·.1) = false := by rfl) : PE X (.Call (.Name x p) (e :: es) [] pos) (tCallG i Good t) := by
  constructor
  intro pins s g G Q I want
  obtain ⟨f, sp, at_, good, rest⟩ := want
  obtain ⟨k, fd, ps, kn, F, keep, bs⟩ := (A f sp good).ex
  refine (pe_callL (i := i) (f := f) (sp := sp) (dvs := []) (E := E0) F (hr.mono kn) hN hv keep bs .nil pass0 ha hdb hcd he hpl).run pins s g G Q I ⟨at_, ?_⟩
  simpa only [List.append_nil] using rest
end
theorem r_callG {i : Nat} {Good : Addr → Sp → Prop} {t : TA} {g : L2.St} {G : Hp} {Q : VK} {f : Addr} {sp : Sp} (at_ : g[i]? = some (some (.ref f))) (good : Good f sp) (q : t g G fun vs G1 => sp vs G1 Q E0) : tCallG i Good t g G Q := ⟨f, sp, at_, good, q⟩
/-! ### the rows that an operation names; the rows hold their stops -/
def nmNext (ts : List Run) (d : Int) : List Run := (ts.filter fun r => decide (d < r.1)).take 1
def nmBearer (ts : List Run) (d : Int) : List Run := ts.filter fun r => bears r.1 r.2.1 d
def nmBefore (ts : List Run) (d : Int) : List Run := match ts.findIdx? (fun r => bears r.1 r.2.1 d) with
  | none => []
  | some i => (ts.drop (i - 1)).take (i + 1 - (i - 1))
def nmBorder : List Run → Int → List Run
  | x :: y :: t, d => if x.2.1 = some d ∧ y.1 = d then [x, y] else nmBorder (y :: t) d
  | _, _ => []
def nameR (w : Str) (ts : List Run) (d : Int) : List Run :=
  if w = "fill" then nmNext ts d else if w = "take" then nmBearer ts d else if w = "give" then nmBefore ts d else if w = "move" then nmBorder ts d else []
/-! ### the stretches that an operation gives -/
def gvFill (rs : List Run) (d : Int) (v : V) : List Run := [(d, rs.head?.map fun r => r.1 - 1, v)]
def gvTake : List Run → Option (List Run)
  | [] => none
  | r :: _ => some [(r.1, r.2.1.map (· - 1), .non)]
def gvOn : List Run → Option (List Run)
  | [x, y] => some [((x.2.1).getD 0, y.2.1.map (· - 1), x.2.2)]
  | rs => gvTake rs
def gvMove (rs : List Run) (d e : Int) : Option (List Run) := match rs with
  | [x, y] => if e ≤ x.1 ∨ ¬ (e < d ∨ bears y.1 y.2.1 e = true) then none else if e < d then some [(e, some (d - 1), y.2.2)] else if d < e then some [(d, some (e - 1), x.2.2)] else some []
  | _ => none
def giveW (w : Str) (rs : List Run) (d : Int) (e : Option Int) (v : V) : Option (List Run) :=
  if w = "set" then some [(d, none, v)] else if w = "end" then some [(d, none, .non)] else if w = "fill" then some (gvFill rs d v)
  else if w = "between" then (if d ≤ e.getD 0 then some [(d, e, v)] else none) else if w = "clear" then (if d ≤ e.getD 0 then some [(d, e, .non)] else none)
  else if w = "take" then gvTake rs else if w = "give" then gvOn rs else gvMove rs d (e.getD 0)
def givenR (w : Str) (td : Bool) (ts : List Run) (d : Int) (e : Option Int) (v : V) : Option (List Run) := if e.isSome = td then giveW w (nameR w ts d) d e v else none
/-- the wish of a def that names rows -/
def spNamer (C : Addr) (g : List Run → Int → List Run) : Sp := fun vs H Q _ => ∃ (p l : Addr) (d : Int) (ts : List Run) (s : Str), vs = [.ref p, .int d] ∧ (∃ dx xs, H p = some (.ins C dx [("ends", .str s), ("_rows", .ref l)]) ∧ H l = some (.lst xs) ∧ RunsAt H xs (ts.map (writR s))) ∧ AscS ts ∧ ts.length ≤ 100000 ∧
  ∀ D H' ns, Ex H H' → H' D = some (.lst ns) → RunsAt H' ns ((g ts d).map (writR s)) → Q (.ref D) H'
/-- what is told where rows may be given or none -/
def GivesW (o : Option (List Run)) (H : Hp) (Q : VK) : Prop := match o with
  | none => ∀ H', Ex H H' → Q .non H'
  | some rs => ∀ t H' ys, Ex H H' → H' t = some (.lst ys) → RunsAt H' ys rs → Q (.ref t) H'
/-- the wish of a def that gives stretches -/
def spGiver (ok : List Run → Option Int → Prop) (g : List Run → Int → Option Int → V → Option (List Run)) : Sp := fun vs H Q _ => ∃ (D : Addr) (s : Str) (d : Int) (e : Option Int) (v : V) (ns : List V) (rs : List Run), vs = [.ref D, .str s, .int d, optI e, v] ∧ H D = some (.lst ns) ∧ RunsAt H ns (rs.map (writR s)) ∧ rs.length ≤ 100000 ∧ ok rs e ∧ GivesW (g rs d e v) H Q
theorem GivesW.ex {o : Option (List Run)} {H H' : Hp} {Q : VK} (g : GivesW o H Q) (e : Ex H H') : GivesW o H' Q := by
  cases o with
  | none => exact fun H2 e2 => g H2 (e.trans e2)
  | some rs => exact fun t H2 ys e2 => g t H2 ys (e.trans e2)
theorem bears_iff {f : Int} {st : Option Int} {d : Int} : bears f st d = true ↔ f ≤ d ∧ ∀ n, st = some n → d < n := by
  unfold bears
  cases st <;> simp
/-- the row before the row that bears the day, in the law's words: the last one that has ended -/
def beforeR (ts : List Run) (d : Int) : Option Run := (ts.filter fun r => match r.2.1 with | some n => decide (n ≤ d) | none => false).getLast?
theorem nmBorder_len : ∀ {ts : List Run} {d : Int}, nmBorder ts d = [] ∨ (nmBorder ts d).length = 2
  | [], _ => .inl rfl
  | [_], _ => .inl rfl
  | x :: y :: t, d => by
    unfold nmBorder
    by_cases h : x.2.1 = some d ∧ y.1 = d
    · rw [if_pos h]; exact .inr rfl
    · rw [if_neg h]; exact nmBorder_len
theorem nmBefore_len {ts : List Run} {d : Int} : (nmBefore ts d).length ≤ 2 := by
  unfold nmBefore
  split
  · simp
  · rw [List.length_take]
    omega
theorem nmBefore_two {ts : List Run} {d : Int} (a : AscS ts) : ∀ x y, nmBefore ts d = [x, y] → ∃ n, x.2.1 = some n := by
  intro x y h
  unfold nmBefore at h
  split at h
  · cases h
  · rename_i i hi
    have h0 : ((ts.drop (i - 1)).take (i + 1 - (i - 1)))[0]? = some x := by rw [h]; rfl
    have h1 : ((ts.drop (i - 1)).take (i + 1 - (i - 1)))[1]? = some y := by rw [h]; rfl
    rw [List.getElem?_take_of_lt (by omega), List.getElem?_drop] at h0
    have hlt : 1 < i + 1 - (i - 1) := by
      rcases Nat.lt_or_ge 1 (i + 1 - (i - 1)) with q | q
      · exact q
      · have := congrArg List.length h
        rw [List.length_take] at this
        simp at this
        omega
    rw [List.getElem?_take_of_lt hlt, List.getElem?_drop] at h1
    obtain ⟨i1, rfl⟩ := List.getElem?_eq_some_iff.mp h0
    obtain ⟨i2, rfl⟩ := List.getElem?_eq_some_iff.mp h1
    obtain ⟨n, e, _⟩ := List.pairwise_iff_getElem.mp a.2 _ _ i1 i2 (by omega)
    exact ⟨n, e⟩
theorem nameR_len {w : Str} {ts : List Run} {d : Int} : (nameR w ts d).length ≤ ts.length + 2 := by
  unfold nameR
  split
  · have := List.length_filter_le (fun r : Run => decide (d < r.1)) ts
    unfold nmNext
    rw [List.length_take]
    omega
  split
  · have := List.length_filter_le (fun r : Run => bears r.1 r.2.1 d) ts
    unfold nmBearer
    omega
  split
  · have := nmBefore_len (ts := ts) (d := d)
    omega
  split
  · rcases nmBorder_len (ts := ts) (d := d) with h | h
    · rw [h]; simp
    · omega
  · simp
theorem nameR_give {ts : List Run} {d : Int} : nameR "give" ts d = nmBefore ts d := by
  unfold nameR
  rw [if_neg (by decide +kernel), if_neg (by decide +kernel), if_pos rfl]
theorem nameR_move {ts : List Run} {d : Int} : nameR "move" ts d = nmBorder ts d := by
  unfold nameR
  rw [if_neg (by decide +kernel), if_neg (by decide +kernel), if_neg (by decide +kernel), if_pos rfl]
theorem nameR_take {ts : List Run} {d : Int} : nameR "take" ts d = nmBearer ts d := by
  unfold nameR
  rw [if_neg (by decide +kernel), if_pos rfl]
/-- [x] * int(c) -/
theorem r_rep {H : Hp} {Q : VK} {l : Addr} {x : V} {c : Bool} (h : H l = some (.lst [x])) (q : ∀ p H', H p = none → Ex H H' → H' p = some (.lst (if c = true then [x] else [])) → Q (.ref p) H') : rRep (.ref l) (.int (if c = true then 1 else 0)) H Q := by
  cases c with
  | true => exact ⟨l, 1, [x], rfl, rfl, h, by decide, by decide, (by show 1 * 1 ≤ sizeLine; rw [sizeLine_eq]; omega), fun p hp => q p _ hp (Ex.new hp) (by rw [upd_same]; rfl)⟩
  | false => exact ⟨l, 0, [x], rfl, rfl, h, by decide, by decide, (by show 1 * 0 ≤ sizeLine; omega), fun p hp => q p _ hp (Ex.new hp) (by rw [upd_same]; rfl)⟩
theorem here_snoc {ts : List Run} {i : Nat} {r : Run} {d : Int} (e : ts[i]? = some r) : ((ts.take (i + 1)).filter fun r : Run => bears r.1 r.2.1 d).getLast? = if bears r.1 r.2.1 d = true then some r else ((ts.take i).filter fun r : Run => bears r.1 r.2.1 d).getLast? := by
  rw [List.take_succ, e, List.filter_append]
  by_cases h : bears r.1 r.2.1 d = true <;> simp [h]
theorem before_snoc {ts : List Run} {i : Nat} {r : Run} {d : Int} (e : ts[i]? = some r) : beforeR (ts.take (i + 1)) d = match r.2.1 with | some n => if n ≤ d then some r else beforeR (ts.take i) d | none => beforeR (ts.take i) d := by
  unfold beforeR
  rw [List.take_succ, e, List.filter_append]
  obtain ⟨f, m, v⟩ := r
  cases m with
  | none => simp
  | some n => by_cases h : n ≤ d <;> simp [h]
theorem later_snoc {ts : List Run} {i : Nat} {r : Run} {d : Int} (e : ts[i]? = some r) : ((ts.take (i + 1)).filter fun r : Run => decide (d < r.1)).head? = match ((ts.take i).filter fun r : Run => decide (d < r.1)).head? with | some x => some x | none => if d < r.1 then some r else none := by
  rw [List.take_succ, e, List.filter_append]
  cases q : (ts.take i).filter (fun r : Run => decide (d < r.1)) with
  | nil => by_cases h : d < r.1 <;> simp [h]
  | cons x t => simp
theorem later_mem {ts : List Run} {i : Nat} {d : Int} {r x : Run} (a : AscS ts) (e : ts[i]? = some r) (h : ((ts.take i).filter fun r : Run => decide (d < r.1)).head? = some x) : x.1 < r.1 := by
  have hx : x ∈ ts.take i := (List.mem_filter.mp (List.mem_of_head? h)).1
  obtain ⟨j, hj, ej⟩ := List.mem_iff_getElem.mp hx
  rw [List.length_take] at hj
  obtain ⟨hi, er⟩ := List.getElem?_eq_some_iff.mp e
  rw [List.getElem_take] at ej
  have := List.pairwise_iff_getElem.mp a.firsts j i (by omega) hi (by omega)
  rw [ej, er] at this
  exact this
theorem cut_total {ts : List Run} {low : Int} {high : Option Int} : (ts.flatMap (cutR low high)).length ≤ 2 * ts.length := by
  induction ts with
  | nil => simp
  | cons x t ih =>
    rw [List.flatMap_cons, List.length_append, List.length_cons]
    have := cut_len (low := low) (high := high) (r := x)
    omega
/-- the row told at a slot, or none -/
def RowV (H : Hp) (v : V) : Option Run → Prop
  | none => v = .non
  | some r => ∃ t, v = .ref t ∧ H t = some (.tup (runV r))
def hereR (ts : List Run) (d : Int) : Option Run := (ts.filter fun r : Run => bears r.1 r.2.1 d).getLast?
def laterR (ts : List Run) (d : Int) : Option Run := (ts.filter fun r : Run => decide (d < r.1)).head?
def twoDays : List Str := ["between", "clear", "move"]
/-- the rows that are due, in the law's words -/
def dueR (w : Str) (ts : List Run) (d : Int) (e : Option Int) (v : V) : Option (List Run) :=
  if e.isSome ≠ decide (w ∈ twoDays) then none
  else if w = "set" ∨ w = "end" then some (ts.flatMap (cutR d none) ++ (if w = "set" then [(d, none, v)] else []))
  else if w = "fill" then some (ts.flatMap (cutR d ((laterR ts d).map (·.1))) ++ [(d, (laterR ts d).map (·.1), v)])
  else if w = "between" ∨ w = "clear" then (if e.getD 0 < d then none else some (ts.flatMap (cutR d (some (e.getD 0 + 1))) ++ (if w = "between" then [(d, some (e.getD 0 + 1), v)] else [])))
  else match hereR ts d with
    | none => none
    | some h => if w = "take" then some (ts.filter fun r => decide (r.1 ≠ h.1)) else match beforeR ts d with
      | none => if w = "give" then some (ts.filter fun r => decide (r.1 ≠ h.1)) else none
      | some b => if w = "give" then some ((ts.filter fun r => decide (r.1 ≠ h.1)).filter (fun r => decide (r.1 ≠ b.1)) ++ [(b.1, h.2.1, b.2.2)])
        else if h.1 ≠ d ∨ b.2.1 ≠ some d ∨ e.getD 0 ≤ b.1 ∨ (∃ n, h.2.1 = some n ∧ n ≤ e.getD 0) then none
        else some ((ts.filter fun r => decide (r.1 ≠ h.1)).filter (fun r => decide (r.1 ≠ b.1)) ++ [(b.1, some (e.getD 0), b.2.2), (e.getD 0, h.2.1, h.2.2)])
theorem filter_app {p : Run → Bool} {A B : List Run} {x : Run} (hx : p x = true) (hB : ∀ r ∈ B, p r = false) : ((A ++ x :: B).filter p).getLast? = some x := by
  have e : B.filter p = [] := List.filter_eq_nil_iff.mpr fun r hr => by rw [hB r hr]; simp
  rw [List.filter_append, List.filter_cons_of_pos hx, e]
  simp
theorem border_no {d : Int} : ∀ {ts : List Run}, AscS ts → ∀ {b h : Run}, b ∈ ts → h ∈ ts → b.2.1 = some d → h.1 = d → nmBorder ts d ≠ []
  | [], _, _, _, hb, _, _, _ => by cases hb
  | [x], a, b, h, hb, hh, eb, eh => by
    rw [List.mem_singleton] at hb hh
    subst hb hh
    have := a.1 _ List.mem_cons_self d eb
    omega
  | x :: y :: t, a, b, h, hb, hh, eb, eh => by
    have at' : AscS (y :: t) := ⟨fun r hr => a.1 r (List.mem_cons_of_mem _ hr), (List.pairwise_cons.mp a.2).2⟩
    have first := (List.pairwise_cons.mp a.2).1
    unfold nmBorder
    by_cases c : x.2.1 = some d ∧ y.1 = d
    · rw [if_pos c]; simp
    · rw [if_neg c]
      have hb' : b ∈ y :: t := by
        rcases List.mem_cons.mp hb with rfl | q
        · exfalso
          have hlt := a.1 b List.mem_cons_self d eb
          have hh' : h ∈ y :: t := by
            rcases List.mem_cons.mp hh with rfl | q
            · omega
            · exact q
          obtain ⟨n, en, hn⟩ := first y List.mem_cons_self
          rw [eb] at en
          cases en
          rcases List.mem_cons.mp hh' with rfl | q
          · exact c ⟨eb, eh⟩
          · have := (List.pairwise_cons.mp at'.firsts).1 h q
            omega
        · exact q
      have hh' : h ∈ y :: t := by
        rcases List.mem_cons.mp hh with rfl | q
        · exfalso
          obtain ⟨n, en, hn⟩ := first b hb'
          have h1 := a.1 h List.mem_cons_self n en
          have h2 := a.1 b hb d eb
          omega
        · exact q
      exact border_no at' hb' hh' eb eh
theorem border_yes {d : Int} : ∀ {ts : List Run} {x y : Run}, nmBorder ts d = [x, y] → ∃ A B, ts = A ++ x :: y :: B ∧ x.2.1 = some d ∧ y.1 = d
  | [], _, _, h => by cases h
  | [_], _, _, h => by cases h
  | u :: v :: t, x, y, h => by
    unfold nmBorder at h
    by_cases c : u.2.1 = some d ∧ v.1 = d
    · rw [if_pos c] at h
      cases h
      exact ⟨[], t, rfl, c⟩
    · rw [if_neg c] at h
      obtain ⟨A, B, e, g⟩ := border_yes h
      exact ⟨u :: A, B, by rw [e]; rfl, g⟩
theorem border_here {d : Int} {A B : List Run} {x y : Run} (a : AscS (A ++ x :: y :: B)) (ex : x.2.1 = some d) (ey : y.1 = d) : hereR (A ++ x :: y :: B) d = some y ∧ beforeR (A ++ x :: y :: B) d = some x := by
  have pB : (y :: B).Pairwise fun a b => ∃ n, a.2.1 = some n ∧ n ≤ b.1 := (List.pairwise_cons.mp (List.pairwise_append.mp a.2).2.1).2
  have hy : ∀ n, y.2.1 = some n → d < n := fun n e => by have := a.1 y (by simp) n e; omega
  have after : ∀ r ∈ B, d < r.1 ∧ ∀ n, r.2.1 = some n → d < n := fun r hr => by
    obtain ⟨n, en, hn⟩ := (List.pairwise_cons.mp pB).1 r hr
    have h1 := hy n en
    refine ⟨by omega, fun k ek => ?_⟩
    have := a.1 r (by simp [hr]) k ek
    omega
  have yb : bears y.1 y.2.1 d = true := bears_iff.mpr ⟨by omega, hy⟩
  constructor
  · have e : A ++ x :: y :: B = (A ++ [x]) ++ y :: B := by simp
    rw [e]
    refine filter_app (p := fun r : Run => bears r.1 r.2.1 d) yb fun r hr => Bool.eq_false_iff.mpr fun z => ?_
    have := bears_first z
    have := (after r hr).1
    omega
  · refine filter_app (p := fun r : Run => match r.2.1 with | some n => decide (n ≤ d) | none => false) ?_ fun r hr => ?_
    · simp only [ex]
      simp
    · have nl : ∀ n, r.2.1 = some n → d < n := by
        rcases List.mem_cons.mp hr with rfl | hr
        · exact hy
        · exact (after r hr).2
      cases e : r.2.1 with
      | none => rfl
      | some n =>
        have := nl n e
        simp
        omega
theorem here_mem {ts : List Run} {d : Int} {r : Run} (h : hereR ts d = some r) : r ∈ ts := (List.mem_filter.mp (List.mem_of_getLast? h)).1
theorem before_mem {ts : List Run} {d : Int} {r : Run} (h : beforeR ts d = some r) : r ∈ ts := (List.mem_filter.mp (List.mem_of_getLast? h)).1
theorem here_none {ts : List Run} {d : Int} : hereR ts d = none ↔ nmBearer ts d = [] := by
  unfold hereR nmBearer
  exact List.getLast?_eq_none_iff
theorem take_some {rs : List Run} : (gvTake rs).isSome = !rs.isEmpty := by cases rs <;> rfl
theorem on_some {rs : List Run} : (gvOn rs).isSome = !rs.isEmpty := by
  match rs with
  | [] => rfl
  | [x] => rfl
  | [x, y] => rfl
  | x :: y :: z :: t => rfl
theorem before_none {ts : List Run} {d : Int} : nmBefore ts d = [] ↔ nmBearer ts d = [] := by
  unfold nmBefore nmBearer
  cases h : ts.findIdx? (fun r : Run => bears r.1 r.2.1 d) with
  | none =>
    rw [List.findIdx?_eq_none_iff] at h
    exact ⟨fun _ => List.filter_eq_nil_iff.mpr fun r hr => by rw [h r hr]; simp, fun _ => rfl⟩
  | some i =>
    rw [List.findIdx?_eq_some_iff_getElem] at h
    obtain ⟨hi, hp, _⟩ := h
    constructor
    · intro e
      have := congrArg List.length e
      rw [List.length_take, List.length_drop] at this
      simp at this
      omega
    · intro e
      exact absurd hp (List.filter_eq_nil_iff.mp e _ (List.getElem_mem hi))
theorem r_neNilI {K : PySem.W.Frag} {H : Hp} {Q : VK} {p q : Addr} {ns : List Int} (h1 : H p = some (.lst (ns.map V.int))) (h2 : H q = some (.lst [])) (k : Q (.bl (!ns.isEmpty)) H) : rNeD K (.ref p) (.ref q) H Q := by
  refine ⟨_, _, ints_dp h1, ints_dp (ns := []) h2, ints_shaped ns, ints_shaped [], ?_⟩
  have e : (!PyData.eqv (.list (ns.map PyData.int)) (.list (([] : List Int).map PyData.int))) = !ns.isEmpty := by
    cases ns <;> rfl
  rw [e]
  exact k
theorem gives_all {o : Option (List Run)} {H : Hp} {Q : VK} (q : ∀ v H', Ex H H' → (!decide (v = V.non)) = o.isSome → Q v H') : GivesW o H Q := by
  cases o with
  | none => exact fun H' e => q _ _ e rfl
  | some rs => exact fun t H' ys e _ _ => q _ _ e rfl
end Vf
set_option maxHeartbeats 2000000
/-! tables that are due -/
namespace Vf
open PySem PySem.Spec PyProof.Rows L2 StX
/-- stretches given one after the other -/
def giveAll (rs : List Run) (gs : List Run) : List Run := gs.foldl (fun rs g => giveR V.non rs g.1 g.2.1 g.2.2) rs
theorem nmBefore_pair {ts : List Run} {d : Int} (a : AscS ts) {x y : Run} (h : nmBefore ts d = [x, y]) : (∃ n, x.2.1 = some n ∧ n ≤ y.1) ∧ x ∈ ts ∧ y ∈ ts := by
  unfold nmBefore at h
  split at h
  · cases h
  · rename_i i hi
    have h0 : ((ts.drop (i - 1)).take (i + 1 - (i - 1)))[0]? = some x := by rw [h]; rfl
    have h1 : ((ts.drop (i - 1)).take (i + 1 - (i - 1)))[1]? = some y := by rw [h]; rfl
    rw [List.getElem?_take_of_lt (by omega), List.getElem?_drop] at h0
    have hlt : 1 < i + 1 - (i - 1) := by
      rcases Nat.lt_or_ge 1 (i + 1 - (i - 1)) with q | q
      · exact q
      · have := congrArg List.length h
        rw [List.length_take] at this
        simp at this
        omega
    rw [List.getElem?_take_of_lt hlt, List.getElem?_drop] at h1
    refine ⟨?_, List.mem_of_getElem? h0, List.mem_of_getElem? h1⟩
    obtain ⟨i1, rfl⟩ := List.getElem?_eq_some_iff.mp h0
    obtain ⟨i2, rfl⟩ := List.getElem?_eq_some_iff.mp h1
    exact List.pairwise_iff_getElem.mp a.2 _ _ i1 i2 (by omega)
theorem nmBefore_sub {ts : List Run} {d : Int} {r : Run} (h : r ∈ nmBefore ts d) : r ∈ ts := by
  unfold nmBefore at h
  split at h
  · cases h
  · exact List.mem_of_mem_drop (List.mem_of_mem_take h)
/-- what a stretch that is given is like -/
def GivOk (gs : List Run) : Prop := gs.length ≤ 1 ∧ ∀ g ∈ gs, ValR g ∧ OptW g.2.2
theorem giv_one {g : Run} (v : ValR g) (w : OptW g.2.2) : GivOk [g] := ⟨by simp, fun x hx => by rw [List.mem_singleton] at hx; subst hx; exact ⟨v, w⟩⟩
theorem take_ok {ts rs gs : List Run} (a : AscS ts) (sub : ∀ r ∈ rs, r ∈ ts) (h : gvTake rs = some gs) : GivOk gs := by
  cases rs with
  | nil => cases h
  | cons r t =>
    cases h
    refine giv_one (fun l e => ?_) .non
    have hr := sub r List.mem_cons_self
    cases hm : r.2.1 with
    | none => rw [hm] at e; cases e
    | some n =>
      rw [hm] at e
      cases e
      have := a.1 r hr n hm
      show r.1 ≤ n - 1
      omega
theorem given_ok {w : Str} {td : Bool} {ts gs : List Run} {d : Int} {e : Option Int} {v : V} (a : AscS ts) (hw : ∀ r ∈ ts, Worth r.2.2) (hv : OptW v) (h : givenR w td ts d e v = some gs) : GivOk gs := by
  unfold givenR at h
  split at h
  · unfold giveW at h
    split at h
    · cases h
      exact giv_one (fun l e => by cases e) hv
    split at h
    · cases h
      exact giv_one (fun l e => by cases e) .non
    split at h
    · rename_i hf
      cases h
      subst hf
      refine giv_one (fun l e => ?_) hv
      have hn : nameR "fill" ts d = nmNext ts d := by unfold nameR; rw [if_pos rfl]
      rw [hn] at e
      unfold nmNext at e
      cases hl : ts.filter (fun r : Run => decide (d < r.1)) with
      | nil => rw [hl] at e; cases e
      | cons x t =>
        rw [hl] at e
        cases e
        have : x ∈ ts.filter (fun r : Run => decide (d < r.1)) := by rw [hl]; exact List.mem_cons_self
        have := (List.mem_filter.mp this).2
        show d ≤ x.1 - 1
        simp at this
        omega
    split at h
    · split at h
      · cases h
        rename_i q
        refine giv_one (fun l e2 => ?_) hv
        have e2 : e = some l := e2
        subst e2
        exact q
      · cases h
    split at h
    · split at h
      · cases h
        rename_i q
        refine giv_one (fun l e2 => ?_) .non
        have e2 : e = some l := e2
        subst e2
        exact q
      · cases h
    split at h
    · rename_i ht
      subst ht
      rw [nameR_take] at h
      exact take_ok a (fun r hr => (List.mem_filter.mp hr).1) h
    split at h
    · rename_i hg
      subst hg
      rw [nameR_give] at h
      match hb : nmBefore ts d with
      | [] => rw [hb] at h; cases h
      | [x] =>
        rw [hb] at h
        exact take_ok a (rs := [x]) (fun r hr => nmBefore_sub (d := d) (by rw [hb]; exact hr)) h
      | [x, y] =>
        rw [hb] at h
        cases h
        obtain ⟨⟨n, en, hn⟩, hx, hy⟩ := nmBefore_pair a hb
        refine giv_one (fun l e2 => ?_) (.w (hw x hx))
        rw [en]
        cases hm : y.2.1 with
        | none =>
          have e2 : y.2.1.map (· - 1) = some l := e2
          rw [hm] at e2
          cases e2
        | some k =>
          have e2 : y.2.1.map (· - 1) = some l := e2
          rw [hm] at e2
          cases e2
          have := a.1 y hy k hm
          show n ≤ k - 1
          omega
      | x :: y :: z :: t =>
        have := nmBefore_len (ts := ts) (d := d)
        rw [hb] at this
        simp at this
    · rename_i hset hend hfill hbet hclr htak hgiv
      unfold gvMove at h
      split at h
      · rename_i x y hb
        have sub : ∀ r ∈ nameR w ts d, r ∈ ts := fun r hr => by
          unfold nameR at hr
          rw [if_neg hfill, if_neg htak, if_neg hgiv] at hr
          split at hr
          · rcases nmBorder_len (ts := ts) (d := d) with q | q
            · rw [q] at hr; cases hr
            · obtain ⟨x', y', hxy⟩ : ∃ x y, nmBorder ts d = [x, y] := by
                match nmBorder ts d, q with
                | [x, y], _ => exact ⟨x, y, rfl⟩
              obtain ⟨A, B, e2, _⟩ := border_yes hxy
              rw [hxy] at hr
              rw [e2]
              simp only [List.mem_cons, List.not_mem_nil, or_false] at hr
              rcases hr with rfl | rfl <;> simp
          · cases hr
        have wx := hw x (sub x (by rw [hb]; simp))
        have wy := hw y (sub y (by rw [hb]; simp))
        split at h
        · cases h
        split at h
        · cases h
          rename_i q
          exact giv_one (fun l e2 => by cases e2; show e.getD 0 ≤ d - 1; omega) (.w wy)
        split at h
        · cases h
          rename_i q
          exact giv_one (fun l e2 => by cases e2; show d ≤ e.getD 0 - 1; omega) (.w wx)
        · cases h
          exact ⟨by simp, fun g hg => by cases hg⟩
      · cases h
  · cases h
end Vf
set_option maxHeartbeats 2000000
/-! the table that is due: rows in the middle are others -/
namespace Vf
open PySem PySem.Spec PyProof.Rows L2 StX
theorem cover_app {A B : List Run} {x : Int} : cover (A ++ B) x = match cover A x with | some v => some v | none => cover B x := by
  induction A with
  | nil => rfl
  | cons r t ih =>
    show (if hasD r x = true then some r.2.2 else cover (t ++ B) x) = match (if hasD r x = true then some r.2.2 else cover t x) with | some v => some v | none => cover B x
    by_cases h : hasD r x = true
    · rw [if_pos h, if_pos h]
    · rw [if_neg h, if_neg h, ih]
/-- one stretch is given; what it has lies in the middle -/
theorem swap_table {A M M' B : List Run} {g : Run} (a : AscS (A ++ M ++ B)) (b : AscS (A ++ M' ++ B)) (vs : ValR g) (dA : ∀ r ∈ A, ∀ x, hasD g x = true → hasD (lastR r) x = false) (dB : ∀ r ∈ B, ∀ x, hasD g x = true → hasD (lastR r) x = false)
    (c1 : ∀ x, hasD g x = true → (cover (M'.map lastR) x).getD V.non = g.2.2) (c2 : ∀ x, hasD g x = false → cover (M'.map lastR) x = cover (M.map lastR) x) :
    giveR V.non (tabL (A ++ M ++ B)) g.1 g.2.1 g.2.2 = tabL (A ++ M' ++ B) := by
  obtain ⟨g1, g2⟩ := give_norm (nn := V.non) (v := g.2.2) (tab_norm a) (show ValR (g.1, g.2.1, g.2.2) from vs)
  refine norm_one g1 (tab_norm b) fun x => ?_
  rw [g2 x, tab_look a, tab_look b]
  have noC : ∀ {R : List Run}, (∀ r ∈ R, hasD (lastR r) x = false) → cover (R.map lastR) x = none := fun {R} h => cover_none fun r hr => by
    obtain ⟨y, hy, rfl⟩ := List.mem_map.mp hr
    exact h y hy
  show (if hasD g x = true then g.2.2 else lookR V.non ((A ++ M ++ B).map lastR) x) = lookR V.non ((A ++ M' ++ B).map lastR) x
  unfold lookR
  rw [List.map_append, List.map_append, List.map_append, List.map_append, cover_app, cover_app, cover_app, cover_app]
  by_cases h : hasD g x = true
  · rw [if_pos h, noC fun r hr => dA r hr x h, noC fun r hr => dB r hr x h, ← c1 x h]
    cases cover (M'.map lastR) x <;> rfl
  · rw [if_neg h, c2 x (Bool.eq_false_iff.mpr h)]
theorem asc_mid {A M M' B : List Run} (a : AscS (A ++ M ++ B)) (m : AscS M') (hA : ∀ r' ∈ M', ∃ r ∈ M, r.1 ≤ r'.1) (hB : ∀ r' ∈ M', ∀ y ∈ B, ∃ n, r'.2.1 = some n ∧ n ≤ y.1) : AscS (A ++ M' ++ B) := by
  obtain ⟨p1, p2, p3⟩ := List.pairwise_append.mp a.2
  obtain ⟨q1, q2, q3⟩ := List.pairwise_append.mp p1
  refine ⟨fun r hr n e => ?_, List.pairwise_append.mpr ⟨List.pairwise_append.mpr ⟨q1, m.2, fun x hx y hy => ?_⟩, p2, fun x hx y hy => ?_⟩⟩
  · rcases List.mem_append.mp hr with hr | hr
    · rcases List.mem_append.mp hr with hr | hr
      · exact a.1 r (by simp [hr]) n e
      · exact m.1 r hr n e
    · exact a.1 r (by simp [hr]) n e
  · obtain ⟨r, hr, le⟩ := hA y hy
    obtain ⟨n, en, hn⟩ := q3 x hx r hr
    exact ⟨n, en, by omega⟩
  · rcases List.mem_append.mp hx with hx | hx
    · exact p3 x (List.mem_append_left _ hx) y hy
    · exact hB x hx y hy
theorem filter_ne {A B : List Run} {r : Run} (a : AscS (A ++ r :: B)) : (A ++ r :: B).filter (fun x => decide (x.1 ≠ r.1)) = A ++ B := by
  obtain ⟨p1, p2, p3⟩ := List.pairwise_append.mp a.firsts
  have hA : A.filter (fun x : Run => decide (x.1 ≠ r.1)) = A := List.filter_eq_self.mpr fun x hx => by
    have := p3 x hx r List.mem_cons_self
    simp
    omega
  have hB : B.filter (fun x : Run => decide (x.1 ≠ r.1)) = B := List.filter_eq_self.mpr fun x hx => by
    have := (List.pairwise_cons.mp p2).1 x hx
    simp
    omega
  rw [List.filter_append, hA, List.filter_cons_of_neg (by simp), hB]
/-- days of the middle are not the others' -/
theorem mid_out {A M B : List Run} {g : Run} (a : AscS (A ++ M ++ B)) (hl : ∃ r ∈ M, r.1 ≤ g.1) (hh : ∀ y ∈ B, ∀ x, hasD g x = true → x < y.1) :
    (∀ r ∈ A, ∀ x, hasD g x = true → hasD (lastR r) x = false) ∧ ∀ r ∈ B, ∀ x, hasD g x = true → hasD (lastR r) x = false := by
  obtain ⟨p1, p2, p3⟩ := List.pairwise_append.mp a.2
  obtain ⟨q1, q2, q3⟩ := List.pairwise_append.mp p1
  obtain ⟨r0, hr0, le0⟩ := hl
  refine ⟨fun r hr x hx => Bool.eq_false_iff.mpr fun z => ?_, fun r hr x hx => Bool.eq_false_iff.mpr fun z => ?_⟩
  · obtain ⟨n, en, hn⟩ := q3 r hr r0 hr0
    obtain ⟨_, h2⟩ := has_last.mp z
    have h3 := h2 n en
    have h4 := (hasD_iff.mp hx).1
    omega
  · have := hh r hr x hx
    have := (has_last.mp z).1
    omega
end Vf
set_option maxHeartbeats 2000000
/-! the rows that are due make the table that is due -/
namespace Vf
open PySem PySem.Spec PyProof.Rows L2 StX
abbrev sortR (us : List Run) : List Run := us.mergeSort fun a b => decide (a.1 ≤ b.1)
structure DueOk (ts gs us : List Run) : Prop where
  asc : AscS (sortR us)
  tab : giveAll (tabL ts) gs = tabL (sortR us)
  worth : ∀ r ∈ us, Worth r.2.2
  len : us.length ≤ 2 * ts.length + 2
theorem sort_asc {us : List Run} (a : AscS us) : sortR us = us := sort_of (List.Perm.refl _) a.firsts
theorem due_put {ts : List Run} {d : Int} {m : Option Int} {v : V} (a : AscS ts) (hm : ∀ n, m = some n → d ≤ n) (hw : ∀ r ∈ ts, Worth r.2.2) (hv : OptW v) : DueOk ts [(d, m, v)] (ts.flatMap (cutR d (m.map (· + 1))) ++ newR d (m.map (· + 1)) v) := by
  have e := put_sort (v := v) a hm
  refine ⟨?_, ?_, fun r hr => ?_, ?_⟩
  · show AscS (List.mergeSort _ _)
    rw [e]
    exact put_asc a hm
  · show giveR V.non (tabL ts) d m v = tabL (List.mergeSort _ _)
    rw [e, tab_put a hm]
  · have hr2 : r ∈ putL ts d m v := by rw [← e]; exact (List.mergeSort_perm _ _).mem_iff.mpr hr
    exact put_worth a hw hv r hr2
  · have h1 := cut_total (ts := ts) (low := d) (high := m.map (· + 1))
    have h2 : (newR d (m.map (· + 1)) v).length ≤ 1 := by unfold newR; split <;> simp
    rw [List.length_append]
    omega
theorem due_take {A B : List Run} {h : Run} (a : AscS (A ++ h :: B)) (hw : ∀ r ∈ A ++ h :: B, Worth r.2.2) : DueOk (A ++ h :: B) [(h.1, h.2.1.map (· - 1), .non)] ((A ++ h :: B).filter fun x => decide (x.1 ≠ h.1)) := by
  have a' : AscS (A ++ [h] ++ B) := by simpa using a
  have b : AscS (A ++ [] ++ B) := sub_asc a (by simp)
  have vs : ValR (h.1, h.2.1.map (· - 1), V.non) := fun l e => by
    cases hm : h.2.1 with
    | none => rw [hm] at e; cases e
    | some n =>
      rw [hm] at e
      cases e
      have := a.1 h (by simp) n hm
      show h.1 ≤ n - 1
      omega
  have hs : ∀ x, hasD (h.1, h.2.1.map (· - 1), V.non) x = hasD (lastR h) x := fun x => rfl
  obtain ⟨dA, dB⟩ := mid_out (g := (h.1, h.2.1.map (· - 1), V.non)) a' ⟨h, by simp, Int.le_refl _⟩ fun y hy x hx => by
    obtain ⟨n, en, hn⟩ := (List.pairwise_cons.mp (List.pairwise_append.mp a.2).2.1).1 y hy
    rw [hs] at hx
    have := (has_last.mp hx).2 n en
    omega
  rw [filter_ne a]
  have b2 : AscS (A ++ B) := by simpa using b
  refine ⟨by rw [sort_asc b2]; exact b2, ?_, fun r hr => hw r (by rcases List.mem_append.mp hr with q | q <;> simp [q]), by simp; omega⟩
  rw [sort_asc b2]
  have := swap_table (M := [h]) (M' := []) a' b vs dA dB (fun x _ => rfl) (fun x hx => by
    rw [hs] at hx
    show none = (if hasD (lastR h) x = true then _ else none)
    rw [if_neg (by rw [hx]; simp)])
  simpa [giveAll] using this
theorem due_give {A B : List Run} {b h : Run} {n : Int} (a : AscS (A ++ b :: h :: B)) (en : b.2.1 = some n) (hw : ∀ r ∈ A ++ b :: h :: B, Worth r.2.2) :
    DueOk (A ++ b :: h :: B) [(n, h.2.1.map (· - 1), b.2.2)] ((((A ++ b :: h :: B).filter fun x => decide (x.1 ≠ h.1)).filter fun x => decide (x.1 ≠ b.1)) ++ [(b.1, h.2.1, b.2.2)]) := by
  have a' : AscS (A ++ [b, h] ++ B) := by simpa using a
  have ah : AscS ((A ++ [b]) ++ h :: B) := by simpa using a
  have ab : AscS (A ++ b :: B) := sub_asc a (by simp)
  have e1 : (A ++ b :: h :: B).filter (fun x => decide (x.1 ≠ h.1)) = A ++ b :: B := by
    have := filter_ne ah
    simpa using this
  rw [e1, filter_ne ab]
  have hb : b.1 < n := a.1 b (by simp) n en
  have hnh : n ≤ h.1 := by
    obtain ⟨k, ek, hk⟩ := (List.pairwise_cons.mp (List.pairwise_append.mp a.2).2.1).1 h List.mem_cons_self
    rw [en] at ek
    cases ek
    exact hk
  have hh : ∀ k, h.2.1 = some k → h.1 < k := fun k ek => a.1 h (by simp) k ek
  have hB : ∀ y ∈ B, ∃ k, h.2.1 = some k ∧ k ≤ y.1 := fun y hy => (List.pairwise_cons.mp (List.pairwise_cons.mp (List.pairwise_append.mp a.2).2.1).2).1 y hy
  have m' : AscS [(b.1, h.2.1, b.2.2)] := ⟨fun r hr k ek => by
    rw [List.mem_singleton] at hr
    subst hr
    have := hh k ek
    show b.1 < k
    omega, List.pairwise_singleton _ _⟩
  have b' : AscS (A ++ [(b.1, h.2.1, b.2.2)] ++ B) := asc_mid a' m' (fun r hr => ⟨b, by simp, by rw [List.mem_singleton] at hr; subst hr; exact Int.le_refl _⟩) (fun r hr y hy => by rw [List.mem_singleton] at hr; subst hr; exact hB y hy)
  have srt : sortR (A ++ B ++ [(b.1, h.2.1, b.2.2)]) = A ++ [(b.1, h.2.1, b.2.2)] ++ B := sort_of (by
    rw [List.append_assoc, List.append_assoc]
    exact List.Perm.append_left A List.perm_append_comm) b'.firsts
  have vs : ValR (n, h.2.1.map (· - 1), b.2.2) := fun l e => by
    cases hm : h.2.1 with
    | none => rw [hm] at e; cases e
    | some k =>
      rw [hm] at e
      cases e
      have := hh k hm
      show n ≤ k - 1
      omega
  have hg : ∀ x, hasD (n, h.2.1.map (· - 1), b.2.2) x = true ↔ n ≤ x ∧ ∀ k, h.2.1 = some k → x < k := fun x => has_last (r := (n, h.2.1, b.2.2))
  obtain ⟨dA, dB⟩ := mid_out (g := (n, h.2.1.map (· - 1), b.2.2)) a' ⟨b, by simp, by show b.1 ≤ n; omega⟩ fun y hy x hx => by
    obtain ⟨k, ek, hk⟩ := hB y hy
    have := ((hg x).mp hx).2 k ek
    omega
  refine ⟨by rw [srt]; exact b', ?_, fun r hr => ?_, by simp; omega⟩
  · rw [srt]
    have := swap_table (M := [b, h]) (M' := [(b.1, h.2.1, b.2.2)]) a' b' vs dA dB (fun x hx => by
      have h1 := (hg x).mp hx
      have : hasD (lastR (b.1, h.2.1, b.2.2)) x = true := has_last.mpr ⟨by show b.1 ≤ x; omega, h1.2⟩
      show (if hasD (lastR (b.1, h.2.1, b.2.2)) x = true then _ else _ : Option V).getD _ = _
      rw [if_pos this]
      rfl) (fun x hx => by
      have hx : ¬ (n ≤ x ∧ ∀ k, h.2.1 = some k → x < k) := fun z => by rw [(hg x).mpr z] at hx; cases hx
      show (if hasD (lastR (b.1, h.2.1, b.2.2)) x = true then some b.2.2 else none) = if hasD (lastR b) x = true then some b.2.2 else if hasD (lastR h) x = true then some h.2.2 else none
      have hbx : hasD (lastR b) x = true ↔ b.1 ≤ x ∧ x < n := by
        rw [has_last]
        exact ⟨fun z => ⟨z.1, z.2 n en⟩, fun z => ⟨z.1, fun k ek => by rw [en] at ek; cases ek; exact z.2⟩⟩
      have hhx : ¬ hasD (lastR h) x = true := fun z => by
        obtain ⟨z1, z2⟩ := has_last.mp z
        exact hx ⟨by omega, z2⟩
      rw [if_neg hhx]
      by_cases q : hasD (lastR b) x = true
      · rw [if_pos q]
        obtain ⟨q1, q2⟩ := hbx.mp q
        have q3 : hasD (lastR (b.1, h.2.1, b.2.2)) x = true := has_last.mpr ⟨q1, fun k ek => by
          have ek : h.2.1 = some k := ek
          have := hh k ek
          omega⟩
        rw [if_pos q3]
      · rw [if_neg q, if_neg]
        intro z
        obtain ⟨z1, z2⟩ := has_last.mp z
        by_cases c : x < n
        · exact q (hbx.mpr ⟨z1, c⟩)
        · exact hx ⟨by omega, z2⟩)
    have e2 : A ++ [b, h] ++ B = A ++ b :: h :: B := by simp
    rw [e2] at this
    exact this
  · rcases List.mem_append.mp hr with hr | hr
    · exact hw r (by rcases List.mem_append.mp hr with q | q <;> simp [q])
    · rw [List.mem_singleton] at hr
      subst hr
      exact hw b (by simp)
/-- the border between two rows is moved to e -/
theorem due_move {A B : List Run} {x y : Run} {d e : Int} (a : AscS (A ++ x :: y :: B)) (ex : x.2.1 = some d) (ey : y.1 = d) (he : x.1 < e) (hy : ∀ k, y.2.1 = some k → e < k) (hw : ∀ r ∈ A ++ x :: y :: B, Worth r.2.2) :
    DueOk (A ++ x :: y :: B) (if e < d then [(e, some (d - 1), y.2.2)] else if d < e then [(d, some (e - 1), x.2.2)] else []) ((((A ++ x :: y :: B).filter fun r => decide (r.1 ≠ y.1)).filter fun r => decide (r.1 ≠ x.1)) ++ [(x.1, some e, x.2.2), (e, y.2.1, y.2.2)]) := by
  have a' : AscS (A ++ [x, y] ++ B) := by simpa using a
  have ah : AscS ((A ++ [x]) ++ y :: B) := by simpa using a
  have ab : AscS (A ++ x :: B) := sub_asc a (by simp)
  have e1 : (A ++ x :: y :: B).filter (fun r => decide (r.1 ≠ y.1)) = A ++ x :: B := by
    have := filter_ne ah
    simpa using this
  rw [e1, filter_ne ab]
  have hxd : x.1 < d := a.1 x (by simp) d ex
  have hyd : ∀ k, y.2.1 = some k → d < k := fun k ek => by have := a.1 y (by simp) k ek; omega
  have hB : ∀ z ∈ B, ∃ k, y.2.1 = some k ∧ k ≤ z.1 := fun z hz => (List.pairwise_cons.mp (List.pairwise_cons.mp (List.pairwise_append.mp a.2).2.1).2).1 z hz
  have m' : AscS [(x.1, some e, x.2.2), (e, y.2.1, y.2.2)] := by
    refine ⟨fun r hr k ek => ?_, List.pairwise_cons.mpr ⟨fun r hr => ?_, List.pairwise_singleton _ _⟩⟩
    · simp only [List.mem_cons, List.not_mem_nil, or_false] at hr
      rcases hr with rfl | rfl
      · cases ek; exact he
      · exact hy k ek
    · rw [List.mem_singleton] at hr
      subst hr
      exact ⟨e, rfl, Int.le_refl _⟩
  have b' : AscS (A ++ [(x.1, some e, x.2.2), (e, y.2.1, y.2.2)] ++ B) := asc_mid a' m' (fun r hr => ⟨x, by simp, by
    simp only [List.mem_cons, List.not_mem_nil, or_false] at hr
    rcases hr with rfl | rfl
    · exact Int.le_refl _
    · exact Int.le_of_lt he⟩) (fun r hr z hz => by
    obtain ⟨k, ek, hk⟩ := hB z hz
    simp only [List.mem_cons, List.not_mem_nil, or_false] at hr
    rcases hr with rfl | rfl
    · have := hy k ek
      exact ⟨e, rfl, by omega⟩
    · exact ⟨k, ek, hk⟩)
  have srt : sortR (A ++ B ++ [(x.1, some e, x.2.2), (e, y.2.1, y.2.2)]) = A ++ [(x.1, some e, x.2.2), (e, y.2.1, y.2.2)] ++ B := sort_of (by
    rw [List.append_assoc, List.append_assoc]
    exact List.Perm.append_left A List.perm_append_comm) b'.firsts
  have e2 : A ++ [x, y] ++ B = A ++ x :: y :: B := by simp
  have hx1 : ∀ t, hasD (lastR x) t = true ↔ x.1 ≤ t ∧ t < d := fun t => by
    rw [has_last]
    exact ⟨fun z => ⟨z.1, z.2 d ex⟩, fun z => ⟨z.1, fun k ek => by rw [ex] at ek; cases ek; exact z.2⟩⟩
  have hx2 : ∀ t, hasD (lastR y) t = true ↔ d ≤ t ∧ ∀ k, y.2.1 = some k → t < k := fun t => by rw [has_last, ey]
  have hn1 : ∀ t, hasD (lastR (x.1, some e, x.2.2)) t = true ↔ x.1 ≤ t ∧ t < e := fun t => by
    rw [has_last]
    exact ⟨fun z => ⟨z.1, z.2 e rfl⟩, fun z => ⟨z.1, fun k ek => by cases ek; exact z.2⟩⟩
  have hn2 : ∀ t, hasD (lastR (e, y.2.1, y.2.2)) t = true ↔ e ≤ t ∧ ∀ k, y.2.1 = some k → t < k := fun t => has_last
  refine ⟨by rw [srt]; exact b', ?_, fun r hr => ?_, by simp; omega⟩
  · rw [srt]
    have cov : ∀ t, cover ([x, y].map lastR) t = if hasD (lastR x) t = true then some x.2.2 else if hasD (lastR y) t = true then some y.2.2 else none := fun t => rfl
    have cov2 : ∀ t, cover ([(x.1, some e, x.2.2), (e, y.2.1, y.2.2)].map lastR) t = if hasD (lastR (x.1, some e, x.2.2)) t = true then some x.2.2 else if hasD (lastR (e, y.2.1, y.2.2)) t = true then some y.2.2 else none := fun t => rfl
    by_cases q1 : e < d
    · rw [if_pos q1]
      have hg : ∀ t, hasD (e, some (d - 1), y.2.2) t = true ↔ e ≤ t ∧ t < d := fun t => by
        rw [hasD_iff]
        exact ⟨fun z => ⟨z.1, by have := z.2 (d - 1) rfl; omega⟩, fun z => ⟨z.1, fun l el => by cases el; omega⟩⟩
      obtain ⟨dA, dB⟩ := mid_out (g := (e, some (d - 1), y.2.2)) a' ⟨x, by simp, by show x.1 ≤ e; omega⟩ fun z hz t ht => by
        obtain ⟨k, ek, hk⟩ := hB z hz
        have := hyd k ek
        have := ((hg t).mp ht).2
        omega
      have := swap_table (M := [x, y]) (M' := [(x.1, some e, x.2.2), (e, y.2.1, y.2.2)]) a' b' (fun l el => by cases el; show e ≤ d - 1; omega) dA dB (fun t ht => by
        obtain ⟨t1, t2⟩ := (hg t).mp ht
        rw [cov2, if_neg (fun z => by have := ((hn1 t).mp z).2; omega), if_pos ((hn2 t).mpr ⟨t1, fun k ek => by have := hyd k ek; omega⟩)]
        rfl) (fun t ht => by
        have ht : ¬ (e ≤ t ∧ t < d) := fun z => by rw [(hg t).mpr z] at ht; cases ht
        rw [cov, cov2]
        by_cases c1 : t < e
        · rw [if_neg (c := hasD (lastR (e, y.2.1, y.2.2)) t = true) (fun z => by have := ((hn2 t).mp z).1; omega), if_neg (c := hasD (lastR y) t = true) (fun z => by have := ((hx2 t).mp z).1; omega)]
          by_cases c2 : x.1 ≤ t
          · rw [if_pos ((hn1 t).mpr ⟨c2, c1⟩), if_pos ((hx1 t).mpr ⟨c2, by omega⟩)]
          · rw [if_neg (fun z => c2 ((hn1 t).mp z).1), if_neg (fun z => c2 ((hx1 t).mp z).1)]
        · rw [if_neg (c := hasD (lastR (x.1, some e, x.2.2)) t = true) (fun z => c1 ((hn1 t).mp z).2), if_neg (c := hasD (lastR x) t = true) (fun z => by have := ((hx1 t).mp z).2; exact ht ⟨by omega, this⟩)]
          by_cases c2 : hasD (lastR y) t = true
          · rw [if_pos c2, if_pos ((hn2 t).mpr ⟨by omega, ((hx2 t).mp c2).2⟩)]
          · rw [if_neg c2, if_neg (fun z => c2 ((hx2 t).mpr ⟨by have : ¬ t < d := fun w => ht ⟨by omega, w⟩; omega, ((hn2 t).mp z).2⟩))])
      rw [e2] at this
      exact this
    · rw [if_neg q1]
      by_cases q2 : d < e
      · rw [if_pos q2]
        have hg : ∀ t, hasD (d, some (e - 1), x.2.2) t = true ↔ d ≤ t ∧ t < e := fun t => by
          rw [hasD_iff]
          exact ⟨fun z => ⟨z.1, by have := z.2 (e - 1) rfl; omega⟩, fun z => ⟨z.1, fun l el => by cases el; omega⟩⟩
        obtain ⟨dA, dB⟩ := mid_out (g := (d, some (e - 1), x.2.2)) a' ⟨x, by simp, by show x.1 ≤ d; omega⟩ fun z hz t ht => by
          obtain ⟨k, ek, hk⟩ := hB z hz
          have := hy k ek
          have := ((hg t).mp ht).2
          omega
        have := swap_table (M := [x, y]) (M' := [(x.1, some e, x.2.2), (e, y.2.1, y.2.2)]) a' b' (fun l el => by cases el; show d ≤ e - 1; omega) dA dB (fun t ht => by
          obtain ⟨t1, t2⟩ := (hg t).mp ht
          rw [cov2, if_pos ((hn1 t).mpr ⟨by omega, t2⟩)]
          rfl) (fun t ht => by
          have ht : ¬ (d ≤ t ∧ t < e) := fun z => by rw [(hg t).mpr z] at ht; cases ht
          rw [cov, cov2]
          by_cases c1 : t < d
          · rw [if_neg (c := hasD (lastR (e, y.2.1, y.2.2)) t = true) (fun z => by have := ((hn2 t).mp z).1; omega), if_neg (c := hasD (lastR y) t = true) (fun z => by have := ((hx2 t).mp z).1; omega)]
            by_cases c2 : x.1 ≤ t
            · rw [if_pos ((hn1 t).mpr ⟨c2, by omega⟩), if_pos ((hx1 t).mpr ⟨c2, c1⟩)]
            · rw [if_neg (fun z => c2 ((hn1 t).mp z).1), if_neg (fun z => c2 ((hx1 t).mp z).1)]
          · have c3 : ¬ t < e := fun w => ht ⟨by omega, w⟩
            rw [if_neg (c := hasD (lastR (x.1, some e, x.2.2)) t = true) (fun z => c3 ((hn1 t).mp z).2), if_neg (c := hasD (lastR x) t = true) (fun z => c1 ((hx1 t).mp z).2)]
            by_cases c2 : hasD (lastR y) t = true
            · rw [if_pos c2, if_pos ((hn2 t).mpr ⟨by omega, ((hx2 t).mp c2).2⟩)]
            · rw [if_neg c2, if_neg (fun z => c2 ((hx2 t).mpr ⟨by omega, ((hn2 t).mp z).2⟩))])
        rw [e2] at this
        exact this
      · rw [if_neg q2]
        obtain rfl : e = d := by omega
        have ex2 : x = (x.1, some e, x.2.2) := by rw [← ex]
        have ey2 : y = (e, y.2.1, y.2.2) := by rw [← ey]
        show tabL (A ++ x :: y :: B) = _
        rw [← ex2, ← ey2, e2]
  · rcases List.mem_append.mp hr with hr | hr
    · exact hw r (by rcases List.mem_append.mp hr with q | q <;> simp [q])
    · simp only [List.mem_cons, List.not_mem_nil, or_false] at hr
      rcases hr with rfl | rfl
      · exact hw x (by simp)
      · exact hw y (by simp)
/-! the row here and the row before it -/
theorem here_split {ts : List Run} {d : Int} {r : Run} (a : AscS ts) (h : hereR ts d = some r) : ∃ A B, ts = A ++ r :: B ∧ bears r.1 r.2.1 d = true ∧ nmBearer ts d = [r] := by
  have hm := here_mem h
  have hb : bears r.1 r.2.1 d = true := (List.mem_filter.mp (List.mem_of_getLast? h)).2
  obtain ⟨A, B, rfl⟩ := List.append_of_mem hm
  refine ⟨A, B, rfl, hb, ?_⟩
  obtain ⟨p1, p2, p3⟩ := List.pairwise_append.mp a.2
  have f1 : A.filter (fun r : Run => bears r.1 r.2.1 d) = [] := List.filter_eq_nil_iff.mpr fun x hx z => by
    obtain ⟨n, en, hn⟩ := p3 x hx r List.mem_cons_self
    rw [en] at z
    have := bears_stop z
    have := bears_first hb
    omega
  have f2 : B.filter (fun r : Run => bears r.1 r.2.1 d) = [] := List.filter_eq_nil_iff.mpr fun x hx z => by
    obtain ⟨n, en, hn⟩ := (List.pairwise_cons.mp p2).1 x hx
    have := bears_first z
    rw [en] at hb
    have := bears_stop hb
    omega
  have f3 : (r :: B).filter (fun r : Run => bears r.1 r.2.1 d) = [r] := by
    rw [List.filter_cons_of_pos (p := fun r : Run => bears r.1 r.2.1 d) hb, f2]
  unfold nmBearer
  rw [List.filter_append, f1, f3]
  rfl
theorem before_split {A B : List Run} {r : Run} {d : Int} (a : AscS (A ++ r :: B)) (hb : bears r.1 r.2.1 d = true) : beforeR (A ++ r :: B) d = A.getLast? ∧ nmBefore (A ++ r :: B) d = (match A.getLast? with | none => [r] | some b => [b, r]) := by
  obtain ⟨p1, p2, p3⟩ := List.pairwise_append.mp a.2
  have hd := bears_first hb
  constructor
  · unfold beforeR
    have f1 : A.filter (fun r : Run => match r.2.1 with | some n => decide (n ≤ d) | none => false) = A := List.filter_eq_self.mpr fun x hx => by
      obtain ⟨n, en, hn⟩ := p3 x hx r List.mem_cons_self
      rw [en]
      show decide (n ≤ d) = true
      simp
      omega
    have f2 : (r :: B).filter (fun r : Run => match r.2.1 with | some n => decide (n ≤ d) | none => false) = [] := List.filter_eq_nil_iff.mpr fun x hx z => by
      have up : ∀ n, x.2.1 = some n → d < n := by
        rcases List.mem_cons.mp hx with rfl | hx
        · exact (bears_iff.mp hb).2
        · intro n en
          obtain ⟨k, ek, hk⟩ := (List.pairwise_cons.mp p2).1 x hx
          have := (bears_iff.mp hb).2 k ek
          have := a.1 x (by simp [hx]) n en
          omega
      cases e : x.2.1 with
      | none => rw [e] at z; cases z
      | some n =>
        rw [e] at z
        have := up n e
        simp at z
        omega
    have f3 : A.filter (fun r : Run => match r.2.1 with | some n => decide (n ≤ d) | none => false) ++ (r :: B).filter (fun r : Run => match r.2.1 with | some n => decide (n ≤ d) | none => false) = A := by rw [f1, f2, List.append_nil]
    exact (congrArg List.getLast? (List.filter_append ..)).trans (congrArg List.getLast? f3)
  · have no : ∀ x ∈ A, bears x.1 x.2.1 d = false := fun x hx => Bool.eq_false_iff.mpr fun z => by
      obtain ⟨n, en, hn⟩ := p3 x hx r List.mem_cons_self
      rw [en] at z
      have := bears_stop z
      omega
    have fi : (A ++ r :: B).findIdx? (fun r : Run => bears r.1 r.2.1 d) = some A.length := by
      rw [List.findIdx?_eq_some_iff_getElem]
      refine ⟨by simp, by simpa using hb, fun j hj => ?_⟩
      rw [List.getElem_append_left hj]
      rw [no _ (List.getElem_mem hj)]
      simp
    unfold nmBefore
    rw [fi]
    rcases List.eq_nil_or_concat A with rfl | ⟨A', b, rfl⟩
    · rfl
    · rw [List.concat_eq_append]
      have e1 : (A' ++ [b]).getLast? = some b := by simp
      rw [e1]
      show ((A' ++ [b] ++ r :: B).drop ((A' ++ [b]).length - 1)).take ((A' ++ [b]).length + 1 - ((A' ++ [b]).length - 1)) = [b, r]
      have e2 : (A' ++ [b]).length - 1 = A'.length := by simp
      have e3 : (A' ++ [b]).length + 1 - A'.length = 2 := by simp; omega
      rw [e2, e3, List.append_assoc, List.drop_left]
      rfl
theorem later_next {ts : List Run} {d : Int} : (nmNext ts d).head? = laterR ts d := by
  unfold nmNext laterR
  cases ts.filter (fun r : Run => decide (d < r.1)) <;> rfl
theorem later_lt {ts : List Run} {d : Int} {r : Run} (h : laterR ts d = some r) : d < r.1 := by
  have := (List.mem_filter.mp (List.mem_of_head? h)).2
  simpa using this
/-! the words, one by one -/
section
variable {rs ts : List Run} {d : Int} {e : Option Int} {v : V}
theorem giveW_set : giveW "set" rs d e v = some [(d, none, v)] := by unfold giveW; rw [if_pos rfl]
theorem giveW_end : giveW "end" rs d e v = some [(d, none, .non)] := by unfold giveW; rw [if_neg (by decide +kernel), if_pos rfl]
theorem giveW_fill : giveW "fill" rs d e v = some (gvFill rs d v) := by unfold giveW; rw [if_neg (by decide +kernel), if_neg (by decide +kernel), if_pos rfl]
theorem giveW_between : giveW "between" rs d e v = if d ≤ e.getD 0 then some [(d, e, v)] else none := by unfold giveW; rw [if_neg (by decide +kernel), if_neg (by decide +kernel), if_neg (by decide +kernel), if_pos rfl]
theorem giveW_clear : giveW "clear" rs d e v = if d ≤ e.getD 0 then some [(d, e, .non)] else none := by unfold giveW; rw [if_neg (by decide +kernel), if_neg (by decide +kernel), if_neg (by decide +kernel), if_neg (by decide +kernel), if_pos rfl]
theorem giveW_take : giveW "take" rs d e v = gvTake rs := by unfold giveW; rw [if_neg (by decide +kernel), if_neg (by decide +kernel), if_neg (by decide +kernel), if_neg (by decide +kernel), if_neg (by decide +kernel), if_pos rfl]
theorem giveW_give : giveW "give" rs d e v = gvOn rs := by unfold giveW; rw [if_neg (by decide +kernel), if_neg (by decide +kernel), if_neg (by decide +kernel), if_neg (by decide +kernel), if_neg (by decide +kernel), if_neg (by decide +kernel), if_pos rfl]
theorem giveW_move : giveW "move" rs d e v = gvMove rs d (e.getD 0) := by unfold giveW; rw [if_neg (by decide +kernel), if_neg (by decide +kernel), if_neg (by decide +kernel), if_neg (by decide +kernel), if_neg (by decide +kernel), if_neg (by decide +kernel), if_neg (by decide +kernel)]
theorem or_no {a b c : Str} (h : a ≠ b) (h2 : a ≠ c) : ¬ (a = b ∨ a = c) := fun z => z.elim h h2
theorem dueR_set (h : e.isSome = decide (("set" : Str) ∈ twoDays)) : dueR "set" ts d e v = some (ts.flatMap (cutR d none) ++ [(d, none, v)]) := by unfold dueR; rw [if_neg (fun z => z h), if_pos (Or.inl rfl), if_pos rfl]
theorem dueR_end (h : e.isSome = decide (("end" : Str) ∈ twoDays)) : dueR "end" ts d e v = some (ts.flatMap (cutR d none) ++ []) := by unfold dueR; rw [if_neg (fun z => z h), if_pos (Or.inr rfl), if_neg (c := ("end" : Str) = "set") (by decide +kernel)]
theorem dueR_fill (h : e.isSome = decide (("fill" : Str) ∈ twoDays)) : dueR "fill" ts d e v = some (ts.flatMap (cutR d ((laterR ts d).map (·.1))) ++ [(d, (laterR ts d).map (·.1), v)]) := by unfold dueR; rw [if_neg (fun z => z h), if_neg (or_no (by decide +kernel) (by decide +kernel)), if_pos rfl]
theorem dueR_between (h : e.isSome = decide (("between" : Str) ∈ twoDays)) : dueR "between" ts d e v = if e.getD 0 < d then none else some (ts.flatMap (cutR d (some (e.getD 0 + 1))) ++ [(d, some (e.getD 0 + 1), v)]) := by unfold dueR; rw [if_neg (fun z => z h), if_neg (or_no (by decide +kernel) (by decide +kernel)), if_neg (c := ("between" : Str) = "fill") (by decide +kernel), if_pos (Or.inl rfl), if_pos (c := ("between" : Str) = "between") rfl]
theorem dueR_clear (h : e.isSome = decide (("clear" : Str) ∈ twoDays)) : dueR "clear" ts d e v = if e.getD 0 < d then none else some (ts.flatMap (cutR d (some (e.getD 0 + 1))) ++ []) := by unfold dueR; rw [if_neg (fun z => z h), if_neg (or_no (by decide +kernel) (by decide +kernel)), if_neg (c := ("clear" : Str) = "fill") (by decide +kernel), if_pos (Or.inr rfl), if_neg (c := ("clear" : Str) = "between") (by decide +kernel)]
theorem dueR_take (h : e.isSome = decide (("take" : Str) ∈ twoDays)) : dueR "take" ts d e v = match hereR ts d with | none => none | some h => some (ts.filter fun r => decide (r.1 ≠ h.1)) := by
  unfold dueR
  rw [if_neg (fun z => z h), if_neg (or_no (by decide +kernel) (by decide +kernel)), if_neg (c := ("take" : Str) = "fill") (by decide +kernel), if_neg (or_no (by decide +kernel) (by decide +kernel))]
  cases hereR ts d with
  | none => rfl
  | some h => exact if_pos rfl
theorem dueR_give (h : e.isSome = decide (("give" : Str) ∈ twoDays)) : dueR "give" ts d e v = match hereR ts d with | none => none | some h => match beforeR ts d with | none => some (ts.filter fun r => decide (r.1 ≠ h.1)) | some b => some ((ts.filter fun r => decide (r.1 ≠ h.1)).filter (fun r => decide (r.1 ≠ b.1)) ++ [(b.1, h.2.1, b.2.2)]) := by
  unfold dueR
  rw [if_neg (fun z => z h), if_neg (or_no (by decide +kernel) (by decide +kernel)), if_neg (c := ("give" : Str) = "fill") (by decide +kernel), if_neg (or_no (by decide +kernel) (by decide +kernel))]
  cases hereR ts d with
  | none => rfl
  | some h =>
    refine (if_neg (c := ("give" : Str) = "take") (by decide +kernel)).trans ?_
    cases beforeR ts d with
    | none => exact if_pos rfl
    | some b => exact if_pos rfl
theorem dueR_move (h : e.isSome = decide (("move" : Str) ∈ twoDays)) : dueR "move" ts d e v = match hereR ts d with | none => none | some h => match beforeR ts d with | none => none | some b => if h.1 ≠ d ∨ b.2.1 ≠ some d ∨ e.getD 0 ≤ b.1 ∨ (∃ n, h.2.1 = some n ∧ n ≤ e.getD 0) then none else some ((ts.filter fun r => decide (r.1 ≠ h.1)).filter (fun r => decide (r.1 ≠ b.1)) ++ [(b.1, some (e.getD 0), b.2.2), (e.getD 0, h.2.1, h.2.2)]) := by
  unfold dueR
  rw [if_neg (fun z => z h), if_neg (or_no (by decide +kernel) (by decide +kernel)), if_neg (c := ("move" : Str) = "fill") (by decide +kernel), if_neg (or_no (by decide +kernel) (by decide +kernel))]
  cases hereR ts d with
  | none => rfl
  | some h =>
    refine (if_neg (c := ("move" : Str) = "take") (by decide +kernel)).trans ?_
    cases beforeR ts d with
    | none => exact if_neg (by decide +kernel)
    | some b => exact if_neg (by decide +kernel)
end
end Vf
set_option maxHeartbeats 2000000
/-! own != own where the class has an __eq__ and no __ne__ -/
namespace Vf
open PySem PySem.Spec PyProof.Rows L2
structure NeT (K : PySem.W.Frag) (C : Addr) : Prop where
  ne : PySem.W.findIn K (.ref C) "__ne__" = some (some (.builtin "object.__ne__"))
  mr : PySem.W.mroIn K C (.type "object") = some true
section
variable {M : Model} {prog : Program} {w : World} {A : Around} {E : Value → Shared → Prop} {s : Shared} {K : PySem.W.Frag} {x C f : Addr} {ox : Obj} {od : Option Obj} {b : Value}
theorem ifBound_objNe {args : List Value} {Q : Option Value → Shared → Prop} (X : K.In s.heap) (I : PySem.W.InstAt s.heap x ox C od) (hs : PySem.W.findIn K (.ref C) "__ne__" = some (some (.builtin "object.__ne__")))
    (h : wpAny M A (call (.builtin "object.__ne__") (.ref x :: args)) (fun v => Q (some v)) E s) : wpAny M A (callSpecialIfBound? (.ref x) "__ne__" args) Q E s := by
  simp only [callSpecialIfBound?, bindSpecialIfBound?]
  refine wpAny_holding (wpAny_bind (wpAny_bind (wpAny_bind (I.type.here ((PySem.W.looks_findIn X hs).here ?_)))))
  refine wpAny_bind (wpAny_askSetting (wpAny_ite ?_))
  have fin : wpAny M A (call (.builtin "object.__ne__") ([.ref x] ++ args) >>= fun v => pure (some v)) Q E s := wpAny_bind (wpAny_mono h (fun v s' h' => wpAny_pure h') fun _ _ h' => h')
  split
  · exact wpAny_bind (wpAny_of_eq (F.cmp_object.ne.bind _) (wpAny_pure (by exact fin)))
  · exact wpAny_tryCatch (wpAny_bind (wpAny_of_eq (F.cmp_object.ne.bind _) (wpAny_pure (by exact fin))))
theorem objNe_entry (X : K.In s.heap) (I : PySem.W.InstAt s.heap x ox C od) (hs : PySem.W.findIn K (.ref C) "__eq__" = some (some (.ref f))) (hf : PySem.W.isFn K (.ref f) = true) (hu : A.units < cLine) {Q : Fin → Shared → Prop}
    (hcall : wpAny (model prog w) A (call (.ref f) [.ref x, b]) (fun v s' => ∃ b, v = .bool b ∧ Q (.done (.ret (.bool (!b)))) s') E s) :
    wpAny (model prog w) A (Builtin.«object.__ne__» ⟨[.ref x, b], []⟩) Q E s := by
  unfold Builtin.«object.__ne__»
  repeat (first
    | with_reducible refine wpAny_cRoomFor hu ?_
    | (refine wpAny_bind (m := callSpecialIfBound? (.ref x) (Str.ofString "__eq__") [b])
        (PySem.W.ifBound_K X I hs hf (wpAny_mono hcall (fun r s' hr => by
          obtain ⟨b, rfl, hq⟩ := hr
          repeat (first | exact hq | exact wpAny_pure hq | exact wpAny_truthy_bool hq | (refine wpAny_bind (m := truthy (.bool _)) (wpAny_truthy_bool ?_)) | wp_step)) fun _ _ e => e)))
    | wp_step)
theorem rc_ne (hu : A.units + 1 < cLine) (X : K.In s.heap) (I : PySem.W.InstAt s.heap x ox C od) {tb : Value} (hb : PySem.W.Looks (model prog w) s.heap (typeOf b) tb) (hn : PySem.W.notFirst K C tb = true) (nt : NeT K C)
    (hs : PySem.W.findIn K (.ref C) "__eq__" = some (some (.ref f))) (hf : PySem.W.isFn K (.ref f) = true) {Q : Value → Shared → Prop}
    (h : wpAny (model prog w) A.in1 (call (.ref f) [.ref x, b]) (fun v s' => ∃ b, v = .bool b ∧ Q (.bool (!b)) s') E s) : wpAny (model prog w) A (richCompare .NotEq (.ref x) b) Q E s := by
  have one : wpAny (model prog w) A (tryCompare (.ref x) (cmpInfo .NotEq).2.1 b) (fun r s' => ∃ v, r = some v ∧ Q v s') E s := by
    unfold tryCompare
    refine wpAny_bind (ifBound_objNe X I nt.ne (wpAny_call (codeAny_call_builtin F.cmp_object.ne.plain F.cmpEntry_ne (PySem.W.check_slot F.cmpKind_ne F.cmpSplit_ne (I.type.andThen (PySem.W.looks_mroIn X nt.mr)) (F.cmpArgs_ne _ _)
      (objNe_entry (A := A.in1) X I hs hf hu (wpAny_mono h (fun v s' hv => ?_) fun _ _ e => e))))))
    obtain ⟨b, rfl, hq⟩ := hv
    first | exact ⟨b, rfl, wpAny_pure ⟨_, rfl, hq⟩⟩ | exact ⟨b, rfl, wpAny_pure (wpAny_pure ⟨_, rfl, hq⟩)⟩
  unfold richCompare
  simp only [oneThing_ref]
  refine wpAny_holding (wpAny_bind (wpAny_cRoomFor (Nat.lt_of_succ_lt hu) ?_))
  refine wpAny_bind (I.type.here (wpAny_bind (hb.here ?_)))
  split
  · rename_i q
    have e : PySem.W.subIn K tb (.ref C) = some false := by
      rcases Bool.or_eq_true_iff.mp hn with e | e
      · rw [beq_iff_eq.mp e] at q; simp at q
      · exact beq_iff_eq.mp e
    refine wpAny_bind ((PySem.W.looks_subIn X e).here ?_)
    simp only [Bool.false_eq_true, if_false]
    refine wpAny_bind (wpAny_mono one (fun r s' z => ?_) fun _ _ e => e)
    obtain ⟨v, rfl, hq⟩ := z
    exact wpAny_pure hq
  · refine wpAny_bind (wpAny_pure ?_)
    simp only [Bool.false_eq_true, if_false]
    refine wpAny_bind (wpAny_mono one (fun r s' z => ?_) fun _ _ e => e)
    obtain ⟨v, rfl, hq⟩ := z
    exact wpAny_pure hq
end
section
variable {X : Cx} {CX : CXT} {k : Nat} {C f : Addr} {fd : FuncData} {ps : List Str} {sp : Sp} {E : XK}
/-- own != own by the class's __eq__ -/
def rNeOO (C : Addr) (sp : Sp) (E : XK) : R2 := fun x y H Q => ∃ a dx fs b dy gs, x = .ref a ∧ y = .ref b ∧ H a = some (.ins C dx fs) ∧ H b = some (.ins C dy gs) ∧ sp [.ref a, .ref b] H (fun z H' => ∃ c, z = .bl c ∧ Q (.bl (!c)) H') E
theorem op_neOO (nt : NeT X.K C) (m : Meth X.K C "__eq__" f) (F : FnOk X.prog X.w X.K X.mg X.base CX k f fd ps sp) (hr : Room (k + 1) X.A) (hb : Binds X.K fd ps []) (hx : Passes CX X E) : OpR X (compareOp .NotEq) (rNeOO C sp E) := by
  intro pins s σ H x y v u Q I rx ry h
  obtain ⟨a, dx, fs, b, dy, gs, rfl, rfl, ea, eb, q⟩ := h
  obtain rfl : v = Value.ref a := rx
  obtain rfl : u = Value.ref b := ry
  obtain ⟨mA, O, _⟩ := ins_get I.hok ea
  obtain ⟨mB, O', _⟩ := ins_get I.hok eb
  obtain ⟨od, J, _⟩ := O.look
  obtain ⟨od', J', _⟩ := O'.look
  show wpAny _ _ (richCompare .NotEq (.ref a) (.ref b)) _ _ _
  have hu : X.A.units + 1 < cLine := by have := hr.units; omega
  refine rc_ne (tb := .ref C) hu I.kIn J J'.type (by simp [PySem.W.notFirst]) nt m.at_ m.fn ?_
  refine thn (run_in1 (us := [.ref a, .ref b]) (vs := [.ref a, .ref b]) F hr hb hx I (.cons rfl (.cons rfl .nil)) q) fun w s' h3 => ?_
  obtain ⟨z, H', I', rz, c, rfl, q2⟩ := h3
  cases rz
  exact ⟨c, rfl, .bl (!c), H', I', rfl, q2⟩
theorem r_neOO {a b dx dy : Addr} {fs gs : List (Str × V)} {H : Hp} {Q : VK} (h : H a = some (.ins C dx fs)) (h2 : H b = some (.ins C dy gs)) (q : sp [.ref a, .ref b] H (fun z H' => ∃ c, z = .bl c ∧ Q (.bl (!c)) H') E) : rNeOO C sp E (.ref a) (.ref b) H Q := ⟨a, dx, fs, b, dy, gs, rfl, rfl, h, h2, q⟩
end
end Vf
set_option maxHeartbeats 2000000
set_option exponentiation.threshold 3000
/-! f'{x:>12}' of ints and texts -/
namespace Vf
open PySem PySem.Spec PyProof.Rows L2 Builtin Builtin.Float
def sp12 : Str := ">12"
def fs12 : FormatSpec := { align := 62, width := some 12 }
theorem parse12 : parseFormatSpec sp12.cps.toList "int" 62 = .ok fs12 := by kernel_rfl
theorem parse12s : parseFormatSpec sp12.cps.toList "str" 60 = .ok fs12 := by kernel_rfl
theorem digs_len (n : Nat) (h : n.log2 < 1920) : (Nat.toDigits 10 n).length ≤ 1930 := by
  have h0 : n < 2 ^ 1920 := by
    rcases Nat.eq_zero_or_pos n with rfl | hp
    · exact Nat.two_pow_pos _
    · exact (Nat.log2_lt (by omega)).mp h
  have : n < 10 ^ 1920 := Nat.lt_of_lt_of_le h0 (Nat.pow_le_pow_left (by omega) _)
  have := digits10_le (k := 1920) (by omega) this
  omega
theorem int12 (a : Int) : intSpecText fs12 a = Txt.rjust (Str.ofString (toString a)) 12 := by
  unfold intSpecText intField'
  have hd : ∀ l : List Char, (l.map fun c => (if (100 : Nat) == 88 then c.toUpper else c).toNat) = l.map Char.toNat := fun l => by simp
  rw [hd]
  have hne : ((Nat.toDigits 10 a.natAbs).map Char.toNat).isEmpty = false := by
    have := tDigits_len_ge 10 a.natAbs
    cases h : Nat.toDigits 10 a.natAbs with
    | nil => rw [h] at this; simp at this
    | cons _ _ => rfl
  have tx : Str.ofString (toString a) = ⟨((if a < 0 then [45] else []) ++ (Nat.toDigits 10 a.natAbs).map Char.toNat).toArray⟩ := by
    cases a with
    | ofNat m =>
      rw [text_ofNat m, if_neg (by simp)]
      rfl
    | negSucc m =>
      rw [if_pos (by simp)]
      have : toString (Int.negSucc m) = "-" ++ toString (Int.ofNat (m + 1)) := rfl
      have e2 := text_ofNat (m + 1)
      rw [this]
      have e3 : Str.ofString ("-" ++ toString (Int.ofNat (m + 1))) = Str.ofString "-" ++ Str.ofString (toString (Int.ofNat (m + 1))) := TL.ext_tl (by rw [TL.tl_append, TL.tl_ofString, TL.tl_ofString, TL.tl_ofString]; simp)
      rw [e3, e2]
      refine TL.ext_tl ?_
      rw [TL.tl_append, TL.tl_ofString]
      rfl
  rw [tx]
  simp only [fs12, hne, Bool.false_eq_true, if_false, show ((62 : Nat) == 60) = false by decide, show ((62 : Nat) == 94) = false by decide, show ((62 : Nat) == 61) = false by decide, Bool.and_false, List.length_nil, List.append_nil, List.nil_append, List.replicate_zero]
  unfold Txt.rjust Builtin.Str.padded
  generalize (Nat.toDigits 10 a.natAbs).map Char.toNat = ds
  simp only [Str.length, List.size_toArray, List.length_append]
  have hs : (if decide (a < 0) = true then [45] else ([] : List Nat)) = if a < 0 then [45] else [] := by by_cases h : a < 0 <;> simp [h]
  rw [hs]
  generalize (if a < 0 then [45] else ([] : List Nat)) = sg
  have z : List.replicate ((0 : Int).toNat - ds.length) 48 = ([] : List Nat) := by simp
  rw [z, List.nil_append]
  have e : (((12 : Nat) : Int) - ((sg.length : Int) + (0 : Nat) + (0 : Nat)) - ((([] : List Nat).length + ds.length : Nat) : Int)).toNat = (12 : Int).toNat - (sg.length + ds.length) := by
    show (((12 : Nat) : Int) - ((sg.length : Int) + (0 : Nat) + (0 : Nat)) - ((0 + ds.length : Nat) : Int)).toNat = (12 : Int).toNat - (sg.length + ds.length)
    omega
  rw [e]
  by_cases h : (12 : Int) ≤ ((sg.length + ds.length : Nat) : Int)
  · rw [if_pos h]
    have e2 : (12 : Int).toNat - (sg.length + ds.length) = 0 := by omega
    rw [e2, List.replicate_zero, List.nil_append]
  · rw [if_neg h]
    refine Str.ext' ?_
    simp
section
variable {prog : Program} {w : World} {A : Around} {E : Value → Shared → Prop} {s : Shared}
theorem ff12_int {a : Int} {t : Tok} {Q : Value → Shared → Prop} (hlt : a.natAbs.log2 < 1920)
    (h : Q (.str (Txt.rjust (Str.ofString (toString a)) 12) (s.toks + 1)) { s with toks := s.toks + 1 + 1 }) :
    wpAny (model prog w) A (formatField (.int a t) sp12) Q E s := by
  rw [← int12] at h
  have hdig := digs_len _ hlt
  have hlen : (intSpecText fs12 a).length ≤ sizeLine := by
    rw [intSpecText_length a rfl rfl, sizeLine_eq]
    have : fs12.width.getD 0 = 12 := rfl
    split <;> omega
  obtain ⟨f, hf⟩ : ∃ f : FormatSpec, f = fs12 := ⟨_, rfl⟩
  rw [← hf] at h hlen
  have hp : parseFormatSpec sp12.cps.toList "int" 62 = .ok f := by rw [hf]; exact parse12
  have hty : f.type.getD (if sp12.cps.back? == some 0 then 0 else 100) = 100 := by rw [hf]; decide +kernel
  have hpr : f.precision = none := by rw [hf]; rfl
  have hz : f.noNeg0 = false := by rw [hf]; rfl
  have hal : f.alt = false := by rw [hf]; rfl
  have hw : ¬ f.width.getD 0 > 100000 := by rw [hf]; decide
  have hgr : f.grouping = none := by rw [hf]; rfl
  have hsg : f.sign = none := by rw [hf]; rfl
  clear hf
  have hne : (sp12.length == 0) = false := by decide +kernel
  have hasc : ((sp12.cps.toList.drop 1).any (· ≥ 128) || (sp12.cps.getD 0 0 ≥ 128 && !([60, 62, 61, 94] : List Nat).contains (sp12.cps.getD 1 0))) = false := by decide +kernel
  have ten : ((10 : Nat) == 10) = true := by decide
  have e0 : formatField (.int a t) sp12 = holding [.int a t] (pyFormat (.int a t) sp12) := rfl
  rw [e0]
  refine wpAny_holding ?_
  unfold pyFormat
  refine wpAny_bind (wpAny_mkStr ?_ (by decide +kernel))
  refine wpAny_bind (m := callSpecial? (.int a t) (Str.ofString "__format__") [.str sp12 s.toks]) (wpAny_callSpecial?_slot (name := Str.ofString "__format__") (typeIs_int _ a t) slot_int_format
    (wpAny_call (codeAny_call_builtin slot_int_format.plain entry_int_format (slot_int_format.check _ _ _ _ _ _ _ _ (typeIs_int _ a t) (args_int_format _ _) ?_))))
  have nn : (Value.str sp12 s.toks == Value.none) = false := rfl
  unfold Builtin.«int.__format__»
  simp only [selfAndOne, noKeywords, Builtin.Int.intOfSelf, asInt?, asStr?, List.isEmpty_nil, if_true, pure_bind, bind_pure, bind_assoc, hne, hasc, Bool.false_eq_true, if_false, nn]
  refine wpAny_bind (wpAny_typeNameOf (T := "str") (typeIs_str _ _ _) (by decide) fun _ => ?_)
  refine wpAny_bind (wpAny_typeNameOfCut_int ?_)
  simp only [hp, hty]
  rw [if_pos (by decide)]
  show wpAny _ _ (if _ then _ else _) _ _ _
  rw [if_neg (by simp [hpr])]
  show wpAny _ _ (if _ then _ else _) _ _ _
  rw [if_neg (by simp [hz])]
  show wpAny _ _ (if _ then _ else _) _ _ _
  rw [if_neg (by decide)]
  show wpAny _ _ (do let r ← Builtin.overDigitLimit? a; _) _ _ _
  rw [PyProof.Rows.overDigitLimit_small hlt]
  refine wpAny_bind (wpAny_pure ?_)
  show wpAny _ _ (if _ then _ else _) _ _ _
  rw [if_neg (by simpa using hw)]
  show wpAny _ _ (retStr _) _ _ _
  unfold retStr
  refine wpAny_bind (wpAny_mkStr (wpAny_pure ?_) ?hs2)
  case hs2 =>
    simp only [hal, Bool.false_eq_true, if_false, ten, if_true]
    conv => lhs; arg 1; whnf
    simp only [intSpecText, intField', hgr, hsg, hal, Bool.false_eq_true, if_false, ten, if_true] at hlen ⊢
    exact hlen
  dsimp only
  refine wpAny_bind (wpAny_isInstance (typeIs_str _ _ _) isSubtype_str_str (wpAny_pure ?_))
  simp only [hal, Bool.false_eq_true, if_false, ten, if_true]
  conv => arg 1; arg 1; whnf
  simp only [intSpecText, intField', hgr, hsg, hal, Bool.false_eq_true, if_false, ten, if_true] at h ⊢
  exact h
end
end Vf
namespace Vf
open PySem PySem.Spec PyProof.Rows L2 Builtin Builtin.Float
theorem strField12 (x : Str) (n : String) : Str.strField x fs12 n = .ok (if 12 ≤ x.length then none else some (Str.padded x (12 - x.length) 0 32)) := by
  show (if (decide (12 ≤ x.length) && true) = true then (.ok none : Except String (Option Str)) else .ok (some (Str.padded (Str.strSub x 0 x.length) (12 - (Str.strSub x 0 x.length).length) (12 - (Str.strSub x 0 x.length).length - (12 - (Str.strSub x 0 x.length).length)) 32))) = _
  rw [PySem.StrLaws.sub_whole, Bool.and_true, Nat.sub_self]
  by_cases h : 12 ≤ x.length
  · rw [if_pos (decide_eq_true h), if_pos h]
  · rw [if_neg (by simpa using h), if_neg h]
theorem rjust12 (x : Str) : Txt.rjust x 12 = if 12 ≤ x.length then x else Str.padded x (12 - x.length) 0 32 := by
  unfold Txt.rjust
  by_cases h : 12 ≤ x.length
  · rw [if_pos (by omega), if_pos h]
  · rw [if_neg (by omega), if_neg h]; rfl
section
variable {prog : Program} {w : World} {A : Around} {E : Value → Shared → Prop} {s : Shared}
theorem typeName_str : typeName (.type "str") = pure "str" := by unfold typeName; rw [find?_eq_fast]; kernel_rfl
theorem wpAny_typeNameOfCut_str {n : Nat} {a : Str} {t : Tok} {Q : String → Shared → Prop} (h : Q "str" s) : wpAny (model prog w) A (typeNameOfCut n (.str a t)) Q E s := by
  unfold typeNameOfCut shownTypeOf
  refine wpAny_bind (wpAny_bind (wpAny_typeOf (typeIs_str _ a t) ?_))
  simp only [show (Value.type "str" == Value.type "builtin_function_or_method") = false by decide, Bool.false_eq_true, if_false]
  refine wpAny_pure ?_
  rw [show typeNameCut n (.type "str") = typeName (.type "str") from rfl, typeName_str]; exact wpAny_pure h
theorem ff12_str {x : Str} {t : Tok} {Q : Value → Shared → Prop} (h : ∀ t' k, Q (.str (Txt.rjust x 12) t') { s with toks := k }) :
    wpAny (model prog w) A (formatField (.str x t) sp12) Q E s := by
  have hne : (sp12.length == 0) = false := by decide +kernel
  have e : formatField (.str x t) sp12 = holding [.str x t] (pyFormat (.str x t) sp12) := by
    unfold formatField
    simp only [hne, Bool.false_eq_true, if_false] <;> rfl
  rw [e]
  refine wpAny_holding ?_
  unfold pyFormat
  refine wpAny_bind (wpAny_mkStr ?_ (by decide +kernel))
  refine wpAny_bind (m := callSpecial? (.str x t) (Str.ofString "__format__") [.str sp12 s.toks]) (wpAny_callSpecial?_slot (name := Str.ofString "__format__") (typeIs_str _ x t) F.slot_str_format ?_)
  refine wpAny_call (codeAny_call_builtin F.slot_str_format.plain F.entry_str_format (F.slot_str_format.check _ _ _ _ _ _ _ _ (typeIs_str _ x t) (F.args_str_format_2 _ _) ?_))
  unfold Builtin.«str.__format__»
  have hasc : ((sp12.cps.toList.drop 1).any (· ≥ 128) || (sp12.cps.getD 0 0 ≥ 128 && !([60, 62, 61, 94] : List Nat).contains (sp12.cps.getD 1 0))) = false := by decide +kernel
  have hb : (sp12.cps.back? == some 0) = false := by decide +kernel
  simp only [Str.strOneArg, Str.textOf, selfAndOne, noKeywords, asStr?, List.isEmpty_nil, if_true, pure_bind, bind_pure, bind_assoc, hne, hasc, Bool.false_eq_true, if_false]
  refine wpAny_bind (wpAny_typeNameOfCut_str ?_)
  rw [parse12s]
  have e2 : ((do
      let f ← (Except.ok fs12 : Except String FormatSpec)
      if Str.tooLong ((if (f.type.isNone && sp12.cps.back? == some 0) = true then { f with type := some 0 } else f).width.getD 0) = true then pure none
      else do
        let r ← Str.strField x (if (f.type.isNone && sp12.cps.back? == some 0) = true then { f with type := some 0 } else f) "str"
        pure (some r)) : Except String (Option (Option Str))) = .ok (some (if 12 ≤ x.length then none else some (Str.padded x (12 - x.length) 0 32))) := by
    show (if Str.tooLong ((if (true && sp12.cps.back? == some 0) = true then { fs12 with type := some 0 } else fs12).width.getD 0) = true then Except.ok none else (do
        let r ← Str.strField x (if (true && sp12.cps.back? == some 0) = true then { fs12 with type := some 0 } else fs12) "str"
        pure (some r)) : Except String (Option (Option Str))) = _
    rw [Bool.true_and, hb, if_neg Bool.false_ne_true, if_neg (by decide), strField12]
    rfl
  rw [e2]
  by_cases hl : 12 ≤ x.length
  · rw [if_pos hl]
    show wpAny _ _ (do rule "str.__format__.unchanged"; ret (Value.str x t)) _ _ _
    refine wpAny_bind (wpAny_rule (wpAny_pure ?_))
    have h1 := h t (s.toks + 1)
    rw [rjust12, if_pos hl] at h1
    exact wpAny_bind (wpAny_isInstance (typeIs_str _ _ _) isSubtype_str_str (wpAny_pure h1))
  · rw [if_neg hl]
    show wpAny _ _ (retStr _) _ _ _
    unfold retStr
    have hz : (Str.padded x (12 - x.length) 0 32).length ≤ sizeLine := by
      have : (Str.padded x (12 - x.length) 0 32).length = (12 - x.length) + x.length + 0 := by
        unfold Str.padded Str.length
        simp
      rw [this, sizeLine_eq]
      omega
    refine wpAny_bind (wpAny_mkStr (wpAny_pure ?_) hz)
    have h1 := h (s.toks + 1) (s.toks + 1 + 1)
    rw [rjust12, if_neg hl] at h1
    exact wpAny_bind (wpAny_isInstance (typeIs_str _ _ _) isSubtype_str_str (wpAny_pure h1))
end
/-- {x:>12} -/
def tFmt12 (te : TE) : TE := fun σ H Q => te σ H fun x H1 => (∃ y : Str, x = .str y ∧ Q (.str (Txt.rjust y 12)) H1) ∨ ∃ i : Int, x = .int i ∧ i.natAbs.log2 < 1920 ∧ Q (.str (Txt.rjust (Str.ofString (toString i)) 12)) H1
theorem pe_fmt12 {X : Cx} {e spec : Expr} {te : TE} {pos : Pos} (he : PE X e te) (hs : PE X spec fun _ H Q => Q (.str sp12) H) : PE X (.FormattedValue e (-1) (some spec) pos) (tFmt12 te) := by
  refine ⟨fun pins s σ H Q I h => ?_⟩
  refine wpAny_FormattedValue_spec (thn (he.run pins s σ H _ I h) fun v s1 ⟨x, H1, I1, r1, q⟩ => ?_)
  refine thn (hs.run pins s1 σ H1 (fun y H2 => y = .str sp12 ∧ H2 = H1) I1 ⟨rfl, rfl⟩) fun r s2 ⟨y, H2, I2, r2, ey, eH⟩ => ?_
  subst ey
  subst eH
  obtain ⟨tk, rfl⟩ := r2
  refine ⟨sp12, tk, rfl, ?_⟩
  rcases q with ⟨y, rfl, q⟩ | ⟨i, rfl, hz, q⟩
  · obtain ⟨t, rfl⟩ := r1
    exact ff12_str fun t' k => ⟨.str (Txt.rjust y 12), H2, I2.tok _, ⟨_, rfl⟩, q⟩
  · obtain ⟨t, rfl⟩ := r1
    exact ff12_int hz ⟨.str (Txt.rjust (Str.ofString (toString i)) 12), H2, I2.tok _, ⟨_, rfl⟩, q⟩
theorem r_fmt12S {te : TE} {σ : L2.St} {H : Hp} {Q : VK} (h : te σ H fun x H1 => (∃ y : Str, x = .str y ∧ Q (.str (Txt.rjust y 12)) H1) ∨ ∃ i : Int, x = .int i ∧ i.natAbs.log2 < 1920 ∧ Q (.str (Txt.rjust (Str.ofString (toString i)) 12)) H1) : tFmt12 te σ H Q := h
end Vf
set_option maxHeartbeats 2000000
set_option exponentiation.threshold 3000
/-! rows written as lines; days and values of a size -/
namespace Vf
open PySem PySem.Spec PyProof.Rows L2
def strI (i : Int) : Str := Str.ofString (toString i)
def Sml (i : Int) : Prop := -(10 ^ 70) ≤ i ∧ i ≤ 10 ^ 70
theorem sml_nat {i : Int} (h : Sml i) : i.natAbs ≤ 10 ^ 70 := by
  obtain ⟨h1, h2⟩ := h
  have e : ((10 ^ 70 : Nat) : Int) = (10 : Int) ^ 70 := by decide
  omega
theorem sml_log {i : Int} (h : Sml i) : i.natAbs.log2 < 1920 := by
  have h1 := sml_nat h
  rcases Nat.eq_zero_or_pos i.natAbs with z | z
  · rw [z]; decide
  · refine (Nat.log2_lt (by omega)).mpr (Nat.lt_of_le_of_lt h1 ?_)
    decide +kernel
theorem strI_len {i : Int} (h : Sml i) : (strI i).length ≤ 100 := by
  have h1 : (Nat.toDigits 10 i.natAbs).length ≤ 71 := digits10_le (by omega) (Nat.lt_of_le_of_lt (sml_nat h) (Nat.pow_lt_pow_right (by omega) (by omega)))
  have e : ∀ m : Nat, (Str.ofString (toString (Int.ofNat m))).length = (Nat.toDigits 10 m).length := fun m => by
    rw [text_ofNat]
    simp [Str.length]
  cases i with
  | ofNat m =>
    have h2 := e m
    have h1 : (Nat.toDigits 10 m).length ≤ 71 := h1
    show (Str.ofString (toString (Int.ofNat m))).length ≤ 100
    omega
  | negSucc m =>
    have h1 : (Nat.toDigits 10 (m + 1)).length ≤ 71 := h1
    have h2 := e (m + 1)
    have e3 : strI (Int.negSucc m) = Str.ofString "-" ++ Str.ofString (toString (Int.ofNat (m + 1))) := TL.ext_tl (by
      unfold strI
      rw [show toString (Int.negSucc m) = "-" ++ toString (Int.ofNat (m + 1)) from rfl, TL.tl_append, TL.tl_ofString, TL.tl_ofString, TL.tl_ofString]; simp)
    rw [e3, PySem.Str.length_append]
    have : (Str.ofString "-").length = 1 := by decide +kernel
    omega
inductive SmlV : V → Prop where
  | int {i : Int} : Sml i → SmlV (.int i)
  | str {s : Str} : s.length ≤ 1000 → PyData.strOk s = true → SmlV (.str s)
theorem SmlV.worth {v : V} (h : SmlV v) : Worth v := by
  cases h with
  | int _ => exact .int _
  | str _ h => exact .str _ h
theorem IsVal.sml {v : V} (h : IsVal v) : SmlV v := by
  cases h with
  | int a b => exact .int ⟨by omega, by omega⟩
  | str a b => exact .str (by omega) b
/-- days and values of a size -/
def SmlR (r : Run) : Prop := Sml r.1 ∧ (∀ n, r.2.1 = some n → Sml n) ∧ SmlV r.2.2
def rj (y : Str) : Str := Txt.rjust y 12
theorem rj_len {y : Str} : (rj y).length ≤ y.length + 12 := by
  unfold rj
  rw [rjust12]
  split
  · omega
  · have : (Builtin.Str.padded y (12 - y.length) 0 32).length = (12 - y.length) + y.length + 0 := by
      unfold Builtin.Str.padded Str.length
      simp
    omega
def endS : Option Int → Str
  | none => "open"
  | some n => strI n
def valS : V → Str
  | .int i => strI i
  | .str s => "'" ++ s
  | _ => ""
/-- a row's line -/
def rowL (r : Run) : Str := rj (strI r.1) ++ " " ++ rj (endS r.2.1) ++ " " ++ valS r.2.2
theorem rowL_len {r : Run} (h : SmlR r) : (rowL r).length ≤ 1500 := by
  obtain ⟨h1, h2, h3⟩ := h
  have a := rj_len (y := strI r.1)
  have b := rj_len (y := endS r.2.1)
  have c := strI_len h1
  have d : (endS r.2.1).length ≤ 100 := by
    cases e : r.2.1 with
    | none => decide +kernel
    | some n => exact strI_len (h2 n e)
  have g : (valS r.2.2).length ≤ 1001 := by
    cases e : r.2.2 with
    | int i => rw [e] at h3; cases h3 with | int h => have := strI_len h; show (strI i).length ≤ _; omega
    | str s =>
      rw [e] at h3
      cases h3 with
      | str h _ =>
        show ((Str.ofString "'") ++ s).length ≤ _
        rw [PySem.Str.length_append]
        have : (Str.ofString "'").length = 1 := by decide +kernel
        omega
    | _ => rw [e] at h3; cases h3
  unfold rowL
  rw [PySem.Str.length_append, PySem.Str.length_append, PySem.Str.length_append, PySem.Str.length_append]
  have : (Str.ofString " ").length = 1 := by decide +kernel
  omega
def headS (s : Str) : Str := if s = "last day" then "until is the last day" else "until is the next day"
theorem headS_len {s : Str} : (headS s).length ≤ 100 := by
  unfold headS
  split <;> decide +kernel
/-- a book's text -/
def bookS (s : Str) (rs : List Run) : Str := Txt.join "\n" (headS s :: rs.map rowL)
theorem lines_sum {rs : List Run} (h : ∀ r ∈ rs, SmlR r) : ((rs.map rowL).map (·.length)).sum ≤ 1500 * rs.length := by
  induction rs with
  | nil => simp
  | cons r rs ih =>
    rw [List.map_cons, List.map_cons, List.sum_cons, List.length_cons]
    have := rowL_len (h r List.mem_cons_self)
    have := ih fun x hx => h x (List.mem_cons_of_mem _ hx)
    omega
theorem join_fit {s : Str} {rs : List Run} (h : ∀ r ∈ rs, SmlR r) (hz : rs.length ≤ 5000) : ((headS s :: rs.map rowL).map (·.length)).sum + (headS s :: rs.map rowL).length * (Str.ofString "\n").length ≤ 16777216 := by
  rw [List.map_cons, List.sum_cons, List.length_cons, List.length_map]
  have a := lines_sum h
  have b := headS_len (s := s)
  have c : (Str.ofString "\n").length = 1 := by decide +kernel
  rw [c]
  omega
theorem writ_sml {s : Str} {r : Run} (h : SmlR r) (b : ∀ i, Sml i → -(10 ^ 69) ≤ i → i ≤ 10 ^ 69 → Sml i := fun _ h _ _ => h) (hn : ∀ n, r.2.1 = some n → -(10 ^ 69) ≤ n ∧ n ≤ 10 ^ 69) : SmlR (writR s r) := by
  obtain ⟨h1, h2, h3⟩ := h
  refine ⟨h1, fun n e => ?_, h3⟩
  have e : untilOf r.2.1 s = some n := e
  cases q : r.2.1 with
  | none => rw [q] at e; unfold untilOf at e; simp at e
  | some m =>
    have hm := hn m q
    rw [q] at e
    have e : some (if s = "next day" then m else m - 1) = some n := e
    have : n = m ∨ n = m - 1 := by
      have e := Option.some.inj e
      split at e
      · exact .inl e.symm
      · exact .inr e.symm
    constructor
    · rcases this with rfl | rfl <;> omega
    · rcases this with rfl | rfl <;> omega
/-- days within a bound, values of a size -/
def DayR (B : Int) (r : Run) : Prop := (-B ≤ r.1 ∧ r.1 ≤ B) ∧ (∀ n, r.2.1 = some n → -B ≤ n ∧ n ≤ B) ∧ SmlV r.2.2
theorem DayR.mono {B B2 : Int} {r : Run} (h : DayR B r) (l : B ≤ B2) : DayR B2 r := ⟨⟨by have := h.1; omega, by have := h.1; omega⟩, fun n e => by have := h.2.1 n e; omega, h.2.2⟩
theorem DayR.writ {B : Int} {s : Str} {r : Run} (h : DayR B r) (l : B ≤ 10 ^ 69) : SmlR (writR s r) := by
  refine writ_sml ⟨⟨by have := h.1; omega, by have := h.1; omega⟩, fun n e => ⟨by have := h.2.1 n e; omega, by have := h.2.1 n e; omega⟩, h.2.2⟩ (hn := fun n e => ?_)
  have := h.2.1 n e
  exact ⟨by omega, by omega⟩
theorem put_day {B : Int} {ts : List Run} {f : Int} {m : Option Int} {v : V} (h : ∀ r ∈ ts, DayR B r) (hf : -B ≤ f ∧ f ≤ B) (hm : ∀ n, m = some n → -B ≤ n + 1 ∧ n + 1 ≤ B) (hv : v = V.non ∨ SmlV v) : ∀ r ∈ putL ts f m v, DayR B r := by
  intro r hr
  unfold putL at hr
  rw [List.mem_append, List.mem_append] at hr
  rcases hr with (hr | hr) | hr
  · obtain ⟨x, hx, hr⟩ := List.mem_flatMap.mp hr
    have d := h x hx
    unfold headR at hr
    split at hr
    · rw [List.mem_singleton] at hr
      subst hr
      refine ⟨d.1, fun n e => ?_, d.2.2⟩
      simp only at e
      cases q : x.2.1 with
      | none => rw [q] at e; cases e; exact hf
      | some k =>
        rw [q] at e
        have dk := d.2.1 k q
        simp only [Option.some.injEq] at e
        split at e <;> subst e <;> assumption
    · cases hr
  · unfold newR at hr
    split at hr
    · cases hr
    · rename_i vn
      rw [List.mem_singleton] at hr
      subst hr
      refine ⟨hf, fun n e => ?_, ?_⟩
      · cases q : m with
        | none => rw [q] at e; cases e
        | some k => rw [q] at e; cases e; exact hm k q
      · rcases hv with hv | hv
        · exact absurd hv vn
        · exact hv
  · obtain ⟨x, hx, hr⟩ := List.mem_flatMap.mp hr
    have d := h x hx
    cases q : m with
    | none => rw [q] at hr; unfold tailR at hr; cases hr
    | some k =>
      have hk := hm k q
      rw [q] at hr
      unfold tailR at hr
      have hb : -B ≤ (if k + 1 > x.1 then k + 1 else x.1) ∧ (if k + 1 > x.1 then k + 1 else x.1) ≤ B := by
        have := d.1
        split <;> omega
      obtain ⟨xf, xu, xv⟩ := x
      cases xu with
      | none =>
        have hr : r ∈ [(if k + 1 > xf then k + 1 else xf, none, xv)] := hr
        rw [List.mem_singleton] at hr
        subst hr
        exact ⟨hb, (fun n e => by cases e), d.2.2⟩
      | some n0 =>
        have hr : r ∈ (if n0 > k + 1 then [(if k + 1 > xf then k + 1 else xf, some n0, xv)] else [] : List Run) := hr
        split at hr
        · rw [List.mem_singleton] at hr
          subst hr
          exact ⟨hb, (fun n e => d.2.1 n e), d.2.2⟩
        · cases hr
/-- f'..', read part by part -/
def tJoined (ts : List TE) : TE := fun σ H Q => tJs ts Str.empty σ H fun out H1 => Q (.str out) H1
theorem pe_joinedT {X : Cx} {v1 v2 : Expr} {rest : List Expr} {ts : List TE} {pos : Pos} (h : PJ X (v1 :: v2 :: rest) ts) : PE X (.JoinedStr (v1 :: v2 :: rest) pos) (tJoined ts) := pe_joined h
section
variable {σ : L2.St} {H : Hp} {Q : VK} {R : Str → Hp → Prop} {t : TE} {ts : List TE} {acc : Str}
theorem r_joined (h : tJs ts Str.empty σ H fun out H1 => Q (.str out) H1) : tJoined ts σ H Q := h
theorem r_jsC (h : t σ H fun x H1 => ∃ y : Str, x = .str y ∧ (acc ++ y).length ≤ sizeLine ∧ tJs ts (acc ++ y) σ H1 R) : tJs (t :: ts) acc σ H R := h
theorem r_jsN (h : R acc H) : tJs [] acc σ H R := h
theorem r_fmtS {te : TE} (h : te σ H fun x H1 => (∃ y : Str, x = .str y ∧ y.length ≤ sizeLine ∧ Q (.str y) H1) ∨ ∃ i : Int, x = .int i ∧ i.natAbs.log2 < 1920 ∧ Q (.str (toString i)) H1) : tFmt te σ H Q := h
theorem r_strI {i : Int} (h : i.natAbs.log2 < 1920) (q : Q (.str (strI i)) H) : rStrI [.int i] H Q := ⟨i, rfl, h, q⟩
end
theorem r_m1 {σ : L2.St} {H : Hp} {Q : VK} {to te : TE} {r : V → List V → Hp → VK → Prop} (q : to σ H fun x H1 => (∃ a, x = .str a) ∧ te σ H1 fun y H2 => r x [y] H2 Q) : tM1 r to te σ H Q := q
theorem r_sty {s : Str} {B : Prop} (q : B) : (∃ a, V.str s = .str a) ∧ B := ⟨⟨_, rfl⟩, q⟩
theorem head_last : headS "last day" = "until is the last day" := if_pos rfl
theorem head_next : headS "next day" = "until is the next day" := if_neg (by decide +kernel)
theorem emp_app (x : Str) : Str.empty ++ x = x := Str.empty_append x
end Vf

set_option exponentiation.threshold 3000
set_option hygiene false
local macro_rules | `(tactic| walk_at "lkx") => `(tactic| first
  | assumption
  | (refine' lkE ?lke ?lkh; (case lke => assumption); (case lkh => walk_at "lkx"))
  | fail)
local macro_rules | `(tactic| walk_at "ne") => `(tactic| first
  | assumption
  | exact Ne.symm (by assumption)
  | (refine' ne_of ?ne1 ?ne2 ?ne3; (case ne2 => assumption); (case ne1 => walk_at "lkx"); (case ne3 => intro nez; cases nez))
  | (refine' ne_of ?ne1 ?ne2 ?ne3; (case ne1 => assumption); (case ne2 => walk_at "lkx"); (case ne3 => intro nez; cases nez))
  | (refine' ne_of_none ?ne1 ?ne2; (case ne2 => assumption); (case ne1 => walk_at "lkx"))
  | (refine' Ne.symm (ne_of_none ?ne1 ?ne2); (case ne2 => assumption); (case ne1 => walk_at "lkx"))
  | fail)
local macro_rules | `(tactic| walk_at "lk") => `(tactic| first
  | assumption
  | (refine' lkB ?lke ?lkn ?lkh; (case lke => assumption); (case lkn => walk_at "ne"); (case lkh => walk_at "lk"))
  | (refine' lkE ?lke ?lkh; (case lke => assumption); (case lkh => walk_at "lk"))
  | fail)
local macro_rules | `(tactic| walk_at "lkp") => `(tactic| first
  | assumption
  | exact lookup_hd
  | exact lookup_none
  | (refine (lookup_tl (by decide +kernel)).trans ?_; walk_at "lkp"))
local macro_rules | `(tactic| walk_at "ptf") => `(tactic| first
  | exact putF_nil
  | exact putF_hd
  | (refine' putF_tl (by decide +kernel) ?pe; (case pe => walk_at "ptf")))
local macro_rules | `(tactic| walk_at "tyx") => `(tactic| first
  | assumption
  | exact .base (.int _)
  | exact .base (.str _)
  | exact .base .non
  | exact .base (.bl _)
  | (refine' TyX.base (.tup ?tyq); (case tyq => walk_at "lk"))
  | (refine' TyX.base (.lst ?tyq); (case tyq => walk_at "lk"))
  | walk_at "tyi"
  | fail)
local macro_rules | `(tactic| walk_at "kit") => `(tactic| first
  | assumption
  | exact (show PySem.W.kitOne _ _ _ = some true from kit_ty (by decide +kernel))
  | exact (show PySem.W.kitOne _ _ _ = some false from kit_ty (by decide +kernel))
  | walk_at "kits"
  | fail)
local macro_rules | `(tactic| walk_at "sz") => `(tactic| first
  | exact szO
  | exact szL
  | assumption
  | (simp only [List.length_cons, List.length_nil, List.length_append]; first | exact szO (by omega) | exact szL (by omega)))
local macro_rules | `(tactic| walk_at "new") => `(tactic| (intro pn hmN Hm hmQ; rw [← hmQ]; have hmE := ofE hmQ hmN; have hmA := ofA hmQ; clear hmQ))
local macro_rules | `(tactic| walk_at "mono1") => `(tactic| first | exact mo_var | exact mo_c | fail)
local macro_rules | `(tactic| walk_at "mono") => `(tactic| first
  | exact mo_nil
  | (refine' mo_cons ?moe ?mor; (case moe => walk_at "mono1"); (case mor => walk_at "mono"))
  | fail)
local macro_rules | `(tactic| walk_at "at") => `(tactic| first
  | exact rfl
  | exact at_of (j := 0) rfl rfl
  | exact at_of (j := 1) rfl rfl
  | exact at_of (j := 2) rfl rfl
  | exact at_of (j := 3) rfl rfl
  | exact at_of (j := 4) rfl rfl
  | exact ix_of (j := 0) rfl (by decide)
  | exact ix_of (j := 1) rfl (by decide)
  | exact ix_of (j := 2) rfl (by decide)
  | exact atI_last _ _
  | assumption)
local macro_rules | `(tactic| walk_at "side") => `(tactic| first
  | assumption
  | decide
  | omega
  | (refine ⟨?_, ?_⟩ <;> first | decide | omega)
  | (refine ⟨?_, ?_, ?_⟩ <;> first | decide | omega)
  | (refine mulS ?_ ?_ ?_ ?_ <;> omega)
  | (refine divS ?_ ?_ <;> omega)
  | exact powS (by omega) (by omega) (by omega))
local macro_rules | `(tactic| walk_at "st1") => `(tactic| first
  | ((with_reducible refine' r_var ?hv ?_); (case hv => exact rfl))
  | with_reducible refine r_c ?_
  | with_reducible refine r_seq ?_
  | with_reducible refine r_asg ?_
  | with_reducible refine r_name ?_
  | with_reducible refine r_op ?_
  | with_reducible refine r_I0 ?_
  | ((with_reducible refine' r_powI ?sc ?se ?_); (case sc => walk_at "side"); (case se => (first | (simp only [Int.reduceToNat]; exact rfl) | exact rfl)))
  | ((with_reducible refine r_I ?sc ?_); (case sc => walk_at "side"))
  | with_reducible refine r_test ?_
  | with_reducible refine r_tB ?_
  | with_reducible refine r_bl ?_
  | with_reducible refine r_ifS ?_
  | with_reducible refine r_if ?_
  | with_reducible refine r_cons ?_
  | with_reducible refine r_nil ?_
  | with_reducible refine r_CB ?_
  | with_reducible refine r_call ?_
  | with_reducible refine r_ret ?_
  | with_reducible refine r_next ?_
  | with_reducible refine r_drop ?_
  | with_reducible refine r_tup ?_
  | with_reducible refine r_lst ?_
  | with_reducible refine r_and ?_
  | with_reducible refine r_or ?_
  | with_reducible refine r_not ?_
  | with_reducible refine r_isN ?_
  | with_reducible refine r_notN ?_
  | with_reducible refine r_eqI ?_
  | with_reducible refine r_neI ?_
  | with_reducible refine r_un ?_
  | with_reducible refine r_U ?_
  | with_reducible refine r_sub ?_
  | with_reducible refine r_par ?_
  | with_reducible refine r_andV ?_
  | with_reducible refine r_orV ?_
  | with_reducible refine r_notV ?_
  | with_reducible refine r_bl1 ?_
  | with_reducible refine r_fld ?_
  | with_reducible refine r_cont ?_
  | with_reducible refine r_retN ?_
  | with_reducible refine r_par3 ?_
  | with_reducible refine r_ex2 ?_
  | with_reducible refine r_ex3 ?_
  | with_reducible refine if_T ?_
  | with_reducible refine if_F ?_
  | ((with_reducible refine' if_bT ?hb ?_); (case hb => first | exact rfl | assumption | (simp; done)))
  | ((with_reducible refine' if_bF ?hb ?_); (case hb => first | exact rfl | assumption | (simp; done)))
  | ((with_reducible refine' r_isD rfl rfl ?hh ?hu ?he ?_); (case hh => walk_at "lk"); (case hu => intro u hu; exact hu); (case he => walk_at "kit"))
  | ((with_reducible refine' r_xfV rfl rfl ?hh ?hl ?_); (case hh => walk_at "lk"); (case hl => walk_at "lkp"))
  | with_reducible refine r_lc ?_
  | with_reducible refine r_yes ?_
  | ((with_reducible refine' r_isi ?hk ?ht ?he ?_); (case hk => first | exact .ty _ | exact .own _); (case ht => walk_at "tyx"); (case he => walk_at "kit"))
  | with_reducible refine r_eqS ?_
  | with_reducible refine r_neS ?_
  | with_reducible refine r_eqB ?_
  | ((with_reducible refine' r_getF ?hh ?hc ?hn ?hl ?_); (case hh => walk_at "lk"); (case hc => walk_at "cls"); (case hn => walk_at "nattr"); (case hl => walk_at "lkp"))
  | ((with_reducible refine' r_getP ?hh ?_); (case hh => walk_at "lk"))
  | ((with_reducible refine' r_getC ?hc ?hv ?_); (case hc => walk_at "cread"); (case hv => walk_at "cval"))
  | ((with_reducible refine' r_setF ?hh ?hc ?hn ?he ?hz ?_); (case hh => walk_at "lk"); (case hc => walk_at "cls"); (case hn => walk_at "nattr"); (case he => walk_at "ptf"); (case hz => simp); intro Hm hmB hmA)
  | ((with_reducible refine' r_methW ?hh ?hl ?_); (case hh => walk_at "lk"); (case hl => walk_at "lkp"))
  | ((with_reducible refine' r_methX ?hh ?hl ?_); (case hh => walk_at "lk"); (case hl => walk_at "lkp"))
  | ((with_reducible refine' r_inOwn ?hh ?_); (case hh => walk_at "lk"))
  | ((with_reducible refine' r_notInOwn ?hh ?_); (case hh => walk_at "lk"))
  | with_reducible refine r_ost ?_
  | with_reducible refine r_cval ?_
  | with_reducible refine r_prop ?_
  | with_reducible refine r_sfld ?_
  | with_reducible refine r_make ?_
  | with_reducible refine r_makeS ?_
  | with_reducible refine r_meth ?_
  | with_reducible refine r_methS ?_
  | with_reducible refine r_callS ?_
  | with_reducible refine r_xf ?_
  | with_reducible refine r_for ?_
  | with_reducible refine r_rng1 ?_
  | with_reducible refine r_rng2 ?_
  | with_reducible refine r_il ?_
  | with_reducible refine r_it ?_
  | ((with_reducible refine' r_rng1e ?hs ?hs2 ?_); (case hs => omega); (case hs2 => omega))
  | ((with_reducible refine' r_rng2e ?hs ?hs2 ?hs3 ?hs4 ?_); (case hs => omega); (case hs2 => omega); (case hs3 => omega); (case hs4 => omega))
  | ((with_reducible refine' r_ile ?hs ?_); (case hs => (refine' SqL.of ?sqq; (case sqq => walk_at "lk"))))
  | ((with_reducible refine' r_ite ?hs ?_); (case hs => (refine' SqT.of ?sqq; (case sqq => walk_at "lk"))))
  | with_reducible refine r_int1 ?_
  | with_reducible refine r_int1b ?_
  | with_reducible refine r_abs ?_
  | with_reducible refine r_max2 ?_
  | with_reducible refine r_min2 ?_
  | with_reducible refine r_addI ?_
  | ((with_reducible refine' r_ixL ?hs ?ha ?_); (case hs => (refine' SqL.of ?sqq; (case sqq => walk_at "lk"))); (case ha => walk_at "at"))
  | ((with_reducible refine' r_ixT ?hs ?ha ?_); (case hs => (refine' SqT.of ?sqq; (case sqq => walk_at "lk"))); (case ha => walk_at "at"))
  | ((with_reducible refine' r_lenL ?hs ?_); (case hs => (refine' SqL.of ?sqq; (case sqq => walk_at "lk"))))
  | ((with_reducible refine' r_lenT ?hs ?_); (case hs => (refine' SqT.of ?sqq; (case sqq => walk_at "lk"))))
  | ((with_reducible refine' r_setL ?hs ?ha ?_); (case hs => walk_at "lk"); (case ha => walk_at "at"); intro Hm hmB hmA)
  | ((with_reducible refine' r_app ?hs ?ha ?_); (case hs => walk_at "lk"); (case ha => walk_at "sz"); intro Hm hmB hmA)
  | ((with_reducible refine' r_alT ?hs ?_); (case hs => walk_at "sz"); walk_at "new")
  | ((with_reducible refine' r_alL ?hs ?_); (case hs => walk_at "sz"); walk_at "new")
  | ((with_reducible refine' r_addS ?hs ?_); (case hs => walk_at "sz"))
  | ((with_reducible refine' r_addL ?hs ?hs2 ?ha ?_); (case hs => walk_at "lk"); (case hs2 => walk_at "lk"); (case ha => walk_at "sz"); intro pn Hm hmN hmE hmA)
  | with_reducible refine r_break ?_
  | with_reducible refine r_tSl ?_
  | with_reducible refine r_part ?_
  | with_reducible refine r_partI ?_
  | ((with_reducible refine' r_slL ?hs ?_); (case hs => (refine' SqL.of ?sqq; (case sqq => walk_at "lk"))); walk_at "new")
  | with_reducible refine r_star ?_
  | ((with_reducible refine' r_starL ?hs ?_); (case hs => walk_at "lk"))
  | with_reducible refine r_slc ?_
  | ((with_reducible refine' r_ixOwn ?hs ?_); (case hs => walk_at "lk"))
  | ((with_reducible refine' r_setOwn ?hs ?_); (case hs => walk_at "lk"))
  | ((with_reducible refine' r_listOwn ?hs ?hsl ?hs2 ?_); (case hs => walk_at "lk"); (case hsl => walk_at "lkp"); (case hs2 => walk_at "lk"); intro pn Hm hmN hmY hmE hmA)
  | ((with_reducible refine' r_lenOwn ?hs ?hsl ?hs2 ?_); (case hs => walk_at "lk"); (case hsl => walk_at "lkp"); (case hs2 => walk_at "lk"))
  | with_reducible refine r_iOwn ?_
  | with_reducible refine r_iOwnN ?_
  | with_reducible refine r_enum ?_
  | with_reducible refine r_BM0 ?_
  | ((with_reducible refine' r_reverse ?hs ?_); (case hs => walk_at "lk"); intro Hm hmB hmA)
  | with_reducible refine r_ownS ?_
  | ((with_reducible refine' r_setOwnS ?hs ?_); (case hs => walk_at "lk"))
  | with_reducible refine r_augS ?_
  | with_reducible refine r_ipI ?_
  | with_reducible refine r_smeth ?_
  | with_reducible refine r_smethW ?_
  | ((with_reducible refine' r_zip ?_))
  | with_reducible refine r_noP ?_
  | ((with_reducible refine' r_listOf ?hs ?_); (case hs => (refine' SqL.of ?sqq; (case sqq => walk_at "lk"))); walk_at "new")
  | with_reducible refine r_m0 ?_
  | with_reducible refine r_cKw ?_
  | with_reducible refine r_makeSK ?_
  | with_reducible refine r_makeRS ?_
  | with_reducible refine r_makeKN ?_
  | with_reducible refine r_lc2 ?_
  | with_reducible refine r_truB ?_
  | ((with_reducible refine' r_neOO ?hh ?hh2 ?_); (case hh => walk_at "lk"); (case hh2 => walk_at "lk"))
  | with_reducible refine r_fmt12S ?_
  | with_reducible refine r_m1 ?_
  | with_reducible refine r_sty ?_
  | with_reducible refine r_of ?_
  | ((with_reducible refine' r_mk1 ?mo ?_); (case mo => walk_at "mono"))
  | ((with_reducible refine' r_mk2 ?mo ?_); (case mo => walk_at "mono"))
  | ((with_reducible refine' r_mk3 ?mo ?_); (case mo => walk_at "mono"))
  | ((with_reducible refine r_mkW1 ?_); intro ea hmN Hm hmE hmR)
  | ((with_reducible refine r_mkW2 ?_); intro ea hmN Hm hmE hmR)
  | ((with_reducible refine r_mkW3 ?_); intro ea hmN Hm hmE hmR)
  | ((with_reducible refine r_mkN ?_); intro ea hmN Hm hmE hmR)
  | ((with_reducible refine' r_isO ?he ?ht ?hc ?hk ?_); (case he => walk_at "err"); (case ht => walk_at "exc"); (case hc => intro u hu; exact hu); (case hk => walk_at "kit"))
  | ((with_reducible refine' r_getE ?he ?ht ?hn ?hl ?_); (case he => walk_at "errat"); (case ht => walk_at "xfc"); (case hn => walk_at "nat"); (case hl => walk_at "lkp"))
  | ((with_reducible refine' r_addOI ?hh ?_); (case hh => walk_at "lk"))
  | ((with_reducible refine' r_addIO ?hh ?_); (case hh => walk_at "lk"))
  | ((with_reducible refine' r_subOO ?hh ?hh2 ?_); (case hh => walk_at "lk"); (case hh2 => walk_at "lk"))
  | ((with_reducible refine' r_eqOO ?hh ?hh2 ?_); (case hh => walk_at "lk"); (case hh2 => walk_at "lk"))
  | with_reducible refine r_propSet ?_
  | ((with_reducible refine' r_setP ?hh ?_); (case hh => walk_at "lk"))
  | with_reducible refine r_BM1 ?_
  | ((with_reducible refine' r_tyL ?hs ?_); (case hs => walk_at "lk"))
  | ((with_reducible refine' r_gT ?hs ?hl ?_); (case hs => (refine' SqT.of ?sqq; (case sqq => walk_at "lk"))); (case hl => exact rfl))
  | ((with_reducible refine' r_gU ?hs ?hl ?_); (case hs => (refine' SqL.of ?sqq; (case sqq => walk_at "lk"))); (case hl => exact rfl))
  | with_reducible refine r_gCons ?_
  | with_reducible refine r_gNil ?_
  | walk_at "st2"
  | ((with_reducible refine' r_eq ?h ?_); (case h => exact rfl))
  | ((with_reducible refine' r_ne ?h ?_); (case h => exact rfl)))
local macro_rules | `(tactic| walk_at "st") => `(tactic| repeat (walk_at "st1"))
local macro_rules | `(tactic| walk_at "rowat") => `(tactic| first
  | assumption
  | (refine' RowAt.ex ?rae ?rah; (case rae => assumption); (case rah => walk_at "rowat"))
  | fail)
local macro_rules | `(tactic| walk_at "exh") => `(tactic| first
  | assumption
  | exact Ex.refl _
  | (refine' Ex.trans ?exa ?exb; (case exb => assumption); (case exa => walk_at "exh"))
  | fail)

local macro_rules | `(tactic| walk_at "err") => `(tactic| first
  | assumption
  | (refine' ErrO.ex ?ersa ?ersb; (case ersa => assumption); (case ersb => walk_at "exh"))
  | fail)
local macro_rules | `(tactic| walk_at "errat") => `(tactic| first
  | assumption
  | (refine' ErrAt.ex ?ersa ?ersb; (case ersa => assumption); (case ersb => walk_at "exh"))
  | fail)
local macro_rules | `(tactic| walk_at "exc") => `(tactic| first
  | assumption
  | walk_at "excs"
  | fail)
local macro_rules | `(tactic| walk_at "dp") => `(tactic| first
  | assumption
  | exact Dp.int _
  | exact Dp.str _
  | exact Dp.non
  | exact Dp.bl _
  | (refine' Dp.tup (SqT.of ?dpq) ?dpa; (case dpq => walk_at "lk"); (case dpa => walk_at "dpa"))
  | (refine' Dp.lst (SqL.of ?dpq) ?dpa; (case dpq => walk_at "lk"); (case dpa => walk_at "dpa"))
  | fail)
local macro_rules | `(tactic| walk_at "dpa") => `(tactic| first
  | exact DpAll.nil
  | (refine' DpAll.cons ?dph ?dpt; (case dph => walk_at "dp"); (case dpt => walk_at "dpa"))
  | fail)
local macro_rules | `(tactic| walk_at "keysl") => `(tactic| repeat' (first | exact trivial | exact ⟨_, _, rfl, rfl⟩ | refine ⟨?_, ?_⟩))

namespace Vf
open PySem PySem.Spec PyProof.Rows L2
open LamX (TabB TabS ExtN)
def top (i : Nat) : Stmt := PySem.Challenge.pw_untilrows_k27_printed_books.main.body.getD i (.Pass ⟨0, 0, 0, 0⟩)
abbrev s_Lparts : Stmt := top 45
theorem sc_Lparts : FnScope ["script", "most"] ["script", "most"] (defScope s_Lparts) := ⟨rfl, rfl, rfl, by decide +kernel, rfl, by decide +kernel, by decide +kernel⟩
abbrev s_Lbag : Stmt := top 33
theorem sc_Lbag : FnScope ["script", "at", "cell", "digits"] ["script", "at"] (defScope s_Lbag) := ⟨rfl, rfl, rfl, by decide +kernel, rfl, by decide +kernel, by decide +kernel⟩
abbrev s_Ltake : Stmt := top 34
theorem sc_Ltake : FnScope ["bag", "many", "digit", "mixed"] ["bag", "many"] (defScope s_Ltake) := ⟨rfl, rfl, rfl, by decide +kernel, rfl, by decide +kernel, by decide +kernel⟩
abbrev s_Lof : Stmt := top 36
theorem sc_Lof : FnScope ["bag", "some"] ["bag", "some"] (defScope s_Lof) := ⟨rfl, rfl, rfl, by decide +kernel, rfl, by decide +kernel, by decide +kernel⟩
abbrev s_Lends : Stmt := top 39
theorem sc_Lends : FnScope ["bag"] ["bag"] (defScope s_Lends) := ⟨rfl, rfl, rfl, by decide +kernel, rfl, by decide +kernel, by decide +kernel⟩
abbrev s_Lwide : Stmt := top 35
theorem sc_Lwide : FnScope ["bag", "many", "number", "turn"] ["bag", "many"] (defScope s_Lwide) := ⟨rfl, rfl, rfl, by decide +kernel, rfl, by decide +kernel, by decide +kernel⟩
abbrev s_Lday : Stmt := top 37
theorem sc_Lday : FnScope ["bag", "size"] ["bag"] (defScope s_Lday) := ⟨rfl, rfl, rfl, by decide +kernel, rfl, by decide +kernel, by decide +kernel⟩
abbrev s_Lvalue : Stmt := top 38
theorem sc_Lvalue : FnScope ["bag", "road", "text", "turn"] ["bag"] (defScope s_Lvalue) := ⟨rfl, rfl, rfl, by decide +kernel, rfl, by decide +kernel, by decide +kernel⟩
abbrev s_Lrows : Stmt := top 40
theorem sc_Lrows : FnScope ["bag", "many", "form", "rows", "at", "turn", "stop"] ["bag", "many", "form"] (defScope s_Lrows) := ⟨rfl, rfl, rfl, by decide +kernel, rfl, by decide +kernel, by decide +kernel⟩
abbrev s_Lshifted : Stmt := top 54
theorem sc_Lshifted : FnScope ["bag", "rows", "many", "start", "stop", "value"] ["bag", "rows"] (defScope s_Lshifted) := ⟨rfl, rfl, rfl, by decide +kernel, rfl, by decide +kernel, by decide +kernel⟩
abbrev s_Lnear : Stmt := top 48
theorem sc_Lnear : FnScope ["bag", "marks"] ["bag", "marks"] (defScope s_Lnear) := ⟨rfl, rfl, rfl, by decide +kernel, rfl, by decide +kernel, by decide +kernel⟩
abbrev s_Lstretch : Stmt := top 49
theorem sc_Lstretch : FnScope ["bag", "marks", "some", "first", "last"] ["bag", "marks", "some"] (defScope s_Lstretch) := ⟨rfl, rfl, rfl, by decide +kernel, rfl, by decide +kernel, by decide +kernel⟩
abbrev s_Lcut : Stmt := top 44
theorem sc_Lcut : FnScope ["rows", "low", "high", "left", "start", "stop", "value"] ["rows", "low", "high"] (defScope s_Lcut) := ⟨rfl, rfl, rfl, by decide +kernel, rfl, by decide +kernel, by decide +kernel⟩
abbrev s_Lsorted_rows : Stmt := top 50
theorem sc_Lsorted_rows : FnScope ["rows"] ["rows"] (defScope s_Lsorted_rows) := ⟨rfl, rfl, rfl, by decide +kernel, rfl, by decide +kernel, by decide +kernel⟩
abbrev s_Lput_rows : Stmt := top 53
theorem sc_Lput_rows : FnScope ["rows", "first", "last", "value", "stop", "left"] ["rows", "first", "last", "value"] (defScope s_Lput_rows) := ⟨rfl, rfl, rfl, by decide +kernel, rfl, by decide +kernel, by decide +kernel⟩
abbrev s_Lmany : Stmt := top 51
theorem sc_Lmany : FnScope ["bag", "most"] ["bag", "most"] (defScope s_Lmany) := ⟨rfl, rfl, rfl, by decide +kernel, rfl, by decide +kernel, by decide +kernel⟩
abbrev s_stop_of : Stmt := top 8
theorem sc_stop_of : FnScope ["until", "ends"] ["until", "ends"] (defScope s_stop_of) := ⟨rfl, rfl, rfl, by decide +kernel, rfl, by decide +kernel, by decide +kernel⟩
abbrev s_bears_no_day : Stmt := top 12
theorem sc_bears_no_day : FnScope ["first", "until", "ends", "stop"] ["first", "until", "ends"] (defScope s_bears_no_day) := ⟨rfl, rfl, rfl, by decide +kernel, rfl, by decide +kernel, by decide +kernel⟩
abbrev s_EmptyRow_init : Stmt := inClass (top 3) 0
theorem sc_EmptyRow_init : FnScope ["self", "first", "end"] ["self", "first", "end"] (defScope s_EmptyRow_init) := ⟨rfl, rfl, rfl, by decide +kernel, rfl, by decide +kernel, by decide +kernel⟩
abbrev s_checked_until : Stmt := top 13
theorem sc_checked_until : FnScope ["first", "until", "ends"] ["first", "until", "ends"] (defScope s_checked_until) := ⟨rfl, rfl, rfl, by decide +kernel, rfl, by decide +kernel, by decide +kernel⟩
abbrev s_first_day : Stmt := top 21
theorem sc_first_day : FnScope ["row"] ["row"] (defScope s_first_day) := ⟨rfl, rfl, rfl, by decide +kernel, rfl, by decide +kernel, by decide +kernel⟩
abbrev s_bears : Stmt := top 11
theorem sc_bears : FnScope ["row", "day", "ends", "stop"] ["row", "day", "ends"] (defScope s_bears) := ⟨rfl, rfl, rfl, by decide +kernel, rfl, by decide +kernel, by decide +kernel⟩
abbrev s_Clash_init : Stmt := inClass (top 5) 0
theorem sc_Clash_init : FnScope ["self", "earlier", "later"] ["self", "earlier", "later"] (defScope s_Clash_init) := ⟨rfl, rfl, rfl, by decide +kernel, rfl, by decide +kernel, by decide +kernel⟩
abbrev s_checked_rows : Stmt := top 22
theorem sc_checked_rows : FnScope ["rows", "ends", "first", "until", "_", "ordered", "earlier", "later"] ["rows", "ends"] (defScope s_checked_rows) := ⟨rfl, rfl, rfl, by decide +kernel, rfl, by decide +kernel, by decide +kernel⟩
abbrev s_Book_init : Stmt := inClass (top 25) 0
theorem sc_Book_init : FnScope ["self", "ends", "rows"] ["self", "ends", "rows"] (defScope s_Book_init) := ⟨rfl, rfl, rfl, by decide +kernel, rfl, by decide +kernel, by decide +kernel⟩
abbrev s_Lwritten : Stmt := top 41
theorem sc_Lwritten : FnScope ["rows", "ends", "less", "start", "stop", "value"] ["rows", "ends"] (defScope s_Lwritten) := ⟨rfl, rfl, rfl, by decide +kernel, rfl, by decide +kernel, by decide +kernel⟩
abbrev s_Lborders : Stmt := top 52
theorem sc_Lborders : FnScope ["rows", "row"] ["rows"] (defScope s_Lborders) := ⟨rfl, rfl, rfl, by decide +kernel, rfl, by decide +kernel, by decide +kernel⟩
abbrev s_row_line : Stmt := top 30
theorem sc_row_line : FnScope ["row", "first", "until", "value", "end", "text"] ["row"] (defScope s_row_line) := ⟨rfl, rfl, rfl, by decide +kernel, rfl, by decide +kernel, by decide +kernel⟩
abbrev s_Book_iter : Stmt := inClass (top 25) 3
theorem sc_Book_iter : FnScope ["self"] ["self"] (defScope s_Book_iter) := ⟨rfl, rfl, rfl, by decide +kernel, rfl, by decide +kernel, by decide +kernel⟩
abbrev s_printed : Stmt := top 31
theorem sc_printed : FnScope ["book", "row"] ["book"] (defScope s_printed) := ⟨rfl, rfl, rfl, by decide +kernel, rfl, by decide +kernel, by decide +kernel⟩
abbrev s_Ldue : Stmt := top 55
theorem sc_Ldue : FnScope ["rows", "ends", "lines", "first", "until", "value", "end", "worth"] ["rows", "ends"] (defScope s_Ldue) := ⟨rfl, rfl, rfl, by decide +kernel, rfl, by decide +kernel, by decide +kernel⟩
abbrev s_Lsame_value : Stmt := top 42
theorem sc_Lsame_value : FnScope ["one", "other"] ["one", "other"] (defScope s_Lsame_value) := ⟨rfl, rfl, rfl, by decide +kernel, rfl, by decide +kernel, by decide +kernel⟩
abbrev s_Lsame : Stmt := top 46
theorem sc_Lsame : FnScope ["told", "due"] ["told", "due"] (defScope s_Lsame) := ⟨rfl, rfl, rfl, by decide +kernel, rfl, by decide +kernel, by decide +kernel⟩
abbrev s_Lis_number : Stmt := top 43
theorem sc_Lis_number : FnScope ["thing"] ["thing"] (defScope s_Lis_number) := ⟨rfl, rfl, rfl, by decide +kernel, rfl, by decide +kernel, by decide +kernel⟩
abbrev s_Lare : Stmt := top 47
theorem sc_Lare : FnScope ["told", "due", "k", "mine"] ["told", "due"] (defScope s_Lare) := ⟨rfl, rfl, rfl, by decide +kernel, rfl, by decide +kernel, by decide +kernel⟩
abbrev s_Book_len : Stmt := inClass (top 25) 4
theorem sc_Book_len : FnScope ["self"] ["self"] (defScope s_Book_len) := ⟨rfl, rfl, rfl, by decide +kernel, rfl, by decide +kernel, by decide +kernel⟩
abbrev s_EmptyStretch_init : Stmt := inClass (top 4) 0
theorem sc_EmptyStretch_init : FnScope ["self", "first", "last"] ["self", "first", "last"] (defScope s_EmptyStretch_init) := ⟨rfl, rfl, rfl, by decide +kernel, rfl, by decide +kernel, by decide +kernel⟩
abbrev s_stretch_of : Stmt := top 15
theorem sc_stretch_of : FnScope ["at", "first", "last"] ["at"] (defScope s_stretch_of) := ⟨rfl, rfl, rfl, by decide +kernel, rfl, by decide +kernel, by decide +kernel⟩
abbrev s_number_begun : Stmt := top 23
theorem sc_number_begun : FnScope ["rows", "day", "low", "high", "middle"] ["rows", "day"] (defScope s_number_begun) := ⟨rfl, rfl, rfl, by decide +kernel, rfl, by decide +kernel, by decide +kernel⟩
abbrev s_until_of : Stmt := top 9
theorem sc_until_of : FnScope ["stop", "ends"] ["stop", "ends"] (defScope s_until_of) := ⟨rfl, rfl, rfl, by decide +kernel, rfl, by decide +kernel, by decide +kernel⟩
abbrev s_without_stretch : Stmt := top 24
theorem sc_without_stretch : FnScope ["row", "first", "last", "ends", "begin", "until", "value", "stop", "left", "end"] ["row", "first", "last", "ends"] (defScope s_without_stretch) := ⟨rfl, rfl, rfl, by decide +kernel, rfl, by decide +kernel, by decide +kernel⟩
abbrev s_Book_setitem : Stmt := inClass (top 25) 7
theorem sc_Book_setitem : FnScope ["self", "at", "worth", "first", "last", "low", "high", "left", "until", "row", "part"] ["self", "at", "worth"] (defScope s_Book_setitem) := ⟨rfl, rfl, rfl, by decide +kernel, rfl, by decide +kernel, by decide +kernel⟩
abbrev s_Book_from_rows : Stmt := inClass (top 25) 1
theorem sc_Book_from_rows : FnScope ["rows", "ends"] ["rows", "ends"] (defScope s_Book_from_rows) := ⟨rfl, rfl, rfl, by decide +kernel, rfl, by decide +kernel, by decide +kernel⟩
abbrev s_law : Stmt := top 56
theorem sc_law : FnScope ["script", "at", "bag", "ends", "rows", "book", "first", "last", "value"] ["script"] (defScope s_law) := ⟨rfl, rfl, rfl, by decide +kernel, rfl, by decide +kernel, by decide +kernel⟩
structure Tx (w : World) (K : PySem.W.Frag) (mg : Str → Option Value) : Type where
  c_Ends : Addr
  g_Ends : mg "Ends" = some (.ref c_Ends)
  r_Ends : ClX.CRead K c_Ends (.type "type")
  u_Ends_LAST_DAY : Tok
  v_Ends_LAST_DAY : ClX.CVal K c_Ends (.type "type") "LAST_DAY" (.str "last day") (.str "last day" u_Ends_LAST_DAY)
  u_Ends_NEXT_DAY : Tok
  v_Ends_NEXT_DAY : ClX.CVal K c_Ends (.type "type") "NEXT_DAY" (.str "next day") (.str "next day" u_Ends_NEXT_DAY)
  c_EmptyRow : Addr
  g_EmptyRow : mg "EmptyRow" = some (.ref c_EmptyRow)
  c_Clash : Addr
  g_Clash : mg "Clash" = some (.ref c_Clash)
  c_Book : Addr
  g_Book : mg "Book" = some (.ref c_Book)
  cl_Book : Cls K c_Book
  n_Book_ends : NoAttr K c_Book "ends"
  n_Book__rows : NoAttr K c_Book "_rows"
  r_Book : ClX.CRead K c_Book (.type "type")
  c_EmptyStretch : Addr
  g_EmptyStretch : mg "EmptyStretch" = some (.ref c_EmptyStretch)
  a_Lparts : Addr
  fd_Lparts : FuncData
  F_Lparts : Fun K "_law_parts" "_law_parts" s_Lparts a_Lparts fd_Lparts
  b_Lparts : Binds K fd_Lparts ["script", "most"] []
  g_Lparts : mg "_law_parts" = some (.ref a_Lparts)
  a_Lbag : Addr
  fd_Lbag : FuncData
  F_Lbag : Fun K "_law_bag" "_law_bag" s_Lbag a_Lbag fd_Lbag
  b_Lbag : Binds K fd_Lbag ["script", "at"] []
  g_Lbag : mg "_law_bag" = some (.ref a_Lbag)
  a_Ltake : Addr
  fd_Ltake : FuncData
  F_Ltake : Fun K "_law_take" "_law_take" s_Ltake a_Ltake fd_Ltake
  b_Ltake : Binds K fd_Ltake ["bag", "many"] []
  g_Ltake : mg "_law_take" = some (.ref a_Ltake)
  a_Lof : Addr
  fd_Lof : FuncData
  F_Lof : Fun K "_law_of" "_law_of" s_Lof a_Lof fd_Lof
  b_Lof : Binds K fd_Lof ["bag", "some"] []
  g_Lof : mg "_law_of" = some (.ref a_Lof)
  a_Lends : Addr
  fd_Lends : FuncData
  F_Lends : Fun K "_law_ends" "_law_ends" s_Lends a_Lends fd_Lends
  b_Lends : Binds K fd_Lends ["bag"] []
  g_Lends : mg "_law_ends" = some (.ref a_Lends)
  a_Lwide : Addr
  fd_Lwide : FuncData
  F_Lwide : Fun K "_law_wide" "_law_wide" s_Lwide a_Lwide fd_Lwide
  b_Lwide : Binds K fd_Lwide ["bag", "many"] []
  g_Lwide : mg "_law_wide" = some (.ref a_Lwide)
  a_Lday : Addr
  fd_Lday : FuncData
  F_Lday : Fun K "_law_day" "_law_day" s_Lday a_Lday fd_Lday
  b_Lday : Binds K fd_Lday ["bag"] []
  g_Lday : mg "_law_day" = some (.ref a_Lday)
  a_Lvalue : Addr
  fd_Lvalue : FuncData
  F_Lvalue : Fun K "_law_value" "_law_value" s_Lvalue a_Lvalue fd_Lvalue
  b_Lvalue : Binds K fd_Lvalue ["bag"] []
  g_Lvalue : mg "_law_value" = some (.ref a_Lvalue)
  a_Lrows : Addr
  fd_Lrows : FuncData
  F_Lrows : Fun K "_law_rows" "_law_rows" s_Lrows a_Lrows fd_Lrows
  b_Lrows : Binds K fd_Lrows ["bag", "many", "form"] []
  g_Lrows : mg "_law_rows" = some (.ref a_Lrows)
  a_Lshifted : Addr
  fd_Lshifted : FuncData
  F_Lshifted : Fun K "_law_shifted" "_law_shifted" s_Lshifted a_Lshifted fd_Lshifted
  b_Lshifted : Binds K fd_Lshifted ["bag", "rows"] []
  g_Lshifted : mg "_law_shifted" = some (.ref a_Lshifted)
  a_Lnear : Addr
  fd_Lnear : FuncData
  F_Lnear : Fun K "_law_near" "_law_near" s_Lnear a_Lnear fd_Lnear
  b_Lnear : Binds K fd_Lnear ["bag", "marks"] []
  g_Lnear : mg "_law_near" = some (.ref a_Lnear)
  a_Lstretch : Addr
  fd_Lstretch : FuncData
  F_Lstretch : Fun K "_law_stretch" "_law_stretch" s_Lstretch a_Lstretch fd_Lstretch
  b_Lstretch : Binds K fd_Lstretch ["bag", "marks", "some"] []
  g_Lstretch : mg "_law_stretch" = some (.ref a_Lstretch)
  a_Lcut : Addr
  fd_Lcut : FuncData
  F_Lcut : Fun K "_law_cut" "_law_cut" s_Lcut a_Lcut fd_Lcut
  b_Lcut : Binds K fd_Lcut ["rows", "low", "high"] []
  g_Lcut : mg "_law_cut" = some (.ref a_Lcut)
  a_Lsorted_rows : Addr
  fd_Lsorted_rows : FuncData
  F_Lsorted_rows : Fun K "_law_sorted_rows" "_law_sorted_rows" s_Lsorted_rows a_Lsorted_rows fd_Lsorted_rows
  b_Lsorted_rows : Binds K fd_Lsorted_rows ["rows"] []
  g_Lsorted_rows : mg "_law_sorted_rows" = some (.ref a_Lsorted_rows)
  cc_Lsorted_rows : Addr
  cp_Lsorted_rows : Addr
  FC_Lsorted_rows : FunC K "_law_sorted_rows" "_law_sorted_rows" s_Lsorted_rows a_Lsorted_rows fd_Lsorted_rows cc_Lsorted_rows
  a_Lput_rows : Addr
  fd_Lput_rows : FuncData
  F_Lput_rows : Fun K "_law_put_rows" "_law_put_rows" s_Lput_rows a_Lput_rows fd_Lput_rows
  b_Lput_rows : Binds K fd_Lput_rows ["rows", "first", "last", "value"] []
  g_Lput_rows : mg "_law_put_rows" = some (.ref a_Lput_rows)
  a_Lmany : Addr
  fd_Lmany : FuncData
  F_Lmany : Fun K "_law_many" "_law_many" s_Lmany a_Lmany fd_Lmany
  b_Lmany : Binds K fd_Lmany ["bag", "most"] []
  g_Lmany : mg "_law_many" = some (.ref a_Lmany)
  a_stop_of : Addr
  fd_stop_of : FuncData
  F_stop_of : Fun K "stop_of" "stop_of" s_stop_of a_stop_of fd_stop_of
  b_stop_of : Binds K fd_stop_of ["until", "ends"] []
  g_stop_of : mg "stop_of" = some (.ref a_stop_of)
  a_bears_no_day : Addr
  fd_bears_no_day : FuncData
  F_bears_no_day : Fun K "bears_no_day" "bears_no_day" s_bears_no_day a_bears_no_day fd_bears_no_day
  b_bears_no_day : Binds K fd_bears_no_day ["first", "until", "ends"] []
  g_bears_no_day : mg "bears_no_day" = some (.ref a_bears_no_day)
  a_EmptyRow_init : Addr
  fd_EmptyRow_init : FuncData
  F_EmptyRow_init : Fun K "__init__" "EmptyRow.__init__" s_EmptyRow_init a_EmptyRow_init fd_EmptyRow_init
  b_EmptyRow_init : Binds K fd_EmptyRow_init ["self", "first", "end"] []
  x_EmptyRow : ExcF K c_EmptyRow a_EmptyRow_init
  n_EmptyRow_first : PySem.W.findIn K (.ref c_EmptyRow) "first" = some none
  n_EmptyRow_end : PySem.W.findIn K (.ref c_EmptyRow) "end" = some none
  a_checked_until : Addr
  fd_checked_until : FuncData
  F_checked_until : Fun K "checked_until" "checked_until" s_checked_until a_checked_until fd_checked_until
  b_checked_until : Binds K fd_checked_until ["first", "until", "ends"] []
  g_checked_until : mg "checked_until" = some (.ref a_checked_until)
  a_first_day : Addr
  fd_first_day : FuncData
  F_first_day : Fun K "first_day" "first_day" s_first_day a_first_day fd_first_day
  b_first_day : Binds K fd_first_day ["row"] []
  g_first_day : mg "first_day" = some (.ref a_first_day)
  a_bears : Addr
  fd_bears : FuncData
  F_bears : Fun K "bears" "bears" s_bears a_bears fd_bears
  b_bears : Binds K fd_bears ["row", "day", "ends"] []
  g_bears : mg "bears" = some (.ref a_bears)
  a_Clash_init : Addr
  fd_Clash_init : FuncData
  F_Clash_init : Fun K "__init__" "Clash.__init__" s_Clash_init a_Clash_init fd_Clash_init
  b_Clash_init : Binds K fd_Clash_init ["self", "earlier", "later"] []
  x_Clash : ExcF K c_Clash a_Clash_init
  n_Clash_earlier : PySem.W.findIn K (.ref c_Clash) "earlier" = some none
  n_Clash_later : PySem.W.findIn K (.ref c_Clash) "later" = some none
  a_checked_rows : Addr
  fd_checked_rows : FuncData
  F_checked_rows : Fun K "checked_rows" "checked_rows" s_checked_rows a_checked_rows fd_checked_rows
  b_checked_rows : Binds K fd_checked_rows ["rows", "ends"] []
  g_checked_rows : mg "checked_rows" = some (.ref a_checked_rows)
  a_Book_init : Addr
  fd_Book_init : FuncData
  F_Book_init : Fun K "__init__" "Book.__init__" s_Book_init a_Book_init fd_Book_init
  mk_Book : Mk K c_Book a_Book_init
  a_Lwritten : Addr
  fd_Lwritten : FuncData
  F_Lwritten : Fun K "_law_written" "_law_written" s_Lwritten a_Lwritten fd_Lwritten
  b_Lwritten : Binds K fd_Lwritten ["rows", "ends"] []
  g_Lwritten : mg "_law_written" = some (.ref a_Lwritten)
  a_Lborders : Addr
  fd_Lborders : FuncData
  F_Lborders : Fun K "_law_borders" "_law_borders" s_Lborders a_Lborders fd_Lborders
  b_Lborders : Binds K fd_Lborders ["rows"] []
  g_Lborders : mg "_law_borders" = some (.ref a_Lborders)
  a_row_line : Addr
  fd_row_line : FuncData
  F_row_line : Fun K "row_line" "row_line" s_row_line a_row_line fd_row_line
  b_row_line : Binds K fd_row_line ["row"] []
  g_row_line : mg "row_line" = some (.ref a_row_line)
  a_Book_iter : Addr
  fd_Book_iter : FuncData
  F_Book_iter : Fun K "__iter__" "Book.__iter__" s_Book_iter a_Book_iter fd_Book_iter
  b_Book_iter : Binds K fd_Book_iter ["self"] []
  m_Book_iter : Meth K c_Book "__iter__" a_Book_iter
  a_printed : Addr
  fd_printed : FuncData
  F_printed : Fun K "printed" "printed" s_printed a_printed fd_printed
  b_printed : Binds K fd_printed ["book"] []
  g_printed : mg "printed" = some (.ref a_printed)
  a_Ldue : Addr
  fd_Ldue : FuncData
  F_Ldue : Fun K "_law_due" "_law_due" s_Ldue a_Ldue fd_Ldue
  b_Ldue : Binds K fd_Ldue ["rows", "ends"] []
  g_Ldue : mg "_law_due" = some (.ref a_Ldue)
  a_Lsame_value : Addr
  fd_Lsame_value : FuncData
  F_Lsame_value : Fun K "_law_same_value" "_law_same_value" s_Lsame_value a_Lsame_value fd_Lsame_value
  b_Lsame_value : Binds K fd_Lsame_value ["one", "other"] []
  g_Lsame_value : mg "_law_same_value" = some (.ref a_Lsame_value)
  a_Lsame : Addr
  fd_Lsame : FuncData
  F_Lsame : Fun K "_law_same" "_law_same" s_Lsame a_Lsame fd_Lsame
  b_Lsame : Binds K fd_Lsame ["told", "due"] []
  g_Lsame : mg "_law_same" = some (.ref a_Lsame)
  a_Lis_number : Addr
  fd_Lis_number : FuncData
  F_Lis_number : Fun K "_law_is_number" "_law_is_number" s_Lis_number a_Lis_number fd_Lis_number
  b_Lis_number : Binds K fd_Lis_number ["thing"] []
  g_Lis_number : mg "_law_is_number" = some (.ref a_Lis_number)
  a_Lare : Addr
  fd_Lare : FuncData
  F_Lare : Fun K "_law_are" "_law_are" s_Lare a_Lare fd_Lare
  b_Lare : Binds K fd_Lare ["told", "due"] []
  g_Lare : mg "_law_are" = some (.ref a_Lare)
  a_Book_len : Addr
  fd_Book_len : FuncData
  F_Book_len : Fun K "__len__" "Book.__len__" s_Book_len a_Book_len fd_Book_len
  b_Book_len : Binds K fd_Book_len ["self"] []
  m_Book_len : Meth K c_Book "__len__" a_Book_len
  a_EmptyStretch_init : Addr
  fd_EmptyStretch_init : FuncData
  F_EmptyStretch_init : Fun K "__init__" "EmptyStretch.__init__" s_EmptyStretch_init a_EmptyStretch_init fd_EmptyStretch_init
  b_EmptyStretch_init : Binds K fd_EmptyStretch_init ["self", "first", "last"] []
  x_EmptyStretch : ExcF K c_EmptyStretch a_EmptyStretch_init
  n_EmptyStretch_first : PySem.W.findIn K (.ref c_EmptyStretch) "first" = some none
  n_EmptyStretch_last : PySem.W.findIn K (.ref c_EmptyStretch) "last" = some none
  a_stretch_of : Addr
  fd_stretch_of : FuncData
  F_stretch_of : Fun K "stretch_of" "stretch_of" s_stretch_of a_stretch_of fd_stretch_of
  b_stretch_of : Binds K fd_stretch_of ["at"] []
  g_stretch_of : mg "stretch_of" = some (.ref a_stretch_of)
  a_number_begun : Addr
  fd_number_begun : FuncData
  F_number_begun : Fun K "number_begun" "number_begun" s_number_begun a_number_begun fd_number_begun
  b_number_begun : Binds K fd_number_begun ["rows", "day"] []
  g_number_begun : mg "number_begun" = some (.ref a_number_begun)
  a_until_of : Addr
  fd_until_of : FuncData
  F_until_of : Fun K "until_of" "until_of" s_until_of a_until_of fd_until_of
  b_until_of : Binds K fd_until_of ["stop", "ends"] []
  g_until_of : mg "until_of" = some (.ref a_until_of)
  a_without_stretch : Addr
  fd_without_stretch : FuncData
  F_without_stretch : Fun K "without_stretch" "without_stretch" s_without_stretch a_without_stretch fd_without_stretch
  b_without_stretch : Binds K fd_without_stretch ["row", "first", "last", "ends"] []
  g_without_stretch : mg "without_stretch" = some (.ref a_without_stretch)
  a_Book_setitem : Addr
  fd_Book_setitem : FuncData
  F_Book_setitem : Fun K "__setitem__" "Book.__setitem__" s_Book_setitem a_Book_setitem fd_Book_setitem
  b_Book_setitem : Binds K fd_Book_setitem ["self", "at", "worth"] []
  m_Book_setitem : Meth K c_Book "__setitem__" a_Book_setitem
  q_Book : PySem.W.noSeq K c_Book = true
  a_Book_from_rows : Addr
  fd_Book_from_rows : FuncData
  F_Book_from_rows : FunD K "from_rows" "Book.from_rows" (defArgs s_Book_from_rows) (defBody s_Book_from_rows) (defScope s_Book_from_rows) [.str "last day"] [] a_Book_from_rows fd_Book_from_rows
  b1_Book_from_rows : ∃ ds, Vals ([.str "last day"] : List V) ds ∧ Binds K fd_Book_from_rows ["rows", "ends"] ds
  b2_Book_from_rows : ∃ ds, Vals ([] : List V) ds ∧ Binds K fd_Book_from_rows ["rows", "ends"] ds
  pa_Book_from_rows : Addr
  sm_Book_from_rows : SMet K c_Book (.type "type") "from_rows" pa_Book_from_rows a_Book_from_rows
  a_law : Addr
  fd_law : FuncData
  F_law : Fun K "law" "law" s_law a_law fd_law
  b_law : Binds K fd_law ["script"] []
  bt_law : ∀ (s : Shared) (v : Value), BindsTo s fd_law ⟨[v], []⟩ [("script", v)]
  g_law : mg "law" = some (.ref a_law)
  sq_Book : SeqC K c_Book a_Book_iter a_Book_len
  kt_NO_END : Tok
  kg_NO_END : mg "NO_END" = some (.str "open" kt_NO_END)
  kt_QUOTE : Tok
  kg_QUOTE : mg "QUOTE" = some (.str "'" kt_QUOTE)
  kd_FIRST_LINES : Addr
  kg_FIRST_LINES : mg "FIRST_LINES" = some (.ref kd_FIRST_LINES)
  dg_FIRST_LINES_0 : KDct K w kd_FIRST_LINES "last day" (.str "until is the last day")
  dg_FIRST_LINES_1 : KDct K w kd_FIRST_LINES "next day" (.str "until is the next day")
  n_max : mg "max" = none
  n_min : mg "min" = none
  n_len : mg "len" = none
  n_abs : mg "abs" = none
  n_int : mg "int" = none
  n_range : mg "range" = none
  n_sorted : mg "sorted" = none
  n_zip : mg "zip" = none
  n_list : mg "list" = none
  n_str : mg "str" = none
  n_isinstance : mg "isinstance" = none
  n_iter : mg "iter" = none
  n_bool : mg "bool" = none
  n_tuple : mg "tuple" = none
theorem tx_mk {w : World} {K : PySem.W.Frag} {h : Heap} {mg mb : Str → Option Value} {fa : Addr} {q : Program} {loose : List Str} {mean : ExcName → Option Value} (TP : Top q loose mean mg mb h) (hany : (recsOf q).any (fun d => d.name == "_law_sorted_rows") = true) (X : K.In h) (G : h.Ns mainGlobals mg) (hfa : mg "law" = some (.ref fa))
    {C_Ends : Addr} {tk_Ends_LAST_DAY : Tok} {tk_Ends_NEXT_DAY : Tok} {C_EmptyRow : Addr} {C_Clash : Addr} {C_Book : Addr} {C_EmptyStretch : Addr} {f_Lparts : Addr} {od_Lparts an_Lparts : Option Addr} {sl_Lparts : Array (Option Value)} {oc_Lparts kV_Lparts dc_Lparts pm_Lparts cd_Lparts ct_Lparts : Value} {f_Lbag : Addr} {od_Lbag an_Lbag : Option Addr} {sl_Lbag : Array (Option Value)} {oc_Lbag kV_Lbag dc_Lbag pm_Lbag cd_Lbag ct_Lbag : Value} {f_Ltake : Addr} {od_Ltake an_Ltake : Option Addr} {sl_Ltake : Array (Option Value)} {oc_Ltake kV_Ltake dc_Ltake pm_Ltake cd_Ltake ct_Ltake : Value} {f_Lof : Addr} {od_Lof an_Lof : Option Addr} {sl_Lof : Array (Option Value)} {oc_Lof kV_Lof dc_Lof pm_Lof cd_Lof ct_Lof : Value} {f_Lends : Addr} {od_Lends an_Lends : Option Addr} {sl_Lends : Array (Option Value)} {oc_Lends kV_Lends dc_Lends pm_Lends cd_Lends ct_Lends : Value} {f_Lwide : Addr} {od_Lwide an_Lwide : Option Addr} {sl_Lwide : Array (Option Value)} {oc_Lwide kV_Lwide dc_Lwide pm_Lwide cd_Lwide ct_Lwide : Value} {f_Lday : Addr} {od_Lday an_Lday : Option Addr} {sl_Lday : Array (Option Value)} {oc_Lday kV_Lday dc_Lday pm_Lday cd_Lday ct_Lday : Value} {f_Lvalue : Addr} {od_Lvalue an_Lvalue : Option Addr} {sl_Lvalue : Array (Option Value)} {oc_Lvalue kV_Lvalue dc_Lvalue pm_Lvalue cd_Lvalue ct_Lvalue : Value} {f_Lrows : Addr} {od_Lrows an_Lrows : Option Addr} {sl_Lrows : Array (Option Value)} {oc_Lrows kV_Lrows dc_Lrows pm_Lrows cd_Lrows ct_Lrows : Value} {f_Lshifted : Addr} {od_Lshifted an_Lshifted : Option Addr} {sl_Lshifted : Array (Option Value)} {oc_Lshifted kV_Lshifted dc_Lshifted pm_Lshifted cd_Lshifted ct_Lshifted : Value} {f_Lnear : Addr} {od_Lnear an_Lnear : Option Addr} {sl_Lnear : Array (Option Value)} {oc_Lnear kV_Lnear dc_Lnear pm_Lnear cd_Lnear ct_Lnear : Value} {f_Lstretch : Addr} {od_Lstretch an_Lstretch : Option Addr} {sl_Lstretch : Array (Option Value)} {oc_Lstretch kV_Lstretch dc_Lstretch pm_Lstretch cd_Lstretch ct_Lstretch : Value} {f_Lcut : Addr} {od_Lcut an_Lcut : Option Addr} {sl_Lcut : Array (Option Value)} {oc_Lcut kV_Lcut dc_Lcut pm_Lcut cd_Lcut ct_Lcut : Value} {f_Lsorted_rows : Addr} {od_Lsorted_rows an_Lsorted_rows : Option Addr} {sl_Lsorted_rows : Array (Option Value)} {oc_Lsorted_rows kV_Lsorted_rows dc_Lsorted_rows pm_Lsorted_rows ct_Lsorted_rows : Value} {cc_Lsorted_rows cp_Lsorted_rows : Addr} {oq_Lsorted_rows : Value} {dq_Lsorted_rows : Option Addr} {vq_Lsorted_rows : Array Value} {sz_Lsorted_rows : Array (Option Value)} {f_Lput_rows : Addr} {od_Lput_rows an_Lput_rows : Option Addr} {sl_Lput_rows : Array (Option Value)} {oc_Lput_rows kV_Lput_rows dc_Lput_rows pm_Lput_rows cd_Lput_rows ct_Lput_rows : Value} {f_Lmany : Addr} {od_Lmany an_Lmany : Option Addr} {sl_Lmany : Array (Option Value)} {oc_Lmany kV_Lmany dc_Lmany pm_Lmany cd_Lmany ct_Lmany : Value} {f_stop_of : Addr} {od_stop_of an_stop_of : Option Addr} {sl_stop_of : Array (Option Value)} {oc_stop_of kV_stop_of dc_stop_of pm_stop_of cd_stop_of ct_stop_of : Value} {f_bears_no_day : Addr} {od_bears_no_day an_bears_no_day : Option Addr} {sl_bears_no_day : Array (Option Value)} {oc_bears_no_day kV_bears_no_day dc_bears_no_day pm_bears_no_day cd_bears_no_day ct_bears_no_day : Value} {f_EmptyRow_init : Addr} {od_EmptyRow_init an_EmptyRow_init : Option Addr} {sl_EmptyRow_init : Array (Option Value)} {oc_EmptyRow_init kV_EmptyRow_init dc_EmptyRow_init pm_EmptyRow_init cd_EmptyRow_init ct_EmptyRow_init : Value} {nm_EmptyRow q_EmptyRow : Str} {N_EmptyRow : Addr} {bs_EmptyRow bm_EmptyRow sub_EmptyRow : List Value} {sn_EmptyRow : List Str} {ab_EmptyRow : Bool} {col_EmptyRow : Option Bool} {dd_EmptyRow : Option Addr} {m0_EmptyRow m1_EmptyRow m2_EmptyRow m3_EmptyRow m5_EmptyRow : Option Value} {f_checked_until : Addr} {od_checked_until an_checked_until : Option Addr} {sl_checked_until : Array (Option Value)} {oc_checked_until kV_checked_until dc_checked_until pm_checked_until cd_checked_until ct_checked_until : Value} {f_first_day : Addr} {od_first_day an_first_day : Option Addr} {sl_first_day : Array (Option Value)} {oc_first_day kV_first_day dc_first_day pm_first_day cd_first_day ct_first_day : Value} {f_bears : Addr} {od_bears an_bears : Option Addr} {sl_bears : Array (Option Value)} {oc_bears kV_bears dc_bears pm_bears cd_bears ct_bears : Value} {f_Clash_init : Addr} {od_Clash_init an_Clash_init : Option Addr} {sl_Clash_init : Array (Option Value)} {oc_Clash_init kV_Clash_init dc_Clash_init pm_Clash_init cd_Clash_init ct_Clash_init : Value} {nm_Clash q_Clash : Str} {N_Clash : Addr} {bs_Clash bm_Clash sub_Clash : List Value} {sn_Clash : List Str} {ab_Clash : Bool} {col_Clash : Option Bool} {dd_Clash : Option Addr} {m0_Clash m1_Clash m2_Clash m3_Clash m5_Clash : Option Value} {f_checked_rows : Addr} {od_checked_rows an_checked_rows : Option Addr} {sl_checked_rows : Array (Option Value)} {oc_checked_rows kV_checked_rows dc_checked_rows pm_checked_rows cd_checked_rows ct_checked_rows : Value} {f_Book_init : Addr} {od_Book_init an_Book_init : Option Addr} {sl_Book_init : Array (Option Value)} {oc_Book_init kV_Book_init dc_Book_init pm_Book_init cd_Book_init ct_Book_init : Value} {f_Lwritten : Addr} {od_Lwritten an_Lwritten : Option Addr} {sl_Lwritten : Array (Option Value)} {oc_Lwritten kV_Lwritten dc_Lwritten pm_Lwritten cd_Lwritten ct_Lwritten : Value} {f_Lborders : Addr} {od_Lborders an_Lborders : Option Addr} {sl_Lborders : Array (Option Value)} {oc_Lborders kV_Lborders dc_Lborders pm_Lborders cd_Lborders ct_Lborders : Value} {f_row_line : Addr} {od_row_line an_row_line : Option Addr} {sl_row_line : Array (Option Value)} {oc_row_line kV_row_line dc_row_line pm_row_line cd_row_line ct_row_line : Value} {f_Book_iter : Addr} {od_Book_iter an_Book_iter : Option Addr} {sl_Book_iter : Array (Option Value)} {oc_Book_iter kV_Book_iter dc_Book_iter pm_Book_iter cd_Book_iter ct_Book_iter : Value} {f_printed : Addr} {od_printed an_printed : Option Addr} {sl_printed : Array (Option Value)} {oc_printed kV_printed dc_printed pm_printed cd_printed ct_printed : Value} {f_Ldue : Addr} {od_Ldue an_Ldue : Option Addr} {sl_Ldue : Array (Option Value)} {oc_Ldue kV_Ldue dc_Ldue pm_Ldue cd_Ldue ct_Ldue : Value} {f_Lsame_value : Addr} {od_Lsame_value an_Lsame_value : Option Addr} {sl_Lsame_value : Array (Option Value)} {oc_Lsame_value kV_Lsame_value dc_Lsame_value pm_Lsame_value cd_Lsame_value ct_Lsame_value : Value} {f_Lsame : Addr} {od_Lsame an_Lsame : Option Addr} {sl_Lsame : Array (Option Value)} {oc_Lsame kV_Lsame dc_Lsame pm_Lsame cd_Lsame ct_Lsame : Value} {f_Lis_number : Addr} {od_Lis_number an_Lis_number : Option Addr} {sl_Lis_number : Array (Option Value)} {oc_Lis_number kV_Lis_number dc_Lis_number pm_Lis_number cd_Lis_number ct_Lis_number : Value} {f_Lare : Addr} {od_Lare an_Lare : Option Addr} {sl_Lare : Array (Option Value)} {oc_Lare kV_Lare dc_Lare pm_Lare cd_Lare ct_Lare : Value} {f_Book_len : Addr} {od_Book_len an_Book_len : Option Addr} {sl_Book_len : Array (Option Value)} {oc_Book_len kV_Book_len dc_Book_len pm_Book_len cd_Book_len ct_Book_len : Value} {f_EmptyStretch_init : Addr} {od_EmptyStretch_init an_EmptyStretch_init : Option Addr} {sl_EmptyStretch_init : Array (Option Value)} {oc_EmptyStretch_init kV_EmptyStretch_init dc_EmptyStretch_init pm_EmptyStretch_init cd_EmptyStretch_init ct_EmptyStretch_init : Value} {nm_EmptyStretch q_EmptyStretch : Str} {N_EmptyStretch : Addr} {bs_EmptyStretch bm_EmptyStretch sub_EmptyStretch : List Value} {sn_EmptyStretch : List Str} {ab_EmptyStretch : Bool} {col_EmptyStretch : Option Bool} {dd_EmptyStretch : Option Addr} {m0_EmptyStretch m1_EmptyStretch m2_EmptyStretch m3_EmptyStretch m5_EmptyStretch : Option Value} {f_stretch_of : Addr} {od_stretch_of an_stretch_of : Option Addr} {sl_stretch_of : Array (Option Value)} {oc_stretch_of kV_stretch_of dc_stretch_of pm_stretch_of cd_stretch_of ct_stretch_of : Value} {f_number_begun : Addr} {od_number_begun an_number_begun : Option Addr} {sl_number_begun : Array (Option Value)} {oc_number_begun kV_number_begun dc_number_begun pm_number_begun cd_number_begun ct_number_begun : Value} {f_until_of : Addr} {od_until_of an_until_of : Option Addr} {sl_until_of : Array (Option Value)} {oc_until_of kV_until_of dc_until_of pm_until_of cd_until_of ct_until_of : Value} {f_without_stretch : Addr} {od_without_stretch an_without_stretch : Option Addr} {sl_without_stretch : Array (Option Value)} {oc_without_stretch kV_without_stretch dc_without_stretch pm_without_stretch cd_without_stretch ct_without_stretch : Value} {f_Book_setitem : Addr} {od_Book_setitem an_Book_setitem : Option Addr} {sl_Book_setitem : Array (Option Value)} {oc_Book_setitem kV_Book_setitem dc_Book_setitem pm_Book_setitem cd_Book_setitem ct_Book_setitem : Value} {f_Book_from_rows : Addr} {od_Book_from_rows an_Book_from_rows : Option Addr} {sl_Book_from_rows : Array (Option Value)} {oc_Book_from_rows kV_Book_from_rows dc_Book_from_rows pm_Book_from_rows cd_Book_from_rows ct_Book_from_rows : Value} {pp_Book_from_rows : Addr} {re_Book_from_rows : List Value} {td_Book_from_rows : Addr} {tc_Book_from_rows : Value} {to_Book_from_rows : Option Addr} {tn_Book_from_rows : Nat} {ts_Book_from_rows : Array (Option Value)} {tkd_Book_from_rows_0 : Tok} {f_law : Addr} {od_law an_law : Option Addr} {sl_law : Array (Option Value)} {oc_law kV_law dc_law pm_law cd_law ct_law : Value} {gt_NO_END : Tok} {gt_QUOTE : Tok} {gd_FIRST_LINES : Addr} {ge_FIRST_LINES : Array DictEntry} {gn_FIRST_LINES : Nat} {dt_FIRST_LINES_0 : Tok} {dt_FIRST_LINES_1 : Tok}
    (gsd : PySem.W.specialIn K (.builtin "object.__class__") "__get__" = some (some (.builtin "getset_descriptor.__get__")))
    (gst : PySem.W.takesIn K (.builtin "object.__class__") = some true)
    (aC_Ends : PySem.W.nsIn K mainGlobals "Ends" = some (some (.ref C_Ends)))
    (rd_Ends : PySem.W.readsIn K C_Ends (.type "type") = true)
    (rg_Ends : PySem.W.specialIn K (.ref C_Ends) "__getattribute__" = some (some (.builtin "type.__getattribute__")))
    (cv_Ends_LAST_DAY : PySem.W.findCls K (.ref C_Ends) (.type "type") "LAST_DAY" = some (.val (.str "last day" tk_Ends_LAST_DAY)))
    (cv_Ends_NEXT_DAY : PySem.W.findCls K (.ref C_Ends) (.type "type") "NEXT_DAY" = some (.val (.str "next day" tk_Ends_NEXT_DAY)))
    (aC_EmptyRow : PySem.W.nsIn K mainGlobals "EmptyRow" = some (some (.ref C_EmptyRow)))
    (aC_Clash : PySem.W.nsIn K mainGlobals "Clash" = some (some (.ref C_Clash)))
    (aC_Book : PySem.W.nsIn K mainGlobals "Book" = some (some (.ref C_Book)))
    (pg_Book : PySem.W.plainGet K C_Book Str.empty = true)
    (hd_Book : PySem.W.hasDictIn K C_Book = true)
    (po_Book : PySem.W.plainOver K C_Book = true)
    (sa_Book : PySem.W.findIn K (.ref C_Book) "__setattr__" = some (some (.builtin "object.__setattr__")))
    (na_Book_ends : PySem.W.findIn K (.ref C_Book) "ends" = some none)
    (na_Book__rows : PySem.W.findIn K (.ref C_Book) "_rows" = some none)
    (rd_Book : PySem.W.readsIn K C_Book (.type "type") = true)
    (rg_Book : PySem.W.specialIn K (.ref C_Book) "__getattribute__" = some (some (.builtin "type.__getattribute__")))
    (aC_EmptyStretch : PySem.W.nsIn K mainGlobals "EmptyStretch" = some (some (.ref C_EmptyStretch)))
    (a_Lparts : PySem.W.nsIn K mainGlobals "_law_parts" = some (some (.ref f_Lparts)))
    (l_Lparts : K.lookup f_Lparts = some ⟨oc_Lparts, od_Lparts, .func (PySem.W.fnOf "_law_parts" "_law_parts" (defArgs s_Lparts) (defBody s_Lparts) (defScope s_Lparts) .none kV_Lparts dc_Lparts pm_Lparts an_Lparts cd_Lparts ct_Lparts), sl_Lparts⟩)
    (co_Lparts : PySem.W.codeIn K cd_Lparts "_law_parts" = true)
    (k_Lparts : PySem.W.keepIn K (.ref f_Lparts) = true)
    (a_Lbag : PySem.W.nsIn K mainGlobals "_law_bag" = some (some (.ref f_Lbag)))
    (l_Lbag : K.lookup f_Lbag = some ⟨oc_Lbag, od_Lbag, .func (PySem.W.fnOf "_law_bag" "_law_bag" (defArgs s_Lbag) (defBody s_Lbag) (defScope s_Lbag) .none kV_Lbag dc_Lbag pm_Lbag an_Lbag cd_Lbag ct_Lbag), sl_Lbag⟩)
    (co_Lbag : PySem.W.codeIn K cd_Lbag "_law_bag" = true)
    (k_Lbag : PySem.W.keepIn K (.ref f_Lbag) = true)
    (a_Ltake : PySem.W.nsIn K mainGlobals "_law_take" = some (some (.ref f_Ltake)))
    (l_Ltake : K.lookup f_Ltake = some ⟨oc_Ltake, od_Ltake, .func (PySem.W.fnOf "_law_take" "_law_take" (defArgs s_Ltake) (defBody s_Ltake) (defScope s_Ltake) .none kV_Ltake dc_Ltake pm_Ltake an_Ltake cd_Ltake ct_Ltake), sl_Ltake⟩)
    (co_Ltake : PySem.W.codeIn K cd_Ltake "_law_take" = true)
    (k_Ltake : PySem.W.keepIn K (.ref f_Ltake) = true)
    (a_Lof : PySem.W.nsIn K mainGlobals "_law_of" = some (some (.ref f_Lof)))
    (l_Lof : K.lookup f_Lof = some ⟨oc_Lof, od_Lof, .func (PySem.W.fnOf "_law_of" "_law_of" (defArgs s_Lof) (defBody s_Lof) (defScope s_Lof) .none kV_Lof dc_Lof pm_Lof an_Lof cd_Lof ct_Lof), sl_Lof⟩)
    (co_Lof : PySem.W.codeIn K cd_Lof "_law_of" = true)
    (k_Lof : PySem.W.keepIn K (.ref f_Lof) = true)
    (a_Lends : PySem.W.nsIn K mainGlobals "_law_ends" = some (some (.ref f_Lends)))
    (l_Lends : K.lookup f_Lends = some ⟨oc_Lends, od_Lends, .func (PySem.W.fnOf "_law_ends" "_law_ends" (defArgs s_Lends) (defBody s_Lends) (defScope s_Lends) .none kV_Lends dc_Lends pm_Lends an_Lends cd_Lends ct_Lends), sl_Lends⟩)
    (co_Lends : PySem.W.codeIn K cd_Lends "_law_ends" = true)
    (k_Lends : PySem.W.keepIn K (.ref f_Lends) = true)
    (a_Lwide : PySem.W.nsIn K mainGlobals "_law_wide" = some (some (.ref f_Lwide)))
    (l_Lwide : K.lookup f_Lwide = some ⟨oc_Lwide, od_Lwide, .func (PySem.W.fnOf "_law_wide" "_law_wide" (defArgs s_Lwide) (defBody s_Lwide) (defScope s_Lwide) .none kV_Lwide dc_Lwide pm_Lwide an_Lwide cd_Lwide ct_Lwide), sl_Lwide⟩)
    (co_Lwide : PySem.W.codeIn K cd_Lwide "_law_wide" = true)
    (k_Lwide : PySem.W.keepIn K (.ref f_Lwide) = true)
    (a_Lday : PySem.W.nsIn K mainGlobals "_law_day" = some (some (.ref f_Lday)))
    (l_Lday : K.lookup f_Lday = some ⟨oc_Lday, od_Lday, .func (PySem.W.fnOf "_law_day" "_law_day" (defArgs s_Lday) (defBody s_Lday) (defScope s_Lday) .none kV_Lday dc_Lday pm_Lday an_Lday cd_Lday ct_Lday), sl_Lday⟩)
    (co_Lday : PySem.W.codeIn K cd_Lday "_law_day" = true)
    (k_Lday : PySem.W.keepIn K (.ref f_Lday) = true)
    (a_Lvalue : PySem.W.nsIn K mainGlobals "_law_value" = some (some (.ref f_Lvalue)))
    (l_Lvalue : K.lookup f_Lvalue = some ⟨oc_Lvalue, od_Lvalue, .func (PySem.W.fnOf "_law_value" "_law_value" (defArgs s_Lvalue) (defBody s_Lvalue) (defScope s_Lvalue) .none kV_Lvalue dc_Lvalue pm_Lvalue an_Lvalue cd_Lvalue ct_Lvalue), sl_Lvalue⟩)
    (co_Lvalue : PySem.W.codeIn K cd_Lvalue "_law_value" = true)
    (k_Lvalue : PySem.W.keepIn K (.ref f_Lvalue) = true)
    (a_Lrows : PySem.W.nsIn K mainGlobals "_law_rows" = some (some (.ref f_Lrows)))
    (l_Lrows : K.lookup f_Lrows = some ⟨oc_Lrows, od_Lrows, .func (PySem.W.fnOf "_law_rows" "_law_rows" (defArgs s_Lrows) (defBody s_Lrows) (defScope s_Lrows) .none kV_Lrows dc_Lrows pm_Lrows an_Lrows cd_Lrows ct_Lrows), sl_Lrows⟩)
    (co_Lrows : PySem.W.codeIn K cd_Lrows "_law_rows" = true)
    (k_Lrows : PySem.W.keepIn K (.ref f_Lrows) = true)
    (a_Lshifted : PySem.W.nsIn K mainGlobals "_law_shifted" = some (some (.ref f_Lshifted)))
    (l_Lshifted : K.lookup f_Lshifted = some ⟨oc_Lshifted, od_Lshifted, .func (PySem.W.fnOf "_law_shifted" "_law_shifted" (defArgs s_Lshifted) (defBody s_Lshifted) (defScope s_Lshifted) .none kV_Lshifted dc_Lshifted pm_Lshifted an_Lshifted cd_Lshifted ct_Lshifted), sl_Lshifted⟩)
    (co_Lshifted : PySem.W.codeIn K cd_Lshifted "_law_shifted" = true)
    (k_Lshifted : PySem.W.keepIn K (.ref f_Lshifted) = true)
    (a_Lnear : PySem.W.nsIn K mainGlobals "_law_near" = some (some (.ref f_Lnear)))
    (l_Lnear : K.lookup f_Lnear = some ⟨oc_Lnear, od_Lnear, .func (PySem.W.fnOf "_law_near" "_law_near" (defArgs s_Lnear) (defBody s_Lnear) (defScope s_Lnear) .none kV_Lnear dc_Lnear pm_Lnear an_Lnear cd_Lnear ct_Lnear), sl_Lnear⟩)
    (co_Lnear : PySem.W.codeIn K cd_Lnear "_law_near" = true)
    (k_Lnear : PySem.W.keepIn K (.ref f_Lnear) = true)
    (a_Lstretch : PySem.W.nsIn K mainGlobals "_law_stretch" = some (some (.ref f_Lstretch)))
    (l_Lstretch : K.lookup f_Lstretch = some ⟨oc_Lstretch, od_Lstretch, .func (PySem.W.fnOf "_law_stretch" "_law_stretch" (defArgs s_Lstretch) (defBody s_Lstretch) (defScope s_Lstretch) .none kV_Lstretch dc_Lstretch pm_Lstretch an_Lstretch cd_Lstretch ct_Lstretch), sl_Lstretch⟩)
    (co_Lstretch : PySem.W.codeIn K cd_Lstretch "_law_stretch" = true)
    (k_Lstretch : PySem.W.keepIn K (.ref f_Lstretch) = true)
    (a_Lcut : PySem.W.nsIn K mainGlobals "_law_cut" = some (some (.ref f_Lcut)))
    (l_Lcut : K.lookup f_Lcut = some ⟨oc_Lcut, od_Lcut, .func (PySem.W.fnOf "_law_cut" "_law_cut" (defArgs s_Lcut) (defBody s_Lcut) (defScope s_Lcut) .none kV_Lcut dc_Lcut pm_Lcut an_Lcut cd_Lcut ct_Lcut), sl_Lcut⟩)
    (co_Lcut : PySem.W.codeIn K cd_Lcut "_law_cut" = true)
    (k_Lcut : PySem.W.keepIn K (.ref f_Lcut) = true)
    (a_Lsorted_rows : PySem.W.nsIn K mainGlobals "_law_sorted_rows" = some (some (.ref f_Lsorted_rows)))
    (l_Lsorted_rows : K.lookup f_Lsorted_rows = some ⟨oc_Lsorted_rows, od_Lsorted_rows, .func (PySem.W.fnOf "_law_sorted_rows" "_law_sorted_rows" (defArgs s_Lsorted_rows) (defBody s_Lsorted_rows) (defScope s_Lsorted_rows) .none kV_Lsorted_rows dc_Lsorted_rows pm_Lsorted_rows an_Lsorted_rows (.ref cc_Lsorted_rows) ct_Lsorted_rows), sl_Lsorted_rows⟩)
    (co_Lsorted_rows : PySem.W.codeIn K (.ref cc_Lsorted_rows) "_law_sorted_rows" = true)
    (k_Lsorted_rows : PySem.W.keepIn K (.ref f_Lsorted_rows) = true)
    (lq_Lsorted_rows : K.lookup cc_Lsorted_rows = some ⟨oq_Lsorted_rows, dq_Lsorted_rows, .fields vq_Lsorted_rows, sz_Lsorted_rows⟩)
    (pq_Lsorted_rows : (vq_Lsorted_rows)[11]? = some (.ref cp_Lsorted_rows))
    (nq_Lsorted_rows : K.lookup cp_Lsorted_rows = none)
    (a_Lput_rows : PySem.W.nsIn K mainGlobals "_law_put_rows" = some (some (.ref f_Lput_rows)))
    (l_Lput_rows : K.lookup f_Lput_rows = some ⟨oc_Lput_rows, od_Lput_rows, .func (PySem.W.fnOf "_law_put_rows" "_law_put_rows" (defArgs s_Lput_rows) (defBody s_Lput_rows) (defScope s_Lput_rows) .none kV_Lput_rows dc_Lput_rows pm_Lput_rows an_Lput_rows cd_Lput_rows ct_Lput_rows), sl_Lput_rows⟩)
    (co_Lput_rows : PySem.W.codeIn K cd_Lput_rows "_law_put_rows" = true)
    (k_Lput_rows : PySem.W.keepIn K (.ref f_Lput_rows) = true)
    (a_Lmany : PySem.W.nsIn K mainGlobals "_law_many" = some (some (.ref f_Lmany)))
    (l_Lmany : K.lookup f_Lmany = some ⟨oc_Lmany, od_Lmany, .func (PySem.W.fnOf "_law_many" "_law_many" (defArgs s_Lmany) (defBody s_Lmany) (defScope s_Lmany) .none kV_Lmany dc_Lmany pm_Lmany an_Lmany cd_Lmany ct_Lmany), sl_Lmany⟩)
    (co_Lmany : PySem.W.codeIn K cd_Lmany "_law_many" = true)
    (k_Lmany : PySem.W.keepIn K (.ref f_Lmany) = true)
    (a_stop_of : PySem.W.nsIn K mainGlobals "stop_of" = some (some (.ref f_stop_of)))
    (l_stop_of : K.lookup f_stop_of = some ⟨oc_stop_of, od_stop_of, .func (PySem.W.fnOf "stop_of" "stop_of" (defArgs s_stop_of) (defBody s_stop_of) (defScope s_stop_of) .none kV_stop_of dc_stop_of pm_stop_of an_stop_of cd_stop_of ct_stop_of), sl_stop_of⟩)
    (co_stop_of : PySem.W.codeIn K cd_stop_of "stop_of" = true)
    (k_stop_of : PySem.W.keepIn K (.ref f_stop_of) = true)
    (a_bears_no_day : PySem.W.nsIn K mainGlobals "bears_no_day" = some (some (.ref f_bears_no_day)))
    (l_bears_no_day : K.lookup f_bears_no_day = some ⟨oc_bears_no_day, od_bears_no_day, .func (PySem.W.fnOf "bears_no_day" "bears_no_day" (defArgs s_bears_no_day) (defBody s_bears_no_day) (defScope s_bears_no_day) .none kV_bears_no_day dc_bears_no_day pm_bears_no_day an_bears_no_day cd_bears_no_day ct_bears_no_day), sl_bears_no_day⟩)
    (co_bears_no_day : PySem.W.codeIn K cd_bears_no_day "bears_no_day" = true)
    (k_bears_no_day : PySem.W.keepIn K (.ref f_bears_no_day) = true)
    (a_EmptyRow_init : PySem.W.findIn K (.ref C_EmptyRow) "__init__" = some (some (.ref f_EmptyRow_init)))
    (l_EmptyRow_init : K.lookup f_EmptyRow_init = some ⟨oc_EmptyRow_init, od_EmptyRow_init, .func (PySem.W.fnOf "__init__" "EmptyRow.__init__" (defArgs s_EmptyRow_init) (defBody s_EmptyRow_init) (defScope s_EmptyRow_init) .none kV_EmptyRow_init dc_EmptyRow_init pm_EmptyRow_init an_EmptyRow_init cd_EmptyRow_init ct_EmptyRow_init), sl_EmptyRow_init⟩)
    (co_EmptyRow_init : PySem.W.codeIn K cd_EmptyRow_init "EmptyRow.__init__" = true)
    (k_EmptyRow_init : PySem.W.keepIn K (.ref f_EmptyRow_init) = true)
    (xL_EmptyRow : K.lookup C_EmptyRow = some (excClassObj nm_EmptyRow q_EmptyRow C_EmptyRow N_EmptyRow bs_EmptyRow bm_EmptyRow true sn_EmptyRow sub_EmptyRow ab_EmptyRow col_EmptyRow dd_EmptyRow m0_EmptyRow m1_EmptyRow m2_EmptyRow m3_EmptyRow m5_EmptyRow "ValueError.__new__"))
    (vE_EmptyRow : PySem.HandSPX.refsVE bm_EmptyRow = true)
    (sa_EmptyRow : PySem.W.findIn K (.ref C_EmptyRow) "__setattr__" = some (some (.builtin "object.__setattr__")))
    (ga_EmptyRow : PySem.W.findIn K (.ref C_EmptyRow) "__getattribute__" = some (some (.builtin "BaseException.__getattribute__")))
    (gg_EmptyRow : PySem.W.findIn K (.ref C_EmptyRow) "__getattr__" = some none)
    (eC_EmptyRow : PySem.W.subIn K (.ref C_EmptyRow) (.type "BaseException") = some true)
    (tC_EmptyRow : PySem.W.typeIn K (.ref C_EmptyRow) = some (.type "type"))
    (kC_EmptyRow : PySem.W.keepIn K (.ref C_EmptyRow) = true)
    (hC_EmptyRow : PySem.W.hasDictIn K C_EmptyRow = true)
    (iC_EmptyRow : PySem.W.isClsIn K C_EmptyRow = true)
    (sC_EmptyRow : PySem.W.subIn K (.ref C_EmptyRow) (.ref C_EmptyRow) = some true)
    (cc_EmptyRow : PySem.W.findIn K (.ref C_EmptyRow) "__class__" = some (some (.builtin "object.__class__")))
    (mC_EmptyRow : PySem.W.mroIn K C_EmptyRow (.type "object") = some true)
    (tI_EmptyRow : PySem.W.typeIn K (.ref f_EmptyRow_init) = some (.type "function"))
    (na_EmptyRow_first : PySem.W.findIn K (.ref C_EmptyRow) "first" = some none)
    (na_EmptyRow_end : PySem.W.findIn K (.ref C_EmptyRow) "end" = some none)
    (a_checked_until : PySem.W.nsIn K mainGlobals "checked_until" = some (some (.ref f_checked_until)))
    (l_checked_until : K.lookup f_checked_until = some ⟨oc_checked_until, od_checked_until, .func (PySem.W.fnOf "checked_until" "checked_until" (defArgs s_checked_until) (defBody s_checked_until) (defScope s_checked_until) .none kV_checked_until dc_checked_until pm_checked_until an_checked_until cd_checked_until ct_checked_until), sl_checked_until⟩)
    (co_checked_until : PySem.W.codeIn K cd_checked_until "checked_until" = true)
    (k_checked_until : PySem.W.keepIn K (.ref f_checked_until) = true)
    (a_first_day : PySem.W.nsIn K mainGlobals "first_day" = some (some (.ref f_first_day)))
    (l_first_day : K.lookup f_first_day = some ⟨oc_first_day, od_first_day, .func (PySem.W.fnOf "first_day" "first_day" (defArgs s_first_day) (defBody s_first_day) (defScope s_first_day) .none kV_first_day dc_first_day pm_first_day an_first_day cd_first_day ct_first_day), sl_first_day⟩)
    (co_first_day : PySem.W.codeIn K cd_first_day "first_day" = true)
    (k_first_day : PySem.W.keepIn K (.ref f_first_day) = true)
    (a_bears : PySem.W.nsIn K mainGlobals "bears" = some (some (.ref f_bears)))
    (l_bears : K.lookup f_bears = some ⟨oc_bears, od_bears, .func (PySem.W.fnOf "bears" "bears" (defArgs s_bears) (defBody s_bears) (defScope s_bears) .none kV_bears dc_bears pm_bears an_bears cd_bears ct_bears), sl_bears⟩)
    (co_bears : PySem.W.codeIn K cd_bears "bears" = true)
    (k_bears : PySem.W.keepIn K (.ref f_bears) = true)
    (a_Clash_init : PySem.W.findIn K (.ref C_Clash) "__init__" = some (some (.ref f_Clash_init)))
    (l_Clash_init : K.lookup f_Clash_init = some ⟨oc_Clash_init, od_Clash_init, .func (PySem.W.fnOf "__init__" "Clash.__init__" (defArgs s_Clash_init) (defBody s_Clash_init) (defScope s_Clash_init) .none kV_Clash_init dc_Clash_init pm_Clash_init an_Clash_init cd_Clash_init ct_Clash_init), sl_Clash_init⟩)
    (co_Clash_init : PySem.W.codeIn K cd_Clash_init "Clash.__init__" = true)
    (k_Clash_init : PySem.W.keepIn K (.ref f_Clash_init) = true)
    (xL_Clash : K.lookup C_Clash = some (excClassObj nm_Clash q_Clash C_Clash N_Clash bs_Clash bm_Clash true sn_Clash sub_Clash ab_Clash col_Clash dd_Clash m0_Clash m1_Clash m2_Clash m3_Clash m5_Clash "ValueError.__new__"))
    (vE_Clash : PySem.HandSPX.refsVE bm_Clash = true)
    (sa_Clash : PySem.W.findIn K (.ref C_Clash) "__setattr__" = some (some (.builtin "object.__setattr__")))
    (ga_Clash : PySem.W.findIn K (.ref C_Clash) "__getattribute__" = some (some (.builtin "BaseException.__getattribute__")))
    (gg_Clash : PySem.W.findIn K (.ref C_Clash) "__getattr__" = some none)
    (eC_Clash : PySem.W.subIn K (.ref C_Clash) (.type "BaseException") = some true)
    (tC_Clash : PySem.W.typeIn K (.ref C_Clash) = some (.type "type"))
    (kC_Clash : PySem.W.keepIn K (.ref C_Clash) = true)
    (hC_Clash : PySem.W.hasDictIn K C_Clash = true)
    (iC_Clash : PySem.W.isClsIn K C_Clash = true)
    (sC_Clash : PySem.W.subIn K (.ref C_Clash) (.ref C_Clash) = some true)
    (cc_Clash : PySem.W.findIn K (.ref C_Clash) "__class__" = some (some (.builtin "object.__class__")))
    (mC_Clash : PySem.W.mroIn K C_Clash (.type "object") = some true)
    (tI_Clash : PySem.W.typeIn K (.ref f_Clash_init) = some (.type "function"))
    (na_Clash_earlier : PySem.W.findIn K (.ref C_Clash) "earlier" = some none)
    (na_Clash_later : PySem.W.findIn K (.ref C_Clash) "later" = some none)
    (a_checked_rows : PySem.W.nsIn K mainGlobals "checked_rows" = some (some (.ref f_checked_rows)))
    (l_checked_rows : K.lookup f_checked_rows = some ⟨oc_checked_rows, od_checked_rows, .func (PySem.W.fnOf "checked_rows" "checked_rows" (defArgs s_checked_rows) (defBody s_checked_rows) (defScope s_checked_rows) .none kV_checked_rows dc_checked_rows pm_checked_rows an_checked_rows cd_checked_rows ct_checked_rows), sl_checked_rows⟩)
    (co_checked_rows : PySem.W.codeIn K cd_checked_rows "checked_rows" = true)
    (k_checked_rows : PySem.W.keepIn K (.ref f_checked_rows) = true)
    (a_Book_init : PySem.W.findIn K (.ref C_Book) "__init__" = some (some (.ref f_Book_init)))
    (i_Book_init : PySem.W.isFn K (.ref f_Book_init) = true)
    (l_Book_init : K.lookup f_Book_init = some ⟨oc_Book_init, od_Book_init, .func (PySem.W.fnOf "__init__" "Book.__init__" (defArgs s_Book_init) (defBody s_Book_init) (defScope s_Book_init) .none kV_Book_init dc_Book_init pm_Book_init an_Book_init cd_Book_init ct_Book_init), sl_Book_init⟩)
    (co_Book_init : PySem.W.codeIn K cd_Book_init "Book.__init__" = true)
    (k_Book_init : PySem.W.keepIn K (.ref f_Book_init) = true)
    (mk_Book : PySem.W.makesIn K C_Book = true)
    (kC_Book : PySem.W.keepIn K (.ref C_Book) = true)
    (a_Lwritten : PySem.W.nsIn K mainGlobals "_law_written" = some (some (.ref f_Lwritten)))
    (l_Lwritten : K.lookup f_Lwritten = some ⟨oc_Lwritten, od_Lwritten, .func (PySem.W.fnOf "_law_written" "_law_written" (defArgs s_Lwritten) (defBody s_Lwritten) (defScope s_Lwritten) .none kV_Lwritten dc_Lwritten pm_Lwritten an_Lwritten cd_Lwritten ct_Lwritten), sl_Lwritten⟩)
    (co_Lwritten : PySem.W.codeIn K cd_Lwritten "_law_written" = true)
    (k_Lwritten : PySem.W.keepIn K (.ref f_Lwritten) = true)
    (a_Lborders : PySem.W.nsIn K mainGlobals "_law_borders" = some (some (.ref f_Lborders)))
    (l_Lborders : K.lookup f_Lborders = some ⟨oc_Lborders, od_Lborders, .func (PySem.W.fnOf "_law_borders" "_law_borders" (defArgs s_Lborders) (defBody s_Lborders) (defScope s_Lborders) .none kV_Lborders dc_Lborders pm_Lborders an_Lborders cd_Lborders ct_Lborders), sl_Lborders⟩)
    (co_Lborders : PySem.W.codeIn K cd_Lborders "_law_borders" = true)
    (k_Lborders : PySem.W.keepIn K (.ref f_Lborders) = true)
    (a_row_line : PySem.W.nsIn K mainGlobals "row_line" = some (some (.ref f_row_line)))
    (l_row_line : K.lookup f_row_line = some ⟨oc_row_line, od_row_line, .func (PySem.W.fnOf "row_line" "row_line" (defArgs s_row_line) (defBody s_row_line) (defScope s_row_line) .none kV_row_line dc_row_line pm_row_line an_row_line cd_row_line ct_row_line), sl_row_line⟩)
    (co_row_line : PySem.W.codeIn K cd_row_line "row_line" = true)
    (k_row_line : PySem.W.keepIn K (.ref f_row_line) = true)
    (a_Book_iter : PySem.W.findIn K (.ref C_Book) "__iter__" = some (some (.ref f_Book_iter)))
    (i_Book_iter : PySem.W.isFn K (.ref f_Book_iter) = true)
    (l_Book_iter : K.lookup f_Book_iter = some ⟨oc_Book_iter, od_Book_iter, .func (PySem.W.fnOf "__iter__" "Book.__iter__" (defArgs s_Book_iter) (defBody s_Book_iter) (defScope s_Book_iter) .none kV_Book_iter dc_Book_iter pm_Book_iter an_Book_iter cd_Book_iter ct_Book_iter), sl_Book_iter⟩)
    (co_Book_iter : PySem.W.codeIn K cd_Book_iter "Book.__iter__" = true)
    (k_Book_iter : PySem.W.keepIn K (.ref f_Book_iter) = true)
    (a_printed : PySem.W.nsIn K mainGlobals "printed" = some (some (.ref f_printed)))
    (l_printed : K.lookup f_printed = some ⟨oc_printed, od_printed, .func (PySem.W.fnOf "printed" "printed" (defArgs s_printed) (defBody s_printed) (defScope s_printed) .none kV_printed dc_printed pm_printed an_printed cd_printed ct_printed), sl_printed⟩)
    (co_printed : PySem.W.codeIn K cd_printed "printed" = true)
    (k_printed : PySem.W.keepIn K (.ref f_printed) = true)
    (a_Ldue : PySem.W.nsIn K mainGlobals "_law_due" = some (some (.ref f_Ldue)))
    (l_Ldue : K.lookup f_Ldue = some ⟨oc_Ldue, od_Ldue, .func (PySem.W.fnOf "_law_due" "_law_due" (defArgs s_Ldue) (defBody s_Ldue) (defScope s_Ldue) .none kV_Ldue dc_Ldue pm_Ldue an_Ldue cd_Ldue ct_Ldue), sl_Ldue⟩)
    (co_Ldue : PySem.W.codeIn K cd_Ldue "_law_due" = true)
    (k_Ldue : PySem.W.keepIn K (.ref f_Ldue) = true)
    (a_Lsame_value : PySem.W.nsIn K mainGlobals "_law_same_value" = some (some (.ref f_Lsame_value)))
    (l_Lsame_value : K.lookup f_Lsame_value = some ⟨oc_Lsame_value, od_Lsame_value, .func (PySem.W.fnOf "_law_same_value" "_law_same_value" (defArgs s_Lsame_value) (defBody s_Lsame_value) (defScope s_Lsame_value) .none kV_Lsame_value dc_Lsame_value pm_Lsame_value an_Lsame_value cd_Lsame_value ct_Lsame_value), sl_Lsame_value⟩)
    (co_Lsame_value : PySem.W.codeIn K cd_Lsame_value "_law_same_value" = true)
    (k_Lsame_value : PySem.W.keepIn K (.ref f_Lsame_value) = true)
    (a_Lsame : PySem.W.nsIn K mainGlobals "_law_same" = some (some (.ref f_Lsame)))
    (l_Lsame : K.lookup f_Lsame = some ⟨oc_Lsame, od_Lsame, .func (PySem.W.fnOf "_law_same" "_law_same" (defArgs s_Lsame) (defBody s_Lsame) (defScope s_Lsame) .none kV_Lsame dc_Lsame pm_Lsame an_Lsame cd_Lsame ct_Lsame), sl_Lsame⟩)
    (co_Lsame : PySem.W.codeIn K cd_Lsame "_law_same" = true)
    (k_Lsame : PySem.W.keepIn K (.ref f_Lsame) = true)
    (a_Lis_number : PySem.W.nsIn K mainGlobals "_law_is_number" = some (some (.ref f_Lis_number)))
    (l_Lis_number : K.lookup f_Lis_number = some ⟨oc_Lis_number, od_Lis_number, .func (PySem.W.fnOf "_law_is_number" "_law_is_number" (defArgs s_Lis_number) (defBody s_Lis_number) (defScope s_Lis_number) .none kV_Lis_number dc_Lis_number pm_Lis_number an_Lis_number cd_Lis_number ct_Lis_number), sl_Lis_number⟩)
    (co_Lis_number : PySem.W.codeIn K cd_Lis_number "_law_is_number" = true)
    (k_Lis_number : PySem.W.keepIn K (.ref f_Lis_number) = true)
    (a_Lare : PySem.W.nsIn K mainGlobals "_law_are" = some (some (.ref f_Lare)))
    (l_Lare : K.lookup f_Lare = some ⟨oc_Lare, od_Lare, .func (PySem.W.fnOf "_law_are" "_law_are" (defArgs s_Lare) (defBody s_Lare) (defScope s_Lare) .none kV_Lare dc_Lare pm_Lare an_Lare cd_Lare ct_Lare), sl_Lare⟩)
    (co_Lare : PySem.W.codeIn K cd_Lare "_law_are" = true)
    (k_Lare : PySem.W.keepIn K (.ref f_Lare) = true)
    (a_Book_len : PySem.W.findIn K (.ref C_Book) "__len__" = some (some (.ref f_Book_len)))
    (i_Book_len : PySem.W.isFn K (.ref f_Book_len) = true)
    (l_Book_len : K.lookup f_Book_len = some ⟨oc_Book_len, od_Book_len, .func (PySem.W.fnOf "__len__" "Book.__len__" (defArgs s_Book_len) (defBody s_Book_len) (defScope s_Book_len) .none kV_Book_len dc_Book_len pm_Book_len an_Book_len cd_Book_len ct_Book_len), sl_Book_len⟩)
    (co_Book_len : PySem.W.codeIn K cd_Book_len "Book.__len__" = true)
    (k_Book_len : PySem.W.keepIn K (.ref f_Book_len) = true)
    (a_EmptyStretch_init : PySem.W.findIn K (.ref C_EmptyStretch) "__init__" = some (some (.ref f_EmptyStretch_init)))
    (l_EmptyStretch_init : K.lookup f_EmptyStretch_init = some ⟨oc_EmptyStretch_init, od_EmptyStretch_init, .func (PySem.W.fnOf "__init__" "EmptyStretch.__init__" (defArgs s_EmptyStretch_init) (defBody s_EmptyStretch_init) (defScope s_EmptyStretch_init) .none kV_EmptyStretch_init dc_EmptyStretch_init pm_EmptyStretch_init an_EmptyStretch_init cd_EmptyStretch_init ct_EmptyStretch_init), sl_EmptyStretch_init⟩)
    (co_EmptyStretch_init : PySem.W.codeIn K cd_EmptyStretch_init "EmptyStretch.__init__" = true)
    (k_EmptyStretch_init : PySem.W.keepIn K (.ref f_EmptyStretch_init) = true)
    (xL_EmptyStretch : K.lookup C_EmptyStretch = some (excClassObj nm_EmptyStretch q_EmptyStretch C_EmptyStretch N_EmptyStretch bs_EmptyStretch bm_EmptyStretch true sn_EmptyStretch sub_EmptyStretch ab_EmptyStretch col_EmptyStretch dd_EmptyStretch m0_EmptyStretch m1_EmptyStretch m2_EmptyStretch m3_EmptyStretch m5_EmptyStretch "ValueError.__new__"))
    (vE_EmptyStretch : PySem.HandSPX.refsVE bm_EmptyStretch = true)
    (sa_EmptyStretch : PySem.W.findIn K (.ref C_EmptyStretch) "__setattr__" = some (some (.builtin "object.__setattr__")))
    (ga_EmptyStretch : PySem.W.findIn K (.ref C_EmptyStretch) "__getattribute__" = some (some (.builtin "BaseException.__getattribute__")))
    (gg_EmptyStretch : PySem.W.findIn K (.ref C_EmptyStretch) "__getattr__" = some none)
    (eC_EmptyStretch : PySem.W.subIn K (.ref C_EmptyStretch) (.type "BaseException") = some true)
    (tC_EmptyStretch : PySem.W.typeIn K (.ref C_EmptyStretch) = some (.type "type"))
    (kC_EmptyStretch : PySem.W.keepIn K (.ref C_EmptyStretch) = true)
    (hC_EmptyStretch : PySem.W.hasDictIn K C_EmptyStretch = true)
    (iC_EmptyStretch : PySem.W.isClsIn K C_EmptyStretch = true)
    (sC_EmptyStretch : PySem.W.subIn K (.ref C_EmptyStretch) (.ref C_EmptyStretch) = some true)
    (cc_EmptyStretch : PySem.W.findIn K (.ref C_EmptyStretch) "__class__" = some (some (.builtin "object.__class__")))
    (mC_EmptyStretch : PySem.W.mroIn K C_EmptyStretch (.type "object") = some true)
    (tI_EmptyStretch : PySem.W.typeIn K (.ref f_EmptyStretch_init) = some (.type "function"))
    (na_EmptyStretch_first : PySem.W.findIn K (.ref C_EmptyStretch) "first" = some none)
    (na_EmptyStretch_last : PySem.W.findIn K (.ref C_EmptyStretch) "last" = some none)
    (a_stretch_of : PySem.W.nsIn K mainGlobals "stretch_of" = some (some (.ref f_stretch_of)))
    (l_stretch_of : K.lookup f_stretch_of = some ⟨oc_stretch_of, od_stretch_of, .func (PySem.W.fnOf "stretch_of" "stretch_of" (defArgs s_stretch_of) (defBody s_stretch_of) (defScope s_stretch_of) .none kV_stretch_of dc_stretch_of pm_stretch_of an_stretch_of cd_stretch_of ct_stretch_of), sl_stretch_of⟩)
    (co_stretch_of : PySem.W.codeIn K cd_stretch_of "stretch_of" = true)
    (k_stretch_of : PySem.W.keepIn K (.ref f_stretch_of) = true)
    (a_number_begun : PySem.W.nsIn K mainGlobals "number_begun" = some (some (.ref f_number_begun)))
    (l_number_begun : K.lookup f_number_begun = some ⟨oc_number_begun, od_number_begun, .func (PySem.W.fnOf "number_begun" "number_begun" (defArgs s_number_begun) (defBody s_number_begun) (defScope s_number_begun) .none kV_number_begun dc_number_begun pm_number_begun an_number_begun cd_number_begun ct_number_begun), sl_number_begun⟩)
    (co_number_begun : PySem.W.codeIn K cd_number_begun "number_begun" = true)
    (k_number_begun : PySem.W.keepIn K (.ref f_number_begun) = true)
    (a_until_of : PySem.W.nsIn K mainGlobals "until_of" = some (some (.ref f_until_of)))
    (l_until_of : K.lookup f_until_of = some ⟨oc_until_of, od_until_of, .func (PySem.W.fnOf "until_of" "until_of" (defArgs s_until_of) (defBody s_until_of) (defScope s_until_of) .none kV_until_of dc_until_of pm_until_of an_until_of cd_until_of ct_until_of), sl_until_of⟩)
    (co_until_of : PySem.W.codeIn K cd_until_of "until_of" = true)
    (k_until_of : PySem.W.keepIn K (.ref f_until_of) = true)
    (a_without_stretch : PySem.W.nsIn K mainGlobals "without_stretch" = some (some (.ref f_without_stretch)))
    (l_without_stretch : K.lookup f_without_stretch = some ⟨oc_without_stretch, od_without_stretch, .func (PySem.W.fnOf "without_stretch" "without_stretch" (defArgs s_without_stretch) (defBody s_without_stretch) (defScope s_without_stretch) .none kV_without_stretch dc_without_stretch pm_without_stretch an_without_stretch cd_without_stretch ct_without_stretch), sl_without_stretch⟩)
    (co_without_stretch : PySem.W.codeIn K cd_without_stretch "without_stretch" = true)
    (k_without_stretch : PySem.W.keepIn K (.ref f_without_stretch) = true)
    (a_Book_setitem : PySem.W.findIn K (.ref C_Book) "__setitem__" = some (some (.ref f_Book_setitem)))
    (i_Book_setitem : PySem.W.isFn K (.ref f_Book_setitem) = true)
    (l_Book_setitem : K.lookup f_Book_setitem = some ⟨oc_Book_setitem, od_Book_setitem, .func (PySem.W.fnOf "__setitem__" "Book.__setitem__" (defArgs s_Book_setitem) (defBody s_Book_setitem) (defScope s_Book_setitem) .none kV_Book_setitem dc_Book_setitem pm_Book_setitem an_Book_setitem cd_Book_setitem ct_Book_setitem), sl_Book_setitem⟩)
    (co_Book_setitem : PySem.W.codeIn K cd_Book_setitem "Book.__setitem__" = true)
    (k_Book_setitem : PySem.W.keepIn K (.ref f_Book_setitem) = true)
    (ns_Book : PySem.W.noSeq K C_Book = true)
    (a_Book_from_rows : PySem.W.findCls K (.ref C_Book) (.type "type") "from_rows" = some (.get (.builtin "staticmethod.__get__") (.ref pp_Book_from_rows) .none (.ref C_Book)))
    (prc_Book_from_rows : PySem.W.recIn K pp_Book_from_rows "staticmethod" = some (.ref f_Book_from_rows :: re_Book_from_rows))
    (l_Book_from_rows : K.lookup f_Book_from_rows = some ⟨oc_Book_from_rows, od_Book_from_rows, .func (PySem.W.fnOf "from_rows" "Book.from_rows" (defArgs s_Book_from_rows) (defBody s_Book_from_rows) (defScope s_Book_from_rows) (.ref td_Book_from_rows) kV_Book_from_rows dc_Book_from_rows pm_Book_from_rows an_Book_from_rows cd_Book_from_rows ct_Book_from_rows), sl_Book_from_rows⟩)
    (co_Book_from_rows : PySem.W.codeIn K cd_Book_from_rows "Book.from_rows" = true)
    (k_Book_from_rows : PySem.W.keepIn K (.ref f_Book_from_rows) = true)
    (td0_Book_from_rows : K.lookup td_Book_from_rows = some ⟨tc_Book_from_rows, to_Book_from_rows, .seq #[.str "last day" tkd_Book_from_rows_0] tn_Book_from_rows, ts_Book_from_rows⟩)
    (a_law : PySem.W.nsIn K mainGlobals "law" = some (some (.ref f_law)))
    (l_law : K.lookup f_law = some ⟨oc_law, od_law, .func (PySem.W.fnOf "law" "law" (defArgs s_law) (defBody s_law) (defScope s_law) .none kV_law dc_law pm_law an_law cd_law ct_law), sl_law⟩)
    (co_law : PySem.W.codeIn K cd_law "law" = true)
    (k_law : PySem.W.keepIn K (.ref f_law) = true)
    (ga_NO_END : PySem.W.nsIn K mainGlobals "NO_END" = some (some (.str "open" gt_NO_END)))
    (ga_QUOTE : PySem.W.nsIn K mainGlobals "QUOTE" = some (some (.str "'" gt_QUOTE)))
    (ga_FIRST_LINES : PySem.W.nsIn K mainGlobals "FIRST_LINES" = some (some (.ref gd_FIRST_LINES)))
    (gl_FIRST_LINES : K.lookup gd_FIRST_LINES = some ⟨.type "dict", none, .dict ge_FIRST_LINES gn_FIRST_LINES, #[]⟩)
    (dk_FIRST_LINES : PySem.W.KeysLit w.params ge_FIRST_LINES.toList)
    (dv_FIRST_LINES_0 : PySem.W.nsIn K gd_FIRST_LINES "last day" = some (some (.str "until is the last day" dt_FIRST_LINES_0)))
    (dv_FIRST_LINES_1 : PySem.W.nsIn K gd_FIRST_LINES "next day" = some (some (.str "until is the next day" dt_FIRST_LINES_1)))
    (z_max : PySem.W.nsIn K mainGlobals "max" = some none)
    (z_min : PySem.W.nsIn K mainGlobals "min" = some none)
    (z_len : PySem.W.nsIn K mainGlobals "len" = some none)
    (z_abs : PySem.W.nsIn K mainGlobals "abs" = some none)
    (z_int : PySem.W.nsIn K mainGlobals "int" = some none)
    (z_range : PySem.W.nsIn K mainGlobals "range" = some none)
    (z_sorted : PySem.W.nsIn K mainGlobals "sorted" = some none)
    (z_zip : PySem.W.nsIn K mainGlobals "zip" = some none)
    (z_list : PySem.W.nsIn K mainGlobals "list" = some none)
    (z_str : PySem.W.nsIn K mainGlobals "str" = some none)
    (z_isinstance : PySem.W.nsIn K mainGlobals "isinstance" = some none)
    (z_iter : PySem.W.nsIn K mainGlobals "iter" = some none)
    (z_bool : PySem.W.nsIn K mainGlobals "bool" = some none)
    (z_tuple : PySem.W.nsIn K mainGlobals "tuple" = some none) :
    ∃ T : Tx w K mg, T.a_law = fa ∧ (PySem.W.CodeHd h T.cc_Lsorted_rows T.cp_Lsorted_rows ∧ h.get? T.cp_Lsorted_rows = some { cls := .none, data := .fields #[] }) ∧ K.lookup T.cp_Lsorted_rows = none := by
  have e : f_law = fa := by
    have e := hfa.symm.trans (PySem.W.mg_of X G a_law)
    cases e
    rfl
  subst e
  exact ⟨{
      c_Ends := C_Ends,
      g_Ends := PySem.W.mg_of X G aC_Ends,
      r_Ends := ⟨rd_Ends, rg_Ends⟩,
      u_Ends_LAST_DAY := tk_Ends_LAST_DAY,
      v_Ends_LAST_DAY := ⟨cv_Ends_LAST_DAY, ⟨_, rfl⟩⟩,
      u_Ends_NEXT_DAY := tk_Ends_NEXT_DAY,
      v_Ends_NEXT_DAY := ⟨cv_Ends_NEXT_DAY, ⟨_, rfl⟩⟩,
      c_EmptyRow := C_EmptyRow,
      g_EmptyRow := PySem.W.mg_of X G aC_EmptyRow,
      c_Clash := C_Clash,
      g_Clash := PySem.W.mg_of X G aC_Clash,
      c_Book := C_Book,
      g_Book := PySem.W.mg_of X G aC_Book,
      cl_Book := ⟨pg_Book, hd_Book, po_Book, sa_Book⟩,
      n_Book_ends := na_Book_ends,
      n_Book__rows := na_Book__rows,
      r_Book := ⟨rd_Book, rg_Book⟩,
      c_EmptyStretch := C_EmptyStretch,
      g_EmptyStretch := PySem.W.mg_of X G aC_EmptyStretch,
      a_Lparts := f_Lparts,
      fd_Lparts := PySem.W.fnOf "_law_parts" "_law_parts" (defArgs s_Lparts) (defBody s_Lparts) (defScope s_Lparts) .none kV_Lparts dc_Lparts pm_Lparts an_Lparts cd_Lparts ct_Lparts,
      F_Lparts := fun_mk (st := s_Lparts) l_Lparts co_Lparts k_Lparts,
      b_Lparts := (fun_mk (st := s_Lparts) l_Lparts co_Lparts k_Lparts).binds (ps := ["script", "most"]) fun _ _ _ _ _ _ us hl => match us, hl with | [_, _], _ => rfl,
      g_Lparts := PySem.W.mg_of X G a_Lparts,
      a_Lbag := f_Lbag,
      fd_Lbag := PySem.W.fnOf "_law_bag" "_law_bag" (defArgs s_Lbag) (defBody s_Lbag) (defScope s_Lbag) .none kV_Lbag dc_Lbag pm_Lbag an_Lbag cd_Lbag ct_Lbag,
      F_Lbag := fun_mk (st := s_Lbag) l_Lbag co_Lbag k_Lbag,
      b_Lbag := (fun_mk (st := s_Lbag) l_Lbag co_Lbag k_Lbag).binds (ps := ["script", "at"]) fun _ _ _ _ _ _ us hl => match us, hl with | [_, _], _ => rfl,
      g_Lbag := PySem.W.mg_of X G a_Lbag,
      a_Ltake := f_Ltake,
      fd_Ltake := PySem.W.fnOf "_law_take" "_law_take" (defArgs s_Ltake) (defBody s_Ltake) (defScope s_Ltake) .none kV_Ltake dc_Ltake pm_Ltake an_Ltake cd_Ltake ct_Ltake,
      F_Ltake := fun_mk (st := s_Ltake) l_Ltake co_Ltake k_Ltake,
      b_Ltake := (fun_mk (st := s_Ltake) l_Ltake co_Ltake k_Ltake).binds (ps := ["bag", "many"]) fun _ _ _ _ _ _ us hl => match us, hl with | [_, _], _ => rfl,
      g_Ltake := PySem.W.mg_of X G a_Ltake,
      a_Lof := f_Lof,
      fd_Lof := PySem.W.fnOf "_law_of" "_law_of" (defArgs s_Lof) (defBody s_Lof) (defScope s_Lof) .none kV_Lof dc_Lof pm_Lof an_Lof cd_Lof ct_Lof,
      F_Lof := fun_mk (st := s_Lof) l_Lof co_Lof k_Lof,
      b_Lof := (fun_mk (st := s_Lof) l_Lof co_Lof k_Lof).binds (ps := ["bag", "some"]) fun _ _ _ _ _ _ us hl => match us, hl with | [_, _], _ => rfl,
      g_Lof := PySem.W.mg_of X G a_Lof,
      a_Lends := f_Lends,
      fd_Lends := PySem.W.fnOf "_law_ends" "_law_ends" (defArgs s_Lends) (defBody s_Lends) (defScope s_Lends) .none kV_Lends dc_Lends pm_Lends an_Lends cd_Lends ct_Lends,
      F_Lends := fun_mk (st := s_Lends) l_Lends co_Lends k_Lends,
      b_Lends := (fun_mk (st := s_Lends) l_Lends co_Lends k_Lends).binds (ps := ["bag"]) fun _ _ _ _ _ _ us hl => match us, hl with | [_], _ => rfl,
      g_Lends := PySem.W.mg_of X G a_Lends,
      a_Lwide := f_Lwide,
      fd_Lwide := PySem.W.fnOf "_law_wide" "_law_wide" (defArgs s_Lwide) (defBody s_Lwide) (defScope s_Lwide) .none kV_Lwide dc_Lwide pm_Lwide an_Lwide cd_Lwide ct_Lwide,
      F_Lwide := fun_mk (st := s_Lwide) l_Lwide co_Lwide k_Lwide,
      b_Lwide := (fun_mk (st := s_Lwide) l_Lwide co_Lwide k_Lwide).binds (ps := ["bag", "many"]) fun _ _ _ _ _ _ us hl => match us, hl with | [_, _], _ => rfl,
      g_Lwide := PySem.W.mg_of X G a_Lwide,
      a_Lday := f_Lday,
      fd_Lday := PySem.W.fnOf "_law_day" "_law_day" (defArgs s_Lday) (defBody s_Lday) (defScope s_Lday) .none kV_Lday dc_Lday pm_Lday an_Lday cd_Lday ct_Lday,
      F_Lday := fun_mk (st := s_Lday) l_Lday co_Lday k_Lday,
      b_Lday := (fun_mk (st := s_Lday) l_Lday co_Lday k_Lday).binds (ps := ["bag"]) fun _ _ _ _ _ _ us hl => match us, hl with | [_], _ => rfl,
      g_Lday := PySem.W.mg_of X G a_Lday,
      a_Lvalue := f_Lvalue,
      fd_Lvalue := PySem.W.fnOf "_law_value" "_law_value" (defArgs s_Lvalue) (defBody s_Lvalue) (defScope s_Lvalue) .none kV_Lvalue dc_Lvalue pm_Lvalue an_Lvalue cd_Lvalue ct_Lvalue,
      F_Lvalue := fun_mk (st := s_Lvalue) l_Lvalue co_Lvalue k_Lvalue,
      b_Lvalue := (fun_mk (st := s_Lvalue) l_Lvalue co_Lvalue k_Lvalue).binds (ps := ["bag"]) fun _ _ _ _ _ _ us hl => match us, hl with | [_], _ => rfl,
      g_Lvalue := PySem.W.mg_of X G a_Lvalue,
      a_Lrows := f_Lrows,
      fd_Lrows := PySem.W.fnOf "_law_rows" "_law_rows" (defArgs s_Lrows) (defBody s_Lrows) (defScope s_Lrows) .none kV_Lrows dc_Lrows pm_Lrows an_Lrows cd_Lrows ct_Lrows,
      F_Lrows := fun_mk (st := s_Lrows) l_Lrows co_Lrows k_Lrows,
      b_Lrows := (fun_mk (st := s_Lrows) l_Lrows co_Lrows k_Lrows).binds (ps := ["bag", "many", "form"]) fun _ _ _ _ _ _ us hl => match us, hl with | [_, _, _], _ => rfl,
      g_Lrows := PySem.W.mg_of X G a_Lrows,
      a_Lshifted := f_Lshifted,
      fd_Lshifted := PySem.W.fnOf "_law_shifted" "_law_shifted" (defArgs s_Lshifted) (defBody s_Lshifted) (defScope s_Lshifted) .none kV_Lshifted dc_Lshifted pm_Lshifted an_Lshifted cd_Lshifted ct_Lshifted,
      F_Lshifted := fun_mk (st := s_Lshifted) l_Lshifted co_Lshifted k_Lshifted,
      b_Lshifted := (fun_mk (st := s_Lshifted) l_Lshifted co_Lshifted k_Lshifted).binds (ps := ["bag", "rows"]) fun _ _ _ _ _ _ us hl => match us, hl with | [_, _], _ => rfl,
      g_Lshifted := PySem.W.mg_of X G a_Lshifted,
      a_Lnear := f_Lnear,
      fd_Lnear := PySem.W.fnOf "_law_near" "_law_near" (defArgs s_Lnear) (defBody s_Lnear) (defScope s_Lnear) .none kV_Lnear dc_Lnear pm_Lnear an_Lnear cd_Lnear ct_Lnear,
      F_Lnear := fun_mk (st := s_Lnear) l_Lnear co_Lnear k_Lnear,
      b_Lnear := (fun_mk (st := s_Lnear) l_Lnear co_Lnear k_Lnear).binds (ps := ["bag", "marks"]) fun _ _ _ _ _ _ us hl => match us, hl with | [_, _], _ => rfl,
      g_Lnear := PySem.W.mg_of X G a_Lnear,
      a_Lstretch := f_Lstretch,
      fd_Lstretch := PySem.W.fnOf "_law_stretch" "_law_stretch" (defArgs s_Lstretch) (defBody s_Lstretch) (defScope s_Lstretch) .none kV_Lstretch dc_Lstretch pm_Lstretch an_Lstretch cd_Lstretch ct_Lstretch,
      F_Lstretch := fun_mk (st := s_Lstretch) l_Lstretch co_Lstretch k_Lstretch,
      b_Lstretch := (fun_mk (st := s_Lstretch) l_Lstretch co_Lstretch k_Lstretch).binds (ps := ["bag", "marks", "some"]) fun _ _ _ _ _ _ us hl => match us, hl with | [_, _, _], _ => rfl,
      g_Lstretch := PySem.W.mg_of X G a_Lstretch,
      a_Lcut := f_Lcut,
      fd_Lcut := PySem.W.fnOf "_law_cut" "_law_cut" (defArgs s_Lcut) (defBody s_Lcut) (defScope s_Lcut) .none kV_Lcut dc_Lcut pm_Lcut an_Lcut cd_Lcut ct_Lcut,
      F_Lcut := fun_mk (st := s_Lcut) l_Lcut co_Lcut k_Lcut,
      b_Lcut := (fun_mk (st := s_Lcut) l_Lcut co_Lcut k_Lcut).binds (ps := ["rows", "low", "high"]) fun _ _ _ _ _ _ us hl => match us, hl with | [_, _, _], _ => rfl,
      g_Lcut := PySem.W.mg_of X G a_Lcut,
      a_Lsorted_rows := f_Lsorted_rows,
      fd_Lsorted_rows := PySem.W.fnOf "_law_sorted_rows" "_law_sorted_rows" (defArgs s_Lsorted_rows) (defBody s_Lsorted_rows) (defScope s_Lsorted_rows) .none kV_Lsorted_rows dc_Lsorted_rows pm_Lsorted_rows an_Lsorted_rows (.ref cc_Lsorted_rows) ct_Lsorted_rows,
      F_Lsorted_rows := fun_mk (st := s_Lsorted_rows) l_Lsorted_rows co_Lsorted_rows k_Lsorted_rows,
      b_Lsorted_rows := (fun_mk (st := s_Lsorted_rows) l_Lsorted_rows co_Lsorted_rows k_Lsorted_rows).binds (ps := ["rows"]) fun _ _ _ _ _ _ us hl => match us, hl with | [_], _ => rfl,
      g_Lsorted_rows := PySem.W.mg_of X G a_Lsorted_rows,
      cc_Lsorted_rows := cc_Lsorted_rows,
      cp_Lsorted_rows := cp_Lsorted_rows,
      FC_Lsorted_rows := funC_mk (st := s_Lsorted_rows) l_Lsorted_rows co_Lsorted_rows,
      a_Lput_rows := f_Lput_rows,
      fd_Lput_rows := PySem.W.fnOf "_law_put_rows" "_law_put_rows" (defArgs s_Lput_rows) (defBody s_Lput_rows) (defScope s_Lput_rows) .none kV_Lput_rows dc_Lput_rows pm_Lput_rows an_Lput_rows cd_Lput_rows ct_Lput_rows,
      F_Lput_rows := fun_mk (st := s_Lput_rows) l_Lput_rows co_Lput_rows k_Lput_rows,
      b_Lput_rows := (fun_mk (st := s_Lput_rows) l_Lput_rows co_Lput_rows k_Lput_rows).binds (ps := ["rows", "first", "last", "value"]) fun _ _ _ _ _ _ us hl => match us, hl with | [_, _, _, _], _ => rfl,
      g_Lput_rows := PySem.W.mg_of X G a_Lput_rows,
      a_Lmany := f_Lmany,
      fd_Lmany := PySem.W.fnOf "_law_many" "_law_many" (defArgs s_Lmany) (defBody s_Lmany) (defScope s_Lmany) .none kV_Lmany dc_Lmany pm_Lmany an_Lmany cd_Lmany ct_Lmany,
      F_Lmany := fun_mk (st := s_Lmany) l_Lmany co_Lmany k_Lmany,
      b_Lmany := (fun_mk (st := s_Lmany) l_Lmany co_Lmany k_Lmany).binds (ps := ["bag", "most"]) fun _ _ _ _ _ _ us hl => match us, hl with | [_, _], _ => rfl,
      g_Lmany := PySem.W.mg_of X G a_Lmany,
      a_stop_of := f_stop_of,
      fd_stop_of := PySem.W.fnOf "stop_of" "stop_of" (defArgs s_stop_of) (defBody s_stop_of) (defScope s_stop_of) .none kV_stop_of dc_stop_of pm_stop_of an_stop_of cd_stop_of ct_stop_of,
      F_stop_of := fun_mk (st := s_stop_of) l_stop_of co_stop_of k_stop_of,
      b_stop_of := (fun_mk (st := s_stop_of) l_stop_of co_stop_of k_stop_of).binds (ps := ["until", "ends"]) fun _ _ _ _ _ _ us hl => match us, hl with | [_, _], _ => rfl,
      g_stop_of := PySem.W.mg_of X G a_stop_of,
      a_bears_no_day := f_bears_no_day,
      fd_bears_no_day := PySem.W.fnOf "bears_no_day" "bears_no_day" (defArgs s_bears_no_day) (defBody s_bears_no_day) (defScope s_bears_no_day) .none kV_bears_no_day dc_bears_no_day pm_bears_no_day an_bears_no_day cd_bears_no_day ct_bears_no_day,
      F_bears_no_day := fun_mk (st := s_bears_no_day) l_bears_no_day co_bears_no_day k_bears_no_day,
      b_bears_no_day := (fun_mk (st := s_bears_no_day) l_bears_no_day co_bears_no_day k_bears_no_day).binds (ps := ["first", "until", "ends"]) fun _ _ _ _ _ _ us hl => match us, hl with | [_, _, _], _ => rfl,
      g_bears_no_day := PySem.W.mg_of X G a_bears_no_day,
      a_EmptyRow_init := f_EmptyRow_init,
      fd_EmptyRow_init := PySem.W.fnOf "__init__" "EmptyRow.__init__" (defArgs s_EmptyRow_init) (defBody s_EmptyRow_init) (defScope s_EmptyRow_init) .none kV_EmptyRow_init dc_EmptyRow_init pm_EmptyRow_init an_EmptyRow_init cd_EmptyRow_init ct_EmptyRow_init,
      F_EmptyRow_init := fun_mk (st := s_EmptyRow_init) l_EmptyRow_init co_EmptyRow_init k_EmptyRow_init,
      b_EmptyRow_init := (fun_mk (st := s_EmptyRow_init) l_EmptyRow_init co_EmptyRow_init k_EmptyRow_init).binds (ps := ["self", "first", "end"]) fun _ _ _ _ _ _ us hl => match us, hl with | [_, _, _], _ => rfl,
      x_EmptyRow := ⟨⟨⟨_, _, _, _, _, _, _, _, _, _, _, _, _, _, _, xL_EmptyRow, vE_EmptyRow⟩, sa_EmptyRow, eC_EmptyRow, tC_EmptyRow, kC_EmptyRow⟩, ⟨ga_EmptyRow, gg_EmptyRow, eC_EmptyRow, hC_EmptyRow⟩, ⟨ga_EmptyRow, gg_EmptyRow, eC_EmptyRow, hC_EmptyRow, cc_EmptyRow, gsd, gst, mC_EmptyRow⟩, a_EmptyRow_init, tI_EmptyRow, PySem.W.exm_ref eC_EmptyRow hC_EmptyRow tC_EmptyRow sC_EmptyRow⟩,
      n_EmptyRow_first := na_EmptyRow_first,
      n_EmptyRow_end := na_EmptyRow_end,
      a_checked_until := f_checked_until,
      fd_checked_until := PySem.W.fnOf "checked_until" "checked_until" (defArgs s_checked_until) (defBody s_checked_until) (defScope s_checked_until) .none kV_checked_until dc_checked_until pm_checked_until an_checked_until cd_checked_until ct_checked_until,
      F_checked_until := fun_mk (st := s_checked_until) l_checked_until co_checked_until k_checked_until,
      b_checked_until := (fun_mk (st := s_checked_until) l_checked_until co_checked_until k_checked_until).binds (ps := ["first", "until", "ends"]) fun _ _ _ _ _ _ us hl => match us, hl with | [_, _, _], _ => rfl,
      g_checked_until := PySem.W.mg_of X G a_checked_until,
      a_first_day := f_first_day,
      fd_first_day := PySem.W.fnOf "first_day" "first_day" (defArgs s_first_day) (defBody s_first_day) (defScope s_first_day) .none kV_first_day dc_first_day pm_first_day an_first_day cd_first_day ct_first_day,
      F_first_day := fun_mk (st := s_first_day) l_first_day co_first_day k_first_day,
      b_first_day := (fun_mk (st := s_first_day) l_first_day co_first_day k_first_day).binds (ps := ["row"]) fun _ _ _ _ _ _ us hl => match us, hl with | [_], _ => rfl,
      g_first_day := PySem.W.mg_of X G a_first_day,
      a_bears := f_bears,
      fd_bears := PySem.W.fnOf "bears" "bears" (defArgs s_bears) (defBody s_bears) (defScope s_bears) .none kV_bears dc_bears pm_bears an_bears cd_bears ct_bears,
      F_bears := fun_mk (st := s_bears) l_bears co_bears k_bears,
      b_bears := (fun_mk (st := s_bears) l_bears co_bears k_bears).binds (ps := ["row", "day", "ends"]) fun _ _ _ _ _ _ us hl => match us, hl with | [_, _, _], _ => rfl,
      g_bears := PySem.W.mg_of X G a_bears,
      a_Clash_init := f_Clash_init,
      fd_Clash_init := PySem.W.fnOf "__init__" "Clash.__init__" (defArgs s_Clash_init) (defBody s_Clash_init) (defScope s_Clash_init) .none kV_Clash_init dc_Clash_init pm_Clash_init an_Clash_init cd_Clash_init ct_Clash_init,
      F_Clash_init := fun_mk (st := s_Clash_init) l_Clash_init co_Clash_init k_Clash_init,
      b_Clash_init := (fun_mk (st := s_Clash_init) l_Clash_init co_Clash_init k_Clash_init).binds (ps := ["self", "earlier", "later"]) fun _ _ _ _ _ _ us hl => match us, hl with | [_, _, _], _ => rfl,
      x_Clash := ⟨⟨⟨_, _, _, _, _, _, _, _, _, _, _, _, _, _, _, xL_Clash, vE_Clash⟩, sa_Clash, eC_Clash, tC_Clash, kC_Clash⟩, ⟨ga_Clash, gg_Clash, eC_Clash, hC_Clash⟩, ⟨ga_Clash, gg_Clash, eC_Clash, hC_Clash, cc_Clash, gsd, gst, mC_Clash⟩, a_Clash_init, tI_Clash, PySem.W.exm_ref eC_Clash hC_Clash tC_Clash sC_Clash⟩,
      n_Clash_earlier := na_Clash_earlier,
      n_Clash_later := na_Clash_later,
      a_checked_rows := f_checked_rows,
      fd_checked_rows := PySem.W.fnOf "checked_rows" "checked_rows" (defArgs s_checked_rows) (defBody s_checked_rows) (defScope s_checked_rows) .none kV_checked_rows dc_checked_rows pm_checked_rows an_checked_rows cd_checked_rows ct_checked_rows,
      F_checked_rows := fun_mk (st := s_checked_rows) l_checked_rows co_checked_rows k_checked_rows,
      b_checked_rows := (fun_mk (st := s_checked_rows) l_checked_rows co_checked_rows k_checked_rows).binds (ps := ["rows", "ends"]) fun _ _ _ _ _ _ us hl => match us, hl with | [_, _], _ => rfl,
      g_checked_rows := PySem.W.mg_of X G a_checked_rows,
      a_Book_init := f_Book_init,
      fd_Book_init := PySem.W.fnOf "__init__" "Book.__init__" (defArgs s_Book_init) (defBody s_Book_init) (defScope s_Book_init) .none kV_Book_init dc_Book_init pm_Book_init an_Book_init cd_Book_init ct_Book_init,
      F_Book_init := fun_mk (st := s_Book_init) l_Book_init co_Book_init k_Book_init,
      mk_Book := ⟨mk_Book, a_Book_init, i_Book_init, kC_Book⟩,
      a_Lwritten := f_Lwritten,
      fd_Lwritten := PySem.W.fnOf "_law_written" "_law_written" (defArgs s_Lwritten) (defBody s_Lwritten) (defScope s_Lwritten) .none kV_Lwritten dc_Lwritten pm_Lwritten an_Lwritten cd_Lwritten ct_Lwritten,
      F_Lwritten := fun_mk (st := s_Lwritten) l_Lwritten co_Lwritten k_Lwritten,
      b_Lwritten := (fun_mk (st := s_Lwritten) l_Lwritten co_Lwritten k_Lwritten).binds (ps := ["rows", "ends"]) fun _ _ _ _ _ _ us hl => match us, hl with | [_, _], _ => rfl,
      g_Lwritten := PySem.W.mg_of X G a_Lwritten,
      a_Lborders := f_Lborders,
      fd_Lborders := PySem.W.fnOf "_law_borders" "_law_borders" (defArgs s_Lborders) (defBody s_Lborders) (defScope s_Lborders) .none kV_Lborders dc_Lborders pm_Lborders an_Lborders cd_Lborders ct_Lborders,
      F_Lborders := fun_mk (st := s_Lborders) l_Lborders co_Lborders k_Lborders,
      b_Lborders := (fun_mk (st := s_Lborders) l_Lborders co_Lborders k_Lborders).binds (ps := ["rows"]) fun _ _ _ _ _ _ us hl => match us, hl with | [_], _ => rfl,
      g_Lborders := PySem.W.mg_of X G a_Lborders,
      a_row_line := f_row_line,
      fd_row_line := PySem.W.fnOf "row_line" "row_line" (defArgs s_row_line) (defBody s_row_line) (defScope s_row_line) .none kV_row_line dc_row_line pm_row_line an_row_line cd_row_line ct_row_line,
      F_row_line := fun_mk (st := s_row_line) l_row_line co_row_line k_row_line,
      b_row_line := (fun_mk (st := s_row_line) l_row_line co_row_line k_row_line).binds (ps := ["row"]) fun _ _ _ _ _ _ us hl => match us, hl with | [_], _ => rfl,
      g_row_line := PySem.W.mg_of X G a_row_line,
      a_Book_iter := f_Book_iter,
      fd_Book_iter := PySem.W.fnOf "__iter__" "Book.__iter__" (defArgs s_Book_iter) (defBody s_Book_iter) (defScope s_Book_iter) .none kV_Book_iter dc_Book_iter pm_Book_iter an_Book_iter cd_Book_iter ct_Book_iter,
      F_Book_iter := fun_mk (st := s_Book_iter) l_Book_iter co_Book_iter k_Book_iter,
      b_Book_iter := (fun_mk (st := s_Book_iter) l_Book_iter co_Book_iter k_Book_iter).binds (ps := ["self"]) fun _ _ _ _ _ _ us hl => match us, hl with | [_], _ => rfl,
      m_Book_iter := ⟨a_Book_iter, i_Book_iter, k_Book_iter⟩,
      a_printed := f_printed,
      fd_printed := PySem.W.fnOf "printed" "printed" (defArgs s_printed) (defBody s_printed) (defScope s_printed) .none kV_printed dc_printed pm_printed an_printed cd_printed ct_printed,
      F_printed := fun_mk (st := s_printed) l_printed co_printed k_printed,
      b_printed := (fun_mk (st := s_printed) l_printed co_printed k_printed).binds (ps := ["book"]) fun _ _ _ _ _ _ us hl => match us, hl with | [_], _ => rfl,
      g_printed := PySem.W.mg_of X G a_printed,
      a_Ldue := f_Ldue,
      fd_Ldue := PySem.W.fnOf "_law_due" "_law_due" (defArgs s_Ldue) (defBody s_Ldue) (defScope s_Ldue) .none kV_Ldue dc_Ldue pm_Ldue an_Ldue cd_Ldue ct_Ldue,
      F_Ldue := fun_mk (st := s_Ldue) l_Ldue co_Ldue k_Ldue,
      b_Ldue := (fun_mk (st := s_Ldue) l_Ldue co_Ldue k_Ldue).binds (ps := ["rows", "ends"]) fun _ _ _ _ _ _ us hl => match us, hl with | [_, _], _ => rfl,
      g_Ldue := PySem.W.mg_of X G a_Ldue,
      a_Lsame_value := f_Lsame_value,
      fd_Lsame_value := PySem.W.fnOf "_law_same_value" "_law_same_value" (defArgs s_Lsame_value) (defBody s_Lsame_value) (defScope s_Lsame_value) .none kV_Lsame_value dc_Lsame_value pm_Lsame_value an_Lsame_value cd_Lsame_value ct_Lsame_value,
      F_Lsame_value := fun_mk (st := s_Lsame_value) l_Lsame_value co_Lsame_value k_Lsame_value,
      b_Lsame_value := (fun_mk (st := s_Lsame_value) l_Lsame_value co_Lsame_value k_Lsame_value).binds (ps := ["one", "other"]) fun _ _ _ _ _ _ us hl => match us, hl with | [_, _], _ => rfl,
      g_Lsame_value := PySem.W.mg_of X G a_Lsame_value,
      a_Lsame := f_Lsame,
      fd_Lsame := PySem.W.fnOf "_law_same" "_law_same" (defArgs s_Lsame) (defBody s_Lsame) (defScope s_Lsame) .none kV_Lsame dc_Lsame pm_Lsame an_Lsame cd_Lsame ct_Lsame,
      F_Lsame := fun_mk (st := s_Lsame) l_Lsame co_Lsame k_Lsame,
      b_Lsame := (fun_mk (st := s_Lsame) l_Lsame co_Lsame k_Lsame).binds (ps := ["told", "due"]) fun _ _ _ _ _ _ us hl => match us, hl with | [_, _], _ => rfl,
      g_Lsame := PySem.W.mg_of X G a_Lsame,
      a_Lis_number := f_Lis_number,
      fd_Lis_number := PySem.W.fnOf "_law_is_number" "_law_is_number" (defArgs s_Lis_number) (defBody s_Lis_number) (defScope s_Lis_number) .none kV_Lis_number dc_Lis_number pm_Lis_number an_Lis_number cd_Lis_number ct_Lis_number,
      F_Lis_number := fun_mk (st := s_Lis_number) l_Lis_number co_Lis_number k_Lis_number,
      b_Lis_number := (fun_mk (st := s_Lis_number) l_Lis_number co_Lis_number k_Lis_number).binds (ps := ["thing"]) fun _ _ _ _ _ _ us hl => match us, hl with | [_], _ => rfl,
      g_Lis_number := PySem.W.mg_of X G a_Lis_number,
      a_Lare := f_Lare,
      fd_Lare := PySem.W.fnOf "_law_are" "_law_are" (defArgs s_Lare) (defBody s_Lare) (defScope s_Lare) .none kV_Lare dc_Lare pm_Lare an_Lare cd_Lare ct_Lare,
      F_Lare := fun_mk (st := s_Lare) l_Lare co_Lare k_Lare,
      b_Lare := (fun_mk (st := s_Lare) l_Lare co_Lare k_Lare).binds (ps := ["told", "due"]) fun _ _ _ _ _ _ us hl => match us, hl with | [_, _], _ => rfl,
      g_Lare := PySem.W.mg_of X G a_Lare,
      a_Book_len := f_Book_len,
      fd_Book_len := PySem.W.fnOf "__len__" "Book.__len__" (defArgs s_Book_len) (defBody s_Book_len) (defScope s_Book_len) .none kV_Book_len dc_Book_len pm_Book_len an_Book_len cd_Book_len ct_Book_len,
      F_Book_len := fun_mk (st := s_Book_len) l_Book_len co_Book_len k_Book_len,
      b_Book_len := (fun_mk (st := s_Book_len) l_Book_len co_Book_len k_Book_len).binds (ps := ["self"]) fun _ _ _ _ _ _ us hl => match us, hl with | [_], _ => rfl,
      m_Book_len := ⟨a_Book_len, i_Book_len, k_Book_len⟩,
      a_EmptyStretch_init := f_EmptyStretch_init,
      fd_EmptyStretch_init := PySem.W.fnOf "__init__" "EmptyStretch.__init__" (defArgs s_EmptyStretch_init) (defBody s_EmptyStretch_init) (defScope s_EmptyStretch_init) .none kV_EmptyStretch_init dc_EmptyStretch_init pm_EmptyStretch_init an_EmptyStretch_init cd_EmptyStretch_init ct_EmptyStretch_init,
      F_EmptyStretch_init := fun_mk (st := s_EmptyStretch_init) l_EmptyStretch_init co_EmptyStretch_init k_EmptyStretch_init,
      b_EmptyStretch_init := (fun_mk (st := s_EmptyStretch_init) l_EmptyStretch_init co_EmptyStretch_init k_EmptyStretch_init).binds (ps := ["self", "first", "last"]) fun _ _ _ _ _ _ us hl => match us, hl with | [_, _, _], _ => rfl,
      x_EmptyStretch := ⟨⟨⟨_, _, _, _, _, _, _, _, _, _, _, _, _, _, _, xL_EmptyStretch, vE_EmptyStretch⟩, sa_EmptyStretch, eC_EmptyStretch, tC_EmptyStretch, kC_EmptyStretch⟩, ⟨ga_EmptyStretch, gg_EmptyStretch, eC_EmptyStretch, hC_EmptyStretch⟩, ⟨ga_EmptyStretch, gg_EmptyStretch, eC_EmptyStretch, hC_EmptyStretch, cc_EmptyStretch, gsd, gst, mC_EmptyStretch⟩, a_EmptyStretch_init, tI_EmptyStretch, PySem.W.exm_ref eC_EmptyStretch hC_EmptyStretch tC_EmptyStretch sC_EmptyStretch⟩,
      n_EmptyStretch_first := na_EmptyStretch_first,
      n_EmptyStretch_last := na_EmptyStretch_last,
      a_stretch_of := f_stretch_of,
      fd_stretch_of := PySem.W.fnOf "stretch_of" "stretch_of" (defArgs s_stretch_of) (defBody s_stretch_of) (defScope s_stretch_of) .none kV_stretch_of dc_stretch_of pm_stretch_of an_stretch_of cd_stretch_of ct_stretch_of,
      F_stretch_of := fun_mk (st := s_stretch_of) l_stretch_of co_stretch_of k_stretch_of,
      b_stretch_of := (fun_mk (st := s_stretch_of) l_stretch_of co_stretch_of k_stretch_of).binds (ps := ["at"]) fun _ _ _ _ _ _ us hl => match us, hl with | [_], _ => rfl,
      g_stretch_of := PySem.W.mg_of X G a_stretch_of,
      a_number_begun := f_number_begun,
      fd_number_begun := PySem.W.fnOf "number_begun" "number_begun" (defArgs s_number_begun) (defBody s_number_begun) (defScope s_number_begun) .none kV_number_begun dc_number_begun pm_number_begun an_number_begun cd_number_begun ct_number_begun,
      F_number_begun := fun_mk (st := s_number_begun) l_number_begun co_number_begun k_number_begun,
      b_number_begun := (fun_mk (st := s_number_begun) l_number_begun co_number_begun k_number_begun).binds (ps := ["rows", "day"]) fun _ _ _ _ _ _ us hl => match us, hl with | [_, _], _ => rfl,
      g_number_begun := PySem.W.mg_of X G a_number_begun,
      a_until_of := f_until_of,
      fd_until_of := PySem.W.fnOf "until_of" "until_of" (defArgs s_until_of) (defBody s_until_of) (defScope s_until_of) .none kV_until_of dc_until_of pm_until_of an_until_of cd_until_of ct_until_of,
      F_until_of := fun_mk (st := s_until_of) l_until_of co_until_of k_until_of,
      b_until_of := (fun_mk (st := s_until_of) l_until_of co_until_of k_until_of).binds (ps := ["stop", "ends"]) fun _ _ _ _ _ _ us hl => match us, hl with | [_, _], _ => rfl,
      g_until_of := PySem.W.mg_of X G a_until_of,
      a_without_stretch := f_without_stretch,
      fd_without_stretch := PySem.W.fnOf "without_stretch" "without_stretch" (defArgs s_without_stretch) (defBody s_without_stretch) (defScope s_without_stretch) .none kV_without_stretch dc_without_stretch pm_without_stretch an_without_stretch cd_without_stretch ct_without_stretch,
      F_without_stretch := fun_mk (st := s_without_stretch) l_without_stretch co_without_stretch k_without_stretch,
      b_without_stretch := (fun_mk (st := s_without_stretch) l_without_stretch co_without_stretch k_without_stretch).binds (ps := ["row", "first", "last", "ends"]) fun _ _ _ _ _ _ us hl => match us, hl with | [_, _, _, _], _ => rfl,
      g_without_stretch := PySem.W.mg_of X G a_without_stretch,
      a_Book_setitem := f_Book_setitem,
      fd_Book_setitem := PySem.W.fnOf "__setitem__" "Book.__setitem__" (defArgs s_Book_setitem) (defBody s_Book_setitem) (defScope s_Book_setitem) .none kV_Book_setitem dc_Book_setitem pm_Book_setitem an_Book_setitem cd_Book_setitem ct_Book_setitem,
      F_Book_setitem := fun_mk (st := s_Book_setitem) l_Book_setitem co_Book_setitem k_Book_setitem,
      b_Book_setitem := (fun_mk (st := s_Book_setitem) l_Book_setitem co_Book_setitem k_Book_setitem).binds (ps := ["self", "at", "worth"]) fun _ _ _ _ _ _ us hl => match us, hl with | [_, _, _], _ => rfl,
      m_Book_setitem := ⟨a_Book_setitem, i_Book_setitem, k_Book_setitem⟩,
      q_Book := ns_Book,
      a_Book_from_rows := f_Book_from_rows,
      fd_Book_from_rows := PySem.W.fnOf "from_rows" "Book.from_rows" (defArgs s_Book_from_rows) (defBody s_Book_from_rows) (defScope s_Book_from_rows) (.ref td_Book_from_rows) kV_Book_from_rows dc_Book_from_rows pm_Book_from_rows an_Book_from_rows cd_Book_from_rows ct_Book_from_rows,
      F_Book_from_rows := ⟨⟨_, _, _, _, _, _, _, _, _, _, rfl, l_Book_from_rows, co_Book_from_rows, .inr ⟨by simp, _, _, [.str "last day" tkd_Book_from_rows_0], _, rfl, td0_Book_from_rows, rfl, (.cons ⟨_, rfl⟩ .nil)⟩, .inl rfl⟩, k_Book_from_rows⟩,
      b1_Book_from_rows := FunD.binds1 (ps := ["rows", "ends"]) (show FunD K "from_rows" "Book.from_rows" (defArgs s_Book_from_rows) (defBody s_Book_from_rows) (defScope s_Book_from_rows) [.str "last day"] [] f_Book_from_rows _ from ⟨⟨_, _, _, _, _, _, _, _, _, _, rfl, l_Book_from_rows, co_Book_from_rows, .inr ⟨by simp, _, _, [.str "last day" tkd_Book_from_rows_0], _, rfl, td0_Book_from_rows, rfl, (.cons ⟨_, rfl⟩ .nil)⟩, .inl rfl⟩, k_Book_from_rows⟩) 1 0 (by simp) (by rfl) fun _ _ _ _ _ _ _ us its hl hi => match us, hl, its, hi with | [_], _, [_], _ => ⟨_, rfl, rfl⟩,
      b2_Book_from_rows := FunD.binds1 (ps := ["rows", "ends"]) (show FunD K "from_rows" "Book.from_rows" (defArgs s_Book_from_rows) (defBody s_Book_from_rows) (defScope s_Book_from_rows) [.str "last day"] [] f_Book_from_rows _ from ⟨⟨_, _, _, _, _, _, _, _, _, _, rfl, l_Book_from_rows, co_Book_from_rows, .inr ⟨by simp, _, _, [.str "last day" tkd_Book_from_rows_0], _, rfl, td0_Book_from_rows, rfl, (.cons ⟨_, rfl⟩ .nil)⟩, .inl rfl⟩, k_Book_from_rows⟩) 2 1 (by simp) (by rfl) fun _ _ _ _ _ _ _ us its hl hi => match us, hl, its, hi with | [_, _], _, [_], _ => ⟨_, rfl, rfl⟩,
      pa_Book_from_rows := pp_Book_from_rows,
      sm_Book_from_rows := ⟨rd_Book, rg_Book, a_Book_from_rows, ⟨_, prc_Book_from_rows⟩, k_Book_from_rows⟩,
      a_law := f_law,
      fd_law := PySem.W.fnOf "law" "law" (defArgs s_law) (defBody s_law) (defScope s_law) .none kV_law dc_law pm_law an_law cd_law ct_law,
      F_law := fun_mk (st := s_law) l_law co_law k_law,
      b_law := (fun_mk (st := s_law) l_law co_law k_law).binds (ps := ["script"]) fun _ _ _ _ _ _ us hl => match us, hl with | [_], _ => rfl,
      bt_law := fun s v => .of_eq rfl,
      g_law := PySem.W.mg_of X G a_law,
      sq_Book := ⟨a_Book_iter, i_Book_iter, a_Book_len, i_Book_len⟩,
      kt_NO_END := gt_NO_END,
      kg_NO_END := PySem.W.mg_of X G ga_NO_END,
      kt_QUOTE := gt_QUOTE,
      kg_QUOTE := PySem.W.mg_of X G ga_QUOTE,
      kd_FIRST_LINES := gd_FIRST_LINES,
      kg_FIRST_LINES := PySem.W.mg_of X G ga_FIRST_LINES,
      dg_FIRST_LINES_0 := ⟨_, _, _, gl_FIRST_LINES, dk_FIRST_LINES, dv_FIRST_LINES_0, ⟨_, rfl⟩⟩,
      dg_FIRST_LINES_1 := ⟨_, _, _, gl_FIRST_LINES, dk_FIRST_LINES, dv_FIRST_LINES_1, ⟨_, rfl⟩⟩,
      n_max := PySem.W.mg_none_of X G z_max,
      n_min := PySem.W.mg_none_of X G z_min,
      n_len := PySem.W.mg_none_of X G z_len,
      n_abs := PySem.W.mg_none_of X G z_abs,
      n_int := PySem.W.mg_none_of X G z_int,
      n_range := PySem.W.mg_none_of X G z_range,
      n_sorted := PySem.W.mg_none_of X G z_sorted,
      n_zip := PySem.W.mg_none_of X G z_zip,
      n_list := PySem.W.mg_none_of X G z_list,
      n_str := PySem.W.mg_none_of X G z_str,
      n_isinstance := PySem.W.mg_none_of X G z_isinstance,
      n_iter := PySem.W.mg_none_of X G z_iter,
      n_bool := PySem.W.mg_none_of X G z_bool,
      n_tuple := PySem.W.mg_none_of X G z_tuple }, rfl, tab_by TP X hany a_Lsorted_rows l_Lsorted_rows rfl lq_Lsorted_rows pq_Lsorted_rows, nq_Lsorted_rows⟩

end Vf
theorem Vf.early_on {A B : Prop} (a : A) (f : A → B) : B := f a
set_option hygiene false
namespace VfH
open PySem PySem.W PySem.Calls PyProof.Rows
abbrev R : OpenRow := OpenLaw.row PySem.Challenge.rw_untilrows_k27_printed_books
abbrev qv : Program := view R.prog [50, 56]
def loose : List PySem.Str := (["_wall", "RowsError", "EmptyRow", "EmptyStretch", "Clash", "Ends", "stop_of", "until_of", "last_of", "bears", "bears_no_day", "checked_until", "stretch_of", "place_of", "runs_after", "joined_runs", "Table", "first_day", "checked_rows", "number_begun", "without_stretch", "Book", "FIRST_LINES", "NO_END", "QUOTE", "row_line", "printed", "_law_bag", "_law_take", "_law_wide"] : List PySem.Str) ++ (["_law_of", "_law_day", "_law_value", "_law_ends", "_law_rows", "_law_written", "_law_same_value", "_law_is_number", "_law_cut", "_law_parts", "_law_same", "_law_are", "_law_near", "_law_stretch", "_law_many", "_law_borders", "_law_put_rows", "_law_shifted", "_law_due"] : List PySem.Str)
end VfH
local macro_rules | `(tactic| o_head (kmHook $K:term $as:term $e:term $ts:term)) => `(tactic| (
  (case K9 => exact $K); (case as9 => exact $as); (case e9 => exact $e); (case ts9 => exact $ts)
  refine HeadRun.head_any (r := VfH.R) (q := VfH.qv) (H := PySem.W.kmHook $K $as $e $ts) (ob := fun s => (List.map (HeadRun.getT s) $as, List.map (HeadRun.getT s) $ts)) (M := 40000) (loose := VfH.loose) (d := HeadRun.topDef VfH.R.prog 56) (kwd := []) (fun s => congrArg (fun f => (List.map f $as, List.map f $ts)) (funext (HeadRun.getT_eq s)))
    (by kernel_rfl) (fun s => by kernel_rfl) run9 (by kernel_rfl) (by kernel_rfl) (by kernel_rfl) (by rfl) (by first | assumption | decide +kernel) (by decide +kernel) ⟨rfl, rfl, rfl, rfl, rfl, by decide +kernel⟩ ?hw ?hc))
namespace Vf
open PySem PySem.Spec PyProof.Rows L2
open LamX (TabB TabS ExtN)
open PySem PySem.W PyProof.Rows in
set_option maxRecDepth 100000 in
set_option maxHeartbeats 0 in
noncomputable def early : Σ' (K : Params → Frag) (as : List Addr) (e : ∀ P, as = (K P).map (·.1)) (ts : List Addr), (∀ w, HeadRun.RunEq VfH.R VfH.qv (PySem.W.kmHook K as e ts) (fun s => (List.map (HeadRun.getT s) as, List.map (HeadRun.getT s) ts)) 40000 VfH.loose w) → (∀ (w : World) (K : PySem.W.Frag) (mg : Str → Option Value) (h : Heap) (T : Tx w K mg), (PySem.W.CodeHd h T.cc_Lsorted_rows T.cp_Lsorted_rows ∧ h.get? T.cp_Lsorted_rows = some { cls := .none, data := .fields #[] }) → K.lookup T.cp_Lsorted_rows = none → LamX.LawAtS PySem.Challenge.rw_untilrows_k27_printed_books w K CX0 13 63 "script" mg T.a_law h) → PySem.Challenge.rw_untilrows_k27_printed_books.Holds := by
  refine ⟨?K9, ?as9, ?e9, ?ts9, fun run9 FF => ?main9⟩; rotate_left 4
  w_on; o_law; k_head; (case hw => w_witness2)
  k_fill
  refine Vf.walk_L (l := PySem.Challenge.rw_untilrows_k27_printed_books) (k := 13) rfl rfl ⟨by decide, by decide, by decide⟩ (fun w h Y => PySem.W.km_in_of Y) ?F
  case F =>
    intro w mg mb mean fa h TP KX G hmg
    refine' early_on (Vf.tx_mk (w := w) TP (by decide +kernel) KX G hmg ?q_gsd ?q_gst ?q_aC_Ends ?q_rd_Ends ?q_rg_Ends ?q_cv_Ends_LAST_DAY ?q_cv_Ends_NEXT_DAY ?q_aC_EmptyRow ?q_aC_Clash ?q_aC_Book ?q_pg_Book ?q_hd_Book ?q_po_Book ?q_sa_Book ?q_na_Book_ends ?q_na_Book__rows ?q_rd_Book ?q_rg_Book ?q_aC_EmptyStretch ?q_a_Lparts ?q_l_Lparts ?q_co_Lparts ?q_k_Lparts ?q_a_Lbag ?q_l_Lbag ?q_co_Lbag ?q_k_Lbag ?q_a_Ltake ?q_l_Ltake ?q_co_Ltake ?q_k_Ltake ?q_a_Lof ?q_l_Lof ?q_co_Lof ?q_k_Lof ?q_a_Lends ?q_l_Lends ?q_co_Lends ?q_k_Lends ?q_a_Lwide ?q_l_Lwide ?q_co_Lwide ?q_k_Lwide ?q_a_Lday ?q_l_Lday ?q_co_Lday ?q_k_Lday ?q_a_Lvalue ?q_l_Lvalue ?q_co_Lvalue ?q_k_Lvalue ?q_a_Lrows ?q_l_Lrows ?q_co_Lrows ?q_k_Lrows ?q_a_Lshifted ?q_l_Lshifted ?q_co_Lshifted ?q_k_Lshifted ?q_a_Lnear ?q_l_Lnear ?q_co_Lnear ?q_k_Lnear ?q_a_Lstretch ?q_l_Lstretch ?q_co_Lstretch ?q_k_Lstretch ?q_a_Lcut ?q_l_Lcut ?q_co_Lcut ?q_k_Lcut ?q_a_Lsorted_rows ?q_l_Lsorted_rows ?q_co_Lsorted_rows ?q_k_Lsorted_rows ?q_lq_Lsorted_rows ?q_pq_Lsorted_rows ?q_nq_Lsorted_rows ?q_a_Lput_rows ?q_l_Lput_rows ?q_co_Lput_rows ?q_k_Lput_rows ?q_a_Lmany ?q_l_Lmany ?q_co_Lmany ?q_k_Lmany ?q_a_stop_of ?q_l_stop_of ?q_co_stop_of ?q_k_stop_of ?q_a_bears_no_day ?q_l_bears_no_day ?q_co_bears_no_day ?q_k_bears_no_day ?q_a_EmptyRow_init ?q_l_EmptyRow_init ?q_co_EmptyRow_init ?q_k_EmptyRow_init ?q_xL_EmptyRow ?q_vE_EmptyRow ?q_sa_EmptyRow ?q_ga_EmptyRow ?q_gg_EmptyRow ?q_eC_EmptyRow ?q_tC_EmptyRow ?q_kC_EmptyRow ?q_hC_EmptyRow ?q_iC_EmptyRow ?q_sC_EmptyRow ?q_cc_EmptyRow ?q_mC_EmptyRow ?q_tI_EmptyRow ?q_na_EmptyRow_first ?q_na_EmptyRow_end ?q_a_checked_until ?q_l_checked_until ?q_co_checked_until ?q_k_checked_until ?q_a_first_day ?q_l_first_day ?q_co_first_day ?q_k_first_day ?q_a_bears ?q_l_bears ?q_co_bears ?q_k_bears ?q_a_Clash_init ?q_l_Clash_init ?q_co_Clash_init ?q_k_Clash_init ?q_xL_Clash ?q_vE_Clash ?q_sa_Clash ?q_ga_Clash ?q_gg_Clash ?q_eC_Clash ?q_tC_Clash ?q_kC_Clash ?q_hC_Clash ?q_iC_Clash ?q_sC_Clash ?q_cc_Clash ?q_mC_Clash ?q_tI_Clash ?q_na_Clash_earlier ?q_na_Clash_later ?q_a_checked_rows ?q_l_checked_rows ?q_co_checked_rows ?q_k_checked_rows ?q_a_Book_init ?q_i_Book_init ?q_l_Book_init ?q_co_Book_init ?q_k_Book_init ?q_mk_Book ?q_kC_Book ?q_a_Lwritten ?q_l_Lwritten ?q_co_Lwritten ?q_k_Lwritten ?q_a_Lborders ?q_l_Lborders ?q_co_Lborders ?q_k_Lborders ?q_a_row_line ?q_l_row_line ?q_co_row_line ?q_k_row_line ?q_a_Book_iter ?q_i_Book_iter ?q_l_Book_iter ?q_co_Book_iter ?q_k_Book_iter ?q_a_printed ?q_l_printed ?q_co_printed ?q_k_printed ?q_a_Ldue ?q_l_Ldue ?q_co_Ldue ?q_k_Ldue ?q_a_Lsame_value ?q_l_Lsame_value ?q_co_Lsame_value ?q_k_Lsame_value ?q_a_Lsame ?q_l_Lsame ?q_co_Lsame ?q_k_Lsame ?q_a_Lis_number ?q_l_Lis_number ?q_co_Lis_number ?q_k_Lis_number ?q_a_Lare ?q_l_Lare ?q_co_Lare ?q_k_Lare ?q_a_Book_len ?q_i_Book_len ?q_l_Book_len ?q_co_Book_len ?q_k_Book_len ?q_a_EmptyStretch_init ?q_l_EmptyStretch_init ?q_co_EmptyStretch_init ?q_k_EmptyStretch_init ?q_xL_EmptyStretch ?q_vE_EmptyStretch ?q_sa_EmptyStretch ?q_ga_EmptyStretch ?q_gg_EmptyStretch ?q_eC_EmptyStretch ?q_tC_EmptyStretch ?q_kC_EmptyStretch ?q_hC_EmptyStretch ?q_iC_EmptyStretch ?q_sC_EmptyStretch ?q_cc_EmptyStretch ?q_mC_EmptyStretch ?q_tI_EmptyStretch ?q_na_EmptyStretch_first ?q_na_EmptyStretch_last ?q_a_stretch_of ?q_l_stretch_of ?q_co_stretch_of ?q_k_stretch_of ?q_a_number_begun ?q_l_number_begun ?q_co_number_begun ?q_k_number_begun ?q_a_until_of ?q_l_until_of ?q_co_until_of ?q_k_until_of ?q_a_without_stretch ?q_l_without_stretch ?q_co_without_stretch ?q_k_without_stretch ?q_a_Book_setitem ?q_i_Book_setitem ?q_l_Book_setitem ?q_co_Book_setitem ?q_k_Book_setitem ?q_ns_Book ?q_a_Book_from_rows ?q_prc_Book_from_rows ?q_l_Book_from_rows ?q_co_Book_from_rows ?q_k_Book_from_rows ?q_td0_Book_from_rows ?q_a_law ?q_l_law ?q_co_law ?q_k_law ?q_ga_NO_END ?q_ga_QUOTE ?q_ga_FIRST_LINES ?q_gl_FIRST_LINES ?q_dk_FIRST_LINES ?q_dv_FIRST_LINES_0 ?q_dv_FIRST_LINES_1 ?q_z_max ?q_z_min ?q_z_len ?q_z_abs ?q_z_int ?q_z_range ?q_z_sorted ?q_z_zip ?q_z_list ?q_z_str ?q_z_isinstance ?q_z_iter ?q_z_bool ?q_z_tuple) ?q9k
    (case q9k => (rintro ⟨T, rfl, hC, hN⟩; exact FF w _ mg h T hC hN))
    (case q_gsd => k_is)
    (case q_gst => k_is)
    (case q_aC_Ends => k_is)
    (case q_rd_Ends => k_is)
    (case q_rg_Ends => k_is)
    (case q_cv_Ends_LAST_DAY => k_is)
    (case q_cv_Ends_NEXT_DAY => k_is)
    (case q_aC_EmptyRow => k_is)
    (case q_aC_Clash => k_is)
    (case q_aC_Book => k_is)
    (case q_pg_Book => k_is)
    (case q_hd_Book => k_is)
    (case q_po_Book => k_is)
    (case q_sa_Book => k_is)
    (case q_na_Book_ends => k_is)
    (case q_na_Book__rows => k_is)
    (case q_rd_Book => k_is)
    (case q_rg_Book => k_is)
    (case q_aC_EmptyStretch => k_is)
    (case q_a_Lparts => k_is)
    (case q_l_Lparts => k_is)
    (case q_co_Lparts => k_is)
    (case q_k_Lparts => k_is)
    (case q_a_Lbag => k_is)
    (case q_l_Lbag => k_is)
    (case q_co_Lbag => k_is)
    (case q_k_Lbag => k_is)
    (case q_a_Ltake => k_is)
    (case q_l_Ltake => k_is)
    (case q_co_Ltake => k_is)
    (case q_k_Ltake => k_is)
    (case q_a_Lof => k_is)
    (case q_l_Lof => k_is)
    (case q_co_Lof => k_is)
    (case q_k_Lof => k_is)
    (case q_a_Lends => k_is)
    (case q_l_Lends => k_is)
    (case q_co_Lends => k_is)
    (case q_k_Lends => k_is)
    (case q_a_Lwide => k_is)
    (case q_l_Lwide => k_is)
    (case q_co_Lwide => k_is)
    (case q_k_Lwide => k_is)
    (case q_a_Lday => k_is)
    (case q_l_Lday => k_is)
    (case q_co_Lday => k_is)
    (case q_k_Lday => k_is)
    (case q_a_Lvalue => k_is)
    (case q_l_Lvalue => k_is)
    (case q_co_Lvalue => k_is)
    (case q_k_Lvalue => k_is)
    (case q_a_Lrows => k_is)
    (case q_l_Lrows => k_is)
    (case q_co_Lrows => k_is)
    (case q_k_Lrows => k_is)
    (case q_a_Lshifted => k_is)
    (case q_l_Lshifted => k_is)
    (case q_co_Lshifted => k_is)
    (case q_k_Lshifted => k_is)
    (case q_a_Lnear => k_is)
    (case q_l_Lnear => k_is)
    (case q_co_Lnear => k_is)
    (case q_k_Lnear => k_is)
    (case q_a_Lstretch => k_is)
    (case q_l_Lstretch => k_is)
    (case q_co_Lstretch => k_is)
    (case q_k_Lstretch => k_is)
    (case q_a_Lcut => k_is)
    (case q_l_Lcut => k_is)
    (case q_co_Lcut => k_is)
    (case q_k_Lcut => k_is)
    (case q_a_Lsorted_rows => k_is)
    (case q_l_Lsorted_rows => k_is)
    (case q_co_Lsorted_rows => k_is)
    (case q_k_Lsorted_rows => k_is)
    (case q_lq_Lsorted_rows => k_is)
    (case q_pq_Lsorted_rows => first | rfl | k_is)
    (case q_nq_Lsorted_rows => first | k_is | rfl | decide +kernel)
    (case q_a_Lput_rows => k_is)
    (case q_l_Lput_rows => k_is)
    (case q_co_Lput_rows => k_is)
    (case q_k_Lput_rows => k_is)
    (case q_a_Lmany => k_is)
    (case q_l_Lmany => k_is)
    (case q_co_Lmany => k_is)
    (case q_k_Lmany => k_is)
    (case q_a_stop_of => k_is)
    (case q_l_stop_of => k_is)
    (case q_co_stop_of => k_is)
    (case q_k_stop_of => k_is)
    (case q_a_bears_no_day => k_is)
    (case q_l_bears_no_day => k_is)
    (case q_co_bears_no_day => k_is)
    (case q_k_bears_no_day => k_is)
    (case q_a_EmptyRow_init => k_is)
    (case q_l_EmptyRow_init => k_is)
    (case q_co_EmptyRow_init => k_is)
    (case q_k_EmptyRow_init => k_is)
    (case q_xL_EmptyRow => k_is)
    (case q_vE_EmptyRow => decide +kernel)
    (case q_sa_EmptyRow => k_is)
    (case q_ga_EmptyRow => k_is)
    (case q_gg_EmptyRow => k_is)
    (case q_eC_EmptyRow => k_is)
    (case q_tC_EmptyRow => k_is)
    (case q_kC_EmptyRow => k_is)
    (case q_hC_EmptyRow => k_is)
    (case q_iC_EmptyRow => k_is)
    (case q_sC_EmptyRow => first | rfl | k_is)
    (case q_cc_EmptyRow => k_is)
    (case q_mC_EmptyRow => k_is)
    (case q_tI_EmptyRow => k_is)
    (case q_na_EmptyRow_first => k_is)
    (case q_na_EmptyRow_end => k_is)
    (case q_a_checked_until => k_is)
    (case q_l_checked_until => k_is)
    (case q_co_checked_until => k_is)
    (case q_k_checked_until => k_is)
    (case q_a_first_day => k_is)
    (case q_l_first_day => k_is)
    (case q_co_first_day => k_is)
    (case q_k_first_day => k_is)
    (case q_a_bears => k_is)
    (case q_l_bears => k_is)
    (case q_co_bears => k_is)
    (case q_k_bears => k_is)
    (case q_a_Clash_init => k_is)
    (case q_l_Clash_init => k_is)
    (case q_co_Clash_init => k_is)
    (case q_k_Clash_init => k_is)
    (case q_xL_Clash => k_is)
    (case q_vE_Clash => decide +kernel)
    (case q_sa_Clash => k_is)
    (case q_ga_Clash => k_is)
    (case q_gg_Clash => k_is)
    (case q_eC_Clash => k_is)
    (case q_tC_Clash => k_is)
    (case q_kC_Clash => k_is)
    (case q_hC_Clash => k_is)
    (case q_iC_Clash => k_is)
    (case q_sC_Clash => first | rfl | k_is)
    (case q_cc_Clash => k_is)
    (case q_mC_Clash => k_is)
    (case q_tI_Clash => k_is)
    (case q_na_Clash_earlier => k_is)
    (case q_na_Clash_later => k_is)
    (case q_a_checked_rows => k_is)
    (case q_l_checked_rows => k_is)
    (case q_co_checked_rows => k_is)
    (case q_k_checked_rows => k_is)
    (case q_a_Book_init => k_is)
    (case q_i_Book_init => k_is)
    (case q_l_Book_init => k_is)
    (case q_co_Book_init => k_is)
    (case q_k_Book_init => k_is)
    (case q_mk_Book => k_is)
    (case q_kC_Book => k_is)
    (case q_a_Lwritten => k_is)
    (case q_l_Lwritten => k_is)
    (case q_co_Lwritten => k_is)
    (case q_k_Lwritten => k_is)
    (case q_a_Lborders => k_is)
    (case q_l_Lborders => k_is)
    (case q_co_Lborders => k_is)
    (case q_k_Lborders => k_is)
    (case q_a_row_line => k_is)
    (case q_l_row_line => k_is)
    (case q_co_row_line => k_is)
    (case q_k_row_line => k_is)
    (case q_a_Book_iter => k_is)
    (case q_i_Book_iter => k_is)
    (case q_l_Book_iter => k_is)
    (case q_co_Book_iter => k_is)
    (case q_k_Book_iter => k_is)
    (case q_a_printed => k_is)
    (case q_l_printed => k_is)
    (case q_co_printed => k_is)
    (case q_k_printed => k_is)
    (case q_a_Ldue => k_is)
    (case q_l_Ldue => k_is)
    (case q_co_Ldue => k_is)
    (case q_k_Ldue => k_is)
    (case q_a_Lsame_value => k_is)
    (case q_l_Lsame_value => k_is)
    (case q_co_Lsame_value => k_is)
    (case q_k_Lsame_value => k_is)
    (case q_a_Lsame => k_is)
    (case q_l_Lsame => k_is)
    (case q_co_Lsame => k_is)
    (case q_k_Lsame => k_is)
    (case q_a_Lis_number => k_is)
    (case q_l_Lis_number => k_is)
    (case q_co_Lis_number => k_is)
    (case q_k_Lis_number => k_is)
    (case q_a_Lare => k_is)
    (case q_l_Lare => k_is)
    (case q_co_Lare => k_is)
    (case q_k_Lare => k_is)
    (case q_a_Book_len => k_is)
    (case q_i_Book_len => k_is)
    (case q_l_Book_len => k_is)
    (case q_co_Book_len => k_is)
    (case q_k_Book_len => k_is)
    (case q_a_EmptyStretch_init => k_is)
    (case q_l_EmptyStretch_init => k_is)
    (case q_co_EmptyStretch_init => k_is)
    (case q_k_EmptyStretch_init => k_is)
    (case q_xL_EmptyStretch => k_is)
    (case q_vE_EmptyStretch => decide +kernel)
    (case q_sa_EmptyStretch => k_is)
    (case q_ga_EmptyStretch => k_is)
    (case q_gg_EmptyStretch => k_is)
    (case q_eC_EmptyStretch => k_is)
    (case q_tC_EmptyStretch => k_is)
    (case q_kC_EmptyStretch => k_is)
    (case q_hC_EmptyStretch => k_is)
    (case q_iC_EmptyStretch => k_is)
    (case q_sC_EmptyStretch => first | rfl | k_is)
    (case q_cc_EmptyStretch => k_is)
    (case q_mC_EmptyStretch => k_is)
    (case q_tI_EmptyStretch => k_is)
    (case q_na_EmptyStretch_first => k_is)
    (case q_na_EmptyStretch_last => k_is)
    (case q_a_stretch_of => k_is)
    (case q_l_stretch_of => k_is)
    (case q_co_stretch_of => k_is)
    (case q_k_stretch_of => k_is)
    (case q_a_number_begun => k_is)
    (case q_l_number_begun => k_is)
    (case q_co_number_begun => k_is)
    (case q_k_number_begun => k_is)
    (case q_a_until_of => k_is)
    (case q_l_until_of => k_is)
    (case q_co_until_of => k_is)
    (case q_k_until_of => k_is)
    (case q_a_without_stretch => k_is)
    (case q_l_without_stretch => k_is)
    (case q_co_without_stretch => k_is)
    (case q_k_without_stretch => k_is)
    (case q_a_Book_setitem => k_is)
    (case q_i_Book_setitem => k_is)
    (case q_l_Book_setitem => k_is)
    (case q_co_Book_setitem => k_is)
    (case q_k_Book_setitem => k_is)
    (case q_ns_Book => k_is)
    (case q_a_Book_from_rows => k_is)
    (case q_prc_Book_from_rows => k_is)
    (case q_l_Book_from_rows => k_is)
    (case q_co_Book_from_rows => k_is)
    (case q_k_Book_from_rows => k_is)
    (case q_td0_Book_from_rows => k_is)
    (case q_a_law => k_is)
    (case q_l_law => k_is)
    (case q_co_law => k_is)
    (case q_k_law => k_is)
    (case q_ga_NO_END => k_is)
    (case q_ga_QUOTE => k_is)
    (case q_ga_FIRST_LINES => k_is)
    (case q_gl_FIRST_LINES => k_is)
    (case q_dk_FIRST_LINES => walk_at "keysl")
    (case q_dv_FIRST_LINES_0 => k_is)
    (case q_dv_FIRST_LINES_1 => k_is)
    (case q_z_max => k_is)
    (case q_z_min => k_is)
    (case q_z_len => k_is)
    (case q_z_abs => k_is)
    (case q_z_int => k_is)
    (case q_z_range => k_is)
    (case q_z_sorted => k_is)
    (case q_z_zip => k_is)
    (case q_z_list => k_is)
    (case q_z_str => k_is)
    (case q_z_isinstance => k_is)
    (case q_z_iter => k_is)
    (case q_z_bool => k_is)
    (case q_z_tuple => k_is)
end Vf
open PySem PySem.W PyProof.Rows
set_option maxRecDepth 100000 in
theorem Vf.runF (w : World) : HeadRun.RunEq VfH.R VfH.qv (PySem.W.kmHook Vf.early.1 Vf.early.2.1 Vf.early.2.2.1 Vf.early.2.2.2.1) (fun s => (List.map (HeadRun.getT s) Vf.early.2.1, List.map (HeadRun.getT s) Vf.early.2.2.2.1)) 40000 VfH.loose (w.withFollow "special-get-raises" false) := fun os => by kernel_rfl
set_option maxRecDepth 100000 in
theorem Vf.runT (w : World) : HeadRun.RunEq VfH.R VfH.qv (PySem.W.kmHook Vf.early.1 Vf.early.2.1 Vf.early.2.2.1 Vf.early.2.2.2.1) (fun s => (List.map (HeadRun.getT s) Vf.early.2.1, List.map (HeadRun.getT s) Vf.early.2.2.2.1)) 40000 VfH.loose (w.withFollow "special-get-raises" true) := fun os => by kernel_rfl
theorem Vf.run (w : World) : HeadRun.RunEq VfH.R VfH.qv (PySem.W.kmHook Vf.early.1 Vf.early.2.1 Vf.early.2.2.1 Vf.early.2.2.2.1) (fun s => (List.map (HeadRun.getT s) Vf.early.2.1, List.map (HeadRun.getT s) Vf.early.2.2.2.1)) 40000 VfH.loose w := PySem.W.byRow2 "special-get-raises" (P := fun w => HeadRun.RunEq VfH.R VfH.qv (PySem.W.kmHook Vf.early.1 Vf.early.2.1 Vf.early.2.2.1 Vf.early.2.2.2.1) (fun s => (List.map (HeadRun.getT s) Vf.early.2.1, List.map (HeadRun.getT s) Vf.early.2.2.2.1)) 40000 VfH.loose w) Vf.runF Vf.runT w
namespace Vf
open PySem PySem.Spec PyProof.Rows L2
open LamX (TabB TabS ExtN)
def spLparts (K : PySem.W.Frag) : Sp := fun vs H Q _ => ∃ (a : Addr) (xs : List V) (m : Int), vs = [.ref a, .int m] ∧ SqL K H a xs ∧ ∀ n : Int, (1 ≤ n) → (n ≤ 1 ∨ n ≤ m) → Q (.int n) H
def spLbag (K : PySem.W.Frag) : Sp := fun vs H Q _ => ∃ (a : Addr) (ns : List Int) (i : Int), vs = [.ref a, .int i] ∧ SqL K H a (ns.map V.int) ∧ 0 ≤ i ∧ i ≤ 1000 ∧
  ∀ p H', H p = none → Ex H H' → Bag H' p 0 → Q (.ref p) H'
theorem Lbag_fin {z i : Int} (h0 : 0 ≤ i) (h1 : i ≤ 1000) : 0 ≤ z % 2305843009213693951 * 5 + 6691 * i + 3067 ∧ z % 2305843009213693951 * 5 + 6691 * i + 3067 < 12000000000000000000 := by
  have a := Int.emod_nonneg z (b := 2305843009213693951) (by decide)
  have b := Int.emod_lt_of_pos z (b := 2305843009213693951) (by decide)
  omega
def spLtake : Sp := fun vs H Q _ => ∃ (b : Addr) (k : Nat) (m : Int), vs = [.ref b, .int m] ∧ Bag H b k ∧ k < 1000000000 ∧ 0 < m ∧ m < 2 ^ 900 ∧
  ∀ r H', 0 ≤ r → r < m → But b H H' → Bag H' b (k + 1) → Q (.int r) H'
/-- what a sequence shows, item by item: a list that is not the bag, a tuple, a text's signs -/
inductive Seqs (H : Hp) (b : Addr) : V → List V → Prop where
  | lst {p : Addr} {xs : List V} : H p = some (.lst xs) → p ≠ b → Seqs H b (.ref p) xs
  | tup {p : Addr} {xs : List V} : H p = some (.tup xs) → Seqs H b (.ref p) xs
  | str {s : Str} {cs : List Nat} : s.cps.toList = cs → s.length ≤ sizeLine → Seqs H b (.str s) (cs.map fun c => V.str ⟨#[c]⟩)
def spLof : Sp := fun vs H Q _ => ∃ (b : Addr) (k : Nat) (x : V) (xs : List V), vs = [.ref b, x] ∧ Bag H b k ∧ k < 1000000000 ∧ Seqs H b x xs ∧ xs ≠ [] ∧ xs.length < 1000000000 ∧
  ∀ v H', v ∈ xs → But b H H' → Bag H' b (k + 1) → Q v H'
def spLends : Sp := fun vs H Q _ => ∃ (b : Addr) (k : Nat), vs = [.ref b] ∧ Bag H b k ∧ k < 1000000000 ∧
  ∀ s H', IsEnds s → But b H H' → Bag H' b (k + 1) → Q (.str s) H'
def spLwide : Sp := fun vs H Q _ => ∃ (b : Addr) (k : Nat) (m : Int), vs = [.ref b, .int m] ∧ Bag H b k ∧ k + 5 < 1000000000 ∧ 0 < m ∧ m < 2 ^ 900 ∧
  ∀ r H', 0 ≤ r → r < m → But b H H' → Bag H' b (k + 5) → Q (.int r) H'
def wideB : Nat → Int
  | 0 => 1
  | n + 1 => wideB n * 1125899906842624
theorem wideB_lt : ∀ i, i ≤ 5 → wideB i < 2 ^ 900 := by
  intro i hi
  match i, hi with
  | 0, _ => decide
  | 1, _ => decide
  | 2, _ => decide
  | 3, _ => decide
  | 4, _ => decide
  | 5, _ => decide
theorem wideB_step {n r : Int} {i : Nat} (h0 : 0 ≤ n) (h1 : n < wideB i) (r0 : 0 ≤ r) (r1 : r < 1125899906842624) : 0 ≤ n * 1125899906842624 + r ∧ n * 1125899906842624 + r < wideB (i + 1) := by
  unfold wideB
  omega
def spLday : Sp := fun vs H Q _ => ∃ (b : Addr) (k : Nat), vs = [.ref b] ∧ Bag H b k ∧ k + 6 < 1000000000 ∧
  ∀ r H', -(10 ^ 59) ≤ r → r ≤ 10 ^ 59 → But b H H' → Bag H' b (k + 6) → Q (.int r) H'
def spLvalue : Sp := fun vs H Q _ => ∃ (b : Addr) (k : Nat), vs = [.ref b] ∧ Bag H b k ∧ k + 20 < 1000000000 ∧
  ∀ v H', IsVal v → But b H H' → Bag H' b (k + 20) → Q v H'
def spLrows27 : Sp := fun vs H Q _ => ∃ (b : Addr) (k : Nat) (m : Int) (fm : Str), vs = [.ref b, .int m, .str fm] ∧ Bag H b k ∧ k + 2000 < 1000000000 ∧ 0 ≤ m ∧ m ≤ 50 ∧
  ∀ D H' xs rs, But b H H' → H D = none → D ≠ b → Bag H' b (k + 1500) → H' D = some (.lst xs) → RunsAt H' xs rs → AscS rs → (∀ r ∈ rs, DayR (10 ^ 60) r) → rs.length = m.toNat → Q (.ref D) H'
def shiftR (m : Int) (r : Run) : Run := (r.1 + m, r.2.1.map (· + m), r.2.2)
theorem shift_asc {m : Int} {ts : List Run} (a : AscS ts) : AscS (ts.map (shiftR m)) := by
  refine ⟨fun r hr n e => ?_, ?_⟩
  · obtain ⟨x, hx, rfl⟩ := List.mem_map.mp hr
    cases q : x.2.1 with
    | none => rw [show (shiftR m x).2.1 = x.2.1.map (· + m) from rfl, q] at e; cases e
    | some k =>
      rw [show (shiftR m x).2.1 = x.2.1.map (· + m) from rfl, q] at e
      cases e
      have := a.1 x hx k q
      show x.1 + m < k + m
      omega
  · rw [List.pairwise_map]
    refine a.2.imp fun {x y} ⟨n, e, h⟩ => ⟨n + m, ?_, ?_⟩
    · show x.2.1.map (· + m) = _
      rw [e]; rfl
    · show n + m ≤ y.1 + m
      omega
theorem shift_day {m : Int} {ts : List Run} (h : ∀ r ∈ ts, DayR (10 ^ 60) r) (hm : -(3 * 10 ^ 60) ≤ m ∧ m ≤ 3 * 10 ^ 60) : ∀ r ∈ ts.map (shiftR m), DayR (10 ^ 61) r := by
  intro r hr
  obtain ⟨x, hx, rfl⟩ := List.mem_map.mp hr
  have d := h x hx
  refine ⟨⟨?_, ?_⟩, fun n e => ?_, d.2.2⟩
  · have := d.1
    show -(10 ^ 61) ≤ x.1 + m
    omega
  · have := d.1
    show x.1 + m ≤ 10 ^ 61
    omega
  · cases q : x.2.1 with
    | none => rw [show (shiftR m x).2.1 = x.2.1.map (· + m) from rfl, q] at e; cases e
    | some k =>
      rw [show (shiftR m x).2.1 = x.2.1.map (· + m) from rfl, q] at e
      cases e
      have := d.2.1 k q
      exact ⟨by show -(10 ^ 61) ≤ k + m; omega, by show k + m ≤ 10 ^ 61; omega⟩
def spLshifted : Sp := fun vs H Q _ => ∃ (b : Addr) (k : Nat) (a : Addr) (xs : List V) (ts : List Run), vs = [.ref b, .ref a] ∧ Bag H b k ∧ k + 20 < 1000000000 ∧ H a = some (.lst xs) ∧ a ≠ b ∧ RunsAt H xs ts ∧ AscS ts ∧ (∀ r ∈ ts, DayR (10 ^ 60) r) ∧ ts.length ≤ 1000 ∧
  ∀ D H' ys us, But b H H' → Bag H' b (k + 10) → D ≠ b → H' D = some (.lst ys) → RunsAt H' ys us → AscS us → (∀ r ∈ us, DayR (10 ^ 61) r) → us.length = ts.length → Q (.ref D) H'
def spLnear27 : Sp := fun vs H Q _ => ∃ (b : Addr) (k : Nat) (m : Addr) (ms : List Int), vs = [.ref b, .ref m] ∧ Bag H b k ∧ k + 20 < 1000000000 ∧ H m = some (.lst (ms.map V.int)) ∧ m ≠ b ∧ ms.length < 1000000 ∧ (∀ x ∈ ms, -(10 ^ 61) ≤ x ∧ x ≤ 10 ^ 61) ∧
  ∀ r H', -(10 ^ 62) ≤ r → r ≤ 10 ^ 62 → But b H H' → Bag H' b (k + 10) → Q (.int r) H'
def spLstretch27 : Sp := fun vs H Q _ => ∃ (b : Addr) (k : Nat) (m : Addr) (ms : List Int) (s : Addr) (ws : List V), vs = [.ref b, .ref m, .ref s] ∧ Bag H b k ∧ k + 40 < 1000000000 ∧ H m = some (.lst (ms.map V.int)) ∧ m ≠ b ∧ ms.length < 1000000 ∧ (∀ x ∈ ms, -(10 ^ 61) ≤ x ∧ x ≤ 10 ^ 61) ∧
  H s = some (.lst ws) ∧ s ≠ b ∧ ws ≠ [] ∧ ws.length < 1000 ∧ (∀ x ∈ ws, SmlV x) ∧
  ∀ t H' f l v, But b H H' → Bag H' b (k + 20) → H' t = some (.tup [.int f, optI l, v]) → ValR (f, l, v) → (v = V.non ∨ SmlV v) → (-(10 ^ 62) ≤ f ∧ f ≤ 10 ^ 62) → (∀ n, l = some n → -(10 ^ 63) ≤ n + 1 ∧ n + 1 ≤ 10 ^ 63) → Q (.ref t) H'
def spLcut : Sp := fun vs H Q _ => ∃ (a : Addr) (low : Int) (high : Option Int) (xs : List V) (rs : List Run), vs = [.ref a, .int low, optI high] ∧ H a = some (.lst xs) ∧ RunsAt H xs rs ∧ rs.length ≤ 100000 ∧
  ∀ D H' ys, H D = none → Ex H H' → H' D = some (.lst ys) → RunsAt H' ys (rs.flatMap (cutR low high)) → Q (.ref D) H'
def lamQ : Str := Str.ofString "_law_sorted_rows.<locals>.<lambda>"
theorem r_sortL {K : PySem.W.Frag} {P : Addr} {q : Str} {t : TA} {σ : L2.St} {H : Hp} {Q : VK} (h : t σ H fun vs H1 => ∃ (a : Addr) (xs : List V) (rs : List Run), vs = [.ref a] ∧ SqL K H1 a xs ∧ RunsAt H1 xs rs ∧ rs.length ≤ 100000 ∧ LamX.TabS H1 P q ∧
  ∀ (H2 : Hp) (p : Addr) (ys : List V), LamX.ExtN H1 H2 → LamX.TabS H2 P q → H2 p = none → RunsAt H2 ys (rs.mergeSort fun a b => decide (a.1 ≤ b.1)) → Q (.ref p) (upd H2 p (.lst ys))) : tSortL K P q t σ H Q := h
def spLsorted (P : Addr) : Sp := fun vs H Q _ => ∃ (a : Addr) (xs : List V) (rs : List Run), vs = [.ref a] ∧ H a = some (.lst xs) ∧ RunsAt H xs rs ∧ rs.length ≤ 100000 ∧ LamX.TabS H P lamQ ∧
  ∀ (D : Addr) (H' : Hp) (ys : List V), LamX.ExtN H H' → LamX.TabS H' P lamQ → (∀ b zs, H b = some (.lst zs) → b ≠ D) → H' D = some (.lst ys) → RunsAt H' ys (rs.mergeSort fun a b => decide (a.1 ≤ b.1)) → Q (.ref D) H'
def spLputR (P : Addr) : Sp := fun vs H Q _ => ∃ (a : Addr) (f : Int) (m : Option Int) (v : V) (xs : List V) (ts : List Run), vs = [.ref a, .int f, optI m, v] ∧ H a = some (.lst xs) ∧ RunsAt H xs ts ∧ AscS ts ∧ ts.length ≤ 40000 ∧ (∀ n, m = some n → f ≤ n) ∧ LamX.TabS H P lamQ ∧
  ∀ (D : Addr) (H' : Hp) (ys : List V), LamX.ExtN H H' → LamX.TabS H' P lamQ → (∀ b zs, H b = some (.lst zs) → b ≠ D) → H' D = some (.lst ys) → RunsAt H' ys (putL ts f m v) → Q (.ref D) H'
def spLmany : Sp := fun vs H Q _ => ∃ (b : Addr) (k : Nat) (m : Int), vs = [.ref b, .int m] ∧ Bag H b k ∧ k + 2 < 1000000000 ∧ 0 ≤ m ∧ ∀ r H', 0 ≤ r → (r ≤ 8 ∨ r ≤ m) → But b H H' → Bag H' b (k + 2) → Q (.int r) H'
def spStopOf : Sp := fun vs H Q _ => ∃ (u : Option Int) (s : Str), vs = [optI u, .str s] ∧ Q (optI (stopOf u s)) H
def noDay (f : Int) (u : Option Int) (s : Str) : Bool := match stopOf u s with | none => false | some n => decide (n ≤ f)
def spBearsNo : Sp := fun vs H Q _ => ∃ (f : Int) (u : Option Int) (s : Str), vs = [.int f, optI u, .str s] ∧ Q (.bl (noDay f u s)) H
def spChecked (C : Addr) : Sp := fun vs H Q E => ∃ (f : Int) (u : Option Int) (s : Str), vs = [.int f, optI u, .str s] ∧
  (noDay f u s = true → ∀ d H', H d = none → Ex H H' → H' d = some (.xd [("end", optI u), ("first", .int f)]) → E (.ref C) (some d) H') ∧ (noDay f u s = false → Q (optI u) H)
def spFirstDay : Sp := fun vs H Q _ => ∃ (t : Addr) (f : Int) (u : Option Int) (v : V), vs = [.ref t] ∧ H t = some (.tup [.int f, optI u, v]) ∧ Q (.int f) H
def spBears : Sp := fun vs H Q _ => ∃ (p : Addr) (f : Int) (u : Option Int) (r : List V) (d : Int) (s : Str), vs = [.ref p, .int d, .str s] ∧ H p = some (.tup (.int f :: optI u :: r)) ∧ Q (.bl (bears f (stopOf u s) d)) H
theorem use_bears {p : Addr} {f d : Int} {u : Option Int} {r : List V} {s : Str} {H : Hp} {Q : VK} {E : XK} (h : H p = some (.tup (.int f :: optI u :: r))) (q : Q (.bl (bears f (stopOf u s) d)) H) : spBears ([.ref p, .int d, .str s] ++ []) H Q E := ⟨p, f, u, r, d, s, rfl, h, q⟩
def srt (rs : List Run) : List Run := rs.mergeSort fun a b => decide (a.1 ≤ b.1)
def spCheckedRows (C1 C2 : Addr) : Sp := fun vs H Q E => ∃ (a : Addr) (xs : List V) (rs : List Run) (s : Str), vs = [.ref a, .str s] ∧ H a = some (.lst xs) ∧ RunsAt H xs rs ∧ rs.length ≤ 100000 ∧
  (∀ (i : Nat) (r : Run), rs[i]? = some r → (∀ (j : Nat) (r' : Run), j < i → rs[j]? = some r' → noDay r'.1 r'.2.1 s = false) → noDay r.1 r.2.1 s = true →
    ∀ d H', H d = none → Ex H H' → H' d = some (.xd [("end", optI r.2.1), ("first", .int r.1)]) → E (.ref C1) (some d) H') ∧
  ((∀ r ∈ rs, noDay r.1 r.2.1 s = false) →
    (∀ (i : Nat) (x y : Run), (srt rs)[i]? = some x → (srt rs)[i + 1]? = some y → (∀ (j : Nat) (x' y' : Run), j < i → (srt rs)[j]? = some x' → (srt rs)[j + 1]? = some y' → bears x'.1 (stopOf x'.2.1 s) y'.1 = false) → bears x.1 (stopOf x.2.1 s) y.1 = true →
      ∀ d ta tb H', H d = none → Ex H H' → H' ta = some (.tup (runV x)) → H' tb = some (.tup (runV y)) → H' d = some (.xd [("later", .ref tb), ("earlier", .ref ta)]) → E (.ref C2) (some d) H') ∧
    ((∀ (i : Nat) (x y : Run), (srt rs)[i]? = some x → (srt rs)[i + 1]? = some y → bears x.1 (stopOf x.2.1 s) y.1 = false) →
      ∀ D H' ys, H D = none → Ex H H' → H' D = some (.lst ys) → RunsAt H' ys (srt rs) → Q (.ref D) H'))
/-- a book at p: its rows, ascending, as they are written with the ends s -/
def BookAt (C : Addr) (H : Hp) (p l : Addr) (rs : List Run) (s : Str) : Prop := ∃ dx xs, H p = some (.ins C dx [("ends", .str s), ("_rows", .ref l)]) ∧ H l = some (.lst xs) ∧ RunsAt H xs rs
/-- what is the first fault of rows that are given -/
def RowsE (C1 C2 : Addr) (rs : List Run) (s : Str) (H : Hp) (E : XK) : Prop :=
  (∀ (i : Nat) (r : Run), rs[i]? = some r → (∀ (j : Nat) (r' : Run), j < i → rs[j]? = some r' → noDay r'.1 r'.2.1 s = false) → noDay r.1 r.2.1 s = true →
    ∀ d H', H d = none → Ex H H' → H' d = some (.xd [("end", optI r.2.1), ("first", .int r.1)]) → E (.ref C1) (some d) H') ∧
  ((∀ r ∈ rs, noDay r.1 r.2.1 s = false) →
    (∀ (i : Nat) (x y : Run), (srt rs)[i]? = some x → (srt rs)[i + 1]? = some y → (∀ (j : Nat) (x' y' : Run), j < i → (srt rs)[j]? = some x' → (srt rs)[j + 1]? = some y' → bears x'.1 (stopOf x'.2.1 s) y'.1 = false) → bears x.1 (stopOf x.2.1 s) y.1 = true →
      ∀ d ta tb H', H d = none → Ex H H' → H' ta = some (.tup (runV x)) → H' tb = some (.tup (runV y)) → H' d = some (.xd [("later", .ref tb), ("earlier", .ref ta)]) → E (.ref C2) (some d) H'))
/-- rows that make a book -/
def RowsOk (rs : List Run) (s : Str) : Prop := (∀ r ∈ rs, noDay r.1 r.2.1 s = false) ∧ ∀ (i : Nat) (x y : Run), (srt rs)[i]? = some x → (srt rs)[i + 1]? = some y → bears x.1 (stopOf x.2.1 s) y.1 = false
def spBookInit (C C1 C2 : Addr) : Sp := fun vs H Q E => ∃ (p dx t : Addr) (s : Str) (xs : List V) (rs : List Run), vs = [.ref p, .str s, .ref t] ∧ H p = some (.ins C dx []) ∧ H t = some (.tup xs) ∧ RunsAt H xs rs ∧ rs.length ≤ 100000 ∧
  (∀ H1, But p H H1 → RowsE C1 C2 rs s H1 E) ∧ (RowsOk rs s → ∀ l H', H l = none → But p H H' → BookAt C H' p l (srt rs) s → Q .non H')
def spLwritten : Sp := fun vs H Q _ => ∃ (a : Addr) (s : Str) (xs : List V) (rs : List Run), vs = [.ref a, .str s] ∧ IsEnds s ∧ H a = some (.lst xs) ∧ RunsAt H xs rs ∧ rs.length ≤ 1000000 ∧
  ∀ D H' ys, H D = none → Ex H H' → H' D = some (.lst ys) → RunsAt H' ys (rs.map (writR s)) → Q (.ref D) H'
def spLborders27 : Sp := fun vs H Q _ => ∃ (a : Addr) (xs : List V) (rs : List Run), vs = [.ref a] ∧ H a = some (.lst xs) ∧ RunsAt H xs rs ∧ rs.length ≤ 100000 ∧
  ∀ D H' (ms : List Int), H D = none → Ex H H' → H' D = some (.lst (ms.map V.int)) → ms.length ≤ 2 * rs.length → (∀ B, (∀ r ∈ rs, DayR B r) → ∀ x ∈ ms, -B ≤ x ∧ x ≤ B) → Q (.ref D) H'
def spRowLine : Sp := fun vs H Q _ => ∃ (t : Addr) (r : Run), vs = [.ref t] ∧ H t = some (.tup [.int r.1, optI r.2.1, r.2.2]) ∧ SmlR r ∧ Q (.str (rowL r)) H
def spPrinted (C : Addr) : Sp := fun vs H Q _ => ∃ (p l : Addr) (rs : List Run) (s : Str), vs = [.ref p] ∧ BookAt C H p l rs s ∧ IsEnds s ∧ (∀ r ∈ rs, SmlR r) ∧ rs.length ≤ 5000 ∧ ∀ H', Ex H H' → Q (.str (bookS s rs)) H'
def spLdue27 : Sp := fun vs H Q _ => ∃ (a : Addr) (s : Str) (xs : List V) (ts : List Run), vs = [.ref a, .str s] ∧ IsEnds s ∧ H a = some (.lst xs) ∧ RunsAt H xs ts ∧ (∀ r ∈ ts, SmlR (writR s r)) ∧ ts.length ≤ 5000 ∧ ∀ H', Ex H H' → Q (.str (bookS s (ts.map (writR s)))) H'
/-- same kind, int or not, and equal -/
def sameV (x y : V) : Bool := decide (x = y)
def spLsameV : Sp := fun vs H Q _ => ∃ x y, vs = [x, y] ∧ Worth x ∧ Worth y ∧ Q (.bl (sameV x y)) H
theorem use_LsameV {x y : V} {H : Hp} {Q : VK} {E : XK} (h : Worth x) (h2 : Worth y) (q : Q (.bl (sameV x y)) H) : spLsameV ([x, y] ++ []) H Q E := ⟨x, y, rfl, h, h2, q⟩
def spLsame : Sp := fun vs H Q _ => ∃ x y, vs = [x, y] ∧ OptW x ∧ OptW y ∧ Q (.bl (decide (x = y))) H
theorem use_Lsame {x y : V} {H : Hp} {Q : VK} {E : XK} (h : OptW x) (h2 : OptW y) (q : Q (.bl (decide (x = y))) H) : spLsame ([x, y] ++ []) H Q E := ⟨x, y, rfl, h, h2, q⟩
/-- no object: None, a truth value, an int, a text -/
inductive Scal : V → Prop where
  | non : Scal .non
  | bl (b : Bool) : Scal (.bl b)
  | int (i : Int) : Scal (.int i)
  | str (s : Str) : Scal (.str s)
def isI : V → Bool
  | .int _ => true
  | _ => false
def spLisNum : Sp := fun vs H Q _ => ∃ x, vs = [x] ∧ Scal x ∧ Q (.bl (isI x)) H
theorem use_LisNum {x : V} {H : Hp} {Q : VK} {E : XK} (h : Scal x) (q : Q (.bl (isI x)) H) : spLisNum ([x] ++ []) H Q E := ⟨x, rfl, h, q⟩
def spLare : Sp := fun vs H Q _ => ∃ (a b : Addr) (xs ys : List V) (rs : List Run), vs = [.ref a, .ref b] ∧ H a = some (.lst xs) ∧ H b = some (.lst ys) ∧ RunsAt H xs rs ∧ RunsAt H ys rs ∧ (∀ r ∈ rs, Worth r.2.2) ∧ rs.length ≤ 1000000 ∧ Q (.bl true) H
/-- a day, or a pair of the first and the last day -/
def AtOf (K : PySem.W.Frag) (H : Hp) (x : V) (f : Int) (m : Option Int) : Prop := (x = .int f ∧ m = some f) ∨ ∃ t, x = .ref t ∧ H t = some (.tup [.int f, optI m])
def spStretchOf (K : PySem.W.Frag) (CE : Addr) : Sp := fun vs H Q E => ∃ (at_ : V) (f : Int) (m : Option Int), vs = [at_] ∧ AtOf K H at_ f m ∧
  ((∃ n, m = some n ∧ n < f) → ∀ d H', H d = none → Ex H H' → H' d = some (.xd [("last", optI m), ("first", .int f)]) → E (.ref CE) (some d) H') ∧
  ((∀ n, m = some n → f ≤ n) → ∀ t H', H t = none → Ex H H' → H' t = some (.tup [.int f, optI m]) → Q (.ref t) H')
def spBegun : Sp := fun vs H Q _ => ∃ (a : Addr) (d : Int) (xs : List V) (rs : List Run), vs = [.ref a, .int d] ∧ H a = some (.lst xs) ∧ RunsAt H xs rs ∧ (rs.Pairwise fun x y => x.1 < y.1) ∧ rs.length ≤ 1000000 ∧ Q (.int (begunR rs d)) H
def spUntilOf : Sp := fun vs H Q _ => ∃ (u : Option Int) (s : Str), vs = [optI u, .str s] ∧ Q (optI (untilOf u s)) H
def spWithout : Sp := fun vs H Q _ => ∃ (t : Addr) (f : Int) (u : Option Int) (v : V) (low : Int) (l : Option Int) (s : Str), vs = [.ref t, .int low, optI l, .str s] ∧ H t = some (.tup [.int f, optI u, v]) ∧
  ∀ D H' ys, H D = none → Ex H H' → H' D = some (.lst ys) → RunsAt H' ys ((cutR low (l.map (· + 1)) (f, stopOf u s, v)).map (writR s)) → Q (.ref D) H'
theorem stop_last (m : Option Int) : stopOf m "last day" = m.map (· + 1) := by
  cases m with
  | none => rfl
  | some n => simp [stopOf, ends_ne]
def spBookSet (K : PySem.W.Frag) (C CE : Addr) : Sp := fun vs H Q E => ∃ (p l : Addr) (at_ : V) (f : Int) (m : Option Int) (v : V) (ts : List Run) (s : Str), vs = [.ref p, at_, v] ∧ BookAt C H p l (ts.map (writR s)) s ∧ AtOf K H at_ f m ∧ AscS ts ∧ ts.length ≤ 40000 ∧ OptW v ∧
  ((∃ n, m = some n ∧ n < f) → ∀ d H', H d = none → Ex H H' → H' d = some (.xd [("last", optI m), ("first", .int f)]) → E (.ref CE) (some d) H') ∧
  ((∀ n, m = some n → f ≤ n) → ∀ H', But l H H' → BookAt C H' p l ((putL ts f m v).map (writR s)) s → Q .non H')
theorem RowsE.ex {C1 C2 : Addr} {rs : List Run} {s : Str} {H H1 : Hp} {E : XK} (h : RowsE C1 C2 rs s H E) (e : Ex H H1) : RowsE C1 C2 rs s H1 E :=
  ⟨fun i r h1 h2 h3 d H' hd e' => h.1 i r h1 h2 h3 d H' (Ex.free e hd) (e.trans e'), fun h0 i x y h1 h2 h3 h4 d ta tb H' hd e' => h.2 h0 i x y h1 h2 h3 h4 d ta tb H' (Ex.free e hd) (e.trans e')⟩
def spFromRows (C C1 C2 : Addr) : Sp := fun vs H Q E => ∃ (a : Addr) (s : Str) (xs : List V) (rs : List Run), vs = [.ref a, .str s] ∧ H a = some (.lst xs) ∧ RunsAt H xs rs ∧ rs.length ≤ 100000 ∧
  RowsE C1 C2 rs s H E ∧ (RowsOk rs s → ∀ p l H', H p = none → H l = none → l ≠ p → Ex H H' → BookAt C H' p l (srt rs) s → Q (.ref p) H')
theorem RowsOk.noE {C1 C2 : Addr} {rs : List Run} {s : Str} {H : Hp} {E : XK} (h : RowsOk rs s) : RowsE C1 C2 rs s H E :=
  ⟨fun i r hi _ hn => absurd ((h.1 r (List.mem_of_getElem? hi)).symm.trans hn) Bool.false_ne_true, fun _ i x y hx hy _ hb => absurd ((h.2 i x y hx hy).symm.trans hb) Bool.false_ne_true⟩
theorem asc_ok {ts : List Run} {s : Str} (a : AscS ts) : srt (ts.map (writR s)) = ts.map (writR s) ∧ RowsOk (ts.map (writR s)) s := by
  have e : srt (ts.map (writR s)) = ts.map (writR s) := sort_writ a
  refine ⟨e, fun r hr => ?_, fun i x y hx hy => ?_⟩
  · obtain ⟨⟨f, m, v⟩, hx, rfl⟩ := List.mem_map.mp hr
    show noDay f (untilOf m s) s = false
    unfold noDay
    rw [stop_until]
    cases m with
    | none => rfl
    | some n =>
      have := a.1 _ hx n rfl
      simpa using this
  · rw [e, List.getElem?_map, Option.map_eq_some_iff] at hx hy
    obtain ⟨x', hx', rfl⟩ := hx
    obtain ⟨y', hy', rfl⟩ := hy
    show bears x'.1 (stopOf (untilOf x'.2.1 s) s) y'.1 = false
    rw [stop_until]
    exact a.next hx' hy'
theorem BookAt.ex {C : Addr} {H H' : Hp} {p l : Addr} {rs : List Run} {s : Str} (h : BookAt C H p l rs s) (e : Ex H H') : BookAt C H' p l rs s := by
  obtain ⟨dx, xs, h1, h2, h3⟩ := h
  exact ⟨dx, xs, e _ _ h1, e _ _ h2, h3.ex e⟩
theorem BookAt.but {C : Addr} {H H' : Hp} {p l q : Addr} {rs : List Run} {s : Str} {ys : List V} (h : BookAt C H p l rs s) (b : But q H H') (hq : H q = some (.lst ys)) (n : l ≠ q) : BookAt C H' p l rs s := by
  obtain ⟨dx, xs, h1, h2, h3⟩ := h
  exact ⟨dx, xs, b _ _ (ne_of h1 hq (by intro z; cases z)) h1, b _ _ n h2, h3.tp (b.tpL hq)⟩
theorem BookAt.ne {C : Addr} {H : Hp} {p l q : Addr} {rs : List Run} {s : Str} (h : BookAt C H p l rs s) (hq : H q = none) : l ≠ q := by
  obtain ⟨dx, xs, h1, h2, h3⟩ := h
  exact ne_of_none h2 hq
theorem tab_ext {H H' : Hp} {P : Addr} {q : Str} (t : LamX.TabS H P q) (e : Ex H H') : LamX.TabS H' P q := by
  obtain ⟨ps, h, h2, h3⟩ := t
  refine ⟨ps, e _ _ h, h2, fun pos cv hc => ?_⟩
  obtain ⟨c, rfl, x⟩ := h3 pos cv hc
  exact ⟨c, rfl, e _ _ x⟩
theorem bookXn {C : Addr} {H H' : Hp} {p l : Addr} {rs : List Run} {s : Str} (h : BookAt C H p l rs s) (e : LamX.ExtN H H') : BookAt C H' p l rs s := by
  obtain ⟨dx, xs, h1, h2, h3⟩ := h
  exact ⟨dx, xs, xn_ins e h1, xn_lst e h2, xn_runs e h3⟩
/-- what is carried over in a turn -/
structure W27 (CB P : Addr) (H0 : Hp) (b : Addr) (s : Str) (D p l : Addr) (ys : List V) (us vs : List Run) (k : Nat) (H : Hp) : Prop where
  n : LamX.ExtN H0 H
  ct : LamX.TabS H P lamQ
  B : Bag H b k
  hD : H D = some (.lst ys)
  rD : RunsAt H ys us
  hB : BookAt CB H p l (vs.map (writR s)) s
theorem W27.xn {CB P : Addr} {H0 : Hp} {b : Addr} {s : Str} {D p l : Addr} {ys : List V} {us vs : List Run} {k : Nat} {H H' : Hp} (w : W27 CB P H0 b s D p l ys us vs k H) (n : LamX.ExtN H H') (t : LamX.TabS H' P lamQ) : W27 CB P H0 b s D p l ys us vs k H' :=
  ⟨fun c o h z => n c o (w.n c o h z) z, t, xn_bag n w.B, xn_lst n w.hD, xn_runs n w.rD, bookXn w.hB n⟩
theorem W27.but {CB P : Addr} {H0 : Hp} {b : Addr} {s : Str} {D p l : Addr} {ys : List V} {us vs : List Run} {k k2 : Nat} {H H' : Hp} (w : W27 CB P H0 b s D p l ys us vs k H) (h : But b H H') (B2 : Bag H' b k2) (nq : ∀ o, H0 b = some o → ∃ ps, o = .tbl ps) (d : D ≠ b ∧ l ≠ b) : W27 CB P H0 b s D p l ys us vs k2 H' := by
  obtain ⟨_, hbl⟩ := w.B.lst
  exact ⟨xn_mut w.n h nq, tab_but w.ct h ⟨_, hbl⟩, B2, h _ _ d.1 w.hD, w.rD.tp (w.B.tp h), w.hB.but h hbl d.2⟩
end Vf
local macro_rules | `(tactic| walk_at "cls") => `(tactic| first | exact T.cl_Book)
local macro_rules | `(tactic| walk_at "nattr") => `(tactic| first | exact T.n_Book_ends | exact T.n_Book__rows)
local macro_rules | `(tactic| walk_at "cread") => `(tactic| first | exact T.r_Ends | exact T.r_Book)
local macro_rules | `(tactic| walk_at "cval") => `(tactic| first | exact T.v_Ends_LAST_DAY | exact T.v_Ends_NEXT_DAY)
local macro_rules | `(tactic| walk_at "st2") => `(tactic| first 
  | ((with_reducible refine' r_sortL ?_)) 
  | ((with_reducible refine' use_bears ?h ?_); (case h => walk_at "lk")) 
  | ((with_reducible refine' use_LsameV ?h ?h2 ?_); (case h => first | assumption | exact .int _ | exact .str _ (by assumption)); (case h2 => first | assumption | exact .int _ | exact .str _ (by assumption))) 
  | ((with_reducible refine' use_Lsame ?h ?h2 ?_); (case h => first | assumption | exact .non | exact .w (by assumption) | exact .w (.int _) | exact .w (.str _)); (case h2 => first | assumption | exact .non | exact .w (by assumption) | exact .w (.int _) | exact .w (.str _))) 
  | ((with_reducible refine' use_LisNum ?h ?_); (case h => first | constructor | assumption)) | fail)
local macro_rules | `(tactic| walk_at "xfc") => `(tactic| first | exact T.x_EmptyRow.xf | exact T.x_Clash.xf | exact T.x_EmptyStretch.xf)
local macro_rules | `(tactic| walk_at "nat") => `(tactic| first | exact T.n_EmptyRow_first | exact T.n_EmptyRow_end | exact T.n_Clash_earlier | exact T.n_Clash_later | exact T.n_EmptyStretch_first | exact T.n_EmptyStretch_last)
namespace Vf
open PySem PySem.Spec PyProof.Rows L2
open LamX (TabB TabS ExtN)
section
variable {P : Program} {w : World} {K : PySem.W.Frag} {mg : Str → Option Value} {base : Heap}
theorem ok_Lparts (T : Tx w K mg) : FnOk P w K mg base CX0 1 T.a_Lparts T.fd_Lparts ["script", "most"] (spLparts K) := by
  refine T.F_Lparts.ok sc_Lparts (fun vs H Q E h => ?_) (fun cdv A outer s H vs Q E hr h => ?_)
  · obtain ⟨a, ns, m, rfl, _⟩ := h
    rfl
  · obtain ⟨a, xs, m, rfl, hs, kk⟩ := h
    refine ⟨_, (pss_one (ps_ret (pe_callB (c_max2 rfl) (by rfl) T.n_max (by decide +kernel) (pa_cons pe_int (pa_cons (pe_callB (c_min2 rfl) (by rfl) T.n_min (by decide +kernel) (pa_cons (pe_callB c_len (by rfl) T.n_len (by decide +kernel) (pa_cons (pv 0) pa_nil)) (pa_cons (pv 1) pa_nil))) pa_nil))))), ?_⟩; (try simp only [cxOf])
    walk_at "st"
    refine r_lenL hs ?_
    walk_at "st"
    refine kk _ ?_ ?_ <;> (split <;> split <;> omega)
theorem ok_Lbag (T : Tx w K mg) : FnOk P w K mg base CX0 1 T.a_Lbag T.fd_Lbag ["script", "at"] (spLbag K) := by
  refine T.F_Lbag.ok sc_Lbag (fun vs H Q E h => ?_) (fun cdv A outer s H vs Q E hr h => ?_)
  · obtain ⟨a, ns, i, rfl, _⟩ := h
    rfl
  · obtain ⟨a, ns, i, rfl, hs, h0, h1, kk⟩ := h
    refine ⟨_, (pss_cons (ps_set (i := 2) sc_Lbag.nd rfl (by first | exact Or.inl rfl | exact Or.inr rfl) (pe_ifExp (pt_cmpR op_lt (pv 1) (pe_callB c_len (by rfl) T.n_len (by decide +kernel) (pa_cons (pv 0) pa_nil)) (nomark _)) (pe_ix ix_seq (pv 0) (pv 1) (fun _ _ => rfl)) pe_int)) (pss_cons (ps_set (i := 3) sc_Lbag.nd rfl (by first | exact Or.inl rfl | exact Or.inr rfl) (pe_ifExp (pt_cmpR op_ge (pe_callB c_abs (by rfl) T.n_abs (by decide +kernel) (pa_cons (pv 2) pa_nil)) (pe_op op_pow pe_int pe_int) (nomark _)) (pe_callB c_abs (by rfl) T.n_abs (by decide +kernel) (pa_cons (pv 2) pa_nil)) pe_int)) (pss_one (ps_ret (pe_lst (pa_cons (pv 3) (pa_cons (pe_op op_addX (pe_op op_addX (pe_op op_mulW (pe_op op_mod (pe_callTy c_int1 (by rfl) T.n_int (by decide +kernel) (pa_cons (pv 2) pa_nil)) pe_int) pe_int) (pe_op op_mulW pe_int (pv 1))) pe_int) (pa_cons pe_int pa_nil)))))))), ?_⟩; (try simp only [cxOf])
    walk_at "st"
    refine r_lenL hs ?_
    walk_at "st"
    have key : ∀ z : Int, ∃ d : Int, 0 ≤ d ∧ (if (if z < 0 then -z else z) ≥ 10 ^ 18 then (if z < 0 then -z else z) else 0) = d := fun z => ⟨_, by split <;> (try split) <;> omega, rfl⟩
    refine if_d (fun hi => ?_) (fun hi => ?_)
    · obtain ⟨j, rfl⟩ : ∃ j : Nat, i = j := ⟨i.toNat, by omega⟩
      have hj : j < ns.length := by simp only [List.length_map] at hi; omega
      walk_at "st"
      refine r_ixL hs (at_of rfl (v := V.int ns[j]) (by simp [hj])) ?_
      walk_at "st"
      have b := Lbag_fin (z := ns[j]) h0 h1
      refine if_d (fun hd => ?_) (fun hd => ?_)
      · walk_at "st"
        have e1 := Int.emod_nonneg ns[j] (b := 2305843009213693951) (by decide)
        have e2 := Int.emod_lt_of_pos ns[j] (b := 2305843009213693951) (by decide)
        walk_at "st"
        exact kk _ _ hmN hmE ⟨_, _, _, hmA, by split <;> omega, b.1, b.2, by omega, by omega⟩
      · walk_at "st"
        have e1 := Int.emod_nonneg ns[j] (b := 2305843009213693951) (by decide)
        have e2 := Int.emod_lt_of_pos ns[j] (b := 2305843009213693951) (by decide)
        walk_at "st"
        exact kk _ _ hmN hmE ⟨_, _, _, hmA, by omega, b.1, b.2, by omega, by omega⟩
    · walk_at "st"
      have b := Lbag_fin (z := 0) h0 h1
      exact kk _ _ hmN hmE ⟨_, _, _, hmA, by (first | omega | (split <;> omega) | simp), b.1, b.2, by omega, by omega⟩
theorem ok_Ltake (T : Tx w K mg) : FnOk P w K mg base CX0 1 T.a_Ltake T.fd_Ltake ["bag", "many"] (spLtake) := by
  refine T.F_Ltake.ok sc_Ltake (fun vs H Q E h => ?_) (fun cdv A outer s H vs Q E hr h => ?_)
  · obtain ⟨b, k, m, rfl, _⟩ := h
    rfl
  · obtain ⟨b, k, m, rfl, hb, hk, h0, h1, kk⟩ := h
    obtain ⟨a, n, c, hb, a0, n0, n1, c0, c1⟩ := hb
    refine ⟨_, (pss_cons (ps_if (pt_cmpR op_gt (pe_ix ix_seq (pv 0) pe_int (fun _ _ => rfl)) pe_int (nomark _)) (pss_cons (ps_set (i := 2) sc_Ltake.nd rfl (by first | exact Or.inl rfl | exact Or.inr rfl) (pe_op op_mod (pe_callTy c_int1 (by rfl) T.n_int (by decide +kernel) (pa_cons (pe_ix ix_seq (pv 0) pe_int (fun _ _ => rfl)) pa_nil)) (pv 1))) (pss_cons (ps_asg (pe_op op_fdivW (pe_ix ix_seq (pv 0) pe_int (fun _ _ => rfl)) (pv 1)) (pg_sub (pv 0) pe_int set_list)) (pss_one (ps_ret (pv 2))))) pss_nil) (pss_cons (ps_asg (pe_op op_addX (pe_ix ix_seq (pv 0) pe_int (fun _ _ => rfl)) pe_int) (pg_sub (pv 0) pe_int set_list)) (pss_cons (ps_set (i := 3) sc_Ltake.nd rfl (by first | exact Or.inl rfl | exact Or.inr rfl) (pe_op op_mod (pe_callTy c_int1 (by rfl) T.n_int (by decide +kernel) (pa_cons (pe_op op_pow (pe_op op_addX (pe_ix ix_seq (pv 0) pe_int (fun _ _ => rfl)) (pe_op op_mulW pe_int (pe_ix ix_seq (pv 0) pe_int (fun _ _ => rfl)))) pe_int) pa_nil)) pe_int)) (pss_cons (ps_set (i := 3) sc_Ltake.nd rfl (by first | exact Or.inl rfl | exact Or.inr rfl) (pe_op op_mod (pe_callTy c_int1 (by rfl) T.n_int (by decide +kernel) (pa_cons (pe_op op_pow (pe_op op_addX (pv 3) (pe_op op_mulW pe_int (pe_ix ix_seq (pv 0) pe_int (fun _ _ => rfl)))) pe_int) pa_nil)) pe_int)) (pss_one (ps_ret (pe_op op_mod (pe_callTy c_int1 (by rfl) T.n_int (by decide +kernel) (pa_cons (pe_op op_fdivW (pv 3) pe_int) pa_nil)) (pv 1)))))))), ?_⟩; (try simp only [cxOf])
    walk_at "st"
    refine if_d (fun ha => ?_) (fun ha => ?_)
    · walk_at "st"
      exact kk _ _ (Int.emod_nonneg _ (by omega)) (Int.emod_lt_of_pos _ h0) hmB ⟨_, n, c, hmA, Int.ediv_nonneg a0 (by omega), n0, n1, c0, by omega⟩
    · walk_at "st"
      exact kk _ _ (Int.emod_nonneg _ (by omega)) (Int.emod_lt_of_pos _ h0) hmB ⟨_, n, c + 1, hmA, a0, n0, n1, by omega, by omega⟩
theorem ok_Lof (T : Tx w K mg) : FnOk P w K mg base CX0 2 T.a_Lof T.fd_Lof ["bag", "some"] (spLof) := by
  refine T.F_Lof.ok sc_Lof (fun vs H Q E h => ?_) (fun cdv A outer s H vs Q E hr h => ?_)
  · obtain ⟨b, k, x, vs', rfl, _⟩ := h
    rfl
  · obtain ⟨b, k, x, xs, rfl, hb, hk, hx, hne, hl, kk⟩ := h
    have hlen : 0 < xs.length := List.length_pos_iff.mpr hne
    refine ⟨_, (pss_one (ps_ret (pe_ix ix_seq (pv 1) (pe_call (ok_Ltake T) (hr.mono (by decide)) rfl T.g_Ltake T.F_Ltake.kp T.b_Ltake .nil pass0 (pa_cons (pv 0) (pa_cons (pe_callB c_len (by rfl) T.n_len (by decide +kernel) (pa_cons (pv 1) pa_nil)) pa_nil))) (fun _ _ => rfl)))), ?_⟩; (try simp only [cxOf])
    walk_at "st"
    cases hx with
    | @lst p _ hp hpb =>
      walk_at "st"
      refine ⟨b, k, _, rfl, hb, hk, by omega, by omega, fun r H' r0 r1 e B => ?_⟩
      obtain ⟨j, rfl⟩ : ∃ j : Nat, r = j := ⟨r.toNat, by omega⟩
      have hj : j < xs.length := by omega
      exact r_ixL (SqL.of (e _ _ hpb hp)) (at_of rfl (v := xs[j]) (by simp [hj])) (kk _ _ (List.getElem_mem hj) e B)
    | @tup p _ hp =>
      walk_at "st"
      refine ⟨b, k, _, rfl, hb, hk, by omega, by omega, fun r H' r0 r1 e B => ?_⟩
      obtain ⟨j, rfl⟩ : ∃ j : Nat, r = j := ⟨r.toNat, by omega⟩
      have hj : j < xs.length := by omega
      exact r_ixT (SqT.of (hb.tp e _ _ hp)) (at_of rfl (v := xs[j]) (by simp [hj])) (kk _ _ (List.getElem_mem hj) e B)
    | @str s cs hs hz =>
      refine r_lenS hz ?_
      walk_at "st"
      have hc : s.length = cs.length := by rw [← hs]; simp [Str.length]
      simp only [List.length_map] at hlen hl
      refine ⟨b, k, _, rfl, hb, hk, by omega, by omega, fun r H' r0 r1 e B => ?_⟩
      obtain ⟨j, rfl⟩ : ∃ j : Nat, r = j := ⟨r.toNat, by omega⟩
      have hj : j < cs.length := by omega
      exact r_ixS hz (c := cs[j]) (by rw [hs]; exact atI_nat (by simp [hj])) (kk _ _ (List.mem_map.mpr ⟨cs[j], List.getElem_mem hj, rfl⟩) e B)
theorem ok_Lends (T : Tx w K mg) : FnOk P w K mg base CX0 3 T.a_Lends T.fd_Lends ["bag"] (spLends) := by
  refine T.F_Lends.ok sc_Lends (fun vs H Q E h => ?_) (fun cdv A outer s H vs Q E hr h => ?_)
  · obtain ⟨b, k, rfl, _⟩ := h
    rfl
  · obtain ⟨b, k, rfl, hb, hk, kk⟩ := h
    refine ⟨_, (pss_one (ps_ret (pe_call (ok_Lof T) (hr.mono (by decide)) rfl T.g_Lof T.F_Lof.kp T.b_Lof .nil pass0 (pa_cons (pv 0) (pa_cons (pe_lst (pa_cons pe_str (pa_cons pe_str pa_nil))) pa_nil))))), ?_⟩; (try simp only [cxOf])
    walk_at "st"
    have hbp : b ≠ pn := by
      obtain ⟨_, hl⟩ := hb.lst
      exact ne_of_none hl hmN
    refine ⟨b, k, _, _, rfl, hb.ex hmE, by omega, .lst hmA hbp.symm, by simp, by simp, fun v H' hv e B => ?_⟩
    simp only [List.mem_cons, List.not_mem_nil, or_false] at hv
    rcases hv with rfl | rfl
    · exact kk _ _ (.inl rfl) ((hmE.but (l := b)).trans e) B
    · exact kk _ _ (.inr rfl) ((hmE.but (l := b)).trans e) B
theorem ok_Lwide (T : Tx w K mg) : FnOk P w K mg base CX0 2 T.a_Lwide T.fd_Lwide ["bag", "many"] (spLwide) := by
  refine T.F_Lwide.ok sc_Lwide (fun vs H Q E h => ?_) (fun cdv A outer s H vs Q E hr h => ?_)
  · obtain ⟨b, k, m, rfl, _⟩ := h
    rfl
  · obtain ⟨b, k, m, rfl, hb, hk, h0, h1, kk⟩ := h
    have hb' := hb
    obtain ⟨a, n, c, hl, _⟩ := hb'
    refine ⟨_, (pss_cons (ps_if (pt_cmpR op_gt (pe_ix ix_seq (pv 0) pe_int (fun _ _ => rfl)) pe_int (nomark _)) (pss_one (ps_ret (pe_call (ok_Ltake T) (hr.mono (by decide)) rfl T.g_Ltake T.F_Ltake.kp T.b_Ltake .nil pass0 (pa_cons (pv 0) (pa_cons (pv 1) pa_nil))))) pss_nil) (pss_cons (ps_set (i := 2) sc_Lwide.nd rfl (by first | exact Or.inl rfl | exact Or.inr rfl) pe_int) (pss_cons (ps_for PassesOwn.never rfl (pi_range1 (by rfl) T.n_range (pa_cons pe_int pa_nil)) (pg_name (i := 3) sc_Lwide.nd rfl (by first | exact Or.inl rfl | exact Or.inr rfl)) (pss_one (ps_set (i := 2) sc_Lwide.nd rfl (by first | exact Or.inl rfl | exact Or.inr rfl) (pe_op op_addX (pe_op op_mulW (pv 2) pe_int) (pe_call (ok_Ltake T) (hr.mono (by decide)) rfl T.g_Ltake T.F_Ltake.kp T.b_Ltake .nil pass0 (pa_cons (pv 0) (pa_cons pe_int pa_nil))))))) (pss_one (ps_ret (pe_op op_mod (pe_callTy c_int1 (by rfl) T.n_int (by decide +kernel) (pa_cons (pv 2) pa_nil)) (pv 1))))))), ?_⟩; (try simp only [cxOf])
    walk_at "st"
    refine if_d (fun ha => ?_) (fun ha => ?_)
    · walk_at "st"
      exact ⟨b, k, m, rfl, hb, by omega, h0, h1, fun r H' r0 r1 B B' => kk r H' r0 r1 B (B'.mono (by omega))⟩
    · walk_at "st"
      refine fo_range (fun i σ' H' => ∃ (z : Int) (t : Option V), σ' = [some (.ref b), some (.int m), some (.int z), t] ∧ 0 ≤ z ∧ z < wideB i ∧ But b H H' ∧ Bag H' b (k + i)) ⟨0, none, rfl, by decide, by decide, But.refl _ _, hb⟩ ?_ ?_
      · rintro i σ' H' hi ⟨z, t, rfl, z0, z1, e, B⟩
        have zb := wideB_lt i (by omega)
        walk_at "st"
        refine ⟨b, k + i, _, rfl, B, by omega, by decide, by decide, fun r H2 r0 r1 e2 B2 => ?_⟩
        walk_at "st"
        have st := wideB_step z0 z1 r0 r1
        exact ⟨_, _, rfl, st.1, st.2, e.trans e2, B2⟩
      · rintro σ' H' ⟨z, t, rfl, z0, z1, e, B⟩
        walk_at "st"
        exact kk _ _ (Int.emod_nonneg _ (by omega)) (Int.emod_lt_of_pos _ h0) e B
theorem ok_Lday (T : Tx w K mg) : FnOk P w K mg base CX0 3 T.a_Lday T.fd_Lday ["bag"] (spLday) := by
  refine T.F_Lday.ok sc_Lday (fun vs H Q E h => ?_) (fun cdv A outer s H vs Q E hr h => ?_)
  · obtain ⟨b, k, rfl, _⟩ := h
    rfl
  · obtain ⟨b, k, rfl, hb, hk, kk⟩ := h
    refine ⟨_, (pss_cons (ps_set (i := 1) sc_Lday.nd rfl (by first | exact Or.inl rfl | exact Or.inr rfl) (pe_call (ok_Lof T) (hr.mono (by decide)) rfl T.g_Lof T.F_Lof.kp T.b_Lof .nil pass0 (pa_cons (pv 0) (pa_cons (pe_lst (pa_cons pe_int (pa_cons pe_int (pa_cons pe_int (pa_cons (pe_op op_pow pe_int pe_int) (pa_cons (pe_op op_pow pe_int pe_int) (pa_cons (pe_op op_pow pe_int pe_int) pa_nil))))))) pa_nil)))) (pss_one (ps_ret (pe_op op_sub (pe_call (ok_Lwide T) (hr.mono (by decide)) rfl T.g_Lwide T.F_Lwide.kp T.b_Lwide .nil pass0 (pa_cons (pv 0) (pa_cons (pe_op op_addX (pe_op op_mulW pe_int (pv 1)) pe_int) pa_nil))) (pv 1))))), ?_⟩; (try simp only [cxOf])
    walk_at "st"
    have hbp : b ≠ pn := by
      obtain ⟨_, hl⟩ := hb.lst
      exact ne_of_none hl hmN
    refine ⟨b, k, _, _, rfl, hb.ex hmE, by omega, .lst hmA hbp.symm, by simp, by simp, fun v H' hv e B => ?_⟩
    obtain ⟨z, rfl, z0, z1⟩ : ∃ z : Int, v = .int z ∧ 0 ≤ z ∧ z ≤ 10 ^ 59 := by
      simp only [List.mem_cons, List.not_mem_nil, or_false] at hv
      rcases hv with rfl | rfl | rfl | rfl | rfl | rfl <;> exact ⟨_, rfl, by decide, by decide⟩
    walk_at "st"
    refine ⟨b, k + 1, _, rfl, B, by omega, by omega, by omega, fun r H2 r0 r1 e2 B2 => ?_⟩
    walk_at "st"
    exact kk _ _ (by omega) (by omega) ((hmE.but (l := b)).trans (e.trans e2)) B2
theorem ok_Lvalue (T : Tx w K mg) : FnOk P w K mg base CX0 3 T.a_Lvalue T.fd_Lvalue ["bag"] (spLvalue) := by
  refine T.F_Lvalue.ok sc_Lvalue (fun vs H Q E h => ?_) (fun cdv A outer s H vs Q E hr h => ?_)
  · obtain ⟨b, k, rfl, _⟩ := h
    rfl
  · obtain ⟨b, k, rfl, hb, hk, kk⟩ := h
    refine ⟨_, (pss_cons (ps_set (i := 1) sc_Lvalue.nd rfl (by first | exact Or.inl rfl | exact Or.inr rfl) (pe_call (ok_Ltake T) (hr.mono (by decide)) rfl T.g_Ltake T.F_Ltake.kp T.b_Ltake .nil pass0 (pa_cons (pv 0) (pa_cons pe_int pa_nil)))) (pss_cons (ps_if (pt_cmpR op_eq (pv 1) pe_int (nomark _)) (pss_one (ps_ret (pe_op op_sub (pe_call (ok_Ltake T) (hr.mono (by decide)) rfl T.g_Ltake T.F_Ltake.kp T.b_Ltake .nil pass0 (pa_cons (pv 0) (pa_cons pe_int pa_nil))) pe_int))) pss_nil) (pss_cons (ps_if (pt_cmpR op_eq (pv 1) pe_int (nomark _)) (pss_one (ps_ret (pe_op op_sub (pe_call (ok_Lwide T) (hr.mono (by decide)) rfl T.g_Lwide T.F_Lwide.kp T.b_Lwide .nil pass0 (pa_cons (pv 0) (pa_cons (pe_op op_mulW pe_int (pe_op op_pow pe_int pe_int)) pa_nil))) (pe_op op_pow pe_int pe_int)))) pss_nil) (pss_cons (ps_set (i := 2) sc_Lvalue.nd rfl (by first | exact Or.inl rfl | exact Or.inr rfl) pe_str) (pss_cons (ps_for PassesOwn.never rfl (pi_range1 (by rfl) T.n_range (pa_cons (pe_call (ok_Lof T) (hr.mono (by decide)) rfl T.g_Lof T.F_Lof.kp T.b_Lof .nil pass0 (pa_cons (pv 0) (pa_cons (pe_lst (pa_cons pe_int (pa_cons pe_int (pa_cons pe_int (pa_cons pe_int pa_nil))))) pa_nil))) pa_nil)) (pg_name (i := 3) sc_Lvalue.nd rfl (by first | exact Or.inl rfl | exact Or.inr rfl)) (pss_one (ps_set (i := 2) sc_Lvalue.nd rfl (by first | exact Or.inl rfl | exact Or.inr rfl) (pe_op op_addX (pv 2) (pe_call (ok_Lof T) (hr.mono (by decide)) rfl T.g_Lof T.F_Lof.kp T.b_Lof .nil pass0 (pa_cons (pv 0) (pa_cons pe_str pa_nil))))))) (pss_one (ps_ret (pv 2)))))))), ?_⟩; (try simp only [cxOf])
    walk_at "st"
    refine ⟨b, k, 4, rfl, hb, by omega, by decide, by decide, fun r H1 r0 r1 e1 B1 => ?_⟩
    walk_at "st"
    refine if_d (fun h => ?_) (fun h => ?_)
    · walk_at "st"
      refine ⟨b, k + 1, 5, rfl, B1, by omega, by decide, by decide, fun r2 H2 r20 r21 e2 B2 => ?_⟩
      walk_at "st"
      exact kk _ _ (.int (by omega) (by omega)) (e1.trans e2) (B2.mono (by omega))
    · walk_at "st"
      refine if_d (fun h2 => ?_) (fun h2 => ?_)
      · walk_at "st"
        refine ⟨b, k + 1, _, rfl, B1, by omega, by decide, by decide, fun r2 H2 r20 r21 e2 B2 => ?_⟩
        walk_at "st"
        exact kk _ _ (.int (by omega) (by omega)) (e1.trans e2) (B2.mono (by omega))
      · walk_at "st"
        have hbp : b ≠ pn := by
          obtain ⟨_, hl⟩ := B1.lst
          exact ne_of_none hl hmN
        refine ⟨b, k + 1, _, _, rfl, B1.ex hmE, by omega, .lst hmA hbp.symm, by simp, by simp, fun v H2 hv e2 B2 => ?_⟩
        obtain ⟨n, rfl, hn⟩ : ∃ n : Nat, v = .int n ∧ n ≤ 9 := by
          simp only [List.mem_cons, List.not_mem_nil, or_false] at hv
          rcases hv with rfl | rfl | rfl | rfl
          · exact ⟨0, rfl, by decide⟩
          · exact ⟨1, rfl, by decide⟩
          · exact ⟨2, rfl, by decide⟩
          · exact ⟨9, rfl, by decide⟩
        have eA : But b H H2 := e1.trans ((hmE.but (l := b)).trans e2)
        walk_at "st"
        refine fo_range (fun i σ' H' => ∃ (s : Str) (t : Option V), σ' = [some (.ref b), some (.int r), some (.str s), t] ∧ s.length = i ∧ PyData.strOk s = true ∧ But b H H' ∧ Bag H' b (k + 2 + i)) ⟨_, none, rfl, rfl, by decide +kernel, eA, B2⟩ ?_ ?_
        · rintro i σ' H' hi ⟨s, t, rfl, hs, so, e, B⟩
          walk_at "st"
          refine ⟨b, k + 2 + i, _, _, rfl, B, by omega, .str rfl (by decide), by decide, by decide, fun v H3 hv e3 B3 => ?_⟩
          obtain ⟨c, hc, rfl⟩ := List.mem_map.mp hv
          have hc2 : c < 0x110000 := (show ∀ x ∈ (Str.ofString "0123456789abcxyzABZ '-_=~.!").cps.toList, x < 0x110000 by decide +kernel) c hc
          refine r_addS (szO (by rw [hs]; show i + 1 ≤ _; omega)) ?_
          walk_at "st"
          refine ⟨_, _, rfl, ?_, strOk_app so (by unfold PyData.strOk; simp [hc2]), e.trans e3, B3⟩
          rw [PySem.Str.length_append, hs]; rfl
        · rintro σ' H' ⟨s, t, rfl, hs, so, e, B⟩
          walk_at "st"
          exact kk _ _ (.str (by omega) so) e (B.mono (by omega))
theorem ok_Lrows (T : Tx w K mg) : FnOk P w K mg base CX0 4 T.a_Lrows T.fd_Lrows ["bag", "many", "form"] (spLrows27) := by
  refine T.F_Lrows.ok sc_Lrows (fun vs H Q E h => ?_) (fun cdv A outer s H vs Q E hr h => ?_)
  · obtain ⟨b, k, m, fm, rfl, _⟩ := h
    rfl
  · obtain ⟨b, k, m, fm, rfl, hb, hk, m0, m1, kk⟩ := h
    refine ⟨_, (pss_cons (ps_par (i := 3) (j := 4) rfl sc_Lrows.nd rfl rfl (by decide) rfl rfl (by exact (pa_cons (pe_lst pa_nil) (pa_cons (pe_call (ok_Lday T) (hr.mono (by decide)) rfl T.g_Lday T.F_Lday.kp T.b_Lday .nil pass0 (pa_cons (pv 0) pa_nil)) pa_nil))) (by rfl)) (pss_cons (ps_for PassesOwn.never rfl (pi_range1 (by rfl) T.n_range (pa_cons (pv 1) pa_nil)) (pg_name (i := 5) sc_Lrows.nd rfl (by first | exact Or.inl rfl | exact Or.inr rfl)) (pss_cons (ps_set (i := 6) sc_Lrows.nd rfl (by first | exact Or.inl rfl | exact Or.inr rfl) (pe_op op_addX (pv 4) (pe_call (ok_Lof T) (hr.mono (by decide)) rfl T.g_Lof T.F_Lof.kp T.b_Lof .nil pass0 (pa_cons (pv 0) (pa_cons (pe_lst (pa_cons pe_int (pa_cons pe_int (pa_cons pe_int (pa_cons pe_int (pa_cons pe_int (pa_cons (pe_op op_pow pe_int pe_int) (pa_cons (pe_op op_pow pe_int pe_int) pa_nil)))))))) pa_nil))))) (pss_cons (ps_expr (pe_bm PySem.F.plainAttrs_list PySem.F.slot_list_append PySem.F.type_list_append mt_append (pv 3) (pa_cons (pe_tup (pa_cons (pv 4) (pa_cons (pv 6) (pa_cons (pe_call (ok_Lvalue T) (hr.mono (by decide)) rfl T.g_Lvalue T.F_Lvalue.kp T.b_Lvalue .nil pass0 (pa_cons (pv 0) pa_nil)) pa_nil)))) pa_nil))) (pss_one (ps_set (i := 4) sc_Lrows.nd rfl (by first | exact Or.inl rfl | exact Or.inr rfl) (pe_op op_addX (pv 6) (pe_op op_mulW (pe_call (ok_Lof T) (hr.mono (by decide)) rfl T.g_Lof T.F_Lof.kp T.b_Lof .nil pass0 (pa_cons (pv 0) (pa_cons (pe_lst (pa_cons pe_int (pa_cons pe_int (pa_cons pe_int (pa_cons pe_int (pa_cons pe_int (pa_cons (pe_op op_pow pe_int pe_int) pa_nil))))))) pa_nil))) (pe_callTy c_int1 (by rfl) T.n_int (by decide +kernel) (pa_cons (pe_cmpR op_eq (pv 2) pe_str (nomark _)) pa_nil))))))))) (pss_cons (ps_join (ps_if (PW.pt (pw_and (pt_cmpR (op_neD hr.units) (pv 3) (pe_lst pa_nil) (nomark _)) (pw_and1 (PW.pt (pw_or (pt_cmpR op_eq (pv 2) pe_str (nomark _)) (pw_or1 (pt_cmpR op_eq (pe_call (ok_Ltake T) (hr.mono (by decide)) rfl T.g_Ltake T.F_Ltake.kp T.b_Ltake .nil pass0 (pa_cons (pv 0) (pa_cons pe_int pa_nil))) pe_int (nomark _)))))))) (pss_one (ps_asg (pe_tup (pa_cons (pe_ix ix_seq (pe_ix ix_seq (pv 3) (pe_un un_neg pe_int) (fun _ _ => rfl)) pe_int (fun _ _ => rfl)) (pa_cons pe_non (pa_cons (pe_ix ix_seq (pe_ix ix_seq (pv 3) (pe_un un_neg pe_int) (fun _ _ => rfl)) pe_int (fun _ _ => rfl)) pa_nil)))) (pg_sub (pv 3) (pe_un un_neg pe_int) set_list))) pss_nil)) (pss_one (ps_ret (pv 3)))))), ?_⟩; (try simp only [cxOf])
    walk_at "st"
    have nLb := hb.new hmN
    have NL : H pn = none := hmN
    obtain ⟨L, rfl⟩ : ∃ L, L = pn := ⟨pn, rfl⟩
    refine ⟨b, k, rfl, hb.ex hmE, by omega, fun d H1 d0 d1 b1 B1 => ?_⟩
    have hL1 := b1 _ _ nLb hmA
    have e1 := hmE.but.trans b1
    clear hmE hmA hmN b1
    walk_at "st"
    refine fo_range (fun i σ' H' => ∃ (t5 t6 : Option V) (at' : Int) (xs : List V) (rs : List Run), σ' = [some (.ref b), some (.int m), some (.str fm), some (.ref L), some (.int at'), t5, t6] ∧ But b H H' ∧ Bag H' b (k + 6 + 25 * i) ∧ H' L = some (.lst xs) ∧ RunsAt H' xs rs ∧ AscS rs ∧ (∀ r ∈ rs, DayR (10 ^ 60) r) ∧ rs.length = i ∧ (∀ x ∈ rs, ∃ n, x.2.1 = some n ∧ n ≤ at') ∧ -(10 ^ 59) ≤ at' ∧ at' ≤ 10 ^ 59 + i * 10 ^ 30)
      ⟨_, _, _, [], [], rfl, e1, B1, hL1, .nil, .nil, fun _ h => (by cases h), rfl, fun _ h => (by cases h), d0, by omega⟩ ?_ ?_
    · clear e1 B1 hL1
      rintro i σ' H2 hi ⟨t5, t6, at', xs, rs, rfl, e2, B2, hL2, hR2, as, hw, hl, hat, a0, a1⟩
      walk_at "st"
      have hpb := B2.new hmN
      refine ⟨b, _, _, _, rfl, B2.ex hmE, by omega, .lst hmA hpb, by simp, by simp, fun x H3 hx b3 B3 => ?_⟩
      obtain ⟨z, rfl, z0, z1⟩ : ∃ z : Int, x = .int z ∧ 1 ≤ z ∧ z ≤ 10 ^ 29 := by
        simp only [List.mem_cons, List.not_mem_nil, or_false] at hx
        rcases hx with rfl | rfl | rfl | rfl | rfl | rfl | rfl <;> exact ⟨_, rfl, by decide, by decide⟩
      have hL3 := b3 _ _ nLb (hmE _ _ hL2)
      have hR3 := (hR2.ex hmE).tp ((B2.ex hmE).tp b3)
      have e3 : But b H H3 := e2.trans (hmE.but.trans b3)
      have hxl : xs.length < sizeLine := szL (by rw [hR2.len]; omega)
      clear e2 B2 hL2 hR2 hmE hmA hmN hpb b3 hx
      walk_at "st"
      refine ⟨b, _, rfl, B3, by omega, fun v H4 hv b4 B4 => ?_⟩
      have hL4 := b4 _ _ nLb hL3
      have hR4 := hR3.tp (B3.tp b4)
      have e4 := e3.trans b4
      clear e3 B3 hL3 hR3 b4
      walk_at "st"
      rename_i q5 n5 H5 g5 a5 H6 a6
      have hL5 := g5 _ _ hL4
      have e6 := ((e4.trans g5.but).mut hmB NL).trans hmE.but
      have B6 := ((B4.ex g5).but hmB nLb.symm).ex hmE
      have hR6 := (((hR4.ex g5).tp (hmB.tpL hL5)).app (.one (r := (at', some (at' + z), v)) (hmB.tpL hL5 _ _ a5))).ex hmE
      have hL6 := hmE _ _ a6
      have hpb := (((B4.ex g5).but hmB nLb.symm)).new hmN
      have hl6 := hmA
      obtain ⟨H7, rfl⟩ : ∃ H7, H7 = Hm := ⟨Hm, rfl⟩
      clear e4 B4 hL4 hR4 hmE hmB hmA hmN hL5 a5 a6 g5 n5
      refine ⟨b, _, _, _, rfl, B6, by omega, .lst hl6 hpb, by simp, by simp, fun x H8 hx b8 B8 => ?_⟩
      obtain ⟨y, rfl, y0, y1⟩ : ∃ y : Int, x = .int y ∧ 0 ≤ y ∧ y ≤ 10 ^ 20 := by
        simp only [List.mem_cons, List.not_mem_nil, or_false] at hx
        rcases hx with rfl | rfl | rfl | rfl | rfl | rfl <;> exact ⟨_, rfl, by decide, by decide⟩
      have hL8 := b8 _ _ nLb hL6
      have hR8 := hR6.tp (B6.tp b8)
      have e8 := e6.trans b8
      clear hL6 hR6 B6 b8 hl6 hpb e6 hx
      walk_at "st"
      have yy : ∀ c : Bool, 0 ≤ y * (if c = true then (1 : Int) else 0) := by
        intro c
        cases c
        · simp
        · simp; omega
      have yz : ∀ c : Bool, y * (if c = true then (1 : Int) else 0) ≤ 10 ^ 20 := by
        intro c
        cases c
        · simp
        · simp; omega
      have ib : (i : Int) ≤ 50 := by omega
      refine ⟨_, _, _, _, rs ++ [(at', some (at' + z), v)], rfl, e8, B8.mono (by omega), hL8, hR8, as.snoc (fun n e => by cases e; show at' < at' + z; omega) hat, fun r hr' => ?_, by simp; omega, fun r hr' => ?_, ?_, ?_⟩
      · rcases List.mem_append.mp hr' with h | h
        · exact hw r h
        · rw [List.mem_singleton] at h; subst h; exact ⟨⟨by show -(10 ^ 60) ≤ at'; omega, by show at' ≤ 10 ^ 60; omega⟩, (fun n e => by cases e; exact ⟨by omega, by omega⟩), hv.sml⟩
      · rcases List.mem_append.mp hr' with h | h
        · obtain ⟨n, e, hn⟩ := hat r h
          exact ⟨n, e, Int.le_trans hn (Int.le_trans (by omega : at' ≤ at' + z) (Int.le_add_of_nonneg_right (yy _)))⟩
        · rw [List.mem_singleton] at h; subst h; exact ⟨_, rfl, Int.le_add_of_nonneg_right (yy _)⟩
      · have := yy (decide (fm = "apart"))
        omega
      · have := yz (decide (fm = "apart"))
        rw [Int.natCast_add, Int.add_mul]
        omega
    · clear e1 B1 hL1
      rintro σ' H2 ⟨t5, t6, at', xs, rs, rfl, e2, B2, hL2, hR2, as, hw, hl, hat, a0, a1⟩
      have lx := hR2.len
      walk_at "st"
      refine r_join (fun σ' H' => ∃ (xs : List V) (rs : List Run), σ' = [some (.ref b), some (.int m), some (.str fm), some (.ref L), some (.int at'), t5, t6] ∧ But b H H' ∧ Bag H' b (k + 1500) ∧ H' L = some (.lst xs) ∧ RunsAt H' xs rs ∧ AscS rs ∧ (∀ r ∈ rs, DayR (10 ^ 60) r) ∧ rs.length = m.toNat) (fun R' kR => ?_) ?_
      · walk_at "st"
        refine r_neNil (rs := rs) (hmE _ _ hL2) (hR2.ex hmE) (fun r hr' => .w (hw r hr').2.2.worth) hmA ?_
        walk_at "st"
        have hL3 := hmE _ _ hL2
        have hR3 := hR2.ex hmE
        have e3 : But b H Hm := e2.trans hmE.but
        have B3 := B2.ex hmE
        obtain ⟨H3, rfl⟩ : ∃ H3, H3 = Hm := ⟨Hm, rfl⟩
        clear hL2 hR2 e2 B2 hmE hmA hmN
        refine if_b (fun hne => ?_) (fun hnil => ?_)
        · have hne' : rs ≠ [] := by intro e; subst e; simp at hne
          obtain ⟨rs0, r0, rfl⟩ : ∃ rs0 r0, rs = rs0 ++ [r0] := ⟨_, _, (List.dropLast_concat_getLast hne').symm⟩
          walk_at "st"
          refine if_d (fun hf => ?_) (fun hf => ?_)
          · walk_at "st"
            have hLm := hL3
            obtain ⟨zs, t, rfl, hz, ht⟩ := (RunsAt.snoc hR3)
            obtain ⟨f0, u0, v0⟩ := r0
            have ht : _ = some (HO.tup [.int f0, optI u0, v0]) := ht
            walk_at "st"
            refine r_setL (j := zs.length) (hmE _ _ hLm) (by rw [ixN_last (by simp)]; simp) fun Hn bn hn => ?_
            rw [set_last] at hn
            have hLt := hmE _ _ hLm
            exact kR _ _ ⟨_, rs0 ++ [(f0, none, v0)], rfl, (e3.trans hmE.but).mut bn NL, ((B3.ex hmE).but bn nLb.symm).mono (by omega), hn, ((hz.ex hmE).tp (bn.tpL hLt)).app (.one (bn.tpL hLt _ _ hmA)), as.opened, fun r hr' => by
              rcases List.mem_append.mp hr' with h | h
              · exact hw r (List.mem_append_left _ h)
              · rw [List.mem_singleton] at h; subst h; exact ⟨(hw (f0, u0, v0) (by simp)).1, (fun n e => by cases e), (hw (f0, u0, v0) (by simp)).2.2⟩, by simp at hl ⊢; omega⟩
          · walk_at "st"
            refine ⟨b, _, 2, rfl, B3, by omega, by decide, by decide, fun q H4 q0 q1 b4 B4 => ?_⟩
            have hL4 := b4 _ _ nLb hL3
            have hR4 := hR3.tp (B3.tp b4)
            have e4 := e3.trans b4
            clear hL3 hR3 e3 B3 b4
            walk_at "st"
            refine if_d (fun hq => ?_) (fun hq => ?_)
            · walk_at "st"
              have hLm := hL4
              obtain ⟨zs, t, rfl, hz, ht⟩ := (RunsAt.snoc hR4)
              obtain ⟨f0, u0, v0⟩ := r0
              have ht : _ = some (HO.tup [.int f0, optI u0, v0]) := ht
              walk_at "st"
              refine r_setL (j := zs.length) (hmE _ _ hLm) (by rw [ixN_last (by simp)]; simp) fun Hn bn hn => ?_
              rw [set_last] at hn
              have hLt := hmE _ _ hLm
              exact kR _ _ ⟨_, rs0 ++ [(f0, none, v0)], rfl, (e4.trans hmE.but).mut bn NL, ((B4.ex hmE).but bn nLb.symm).mono (by omega), hn, ((hz.ex hmE).tp (bn.tpL hLt)).app (.one (bn.tpL hLt _ _ hmA)), as.opened, fun r hr' => by
                rcases List.mem_append.mp hr' with h | h
                · exact hw r (List.mem_append_left _ h)
                · rw [List.mem_singleton] at h; subst h; exact ⟨(hw (f0, u0, v0) (by simp)).1, (fun n e => by cases e), (hw (f0, u0, v0) (by simp)).2.2⟩, by simp at hl ⊢; omega⟩
            · walk_at "st"
              exact kR _ _ ⟨_, _, rfl, e4, B4.mono (by omega), hL4, hR4, as, hw, hl⟩
        · walk_at "st"
          exact kR _ _ ⟨_, _, rfl, e3, B3.mono (by omega), hL3, hR3, as, hw, hl⟩
      · rintro σ' H3 ⟨xs, rs, rfl, e3, B3, hL3, hR3, as, hw, hl⟩
        walk_at "st"
        exact kk _ _ _ _ e3 NL nLb B3 hL3 hR3 as hw hl
theorem ok_Lshifted (T : Tx w K mg) : FnOk P w K mg base CX0 3 T.a_Lshifted T.fd_Lshifted ["bag", "rows"] (spLshifted) := by
  refine T.F_Lshifted.ok sc_Lshifted (fun vs H Q E h => ?_) (fun cdv A outer s H vs Q E hr h => ?_)
  · obtain ⟨b, k, a, xs, ts, rfl, _⟩ := h
    rfl
  · obtain ⟨b, k, a, xs, ts, rfl, hb, hk, ha, hab, hR, asc, hd, hz, kk⟩ := h
    refine ⟨_, (pss_cons (ps_if (PW.pt (pw_or (pt_cmpR (op_eqD hr.units) (pv 1) (pe_lst pa_nil) (nomark _)) (pw_or1 (pt_cmpR op_gt (pe_call (ok_Ltake T) (hr.mono (by decide)) rfl T.g_Ltake T.F_Ltake.kp T.b_Ltake .nil pass0 (pa_cons (pv 0) (pa_cons pe_int pa_nil))) pe_int (nomark _))))) (pss_one (ps_ret (pv 1))) pss_nil) (pss_cons (ps_set (i := 2) sc_Lshifted.nd rfl (by first | exact Or.inl rfl | exact Or.inr rfl) (pe_op op_sub (pe_op op_sub (pe_op op_addX (pe_call (ok_Lof T) (hr.mono (by decide)) rfl T.g_Lof T.F_Lof.kp T.b_Lof .nil pass0 (pa_cons (pv 0) (pa_cons (pe_lst (pa_cons (pe_op op_pow pe_int pe_int) (pa_cons (pe_op op_pow pe_int pe_int) (pa_cons (pe_un un_neg (pe_op op_pow pe_int pe_int)) (pa_cons (pe_un un_neg (pe_op op_pow pe_int pe_int)) pa_nil))))) pa_nil))) (pe_call (ok_Ltake T) (hr.mono (by decide)) rfl T.g_Ltake T.F_Ltake.kp T.b_Ltake .nil pass0 (pa_cons (pv 0) (pa_cons pe_int pa_nil)))) pe_int) (pe_ix ix_seq (pe_ix ix_seq (pv 1) pe_int (fun _ _ => rfl)) pe_int (fun _ _ => rfl)))) (pss_one (ps_ret (pe_lc (own := [("start", 3), ("stop", 4), ("value", 5)]) rfl sc_Lshifted.nd (pi_list (pv 1)) (blkOk_by (N := ["bag", "rows", "many", "start", "stop", "value"]) (sc := defScope s_Lshifted) (by decide +kernel)) (fun _ _ _ _ _ =>  by exact (pg_tupK (K0 := K) (n := 3) rfl (pgs_cons (pg_name (i := 3) sc_Lshifted.nd rfl (by first | exact Or.inl rfl | exact Or.inr rfl)) (pgs_cons (pg_name (i := 4) sc_Lshifted.nd rfl (by first | exact Or.inl rfl | exact Or.inr rfl)) (pgs_cons (pg_name (i := 5) sc_Lshifted.nd rfl (by first | exact Or.inl rfl | exact Or.inr rfl)) pgs_nil))))) (fun _ _ _ _ _ =>  by exact pts_nil) (fun _ _ _ _ _ =>  by exact (pe_tup (pa_cons (pe_op op_addX (pv 3) (pv 2)) (pa_cons (pe_ifExp (pt_cmp (pc_isN (pv 4))) pe_non (pe_op op_addX (pv 4) (pv 2))) (pa_cons (pv 5) pa_nil)))))))))), ?_⟩; (try simp only [cxOf])
    have hxl := hR.len
    walk_at "st"
    refine r_eqRuns (hmE _ _ ha) (hR.ex hmE) hmA .nil (fun r h => (hd r h).2.2.worth) (fun _ h => by cases h) ?_
    have hb1 := hb.ex hmE
    have ha1 := hmE _ _ ha
    have hR1 := hR.ex hmE
    have e1 := hmE
    obtain ⟨H1, rfl⟩ : ∃ H1, H1 = Hm := ⟨Hm, rfl⟩
    clear hmE hmA hmN
    have same : ∀ (H2 : Hp) k2, But b H1 H2 → Bag H2 b k2 → k2 ≤ k + 10 → Q (.ref a) H2 := fun H2 k2 b2 B2 l => kk a H2 xs ts (e1.but.trans b2) (B2.mono l) hab (b2 _ _ hab ha1) (hR1.tp (hb1.tp b2)) asc (fun r h => (hd r h).mono (by omega)) rfl
    walk_at "st"
    refine if_d (fun hnil => ?_) (fun hne => ?_)
    · walk_at "st"
      exact same _ _ (But.refl _ _) hb1 (by omega)
    · walk_at "st"
      refine ⟨b, _, 3, rfl, hb1, by omega, by decide, by decide, fun q H2 q0 q1 b2 B2 => ?_⟩
      walk_at "st"
      refine if_d (fun hq => ?_) (fun hq => ?_)
      · walk_at "st"
        exact same _ _ b2 B2 (by omega)
      · walk_at "st"
        have hpb := B2.new hmN
        refine ⟨b, _, _, _, rfl, B2.ex hmE, by omega, .lst hmA hpb, by simp, by simp, fun x H3 hx b3 B3 => ?_⟩
        obtain ⟨z, rfl, z0, z1⟩ : ∃ z : Int, x = .int z ∧ -(10 ^ 12) ≤ z ∧ z ≤ 10 ^ 12 := by
          simp only [List.mem_cons, List.not_mem_nil, or_false] at hx
          rcases hx with rfl | rfl | rfl | rfl <;> exact ⟨_, rfl, by decide, by decide⟩
        have c3 := b2.trans (hmE.but.trans b3)
        clear b2 B2 hmE hmA hmN hpb b3 hx
        walk_at "st"
        refine ⟨b, _, 9, rfl, B3, by omega, by decide, by decide, fun q2 H4 q20 q21 b4 B4 => ?_⟩
        have c4 := c3.trans b4
        clear c3 B3 b4
        have ha4 := c4 _ _ hab ha1
        have hR4 := hR1.tp (hb1.tp c4)
        have hpos : 0 < ts.length := List.length_pos_iff.mpr hne
        have hr0 : ts[0]? = some ts[0] := List.getElem?_eq_getElem hpos
        obtain ⟨u0, hu0, hg0⟩ := hR4.at hr0
        have d0 := hd _ (List.getElem_mem hpos)
        generalize ts[0] = r0 at *
        obtain ⟨f0, st0, w0⟩ := r0
        have hg0 : H4 u0 = some (.tup [.int f0, optI st0, w0]) := hg0
        have d0 : -(10 ^ 60) ≤ f0 ∧ f0 ≤ 10 ^ 60 := d0.1
        walk_at "st"
        refine r_ixL (SqL.of ha4) (at_of (j := 0) rfl hu0) ?_
        walk_at "st"
        obtain ⟨m, hm⟩ : ∃ m : Int, m = z + q2 - 4 - f0 := ⟨_, rfl⟩
        rw [← hm]
        have mb : -(3 * 10 ^ 60) ≤ m ∧ m ≤ 3 * 10 ^ 60 := by omega
        clear hm
        refine lcx (fun i acc H' => RunsAt H' acc ((ts.take i).map (shiftR m))) (SqL.of ha4) (by omega) (fun H' _ => .nil) (fun i acc H H' e h => h.tp e) (fun i x acc H' Qk Qn hx ex hal pa kk1 kk2 => ?_) (fun D acc H8 hD ex hD' hal pa => ?_)
        · obtain ⟨t, r, rfl, hr', ht⟩ := hR4.at' hx
          have ht := ex _ _ ht
          have step : (ts.take (i + 1)).map (shiftR m) = (ts.take i).map (shiftR m) ++ [shiftR m r] := by rw [List.take_succ, hr']; simp
          obtain ⟨f, u, v⟩ := r
          have ht : H' t = some (.tup [.int f, optI u, v]) := ht
          rw [step] at kk1
          cases u with
          | none =>
            walk_at "st"
            refine ⟨rfl, ?_⟩
            walk_at "st"
            exact kk1 _ _ hmE ((pa.ex hmE).app (.one (r := (f + m, none, v)) hmA))
          | some n =>
            walk_at "st"
            refine ⟨rfl, ?_⟩
            walk_at "st"
            exact kk1 _ _ hmE ((pa.ex hmE).app (.one (r := (f + m, some (n + m), v)) hmA))
        · rw [List.take_of_length_le (by omega)] at pa
          walk_at "st"
          exact kk D _ acc _ (e1.but.trans (c4.trans ex.but)) ((B4.ex ex).mono (by omega)) (B4.new hD) hD' pa (shift_asc asc) (shift_day hd mb) (by simp)
theorem ok_Lnear (T : Tx w K mg) : FnOk P w K mg base CX0 4 T.a_Lnear T.fd_Lnear ["bag", "marks"] (spLnear27) := by
  refine T.F_Lnear.ok sc_Lnear (fun vs H Q E h => ?_) (fun cdv A outer s H vs Q E hr h => ?_)
  · obtain ⟨b, k, m, ms, rfl, _⟩ := h
    rfl
  · obtain ⟨b, k, m, ms, rfl, hb, hk, hm, hmb, hl, hms, kk⟩ := h
    refine ⟨_, (pss_cons (ps_if (PW.pt (pw_or (pt_cmpR (op_eqD hr.units) (pv 1) (pe_lst pa_nil) (nomark _)) (pw_or1 (pt_cmpR op_eq (pe_call (ok_Ltake T) (hr.mono (by decide)) rfl T.g_Ltake T.F_Ltake.kp T.b_Ltake .nil pass0 (pa_cons (pv 0) (pa_cons pe_int pa_nil))) pe_int (nomark _))))) (pss_one (ps_ret (pe_call (ok_Lday T) (hr.mono (by decide)) rfl T.g_Lday T.F_Lday.kp T.b_Lday .nil pass0 (pa_cons (pv 0) pa_nil)))) pss_nil) (pss_one (ps_ret (pe_op op_sub (pe_op op_addX (pe_call (ok_Lof T) (hr.mono (by decide)) rfl T.g_Lof T.F_Lof.kp T.b_Lof .nil pass0 (pa_cons (pv 0) (pa_cons (pv 1) pa_nil))) (pe_call (ok_Ltake T) (hr.mono (by decide)) rfl T.g_Ltake T.F_Ltake.kp T.b_Ltake .nil pass0 (pa_cons (pv 0) (pa_cons pe_int pa_nil)))) pe_int)))), ?_⟩; (try simp only [cxOf])
    walk_at "st"
    refine r_eqNil (hmE _ _ hm) hmA ?_
    have hB := hb.ex hmE
    have hm1 := hmE _ _ hm
    walk_at "st"
    cases ms with
    | nil =>
      refine if_bT rfl ?_
      walk_at "st"
      refine ⟨b, k, rfl, hB, by omega, fun r H1 r0 r1 e1 B1 => ?_⟩
      walk_at "st"
      exact kk _ _ (by omega) (by omega) (hmE.but.trans e1) (B1.mono (by omega))
    | cons z zs =>
      refine if_bF rfl ?_
      walk_at "st"
      refine ⟨b, k, 5, rfl, hB, by omega, by decide, by decide, fun r H1 r0 r1 e1 B1 => ?_⟩
      walk_at "st"
      refine if_d (fun hz => ?_) (fun hz => ?_)
      · walk_at "st"
        refine ⟨b, k + 1, rfl, B1, by omega, fun r H2 r0 r1 e2 B2 => ?_⟩
        walk_at "st"
        exact kk _ _ (by omega) (by omega) (hmE.but.trans (e1.trans e2)) (B2.mono (by omega))
      · walk_at "st"
        refine ⟨b, k + 1, _, _, rfl, B1, by omega, .lst (e1 _ _ hmb hm1) hmb, by simp, by simp at hl ⊢; omega, fun x H2 hx e2 B2 => ?_⟩
        obtain ⟨y, hy, rfl⟩ := List.mem_map.mp hx
        have by_ := hms y hy
        walk_at "st"
        refine ⟨b, k + 2, 5, rfl, B2, by omega, by decide, by decide, fun r3 H3 r30 r31 e3 B3 => ?_⟩
        walk_at "st"
        exact kk _ _ (by omega) (by omega) (hmE.but.trans (e1.trans (e2.trans e3))) (B3.mono (by omega))
theorem ok_Lstretch (T : Tx w K mg) : FnOk P w K mg base CX0 5 T.a_Lstretch T.fd_Lstretch ["bag", "marks", "some"] (spLstretch27) := by
  refine T.F_Lstretch.ok sc_Lstretch (fun vs H Q E h => ?_) (fun cdv A outer s H vs Q E hr h => ?_)
  · obtain ⟨b, k, m, ms, s, ws, rfl, _⟩ := h
    rfl
  · obtain ⟨b, k, m, ms, s, ws, rfl, hb, hk, hm, hmb, hl, hms, hs, hsb, hw, hwl, hwo, kk⟩ := h
    refine ⟨_, (pss_cons (ps_set (i := 3) sc_Lstretch.nd rfl (by first | exact Or.inl rfl | exact Or.inr rfl) (pe_call (ok_Lnear T) (hr.mono (by decide)) rfl T.g_Lnear T.F_Lnear.kp T.b_Lnear .nil pass0 (pa_cons (pv 0) (pa_cons (pv 1) pa_nil)))) (pss_cons (ps_set (i := 4) sc_Lstretch.nd rfl (by first | exact Or.inl rfl | exact Or.inr rfl) (pe_op op_addX (pv 3) (pe_call (ok_Lof T) (hr.mono (by decide)) rfl T.g_Lof T.F_Lof.kp T.b_Lof .nil pass0 (pa_cons (pv 0) (pa_cons (pe_lst (pa_cons pe_int (pa_cons pe_int (pa_cons pe_int (pa_cons pe_int (pa_cons pe_int (pa_cons pe_int (pa_cons (pe_op op_pow pe_int pe_int) (pa_cons (pe_op op_pow pe_int pe_int) pa_nil))))))))) pa_nil))))) (pss_cons (ps_if (pt_cmpR op_eq (pe_call (ok_Ltake T) (hr.mono (by decide)) rfl T.g_Ltake T.F_Ltake.kp T.b_Ltake .nil pass0 (pa_cons (pv 0) (pa_cons pe_int pa_nil))) pe_int (nomark _)) (pss_one (ps_set (i := 4) sc_Lstretch.nd rfl (by first | exact Or.inl rfl | exact Or.inr rfl) pe_non)) pss_nil) (pss_one (ps_ret (pe_tup (pa_cons (pv 3) (pa_cons (pv 4) (pa_cons (pe_ifExp (pt_cmpR op_eq (pe_call (ok_Ltake T) (hr.mono (by decide)) rfl T.g_Ltake T.F_Ltake.kp T.b_Ltake .nil pass0 (pa_cons (pv 0) (pa_cons pe_int pa_nil))) pe_int (nomark _)) pe_non (pe_call (ok_Lof T) (hr.mono (by decide)) rfl T.g_Lof T.F_Lof.kp T.b_Lof .nil pass0 (pa_cons (pv 0) (pa_cons (pv 2) pa_nil)))) pa_nil))))))))), ?_⟩; (try simp only [cxOf])
    walk_at "st"
    refine ⟨b, k, m, ms, rfl, hb, by omega, hm, hmb, hl, hms, fun f H1 f0 f1 e1 B1 => ?_⟩
    walk_at "st"
    have hbp := B1.new hmN
    refine ⟨b, k + 10, _, _, rfl, B1.ex hmE, by omega, .lst hmA hbp, by simp, by simp, fun x H2 hx e2 B2 => ?_⟩
    obtain ⟨z, rfl, z0, z1⟩ : ∃ z : Int, x = .int z ∧ 0 ≤ z ∧ z ≤ 10 ^ 30 := by
      simp only [List.mem_cons, List.not_mem_nil, or_false] at hx
      rcases hx with rfl | rfl | rfl | rfl | rfl | rfl | rfl | rfl <;> exact ⟨_, rfl, by decide, by decide⟩
    walk_at "st"
    refine ⟨b, k + 11, 6, rfl, B2, by omega, by decide, by decide, fun r H3 r0 r1 e3 B3 => ?_⟩
    have bb := (e1.trans hmE.but).trans (e2.trans e3)
    walk_at "st"
    refine if_d (fun hz => ?_) (fun hz => ?_)
    · walk_at "st"
      refine ⟨b, k + 12, 4, rfl, B3, by omega, by decide, by decide, fun r4 H4 r40 r41 e4 B4 => ?_⟩
      walk_at "st"
      refine if_d (fun hy => ?_) (fun hy => ?_)
      · walk_at "st"
        exact kk _ _ f none _ ((bb.trans e4).trans hmE.but) ((B4.ex hmE).mono (by omega)) hmA (fun k e => by cases e) (.inl rfl) ⟨f0, f1⟩ (fun n e => by cases e)
      · walk_at "st"
        refine ⟨b, k + 13, _, _, rfl, B4, by omega, .lst ((bb.trans e4) _ _ hsb hs) hsb, hw, by omega, fun x H5 hx5 e5 B5 => ?_⟩
        walk_at "st"
        exact kk _ _ f none _ ((bb.trans (e4.trans e5)).trans hmE.but) ((B5.ex hmE).mono (by omega)) hmA (fun k e => by cases e) (.inr (hwo _ hx5)) ⟨f0, f1⟩ (fun n e => by cases e)
    · walk_at "st"
      refine ⟨b, k + 12, 4, rfl, B3, by omega, by decide, by decide, fun r4 H4 r40 r41 e4 B4 => ?_⟩
      walk_at "st"
      have vs : ∀ v : V, ValR (f, some (f + z), v) := fun v k e => by cases e; show f ≤ f + z; omega
      refine if_d (fun hy => ?_) (fun hy => ?_)
      · walk_at "st"
        exact kk _ _ f (some (f + z)) _ ((bb.trans e4).trans hmE.but) ((B4.ex hmE).mono (by omega)) hmA (vs _) (.inl rfl) ⟨f0, f1⟩ (fun n e => by cases e; exact ⟨by omega, by omega⟩)
      · walk_at "st"
        refine ⟨b, k + 13, _, _, rfl, B4, by omega, .lst ((bb.trans e4) _ _ hsb hs) hsb, hw, by omega, fun x H5 hx5 e5 B5 => ?_⟩
        walk_at "st"
        exact kk _ _ f (some (f + z)) _ ((bb.trans (e4.trans e5)).trans hmE.but) ((B5.ex hmE).mono (by omega)) hmA (vs _) (.inr (hwo _ hx5)) ⟨f0, f1⟩ (fun n e => by cases e; exact ⟨by omega, by omega⟩)
theorem ok_Lcut (T : Tx w K mg) : FnOk P w K mg base CX0 1 T.a_Lcut T.fd_Lcut ["rows", "low", "high"] (spLcut) := by
  refine T.F_Lcut.ok sc_Lcut (fun vs H Q E h => ?_) (fun cdv A outer s H vs Q E hr h => ?_)
  · obtain ⟨a, low, high, xs, rs, rfl, _⟩ := h
    rfl
  · obtain ⟨a, low, high, xs, rs, rfl, ha, hR, hl, kk⟩ := h
    refine ⟨_, (pss_cons (ps_set (i := 3) sc_Lcut.nd rfl (by first | exact Or.inl rfl | exact Or.inr rfl) (pe_lst pa_nil)) (pss_cons (ps_for PassesOwn.never rfl (pi_list (pv 0)) (pg_tupK (K0 := K) (n := 3) rfl (pgs_cons (pg_name (i := 4) sc_Lcut.nd rfl (by first | exact Or.inl rfl | exact Or.inr rfl)) (pgs_cons (pg_name (i := 5) sc_Lcut.nd rfl (by first | exact Or.inl rfl | exact Or.inr rfl)) (pgs_cons (pg_name (i := 6) sc_Lcut.nd rfl (by first | exact Or.inl rfl | exact Or.inr rfl)) pgs_nil)))) (pss_cons (ps_join (ps_if (pt_cmpR op_lt (pv 4) (pv 1) (nomark _)) (pss_one (ps_expr (pe_bm PySem.F.plainAttrs_list PySem.F.slot_list_append PySem.F.type_list_append mt_append (pv 3) (pa_cons (pe_tup (pa_cons (pv 4) (pa_cons (pe_ifExp (PW.pt (pw_or (pt_cmp (pc_isN (pv 5))) (pw_or1 (pt_cmpR op_gt (pv 5) (pv 1) (nomark _))))) (pv 1) (pv 5)) (pa_cons (pv 6) pa_nil)))) pa_nil)))) pss_nil)) (pss_one (ps_if (PW.pt (pw_and (pt_cmp (pc_notN (pv 2))) (pw_and1 (PW.pt (pw_or (pt_cmp (pc_isN (pv 5))) (pw_or1 (pt_cmpR op_gt (pv 5) (pv 2) (nomark _)))))))) (pss_one (ps_expr (pe_bm PySem.F.plainAttrs_list PySem.F.slot_list_append PySem.F.type_list_append mt_append (pv 3) (pa_cons (pe_tup (pa_cons (pe_callB (c_max2 rfl) (by rfl) T.n_max (by decide +kernel) (pa_cons (pv 4) (pa_cons (pv 2) pa_nil))) (pa_cons (pv 5) (pa_cons (pv 6) pa_nil)))) pa_nil)))) pss_nil)))) (pss_one (ps_ret (pv 3))))), ?_⟩; (try simp only [cxOf])
    have hn := hR.len
    walk_at "st"
    have NL : H pn = none := hmN
    obtain ⟨L, rfl⟩ : ∃ L, L = pn := ⟨pn, rfl⟩
    refine fo_list (xs := xs) (fun i σ' H' => ∃ (t4 t5 t6 : Option V) (ys : List V), σ' = [some (.ref a), some (.int low), some (optI high), some (.ref L), t4, t5, t6] ∧ Ex H H' ∧ H' L = some (.lst ys) ∧ RunsAt H' ys ((rs.take i).flatMap (cutR low high)) ∧ ys.length ≤ 2 * i)
      ⟨_, _, _, [], rfl, hmE, hmA, .nil, by simp⟩ (fun i σ' H' hi ⟨_, _, _, _, _, ex, _⟩ => SqL.of (ex _ _ ha)) ?_ ?_
    · clear hmE hmA hmN
      rintro i x σ' H2 hx ⟨t4, t5, t6, ys, rfl, e2, hL, hY, hz⟩
      obtain ⟨t, r, rfl, hr', ht⟩ := hR.at' hx
      have ht := e2 _ _ ht
      have hi : i < rs.length := (List.getElem?_eq_some_iff.mp hr').1
      have st := flat_step (g := cutR low high) hr'
      obtain ⟨f, u, v⟩ := r
      have ht : H2 t = some (.tup [.int f, optI u, v]) := ht
      have hys : ys.length < sizeLine := szL (by omega)
      walk_at "st"
      refine r_join (fun σ' H' => ∃ (ys : List V), σ' = [some (.ref a), some (.int low), some (optI high), some (.ref L), some (.int f), some (optI u), some v] ∧ Ex H H' ∧ H' L = some (.lst ys) ∧ RunsAt H' ys ((rs.take i).flatMap (cutR low high) ++ headR low (f, u, v)) ∧ ys.length ≤ 2 * i + 1) (fun R' kR => ?_) ?_
      · walk_at "st"
        refine if_d (fun hf => ?_) (fun hf => ?_)
        · have hh : ∀ (G1 G2 : Hp) (q : Addr) (w : Int), headR low (f, u, v) = [(f, some w, v)] → Ex H2 G1 → G1 q = some (.tup [.int f, .int w, v]) → But L G1 G2 → G2 L = some (.lst (ys ++ [.ref q])) →
              R' [some (.ref a), some (.int low), some (optI high), some (.ref L), some (.int f), some (optI u), some v] G2 := fun G1 G2 q w hw g1 hq b2 hL2 => by
            have hL1 := g1 _ _ hL
            refine kR _ _ ⟨_, rfl, (e2.trans g1).mut b2 NL, hL2, ?_, by simp; omega⟩
            rw [hw]
            exact ((hY.ex g1).tp (b2.tpL hL1)).app (.one (b2.tpL hL1 _ _ hq))
          cases u with
          | none =>
            walk_at "st"
            exact hh _ _ _ low (by simp [headR, hf]) hmE (by assumption) hmB hmA
          | some n =>
            walk_at "st"
            refine if_d (fun hg => ?_) (fun hg => ?_)
            · walk_at "st"
              exact hh _ _ _ low (by simp [headR, hf, hg]) hmE (by assumption) hmB hmA
            · walk_at "st"
              exact hh _ _ _ n (by simp [headR, hf, hg]) hmE (by assumption) hmB hmA
        · walk_at "st"
          exact kR _ _ ⟨ys, rfl, e2, hL, by simpa [headR, hf] using hY, by omega⟩
      clear e2 hL hY hz hys ht
      rintro σ' H3 ⟨ys, rfl, e2, hL, hY, hz⟩
      have hys : ys.length < sizeLine := szL (by omega)
      have hh : ∀ (G1 G2 : Hp) (q : Addr) (w : Int) (u' : Option Int), tailR high (f, u, v) = [(w, u', v)] → Ex H3 G1 → G1 q = some (.tup [.int w, optI u', v]) → But L G1 G2 → G2 L = some (.lst (ys ++ [.ref q])) →
          ∃ (ys : List V), Ex H G2 ∧ G2 L = some (.lst ys) ∧ RunsAt G2 ys ((rs.take (i + 1)).flatMap (cutR low high)) ∧ ys.length ≤ 2 * (i + 1) := fun G1 G2 q w u' hw g1 hq b2 hL2 => by
        have hL1 := g1 _ _ hL
        refine ⟨_, (e2.trans g1).mut b2 NL, hL2, ?_, by simp; omega⟩
        rw [st, cutR, hw, ← List.append_assoc]
        exact ((hY.ex g1).tp (b2.tpL hL1)).app (.one (b2.tpL hL1 _ _ hq))
      have hno : tailR high (f, u, v) = [] → ∃ (ys : List V), Ex H H3 ∧ H3 L = some (.lst ys) ∧ RunsAt H3 ys ((rs.take (i + 1)).flatMap (cutR low high)) ∧ ys.length ≤ 2 * (i + 1) := fun hw => by
        refine ⟨ys, e2, hL, ?_, by omega⟩
        rw [st, cutR, hw, List.append_nil]
        exact hY
      cases high with
      | none =>
        walk_at "st"
        obtain ⟨ys', g⟩ := hno rfl
        exact ⟨_, _, _, ys', rfl, g⟩
      | some h' =>
        cases u with
        | none =>
          walk_at "st"
          obtain ⟨ys', g⟩ := hh _ _ _ _ none rfl hmE (by assumption) hmB hmA
          exact ⟨_, _, _, ys', rfl, g⟩
        | some n =>
          walk_at "st"
          refine if_d (fun hg => ?_) (fun hg => ?_)
          · walk_at "st"
            obtain ⟨ys', g⟩ := hh _ _ _ _ (some n) (by show (if n > h' then [(if h' > f then h' else f, some n, v)] else []) = _; rw [if_pos hg]) hmE (by assumption) hmB hmA
            exact ⟨_, _, _, ys', rfl, g⟩
          · walk_at "st"
            obtain ⟨ys', g⟩ := hno (by simp [tailR, hg])
            exact ⟨_, _, _, ys', rfl, g⟩
    · clear hmE hmA hmN
      rintro σ' H2 ⟨t4, t5, t6, ys, rfl, e2, hL, hY, hz⟩
      rw [List.take_of_length_le (by omega)] at hY
      walk_at "st"
      exact kk _ _ _ NL e2 hL hY
theorem ok_Lsorted_rows (T : Tx w K mg) (TB : TabB base mg T.cc_Lsorted_rows T.cp_Lsorted_rows) : FnOk P w K mg base CX0 3 T.a_Lsorted_rows T.fd_Lsorted_rows ["rows"] (spLsorted T.cp_Lsorted_rows) := by
  refine T.FC_Lsorted_rows.ok sc_Lsorted_rows (fun vs H Q E h => ?_) (fun A outer s H vs Q E hr h => ?_)
  · obtain ⟨a, xs, rs, rfl, _⟩ := h
    rfl
  · obtain ⟨a, xs, rs, rfl, ha, hR, hl, hT, kk⟩ := h
    refine ⟨_, (pss_one (ps_ret (pe_sortedL (q := lamQ) (by rfl) T.n_sorted (by decide +kernel) (pa_cons (pv 0) pa_nil) TB rfl (by show (Str.ofString "_law_sorted_rows" ++ Str.ofString ".<locals>.") ++ Str.ofString "<lambda>" = _; decide +kernel) rfl rfl rfl rfl (by decide) rfl rfl (fun _ _ _ _ => rfl) (hr.mono (by decide))))), ?_⟩; (try simp only [cxOf])
    walk_at "st"
    refine ⟨a, xs, rs, rfl, SqL.of ha, hR, hl, hT, fun H2 p ys eN hT2 np hY => ?_⟩
    have e : Ex H2 (upd H2 p (.lst ys)) := Ex.new np
    refine kk p _ ys (eN.trans (LamX.ExtN.of e)) (hT2.ext e) (fun b zs hb z => ?_) upd_same (hY.ex e)
    have := xn_lst eN hb
    rw [z, np] at this
    cases this
theorem ok_Lput_rows (T : Tx w K mg) (TB : TabB base mg T.cc_Lsorted_rows T.cp_Lsorted_rows) : FnOk P w K mg base CX0 4 T.a_Lput_rows T.fd_Lput_rows ["rows", "first", "last", "value"] (spLputR T.cp_Lsorted_rows) := by
  refine T.F_Lput_rows.ok sc_Lput_rows (fun vs H Q E h => ?_) (fun cdv A outer s H vs Q E hr h => ?_)
  · obtain ⟨a, f, m, v, xs, ts, rfl, _⟩ := h
    rfl
  · obtain ⟨a, f, m, v, xs, ts, rfl, ha, hR, asc, hz, hm, hT, kk⟩ := h
    refine ⟨_, (pss_cons (ps_join (ps_set (i := 4) sc_Lput_rows.nd rfl (by first | exact Or.inl rfl | exact Or.inr rfl) (pe_ifExp (pt_cmp (pc_isN (pv 2))) pe_non (pe_op op_addX (pv 2) pe_int)))) (pss_cons (ps_set (i := 5) sc_Lput_rows.nd rfl (by first | exact Or.inl rfl | exact Or.inr rfl) (pe_call (ok_Lcut T) (hr.mono (by decide)) rfl T.g_Lcut T.F_Lcut.kp T.b_Lcut .nil pass0 (pa_cons (pv 0) (pa_cons (pv 1) (pa_cons (pv 4) pa_nil))))) (pss_cons (ps_join (ps_if (pt_cmp (pc_notN (pv 3))) (pss_one (ps_expr (pe_bm PySem.F.plainAttrs_list PySem.F.slot_list_append PySem.F.type_list_append mt_append (pv 5) (pa_cons (pe_tup (pa_cons (pv 1) (pa_cons (pv 4) (pa_cons (pv 3) pa_nil)))) pa_nil)))) pss_nil)) (pss_one (ps_ret (pe_call (ok_Lsorted_rows T TB) (hr.mono (by decide)) rfl T.g_Lsorted_rows T.F_Lsorted_rows.kp T.b_Lsorted_rows .nil pass0 (pa_cons (pv 5) pa_nil))))))), ?_⟩; (try simp only [cxOf])
    walk_at "st"
    refine r_join (fun σ' H' => H' = H ∧ σ' = [some (.ref a), some (.int f), some (optI m), some v, some (optI (m.map (· + 1))), none]) (fun R' k => ?_) ?_
    · cases m with
      | none =>
        walk_at "st"
        exact k _ _ ⟨rfl, rfl⟩
      | some n =>
        walk_at "st"
        exact k _ _ ⟨rfl, rfl⟩
    rintro σ' H' ⟨rfl, rfl⟩
    walk_at "st"
    refine ⟨a, f, m.map (· + 1), xs, ts, rfl, ha, hR, by omega, fun L H1 zs nL e1 hL hZ => ?_⟩
    have hzl : zs.length ≤ 80000 := by
      have h2 : ∀ us : List Run, (us.flatMap (cutR f (m.map (· + 1)))).length ≤ 2 * us.length := fun us => by
        induction us with
        | nil => simp
        | cons x t ih =>
          rw [List.flatMap_cons, List.length_append, List.length_cons]
          have := cut_len (low := f) (high := m.map (· + 1)) (r := x)
          omega
      have := h2 ts
      rw [hZ.len]
      omega
    have hzs : zs.length < sizeLine := szL (by omega)
    have ND : H' L = none := nL
    walk_at "st"
    refine r_join (fun σ' H2 => ∃ (acc : List V), σ' = [some (.ref a), some (.int f), some (optI m), some v, some (optI (m.map (· + 1))), some (.ref L)] ∧ Ex H' H2 ∧ H2 L = some (.lst acc) ∧ RunsAt H2 acc (ts.flatMap (cutR f (m.map (· + 1))) ++ newR f (m.map (· + 1)) v) ∧ acc.length ≤ 80001) (fun R' k => ?_) ?_
    · walk_at "st"
      refine if_nd (fun hv => ?_) (fun hv => ?_)
      · walk_at "st"
        rename_i H6 hA6
        have hL6 := hmE _ _ hL
        have tp : Tp H6 Hm := hmB.tpL hL6
        refine k _ _ ⟨_, rfl, Ex.mut (e1.trans hmE) hmB ND, hmA, ?_, by simp; omega⟩
        rw [show newR f (m.map (· + 1)) v = [(f, m.map (· + 1), v)] from if_neg hv]
        exact ((hZ.ex hmE).tp tp).app (.one (tp _ _ hA6))
      · walk_at "st"
        refine k _ _ ⟨_, rfl, e1, hL, ?_, by omega⟩
        rw [show newR f (m.map (· + 1)) v = [] from if_pos hv, List.append_nil]
        exact hZ
    clear hL hZ hzl hzs e1
    rintro σ' H2 ⟨acc, rfl, e2, hL, hZ, hzl⟩
    walk_at "st"
    refine ⟨L, acc, _, rfl, hL, hZ, by have := hZ.len; omega, hT.ext e2, fun D H3 ys eN hT3 nD hD hY => ?_⟩
    rw [put_sort asc hm] at hY
    exact kk D H3 ys ((xn_ex e2).trans eN) hT3 (fun b zs hb => nD b zs (e2 _ _ hb)) hD hY
theorem ok_Lmany (T : Tx w K mg) : FnOk P w K mg base CX0 2 T.a_Lmany T.fd_Lmany ["bag", "most"] (spLmany) := by
  refine T.F_Lmany.ok sc_Lmany (fun vs H Q E h => ?_) (fun cdv A outer s H vs Q E hr h => ?_)
  · obtain ⟨b, k, m, rfl, _⟩ := h
    rfl
  · obtain ⟨b, k, m, rfl, hb, hk, hm, kk⟩ := h
    refine ⟨_, (pss_one (ps_ret (pe_ifExp (pt_cmpR op_eq (pe_call (ok_Ltake T) (hr.mono (by decide)) rfl T.g_Ltake T.F_Ltake.kp T.b_Ltake .nil pass0 (pa_cons (pv 0) (pa_cons pe_int pa_nil))) pe_int (nomark _)) (pv 1) (pe_call (ok_Ltake T) (hr.mono (by decide)) rfl T.g_Ltake T.F_Ltake.kp T.b_Ltake .nil pass0 (pa_cons (pv 0) (pa_cons pe_int pa_nil)))))), ?_⟩; (try simp only [cxOf])
    walk_at "st"
    refine ⟨b, k, 8, rfl, hb, by omega, by decide, by decide, fun r H1 r0 r1 b1 B1 => ?_⟩
    walk_at "st"
    refine if_d (fun h => ?_) (fun h => ?_)
    · walk_at "st"
      exact kk _ _ hm (.inr (Int.le_refl _)) b1 (B1.mono (by omega))
    · walk_at "st"
      refine ⟨b, _, 9, rfl, B1, by omega, by decide, by decide, fun r H2 r0 r1 b2 B2 => ?_⟩
      exact kk _ _ r0 (.inl (by omega)) (b1.trans b2) (B2.mono (by omega))
theorem ok_stop_of (T : Tx w K mg) : FnOk P w K mg base CX0 1 T.a_stop_of T.fd_stop_of ["until", "ends"] (spStopOf) := by
  refine T.F_stop_of.ok sc_stop_of (fun vs H Q E h => ?_) (fun cdv A outer s H vs Q E hr h => ?_)
  · obtain ⟨u, s, rfl, _⟩ := h
    rfl
  · obtain ⟨u, s, rfl, kk⟩ := h
    refine ⟨_, (pss_cons (ps_if (PW.pt (pw_or (pt_cmp (pc_isN (pv 0))) (pw_or1 (pt_cmpR op_eq (pv 1) (ClX.pe_cval (pe_glob (v := .ref T.c_Ends) rfl T.g_Ends rfl) rfl) (nomark _))))) (pss_one (ps_ret (pv 0))) pss_nil) (pss_one (ps_ret (pe_op op_addX (pv 0) pe_int)))), ?_⟩; (try simp only [cxOf])
    cases u with
    | none =>
      walk_at "st"
      exact kk
    | some n =>
      walk_at "st"
      have e : stopOf (some n) s = some (if s = "next day" then n else n + 1) := rfl
      rw [e] at kk
      refine if_d (fun h => ?_) (fun h => ?_)
      · have h' : s = "next day" := by first | exact h | exact V.str.inj h
        rw [if_pos h'] at kk
        walk_at "st"
        exact kk
      · have h' : ¬ s = "next day" := by first | exact h | exact fun z => h (congrArg V.str z)
        rw [if_neg h'] at kk
        walk_at "st"
        simp only [optI] at kk ⊢
        walk_at "st"
        exact kk
theorem ok_bears_no_day (T : Tx w K mg) : FnOk P w K mg base CX0 2 T.a_bears_no_day T.fd_bears_no_day ["first", "until", "ends"] (spBearsNo) := by
  refine T.F_bears_no_day.ok sc_bears_no_day (fun vs H Q E h => ?_) (fun cdv A outer s H vs Q E hr h => ?_)
  · obtain ⟨f, u, s, rfl, _⟩ := h
    rfl
  · obtain ⟨f, u, s, rfl, kk⟩ := h
    refine ⟨_, (pss_cons (ps_set (i := 3) sc_bears_no_day.nd rfl (by first | exact Or.inl rfl | exact Or.inr rfl) (pe_call (ok_stop_of T) (hr.mono (by decide)) rfl T.g_stop_of T.F_stop_of.kp T.b_stop_of .nil pass0 (pa_cons (pv 1) (pa_cons (pv 2) pa_nil)))) (pss_one (ps_ret (pe_and (pe_cmp (pc_notN (pv 3))) (pe_one (pe_cmpR op_le (pv 3) (pv 0) (nomark _))))))), ?_⟩; (try simp only [cxOf])
    walk_at "st"
    refine ⟨u, s, rfl, ?_⟩
    walk_at "st"
    have e : noDay f u s = match stopOf u s with | none => false | some n => decide (n ≤ f) := rfl
    cases h : stopOf u s with
    | none =>
      rw [h] at e
      rw [e] at kk
      refine if_nd (fun z => absurd rfl z) (fun _ => ?_)
      simpa [optI] using kk
    | some n =>
      rw [h] at e
      rw [e] at kk
      refine if_nd (fun _ => ?_) (fun z => by cases z)
      simp only [optI]
      walk_at "st"
      exact kk
theorem ok_EmptyRow_init (T : Tx w K mg) : FnOk P w K mg base CX0 1 T.a_EmptyRow_init T.fd_EmptyRow_init ["self", "first", "end"] (spInit2 T.c_EmptyRow "first" "end") := by
  refine T.F_EmptyRow_init.ok sc_EmptyRow_init (fun vs H Q E h => ?_) (fun cdv A outer s H vs Q E hr h => ?_)
  · obtain ⟨a, u, v, rfl, _⟩ := h
    rfl
  · obtain ⟨a, u, v, rfl, ha, kk⟩ := h
    refine ⟨_, (pss_cons (ps_ost (pv 0) (pv 1)) (pss_one (ps_ost (pv 0) (pv 2)))), ?_⟩; (try simp only [cxOf])
    walk_at "st"
    refine ⟨a, T.c_EmptyRow, rfl, T.x_EmptyRow.ox, T.n_EmptyRow_first, .inl ⟨ha, fun dx hdx ne => ?_⟩⟩
    walk_at "st"
    refine ⟨a, T.c_EmptyRow, rfl, T.x_EmptyRow.ox, T.n_EmptyRow_end, .inr ⟨dx, _, upd_same, (by rw [upd_ne ne, upd_same]), by simp, ?_⟩⟩
    refine kk dx _ hdx ne (by rw [upd_ne (Ne.symm ne), upd_same]) (by rw [upd_same]) fun b o e hb => ?_
    have hbd : b ≠ dx := ne_of_none e hdx
    rw [upd_ne hbd, upd_ne hb, upd_ne hbd]
    exact e
theorem ok_checked_until (T : Tx w K mg) : FnOk P w K mg base (L2.CX P w) 4 T.a_checked_until T.fd_checked_until ["first", "until", "ends"] (spChecked T.c_EmptyRow) := by
  refine T.F_checked_until.okX sc_checked_until (fun vs H Q E h => ?_) (fun cdv A outer s H vs Q E hr h => ?_)
  · obtain ⟨f, u, s, rfl, _⟩ := h
    rfl
  · obtain ⟨f, u, s, rfl, kE, kQ⟩ := h
    refine ⟨_, (pss_cons (ps_if (pt_val (pe_call (ok_bears_no_day T) (hr.mono (by decide)) rfl T.g_bears_no_day T.F_bears_no_day.kp T.b_bears_no_day .nil pass0 (pa_cons (pv 0) (pa_cons (pv 1) (pa_cons (pv 2) pa_nil))))) (pss_one (ps_raise rfl (takes_of rfl rfl rfl rfl) (pmk_oex T.x_EmptyRow.ox T.x_EmptyRow.ini T.x_EmptyRow.tI (ok_EmptyRow_init T) (hr.mono (by decide)) T.b_EmptyRow_init .nil pass0 rfl T.g_EmptyRow (pa_cons (pv 0) (pa_cons (pv 1) pa_nil))))) pss_nil) (pss_one (ps_ret (pv 1)))), ?_⟩; (try simp only [cxOf])
    walk_at "st"
    refine ⟨f, u, s, rfl, ?_⟩
    walk_at "st"
    refine if_b (fun h => ?_) (fun h => ?_)
    · show tMkO _ _ _ _ _ _ _
      refine ⟨_, rfl, _, rfl, by simp, fun a ha => ?_⟩
      refine ⟨a, _, _, rfl, upd_same, fun d H' hd ne h1 h2 hk => ⟨rfl, d, _, h1, h2, ?_, ?_⟩⟩
      · rw [upd_ne ne] at hd; exact hd
      · rw [upd_ne ne] at hd
        refine kE h d _ hd (fun b o e => ?_) upd_same
        have hb : b ≠ a := ne_of_none e ha
        rw [upd_ne (ne_of_none e hd), del_ne hb]
        exact hk b o (by rw [upd_ne hb]; exact e) hb
    · walk_at "st"
      exact kQ h
theorem ok_first_day (T : Tx w K mg) : FnOk P w K mg base CX0 1 T.a_first_day T.fd_first_day ["row"] (spFirstDay) := by
  refine T.F_first_day.ok sc_first_day (fun vs H Q E h => ?_) (fun cdv A outer s H vs Q E hr h => ?_)
  · obtain ⟨t, f, u, v, rfl, _⟩ := h
    rfl
  · obtain ⟨t, f, u, v, rfl, ht, kk⟩ := h
    refine ⟨_, (pss_one (ps_ret (pe_ix ix_seq (pv 0) pe_int (fun _ _ => rfl)))), ?_⟩; (try simp only [cxOf])
    walk_at "st"
    exact kk
theorem ok_bears (T : Tx w K mg) : FnOk P w K mg base CX0 2 T.a_bears T.fd_bears ["row", "day", "ends"] (spBears) := by
  refine T.F_bears.ok sc_bears (fun vs H Q E h => ?_) (fun cdv A outer s H vs Q E hr h => ?_)
  · obtain ⟨p, f, u, r, d, s, rfl, _⟩ := h
    rfl
  · obtain ⟨p, f, u, r, d, s, rfl, hp, kk⟩ := h
    refine ⟨_, (pss_cons (ps_set (i := 3) sc_bears.nd rfl (by first | exact Or.inl rfl | exact Or.inr rfl) (pe_call (ok_stop_of T) (hr.mono (by decide)) rfl T.g_stop_of T.F_stop_of.kp T.b_stop_of .nil pass0 (pa_cons (pe_ix ix_seq (pv 0) pe_int (fun _ _ => rfl)) (pa_cons (pv 2) pa_nil)))) (pss_one (ps_ret (pe_and (pe_cmpR op_le (pe_ix ix_seq (pv 0) pe_int (fun _ _ => rfl)) (pv 1) (nomark _)) (pe_one (pe_or (pe_cmp (pc_isN (pv 3))) (pe_one (pe_cmpR op_lt (pv 1) (pv 3) (nomark _))))))))), ?_⟩; (try simp only [cxOf])
    walk_at "st"
    refine ⟨u, s, rfl, ?_⟩
    walk_at "st"
    refine if_d (fun h => ?_) (fun h => ?_)
    · walk_at "st"
      cases hs : stopOf u s with
      | none =>
        refine if_dT rfl ?_
        simpa [bears, hs, h] using kk
      | some n =>
        refine if_dF (fun z => by cases z) ?_
        simp only [optI]
        walk_at "st"
        simpa [bears, hs, h] using kk
    · simpa [bears, h] using kk
theorem ok_Clash_init (T : Tx w K mg) : FnOk P w K mg base CX0 1 T.a_Clash_init T.fd_Clash_init ["self", "earlier", "later"] (spInit2 T.c_Clash "earlier" "later") := by
  refine T.F_Clash_init.ok sc_Clash_init (fun vs H Q E h => ?_) (fun cdv A outer s H vs Q E hr h => ?_)
  · obtain ⟨a, u, v, rfl, _⟩ := h
    rfl
  · obtain ⟨a, u, v, rfl, ha, kk⟩ := h
    refine ⟨_, (pss_cons (ps_ost (pv 0) (pv 1)) (pss_one (ps_ost (pv 0) (pv 2)))), ?_⟩; (try simp only [cxOf])
    walk_at "st"
    refine ⟨a, T.c_Clash, rfl, T.x_Clash.ox, T.n_Clash_earlier, .inl ⟨ha, fun dx hdx ne => ?_⟩⟩
    walk_at "st"
    refine ⟨a, T.c_Clash, rfl, T.x_Clash.ox, T.n_Clash_later, .inr ⟨dx, _, upd_same, (by rw [upd_ne ne, upd_same]), by simp, ?_⟩⟩
    refine kk dx _ hdx ne (by rw [upd_ne (Ne.symm ne), upd_same]) upd_same fun b o e hb => ?_
    have hbd : b ≠ dx := ne_of_none e hdx
    rw [upd_ne hbd, upd_ne hb, upd_ne hbd]
    exact e
theorem ok_checked_rows (T : Tx w K mg) : FnOk P w K mg base (L2.CX P w) 6 T.a_checked_rows T.fd_checked_rows ["rows", "ends"] (spCheckedRows T.c_EmptyRow T.c_Clash) := by
  refine T.F_checked_rows.okX sc_checked_rows (fun vs H Q E h => ?_) (fun cdv A outer s H vs Q E hr h => ?_)
  · obtain ⟨a, xs, rs, s, rfl, _⟩ := h
    rfl
  · obtain ⟨a, xs, rs, s, rfl, ha, hR, hl, kE, kK⟩ := h
    refine ⟨_, (pss_cons (ps_for (passes_of rfl) rfl (pi_list (pv 0)) (pg_tupK (K0 := K) (n := 3) rfl (pgs_cons (pg_name (i := 2) sc_checked_rows.nd rfl (by first | exact Or.inl rfl | exact Or.inr rfl)) (pgs_cons (pg_name (i := 3) sc_checked_rows.nd rfl (by first | exact Or.inl rfl | exact Or.inr rfl)) (pgs_cons (pg_name (i := 4) sc_checked_rows.nd rfl (by first | exact Or.inl rfl | exact Or.inr rfl)) pgs_nil)))) (pss_one (ps_expr (pe_call (ok_checked_until T) (hr.mono (by decide)) rfl T.g_checked_until T.F_checked_until.kp T.b_checked_until .nil (passes_call (W := fun cls d _ H => E cls d H) (takes_of rfl rfl rfl rfl) (fun _ _ _ _ h => h)) (pa_cons (pv 2) (pa_cons (pv 3) (pa_cons (pv 1) pa_nil))))))) (pss_cons (ps_set (i := 5) sc_checked_rows.nd rfl (by first | exact Or.inl rfl | exact Or.inr rfl) (pe_callBK (cr_sortedF0 T.F_first_day sc_first_day rfl (by decide +kernel) (by decide +kernel) T.b_first_day (hr.mono (by decide))) (by rfl) T.n_sorted (by decide +kernel) (pa_cons (pv 0) pa_nil) (pk_cons (pe_glob (v := .ref T.a_first_day) (by rfl) T.g_first_day rfl) pk_nil))) (pss_cons (ps_for (passes_of rfl) rfl (pi_zip (by rfl) T.n_zip (pa_cons (pv 5) (pa_cons (pe_slice sl_list (pv 5) (po_some pe_int) po_none) pa_nil))) (pg_tupK (K0 := K) (n := 2) rfl (pgs_cons (pg_name (i := 6) sc_checked_rows.nd rfl (by first | exact Or.inl rfl | exact Or.inr rfl)) (pgs_cons (pg_name (i := 7) sc_checked_rows.nd rfl (by first | exact Or.inl rfl | exact Or.inr rfl)) pgs_nil))) (pss_one (ps_if (pt_val (pe_call (ok_bears T) (hr.mono (by decide)) rfl T.g_bears T.F_bears.kp T.b_bears .nil pass0 (pa_cons (pv 6) (pa_cons (pe_ix ix_seq (pv 7) pe_int (fun _ _ => rfl)) (pa_cons (pv 1) pa_nil))))) (pss_one (ps_raise rfl (takes_of rfl rfl rfl rfl) (pmk_oex T.x_Clash.ox T.x_Clash.ini T.x_Clash.tI (ok_Clash_init T) (hr.mono (by decide)) T.b_Clash_init .nil pass0 rfl T.g_Clash (pa_cons (pv 6) (pa_cons (pv 7) pa_nil))))) pss_nil))) (pss_one (ps_ret (pv 5)))))), ?_⟩; (try simp only [cxOf])
    have hn := hR.len
    walk_at "st"
    refine fo_list (xs := xs) (fun i σ' H' => ∃ (t2 t3 t4 : Option V), σ' = [some (.ref a), some (.str s), t2, t3, t4, none, none, none] ∧ H' = H ∧ ∀ (j : Nat) (r' : Run), j < i → rs[j]? = some r' → noDay r'.1 r'.2.1 s = false)
      ⟨_, _, _, rfl, rfl, fun j r h => absurd h (by omega)⟩ (fun i σ' H' hi ⟨_, _, _, _, eh, _⟩ => eh ▸ SqL.of ha) ?_ ?_
    · rintro i x σ' H2 hx ⟨t2, t3, t4, rfl, rfl, hv⟩
      obtain ⟨t, r, rfl, hr', ht⟩ := hR.at' hx
      have kE := kE i r hr' hv
      obtain ⟨f, u, v⟩ := r
      have ht : H2 t = some (.tup [.int f, optI u, v]) := ht
      walk_at "st"
      refine ⟨f, u, s, rfl, fun hb d H' hd e h' => kE hb d H' hd e h', fun hb => ?_⟩
      walk_at "st"
      refine ⟨_, _, _, rfl, rfl, fun j r' hj e => ?_⟩
      by_cases q : j < i
      · exact hv j r' q e
      · have : j = i := by omega
        subst this
        rw [hr'] at e
        cases e
        exact hb
    rintro σ' H2 ⟨t2, t3, t4, rfl, rfl, hv⟩
    have hall : ∀ r ∈ rs, noDay r.1 r.2.1 s = false := fun r hr => by
      obtain ⟨j, hj, e⟩ := List.mem_iff_getElem.mp hr
      exact hv j r (by omega) (by rw [List.getElem?_eq_getElem hj, e])
    obtain ⟨kC, kQ⟩ := kK hall
    walk_at "st"
    refine ⟨a, xs, rs, rfl, rfl, SqL.of ha, hR, hl, fun p ys hp hY => ?_⟩
    generalize hmQ : upd H2 p (.lst ys) = Hm
    have e1 := ofE hmQ.symm hp
    have hL := ofA hmQ.symm
    have hY := hY.ex e1
    have hyl := hY.len
    rw [List.length_mergeSort] at hyl
    clear hmQ
    walk_at "st"
    rw [cutV_from] at hmA
    have hYm := hY.ex hmE
    have hlm := hmE _ _ hL
    have n2 : H2 pn = none := Ex.free e1 hmN
    have e12 := e1.trans hmE
    clear e1 hmE hmN hY
    refine ⟨p, pn, ys, ys.drop 1, rfl, SqL.of hlm, SqL.of hmA, ?_⟩
    refine fo_zip (xs := ys) (ys := ys.drop 1) (fun i σ' H' => ∃ (t6 t7 : Option V), σ' = [some (.ref a), some (.str s), t2, t3, t4, some (.ref p), t6, t7] ∧ Ex Hm H' ∧ ∀ (j : Nat) (x y : Run), j < i → (srt rs)[j]? = some x → (srt rs)[j + 1]? = some y → bears x.1 (stopOf x.2.1 s) y.1 = false)
      (by simp) ⟨_, _, rfl, Ex.refl _, fun j x y h => absurd h (by omega)⟩ (fun i σ' H' hi ⟨_, _, _, e, _⟩ => ⟨SqL.of (e _ _ hlm), SqL.of (e _ _ hmA)⟩) ?_ ?_
    · rintro i x y z σ' H4 H5 hx hy ⟨t6, t7, rfl, e3, hv⟩ hT e4 hT'
      rw [List.getElem?_drop, Nat.add_comm] at hy
      obtain ⟨ta, x', rfl, hx', hta⟩ := hYm.at' hx
      obtain ⟨tb, y', rfl, hy', htb⟩ := hYm.at' hy
      have e34 := e3.trans e4
      have hta := e34 _ _ hta
      have htb := e34 _ _ htb
      have kC := kC i x' y' hx' hy' hv
      obtain ⟨f, u, v⟩ := x'
      obtain ⟨f', u', v'⟩ := y'
      have hta' : H5 ta = some (.tup [.int f, optI u, v]) := hta
      have htb' : H5 tb = some (.tup [.int f', optI u', v']) := htb
      walk_at "st"
      refine if_b (fun h => ?_) (fun h => ?_)
      · show tMkO _ _ _ _ _ _ _
        refine ⟨_, rfl, _, rfl, by simp, fun g hg => ?_⟩
        refine ⟨g, _, _, rfl, upd_same, fun d H' hd ne h1 h2 hk => ⟨rfl, d, _, h1, h2, ?_, ?_⟩⟩
        · rw [upd_ne ne] at hd; exact hd
        · rw [upd_ne ne] at hd
          refine (fun (keep : Ex H5 _) => kC h d ta tb _ (Ex.free (e12.trans e34) hd) ((e12.trans e34).trans keep) (keep _ _ hta) (keep _ _ htb) upd_same) (fun b o e => ?_)
          have hb : b ≠ g := ne_of_none e hg
          rw [upd_ne (ne_of_none e hd), del_ne hb]
          exact hk b o (by rw [upd_ne hb]; exact e) hb
      · walk_at "st"
        refine ⟨_, _, rfl, e34, fun j x y hj ex ey => ?_⟩
        by_cases q : j < i
        · exact hv j x y q ex ey
        · have : j = i := by omega
          subst this
          cases hx'.symm.trans ex
          cases hy'.symm.trans ey
          exact h
    · rintro σ' H4 ⟨t6, t7, rfl, e3, hv⟩
      walk_at "st"
      refine kQ (fun j x y ex ey => hv j x y ?_ ex ey) p H4 ys hp (e12.trans e3) (e3 _ _ hlm) (hYm.ex e3)
      obtain ⟨q, _⟩ := List.getElem?_eq_some_iff.mp ey
      rw [srt, List.length_mergeSort] at q
      rw [List.length_drop]
      omega
theorem ok_Book_init (T : Tx w K mg) : FnRK P w K mg base (L2.CX P w) 7 T.a_Book_init ["ends"] (fun vs zs H Q E => ∃ x rest z, vs = x :: rest ∧ zs = [z] ∧ rest.length ≤ sizeLine ∧ ∀ p, H p = Option.none → (spBookInit T.c_Book T.c_EmptyRow T.c_Clash) [x, z, V.ref p] (upd H p (.tup rest)) Q E) := by
  obtain ⟨oc, od, kV, doc, pm, an, cdv, ct, osl, e, lk, hcd⟩ := T.F_Book_init.ex
  rw [e] at lk
  refine fn_starK (sp := spBookInit T.c_Book T.c_EmptyRow T.c_Clash) lk hcd sc_Book_init StX.cxUp (fun u b rest => by cases rest <;> rfl) (fun A outer s H vs Q E hr h => ?_)
  · obtain ⟨p, dx, t, s, xs, rs, rfl, hp, ht, hR, hl, kE, kQ⟩ := h
    refine ⟨_, (pss_cons (ps_fld (pv 0) (pv 1) rfl) (pss_one (ps_fld (pv 0) (pe_call (ok_checked_rows T) (hr.mono (by decide)) rfl T.g_checked_rows T.F_checked_rows.kp T.b_checked_rows .nil (passes_call (W := fun cls d _ H => E cls d H) (takes_of rfl rfl rfl rfl) (fun _ _ _ _ h => h)) (pa_cons (pe_callTy c_listOf (by rfl) T.n_list (by decide +kernel) (pa_cons (pv 2) pa_nil)) (pa_cons (pv 1) pa_nil))) rfl))), ?_⟩; (try simp only [cxOf])
    walk_at "st"
    have np : t ≠ p := ne_of ht hp (fun z => by cases z)
    have ht' : Hm t = some (.tup xs) := hmB _ _ np ht
    have hR' : RunsAt Hm xs rs := hR.tp (hmB.tpI hp)
    refine ⟨t, xs, rfl, .inr (SqT.of ht'), fun c hc => ?_⟩
    generalize hq : upd Hm c (.lst xs) = H2
    have e1 := ofE hq.symm hc
    have hL := ofA hq.symm
    clear hq
    have b2 : But p H H2 := fun b o hb e => e1 _ _ (hmB b o hb e)
    have hp2 := e1 _ _ hmA
    obtain ⟨kE1, kE2⟩ := kE H2 b2
    walk_at "st"
    refine ⟨c, xs, rs, s, rfl, hL, hR'.ex e1, hl, kE1, fun hall => ⟨kE2 hall, fun hb D H' ys hD e2 hD' hY => ?_⟩⟩
    have hp3 := e2 _ _ hp2
    clear hmA hmB ht hp
    walk_at "st"
    have nD : D ≠ p := fun z => by rw [z, hp2] at hD; cases hD
    exact kQ ⟨hall, hb⟩ D Hm (But.free b2 hp2 hD) (fun b o hn e => hmB b o hn (e2 _ _ (b2 b o hn e))) ⟨dx, ys, hmA, hmB _ _ nD hD', hY.tp (hmB.tpI hp3)⟩
theorem ok_Lwritten (T : Tx w K mg) : FnOk P w K mg base CX0 1 T.a_Lwritten T.fd_Lwritten ["rows", "ends"] (spLwritten) := by
  refine T.F_Lwritten.ok sc_Lwritten (fun vs H Q E h => ?_) (fun cdv A outer s H vs Q E hr h => ?_)
  · obtain ⟨a, s, xs, rs, rfl, _⟩ := h
    rfl
  · obtain ⟨a, s, xs, rs, rfl, hs, ha, hR, hl, kk⟩ := h
    refine ⟨_, (pss_cons (ps_set (i := 2) sc_Lwritten.nd rfl (by first | exact Or.inl rfl | exact Or.inr rfl) (pe_callTy c_int1 (by rfl) T.n_int (by decide +kernel) (pa_cons (pe_cmpR op_eq (pv 1) pe_str (nomark _)) pa_nil))) (pss_one (ps_ret (pe_lc (own := [("start", 3), ("stop", 4), ("value", 5)]) rfl sc_Lwritten.nd (pi_list (pv 0)) (blkOk_by (N := ["rows", "ends", "less", "start", "stop", "value"]) (sc := defScope s_Lwritten) (by decide +kernel)) (fun _ _ _ _ _ =>  by exact (pg_tupK (K0 := K) (n := 3) rfl (pgs_cons (pg_name (i := 3) sc_Lwritten.nd rfl (by first | exact Or.inl rfl | exact Or.inr rfl)) (pgs_cons (pg_name (i := 4) sc_Lwritten.nd rfl (by first | exact Or.inl rfl | exact Or.inr rfl)) (pgs_cons (pg_name (i := 5) sc_Lwritten.nd rfl (by first | exact Or.inl rfl | exact Or.inr rfl)) pgs_nil))))) (fun _ _ _ _ _ =>  by exact pts_nil) (fun _ _ _ _ _ =>  by exact (pe_tup (pa_cons (pv 3) (pa_cons (pe_ifExp (pt_cmp (pc_isN (pv 4))) pe_non (pe_op op_sub (pv 4) (pv 2))) (pa_cons (pv 5) pa_nil))))))))), ?_⟩; (try simp only [cxOf])
    walk_at "st"
    have hn := hR.len
    refine lcx (fun i acc H' => RunsAt H' acc ((rs.take i).map (writR s))) (SqL.of ha) (by omega) (fun H' _ => .nil) (fun i acc H H' e h => h.tp e) (fun i x acc H' Qk Qn hx ex hal pa kk1 kk2 => ?_) (fun D acc H' hD ex hD' hal pa => ?_)
    · obtain ⟨t, r, rfl, hr', ht⟩ := hR.at' hx
      have ht := ex _ _ ht
      have step : (rs.take (i + 1)).map (writR s) = (rs.take i).map (writR s) ++ [writR s r] := by rw [List.take_succ, hr']; simp
      obtain ⟨f, u, v⟩ := r
      have em := less_of hs u
      cases u with
      | none =>
        try simp only [optI] at *
        walk_at "st"
        refine ⟨rfl, ?_⟩
        walk_at "st"
        refine kk1 _ _ hmE ?_
        rw [step]
        exact (pa.ex hmE).app (.one hmA)
      | some n =>
        try simp only [optI] at *
        walk_at "st"
        refine ⟨rfl, ?_⟩
        walk_at "st"
        refine kk1 _ _ hmE ?_
        rw [step]
        refine (pa.ex hmE).app (.one ?_)
        show Hm pn = some (.tup [.int f, optI (untilOf (some n) s), v])
        rw [← em]
        exact hmA
    · refine kk D H' acc hD ex hD' ?_
      rw [List.take_of_length_le (by omega)] at pa
      exact pa
theorem ok_Lborders (T : Tx w K mg) : FnOk P w K mg base CX0 1 T.a_Lborders T.fd_Lborders ["rows"] (spLborders27) := by
  refine T.F_Lborders.ok sc_Lborders (fun vs H Q E h => ?_) (fun cdv A outer s H vs Q E hr h => ?_)
  · obtain ⟨a, xs, rs, rfl, _⟩ := h
    rfl
  · obtain ⟨a, xs, rs, rfl, ha, hR, hl, kk⟩ := h
    refine ⟨_, (pss_one (ps_ret (pe_op op_addX (pe_lc (own := [("row", 1)]) rfl sc_Lborders.nd (pi_list (pv 0)) (blkOk_by (N := ["rows", "row"]) (sc := defScope s_Lborders) (by decide +kernel)) (fun _ _ _ _ _ =>  by exact (pg_name (i := 1) sc_Lborders.nd rfl (by first | exact Or.inl rfl | exact Or.inr rfl))) (fun _ _ _ _ _ =>  by exact pts_nil) (fun _ _ _ _ _ =>  by exact (pe_ix (ix_seqK (K0 := K)) (pv 1) pe_int (fun _ _ => rfl)))) (pe_lc (own := [("row", 1)]) rfl sc_Lborders.nd (pi_list (pv 0)) (blkOk_by (N := ["rows", "row"]) (sc := defScope s_Lborders) (by decide +kernel)) (fun _ _ _ _ _ =>  by exact (pg_name (i := 1) sc_Lborders.nd rfl (by first | exact Or.inl rfl | exact Or.inr rfl))) (fun _ _ _ _ _ =>  by exact (pts_one (pt_cmp (pc_notN (pe_ix (ix_seqK (K0 := K)) (pv 1) pe_int (fun _ _ => rfl)))))) (fun _ _ _ _ _ =>  by exact (pe_ix (ix_seqK (K0 := K)) (pv 1) pe_int (fun _ _ => rfl))))))), ?_⟩; (try simp only [cxOf])
    have hn := hR.len
    walk_at "st"
    refine lcx (fun i acc H' => acc = (((rs.take i).map (·.1)).map V.int)) (SqL.of ha) (by omega) (fun H' _ => rfl) (fun i acc H H' e h => h) (fun i x acc H' Qk Qn hx ex hal pa kk1 kk2 => ?_) (fun D acc H1 hD ex1 hD' hal pa => ?_)
    · obtain ⟨t, r, rfl, hr', ht⟩ := hR.at' hx
      have ht := ex _ _ ht
      walk_at "st"
      refine ⟨rfl, ?_⟩
      walk_at "st"
      refine kk1 _ _ (Ex.refl _) ?_
      rw [pa, List.take_succ, hr']
      simp
    rw [List.take_of_length_le (by omega)] at pa
    subst pa
    walk_at "st"
    refine lcx (fun i acc H' => acc = (((rs.take i).filterMap (·.2.1)).map V.int)) (SqL.of (ex1 _ _ ha)) (by omega) (fun H' _ => rfl) (fun i acc H H' e h => h) (fun i x acc H' Qk Qn hx ex hal pa kk1 kk2 => ?_) (fun D2 acc H2 hD2 ex2 hD2' hal2 pa => ?_)
    · obtain ⟨t, r, rfl, hr', ht⟩ := hR.at' hx
      have ht := ex _ _ (ex1 _ _ ht)
      have step : (rs.take (i + 1)).filterMap (·.2.1) = (rs.take i).filterMap (·.2.1) ++ r.2.1.toList := by
        rw [List.take_succ, hr', List.filterMap_append]
        cases h : r.2.1 <;> simp [h]
      obtain ⟨f, u, v⟩ := r
      cases u with
      | none =>
        have ht : H' t = some (.tup [.int f, .non, v]) := ht
        walk_at "st"
        refine ⟨rfl, ?_⟩
        walk_at "st"
        refine kk2 _ (Ex.refl _) ?_
        rw [step, pa]; simp
      | some n =>
        have ht : H' t = some (.tup [.int f, .int n, v]) := ht
        walk_at "st"
        refine ⟨rfl, ?_⟩
        walk_at "st"
        refine kk1 _ _ (Ex.refl _) ?_
        rw [step, pa]; simp
    · rw [List.take_of_length_le (by omega)] at pa
      subst pa
      have hu : (rs.filterMap (·.2.1)).length ≤ rs.length := List.length_filterMap_le _ _
      have hl1 : ((rs.map (·.1)).map V.int).length ≤ 100000 := by simp; omega
      have hl2 : ((rs.filterMap (·.2.1)).map V.int).length ≤ 100000 := by simp; omega
      refine r_addL (ex2 _ _ hD') hD2' (szO (by omega)) fun m Hm hmN hmE hmA => ?_
      rw [← List.map_append] at hmA
      exact kk m Hm _ ((ex1.trans ex2).free hmN) ((ex1.trans ex2).trans hmE) hmA (by simp; omega) (fun B hB x hx => by
        rcases List.mem_append.mp hx with h | h
        · obtain ⟨r, hr, rfl⟩ := List.mem_map.mp h
          exact (hB r hr).1
        · obtain ⟨r, hr, e⟩ := List.mem_filterMap.mp h
          exact (hB r hr).2.1 x e)
theorem ok_row_line (T : Tx w K mg) : FnOk P w K mg base CX0 1 T.a_row_line T.fd_row_line ["row"] (spRowLine) := by
  refine T.F_row_line.ok sc_row_line (fun vs H Q E h => ?_) (fun cdv A outer s H vs Q E hr h => ?_)
  · obtain ⟨t, r, rfl, _⟩ := h
    rfl
  · obtain ⟨t, ⟨f, u, v⟩, rfl, ht, ⟨s1, s2, s3⟩, kk⟩ := h
    have ht : H t = some (.tup [.int f, optI u, v]) := ht
    have s1 : Sml f := s1
    have s2 : ∀ n, u = some n → Sml n := s2
    have s3 : SmlV v := s3
    have l1 := strI_len s1
    have l2 : (endS u).length ≤ 100 := by
      cases e : u with
      | none => decide +kernel
      | some n => exact strI_len (s2 n e)
    have l3 : (valS v).length ≤ 1001 := by
      cases s3 with
      | int h => have := strI_len h; show (strI _).length ≤ _; omega
      | str h _ =>
        show ((Str.ofString "'") ++ _).length ≤ _
        rw [PySem.Str.length_append]
        have : (Str.ofString "'").length = 1 := by decide +kernel
        omega
    have sp1 : (Str.ofString " ").length = 1 := by decide +kernel
    refine ⟨_, (pss_cons (ps_asg (pv 0) (pg_tupK (K0 := K) (n := 3) rfl (pgs_cons (pg_name (i := 1) sc_row_line.nd rfl (by first | exact Or.inl rfl | exact Or.inr rfl)) (pgs_cons (pg_name (i := 2) sc_row_line.nd rfl (by first | exact Or.inl rfl | exact Or.inr rfl)) (pgs_cons (pg_name (i := 3) sc_row_line.nd rfl (by first | exact Or.inl rfl | exact Or.inr rfl)) pgs_nil))))) (pss_cons (ps_join (ps_set (i := 4) sc_row_line.nd rfl (by first | exact Or.inl rfl | exact Or.inr rfl) (pe_ifExp (pt_cmp (pc_isN (pv 2))) (pe_glob (v := .str "open") rfl T.kg_NO_END ⟨_, rfl⟩) (pe_callTy c_strI (by rfl) T.n_str (by decide +kernel) (pa_cons (pv 2) pa_nil))))) (pss_cons (ps_join (ps_set (i := 5) sc_row_line.nd rfl (by first | exact Or.inl rfl | exact Or.inr rfl) (pe_ifExp (pt_val (pe_callB call_isi (by rfl) T.n_isinstance (by decide +kernel) (pa_cons (pv 3) (pa_cons (pe_bltn (v := .ty "str") (by rfl) T.n_str (by decide +kernel) rfl) pa_nil)))) (pe_op op_addX (pe_glob (v := .str "'") rfl T.kg_QUOTE ⟨_, rfl⟩) (pv 3)) (pe_callTy c_strI (by rfl) T.n_str (by decide +kernel) (pa_cons (pv 3) pa_nil))))) (pss_one (ps_ret (pe_joinedT (PJ.cons (pe_fmt12 (pv 1) (pe_joined1 pe_str)) (PJ.cons pe_str (PJ.cons (pe_fmt12 (pv 4) (pe_joined1 pe_str)) (PJ.cons pe_str (PJ.cons (pe_fmt (pv 5)) PJ.nil))))))))))), ?_⟩; (try simp only [cxOf])
    walk_at "st"
    refine r_join (fun σ' H' => H' = H ∧ σ' = [some (.ref t), some (.int f), some (optI u), some v, some (.str (endS u)), none]) (fun R' k => ?_) ?_
    · cases u with
      | none =>
        walk_at "st"
        exact k _ _ ⟨rfl, rfl⟩
      | some n =>
        walk_at "st"
        refine r_strI (sml_log (s2 n rfl)) ?_
        walk_at "st"
        exact k _ _ ⟨rfl, rfl⟩
    rintro σ' H' ⟨hH, rfl⟩; rw [hH]; clear hH H'
    walk_at "st"
    refine r_join (fun σ' H' => H' = H ∧ σ' = [some (.ref t), some (.int f), some (optI u), some v, some (.str (endS u)), some (.str (valS v))]) (fun R' k => ?_) ?_
    · cases s3 with
      | int h =>
        walk_at "st"
        refine r_strI (sml_log h) ?_
        walk_at "st"
        exact k _ _ ⟨rfl, rfl⟩
      | @str z h _ =>
        walk_at "st"
        refine r_addS (by
          have : (Str.ofString "'").length = 1 := by decide +kernel
          rw [this, sizeLine_eq]; omega) ?_
        walk_at "st"
        exact k _ _ ⟨rfl, rfl⟩
    rintro σ' H' ⟨hH, rfl⟩; rw [hH]; clear hH H'
    walk_at "st"
    have a1 := rj_len (y := strI f)
    have a2 := rj_len (y := endS u)
    refine r_joined (r_jsC ?_)
    walk_at "st"
    refine .inr ⟨_, rfl, sml_log s1, _, rfl, ?_, ?_⟩
    · rw [emp_app, sizeLine_eq]
      show (rj (strI f)).length ≤ _
      omega
    rw [emp_app]
    show tJs _ (rj (strI f)) _ _ _
    refine r_jsC ?_
    walk_at "st"
    refine ⟨_, rfl, by rw [PySem.Str.length_append, sp1, sizeLine_eq]; omega, r_jsC ?_⟩
    walk_at "st"
    refine .inl ⟨_, rfl, _, rfl, ?_, ?_⟩
    · show ((rj (strI f) ++ Str.ofString " ") ++ rj (endS u)).length ≤ _
      rw [PySem.Str.length_append, PySem.Str.length_append, sp1, sizeLine_eq]
      omega
    show tJs _ ((rj (strI f) ++ Str.ofString " ") ++ rj (endS u)) _ _ _
    refine r_jsC ?_
    walk_at "st"
    refine ⟨_, rfl, by rw [PySem.Str.length_append, PySem.Str.length_append, PySem.Str.length_append, sp1, sizeLine_eq]; omega, r_jsC (r_fmtS ?_)⟩
    walk_at "st"
    refine .inl ⟨_, rfl, by rw [sizeLine_eq]; omega, _, rfl, by rw [PySem.Str.length_append, PySem.Str.length_append, PySem.Str.length_append, PySem.Str.length_append, sp1, sizeLine_eq]; omega, r_jsN ?_⟩
    exact kk
theorem ok_Book_iter (T : Tx w K mg) : FnOk P w K mg base CX0 1 T.a_Book_iter T.fd_Book_iter ["self"] (spIterF T.c_Book "_rows") := by
  refine T.F_Book_iter.ok sc_Book_iter (fun vs H Q E h => ?_) (fun cdv A outer s H vs Q E hr h => ?_)
  · obtain ⟨a, dx, l, fs, xs, rfl, _⟩ := h
    rfl
  · obtain ⟨a, dx, l, fs, xs, rfl, ha, hff, hl, kk⟩ := h
    refine ⟨_, (pss_one (ps_ret (pe_callB call_iterY (by rfl) T.n_iter (by decide +kernel) (pa_cons (pe_fld (pv 0) rfl) pa_nil)))), ?_⟩; (try simp only [cxOf])
    walk_at "st"
    refine r_iterY (SqL.of hl) fun it hit big => ?_
    walk_at "st"
    exact kk it hit big
theorem ok_printed (T : Tx w K mg) : FnOk P w K mg base CX0 10 T.a_printed T.fd_printed ["book"] (spPrinted T.c_Book) := by
  refine T.F_printed.ok sc_printed (fun vs H Q E h => ?_) (fun cdv A outer s H vs Q E hr h => ?_)
  · obtain ⟨p, l, rs, s, rfl, _⟩ := h
    rfl
  · obtain ⟨p, l, rs, s, rfl, hB, hs, hS, hz, kk⟩ := h
    have fit : FnAt P w K mg base 1 T.a_Book_iter T.fd_Book_iter ["self"] (spIterN T.c_Book "_rows") := by
      refine fn_at T.F_Book_iter sc_Book_iter fun cv A1 fr z G vs R hr h => ?_
      obtain ⟨a, dx, l, fs, xs, rfl, ha, hff, hl, kk⟩ := h
      refine ⟨_, (pss_one (ps_ret (pe_callB call_iterN (by rfl) T.n_iter (by decide +kernel) (pa_cons (pe_fld (pv 0) rfl) pa_nil)))), ?_⟩
      walk_at "st"
      refine r_iterN (SqL.of hl) fun it hit big => ?_
      walk_at "st"
      exact kk it hit big
    refine ⟨_, (pss_one (ps_ret (pe_join pe_str (pe_lst (pa_cons (pe_ix ix_kdict (pe_glob (v := .ref T.kd_FIRST_LINES) rfl T.kg_FIRST_LINES rfl) (pe_fld (pv 0) rfl) (fun _ _ => rfl)) (StX.pa_star (pe_lc (own := [("row", 1)]) rfl sc_printed.nd ((pi_ownN T.sq_Book fit rfl T.b_Book_iter (hr.mono (by decide))) (pv 0)) (blkOk_by (N := ["book", "row"]) (sc := defScope s_printed) (by decide +kernel)) (fun _ _ _ _ _ =>  by exact (pg_name (i := 1) sc_printed.nd rfl (by first | exact Or.inl rfl | exact Or.inr rfl))) (fun _ _ _ _ _ =>  by exact pts_nil) (fun _ _ _ _ _ =>  by exact (pe_call (ok_row_line T) (hr.mono (by decide)) rfl T.g_row_line T.F_row_line.kp T.b_row_line .nil pass0 (pa_cons (pv 1) pa_nil)))) pa_nil)))))), ?_⟩; (try simp only [cxOf])
    obtain ⟨dx, zb, hp, hlb, hRb⟩ := id hB
    have zl := hRb.len
    have key : KDct K w T.kd_FIRST_LINES s (.str (headS s)) := by
      rcases hs with rfl | rfl
      · rw [head_last]; exact T.dg_FIRST_LINES_0
      · rw [head_next]; exact T.dg_FIRST_LINES_1
    walk_at "st"
    refine ⟨_, _, _, rfl, rfl, key, ?_⟩
    walk_at "st"
    refine ⟨p, dx, l, _, zb, rfl, hp, rfl, hlb, ?_⟩
    refine lcx (fun i acc _ => acc = ((rs.take i).map rowL).map V.str) (SqL.of hlb) (by omega) (fun _ _ => rfl) (fun _ _ _ _ _ h => h) (fun i x acc H' Qk Qn hx ex hal pa kk1 kk2 => ?_) (fun D acc H' nD eD hD hal pa => ?_)
    · obtain ⟨t, r, rfl, hr', ht⟩ := hRb.at' hx
      have ht := ex _ _ ht
      walk_at "st"
      refine ⟨rfl, ?_⟩
      walk_at "st"
      refine ⟨t, r, rfl, ht, hS r (List.mem_of_getElem? hr'), ?_⟩
      refine kk1 _ _ (Ex.refl _) ?_
      rw [pa, List.take_succ, hr']
      simp
    · rw [List.take_of_length_le (by omega)] at pa
      subst pa
      walk_at "st"
      refine ⟨_, _, headS s :: rs.map rowL, rfl, rfl, .inl (SqL.of (by simpa using hmA)), join_fit hS hz, ?_⟩
      exact kk _ (eD.trans hmE)
theorem ok_Ldue (T : Tx w K mg) : FnOk P w K mg base CX0 2 T.a_Ldue T.fd_Ldue ["rows", "ends"] (spLdue27) := by
  refine T.F_Ldue.ok sc_Ldue (fun vs H Q E h => ?_) (fun cdv A outer s H vs Q E hr h => ?_)
  · obtain ⟨a, s, xs, ts, rfl, _⟩ := h
    rfl
  · obtain ⟨a, s, xs, ts, rfl, hs, ha, hR, hS, hz, kk⟩ := h
    refine ⟨_, (pss_cons (ps_join (ps_set (i := 2) sc_Ldue.nd rfl (by first | exact Or.inl rfl | exact Or.inr rfl) (pe_lst (pa_cons (pe_ifExp (pt_cmpR op_eq (pv 1) pe_str (nomark _)) pe_str pe_str) pa_nil)))) (pss_cons (ps_for PassesOwn.never rfl (pi_list (pe_call (ok_Lwritten T) (hr.mono (by decide)) rfl T.g_Lwritten T.F_Lwritten.kp T.b_Lwritten .nil pass0 (pa_cons (pv 0) (pa_cons (pv 1) pa_nil)))) (pg_tupK (K0 := K) (n := 3) rfl (pgs_cons (pg_name (i := 3) sc_Ldue.nd rfl (by first | exact Or.inl rfl | exact Or.inr rfl)) (pgs_cons (pg_name (i := 4) sc_Ldue.nd rfl (by first | exact Or.inl rfl | exact Or.inr rfl)) (pgs_cons (pg_name (i := 5) sc_Ldue.nd rfl (by first | exact Or.inl rfl | exact Or.inr rfl)) pgs_nil)))) (pss_cons (ps_join (ps_set (i := 6) sc_Ldue.nd rfl (by first | exact Or.inl rfl | exact Or.inr rfl) (pe_ifExp (pt_cmp (pc_isN (pv 4))) pe_str (pe_callTy c_strI (by rfl) T.n_str (by decide +kernel) (pa_cons (pv 4) pa_nil))))) (pss_cons (ps_join (ps_set (i := 7) sc_Ldue.nd rfl (by first | exact Or.inl rfl | exact Or.inr rfl) (pe_ifExp (pt_val (pe_callB call_isi (by rfl) T.n_isinstance (by decide +kernel) (pa_cons (pv 5) (pa_cons (pe_bltn (v := .ty "str") (by rfl) T.n_str (by decide +kernel) rfl) pa_nil)))) (pe_op op_addX pe_str (pv 5)) (pe_callTy c_strI (by rfl) T.n_str (by decide +kernel) (pa_cons (pv 5) pa_nil))))) (pss_one (ps_expr (pe_bm PySem.F.plainAttrs_list PySem.F.slot_list_append PySem.F.type_list_append mt_append (pv 2) (pa_cons (pe_op op_addX (pe_op op_addX (pe_op op_addX (pe_op op_addX (pe_m1 PySem.F.slot_str_rjust PySem.F.type_str_rjust mt_rjust (pe_callTy c_strI (by rfl) T.n_str (by decide +kernel) (pa_cons (pv 3) pa_nil)) pe_int) pe_str) (pe_m1 PySem.F.slot_str_rjust PySem.F.type_str_rjust mt_rjust (pv 6) pe_int)) pe_str) (pv 7)) pa_nil))))))) (pss_one (ps_ret (pe_join pe_str (pv 2)))))), ?_⟩; (try simp only [cxOf])
    have hxl := hR.len
    refine r_join (fun σ' H' => ∃ L, σ' = [some (.ref a), some (.str s), some (.ref L), none, none, none, none, none] ∧ Ex H H' ∧ H L = none ∧ H' L = some (.lst [.str (headS s)])) (fun R' k => ?_) ?_
    · walk_at "st"
      rcases hs with rfl | rfl
      · refine if_dT rfl ?_
        walk_at "st"
        rw [← head_last] at hmA
        exact k _ _ ⟨_, rfl, hmE, hmN, hmA⟩
      · refine if_dF (by decide +kernel) ?_
        walk_at "st"
        rw [← head_next] at hmA
        exact k _ _ ⟨_, rfl, hmE, hmN, hmA⟩
    rintro σ' H1 ⟨L, rfl, e1, nL, hL⟩
    walk_at "st"
    refine ⟨a, s, xs, ts, rfl, hs, e1 _ _ ha, hR.ex e1, by omega, fun U H2 us nU e2 hU rU => ?_⟩
    have hul := rU.len
    rw [List.length_map] at hul
    have LU : U ≠ L := (ne_of_none hL nU).symm
    walk_at "st"
    have sp1 : (Str.ofString " ").length = 1 := by decide +kernel
    refine fo_list (xs := us) (fun i σ' H' => ∃ (t3 t4 t5 t6 t7 : Option V), σ' = [some (.ref a), some (.str s), some (.ref L), t3, t4, t5, t6, t7] ∧ But L H2 H' ∧ H' L = some (.lst ((headS s :: ((ts.take i).map (writR s)).map rowL).map V.str)))
      ⟨_, _, _, _, _, rfl, But.refl _ _, e2 _ _ hL⟩ (fun i σ' H' hi ⟨_, _, _, _, _, _, b, _⟩ => SqL.of (b _ _ LU hU)) ?_ ?_
    · rintro i x σ' H3 hx ⟨t3, t4, t5, t6, t7, rfl, b3, hL3⟩
      obtain ⟨t, r, rfl, hr', ht⟩ := rU.at' hx
      have hi : i < ts.length := by
        have := (List.getElem?_eq_some_iff.mp hx).1
        omega
      rw [List.getElem?_map, Option.map_eq_some_iff] at hr'
      obtain ⟨r0, hr0, rfl⟩ := hr'
      have sm := hS r0 (List.mem_of_getElem? hr0)
      have step : (headS s :: ((ts.take (i + 1)).map (writR s)).map rowL).map V.str = (headS s :: ((ts.take i).map (writR s)).map rowL).map V.str ++ [V.str (rowL (writR s r0))] := by
        rw [List.take_succ, hr0]
        simp
      have hzl : ((headS s :: ((ts.take i).map (writR s)).map rowL).map V.str).length < sizeLine := by
        rw [List.length_map, List.length_cons, List.length_map, List.length_map, List.length_take, sizeLine_eq]
        omega
      have ht3 := b3 _ _ (ne_of ht (e2 _ _ hL) (by intro z; cases z)) ht
      rw [step]
      clear ht step
      generalize writR s r0 = r at *
      generalize (headS s :: ((ts.take i).map (writR s)).map rowL).map V.str = zs at *
      obtain ⟨f, u, v⟩ := r
      obtain ⟨s1, s2, s3⟩ := sm
      have ht : H3 t = some (.tup [.int f, optI u, v]) := ht3
      clear ht3
      have s1 : Sml f := s1
      have s2 : ∀ n, u = some n → Sml n := s2
      have s3 : SmlV v := s3
      have l1 := strI_len s1
      have l2 : (endS u).length ≤ 100 := by
        cases e : u with
        | none => decide +kernel
        | some n => exact strI_len (s2 n e)
      have l3 : (valS v).length ≤ 1001 := by
        cases s3 with
        | int h => have := strI_len h; show (strI _).length ≤ _; omega
        | str h _ =>
          show ((Str.ofString "'") ++ _).length ≤ _
          rw [PySem.Str.length_append]
          have : (Str.ofString "'").length = 1 := by decide +kernel
          omega
      have a1 := rj_len (y := strI f)
      have a2 := rj_len (y := endS u)
      walk_at "st"
      refine r_join (fun σ' H' => H' = H3 ∧ σ' = [some (.ref a), some (.str s), some (.ref L), some (.int f), some (optI u), some v, some (.str (endS u)), t7]) (fun R' k => ?_) ?_
      · cases u with
        | none =>
          walk_at "st"
          exact k _ _ ⟨rfl, rfl⟩
        | some n =>
          walk_at "st"
          refine r_strI (sml_log (s2 n rfl)) ?_
          walk_at "st"
          exact k _ _ ⟨rfl, rfl⟩
      rintro σ' H' ⟨hH, rfl⟩; rw [hH]; clear hH H'
      walk_at "st"
      refine r_join (fun σ' H' => H' = H3 ∧ σ' = [some (.ref a), some (.str s), some (.ref L), some (.int f), some (optI u), some v, some (.str (endS u)), some (.str (valS v))]) (fun R' k => ?_) ?_
      · cases s3 with
        | int h =>
          walk_at "st"
          refine r_strI (sml_log h) ?_
          walk_at "st"
          exact k _ _ ⟨rfl, rfl⟩
        | @str z h _ =>
          walk_at "st"
          refine r_addS (by
            have : (Str.ofString "'").length = 1 := by decide +kernel
            rw [this, sizeLine_eq]; omega) ?_
          walk_at "st"
          exact k _ _ ⟨rfl, rfl⟩
      rintro σ' H' ⟨hH, rfl⟩; rw [hH]; clear hH H'
      walk_at "st"
      refine r_strI (sml_log s1) ?_
      walk_at "st"
      refine ⟨_, _, rfl, rfl, rfl, ?_⟩
      walk_at "st"
      show rAddX (.str (rj (strI f))) _ _ _
      refine r_addS (by rw [sp1, sizeLine_eq]; omega) ?_
      walk_at "st"
      refine ⟨_, _, rfl, rfl, rfl, ?_⟩
      walk_at "st"
      show rAddX _ (.str (rj (endS u))) _ _
      refine r_addS (by rw [PySem.Str.length_append, sp1, sizeLine_eq]; omega) ?_
      walk_at "st"
      refine r_addS (by rw [PySem.Str.length_append, PySem.Str.length_append, sp1, sizeLine_eq]; omega) ?_
      walk_at "st"
      refine r_addS (by rw [PySem.Str.length_append, PySem.Str.length_append, PySem.Str.length_append, sp1, sizeLine_eq]; omega) ?_
      walk_at "st"
      exact ⟨_, _, _, _, _, rfl, b3.trans hmB, hmA⟩
    · rintro σ' H3 ⟨t3, t4, t5, t6, t7, rfl, b3, hL3⟩
      rw [List.take_of_length_le (by omega)] at hL3
      have sW : ∀ r ∈ ts.map (writR s), SmlR r := fun r h => by
        obtain ⟨r0, h0, rfl⟩ := List.mem_map.mp h
        exact hS r0 h0
      walk_at "st"
      refine ⟨_, _, headS s :: (ts.map (writR s)).map rowL, rfl, rfl, .inl (SqL.of hL3), join_fit sW (by rw [List.length_map]; omega), ?_⟩
      exact kk _ (Ex.mut (e1.trans e2) b3 nL)
theorem ok_Lsame_value (T : Tx w K mg) : FnOk P w K mg base CX0 1 T.a_Lsame_value T.fd_Lsame_value ["one", "other"] (spLsameV) := by
  refine T.F_Lsame_value.ok sc_Lsame_value (fun vs H Q E h => ?_) (fun cdv A outer s H vs Q E hr h => ?_)
  · obtain ⟨x, y, rfl, _⟩ := h
    rfl
  · obtain ⟨x, y, rfl, hx, hy, kk⟩ := h
    refine ⟨_, (pss_one (ps_ret (pe_and (pe_cmpR op_eq (pe_callB call_isi (by rfl) T.n_isinstance (by decide +kernel) (pa_cons (pv 0) (pa_cons (pe_bltn (v := .ty "int") (by rfl) T.n_int (by decide +kernel) rfl) pa_nil))) (pe_callB call_isi (by rfl) T.n_isinstance (by decide +kernel) (pa_cons (pv 1) (pa_cons (pe_bltn (v := .ty "int") (by rfl) T.n_int (by decide +kernel) rfl) pa_nil))) (nomark _)) (pe_one (pe_cmpR op_eq (pv 0) (pv 1) (nomark _)))))), ?_⟩; (try simp only [cxOf])
    cases hx <;> cases hy
    · walk_at "st"
      simpa [sameV] using kk
    · walk_at "st"
      simpa [sameV] using kk
    · walk_at "st"
      simpa [sameV] using kk
    · walk_at "st"
      simpa [sameV] using kk
theorem ok_Lsame (T : Tx w K mg) : FnOk P w K mg base CX0 2 T.a_Lsame T.fd_Lsame ["told", "due"] (spLsame) := by
  refine T.F_Lsame.ok sc_Lsame (fun vs H Q E h => ?_) (fun cdv A outer s H vs Q E hr h => ?_)
  · obtain ⟨x, y, rfl, _⟩ := h
    rfl
  · obtain ⟨x, y, rfl, hx, hy, kk⟩ := h
    refine ⟨_, (pss_cons (ps_if (PW.pt (pw_or (pt_cmp (pc_isN (pv 0))) (pw_or1 (pt_cmp (pc_isN (pv 1)))))) (pss_one (ps_ret (pe_and (pe_cmp (pc_isN (pv 0))) (pe_one (pe_cmp (pc_isN (pv 1))))))) pss_nil) (pss_one (ps_ret (pe_and (pe_not (pe_callB call_isi (by rfl) T.n_isinstance (by decide +kernel) (pa_cons (pv 0) (pa_cons (pe_bltn (v := .ty "bool") (by rfl) T.n_bool (by decide +kernel) rfl) pa_nil)))) (pe_one (pe_call (ok_Lsame_value T) (hr.mono (by decide)) rfl T.g_Lsame_value T.F_Lsame_value.kp T.b_Lsame_value .nil pass0 (pa_cons (pv 0) (pa_cons (pv 1) pa_nil)))))))), ?_⟩; (try simp only [cxOf])
    cases hx with
    | non =>
      walk_at "st"
      try refine if_dT rfl ?_
      try refine if_T ?_
      walk_at "st"
      try refine if_dT rfl ?_
      walk_at "st"
      have e : decide (V.non = y) = decide (y = V.non) := by simp [eq_comm]
      rw [← e]
      exact kk
    | w wx =>
      have nx : ¬ x = V.non := by intro z; subst z; cases wx
      walk_at "st"
      try refine if_dF nx ?_
      walk_at "st"
      cases hy with
      | non =>
        try refine if_T ?_
        walk_at "st"
        try refine if_dF nx ?_
        simpa [nx] using kk
      | w wy =>
        have ny : ¬ y = V.non := by intro z; subst z; cases wy
        try refine if_dF ny ?_
        walk_at "st"
        cases wx <;>
        · walk_at "st"
          try refine if_T ?_
          walk_at "st"
          exact kk
theorem ok_Lis_number (T : Tx w K mg) : FnOk P w K mg base CX0 1 T.a_Lis_number T.fd_Lis_number ["thing"] (spLisNum) := by
  refine T.F_Lis_number.ok sc_Lis_number (fun vs H Q E h => ?_) (fun cdv A outer s H vs Q E hr h => ?_)
  · obtain ⟨x, rfl, _⟩ := h
    rfl
  · obtain ⟨x, rfl, hx, kk⟩ := h
    refine ⟨_, (pss_one (ps_ret (pe_and (pe_callB call_isi (by rfl) T.n_isinstance (by decide +kernel) (pa_cons (pv 0) (pa_cons (pe_bltn (v := .ty "int") (by rfl) T.n_int (by decide +kernel) rfl) pa_nil))) (pe_one (pe_not (pe_callB call_isi (by rfl) T.n_isinstance (by decide +kernel) (pa_cons (pv 0) (pa_cons (pe_bltn (v := .ty "bool") (by rfl) T.n_bool (by decide +kernel) rfl) pa_nil)))))))), ?_⟩; (try simp only [cxOf])
    cases hx <;>
    · walk_at "st"
      first
        | exact kk
        | exact if_F kk
        | (refine if_T ?_; walk_at "st"; exact kk)
theorem ok_Lare (T : Tx w K mg) : FnOk P w K mg base CX0 3 T.a_Lare T.fd_Lare ["told", "due"] (spLare) := by
  refine T.F_Lare.ok sc_Lare (fun vs H Q E h => ?_) (fun cdv A outer s H vs Q E hr h => ?_)
  · obtain ⟨a, b, xs, ys, rs, rfl, _⟩ := h
    rfl
  · obtain ⟨a, b, xs, ys, rs, rfl, ha, hb, hX, hY, hw, hl, kk⟩ := h
    refine ⟨_, (pss_cons (ps_if (pt_cmpR op_ne (pe_callB c_len (by rfl) T.n_len (by decide +kernel) (pa_cons (pv 0) pa_nil)) (pe_callB c_len (by rfl) T.n_len (by decide +kernel) (pa_cons (pv 1) pa_nil)) (nomark _)) (pss_one (ps_ret pe_bl)) pss_nil) (pss_cons (ps_for PassesOwn.never rfl (pi_range1 (by rfl) T.n_range (pa_cons (pe_callB c_len (by rfl) T.n_len (by decide +kernel) (pa_cons (pv 1) pa_nil)) pa_nil)) (pg_name (i := 2) sc_Lare.nd rfl (by first | exact Or.inl rfl | exact Or.inr rfl)) (pss_cons (ps_set (i := 3) sc_Lare.nd rfl (by first | exact Or.inl rfl | exact Or.inr rfl) (pe_ix ix_seq (pv 0) (pv 2) (fun _ _ => rfl))) (pss_cons (ps_if (PW.pt (pw_or (pt_not (pt_val (pe_callB call_isi (by rfl) T.n_isinstance (by decide +kernel) (pa_cons (pv 3) (pa_cons (pe_bltn (v := .ty "tuple") (by rfl) T.n_tuple (by decide +kernel) rfl) pa_nil))))) (pw_or (pt_cmpR op_ne (pe_callB c_len (by rfl) T.n_len (by decide +kernel) (pa_cons (pv 3) pa_nil)) pe_int (nomark _)) (pw_or (pt_not (pt_val (pe_call (ok_Lis_number T) (hr.mono (by decide)) rfl T.g_Lis_number T.F_Lis_number.kp T.b_Lis_number .nil pass0 (pa_cons (pe_ix ix_seq (pv 3) pe_int (fun _ _ => rfl)) pa_nil)))) (pw_or1 (pt_cmpR op_ne (pe_ix ix_seq (pv 3) pe_int (fun _ _ => rfl)) (pe_ix ix_seq (pe_ix ix_seq (pv 1) (pv 2) (fun _ _ => rfl)) pe_int (fun _ _ => rfl)) (nomark _))))))) (pss_one (ps_ret pe_bl)) pss_nil) (pss_cons (ps_if (PW.pt (pw_or (PW.pt (pw_and (pt_cmp (pc_notN (pe_ix ix_seq (pv 3) pe_int (fun _ _ => rfl)))) (pw_and1 (pt_not (pt_val (pe_call (ok_Lis_number T) (hr.mono (by decide)) rfl T.g_Lis_number T.F_Lis_number.kp T.b_Lis_number .nil pass0 (pa_cons (pe_ix ix_seq (pv 3) pe_int (fun _ _ => rfl)) pa_nil))))))) (pw_or1 (pt_cmpR op_ne (pe_ix ix_seq (pv 3) pe_int (fun _ _ => rfl)) (pe_ix ix_seq (pe_ix ix_seq (pv 1) (pv 2) (fun _ _ => rfl)) pe_int (fun _ _ => rfl)) (nomark _))))) (pss_one (ps_ret pe_bl)) pss_nil) (pss_one (ps_if (pt_not (pt_val (pe_call (ok_Lsame T) (hr.mono (by decide)) rfl T.g_Lsame T.F_Lsame.kp T.b_Lsame .nil pass0 (pa_cons (pe_ix ix_seq (pv 3) pe_int (fun _ _ => rfl)) (pa_cons (pe_ix ix_seq (pe_ix ix_seq (pv 1) (pv 2) (fun _ _ => rfl)) pe_int (fun _ _ => rfl)) pa_nil))))) (pss_one (ps_ret pe_bl)) pss_nil)))))) (pss_one (ps_ret pe_bl)))), ?_⟩; (try simp only [cxOf])
    have lx := hX.len
    have ly := hY.len
    walk_at "st"
    rw [lx, ly]
    refine if_bF (by simp) ?_
    walk_at "st"
    refine fo_range (fun i σ' H' => H' = H ∧ ∃ t2 t3 : Option V, σ' = [some (.ref a), some (.ref b), t2, t3]) ⟨rfl, _, _, rfl⟩ ?_ ?_
    · rintro i σ' H' hi ⟨rfl, t2, t3, rfl⟩
      rw [Int.zero_add]
      have hi' : i < rs.length := by omega
      have hr := List.getElem?_eq_getElem hi'
      obtain ⟨t, ht, gt⟩ := hX.at hr
      obtain ⟨u, hu, gu⟩ := hY.at hr
      have w := hw _ (List.getElem_mem hi')
      generalize rs[i] = r at *
      obtain ⟨f, l, v⟩ := r
      have w : OptW v := .w w
      cases l with
      | none =>
        have gt : H' t = some (.tup [.int f, .non, v]) := gt
        have gu : H' u = some (.tup [.int f, .non, v]) := gu
        walk_at "st"
        refine r_ixL (SqL.of ha) (at_of rfl ht) ?_
        walk_at "st"
        repeat (refine r_ixL (SqL.of hb) (at_of rfl hu) ?_; walk_at "st")
        exact ⟨rfl, _, _, rfl⟩
      | some n =>
        have gt : H' t = some (.tup [.int f, .int n, v]) := gt
        have gu : H' u = some (.tup [.int f, .int n, v]) := gu
        walk_at "st"
        refine r_ixL (SqL.of ha) (at_of rfl ht) ?_
        walk_at "st"
        repeat (refine r_ixL (SqL.of hb) (at_of rfl hu) ?_; walk_at "st")
        exact ⟨rfl, _, _, rfl⟩
    · rintro σ' H' ⟨rfl, t2, t3, rfl⟩
      walk_at "st"
      exact kk
theorem ok_Book_len (T : Tx w K mg) : FnOk P w K mg base CX0 1 T.a_Book_len T.fd_Book_len ["self"] (spLenF T.c_Book "_rows") := by
  refine T.F_Book_len.ok sc_Book_len (fun vs H Q E h => ?_) (fun cdv A outer s H vs Q E hr h => ?_)
  · obtain ⟨a, dx, l, fs, xs, rfl, _⟩ := h
    rfl
  · obtain ⟨a, dx, l, fs, xs, rfl, ha, hff, hl, kk⟩ := h
    refine ⟨_, (pss_one (ps_ret (pe_callB c_len (by rfl) T.n_len (by decide +kernel) (pa_cons (pe_fld (pv 0) rfl) pa_nil)))), ?_⟩; (try simp only [cxOf])
    walk_at "st"
    exact kk
theorem ok_EmptyStretch_init (T : Tx w K mg) : FnOk P w K mg base CX0 1 T.a_EmptyStretch_init T.fd_EmptyStretch_init ["self", "first", "last"] (spInit2 T.c_EmptyStretch "first" "last") := by
  refine T.F_EmptyStretch_init.ok sc_EmptyStretch_init (fun vs H Q E h => ?_) (fun cdv A outer s H vs Q E hr h => ?_)
  · obtain ⟨a, u, v, rfl, _⟩ := h
    rfl
  · obtain ⟨a, u, v, rfl, ha, kk⟩ := h
    refine ⟨_, (pss_cons (ps_ost (pv 0) (pv 1)) (pss_one (ps_ost (pv 0) (pv 2)))), ?_⟩; (try simp only [cxOf])
    walk_at "st"
    refine ⟨a, T.c_EmptyStretch, rfl, T.x_EmptyStretch.ox, T.n_EmptyStretch_first, .inl ⟨ha, fun dx hdx ne => ?_⟩⟩
    walk_at "st"
    refine ⟨a, T.c_EmptyStretch, rfl, T.x_EmptyStretch.ox, T.n_EmptyStretch_last, .inr ⟨dx, _, upd_same, (by rw [upd_ne ne, upd_same]), by simp, ?_⟩⟩
    refine kk dx _ hdx ne (by rw [upd_ne (Ne.symm ne), upd_same]) upd_same fun b o e hb => ?_
    have hbd : b ≠ dx := ne_of_none e hdx
    rw [upd_ne hbd, upd_ne hb, upd_ne hbd]
    exact e
theorem ok_stretch_of (T : Tx w K mg) : FnOk P w K mg base (L2.CX P w) 4 T.a_stretch_of T.fd_stretch_of ["at"] (spStretchOf K T.c_EmptyStretch) := by
  refine T.F_stretch_of.okX sc_stretch_of (fun vs H Q E h => ?_) (fun cdv A outer s H vs Q E hr h => ?_)
  · obtain ⟨at_, f, m, rfl, _⟩ := h
    rfl
  · obtain ⟨at_, f, m, rfl, ha, kE, kQ⟩ := h
    refine ⟨_, (pss_cons (ps_asg (pe_ifExp (pt_val (pe_callB call_isi (by rfl) T.n_isinstance (by decide +kernel) (pa_cons (pv 0) (pa_cons (pe_bltn (v := .ty "tuple") (by rfl) T.n_tuple (by decide +kernel) rfl) pa_nil)))) (pv 0) (pe_tup (pa_cons (pv 0) (pa_cons (pv 0) pa_nil)))) (pg_tupK (K0 := K) (n := 2) rfl (pgs_cons (pg_name (i := 1) sc_stretch_of.nd rfl (by first | exact Or.inl rfl | exact Or.inr rfl)) (pgs_cons (pg_name (i := 2) sc_stretch_of.nd rfl (by first | exact Or.inl rfl | exact Or.inr rfl)) pgs_nil)))) (pss_cons (ps_if (PW.pt (pw_and (pt_cmp (pc_notN (pv 2))) (pw_and1 (pt_cmpR op_lt (pv 2) (pv 1) (nomark _))))) (pss_one (ps_raise rfl (takes_of rfl rfl rfl rfl) (pmk_oex T.x_EmptyStretch.ox T.x_EmptyStretch.ini T.x_EmptyStretch.tI (ok_EmptyStretch_init T) (hr.mono (by decide)) T.b_EmptyStretch_init .nil pass0 rfl T.g_EmptyStretch (pa_cons (pv 1) (pa_cons (pv 2) pa_nil))))) pss_nil) (pss_one (ps_ret (pe_tup (pa_cons (pv 1) (pa_cons (pv 2) pa_nil))))))), ?_⟩; (try simp only [cxOf])
    rcases ha with ⟨rfl, rfl⟩ | ⟨t, rfl, ht⟩
    · walk_at "st"
      refine kQ (fun k e => by cases e; exact Int.le_refl _) pn _ (Ex.free (by walk_at "exh") hmN) (by walk_at "exh") hmA
    · cases m with
      | none =>
        have ht : H t = some (.tup [.int f, .non]) := ht
        walk_at "st"
        exact kQ (fun k e => by cases e) _ _ hmN hmE hmA
      | some n =>
        have ht : H t = some (.tup [.int f, .int n]) := ht
        walk_at "st"
        refine if_d (fun h => ?_) (fun h => ?_)
        · show tMkO _ _ _ _ _ _ _
          refine ⟨_, rfl, _, rfl, by simp, fun a ha => ?_⟩
          refine ⟨a, _, _, rfl, upd_same, fun d H' hd ne h1 h2 hk => ⟨rfl, d, _, h1, h2, ?_, ?_⟩⟩
          · rw [upd_ne ne] at hd; exact hd
          · rw [upd_ne ne] at hd
            refine kE ⟨n, rfl, h⟩ d _ hd (fun b o e => ?_) upd_same
            have hb : b ≠ a := ne_of_none e ha
            rw [upd_ne (ne_of_none e hd), del_ne hb]
            exact hk b o (by rw [upd_ne hb]; exact e) hb
        · walk_at "st"
          exact kQ (fun k e => by cases e; exact Int.not_lt.mp h) _ _ hmN hmE hmA
theorem ok_number_begun (T : Tx w K mg) : FnOk P w K mg base CX0 1 T.a_number_begun T.fd_number_begun ["rows", "day"] (spBegun) := by
  refine T.F_number_begun.ok sc_number_begun (fun vs H Q E h => ?_) (fun cdv A outer s H vs Q E hr h => ?_)
  · obtain ⟨a, d, xs, rs, rfl, _⟩ := h
    rfl
  · obtain ⟨a, d, xs, rs, rfl, ha, hR, asc, hl, kk⟩ := h
    refine ⟨_, (pss_cons (ps_par (i := 2) (j := 3) rfl sc_number_begun.nd rfl rfl (by decide) rfl rfl (by exact (pa_cons pe_int (pa_cons (pe_callB c_len (by rfl) T.n_len (by decide +kernel) (pa_cons (pv 0) pa_nil)) pa_nil))) (by rfl)) (pss_cons (ps_while PassesOwn.never (pt_cmpR op_lt (pv 2) (pv 3) (nomark _)) (pss_cons (ps_set (i := 4) sc_number_begun.nd rfl (by first | exact Or.inl rfl | exact Or.inr rfl) (pe_op op_fdivW (pe_op op_addX (pv 2) (pv 3)) pe_int)) (pss_one (ps_if (pt_cmpR op_le (pe_ix ix_seq (pe_ix ix_seq (pv 0) (pv 4) (fun _ _ => rfl)) pe_int (fun _ _ => rfl)) (pv 1) (nomark _)) (pss_one (ps_set (i := 2) sc_number_begun.nd rfl (by first | exact Or.inl rfl | exact Or.inr rfl) (pe_op op_addX (pv 4) pe_int))) (pss_one (ps_set (i := 3) sc_number_begun.nd rfl (by first | exact Or.inl rfl | exact Or.inr rfl) (pv 4))))))) (pss_one (ps_ret (pv 2))))), ?_⟩; (try simp only [cxOf])
    walk_at "st"
    have hn := hR.len
    refine r_while (fun m σ' H' => ∃ (lo hi : Nat) (t4 : Option V), H' = H ∧ σ' = [some (.ref a), some (.int d), some (.int lo), some (.int hi), t4] ∧ m = hi - lo ∧ lo ≤ hi ∧ hi ≤ rs.length ∧ (∀ j r, j < lo → rs[j]? = some r → r.1 ≤ d) ∧ (∀ j r, hi ≤ j → rs[j]? = some r → ¬ r.1 ≤ d))
      _ ⟨0, xs.length, none, rfl, rfl, rfl, Nat.zero_le _, Nat.le_of_eq hn, fun j r h => absurd h (Nat.not_lt_zero _), fun j r h e => by rw [hn] at h; rw [List.getElem?_eq_none h] at e; cases e⟩ ?_
    rintro m σ' H' ⟨lo, hi, t4, rfl, rfl, rfl, h1, h2, h3, h4⟩
    walk_at "st"
    refine if_d (fun hlt => ⟨_, fun _ _ z => z, ?_⟩) (fun hlt => ?_)
    · walk_at "st"
      have em : ((lo : Int) + hi) / 2 = (((lo + hi) / 2 : Nat) : Int) := by omega
      rw [em]
      generalize hmid : (lo + hi) / 2 = mid
      have hm1 : lo ≤ mid := by omega
      have hm2 : mid < hi := by omega
      have hmr : rs[mid]? = some rs[mid] := List.getElem?_eq_getElem (by omega)
      obtain ⟨t, ht1, ht2⟩ := hR.at hmr
      generalize rs[mid] = r at *
      obtain ⟨f, l, v⟩ := r
      refine r_ixL (SqL.of ha) (at_of rfl ht1) ?_
      walk_at "st"
      refine if_d (fun hd => ?_) (fun hd => ?_)
      · walk_at "st"
        refine ⟨hi - (mid + 1), by omega, mid + 1, hi, _, rfl, rfl, rfl, by omega, h2, fun j r hj e => ?_, h4⟩
        rcases Nat.lt_or_eq_of_le (Nat.le_of_lt_succ hj) with q | q
        · have := asc_at asc q e hmr
          simp only at this
          omega
        · subst q; rw [hmr] at e; cases e; exact hd
      · walk_at "st"
        refine ⟨mid - lo, by omega, lo, mid, _, rfl, rfl, rfl, hm1, by omega, h3, fun j r hj e => ?_⟩
        rcases Nat.lt_or_eq_of_le hj with q | q
        · have := asc_at asc q hmr e
          simp only at this
          omega
        · subst q; rw [hmr] at e; cases e; exact hd
    · walk_at "st"
      have e : lo = hi := by omega
      subst e
      rw [begun_at (n := lo) h2 h3 fun r e => h4 lo r (Nat.le_refl _) e] at kk
      exact kk
theorem ok_until_of (T : Tx w K mg) : FnOk P w K mg base CX0 1 T.a_until_of T.fd_until_of ["stop", "ends"] (spUntilOf) := by
  refine T.F_until_of.ok sc_until_of (fun vs H Q E h => ?_) (fun cdv A outer s H vs Q E hr h => ?_)
  · obtain ⟨u, s, rfl, _⟩ := h
    rfl
  · obtain ⟨u, s, rfl, kk⟩ := h
    refine ⟨_, (pss_cons (ps_if (PW.pt (pw_or (pt_cmp (pc_isN (pv 0))) (pw_or1 (pt_cmpR op_eq (pv 1) (ClX.pe_cval (pe_glob (v := .ref T.c_Ends) rfl T.g_Ends rfl) rfl) (nomark _))))) (pss_one (ps_ret (pv 0))) pss_nil) (pss_one (ps_ret (pe_op op_sub (pv 0) pe_int)))), ?_⟩; (try simp only [cxOf])
    cases u with
    | none =>
      walk_at "st"
      exact kk
    | some n =>
      walk_at "st"
      have e : untilOf (some n) s = some (if s = "next day" then n else n - 1) := rfl
      rw [e] at kk
      refine if_d (fun h => ?_) (fun h => ?_)
      · have h' : s = "next day" := by first | exact h | exact V.str.inj h
        rw [if_pos h'] at kk
        walk_at "st"
        exact kk
      · have h' : ¬ s = "next day" := by first | exact h | exact fun z => h (congrArg V.str z)
        rw [if_neg h'] at kk
        walk_at "st"
        simp only [optI] at kk ⊢
        walk_at "st"
        exact kk
theorem ok_without_stretch (T : Tx w K mg) : FnOk P w K mg base CX0 2 T.a_without_stretch T.fd_without_stretch ["row", "first", "last", "ends"] (spWithout) := by
  refine T.F_without_stretch.ok sc_without_stretch (fun vs H Q E h => ?_) (fun cdv A outer s H vs Q E hr h => ?_)
  · obtain ⟨t, f, u, v, low, l, s, rfl, _⟩ := h
    rfl
  · obtain ⟨t, f, u, v, low, l, s, rfl, ht, kk⟩ := h
    refine ⟨_, (pss_cons (ps_asg (pv 0) (pg_tupK (K0 := K) (n := 3) rfl (pgs_cons (pg_name (i := 4) sc_without_stretch.nd rfl (by first | exact Or.inl rfl | exact Or.inr rfl)) (pgs_cons (pg_name (i := 5) sc_without_stretch.nd rfl (by first | exact Or.inl rfl | exact Or.inr rfl)) (pgs_cons (pg_name (i := 6) sc_without_stretch.nd rfl (by first | exact Or.inl rfl | exact Or.inr rfl)) pgs_nil))))) (pss_cons (ps_set (i := 7) sc_without_stretch.nd rfl (by first | exact Or.inl rfl | exact Or.inr rfl) (pe_call (ok_stop_of T) (hr.mono (by decide)) rfl T.g_stop_of T.F_stop_of.kp T.b_stop_of .nil pass0 (pa_cons (pv 5) (pa_cons (pv 3) pa_nil)))) (pss_cons (ps_set (i := 8) sc_without_stretch.nd rfl (by first | exact Or.inl rfl | exact Or.inr rfl) (pe_lst pa_nil)) (pss_cons (ps_join (ps_if (pt_cmpR op_lt (pv 4) (pv 1) (nomark _)) (pss_cons (ps_set (i := 9) sc_without_stretch.nd rfl (by first | exact Or.inl rfl | exact Or.inr rfl) (pe_ifExp (pt_cmp (pc_isN (pv 7))) (pv 1) (pe_callB (c_min2 rfl) (by rfl) T.n_min (by decide +kernel) (pa_cons (pv 7) (pa_cons (pv 1) pa_nil))))) (pss_one (ps_expr (pe_bm PySem.F.plainAttrs_list PySem.F.slot_list_append PySem.F.type_list_append mt_append (pv 8) (pa_cons (pe_tup (pa_cons (pv 4) (pa_cons (pe_call (ok_until_of T) (hr.mono (by decide)) rfl T.g_until_of T.F_until_of.kp T.b_until_of .nil pass0 (pa_cons (pv 9) (pa_cons (pv 3) pa_nil))) (pa_cons (pv 6) pa_nil)))) pa_nil))))) pss_nil)) (pss_cons (ps_if (PW.pt (pw_and (pt_cmp (pc_notN (pv 2))) (pw_and1 (PW.pt (pw_or (pt_cmp (pc_isN (pv 7))) (pw_or1 (pt_cmpR op_lt (pe_op op_addX (pv 2) pe_int) (pv 7) (nomark _)))))))) (pss_one (ps_expr (pe_bm PySem.F.plainAttrs_list PySem.F.slot_list_append PySem.F.type_list_append mt_append (pv 8) (pa_cons (pe_tup (pa_cons (pe_callB (c_max2 rfl) (by rfl) T.n_max (by decide +kernel) (pa_cons (pv 4) (pa_cons (pe_op op_addX (pv 2) pe_int) pa_nil))) (pa_cons (pv 5) (pa_cons (pv 6) pa_nil)))) pa_nil)))) pss_nil) (pss_one (ps_ret (pv 8)))))))), ?_⟩; (try simp only [cxOf])
    walk_at "st"
    refine ⟨u, s, rfl, ?_⟩
    walk_at "st"
    have NL : H pn = none := hmN
    obtain ⟨L, rfl⟩ : ∃ L, L = pn := ⟨pn, rfl⟩
    generalize hst : stopOf u s = st at *
    have hu : untilOf st s = u := by rw [← hst, until_stop]
    refine r_join (fun σ' H' => ∃ (t9 : Option V) (ys : List V), σ' = [some (.ref t), some (.int low), some (optI l), some (.str s), some (.int f), some (optI u), some v, some (optI st), some (.ref L), t9] ∧ Ex H H' ∧ H' L = some (.lst ys) ∧ RunsAt H' ys ((headR low (f, st, v)).map (writR s)) ∧ ys.length ≤ 1) (fun R' kR => ?_) ?_
    · walk_at "st"
      refine if_d (fun hf => ?_) (fun hf => ?_)
      · walk_at "st"
        have E1 := hmE
        have A1 := hmA
        have hh : ∀ (G1 G2 : Hp) (q : Addr) (w : Int) (t9 : Option V), headR low (f, st, v) = [(f, some w, v)] → Ex H G1 → G1 L = some (.lst []) → G1 q = some (.tup [.int f, optI (untilOf (some w) s), v]) → But L G1 G2 → G2 L = some (.lst ([] ++ [.ref q])) →
            R' [some (.ref t), some (.int low), some (optI l), some (.str s), some (.int f), some (optI u), some v, some (optI st), some (.ref L), t9] G2 := fun G1 G2 q w t9 hw g1 hL1 hq b2 hL2 => by
          refine kR _ _ ⟨t9, _, rfl, (Ex.refl H |>.trans g1).mut b2 NL, hL2, ?_, by simp⟩
          rw [hw]
          exact .one (b2.tpL hL1 _ _ hq)
        cases st with
        | none =>
          walk_at "st"
          refine ⟨some low, s, rfl, ?_⟩
          walk_at "st"
          exact hh _ _ _ low _ (by simp [headR, hf]) (E1.trans hmE) (hmE _ _ A1) (by assumption) hmB hmA
        | some n =>
          walk_at "st"
          refine ⟨some (if low < n then low else n), s, rfl, ?_⟩
          walk_at "st"
          exact hh _ _ _ (if low < n then low else n) _ (by simp [headR, hf]) (E1.trans hmE) (hmE _ _ A1) (by assumption) hmB hmA
      · walk_at "st"
        exact kR _ _ ⟨_, [], rfl, hmE, hmA, by simpa [headR, hf] using RunsAt.nil, by simp⟩
    clear hmE hmA hmN
    rintro σ' H3 ⟨t9, ys, rfl, e2, hL, hY, hz⟩
    have hys : ys.length < sizeLine := szL (by omega)
    have hh : ∀ (G1 G2 : Hp) (q : Addr) (w : Int), tailR (l.map (· + 1)) (f, st, v) = [(w, st, v)] → Ex H3 G1 → G1 q = some (.tup [.int w, optI u, v]) → But L G1 G2 → G2 L = some (.lst (ys ++ [.ref q])) → Q (.ref L) G2 := fun G1 G2 q w hw g1 hq b2 hL2 => by
      have hL1 := g1 _ _ hL
      refine kk _ _ _ NL ((e2.trans g1).mut b2 NL) hL2 ?_
      have hq2 := b2.tpL hL1 _ _ hq
      rw [← hu] at hq2
      rw [cutR, hw, List.map_append]
      exact ((hY.ex g1).tp (b2.tpL hL1)).app (.one hq2)
    have hno : tailR (l.map (· + 1)) (f, st, v) = [] → Q (.ref L) H3 := fun hw => by
      refine kk _ _ _ NL e2 hL ?_
      rw [cutR, hw, List.append_nil]
      exact hY
    cases l with
    | none =>
      walk_at "st"
      exact hno rfl
    | some h' =>
      cases st with
      | none =>
        walk_at "st"
        exact hh _ _ _ _ rfl hmE (by assumption) hmB hmA
      | some n =>
        walk_at "st"
        refine if_d (fun hg => ?_) (fun hg => ?_)
        · walk_at "st"
          exact hh _ _ _ _ (by show (if n > h' + 1 then [(if h' + 1 > f then h' + 1 else f, some n, v)] else []) = _; rw [if_pos hg]) hmE (by assumption) hmB hmA
        · walk_at "st"
          exact hno (by simp [tailR]; omega)
theorem ok_Book_setitem (T : Tx w K mg) : FnOk P w K mg base (L2.CX P w) 10 T.a_Book_setitem T.fd_Book_setitem ["self", "at", "worth"] (spBookSet K T.c_Book T.c_EmptyStretch) := by
  refine T.F_Book_setitem.okX sc_Book_setitem (fun vs H Q E h => ?_) (fun cdv A outer s H vs Q E hr h => ?_)
  · obtain ⟨p, l, at_, f, m, v, ts, s, rfl, _⟩ := h
    rfl
  · obtain ⟨p, l, at_, f, m, v, ts, s, rfl, ⟨dx, xs, hp, hx, hR⟩, ha, asc, hz, hv, kE, kQ⟩ := h
    refine ⟨_, (pss_cons (ps_asg (pe_call (ok_stretch_of T) (hr.mono (by decide)) rfl T.g_stretch_of T.F_stretch_of.kp T.b_stretch_of .nil (passes_call (W := fun cls d _ H => E cls d H) (takes_of rfl rfl rfl rfl) (fun _ _ _ _ h => h)) (pa_cons (pv 1) pa_nil)) (pg_tupK (K0 := K) (n := 2) rfl (pgs_cons (pg_name (i := 3) sc_Book_setitem.nd rfl (by first | exact Or.inl rfl | exact Or.inr rfl)) (pgs_cons (pg_name (i := 4) sc_Book_setitem.nd rfl (by first | exact Or.inl rfl | exact Or.inr rfl)) pgs_nil)))) (pss_cons (ps_set (i := 5) sc_Book_setitem.nd rfl (by first | exact Or.inl rfl | exact Or.inr rfl) (pe_callB (c_max2 rfl) (by rfl) T.n_max (by decide +kernel) (pa_cons (pe_op op_sub (pe_call (ok_number_begun T) (hr.mono (by decide)) rfl T.g_number_begun T.F_number_begun.kp T.b_number_begun .nil pass0 (pa_cons (pe_fld (pv 0) rfl) (pa_cons (pe_op op_sub (pv 3) pe_int) pa_nil))) pe_int) (pa_cons pe_int pa_nil)))) (pss_cons (ps_join (ps_set (i := 6) sc_Book_setitem.nd rfl (by first | exact Or.inl rfl | exact Or.inr rfl) (pe_ifExp (pt_cmp (pc_isN (pv 4))) (pe_callB c_len (by rfl) T.n_len (by decide +kernel) (pa_cons (pe_fld (pv 0) rfl) pa_nil)) (pe_call (ok_number_begun T) (hr.mono (by decide)) rfl T.g_number_begun T.F_number_begun.kp T.b_number_begun .nil pass0 (pa_cons (pe_fld (pv 0) rfl) (pa_cons (pv 4) pa_nil)))))) (pss_cons (ps_setLc2 (i := 7) (own := [("row", 9), ("part", 10)]) (vs1 := [10]) rfl sc_Book_setitem.nd rfl rfl (sw_true rfl rfl rfl (by decide +kernel)) (pi_list (pe_slice sl_list (pe_fld (pv 0) rfl) (po_some (pv 5)) (po_some (pv 6)))) (blkOk_by (N := ["self", "at", "worth", "first", "last", "low", "high", "left", "until", "row", "part"]) (sc := defScope s_Book_setitem) (by decide +kernel)) (by decide) (fun _ _ _ _ _ =>  by exact (pg_name (i := 9) sc_Book_setitem.nd rfl (by first | exact Or.inl rfl | exact Or.inr rfl))) (fun _ _ _ _ _ =>  by exact pts_nil) (fun _ _ _ _ _ =>  by exact (pi_listK (K0 := K) (pe_call (ok_without_stretch T) (hr.mono (by decide)) rfl T.g_without_stretch T.F_without_stretch.kp T.b_without_stretch .nil pass0 (pa_cons (pv 9) (pa_cons (pv 3) (pa_cons (pv 4) (pa_cons (pe_fldK (K0 := K) (pv 0) rfl) pa_nil))))))) (fun _ _ _ _ _ =>  by exact (pg_name (i := 10) sc_Book_setitem.nd rfl (by first | exact Or.inl rfl | exact Or.inr rfl))) (fun _ _ _ _ _ =>  by exact pts_nil) (fun _ _ _ _ _ =>  by exact (pv 10))) (pss_cons (ps_join (ps_if (pt_cmp (pc_notN (pv 2))) (pss_cons (ps_set (i := 8) sc_Book_setitem.nd rfl (by first | exact Or.inl rfl | exact Or.inr rfl) (pe_call (ok_until_of T) (hr.mono (by decide)) rfl T.g_until_of T.F_until_of.kp T.b_until_of .nil pass0 (pa_cons (pe_call (ok_stop_of T) (hr.mono (by decide)) rfl T.g_stop_of T.F_stop_of.kp T.b_stop_of .nil pass0 (pa_cons (pv 4) (pa_cons (ClX.pe_cval (pe_glob (v := .ref T.c_Ends) rfl T.g_Ends rfl) rfl) pa_nil))) (pa_cons (pe_fld (pv 0) rfl) pa_nil)))) (pss_one (ps_expr (pe_bm PySem.F.plainAttrs_list PySem.F.slot_list_append PySem.F.type_list_append mt_append (pv 7) (pa_cons (pe_tup (pa_cons (pv 3) (pa_cons (pv 8) (pa_cons (pv 2) pa_nil)))) pa_nil))))) pss_nil)) (pss_one (ps_asg (pe_callBK (cr_sortedF0 T.F_first_day sc_first_day rfl (by decide +kernel) (by decide +kernel) T.b_first_day (hr.mono (by decide))) (by rfl) T.n_sorted (by decide +kernel) (pa_cons (pv 7) pa_nil) (pk_cons (pe_glob (v := .ref T.a_first_day) (by rfl) T.g_first_day rfl) pk_nil)) (pg_slc (pe_fld (pv 0) rfl) (po_some (pv 5)) (po_some (pv 6)))))))))), ?_⟩; (try simp only [cxOf])
    walk_at "st"
    refine ⟨at_, f, m, rfl, ha, kE, fun hm t H1 nt e1 ht => ?_⟩
    have kQ := kQ hm
    have hp1 := e1 _ _ hp
    have hx1 := e1 _ _ hx
    have hR1 := hR.ex e1
    have hn := hR1.len
    rw [List.length_map] at hn
    have hlh := low_high (f := f) asc hm
    have hbl := begun_le (ts := ts) (d := f - 1)
    have hspl := put_splice (v := v) asc hm
    generalize hlow : begunR ts (f - 1) - 1 = low at *
    generalize hhigh : highB ts m = high at *
    have hlx : low ≤ xs.length := by omega
    clear ha kE hx hp hR nt
    walk_at "st"
    refine ⟨l, f - 1, xs, _, rfl, hx1, hR1, firsts_writ asc, by simpa using (by omega), ?_⟩
    rw [begun_map]
    walk_at "st"
    have elow : (if (0 : Int) > ((begunR ts (f - 1) : Nat) : Int) - 1 then (0 : Int) else ((begunR ts (f - 1) : Nat) : Int) - 1) = ((low : Nat) : Int) := by
      split <;> omega
    rw [elow]
    refine r_join (fun σ' H' => H' = H1 ∧ σ' = [some (.ref p), some at_, some v, some (.int f), some (optI m), some (.int (low : Int)), some (.int (high : Int)), none, none, none, none]) (fun R' k => ?_) ?_
    · cases m with
      | none =>
        have hh : ts.length = high := hhigh
        walk_at "st"
        rw [show ((xs.length : Nat) : Int) = (high : Int) by omega]
        exact k _ _ ⟨rfl, rfl⟩
      | some n =>
        have hh : begunR ts n = high := hhigh
        walk_at "st"
        refine ⟨l, n, xs, _, rfl, hx1, hR1, firsts_writ asc, by simpa using (by omega), ?_⟩
        rw [begun_map, hh]
        exact k _ _ ⟨rfl, rfl⟩
    rintro σ' H' ⟨rfl, rfl⟩
    have hcut : cutV xs (some ((low : Nat) : Int)) (some ((high : Nat) : Int)) = (xs.drop low).take (high - low) := cutV_nat hlx hlh
    have hmidR : RunsAt H' ((xs.drop low).take (high - low)) (((ts.drop low).take (high - low)).map (writR s)) := by
      rw [List.map_take, List.map_drop]
      exact (hR1.drop _).take _
    walk_at "st"
    rw [hcut] at hmA
    have hmidR := hmidR.ex hmE
    have hml := hmidR.len
    rw [List.length_map] at hml
    have hmidA : AscS ((ts.drop low).take (high - low)) := mid_asc asc
    generalize hmid : (ts.drop low).take (high - low) = mid at *
    have hmidl : mid.length ≤ 40000 := by rw [← hmid, List.length_take, List.length_drop]; omega
    generalize (xs.drop low).take (high - low) = zs at *
    have hp2 := hmE _ _ hp1
    have hx2 := hmE _ _ hx1
    refine lcx2 (M := 2) (fun i acc H' => RunsAt H' acc (((mid.take i).flatMap (cutR f (m.map (· + 1)))).map (writR s))) (by decide) (by simp) (SqL.of hmA) (by omega) (fun _ _ => .nil) (fun i acc H H' e h => h.tp e) (fun i x acc H3 R Qn hxi ex hal pa kk => ?_) (fun D acc H3 hD ex hD3 hal pa => ?_)
    · obtain ⟨t2, r, rfl, hr', ht2⟩ := hmidR.at' hxi
      rw [List.getElem?_map, Option.map_eq_some_iff] at hr'
      obtain ⟨⟨b, st, w⟩, hr0, rfl⟩ := hr'
      have ht2 : H3 t2 = some (.tup [.int b, optI (untilOf st s), w]) := ex _ _ ht2
      have hp3 := ex _ _ hp2
      walk_at "st"
      refine ⟨rfl, ?_⟩
      walk_at "st"
      refine ⟨t2, b, untilOf st s, w, f, m, s, rfl, ht2, fun D2 H5 ys nD2 e5 hD2 hY => ?_⟩
      rw [stop_until] at hY
      have hyl := hY.len
      have hcl := cut_len (low := f) (high := m.map (· + 1)) (r := (b, st, w))
      rw [List.length_map] at hyl
      walk_at "st"
      refine kk _ _ ys _ rfl nD2 e5 hD2 (by omega) ?_
      rw [flat_step hr0, List.map_append]
      exact (pa.ex e5).app hY
    rw [hml, List.take_of_length_le (Nat.le_refl _)] at pa
    have hal2 : acc.length ≤ 80000 := by omega
    have hp3 := ex _ _ hp2
    have hx3 := ex _ _ hx2
    have eA := e1.trans (hmE.trans ex)
    have ND : H D = none := Ex.free (e1.trans hmE) hD
    have hR3 := hR1.ex (hmE.trans ex)
    have NDl : D ≠ l := fun z => by rw [z, hx2] at hD; cases hD
    clear hmidR hmA hmE hmN hx1 hp1 hx2 hp2 hD hcut hR1 ht
    walk_at "st"
    refine r_join (fun σ' H5 => ∃ (t8 : Option V) (acc2 : List V), σ' = [some (.ref p), some at_, some v, some (.int f), some (optI m), some (.int (low : Int)), some (.int (high : Int)), some (.ref D), t8, none, none] ∧ H5 D = some (.lst acc2) ∧ RunsAt H5 acc2 ((mid.flatMap (cutR f (m.map (· + 1))) ++ newR f (m.map (· + 1)) v).map (writR s)) ∧ acc2.length ≤ 80001 ∧ Ex H H5 ∧ H5 l = some (.lst xs) ∧ H5 p = some (.ins T.c_Book dx [("ends", .str s), ("_rows", .ref l)]) ∧ RunsAt H5 xs (ts.map (writR s))) (fun R' k => ?_) ?_
    · walk_at "st"
      refine if_nd (fun hv => ?_) (fun hv => ?_)
      · walk_at "st"
        refine ⟨m, "last day", rfl, ?_⟩
        rw [stop_last]
        walk_at "st"
        refine ⟨m.map (· + 1), s, rfl, ?_⟩
        have hacc : acc.length < sizeLine := szL (by omega)
        walk_at "st"
        rename_i H6 hA6
        have hD6 := hmE _ _ hD3
        have tp : Tp H6 Hm := hmB.tpL hD6
        have npD : p ≠ D := ne_of hp3 hD3 (fun z => by cases z)
        refine k _ _ ⟨_, _, rfl, hmA, ?_, by simp; omega, Ex.mut (eA.trans hmE) hmB ND, hmB _ _ NDl.symm (hmE _ _ hx3), hmB _ _ npD (hmE _ _ hp3), (hR3.ex hmE).tp tp⟩
        rw [show newR f (m.map (· + 1)) v = [(f, m.map (· + 1), v)] from if_neg hv, List.map_append]
        exact ((pa.ex hmE).tp tp).app (.one (tp _ _ hA6))
      · walk_at "st"
        refine k _ _ ⟨_, _, rfl, hD3, ?_, by omega, eA, hx3, hp3, hR3⟩
        rw [show newR f (m.map (· + 1)) v = [] from if_pos hv, List.append_nil]
        exact pa
    clear hD3 pa eA hx3 hp3 hR3 hal hal2
    rintro σ' H5 ⟨t8, acc2, rfl, hD5, pa, hal, eA, hx5, hp5, hR5⟩
    have hpl := pa.len
    rw [List.length_map] at hpl
    walk_at "st"
    refine ⟨D, acc2, _, rfl, rfl, SqL.of hD5, pa, by rw [List.length_map]; omega, fun P ys nP hY => ?_⟩
    rw [put_sortW hmidA hm] at hY
    have hyl := hY.len
    have hpul := put_len (ts := mid) (f := f) (m := m) (v := v)
    rw [List.length_map] at hyl
    generalize hq : upd H5 P (.lst ys) = H6
    have e6 := ofE hq.symm nP
    have hP := ofA hq.symm
    clear hq
    have hp6 := e6 _ _ hp5
    have hx6 := e6 _ _ hx5
    have nlP : l ≠ P := ne_of_none hx5 nP
    walk_at "st"
    refine r_slcSet hx6 hP nlP hlh hlx (szO (by omega)) fun H7 b7 h7 => ?_
    have npl : p ≠ l := ne_of hp6 hx6 (fun z => by cases z)
    refine kQ H7 ((eA.trans e6).but.trans b7) ⟨dx, _, b7 _ _ npl hp6, h7, ?_⟩
    have tp := b7.tpL hx6
    rw [← hspl, List.map_append, List.map_append, List.map_take, List.map_drop]
    exact ((((hR5.ex e6).tp tp).take _).app ((hY.ex e6).tp tp)).app (((hR5.ex e6).tp tp).drop _)
theorem ok_Book_from_rows (T : Tx w K mg) : FnOk P w K mg base (L2.CX P w) 9 T.a_Book_from_rows T.fd_Book_from_rows ["rows", "ends"] (spFromRows T.c_Book T.c_EmptyRow T.c_Clash) := by
  refine T.F_Book_from_rows.ok (CX := (L2.CX P w)) sc_Book_from_rows (fun vs H Q E h => ?_) (fun cdv A outer s H vs Q E hr h => ?_)
  · obtain ⟨a, s, xs, rs, rfl, _⟩ := h
    rfl
  · obtain ⟨a, s, xs, rs, rfl, ha, hR, hl, kE, kQ⟩ := h
    refine ⟨_, (pss_one (ps_ret (pe_makeSK T.mk_Book (ok_Book_init T) (hr.mono (by decide)) rfl T.g_Book (passes_call (W := fun cls d _ H => E cls d H) (takes_of rfl rfl rfl rfl) (fun _ _ _ _ h => h)) (pv 0) (pk_cons (pv 1) pk_nil)))), ?_⟩; (try simp only [cxOf])
    have hn := hR.len
    walk_at "st"
    refine ⟨rfl, fun x dx hx hdx hne => ⟨_, xs, _, rfl, rfl, by rw [sizeLine_eq]; omega, fun p hp => ?_⟩⟩
    have e1 : Ex H (upd (upd H dx (.own x)) x (.ins T.c_Book dx [])) := (Ex.new hdx).trans (Ex.new (by rw [upd_ne hne.symm]; exact hx))
    have nx : x ≠ p := fun z => by rw [← z, upd_same] at hp; cases hp
    have e2 := e1.trans (Ex.new (o := .tup xs) hp)
    have hx2 : (upd (upd (upd H dx (.own x)) x (.ins T.c_Book dx [])) p (.tup xs)) x = some (.ins T.c_Book dx []) := by rw [upd_ne nx, upd_same]
    have hp2 : (upd (upd (upd H dx (.own x)) x (.ins T.c_Book dx [])) p (.tup xs)) p = some (.tup xs) := upd_same
    generalize upd (upd (upd H dx (.own x)) x (.ins T.c_Book dx [])) p (.tup xs) = H3 at *
    have up : ∀ H1, But x H3 H1 → Ex H H1 := fun H1 b c o e => b c o (ne_of_none e hx) (e2 _ _ e)
    refine ⟨x, dx, p, s, xs, rs, rfl, hx2, hp2, hR.ex e2, hl, fun H1 b => kE.ex (up H1 b), fun ok l H' hl' b hB => ?_⟩
    exact ⟨rfl, kQ ok x l H' hx (Ex.free e2 hl') (fun z => by rw [z, hx2] at hl'; cases hl') (up H' b) hB⟩
theorem ok_law (T : Tx w K mg) (TB : TabB base mg T.cc_Lsorted_rows T.cp_Lsorted_rows) : FnOk P w K mg base CX0 13 T.a_law T.fd_law ["script"] (spLawL K T.cp_Lsorted_rows lamQ) := by
  refine T.F_law.ok sc_law (fun vs H Q E h => ?_) (fun cdv A outer s H vs Q E hr h => ?_)
  · obtain ⟨a, ns, rfl, _⟩ := h
    rfl
  · obtain ⟨a, ns, rfl, hs, hl, hT, kk⟩ := h
    refine ⟨_, (pss_cons (ps_for PassesOwn.never rfl (pi_range1 (by rfl) T.n_range (pa_cons (pe_call (ok_Lparts T) (hr.mono (by decide)) rfl T.g_Lparts T.F_Lparts.kp T.b_Lparts .nil pass0 (pa_cons (pv 0) (pa_cons pe_int pa_nil))) pa_nil)) (pg_name (i := 1) sc_law.nd rfl (by first | exact Or.inl rfl | exact Or.inr rfl)) (pss_cons (ps_set (i := 2) sc_law.nd rfl (by first | exact Or.inl rfl | exact Or.inr rfl) (pe_call (ok_Lbag T) (hr.mono (by decide)) rfl T.g_Lbag T.F_Lbag.kp T.b_Lbag .nil pass0 (pa_cons (pv 0) (pa_cons (pv 1) pa_nil)))) (pss_cons (ps_set (i := 3) sc_law.nd rfl (by first | exact Or.inl rfl | exact Or.inr rfl) (pe_call (ok_Lends T) (hr.mono (by decide)) rfl T.g_Lends T.F_Lends.kp T.b_Lends .nil pass0 (pa_cons (pv 2) pa_nil))) (pss_cons (ps_set (i := 4) sc_law.nd rfl (by first | exact Or.inl rfl | exact Or.inr rfl) (pe_call (ok_Lrows T) (hr.mono (by decide)) rfl T.g_Lrows T.F_Lrows.kp T.b_Lrows .nil pass0 (pa_cons (pv 2) (pa_cons (pe_call (ok_Lmany T) (hr.mono (by decide)) rfl T.g_Lmany T.F_Lmany.kp T.b_Lmany .nil pass0 (pa_cons (pv 2) (pa_cons (pe_ifExp (pt_cmpR op_eq (pv 1) pe_int (nomark _)) pe_int pe_int) pa_nil))) (pa_cons (pe_call (ok_Lof T) (hr.mono (by decide)) rfl T.g_Lof T.F_Lof.kp T.b_Lof .nil pass0 (pa_cons (pv 2) (pa_cons (pe_lst (pa_cons pe_str (pa_cons pe_str pa_nil))) pa_nil))) pa_nil))))) (pss_cons (ps_set (i := 4) sc_law.nd rfl (by first | exact Or.inl rfl | exact Or.inr rfl) (pe_call (ok_Lshifted T) (hr.mono (by decide)) rfl T.g_Lshifted T.F_Lshifted.kp T.b_Lshifted .nil pass0 (pa_cons (pv 2) (pa_cons (pv 4) pa_nil)))) (pss_cons (ps_set (i := 5) sc_law.nd rfl (by first | exact Or.inl rfl | exact Or.inr rfl) (pe_smeth (pe_glob (v := .ref T.c_Book) rfl T.g_Book rfl) T.sm_Book_from_rows (ok_Book_from_rows T) (hr.mono (by decide)) (T.b2_Book_from_rows).choose_spec.2 (T.b2_Book_from_rows).choose_spec.1 passL (pa_cons (pe_call (ok_Lwritten T) (hr.mono (by decide)) rfl T.g_Lwritten T.F_Lwritten.kp T.b_Lwritten .nil pass0 (pa_cons (pv 4) (pa_cons (pv 3) pa_nil))) (pa_cons (pv 3) pa_nil)))) (pss_cons (ps_if (PW.pt (pw_or (pt_cmpR op_ne (pe_call (ok_printed T) (hr.mono (by decide)) rfl T.g_printed T.F_printed.kp T.b_printed .nil pass0 (pa_cons (pv 5) pa_nil)) (pe_call (ok_Ldue T) (hr.mono (by decide)) rfl T.g_Ldue T.F_Ldue.kp T.b_Ldue .nil pass0 (pa_cons (pv 4) (pa_cons (pv 3) pa_nil))) (nomark _)) (pw_or1 (pt_not (pt_val (pe_call (ok_Lare T) (hr.mono (by decide)) rfl T.g_Lare T.F_Lare.kp T.b_Lare .nil pass0 (pa_cons (pe_callTy (call_listF rfl T.sq_Book (ok_Book_iter T) T.b_Book_iter (ok_Book_len T) T.b_Book_len (hr.mono (by decide))) (by rfl) T.n_list (by decide +kernel) (pa_cons (pv 5) pa_nil)) (pa_cons (pe_call (ok_Lwritten T) (hr.mono (by decide)) rfl T.g_Lwritten T.F_Lwritten.kp T.b_Lwritten .nil pass0 (pa_cons (pv 4) (pa_cons (pv 3) pa_nil))) pa_nil)))))))) (pss_one (ps_ret pe_bl)) pss_nil) (pss_cons (ps_asg (pe_call (ok_Lstretch T) (hr.mono (by decide)) rfl T.g_Lstretch T.F_Lstretch.kp T.b_Lstretch .nil pass0 (pa_cons (pv 2) (pa_cons (pe_call (ok_Lborders T) (hr.mono (by decide)) rfl T.g_Lborders T.F_Lborders.kp T.b_Lborders .nil pass0 (pa_cons (pv 4) pa_nil)) (pa_cons (pe_lst (pa_cons pe_str (pa_cons pe_str (pa_cons pe_str (pa_cons pe_str (pa_cons pe_int (pa_cons (pe_un un_neg pe_int) (pa_cons pe_int (pa_cons pe_str pa_nil))))))))) pa_nil)))) (pg_tupK (K0 := K) (n := 3) rfl (pgs_cons (pg_name (i := 6) sc_law.nd rfl (by first | exact Or.inl rfl | exact Or.inr rfl)) (pgs_cons (pg_name (i := 7) sc_law.nd rfl (by first | exact Or.inl rfl | exact Or.inr rfl)) (pgs_cons (pg_name (i := 8) sc_law.nd rfl (by first | exact Or.inl rfl | exact Or.inr rfl)) pgs_nil))))) (pss_cons (ps_asg (pv 8) (pg_sub (pv 5) (pe_tup (pa_cons (pv 6) (pa_cons (pv 7) pa_nil))) (set_own T.q_Book T.m_Book_setitem (ok_Book_setitem T) (hr.mono (by decide)) T.b_Book_setitem passL))) (pss_cons (ps_set (i := 4) sc_law.nd rfl (by first | exact Or.inl rfl | exact Or.inr rfl) (pe_call (ok_Lput_rows T TB) (hr.mono (by decide)) rfl T.g_Lput_rows T.F_Lput_rows.kp T.b_Lput_rows .nil pass0 (pa_cons (pv 4) (pa_cons (pv 6) (pa_cons (pv 7) (pa_cons (pv 8) pa_nil)))))) (pss_one (ps_if (PW.pt (pw_or (pt_cmpR op_ne (pe_call (ok_printed T) (hr.mono (by decide)) rfl T.g_printed T.F_printed.kp T.b_printed .nil pass0 (pa_cons (pv 5) pa_nil)) (pe_call (ok_Ldue T) (hr.mono (by decide)) rfl T.g_Ldue T.F_Ldue.kp T.b_Ldue .nil pass0 (pa_cons (pv 4) (pa_cons (pv 3) pa_nil))) (nomark _)) (pw_or1 (pt_cmpR op_ne (pe_call (ok_printed T) (hr.mono (by decide)) rfl T.g_printed T.F_printed.kp T.b_printed .nil pass0 (pa_cons (pv 5) pa_nil)) (pe_call (ok_Ldue T) (hr.mono (by decide)) rfl T.g_Ldue T.F_Ldue.kp T.b_Ldue .nil pass0 (pa_cons (pv 4) (pa_cons (pv 3) pa_nil))) (nomark _))))) (pss_one (ps_ret pe_bl)) pss_nil)))))))))))) (pss_one (ps_ret pe_bl))), ?_⟩; (try simp only [cxOf])
    walk_at "st"
    refine ⟨a, _, 8, rfl, hs, fun n n1 n2 => ?_⟩
    walk_at "st"
    refine fo_range (fun i σ' H' => ∃ (t1 t2 t3 t4 t5 t6 t7 t8 : Option V), σ' = [some (.ref a), t1, t2, t3, t4, t5, t6, t7, t8] ∧ LamX.ExtN H H' ∧ LamX.TabS H' T.cp_Lsorted_rows lamQ)
      ⟨_, _, _, _, _, _, _, _, rfl, fun _ _ h _ => h, hT⟩ ?_ ?_
    · rintro i σ' H1 hi ⟨t1, t2, t3, t4, t5, t6, t7, t8, rfl, e1, c1⟩
      rw [Int.zero_add]
      walk_at "st"
      refine ⟨a, ns, i, rfl, xn_sql e1 hs, by omega, by omega, fun b H2 nb e2 B2 => ?_⟩
      have nq : ∀ o, H b = some o → ∃ ps, o = .tbl ps := fun o h => by
        rcases xn_free e1 nb with q | ⟨ps, q⟩
        · rw [q] at h; cases h
        · rw [q] at h; exact ⟨ps, (Option.some.inj h).symm⟩
      have n2 : LamX.ExtN H H2 := fun c o h z => e2 _ _ (e1 c o h z)
      have c2 := tab_ext c1 e2
      obtain ⟨zb0, hb0⟩ := B2.lst
      clear e1 c1 e2 nb
      walk_at "st"
      refine ⟨b, 0, rfl, B2, by omega, fun s H3 hs3 b3 B3 => ?_⟩
      walk_at "st"
      refine r_ifI fun m hm => ?_
      walk_at "st"
      refine ⟨b, _, m, rfl, B3, by omega, by omega, fun r H4 r0 r1 b4 B4 => ?_⟩
      have c4 : But b H2 H4 := b3.trans b4
      clear b3 B3 b4
      walk_at "st"
      have hpb := B4.new hmN
      refine ⟨b, _, _, _, rfl, B4.ex hmE, by omega, .lst hmA hpb, by simp, by simp, fun x H5 hx b5 B5 => ?_⟩
      obtain ⟨fm, rfl⟩ : ∃ fm, x = .str fm := by
        simp only [List.mem_cons, List.not_mem_nil, or_false] at hx
        rcases hx with rfl | rfl <;> exact ⟨_, rfl⟩
      have c5 : But b H2 H5 := c4.trans (hmE.but.trans b5)
      clear c4 B4 hmE hmA hmN hpb b5 hx
      walk_at "st"
      refine ⟨b, _, r, fm, rfl, B5, by omega, r0, by omega, fun R H6 xs ts b6 nR nRb B6 hR rR asc hd hlen => ?_⟩
      have c6 := c5.trans b6
      have hl40 : ts.length ≤ 40 := by omega
      clear c5 B5 b6 nR hlen hm r1
      walk_at "st"
      refine ⟨b, _, R, xs, ts, rfl, B6, by omega, hR, nRb, rR, asc, hd, by omega, fun D H7 ys us b7 B7 nDb hD rD ascU dU lenU => ?_⟩
      have c7 := c6.trans b7
      have hu40 : us.length ≤ 40 := by omega
      clear c6 B6 b7 hR rR asc hd hl40 lenU nRb
      have sU : ∀ r ∈ us, SmlR (writR s r) := fun r h => (dU r h).writ (by omega)
      have sW : ∀ r ∈ us.map (writR s), SmlR r := fun r h => by
        obtain ⟨x, hx, rfl⟩ := List.mem_map.mp h
        exact sU x hx
      have wW : ∀ r ∈ us.map (writR s), Worth r.2.2 := fun r h => (sW r h).2.2.worth
      walk_at "st"
      refine ⟨D, s, ys, us, rfl, hs3, hD, rD, by omega, fun G H8 gs nG e8 hG rG => ?_⟩
      walk_at "st"
      refine ⟨G, s, gs, us.map (writR s), rfl, hG, rG, by simp; omega, (asc_ok ascU).2.noE, fun _ p l H9 np nl nlp e9 hB => ?_⟩
      rw [(asc_ok ascU).1] at hB
      have e89 := e8.trans e9
      have nDl : D ≠ l := ne_of_none (e8 _ _ hD) nl
      have nbl : b ≠ l := by
        obtain ⟨zs, hz⟩ := (B7.ex e8).lst
        exact ne_of_none hz nl
      have c9 := c7.trans e89.but
      have n9 : LamX.ExtN H H9 := xn_mut n2 c9 nq
      have nql : ∀ o, H l = some o → ∃ ps, o = .tbl ps := fun o h => Classical.byContradiction fun z => by
        have q := (c7.trans e8.but) _ _ nbl.symm (n2 _ _ h fun ps e => z ⟨ps, e⟩)
        rw [nl] at q
        cases q
      have w9 : W27 T.c_Book T.cp_Lsorted_rows H b s D p l ys us us _ H9 := ⟨n9, tab_but c2 c9 ⟨_, hb0⟩, B7.ex e89, e89 _ _ hD, rD.ex e89, hB⟩
      clear n2 c2 hb0 c7 B7 hD rD nG e8 hG rG np nl nlp e9 hB e89 c9 n9
      walk_at "st"
      refine ⟨p, l, us.map (writR s), s, rfl, w9.hB, hs3, sW, by simp; omega, fun H10 e10 => ?_⟩
      have w10 := w9.xn (xn_ex e10) (tab_ext w9.ct e10)
      clear w9 e10
      walk_at "st"
      refine ⟨D, s, ys, us, rfl, hs3, w10.hD, w10.rD, sU, by omega, fun H11 e11 => ?_⟩
      have w11 := w10.xn (xn_ex e11) (tab_ext w10.ct e11)
      clear w10 e11
      obtain ⟨dx, zb, hp, hlb, hRb⟩ := id w11.hB
      have zl := hRb.len
      rw [List.length_map] at zl
      walk_at "st"
      have w12 := w11.xn (xn_ex hmE) (tab_ext w11.ct hmE)
      have hRb := hRb.ex hmE
      obtain ⟨L, rfl⟩ : ∃ L, L = pn := ⟨pn, rfl⟩
      have hL := hmA
      clear w11 hmE hmN hmA hp hlb
      walk_at "st"
      refine ⟨D, s, ys, us, rfl, hs3, w12.hD, w12.rD, by omega, fun U H13 zs nU e13 hU rU => ?_⟩
      walk_at "st"
      refine ⟨L, U, zb, zs, us.map (writR s), rfl, e13 _ _ hL, hU, hRb.ex e13, rU, wW, by simp; omega, ?_⟩
      have w13 := w12.xn (xn_ex e13) (tab_ext w12.ct e13)
      clear w12 e13 hL hU hRb rU nU
      walk_at "st"
      refine ⟨D, ys, us, rfl, w13.hD, w13.rD, by omega, fun M H14 ms nM e14 hM hml hmb => ?_⟩
      have nMb := w13.B.new nM
      have w14 := w13.xn (xn_ex e14) (tab_ext w13.ct e14)
      clear w13 e14 nM
      walk_at "st"
      have nSb := w14.B.new hmN
      have w15 := w14.xn (xn_ex hmE) (tab_ext w14.ct hmE)
      have hM := hmE _ _ hM
      clear w14 hmE hmN
      refine ⟨b, _, M, ms, _, _, rfl, w15.B, by omega, hM, nMb, by omega, hmb _ dU, hmA, nSb, by simp, by simp, (fun x hx => ?_), fun t H16 f lst v b16 B16 ht vs ov fb lb => ?_⟩
      · simp only [List.mem_cons, List.not_mem_nil, or_false] at hx
        rcases hx with rfl | rfl | rfl | rfl | rfl | rfl | rfl | rfl
        · exact .str (by decide +kernel) (by decide +kernel)
        · exact .str (by decide +kernel) (by decide +kernel)
        · exact .str (by decide +kernel) (by decide +kernel)
        · exact .str (by decide +kernel) (by decide +kernel)
        · exact .int ⟨by decide, by decide⟩
        · exact .int ⟨by decide, by decide⟩
        · exact .int ⟨by decide, by decide⟩
        · exact .str (by decide +kernel) (by decide +kernel)
      have w16 := w15.but b16 B16 nq ⟨nDb, nbl.symm⟩
      have hm : ∀ n, lst = some n → f ≤ n := fun n e => vs n e
      have ov' : OptW v := by
        rcases ov with rfl | h
        · exact .non
        · exact .w h.worth
      clear w15 b16 B16 hM hmA nMb nSb hmb hml
      obtain ⟨dx, zb, hp, hlb, hRb⟩ := id w16.hB
      walk_at "st"
      have w17 := w16.xn (xn_ex hmE) (tab_ext w16.ct hmE)
      refine ⟨p, l, _, f, lst, v, us, s, rfl, w17.hB, .inr ⟨_, rfl, hmA⟩, ascU, by omega, ov', (fun ⟨n, e, h⟩ => absurd (hm n e) (by omega)), fun vr H18 b18 hB18 => ?_⟩
      obtain ⟨_, hlbl⟩ : ∃ zs, Hm l = some (.lst zs) := ⟨_, hmE _ _ hlb⟩
      have w18 : W27 T.c_Book T.cp_Lsorted_rows H b s D p l ys us (putL us f lst v) _ H18 :=
        ⟨xn_mut w17.n b18 nql, tab_but w17.ct b18 ⟨_, hlbl⟩, w17.B.but b18 nbl, b18 _ _ nDl w17.hD, w17.rD.tp (b18.tpL hlbl), hB18⟩
      clear w16 w17 hmE hmA hmN hp hlb hRb ht b18 hlbl hB18
      have p1 := put_asc (v := v) ascU hm
      have p2 : ∀ r ∈ putL us f lst v, DayR (10 ^ 63) r := put_day (fun r h => (dU r h).mono (by omega)) ⟨by omega, by omega⟩ lb ov
      have p3 := put_len2 (v := v) ascU hm
      have sU2 : ∀ r ∈ putL us f lst v, SmlR (writR s r) := fun r h => (p2 r h).writ (by omega)
      have sW2 : ∀ r ∈ (putL us f lst v).map (writR s), SmlR r := fun r h => by
        obtain ⟨x, hx, rfl⟩ := List.mem_map.mp h
        exact sU2 x hx
      walk_at "st"
      refine ⟨D, f, lst, v, ys, us, rfl, w18.hD, w18.rD, ascU, by omega, hm, w18.ct, fun D2 H19 ys2 eN t19 nD2 hD2 rD2 => ?_⟩
      have w19 : W27 T.c_Book T.cp_Lsorted_rows H b s D2 p l ys2 (putL us f lst v) (putL us f lst v) _ H19 :=
        ⟨fun c o h z => eN c o (w18.n c o h z) z, t19, xn_bag eN w18.B, hD2, rD2, bookXn w18.hB eN⟩
      clear w18 eN t19 nD2 hD2 rD2
      generalize putL us f lst v = tb at *
      obtain ⟨dx, zb, hp, hlb, hRb⟩ := id w19.hB
      walk_at "st"
      refine ⟨p, l, tb.map (writR s), s, rfl, w19.hB, hs3, sW2, by simp; omega, fun H20 e20 => ?_⟩
      have w20 := w19.xn (xn_ex e20) (tab_ext w19.ct e20)
      clear w19 e20 hp hlb hRb
      walk_at "st"
      refine ⟨D2, s, ys2, tb, rfl, hs3, w20.hD, w20.rD, sU2, by omega, fun H21 e21 => ?_⟩
      have w21 := w20.xn (xn_ex e21) (tab_ext w20.ct e21)
      clear w20 e21
      walk_at "st"
      refine ⟨p, l, tb.map (writR s), s, rfl, w21.hB, hs3, sW2, by simp; omega, fun H22 e22 => ?_⟩
      have w22 := w21.xn (xn_ex e22) (tab_ext w21.ct e22)
      clear w21 e22
      walk_at "st"
      refine ⟨D2, s, ys2, tb, rfl, hs3, w22.hD, w22.rD, sU2, by omega, fun H23 e23 => ?_⟩
      have w23 := w22.xn (xn_ex e23) (tab_ext w22.ct e23)
      clear w22 e23
      walk_at "st"
      exact ⟨_, _, _, _, _, _, _, _, rfl, w23.n, w23.ct⟩
    · rintro σ' H1 ⟨t1, t2, t3, t4, t5, t6, t7, t8, rfl, e1, _⟩
      walk_at "st"
      exact kk _
end
end Vf
open PySem PySem.Spec PyProof.Rows L2
open LamX (TabB TabS ExtN)
theorem PySem.Challenge.cw_untilrows_k27_printed_books_holds : PySem.Challenge.rw_untilrows_k27_printed_books.Holds := by
  exact Vf.early.2.2.2.2 Vf.run fun w K mg h T hC hN => Vf.lawL_at (q := Vf.lamQ) hC hN (fd := T.fd_law) T.bt_law fun base TB => Vf.ok_law T TB
