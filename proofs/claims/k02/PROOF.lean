import PyProof.Rows.All
import Wide.All
import OpenK.AllK
import Wide.FinOn
import HandS.ForMost
import HandS.IsInst
import HandS.Walk
import HandS.Style
import HandS.SortRule
import HandS.TupSets
import HandS.Conv
import HandS.More
import KE.SortData
import KE.DataMinMax
import PyProof.ReprRoads
import HandS.Set
import HandS.SetFor
import HandS.SetTxt0
import HandS.Strs
import HandS.SetBool
import HandS.Defaults
import HandS.Zip
import KE.GoesMore
import KE.GoesEnum
import HandS.Ends
import HandS.Words
import HandS.Deep
import HandS.Steps
import PyProof.StrLawsRepr
import PyProof.FitsInt
import PySem.Challenge.RW_stakecrates_k02_stakes_by_days
set_option Elab.async false
set_option linter.all false
set_option maxRecDepth 100000
set_option maxHeartbeats 4000000
section
/-! My own steps: one lemma a reading. -/
namespace Sk
open PySem L2
theorem kb_int_int : kitB "int" "int" = some true := by decide +kernel
theorem kb_int_bool : kitB "int" "bool" = some false := by decide +kernel
theorem kb_int_str : kitB "int" "str" = some false := by decide +kernel
theorem kb_int_tuple : kitB "int" "tuple" = some false := by decide +kernel
theorem kb_int_list : kitB "int" "list" = some false := by decide +kernel
theorem kb_bool_int : kitB "bool" "int" = some true := by decide +kernel
theorem kb_bool_bool : kitB "bool" "bool" = some true := by decide +kernel
theorem kb_bool_str : kitB "bool" "str" = some false := by decide +kernel
theorem kb_bool_tuple : kitB "bool" "tuple" = some false := by decide +kernel
theorem kb_bool_list : kitB "bool" "list" = some false := by decide +kernel
theorem kb_str_int : kitB "str" "int" = some false := by decide +kernel
theorem kb_str_bool : kitB "str" "bool" = some false := by decide +kernel
theorem kb_str_str : kitB "str" "str" = some true := by decide +kernel
theorem kb_str_tuple : kitB "str" "tuple" = some false := by decide +kernel
theorem kb_str_list : kitB "str" "list" = some false := by decide +kernel
theorem kb_tuple_int : kitB "tuple" "int" = some false := by decide +kernel
theorem kb_tuple_bool : kitB "tuple" "bool" = some false := by decide +kernel
theorem kb_tuple_str : kitB "tuple" "str" = some false := by decide +kernel
theorem kb_tuple_tuple : kitB "tuple" "tuple" = some true := by decide +kernel
theorem kb_tuple_list : kitB "tuple" "list" = some false := by decide +kernel
theorem kb_list_int : kitB "list" "int" = some false := by decide +kernel
theorem kb_list_bool : kitB "list" "bool" = some false := by decide +kernel
theorem kb_list_str : kitB "list" "str" = some false := by decide +kernel
theorem kb_list_tuple : kitB "list" "tuple" = some false := by decide +kernel
theorem kb_list_list : kitB "list" "list" = some true := by decide +kernel
theorem kb_dict_int : kitB "dict" "int" = some false := by decide +kernel
theorem kb_dict_bool : kitB "dict" "bool" = some false := by decide +kernel
theorem kb_dict_str : kitB "dict" "str" = some false := by decide +kernel
theorem kb_dict_tuple : kitB "dict" "tuple" = some false := by decide +kernel
theorem kb_dict_list : kitB "dict" "list" = some false := by decide +kernel
theorem kb_NoneType_int : kitB "NoneType" "int" = some false := by decide +kernel
theorem kb_NoneType_bool : kitB "NoneType" "bool" = some false := by decide +kernel
theorem kb_NoneType_str : kitB "NoneType" "str" = some false := by decide +kernel
theorem kb_NoneType_tuple : kitB "NoneType" "tuple" = some false := by decide +kernel
theorem kb_NoneType_list : kitB "NoneType" "list" = some false := by decide +kernel
/-- all but what stands at p is as it was -/
def But (p : Addr) (H H' : Hp) : Prop := ∀ b, b ≠ p → H' b = H b
theorem But.upd {H : Hp} {p : Addr} {o : HO} : But p H (upd H p o) := fun b hb => upd_ne hb
theorem But.get {H H' : Hp} {p b : Addr} {o : HO} (h : But p H H') (n : b ≠ p) (e : H b = some o) : H' b = some o := (h b n).trans e
theorem But.getN {H H' : Hp} {p b : Addr} (h : But p H H') (n : b ≠ p) (e : H' b = none) : H b = none := (h b n).symm.trans e
theorem But.trans {H H1 H2 : Hp} {p : Addr} (a : But p H H1) (b : But p H1 H2) : But p H H2 := fun c hc => (b c hc).trans (a c hc)
theorem But.refl {H : Hp} {p : Addr} : But p H H := fun _ _ => rfl
theorem upd_none {H : Hp} {p q : Addr} {o : HO} (h : upd H p o q = none) : q ≠ p ∧ H q = none := by
  by_cases e : q = p
  · rw [e, upd_same] at h; cases h
  · rw [upd_ne e] at h; exact ⟨e, h⟩
theorem upd_get {H : Hp} {p q : Addr} {o u : HO} (n : q ≠ p) (e : H q = some u) : upd H p o q = some u := (upd_ne n).trans e
theorem ne_kind {H : Hp} {p q : Addr} {o u : HO} (a : H p = some o) (b : H q = some u) (d : o ≠ u) : p ≠ q := fun e => by
  rw [e, b] at a; exact d (Option.some.inj a).symm
theorem len_ok {xs : List V} (h : Nat.ble xs.length 1000 = true) : xs.length ≤ sizeLine := Nat.le_trans (Nat.le_of_ble_eq_true h) (by decide)
theorem ne_lt {xs ys : List V} : HO.lst xs ≠ HO.tup ys := fun e => by cases e
theorem ne_tl {xs ys : List V} : HO.tup xs ≠ HO.lst ys := fun e => by cases e
section
variable {K : PySem.W.Frag} {σ : St} {H : Hp} {Q : VK} {D : Ends}
theorem rd_var {i : Nat} {v : V} (h : σ[i]? = some (some v)) (k : Q v H) : tVar i σ H Q := ⟨v, h, k⟩
theorem rd_c {v : V} (k : Q v H) : tC v σ H Q := k
theorem rd_op {r : R2} {ta tb : TE} (k : ta σ H fun x H1 => tb σ H1 fun y H2 => r x y H2 Q) : tOp r ta tb σ H Q := k
theorem rd_un {r : V → Hp → VK → Prop} {ta : TE} (k : ta σ H fun x H1 => r x H1 Q) : tUn r ta σ H Q := k
theorem rd_I0 {g : Int → Int → V} {i j : Int} (k : Q (g i j) H) : rI0 g (.int i) (.int j) H Q := ⟨i, j, rfl, rfl, k⟩
theorem rd_I {C : Int → Int → Prop} {g : Int → Int → V} {i j : Int} (c : C i j) (k : Q (g i j) H) : rI C g (.int i) (.int j) H Q := ⟨i, j, rfl, rfl, c, k⟩
theorem rd_U {g : Int → V} {i : Int} (k : Q (g i) H) : rU g (.int i) H Q := ⟨i, rfl, k⟩
theorem rd_eqI {i j : Int} (k : Q (.bl (decide (i = j))) H) : rEq (.int i) (.int j) H Q := ⟨rfl, by
  have e : decide (V.int i = V.int j) = decide (i = j) := by simp
  rw [e]; exact k⟩
theorem rd_neI {i j : Int} (k : Q (.bl (!decide (i = j))) H) : rNe (.int i) (.int j) H Q := ⟨rfl, by
  have e : decide (V.int i = V.int j) = decide (i = j) := by simp
  rw [e]; exact k⟩
theorem rd_ixL {p : Addr} {xs : List V} {i : Int} {v : V} (h : H p = some (.lst xs)) (e : atI xs i = some v) (k : Q v H) : rIxL K (.ref p) (.int i) H Q := ⟨p, xs, i, v, rfl, rfl, SqL.of h, e, k⟩
theorem rd_ixT {p : Addr} {xs : List V} {i : Int} {v : V} (h : H p = some (.tup xs)) (e : atI xs i = some v) (k : Q v H) : rIxT K (.ref p) (.int i) H Q := ⟨p, xs, i, v, rfl, rfl, SqT.of h, e, k⟩
theorem rd_setL {p : Addr} {xs : List V} {i : Int} {j : Nat} {v : V} {R : Hp → Prop} (h : H p = some (.lst xs)) (e : ixN xs.length i = some j) (k : R (upd H p (.lst (xs.set j v)))) : rSetL (.ref p) (.int i) v H R := ⟨p, xs, i, j, rfl, rfl, h, e, k⟩
theorem rd_seq {t u : TS} (k : t { D with nx := u D } σ H) : tSeq t u D σ H := k
theorem rd_asg {te : TE} {g : TG} (k : te σ H fun x H1 => g x σ H1 D.nx) : tAsg te g D σ H := k
theorem rd_gName {i : Nat} {v : V} {R : St → Hp → Prop} (k : R (σ.set i (some v)) H) : gName i v σ H R := k
theorem rd_gSub {to ti : TE} {t : TSet} {v : V} {R : St → Hp → Prop} (k : to σ H fun o H1 => ti σ H1 fun i H2 => t o i v H2 fun H3 => R σ H3) : gSub to ti t v σ H R := k
theorem rd_ret {te : TE} (k : te σ H D.rt) : tRet te D σ H := k
theorem rd_drop {te : TE} (k : te σ H fun _ H1 => D.nx σ H1) : tDrop te D σ H := k
theorem rd_next (k : D.nx σ H) : tNext D σ H := k
theorem rd_ifS {c : TT} {t u : TS} (k : c σ H fun b H1 => if b = true then t D σ H1 else u D σ H1) : tIfS c t u D σ H := k
theorem rd_test {t : TE} {R : Bool → Hp → Prop} (k : t σ H fun x H' => ∃ k, x = .bl k ∧ R k H') : tTest t σ H R := k
theorem rd_bl {b : Bool} {R : Bool → Prop} (k : R b) : ∃ k, V.bl b = .bl k ∧ R k := ⟨b, rfl, k⟩
theorem rd_nil {R : List V → Hp → Prop} (k : R [] H) : tNil σ H R := k
theorem rd_cons {ta : TE} {tr : TA} {R : List V → Hp → Prop} (k : ta σ H fun x H1 => tr σ H1 fun xs H2 => R (x :: xs) H2) : tCons ta tr σ H R := k
theorem rd_tup {t : TA} (k : t σ H fun xs H1 => xs.length ≤ sizeLine ∧ ∀ p, H1 p = none → Q (.ref p) (upd H1 p (.tup xs))) : tTup t σ H Q := k
theorem rd_lst {t : TA} (k : t σ H fun xs H1 => xs.length ≤ sizeLine ∧ ∀ p, H1 p = none → Q (.ref p) (upd H1 p (.lst xs))) : tLst t σ H Q := k
theorem rd_call {sp : Sp} {dvs : List V} {E : XK} {t : TA} (k : t σ H fun vs H1 => sp (vs ++ dvs) H1 Q E) : tCall sp dvs E t σ H Q := k
theorem rd_cb {r : List V → Hp → VK → Prop} {t : TA} (k : t σ H fun vs H1 => r vs H1 Q) : tCB r t σ H Q := k
theorem rd_par {i j : Nat} {ta : TA} (k : ta σ H fun vs H1 => ∃ v w, vs = [v, w] ∧ D.nx ((σ.set i (some v)).set j (some w)) H1) : tPar i j ta D σ H := k
theorem rd_par2 {v w : V} {R : V → V → Prop} (k : R v w) : ∃ v' w', [v, w] = [v', w'] ∧ R v' w' := ⟨v, w, rfl, k⟩
theorem rd_and {t u : TT} {R : Bool → Hp → Prop} (k : t σ H fun c H1 => if c = true then u σ H1 R else R false H1) : tAnd t u σ H R := k
theorem rd_or {t u : TT} {R : Bool → Hp → Prop} (k : t σ H fun c H1 => if c = true then R true H1 else u σ H1 R) : tOr t u σ H R := k
theorem rd_not {t : TT} {R : Bool → Hp → Prop} (k : t σ H fun c H1 => R (!c) H1) : tNot t σ H R := k
theorem rd_andV {ta tb : TE} (k : ta σ H fun x H1 => ∃ c, x = .bl c ∧ if c = true then tb σ H1 Q else Q (.bl false) H1) : tAndV ta tb σ H Q := k
theorem rd_orV {ta tb : TE} (k : ta σ H fun x H1 => ∃ c, x = .bl c ∧ if c = true then Q (.bl true) H1 else tb σ H1 Q) : tOrV ta tb σ H Q := k
theorem rd_notV {ta : TE} (k : ta σ H fun x H1 => ∃ c, x = .bl c ∧ Q (.bl (!c)) H1) : tNotV ta σ H Q := k
theorem rd_if {t : TT} {ta tb : TE} (k : t σ H fun c H1 => if c = true then ta σ H1 Q else tb σ H1 Q) : tIf t ta tb σ H Q := k
theorem rd_append {l : Addr} {xs : List V} {y : V} (h : H l = some (.lst xs)) (n : xs.length < sizeLine) (k : Q .non (upd H l (.lst (xs ++ [y])))) : rAppend (.ref l) [y] H Q := ⟨l, xs, y, rfl, rfl, h, n, k⟩
theorem rd_bmL {r : V → List V → Hp → VK → Prop} {to : TE} {t : TA} (k : to σ H fun x H1 => tyV K "list" x H1 ∧ t σ H1 fun xs H2 => r x xs H2 Q) : tBM K "list" r to t σ H Q := k
theorem rd_cat {l b : Addr} {xs zs : List V} (h : H l = some (.lst xs)) (h' : H b = some (.lst zs)) (n : xs.length + zs.length ≤ sizeLine) (k : ∀ p, H p = none → Q (.ref p) (upd H p (.lst (xs ++ zs)))) : rCat (.ref l) (.ref b) H Q := ⟨l, b, xs, zs, rfl, rfl, h, h', n, k⟩
theorem rd_sum {a : Addr} {ns : List Int} (h : H a = some (.lst (ns.map V.int))) (k : Q (.int ns.sum) H) : rSum K [V.ref a] H Q := ⟨a, ns, rfl, SqL.of h, k⟩
theorem rd_all {a : Addr} {bs : List Bool} (h : H a = some (.lst (bs.map V.bl))) (k : Q (.bl (bs.all id)) H) : rAll K [V.ref a] H Q := ⟨a, bs, rfl, SqL.of h, k⟩
theorem rd_any {a : Addr} {bs : List Bool} (h : H a = some (.lst (bs.map V.bl))) (k : Q (.bl (bs.any id)) H) : rAny K [V.ref a] H Q := ⟨a, bs, rfl, SqL.of h, k⟩
theorem tyL {a : Addr} {xs : List V} (h : H a = some (.lst xs)) : tyV K "list" (.ref a) H := .inl ⟨rfl, _, SqL.of h⟩
end
/-- all but what stands at p stays; more may stand -/
def Ext (p : Addr) (H H' : Hp) : Prop := ∀ b o, b ≠ p → H b = some o → H' b = some o
theorem Ext.refl {H : Hp} {p : Addr} : Ext p H H := fun _ _ _ e => e
theorem Ext.trans {H H1 H2 : Hp} {p : Addr} (a : Ext p H H1) (b : Ext p H1 H2) : Ext p H H2 := fun c o n e => b c o n (a c o n e)
theorem But.ext {H H' : Hp} {p : Addr} (h : But p H H') : Ext p H H' := fun b _ n e => h.get n e
theorem Ext.get {H H' : Hp} {p b : Addr} {o : HO} (h : Ext p H H') (n : b ≠ p) (e : H b = some o) : H' b = some o := h b o n e
theorem Ext.new {H H' : Hp} {p l : Addr} {o : HO} (h : Ext p H H') (n : H' l = none) : Ext p H (L2.upd H' l o) := fun b u nb e => by
  have := h b u nb e
  rw [upd_ne (ne_of_none this n)]; exact this
theorem Ext.own {H H' : Hp} {p l : Addr} {o : HO} (h : Ext p H H') (n : H l = none) : Ext p H (L2.upd H' l o) := fun b u nb e => by
  rw [upd_ne (ne_of_none e n)]; exact h b u nb e
theorem Ext.at_ {H H' : Hp} {p : Addr} {o : HO} (h : Ext p H H') : Ext p H (L2.upd H' p o) := fun b u nb e => by
  rw [upd_ne nb]; exact h b u nb e
theorem Ext.free {H H' : Hp} {p l : Addr} (h : Ext p H H') (n : H' l = none) (hl : l ≠ p) : H l = none := by
  cases e : H l with
  | none => rfl
  | some o => rw [h l o hl e] at n; cases n
theorem Same.ext {H H' : Hp} {p : Addr} (h : L2.Same H H') : Ext p H H' := fun b o _ e => h b o e
theorem same_get {H H' : Hp} {b : Addr} {o : HO} (h : L2.Same H H') (e : H b = some o) : H' b = some o := h b o e
theorem same_new {H H' : Hp} {l : Addr} {o : HO} (h : L2.Same H H') (n : H' l = none) : L2.Same H (L2.upd H' l o) := fun b u e => by
  have := h b u e
  rw [upd_ne (ne_of_none this n)]; exact this
theorem same_own {H H' : Hp} {l : Addr} {o : HO} (h : L2.Same H H') (n : H l = none) : L2.Same H (L2.upd H' l o) := fun b u e => by
  rw [upd_ne (ne_of_none e n)]; exact h b u e
theorem same_free {H H' : Hp} {l : Addr} (h : L2.Same H H') (n : H' l = none) : H l = none := h.free n
/-- tuples stay -/
def TSt (H H' : Hp) : Prop := ∀ t xs, H t = some (.tup xs) → H' t = some (.tup xs)
theorem TSt.refl {H : Hp} : TSt H H := fun _ _ e => e
theorem TSt.trans {H H1 H2 : Hp} (a : TSt H H1) (b : TSt H1 H2) : TSt H H2 := fun t xs e => b t xs (a t xs e)
theorem TSt.new {H : Hp} {l : Addr} {o : HO} (n : H l = none) : TSt H (upd H l o) := fun t xs e => by rw [upd_ne (ne_of_none e n)]; exact e
theorem TSt.lst {H : Hp} {l : Addr} {o : HO} {ys : List V} (n : H l = some (.lst ys)) : TSt H (upd H l o) := fun t xs e => by rw [upd_ne (ne_kind e n ne_tl)]; exact e
theorem Ext.ts {H H' : Hp} {p : Addr} {ys : List V} (h : Ext p H H') (n : H p = some (.lst ys)) : TSt H H' := fun t xs e => h t _ (ne_kind e n ne_tl) e
theorem Same.ts {H H' : Hp} (h : L2.Same H H') : TSt H H' := fun t xs e => h t _ e
/-- a tuple of ints -/
def Tup (H : Hp) (v : V) (ns : List Int) : Prop := ∃ t, v = .ref t ∧ H t = some (.tup (ns.map V.int))
theorem Tup.mono {H H' : Hp} {v : V} {ns : List Int} (h : Tup H v ns) (s : TSt H H') : Tup H' v ns := by
  obtain ⟨t, e, h⟩ := h; exact ⟨t, e, s _ _ h⟩
def Rows (H : Hp) : List V → List (List Int) → Prop
  | [], [] => True
  | v :: vs, r :: rs => Tup H v r ∧ Rows H vs rs
  | _, _ => False
theorem Rows.mono {H H' : Hp} (s : TSt H H') : ∀ {vs : List V} {rs : List (List Int)}, Rows H vs rs → Rows H' vs rs
  | [], [], _ => True.intro
  | _ :: _, _ :: _, ⟨a, b⟩ => ⟨a.mono s, Rows.mono s b⟩
  | [], _ :: _, h => h.elim
  | _ :: _, [], h => h.elim
theorem Rows.length {H : Hp} : ∀ {vs : List V} {rs : List (List Int)}, Rows H vs rs → vs.length = rs.length
  | [], [], _ => rfl
  | _ :: _, _ :: _, ⟨_, b⟩ => by simp [Rows.length b]
  | [], _ :: _, h => h.elim
  | _ :: _, [], h => h.elim
theorem Rows.get {H : Hp} : ∀ {vs : List V} {rs : List (List Int)} {i : Nat} {v : V}, Rows H vs rs → vs[i]? = some v → ∃ r, rs[i]? = some r ∧ Tup H v r
  | [], [], _, _, _, e => by simp at e
  | _ :: _, r :: _, 0, _, ⟨a, _⟩, e => by simp at e; subst e; exact ⟨r, rfl, a⟩
  | _ :: _, _ :: _, i + 1, v, ⟨_, b⟩, e => by
    obtain ⟨r, e1, e2⟩ := Rows.get (i := i) (v := v) b (by simpa using e)
    exact ⟨r, by simpa using e1, e2⟩
  | [], _ :: _, _, _, h, _ => h.elim
  | _ :: _, [], _, _, h, _ => h.elim
theorem Rows.snoc {H : Hp} : ∀ {vs : List V} {rs : List (List Int)} {v : V} {r : List Int}, Rows H vs rs → Tup H v r → Rows H (vs ++ [v]) (rs ++ [r])
  | [], [], _, _, _, t => ⟨t, True.intro⟩
  | _ :: _, _ :: _, _, _, ⟨a, b⟩, t => ⟨a, Rows.snoc b t⟩
  | [], _ :: _, _, _, h, _ => h.elim
  | _ :: _, [], _, _, h, _ => h.elim
section
variable {K : PySem.W.Frag} {σ : St} {H : Hp} {Q : VK} {D : Ends}
theorem rd_ex1 {R : Int → Prop} {a : Int} (k : R a) : ∃ i, [V.int a] = [V.int i] ∧ R i := ⟨a, rfl, k⟩
theorem rd_ex2 {R : Int → Int → Prop} {a b : Int} (k : R a b) : ∃ i j, [V.int a, V.int b] = [V.int i, V.int j] ∧ R i j := ⟨a, b, rfl, k⟩
theorem rd_int1b {R : Int → Prop} {R' : Bool → Prop} {b : Bool} (k : R' b) : (∃ i, [V.bl b] = [V.int i] ∧ R i) ∨ ∃ k, [V.bl b] = [V.bl k] ∧ R' k := .inr ⟨b, rfl, k⟩
theorem rd_isiI {n : Int} {c : String} {b : Bool} (e : kitB "int" c = some b) (k : Q (.bl b) H) : rIsi K [.int n, .ty c] H Q := ⟨_, _, _, _, b, rfl, .ty c, .base (.int _), kit_ty e, k⟩
theorem rd_isiB {n : Bool} {c : String} {b : Bool} (e : kitB "bool" c = some b) (k : Q (.bl b) H) : rIsi K [.bl n, .ty c] H Q := ⟨_, _, _, _, b, rfl, .ty c, .base (.bl _), kit_ty e, k⟩
theorem rd_isiT {a : Addr} {xs : List V} {c : String} {b : Bool} (h : H a = some (.tup xs)) (e : kitB "tuple" c = some b) (k : Q (.bl b) H) : rIsi K [.ref a, .ty c] H Q := ⟨_, _, _, _, b, rfl, .ty c, .base (.tup h), kit_ty e, k⟩
theorem rd_isiL {a : Addr} {xs : List V} {c : String} {b : Bool} (h : H a = some (.lst xs)) (e : kitB "list" c = some b) (k : Q (.bl b) H) : rIsi K [.ref a, .ty c] H Q := ⟨_, _, _, _, b, rfl, .ty c, .base (.lst h), kit_ty e, k⟩
theorem rd_lenL {p : Addr} {xs : List V} {R : Nat → Prop} (h : H p = some (.lst xs)) (k : R xs.length) : ∃ x n, [V.ref p] = [x] ∧ LenV K x H n ∧ R n := ⟨_, _, rfl, .inl ⟨xs, SqL.of h, rfl⟩, k⟩
theorem rd_lenT {p : Addr} {xs : List V} {R : Nat → Prop} (h : H p = some (.tup xs)) (k : R xs.length) : ∃ x n, [V.ref p] = [x] ∧ LenV K x H n ∧ R n := ⟨_, _, rfl, .inr ⟨xs, SqT.of h, rfl⟩, k⟩
theorem rd_gTup {n : Nat} {t : TGs} {p : Addr} {xs : List V} {R : St → Hp → Prop} (h : H p = some (.tup xs)) (e : xs.length = n) (k : t xs σ H R) : gTup K n t (.ref p) σ H R := ⟨p, xs, rfl, SqT.of h, e, k⟩
theorem rd_gCons {t : TG} {u : TGs} {v : V} {r : List V} {R : St → Hp → Prop} (k : t v σ H fun σ' H' => u r σ' H' R) : gCons t u (v :: r) σ H R := ⟨v, r, rfl, k⟩
theorem rd_yes {R : Bool → Hp → Prop} (k : R true H) : tYes σ H R := k
theorem rd_gNil {R : St → Hp → Prop} (k : R σ H) : gNil [] σ H R := ⟨rfl, k⟩
end
/-- what is asked of a for behind its iterator -/
def LoopW (J : It) (g : TG) (tb : TS) (D : Ends) (σ : St) (H : Hp) : Prop := ∃ W : Nat → Nat → St → Hp → Prop, (∃ m, W 0 m σ H) ∧ ∀ i m σ H, W i m σ H →
  (J.stop i H ∧ D.nx σ H) ∨ (J.go i H ∧ ∃ N : St → Hp → Prop, (∀ σ' H', N σ' H' → ∃ m', m' < m ∧ W (i + 1) m' σ' H') ∧ ∀ x H', J.yld i H x H' → g x σ H' fun σ2 H2 => tb { D with nx := N, ct := N, bk := D.nx } σ2 H2)
/-- what is asked of a comprehension behind its iterator -/
def CompW (J : It) (g : TG) (tt : TT) (te : TE) (vs : List Nat) (σ : St) (H1 : Hp) (D : Addr) (Qd : Hp → Prop) : Prop := ∃ W : Nat → Nat → Hp → Prop, (∃ m, W 0 m (upd H1 D (.lst []))) ∧ ∀ i m H, W i m H →
  (J.stop i H ∧ Qd H) ∨ (J.go i H ∧ ∃ Nx : Hp → Prop, (∀ H', Nx H' → ∃ m', m' < m ∧ W (i + 1) m' H') ∧ ∀ x H', J.yld i H x H' → g x (wipe σ vs) H' fun σ2 H2 => wipe σ2 vs = wipe σ vs ∧ tt σ2 H2 fun b H3 =>
    if b = true then te σ2 H3 fun y H4 => ∃ acc, H4 D = some (.lst acc) ∧ acc.length < sizeLine ∧ Nx (upd H4 D (.lst (acc ++ [y]))) else Nx H3)
section
variable {K : PySem.W.Frag} {σ : St} {H : Hp} {Q : VK} {D : Ends} {R : It → Hp → Prop}
theorem rd_for {wi : TI} {g : TG} {tb : TS} (k : wi σ H fun J H1 => LoopW J g tb D σ H1) : tFor wi g tb D σ H := k
theorem rd_lc {wi : TI} {g : TG} {tt : TT} {te : TE} {vs : List Nat} (k : wi σ H fun J H1 => ∀ D, H1 D = none → CompW J g tt te vs σ H1 D (fun H2 => Q (.ref D) H2)) : tLc wi g tt te vs σ H Q := k
theorem rd_rng1 {ta : TA} (k : ta σ H fun vs H1 => ∃ j : Int, vs = [.int j] ∧ -(2 ^ 62) ≤ j ∧ j < 2 ^ 62 ∧ R (Itr 0 j.toNat) H1) : iRng1 ta σ H R := k
theorem rd_iL {tl : TE} (k : tl σ H fun x H1 => ∃ a, x = .ref a ∧ (∃ xs, SqL K H1 a xs) ∧ R (Itl K a) H1) : iList K tl σ H R := k
theorem rd_iT {tl : TE} (k : tl σ H fun x H1 => ∃ a, x = .ref a ∧ (∃ xs, SqT K H1 a xs) ∧ R (Itt K a) H1) : iTup K tl σ H R := k
theorem rd_iE {ta : TA} (k : ta σ H fun vs H1 => ∃ a xs, vs = [.ref a] ∧ SqL K H1 a xs ∧ R (Ite K a) H1) : iEnum K ta σ H R := k
theorem rd_iZ {ta : TA} (k : ta σ H fun vs H1 => ∃ a b xs ys, vs = [.ref a, .ref b] ∧ SqL K H1 a xs ∧ SqL K H1 b ys ∧ R (Itz K a b) H1) : iZip K ta σ H R := k
theorem rd_iL' {a : Addr} {xs : List V} {R : Addr → Prop} (h : H a = some (.lst xs)) (k : R a) : ∃ b, V.ref a = .ref b ∧ (∃ xs, SqL K H b xs) ∧ R b := ⟨a, rfl, ⟨xs, SqL.of h⟩, k⟩
theorem rd_iT' {a : Addr} {xs : List V} {R : Addr → Prop} (h : H a = some (.tup xs)) (k : R a) : ∃ b, V.ref a = .ref b ∧ (∃ xs, SqT K H b xs) ∧ R b := ⟨a, rfl, ⟨xs, SqT.of h⟩, k⟩
theorem rd_iE' {a : Addr} {xs : List V} {R : Addr → Prop} (h : H a = some (.lst xs)) (k : R a) : ∃ b ys, [V.ref a] = [.ref b] ∧ SqL K H b ys ∧ R b := ⟨a, xs, rfl, SqL.of h, k⟩
theorem rd_iZ' {a b : Addr} {xs ys : List V} {R : Addr → Addr → Prop} (h : H a = some (.lst xs)) (h' : H b = some (.lst ys)) (k : R a b) : ∃ c d xs ys, [V.ref a, V.ref b] = [.ref c, .ref d] ∧ SqL K H c xs ∧ SqL K H d ys ∧ R c d := ⟨a, b, xs, ys, rfl, SqL.of h, SqL.of h', k⟩
theorem loopW {J : It} {n : Nat} {G : Hp → Prop} {Y : Nat → Hp → V → Hp → Prop} (w : Walk J n G Y) {g : TG} {tb : TS} (Pv : Nat → St → Hp → Prop) (h0 : Pv 0 σ H) (hG : ∀ i σ H, i ≤ n → Pv i σ H → G H)
    (hs : ∀ i x σ H H', i < n → Pv i σ H → Y i H x H' → g x σ H' fun σ2 H2 => tb { D with nx := Pv (i + 1), ct := Pv (i + 1), bk := D.nx } σ2 H2) (hd : ∀ σ H, Pv n σ H → D.nx σ H) : LoopW J g tb D σ H := for_it w Pv h0 hG hs hd
end
section
variable {J : It} {n : Nat} {G : Hp → Prop} {Y : Nat → Hp → V → Hp → Prop}
/-- a comprehension: A tells the list so far; all but what stands at p stays -/
theorem lcA (w : Walk J n G Y) {g : TG} {tt : TT} {te : TE} {vs : List Nat} {σ : St} {H0 : Hp} {D p : Addr} {Qd : Hp → Prop} (A : Nat → List V → Hp → Prop) (hD : H0 D = none) (hn : n ≤ 100000)
    (h0 : A 0 [] (upd H0 D (.lst []))) (hG : ∀ H', Ext p H0 H' → G H')
    (hs : ∀ i x H H' acc (M : Hp → Prop), i < n → Ext p H0 H → H D = some (.lst acc) → acc.length ≤ i → A i acc H → Y i H x H' →
      (∀ H4 y, Ext p H0 H4 → H4 D = some (.lst acc) → A (i + 1) (acc ++ [y]) (upd H4 D (.lst (acc ++ [y]))) → ∃ acc', H4 D = some (.lst acc') ∧ acc'.length < sizeLine ∧ M (upd H4 D (.lst (acc' ++ [y])))) →
      (∀ H3, Ext p H0 H3 → H3 D = some (.lst acc) → A (i + 1) acc H3 → M H3) →
      g x (wipe σ vs) H' fun σ2 H2 => wipe σ2 vs = wipe σ vs ∧ tt σ2 H2 fun b H3 =>
        if b = true then te σ2 H3 fun y H4 => ∃ acc', H4 D = some (.lst acc') ∧ acc'.length < sizeLine ∧ M (upd H4 D (.lst (acc' ++ [y]))) else M H3)
    (hd : ∀ H' acc, Ext p H0 H' → H' D = some (.lst acc) → acc.length ≤ n → A n acc H' → Qd H') :
    CompW J g tt te vs σ H0 D Qd := by
  refine lc_it w (fun i H => ∃ acc, Ext p H0 H ∧ H D = some (.lst acc) ∧ acc.length ≤ i ∧ A i acc H) ⟨[], Ext.new Ext.refl hD, upd_same, Nat.le_refl _, h0⟩ (fun i H _ ⟨acc, e, _⟩ => hG H e) ?_ (fun H ⟨acc, e, q, l, a⟩ => hd H acc e q l a)
  rintro i x H H' hi ⟨acc, e, q, l, a⟩ y
  refine hs i x H H' acc _ hi e q l a y (fun H4 y e4 q4 a4 => ⟨acc, q4, Nat.lt_of_le_of_lt (Nat.le_trans l (Nat.le_trans (Nat.le_of_lt hi) hn)) (by decide), acc ++ [y], ?_, upd_same, by simp; omega, a4⟩) (fun H3 e3 q3 a3 => ⟨acc, e3, q3, by omega, a3⟩)
  intro b o nb eb
  have h4 := e4 b o nb eb
  have : b ≠ D := ne_of_none eb hD
  rw [upd_ne this]; exact h4
end
/-! ### rules with the written part by name, for comprehensions -/
section
variable {X : Cx} {K : PySem.W.Frag}
theorem ix_listK (h : X.K = K) : IxR X (rIxL K) := by subst h; exact ix_list
theorem ix_tupK (h : X.K = K) : IxR X (rIxT K) := by subst h; exact ix_tup
theorem call_lenK (h : X.K = K) : CallR X (.builtin "len") (fun xs H Q => ∃ x n, xs = [x] ∧ LenV K x H n ∧ Q (.int n) H) := by subst h; exact call_len
theorem pg_tupK {es : List Expr} {kk n : Nat} {t : TGs} {pos : Pos} (hK : X.K = K) (hc : X.calm = true) (h : PGs X es t)
    (hn : List.length (assignEach es X.env) = n := by rfl) (hst : List.findIdx? (·.1) (assignEach es X.env) = none := by rfl) : PG X (.Tuple es kk pos) (gTup K n t) := by
  subst hK
  exact pg_tup hc h hn hst
theorem pi_listK {tg l : Expr} {tl : TE} (h : X.K = K) (hl : PE X l tl) : PI X tg l (iList K tl) := by subst h; exact pi_list hl
theorem pi_tupK {tg l : Expr} {tl : TE} (h : X.K = K) (hl : PE X l tl) : PI X tg l (iTup K tl) := by subst h; exact pi_tup hl
theorem cr_sumK (h : X.K = K) (hc : X.calm = true) : CallR X (.builtin "sum") (rSum K) := by subst h; exact cr_sum hc
theorem cr_allK (h : X.K = K) (hc : X.calm = true) : CallR X (.builtin "all") (rAll K) := by subst h; exact cr_all hc
theorem cr_anyK (h : X.K = K) (hc : X.calm = true) : CallR X (.builtin "any") (rAny K) := by subst h; exact cr_any hc
theorem call_isi1 (h : X.K = K) : CallR X (.builtin "isinstance") (rIsi K) := by subst h; exact call_isi
theorem call_isiTK (h : X.K = K) : CallR X (.builtin "isinstance") (rIsiT K) := by subst h; exact call_isiT
theorem sl_listK (h : X.K = K) : SlR X (rSlL K) := by subst h; exact sl_list
theorem op_eqDK (h : X.K = K) (hu : X.A.units + 64 < cLine) : OpR X (compareOp .Eq) (rEqD K) := by subst h; exact op_eqD hu
theorem op_neDK (h : X.K = K) (hu : X.A.units + 64 < cLine) : OpR X (compareOp .NotEq) (rNeD K) := by subst h; exact op_neD hu
end
end Sk
end

section
/-! sorted and max of data -/
namespace Sk
open PySem PySem.Spec PyProof.Rows L2
open PySem.W (AllAlike Sortable dataLe sortVals_data SortsAt sortingHeap sortingHeap_old EachIs)
theorem each_vals : ∀ {zs : List (V × PyData)} {us : List Value}, Vals (zs.map (·.1)) us → EachIs (fun v z => RelV z.1 v) us zs
  | [], _, .nil => .nil
  | _ :: _, _, .cons a b => .cons a (each_vals b)
theorem vals_each : ∀ {zs : List (V × PyData)} {us : List Value}, EachIs (fun v z => RelV z.1 v) us zs → Vals (zs.map (·.1)) us
  | [], _, .nil => .nil
  | _ :: _, _, .cons a b => .cons a (vals_each b)
/-- things that can be sorted -/
structure SortZ (K : PySem.W.Frag) (H : Hp) (zs : List (V × PyData)) : Prop where
  dp : ∀ z ∈ zs, Dp K H z.1 z.2
  al : AllAlike (zs.map (·.2))
  so : Sortable (zs.map (·.2))
  de : ∀ z ∈ zs, z.2.depth ≤ 8
  le : zs.length ≤ sizeLine
/-- these things, sorted -/
def sortZ (zs : List (V × PyData)) : List V := (zs.mergeSort (dataLe false (·.2))).map (·.1)
theorem reads_each {X : Cx} {pins : List (Addr × Obj)} {σ : L2.St} {H : Hp} {s1 : Shared} (J : Inv X pins σ H s1) {hp : Heap} (keep : ∀ b o, s1.heap.get? b = some o → hp.get? b = some o) {zs : List (V × PyData)} {us : List Value} (dp : ∀ z ∈ zs, Dp X.K H z.1 z.2)
    (e : EachIs (fun v z => RelV z.1 v) us zs) : EachIs (fun v z => ∃ as, Reads hp v z.2 as) us zs := by
  induction e with
  | nil => exact .nil
  | @cons v z vs zs a b ih =>
    obtain ⟨as, r⟩ := Dp.reads J z.2 z.1 v (dp z List.mem_cons_self) a
    exact .cons ⟨as, PyProof.Rows.Reads.keeps keep r⟩ (ih fun y hy => dp y (List.mem_cons_of_mem _ hy))
/-- sorted(r), whatever r is, once its things are collected -/
theorem sorted_by {X : Cx} (hu : X.A.units + 64 < cLine) {pins : List (Addr × Obj)} {s : Shared} {σ : L2.St} {H : Hp} {Q : VK} {r : Addr}
    (col : ∀ (R : List Value → Shared → Prop) (E : Value → Shared → Prop), (∀ us s1 zs, Inv X pins σ H s1 → Vals (zs.map (·.1)) us → SortZ X.K H zs → (∀ p, H p = none → Q (.ref p) (upd H p (.lst (sortZ zs)))) → R us s1) → wpAny (model X.prog X.w) X.A.in1 (collect (.ref r)) R E s) :
    wpAny (model X.prog X.w) X.A (call (.builtin "sorted") [.ref r]) (EP X pins σ Q) X.xe s := by
  refine Calls.call_function_entry kind_sorted plain_sorted entry_sorted (args_sorted1 (.ref r)) (?asked)
  unfold Builtin.«sorted»
  refine wpAny_bind (m := checkCount "sorted" 1 1 _) (wpAny_pure (wpAny_bind (col _ _ ?_)))
  intro us s1 zs J rel Z q
  have many : us.length = zs.length := by rw [← rel.length, List.length_map]
  have room : us.length ≤ sizeLine := many ▸ Z.le
  obtain ⟨hp, g1, g2, tk, g3⟩ := s1
  refine wpAny_bind (wpAny_newList ?_ room)
  generalize made : hp.push (seqObj "list" us.toArray 0) = hn
  have new : hn.get? hp.objs.size = some (seqObj "list" us.toArray 0) := made ▸ Heap.get?_push_size _ rfl
  have old : ∀ b o, hp.get? b = some o → b ≠ hp.objs.size ∧ hn.get? b = some o := fun b o g => ⟨Nat.ne_of_lt (Heap.lt_size g), made ▸ Heap.get?_push_of_some _ g⟩
  have ea := each_vals rel
  have er := reads_each (hp := sortingHeap hn hp.objs.size us) J (fun b o g => sortingHeap_old (old b o g).1 (old b o g).2) Z.dp ea
  have can : SortsAt X.prog X.w X.A.in1.in1 (⟨sortingHeap hn hp.objs.size us, g1, g2, tk, g3⟩ : Shared) (PySem.W.dataKind (sortingHeap hn hp.objs.size us) (zs.map fun z => z.2)) us := by
    refine SortsAt.data (s := ⟨sortingHeap hn hp.objs.size us, g1, g2, tk, g3⟩) (PySem.W.each_map (R := fun v d => ∃ as, Reads (sortingHeap hn hp.objs.size us) v d as) (fun z : V × PyData => z.2) er) Z.al Z.so fun d hd => ?_
    obtain ⟨z, hz, rfl⟩ := List.mem_map.mp hd
    have := Z.de z hz
    show X.A.units + 1 + 1 + z.2.depth < cLine
    omega
  show wpAny (model X.prog X.w) X.A.in1 _ _ _ (⟨hn, g1, g2, tk, g3⟩ : Shared)
  refine wpAny_bind (wpAny_holding (wpAny_call_entry slot_list_sort ⟨_, new, rfl⟩ entry_list_sort (PySem.W.list_sort_vals (s := ⟨hn, g1, g2, tk, g3⟩) new can room ⟨.none, rfl, ?_⟩) (args_list_sort (.ref hp.objs.size))))
  have eo := sortVals_data (R := fun v (z : V × PyData) => RelV z.1 v) false ea er Z.al
  generalize PySem.W.sortVals (PySem.W.dataKind (sortingHeap hn hp.objs.size us) (zs.map fun z => z.2)) false us us = out at eo
  obtain ⟨ep, at_⟩ := sortedHeap_at (vs := us) (out := out.toArray) new
  refine wpAny_pure ⟨_, rfl, .ref hp.objs.size, upd H hp.objs.size (.lst (sortZ zs)), J.laid (t' := tk) (fun b o g => ?_) (Nat.le_refl _) ⟨?_, out, ep, vals_each eo, at_⟩, rfl, q _ (J.hok.fresh (Nat.le_refl _))⟩
  · rw [sortedHeap_old (old b o g).1 (Heap.lt_size (old b o g).2)]
    exact (old b o g).2
  · rw [sortZ, List.length_map, List.length_mergeSort]
    exact Z.le
/-! ### sorted of a dict whose keys are tuples -/
def keyD : Key → PyData
  | .inl i => .int i
  | .inr x => .str x
def tupD (k : List Key) : PyData := .tuple (k.map keyD)
theorem dp_key {K : PySem.W.Frag} {H : Hp} : ∀ k : Key, Dp K H (kV k) (keyD k)
  | .inl i => .int i
  | .inr x => .str x
theorem dp_keys {K : PySem.W.Frag} {H : Hp} : ∀ ks : List Key, DpAll K H (ks.map kV) (ks.map keyD)
  | [] => .nil
  | k :: ks => .cons (dp_key k) (dp_keys ks)
theorem deep_keys : ∀ ks : List Key, PyData.depthAll (ks.map keyD) = 0
  | [] => rfl
  | .inl i :: ks => by simp [PyData.depthAll, PyData.depth, keyD, deep_keys ks]
  | .inr x :: ks => by simp [PyData.depthAll, PyData.depth, keyD, deep_keys ks]
/-- sorted(d): the key tuples themselves -/
def rSortedDT : List V → Hp → VK → Prop := fun xs H Q => ∃ (d : Addr) (kvs : List (List Key × V)), xs = [.ref d] ∧ Rd H d (.dT kvs) ∧ AllAlike (kvs.map fun x => tupD x.1) ∧ (∀ x ∈ kvs, x.1 ≠ []) ∧
  ∀ (bs : List Addr) (p : Addr), IsKeys H kvs bs → H p = none → Q (.ref p) (upd H p (.lst (sortZ ((kvs.zip bs).map fun x => (V.ref x.2, tupD x.1.1)))))
theorem paired_zip {α β : Type} {R : α → β → Prop} : ∀ {as : List α} {bs : List β}, Paired R as bs → ∀ x ∈ as.zip bs, R x.1 x.2
  | _, _, .nil, x, h => by cases h
  | _, _, .cons a b, x, h => by
    rcases List.mem_cons.mp h with rfl | h
    · exact a
    · exact paired_zip b x h
theorem cr_sortedDT {X : Cx} (hc : X.calm = true) (hu : X.A.units + 64 < cLine) : CallR X (.builtin "sorted") rSortedDT := by
  intro pins s σ H xs us Q I rel asked
  obtain ⟨d, kvs, rfl, hd, al, ne, q⟩ := asked
  obtain ⟨u, rfl, ru⟩ := rel.one
  cases ru
  obtain ⟨z, lo, ks, pr, o, es, ep, ho, hx, hdt, he, _⟩ := (show ObjOk X.prog X.w H s.heap d (.dT kvs) from hd.ok I.hok)
  have l1 : es.size = ks.length := size_of_entries he
  have l2 : kvs.length = ks.length := Paired.length pr
  have kk := isKeys_of pr
  have l3 : kvs.length = (ks.map fun x => x.2.1).length := by rw [List.length_map]; exact l2
  refine sorted_by (H := H) hu fun R E k => PySem.W.kdu_collect (A := X.A.in1) (kdl_raw lo hx hdt) (I.ok.hd hc) ho (by omega) fun h' tk acc kp it => ?_
  have ea : acc.toList = (ks.map fun x => x.2.1).map Value.ref := by
    have hl : acc.toList.length = ks.length := by rw [Array.length_toList, it.1]; exact l1
    refine List.ext_getElem (by simp [hl]) fun j j1 j2 => ?_
    have jk : j < ks.length := hl ▸ j1
    obtain ⟨en, hen, hv⟩ := it.2 j acc.toList[j] (by rw [← Array.getElem?_toList, List.getElem?_eq_getElem j1])
    have qe := entry_at he j
    rw [hen, List.getElem?_eq_getElem jk] at qe
    have e2 : en = entryOfKey (tupleKind (mixKind X.prog X.w)) ks[j] := Option.some.inj qe
    rw [hv, e2]
    simp [entryOfKey]
  have zf : ((kvs.zip (ks.map fun x => x.2.1)).map fun x => (V.ref x.2, tupD x.1.1)).map (·.1) = (ks.map fun x => x.2.1).map V.ref := by
    rw [List.map_map]
    have : ((kvs.zip (ks.map fun x => x.2.1)).map Prod.snd) = ks.map fun x => x.2.1 := List.map_snd_zip (Nat.le_of_eq l3.symm)
    conv => rhs; rw [← this, List.map_map]
    rfl
  refine k acc.toList _ _ (I.kept kp) ?_ ⟨?_, ?_, ?_, ?_, ?_⟩ fun p hp => q _ p kk hp
  · rw [zf, ea]
    exact vals_refs _
  · intro y hy
    obtain ⟨x, hx', rfl⟩ := List.mem_map.mp hy
    exact .tup (SqT.of (paired_zip kk x hx')) (dp_keys _)
  · have : (((kvs.zip (ks.map fun x => x.2.1)).map fun x => (V.ref x.2, tupD x.1.1)).map (·.2)) = kvs.map fun x => tupD x.1 := by
      rw [List.map_map]
      have : ((kvs.zip (ks.map fun x => x.2.1)).map Prod.fst) = kvs := List.map_fst_zip (Nat.le_of_eq l3)
      conv => rhs; rw [← this, List.map_map]
      rfl
    rw [this]
    exact al
  · refine .inl fun y hy => ?_
    obtain ⟨x, hx', rfl⟩ := List.mem_map.mp hy
    obtain ⟨v, hv, rfl⟩ := List.mem_map.mp hx'
    have := ne v.1 (List.of_mem_zip hv).1
    cases e : v.1.1 with
    | nil => exact absurd e this
    | cons a b => exact ⟨keyD a, b.map keyD, by simp [tupD, e]⟩
  · intro y hy
    obtain ⟨v, hv, rfl⟩ := List.mem_map.mp hy
    show PyData.depth (tupD v.1.1) ≤ 8
    simp [tupD, PyData.depth, deep_keys]
  · rw [List.length_map, List.length_zip]
    omega
end Sk
end

section
/-! sets of texts: set(list), sorted(set) -/
namespace Sk
open PySem PySem.Spec PyProof.Rows L2 PySem.Froz
/-- a set that was made just now -/
abbrev newSet (w : World) : Obj := { cls := .type "set", dict := none, data := .set #[] 0 (.fresh 0 0 (!w.params.followText "set-order")) }
/-- the set at a holds the texts l, and can be walked -/
def TxS (P : Program) (w : World) (h : Heap) (a : Addr) (l : List Str) : Prop :=
  ∃ D : SD, h.get? a = some (sObj "set" D) ∧ TxOk P w D l ∧ l.Nodup ∧ Ris D.2.2.place.toList ∧ (w.params.followText "set-order" = true ∨ D.2.2.led = true)
section
variable {P : Program} {w : World} {A : Around} {E : Value → Shared → Prop} {s : Shared} {a : Addr} {l : List Str} {k : Str} {u : Tok}
theorem TxS.at {h h' : Heap} (R : TxS P w h a l) (keep : ∀ o, h.get? a = some o → h'.get? a = some o) : TxS P w h' a l := by
  obtain ⟨D, g, more⟩ := R
  exact ⟨D, keep _ g, more⟩
theorem txS_new {h : Heap} (g : h.get? a = some (newSet w)) : TxS P w h a [] := by
  refine ⟨(#[], 0, .fresh 0 0 (!w.params.followText "set-order")), g, TxOk.nil rfl, List.nodup_nil, List.Pairwise.nil, ?_⟩
  show _ ∨ (!w.params.followText "set-order") = true
  cases w.params.followText "set-order" with
  | true => exact .inl rfl
  | false => exact .inr rfl
theorem tailTx_ris {ep : Nat} {es : Array (Int × Value)} {t : SetTable} {b : Bool} (r : Ris t.place.toList) : Ris (tailTx ep es t b).2.2.place.toList := by
  unfold tailTx
  split
  · exact relayAll_ris _ _ _
  · exact r
theorem tailTx_led {ep : Nat} {es : Array (Int × Value)} {t : SetTable} {b : Bool} : (tailTx ep es t b).2.2.led = t.led := by
  unfold tailTx
  split
  · exact relayAll_led _ _ _
  · rfl
theorem addTx_ris {c : Int} {v : Value} {D : SD} (r : Ris D.2.2.place.toList) : Ris (addTx c v D).2.2.place.toList := by
  have r1 := layNew_ris D.2.2 D.1 c v r
  refine tailTx_ris ?_
  split
  · exact r1
  · exact r1
theorem addTx_led {c : Int} {v : Value} {D : SD} : (addTx c v D).2.2.led = D.2.2.led := by
  have r1 := layNew_led D.2.2 D.1 c v
  refine tailTx_led.trans ?_
  split
  · exact r1
  · exact r1
/-- a text that is in already -/
theorem add_in {T : String} {D : SD} {Q : Bool → Shared → Prop} (g : s.heap.get? a = some (sObj T D)) (F : TxOk P w D l) (hk : k ∈ l) (few : l.length < scanBound) (q : Q false s) : wpAny (model P w) A (setAddHashed a (.str k u) (hashStr w k)) Q E s := by
  obtain ⟨es, ep, t⟩ := D
  have sz : es.size < scanBound := by have z : es.size = l.length := F.sz; omega
  have el : ElemsOf (strKind P w) es.toList := F.el
  unfold setAddHashed setAddHashedIn
  refine wpAny_holding (wpAny_bind (wpAny_setState_of (es := es) (ep := ep) (t := t) g rfl F.fit ?_))
  dsimp only
  rw [byScan_of (knd := strKind P w) rfl sz el]
  simp only [↓reduceIte]
  unfold setAddByScan
  refine wpAny_bind (wpAny_bind (wpAny_rule (wpAny_bind (wpAny_setScan_of (is_str (P := P) (w := w) k u) (es := es) (ep := ep) (t := t) g rfl F.fit el ?_))))
  obtain ⟨e, he, q1⟩ := (F.mem k).mp hk
  cases fi : List.findIdx? (fun e => (strKind P w).is k e.2) es.toList with
  | none =>
    have z := List.findIdx?_eq_none_iff.mp fi e he
    rw [q1] at z
    cases z
  | some j =>
    dsimp only
    exact wpAny_pure (wpAny_pure q)
theorem txS_add {Q : Bool → Shared → Prop} (R : TxS P w s.heap a l) (few : l.length + 1 < scanBound)
    (q : ∀ h' b, Heap.SameBut a s.heap h' → TxS P w h' a (if k ∈ l then l else k :: l) → Q b { s with heap := h' }) : wpAny (model P w) A (setAddHashed a (.str k u) (hashStr w k)) Q E s := by
  obtain ⟨D, g, F, nd, ris, led⟩ := R
  by_cases hk : k ∈ l
  · refine add_in g F hk (by omega) (q s.heap false (Heap.SameBut.refl a s.heap) ?_)
    rw [if_pos hk]
    exact ⟨D, g, F, nd, ris, led⟩
  · refine add_x g F hk few (q _ true (Heap.SameBut.update ..) ?_)
    rw [if_neg hk]
    exact ⟨addTx (hashStr w k) (.str k u) D, get_upd _ g rfl, add_ok u F, List.nodup_cons.mpr ⟨hk, nd⟩, addTx_ris ris, led.imp id fun z => by rw [addTx_led]; exact z⟩
end
section
variable {P : Program} {w : World} {A : Around} {E : Value → Shared → Prop}
/-- the set's own loop over texts -/
theorem upd_txts {I S : Addr} {fp wr : List Addr} {G : Array GenState → Array GenState → Prop} {n : Nat} {Pv : Nat → Value → Prop} {St : Nat → Shared → Prop} {R : Result → Shared → Prop} (W : WalksS P w A.in1 I fp wr G n Pv St) (out : S ∉ fp) (xs : List Str) (hn : n = xs.length) (few : xs.length + 1 < scanBound)
    (val : ∀ i v, Pv i v → ∃ k t, xs[i]? = some k ∧ v = .str k t) :
    ∀ (m i : Nat) (s : Shared), n - i = m → i ≤ n → St i s → (∃ l, l.length ≤ i ∧ (∀ k, k ∈ l ↔ k ∈ xs.take i) ∧ TxS P w s.heap S l) →
      (∀ s2 l, Moved (S :: wr) G s s2 → (∀ k, k ∈ l ↔ k ∈ xs) → l.length ≤ n → TxS P w s2.heap S l → R (.ok (.ret .none)) s2) → codeAny (model P w) A (.builtin "set.update.loop" ⟨[.ref S, .ref I], []⟩) R s := by
  have apart : S ∉ wr := fun z => out (W.sub _ z)
  have wider : ∀ b ∈ wr, b ∈ S :: wr := fun b z => List.mem_cons_of_mem _ z
  intro m
  induction m with
  | zero =>
    rintro i s hm hi st ⟨l, few', mem, T⟩ ends
    obtain rfl : i = n := by omega
    refine codeAny_builtin F.entry_set_update_loop ?_
    rw [Around.under_plainId F.plain_set_update_loop ⟨[.ref S, .ref I], []⟩]
    show wpAny (model P w) A.in1 (pyNext (.ref I) >>= _) _ _ s
    refine wpAny_bind (W.done s _ _ st fun s2 mv => ?_)
    rw [List.take_of_length_le (Nat.le_of_eq hn.symm)] at mem
    exact wpAny_pure (ends s2 l (mv.mono wider) mem few' (T.at fun o g => mv.heap S o apart g))
  | succ m ih =>
    rintro i s hm hi st ⟨l, few', mem, T⟩ ends
    have lt : i < n := by omega
    refine codeAny_builtin F.entry_set_update_loop ?_
    rw [Around.under_plainId F.plain_set_update_loop ⟨[.ref S, .ref I], []⟩]
    show wpAny (model P w) A.in1 (pyNext (.ref I) >>= _) _ _ s
    refine wpAny_bind (W.item i s _ _ lt st fun v s2 pv st2 mv => ?_)
    obtain ⟨x, t, hx, rfl⟩ := val i v pv
    show wpAny (model P w) A.in1 (holding [Value.str x t] (setAdd S (.str x t)) >>= _) _ _ s2
    refine wpAny_bind (wpAny_holding ?_)
    unfold setAdd
    refine wpAny_holding (wpAny_bind ((strKind P w).pyHash (k := x) (is_str x t) ?_))
    refine txS_add (s := { s2 with toks := s2.toks + 1 }) (T.at fun o g => mv.heap S o apart g) (by omega) fun h2 b same T2 => ?_
    have mem2 : ∀ k, k ∈ (if x ∈ l then l else x :: l) ↔ k ∈ xs.take (i + 1) := fun k => by
      rw [List.take_add_one, hx]
      show _ ↔ k ∈ xs.take i ++ [x]
      rw [List.mem_append, List.mem_singleton, ← mem k]
      by_cases c : x ∈ l
      · rw [if_pos c]
        exact ⟨.inl, fun z => z.elim id fun e => e ▸ c⟩
      · rw [if_neg c, List.mem_cons]
        exact Or.comm
    have few2 : (if x ∈ l then l else x :: l).length ≤ i + 1 := by
      split
      · omega
      · show l.length + 1 ≤ i + 1
        omega
    refine wpAny_pure ⟨plainId_quiet F.plain_set_update_loop _, ih (i + 1) _ (by omega) lt (W.frame _ s2 _ _ st2 (Nat.le_succ _) fun b hb o g => ?_) ⟨_, few2, mem2, T2⟩ fun s3 l3 mv3 mem3 few3 T3 => ?_⟩
    · rw [same.2 b fun z : b = S => out (z ▸ hb)]
      exact g
    · refine ends s3 l3 (Moved.trans W.gtrans ((mv.mono wider).then_heap (Nat.le_succ _) fun b o hb g => ?_) mv3) mem3 few3 T3
      rw [same.2 b fun z : b = S => hb (z ▸ List.mem_cons_self)]
      exact g
/-- set(l), by what its loop does -/
theorem set_of_list {s : Shared} {l : Addr} {its : Array Value} {Res : Heap → Prop} {Q : Value → Shared → Prop} (calm : A.handled = none) (isl : s.heap.IsList l its)
    (loop : ∀ (A2 : Around) (I : Addr) (fp wr : List Addr) (G : Array GenState → Array GenState → Prop) (St : Nat → Shared → Prop) (R : Result → Shared → Prop) (s2 : Shared), WalksS P w A2.in1 I fp wr G its.size (fun i v => its[i]? = some v) St → s.heap.objs.size ∉ fp → St 0 s2 →
      s2.heap.get? s.heap.objs.size = some (newSet w) → (∀ s3, Moved (s.heap.objs.size :: wr) G s2 s3 → Res s3.heap → R (.ok (.ret .none)) s3) → codeAny (model P w) A2 (.builtin "set.update.loop" ⟨[.ref s.heap.objs.size, .ref I], []⟩) R s2)
    (q : ∀ (h2 : Heap) (tk : Nat), Res h2 → (∀ b o, s.heap.get? b = some o → h2.get? b = some o) → Q (.ref s.heap.objs.size) { s with heap := h2, toks := tk }) :
    wpAny (model P w) A (call (.type "set") [.ref l]) Q E s := by
  have c1 := F.called_set.mro
  obtain ⟨c, tl, hmro⟩ := c1
  have hmade := F.called_set.made
  have hsub := F.called_set.sub
  refine wpAny_call (codeAny_of_tree ?_)
  show wpAny (model P w) A.in1 (callAny (.type "set") ⟨[.ref l], []⟩) _ _ s
  refine wpAny_pure ⟨Code.quiet_builtin _ (by decide +kernel), codeAny_builtin F.entry_type_call ?_⟩
  rw [Around.under_plain (weight_type_call_type "set" [Value.ref l] []) rfl]
  have c2 := F.called_set.notType
  have c3 := F.called_set.canCreate
  have c4 := F.typeCall_set_1 (Value.ref l)
  repeat (any_goals (first | assumption | wp_step))
  refine codeAny_mono (code_set_led1 (.ref l) (E := E) (Q₁ := fun o s1 => o = .ref s.heap.objs.size ∧ s1 = { s with heap := s.heap.push (newSet w) }) ⟨rfl, rfl⟩) fun r s1 ends => ?_
  match r, ends with
  | .error z, ends => exact ends
  | .ok .next, ends => exact ends.elim
  | .ok .brk, ends => exact ends.elim
  | .ok .cont, ends => exact ends.elim
  | .ok (.ret obj), ends =>
    obtain ⟨rfl, rfl⟩ := ends
    have got : (s.heap.push (newSet w)).get? s.heap.objs.size = some (newSet w) := Heap.get?_push_size _ rfl
    have ty : Shared.TypeIs { s with heap := s.heap.push (newSet w) } (.ref s.heap.objs.size) "set" := ⟨_, got, rfl⟩
    have d1 := F.called_set.init.lookup
    have d2 := F.called_set.init.bind (.ref s.heap.objs.size)
    repeat (any_goals (first | assumption | wp_step))
    refine codeAny_mono (codeAny_call_builtin (R := wants (fun r s2 => r = .none ∧ ∃ h2 tk, s2 = { s with heap := h2, toks := tk } ∧ Res h2 ∧ ∀ b o, s.heap.get? b = some o → h2.get? b = some o) E) F.called_set.init.plain F.entry_set_init (check_set_init_1 ty ?_)) fun r s2 ends => ?_
    · obtain ⟨⟨ocls, odict, odata, oslots⟩, get, hcl, nl, hdl⟩ := isl
      simp only at hcl hdl
      subst hcl
      subst hdl
      have get1 : (s.heap.push (newSet w)).get? l = some { cls := .type "list", dict := odict, data := .seq its nl, slots := oslots } := Heap.get?_push_of_some _ get
      have e1 := F.sub_list_set
      have e2 := F.sub_list_frozenset
      have e3 : (Value.type "list" == Value.type "dict") = false := by decide
      have isl1 : (s.heap.push (newSet w)).IsList l its := ⟨_, get1, rfl, nl, rfl⟩
      unfold Builtin.«set.__init__» noKeywords Builtin.Frozenset.updateFrom
      generalize hPI : pyIter = PI
      wp_walk
      subst hPI
      refine wpAny_pyIter_list isl1 (wpAny_bind (wpAny_runValue ?_))
      have low : l < s.heap.objs.size := Heap.lt_size get
      have sz : (s.heap.push (newSet w)).objs.size = s.heap.objs.size + 1 := Heap.size_push ..
      have apart : l ≠ (s.heap.push (newSet w)).objs.size := by
        rw [sz]
        exact Nat.ne_of_lt (Nat.lt_succ_of_lt low)
      have calm3 : A.in1.in1.in1.handled = none := calm
      refine loop _ _ [(s.heap.push (newSet w)).objs.size, l] _ _ _ _ _ ((Walks.list calm3 _ l apart its).toS) ?_ ⟨⟨_, Heap.get?_push_size _ rfl, rfl, rfl⟩, isl1.push _⟩ (Heap.get?_push_of_some _ got) fun s3 mv res => ?_
      · simp only [List.mem_cons, List.not_mem_nil, or_false, not_or]
        rw [sz]
        exact ⟨Nat.ne_of_lt (Nat.lt_succ_self _), Nat.ne_of_gt low⟩
      · obtain ⟨h3, g3, d3, t3, o3⟩ := s3
        obtain rfl : g3 = s.gens := mv.gens
        obtain rfl : d3 = s.drawn := mv.drawn
        obtain rfl : o3 = s.os := mv.os
        refine wpAny_pure (wpAny_pure ⟨rfl, h3, t3, rfl, res, fun b o g => ?_⟩)
        have low2 := Heap.lt_size g
        refine mv.heap b o (fun z => ?_) (Heap.get?_push_of_some _ (Heap.get?_push_of_some _ g))
        simp only [List.mem_cons, List.not_mem_nil, or_false] at z
        rcases z with z | z
        · exact absurd z (Nat.ne_of_lt low2)
        · rw [sz] at z
          exact absurd z (Nat.ne_of_lt (Nat.lt_succ_of_lt low2))
    · match r, ends with
      | .error z, ends => exact ends
      | .ok .next, ends => exact ends.elim
      | .ok .brk, ends => exact ends.elim
      | .ok .cont, ends => exact ends.elim
      | .ok (.ret obj), ends =>
        obtain ⟨rfl, h2, tk, rfl, res, keep⟩ := ends
        repeat (any_goals (first | assumption | wp_step))
        exact q h2 tk res keep
end
theorem strs_get : ∀ {us : List Value} {xs : List Str}, StrsAre us xs → ∀ (i : Nat) (v : Value), us[i]? = some v → ∃ k t, xs[i]? = some k ∧ v = .str k t
  | _, _, .nil, _, _, e => by simp at e
  | _, _, .cons x t r, 0, _, e => ⟨x, t, rfl, by simpa using e.symm⟩
  | _, _, .cons x t r, i + 1, v, e => by simpa using strs_get r i v (by simpa using e)
/-! ### by values -/
/-- the set of texts at a -/
def TxO (P : Program) (w : World) (a : Addr) (l : List Str) : HO := .ext fun h => TxS P w h a l
section
variable {X : Cx}
theorem txO_ok {P : Program} {w : World} {H : Hp} {h : Heap} {a : Addr} {l : List Str} (R : TxS P w h a l) : ObjOk P w H h a (TxO P w a l) := by
  have ⟨D, g, _⟩ := R
  exact ⟨R, ⟨_, g⟩, fun h1 h2 p k => TxS.at p k⟩
/-- set(l) of a list of texts -/
def rSetTx (K : PySem.W.Frag) (P : Program) (w : World) : List V → Hp → VK → Prop := fun xs H Q => ∃ (a : Addr) (ys : List Str), xs = [.ref a] ∧ SqL K H a (ys.map V.str) ∧ ys.length < 1000 ∧
  ∀ (p : Addr) (l : List Str), l.Nodup → (∀ k, k ∈ l ↔ k ∈ ys) → H p = none → Q (.ref p) (upd H p (TxO P w p l))
theorem cr_setTx (hc : X.calm = true) : CallR X (.type "set") (rSetTx X.K X.prog X.w) := by
  intro pins s σ H xs us Q I rel asked
  obtain ⟨a, ys, rfl, hs, few, q⟩ := asked
  obtain ⟨its, rv, hl, _⟩ := I.list hs
  rw [Vals.ref1 rel]
  have sa := strsAre_of rv
  have len : its.length = ys.length := by have z := rv.length; rw [List.length_map] at z; exact z.symm
  refine set_of_list (Res := fun h2 => ∃ l, (∀ k, k ∈ l ↔ k ∈ ys) ∧ TxS X.prog X.w h2 s.heap.objs.size l) (I.ok.hd hc) hl.isList (fun A2 J fp wr G St R s2 W out st got ends => ?_) fun h2 tk ⟨l, mem, T⟩ keep => ?_
  · refine upd_txts W out ys (by simp [len]) (by unfold scanBound; omega) (fun i v hv => ?_) _ 0 s2 rfl (Nat.zero_le _) st ⟨[], Nat.le_refl 0, by simp, txS_new got⟩ fun s3 l mv mem _ T => ends s3 mv ⟨l, mem, T⟩
    exact strs_get sa i v (by rw [← List.getElem?_toArray]; exact hv)
  · have ⟨D, _, _, nd, _⟩ := T
    exact ⟨.ref s.heap.objs.size, _, I.laid (t' := tk) keep (Nat.le_refl _) (txO_ok T), rfl, q _ l nd mem (I.hok.fresh (Nat.le_refl _))⟩
/-- set(l) of a list of whole numbers -/
def rSetIn (K : PySem.W.Frag) (w : World) : List V → Hp → VK → Prop := fun xs H Q => ∃ (a : Addr) (ns : List Int), xs = [.ref a] ∧ SqL K H a (ns.map V.int) ∧ ns.length < 1000 ∧
  ∀ (p : Addr) (c : Nat), c ≤ ns.length → H p = none → Q (.ref p) (upd H p (SetO w p (fun j => decide (j ∈ ns)) c))
theorem cr_setIn (hc : X.calm = true) : CallR X (.type "set") (rSetIn X.K X.w) := by
  intro pins s σ H xs us Q I rel asked
  obtain ⟨a, ns, rfl, hs, few, q⟩ := asked
  obtain ⟨its, rv, hl, _⟩ := I.list hs
  rw [Vals.ref1 rel]
  have ia := rv.ints
  have len : its.length = ns.length := ia.length
  refine set_of_list (P := X.prog) (Res := fun h2 => ∃ c, c ≤ ns.length ∧ SetR X.w h2 s.heap.objs.size (fun j => decide (j ∈ ns)) c) (I.ok.hd hc) hl.isList (fun A2 J fp wr G St R s2 W out st got ends => ?_) fun h2 tk ⟨c, hc', T⟩ keep => ?_
  · refine set_update_ints W s.heap.objs.size out ns (by simp [len]) (by unfold scanBound; omega) (fun i v hv => ?_) _ 0 s2 rfl (Nat.zero_le _) st ⟨0, Nat.le_refl 0, setR_new_at got⟩ fun s3 c mv hc' T => ends s3 mv ⟨c, by simpa [len] using hc', T⟩
    have hv' : its[i]? = some v := by rw [← List.getElem?_toArray]; exact hv
    obtain ⟨t, e⟩ := PyProof.Rows.IntsAre.int_at ia i v hv'
    have hi : i < ns.length := by rw [← len]; exact (List.getElem?_eq_some_iff.mp hv').1
    refine ⟨ns[i], t, List.getElem?_eq_getElem hi, ?_⟩
    rw [e, List.getD_eq_getElem?_getD, List.getElem?_eq_getElem hi]
    rfl
  · exact ⟨.ref s.heap.objs.size, _, I.laid (t' := tk) keep (Nat.le_refl _) (setO_new T), rfl, q _ c hc' (I.hok.fresh (Nat.le_refl _))⟩
end
end Sk
end

section
/-! sorted of sets; max of pairs -/
namespace Sk
open PySem PySem.Spec PyProof.Rows L2 PySem.Froz
open PySem.W (AllAlike Sortable dataLe)
/-- rising texts -/
def leS (a b : Str) : Bool := decide (a.cps.toList ≤ b.cps.toList)
theorem sortZ_str (ks : List Str) : sortZ (ks.map fun k => (V.str k, PyData.str k)) = (ks.mergeSort leS).map V.str := by
  unfold sortZ
  have h : ((ks.map fun k => (V.str k, PyData.str k)).mergeSort (dataLe false (·.2))) = (ks.mergeSort leS).map fun k => (V.str k, PyData.str k) := by
    symm
    refine List.map_mergeSort fun a _ b _ => ?_
    have := congrFun (congrFun (PySem.W.dataLe_str (fun z : Str => z)) a) b
    exact this.symm
  rw [h, List.map_map]
  rfl
theorem sortZ_int (ks : List Int) : sortZ (ks.map fun k => (V.int k, PyData.int k)) = (ks.mergeSort fun a b => decide (a ≤ b)).map V.int := by
  unfold sortZ
  have h : ((ks.map fun k => (V.int k, PyData.int k)).mergeSort (dataLe false (·.2))) = (ks.mergeSort fun a b => decide (a ≤ b)).map fun k => (V.int k, PyData.int k) := by
    symm
    refine List.map_mergeSort fun a _ b _ => ?_
    have := congrFun (congrFun (PySem.W.dataLe_int (fun z : Int => z)) a) b
    exact this.symm
  rw [h, List.map_map]
  rfl
theorem sorted_ints (ks : List Int) : (ks.mergeSort fun a b => decide (a ≤ b)).Pairwise (· ≤ ·) := by
  have := List.pairwise_mergeSort (le := fun a b : Int => decide (a ≤ b)) (fun a b c h1 h2 => by simp at *; omega) (fun a b => by simp; omega) ks
  exact this.imp fun h => by simpa using h
theorem leS_trans (a b c : Str) (h1 : leS a b = true) (h2 : leS b c = true) : leS a c = true := by
  simp only [leS, decide_eq_true_eq] at *
  exact List.le_trans h1 h2
theorem leS_total (a b : Str) : (leS a b || leS b a) = true := by
  simp only [leS, Bool.or_eq_true, decide_eq_true_eq]
  exact List.le_total _ _
theorem sorted_strs (ks : List Str) : (ks.mergeSort leS).Pairwise fun a b => leS a b = true := List.pairwise_mergeSort leS_trans leS_total ks
theorem sz_strs {K : PySem.W.Frag} {H : Hp} (ks : List Str) (few : ks.length ≤ sizeLine) : SortZ K H (ks.map fun k => (V.str k, PyData.str k)) where
  dp := fun z hz => by obtain ⟨k, _, rfl⟩ := List.mem_map.mp hz; exact .str k
  al := by
    rw [List.map_map]
    intro d hd e he
    obtain ⟨k, _, rfl⟩ := List.mem_map.mp hd
    obtain ⟨m, _, rfl⟩ := List.mem_map.mp he
    rfl
  so := .inr fun d hd => by
    rw [List.map_map] at hd
    obtain ⟨k, _, rfl⟩ := List.mem_map.mp hd
    exact ⟨(fun z => nomatch z), (fun xs z => nomatch z)⟩
  de := fun z hz => by obtain ⟨k, _, rfl⟩ := List.mem_map.mp hz; simp [PyData.depth]
  le := by rw [List.length_map]; exact few
theorem sz_ints {K : PySem.W.Frag} {H : Hp} (ks : List Int) (few : ks.length ≤ sizeLine) : SortZ K H (ks.map fun k => (V.int k, PyData.int k)) where
  dp := fun z hz => by obtain ⟨k, _, rfl⟩ := List.mem_map.mp hz; exact .int k
  al := by
    rw [List.map_map]
    intro d hd e he
    obtain ⟨k, _, rfl⟩ := List.mem_map.mp hd
    obtain ⟨m, _, rfl⟩ := List.mem_map.mp he
    rfl
  so := .inr fun d hd => by
    rw [List.map_map] at hd
    obtain ⟨k, _, rfl⟩ := List.mem_map.mp hd
    exact ⟨(fun z => nomatch z), (fun xs z => nomatch z)⟩
  de := fun z hz => by obtain ⟨k, _, rfl⟩ := List.mem_map.mp hz; simp [PyData.depth]
  le := by rw [List.length_map]; exact few
theorem perm_of_mem {α : Type} [DecidableEq α] : ∀ {l T : List α}, l.Nodup → (∀ x ∈ l, x ∈ T) → T.length = l.length → T.Perm l
  | [], T, _, _, e => by
    have : T = [] := List.eq_nil_of_length_eq_zero e
    rw [this]
  | x :: l, T, nd, h, e => by
    have hx := h x List.mem_cons_self
    have p := List.perm_cons_erase hx
    refine p.trans (.cons x (perm_of_mem (List.nodup_cons.mp nd).2 (fun y hy => ?_) ?_))
    · have : y ≠ x := fun z => (List.nodup_cons.mp nd).1 (z ▸ hy)
      exact (List.mem_erase_of_ne this).mpr (h y (List.mem_cons_of_mem _ hy))
    · have := p.length_eq
      simp only [List.length_cons] at this e
      omega
def txOf : Value → Str
  | .str k _ => k
  | _ => Str.empty
theorem vals_tx : ∀ {us : List Value}, (∀ v ∈ us, ∃ k t, v = Value.str k t) → Vals ((us.map txOf).map V.str) us
  | [], _ => .nil
  | v :: us, h => by
    obtain ⟨k, t, rfl⟩ := h v List.mem_cons_self
    exact .cons ⟨t, rfl⟩ (vals_tx fun v hv => h v (List.mem_cons_of_mem _ hv))
theorem vals_in : ∀ {us : List Value}, (∀ v ∈ us, ∃ k t, v = Value.int k t) → Vals ((us.map L2.vInt).map V.int) us
  | [], _ => .nil
  | v :: us, h => by
    obtain ⟨k, t, rfl⟩ := h v List.mem_cons_self
    exact .cons ⟨t, rfl⟩ (vals_in fun v hv => h v (List.mem_cons_of_mem _ hv))
section
variable {X : Cx}
theorem inv_moved {pins : List (Addr × Obj)} {σ : L2.St} {H : Hp} {s s2 : Shared} (I : Inv X pins σ H s) (keep : ∀ b o, s.heap.get? b = some o → s2.heap.get? b = some o) (g : s2.gens = s.gens) (o : s2.os = s.os) : Inv X pins σ H s2 :=
  I.call' (ch := []) o (Un.kept keep) (I.hok.kept keep) (by rw [g]; exact I.bare) fun _ z => nomatch z
/-- sorted(s) of a set of texts -/
def rSortedTx (P : Program) (w : World) : List V → Hp → VK → Prop := fun xs H Q => ∃ (a : Addr) (l : List Str), xs = [.ref a] ∧ H a = some (TxO P w a l) ∧ l.length < 1000 ∧
  ∀ (p : Addr) (ys : List Str), ys.Perm l → (ys.Pairwise fun a b => leS a b = true) → H p = none → Q (.ref p) (upd H p (.lst (ys.map V.str)))
theorem cr_sortedTx (hc : X.calm = true) (hu : X.A.units + 64 < cLine) : CallR X (.builtin "sorted") (rSortedTx X.prog X.w) := by
  intro pins s σ H xs us Q I rel asked
  obtain ⟨a, l, rfl, ha, few, q⟩ := asked
  rw [Vals.ref1 rel]
  obtain ⟨⟨es, ep, t⟩, g, F, nd, ris, led⟩ := (I.hok a _ ha).1
  have sz : es.size = l.length := F.sz
  refine sorted_by (H := H) hu fun R E k => collect_set (es := es) (ep := ep) (t := t) (I.ok.hd hc) ⟨_, g, rfl, rfl⟩ F.fit (by unfold scanBound; omega) ris led fun s2 out keep _ g2 o2 pm => ?_
  have txt : ∀ v ∈ out, ∃ k t, v = Value.str k t := fun v hv => by
    obtain ⟨e, he, rfl⟩ := List.mem_map.mp (pm.mem_iff.mp hv)
    obtain ⟨⟨k, h1, _⟩, _⟩ := F.el e he
    obtain ⟨t, z⟩ := Value.isStrOf_shape (x := k) (v := e.2) h1
    exact ⟨k, t, z⟩
  have p1 : (out.map txOf).Perm l := by
    refine perm_of_mem nd (fun k hk => ?_) ?_
    · obtain ⟨e, he, h1⟩ := (F.mem k).mp hk
      obtain ⟨t, z⟩ := Value.isStrOf_shape (x := k) (v := e.2) h1
      refine List.mem_map.mpr ⟨e.2, pm.mem_iff.mpr (List.mem_map.mpr ⟨e, he, rfl⟩), ?_⟩
      rw [z]
      rfl
    · rw [List.length_map, pm.length_eq, List.length_map, Array.length_toList]
      exact sz
  have len := p1.length_eq
  refine k out s2 ((out.map txOf).map fun k => (V.str k, PyData.str k)) (inv_moved I keep g2 o2) ?_ (sz_strs _ (by rw [len, sizeLine_eq]; omega)) fun p hp => ?_
  · have : (((out.map txOf).map fun k => (V.str k, PyData.str k)).map (·.1)) = (out.map txOf).map V.str := by rw [List.map_map]; rfl
    rw [this]
    exact vals_tx txt
  · rw [sortZ_str]
    exact q p _ ((List.mergeSort_perm _ _).trans p1) (sorted_strs _) hp
/-- sorted(s) of a set of whole numbers -/
def rSortedIn (w : World) : List V → Hp → VK → Prop := fun xs H Q => ∃ (a : Addr) (S : Int → Bool) (n : Nat), xs = [.ref a] ∧ H a = some (SetO w a S n) ∧ n < 1000 ∧
  ∀ (p : Addr) (ys : List Int), ys.Nodup → ys.Pairwise (· ≤ ·) → (∀ k, k ∈ ys ↔ S k = true) → ys.length = n → H p = none → Q (.ref p) (upd H p (.lst (ys.map V.int)))
theorem cr_sortedIn (hc : X.calm = true) (hu : X.A.units + 64 < cLine) : CallR X (.builtin "sorted") (rSortedIn X.w) := by
  intro pins s σ H xs us Q I rel asked
  obtain ⟨a, S, n, rfl, ha, few, q⟩ := asked
  rw [Vals.ref1 rel]
  obtain ⟨o, es, ep, t, ho, hex, hd, good, nd, mem, hb, hf, hn, ris, led⟩ := setO_get I ha
  refine sorted_by (H := H) hu fun R E k => collect_set (es := es) (ep := ep) (t := t) (I.ok.hd hc) ⟨o, ho, hex.1, hd⟩ hf hb ris led fun s2 out keep _ g2 o2 pm => ?_
  have num : ∀ v ∈ out, ∃ k t, v = Value.int k t := fun v hv => by
    obtain ⟨e, he, rfl⟩ := List.mem_map.mp (pm.mem_iff.mp hv)
    obtain ⟨k, t, z, _⟩ := good e he
    exact ⟨k, t, z⟩
  have p1 : (out.map L2.vInt).Perm (es.toList.map L2.keyOf) := by
    have z := pm.map L2.vInt
    rw [List.map_map] at z
    refine z.trans (List.Perm.of_eq (List.map_congr_left fun e _ => (key_vInt e).symm))
  have len : (out.map L2.vInt).length = n := by rw [p1.length_eq, List.length_map, Array.length_toList]; exact hn
  refine k out s2 ((out.map L2.vInt).map fun k => (V.int k, PyData.int k)) (inv_moved I keep g2 o2) ?_ (sz_ints _ (by rw [len, sizeLine_eq]; omega)) fun p hp => ?_
  · have : (((out.map L2.vInt).map fun k => (V.int k, PyData.int k)).map (·.1)) = (out.map L2.vInt).map V.int := by rw [List.map_map]; rfl
    rw [this]
    exact vals_in num
  · rw [sortZ_int]
    have p2 := (List.mergeSort_perm (out.map L2.vInt) (fun a b => decide (a ≤ b)))
    refine q p _ ((p2.trans p1).nodup_iff.mpr nd) (sorted_ints _) (fun k => ?_) (p2.length_eq.trans len) hp
    rw [(p2.trans p1).mem_iff, mem k]
end
end Sk
end

section
/-! a set of texts by a comprehension -/
namespace Sk
open PySem PySem.Spec PyProof.Rows L2 PySem.Froz PpSet
/-- what is asked of a set comprehension of texts behind its iterator -/
def ScW (P : Program) (w : World) (J : It) (g : TG) (tt : TT) (te : TE) (vs : List Nat) (σ : L2.St) (H1 : Hp) (D : Addr) (Qd : Hp → Prop) : Prop := ∃ W : Nat → Nat → Hp → Prop, (∃ m, W 0 m (upd H1 D (TxO P w D []))) ∧ ∀ i m H, W i m H →
  (J.stop i H ∧ Qd H) ∨ (J.go i H ∧ ∃ Nx : Hp → Prop, (∀ G, Nx G → ∃ n, n < m ∧ W (i + 1) n G) ∧ ∀ x G, J.yld i H x G → g x (wipe σ vs) G fun σ2 H2 => wipe σ2 vs = wipe σ vs ∧ tt σ2 H2 fun b H3 =>
    if b = true then te σ2 H3 fun y H4 => ∃ (k : Str) (l : List Str), y = .str k ∧ H4 D = some (TxO P w D l) ∧ l.length + 1 < scanBound ∧ Nx (upd H4 D (TxO P w D (if k ∈ l then l else k :: l))) else Nx H3)
def tScT (P : Program) (w : World) (wi : TI) (g : TG) (tt : TT) (te : TE) (vs : List Nat) : TE := fun σ H Q => wi σ H fun J H1 => ∀ D, H1 D = none → ScW P w J g tt te vs σ H1 D fun H2 => Q (.ref D) H2
section
variable {X : Cx}
theorem addT_ok {pins : List (Addr × Obj)} {σ : L2.St} {H : Hp} {s : Shared} {E : Value → Shared → Prop} {D : Addr} {l : List Str} {y : Str} {t : Tok} {Q : Value → Shared → Prop} (I : Inv X pins σ H s) (at_ : H D = some (TxO X.prog X.w D l)) (few : l.length + 1 < scanBound)
    (q : ∀ s2, Inv X pins σ (upd H D (TxO X.prog X.w D (if y ∈ l then l else y :: l))) s2 → Q .none s2) : wpAny (model X.prog X.w) X.A (call (.builtin "set.add") [.ref D, .str y t]) Q E s := by
  have T : TxS X.prog X.w s.heap D l := (I.hok D _ at_).1
  obtain ⟨⟨es, ep, tb⟩, got, tx, more⟩ := id T
  have ty : s.TypeIs (.ref D) "set" := ⟨_, got, rfl⟩
  refine wpAny_call_entry F.slot_set_add ty F.entry_set_add ?_ (F.args_set_add_2 (.ref D) (.str y t))
  unfold Builtin.«set.add» Builtin.Frozenset.oneOther
  simp only [List.isEmpty_nil, bind_assoc]
  unfold Builtin.Frozenset.addrOf setAdd
  refine wpAny_bind (wpAny_pure ?_)
  try dsimp only
  refine wpAny_bind (wpAny_pure ?_)
  try dsimp only
  refine wpAny_bind (wpAny_holding (wpAny_bind ((strKind X.prog X.w).pyHash (k := y) (is_str y t) ?_)))
  refine txS_add (s := { s with toks := s.toks + 1 }) T few fun h2 b same T2 => ?_
  show wpAny (model X.prog X.w) X.A.in1 (ret Value.none) _ _ _
  have ⟨D2, got2, _⟩ := T2
  exact wpAny_pure ⟨_, rfl, q _ (I.write (e := D) (t' := s.toks + 1) (by rw [at_]; trivial) (.inl rfl) (fun b u hb hu => (same.2 b hb).trans hu) ⟨_, got2⟩ (txO_ok T2))⟩
theorem scT_core {pins : List (Addr × Obj)} {s : Shared} {σ : L2.St} {H : Hp} {Q : VK} {elt tg iter : Expr} {ifs : List Expr} {sc : Scope} {own : List (Str × Nat)} {pos pos2 : Pos} {wi : TI} {g : TG} {tt : TT} {te : TE} {use : Option (Value → Sem Unit)} {Qf : Value → Shared → Prop}
    (calm : X.calm = true) (dist : X.N.Nodup) (I : Inv X pins σ H s) (walks : PI X tg iter wi) (ok : BlkOk X.N X.env.scope sc own)
    (tgt : ∀ (s : Shared) (H : Hp) (C : Addr) (cl : List (Str × Addr)) (fp : List Addr), PG (X.blk s H sc (compEnvC sc cl C X.env) fp) tg g) (tst : ∀ (s : Shared) (H : Hp) (C : Addr) (cl : List (Str × Addr)) (fp : List Addr), PTs (X.blk s H sc (compEnvC sc cl C X.env) fp) ifs tt)
    (val : ∀ (s : Shared) (H : Hp) (C : Addr) (cl : List (Str × Addr)) (fp : List Addr), PE (X.blk s H sc (compEnvC sc cl C X.env) fp) elt te) (fold : ∀ x, foldedSetIterable iter X.env x = pure x)
    (read : tScT X.prog X.w wi g tt te (own.map (·.2)) σ H Q)
    (leave : ∀ D C s2 m G, Inv X pins σ G s2 → Q (.ref D) G → s2.heap.Ns C m → FpOk X pins G C → compPost (model X.prog X.w) X.A X.xe use Qf (.ref D) C (.ok .next) s2) :
    wpAny (model X.prog X.w) X.A (comprehension (.SetComp elt [⟨tg, iter, ifs, 0⟩] sc pos) sc X.env pos2 (PySem.newSet (.type "set")) false (eval iter X.env) use) Qf X.xe s := by
  have cells : ∀ y ∈ sc.names, y.2 = .free → ∃ c, X.env.cells.lookup y.1 = some c := fun y hy e => I.ok.has _ ((ok.free y hy e).imp id id)
  refine wpAny_comprehension_free (use := use) rfl fold (closure_ok cells) ok.kind (fun y hy e => (ok.uniq y hy).trans (congrArg some e)) (thn (walks.run pins s σ H _ I read) fun xv s1 hx => thn hx fun itv s2 got => ?_)
  obtain ⟨it, fp, tn, J, H2, rfl, I2, T, st2, f2, q⟩ := got
  refine newSet_ok (newEnv_comp ?_)
  generalize hD : s2.heap.objs.size = D
  have freshD : H2 D = none := I2.hok.fresh (Nat.le_of_eq hD)
  obtain ⟨W, ⟨m0, w0⟩, turn⟩ := q D freshD
  generalize made : ({ s2 with heap := s2.heap.push (Sk.newSet X.w) } : Shared) = s3
  have heap3 : s3.heap = s2.heap.push (Sk.newSet X.w) := by rw [← made]
  have I3 : Inv X pins σ (upd H2 D (TxO X.prog X.w D [])) s3 := by
    rw [← made]
    refine I2.laid (t' := s2.toks) (fun b o z => Heap.get?_push_of_some _ z) (Nat.le_of_eq hD) ?_
    rw [← hD]
    exact txO_ok (txS_new (Heap.get?_push_size _ rfl))
  have below : ∀ b ∈ fp, b < s2.heap.objs.size := fun b hb => let ⟨o, z, _⟩ := T.obj _ _ st2 b hb; Heap.lt_size z
  have f3 : ∀ b ∈ fp, FpOk X pins (upd H2 D (TxO X.prog X.w D [])) b ∧ b < s3.heap.objs.size := fun b hb => by
    refine ⟨⟨?_, (f2 b hb).2⟩, ?_⟩
    · rw [upd_ne (hD ▸ Nat.ne_of_lt (below b hb))]
      exact (f2 b hb).1
    · rw [heap3, Heap.size_push]
      exact Nat.lt_succ_of_lt (below b hb)
  have st3 : tn 0 s3.heap := T.keep _ _ _ st2 fun b _ o z => heap3 ▸ Heap.get?_push_of_some _ z
  have I4 := block_start I3 ok dist f3
  have pg := tgt s3 (upd H2 D (TxO X.prog X.w D [])) s3.heap.objs.size (cellsFrom (s3.heap.objs.size + 1) sc.names (cloFrom X.env.cells sc.names [])) fp
  have pt := tst s3 (upd H2 D (TxO X.prog X.w D [])) s3.heap.objs.size (cellsFrom (s3.heap.objs.size + 1) sc.names (cloFrom X.env.cells sc.names [])) fp
  have pe := val s3 (upd H2 D (TxO X.prog X.w D [])) s3.heap.objs.size (cellsFrom (s3.heap.objs.size + 1) sc.names (cloFrom X.env.cells sc.names [])) fp
  show codeAny _ _ (.compStart (.SetComp elt [⟨tg, iter, ifs, 0⟩] sc pos) 0 (.ref it) (.ref D) (compEnvC sc (cellsFrom (s3.heap.objs.size + 1) sc.names (cloFrom X.env.cells sc.names [])) s3.heap.objs.size X.env)) (compPost (model X.prog X.w) X.A X.xe use Qf (.ref D) s3.heap.objs.size) { s3 with heap := pushCells (s3.heap.push { cls := .type "dict", data := .dict #[] }) sc.names }
  have clear : ∀ b ∈ fp, (upd H2 D (TxO X.prog X.w D [])) b = none := fun b hb => (f3 b hb).1.1
  generalize hce : compEnvC sc (cellsFrom (s3.heap.objs.size + 1) sc.names (cloFrom X.env.cells sc.names [])) s3.heap.objs.size X.env = ce at I4 pg pt pe ⊢
  have loc : ce.locals = s3.heap.objs.size := by subst hce; rfl
  generalize hH3 : upd H2 D (TxO X.prog X.w D []) = H3 at I3 I4 pg pt pe w0 clear f3
  generalize hs4 : ({ s3 with heap := pushCells (s3.heap.push { cls := .type "dict", data := .dict #[] }) sc.names } : Shared) = s4 at I4 ⊢
  have st4 : tn 0 s4.heap := T.keep _ _ _ st3 fun b _ o z => hs4 ▸ pushCells_keeps _ _ _ _ (Heap.get?_push_of_some _ z)
  have feet : ∀ {σ2 : L2.St} {G : Hp} {t : Shared}, Inv (X.blk s3 H3 sc ce fp) [] σ2 G t → (∀ b ∈ fp, G b = none) → ∀ b ∈ fp, FpOk (X.blk s3 H3 sc ce fp) [] G b := fun {σ2 G t} K hn b hb =>
    ⟨hn b hb, (K.ok.exf b hb).1, K.ok.exfs b hb, .inl hb, fun x c z => (K.ok.exf b hb).2 x c z, fun p hp => absurd (show p ∈ ([] : List (Addr × Obj)) ++ [] from hp) (by simp)⟩
  have loop : codeAny (model X.prog X.w) X.A (.compLoop (.SetComp elt [⟨tg, iter, ifs, 0⟩] sc pos) 0 (.ref it) (.ref D) ce) (compPost (model X.prog X.w) X.A X.xe use Qf (.ref D) s3.heap.objs.size) s4 := by
    refine compLoopS_any (fun n t => ∃ i G, Inv (X.blk s3 H3 sc ce fp) [] (wipe σ (own.map (·.2))) G t ∧ tn i t.heap ∧ (∀ b ∈ fp, G b = none) ∧ W i n G) ?_ m0 ⟨0, H3, I4, st4, clear, w0⟩
    rintro n s5 ⟨i, H5, I5, st5, n5, w5⟩
    rcases turn i n H5 w5 with ⟨stop, last⟩ | ⟨go, Nx, down, step⟩
    · refine thnF (T.done (X.blk s3 H3 sc ce fp) rfl rfl rfl calm i [] s5 _ H5 (fun _ _ => False) I5 (feet I5 n5) st5 stop) fun r s6 ⟨hr, I6⟩ => ?_
      subst hr
      have back : Inv X pins σ H5 s6 := I3.call' (ch := fp) I6.os I6.base I6.hok I6.bare fun b hb => let z := (f3 b hb).1.2; ⟨z.2.2.1, z.1, z.2.2.2.1, z.2.2.2.2⟩
      have noC : H5 s3.heap.objs.size = none := loc ▸ (show H5 ce.locals = none from I6.free)
      obtain ⟨m, space, _⟩ := I6.loc
      exact leave D s3.heap.objs.size s6 m H5 back last (loc ▸ (show s6.heap.Ns ce.locals m from space)) (I3.fpOk (Nat.le_refl _) noC)
    · refine thnF (T.item (X.blk s3 H3 sc ce fp) rfl rfl rfl calm i [] s5 _ H5 (fun _ _ => False) I5 (feet I5 n5) st5 go) fun r s6 ⟨u, hr, h6⟩ => ?_
      subst hr
      refine thnF h6 fun _ s7 ⟨x, H7, I7, r7, y7, st7, n7⟩ => ?_
      refine thnF (pg.run _ s7 _ H7 x u _ (I7.pinned (feet I7 n7) (T.obj _ _ st7)) r7 (step x H7 y7)) fun _ s8 ⟨σ8, H8, I8, hw8, q8⟩ => ?_
      refine thnF (pt.run _ s8 σ8 H8 _ I8 q8) fun b s9 ⟨H9, I9, q9⟩ => ?_
      have next : ∀ {t : Shared} {G : Hp}, Inv (X.blk s3 H3 sc ce fp) ([] ++ pinsAt fp s7.heap) σ8 G t → Nx G → ∃ m, m < n ∧ ∃ i G, Inv (X.blk s3 H3 sc ce fp) [] (wipe σ (own.map (·.2))) G t ∧ tn i t.heap ∧ (∀ b ∈ fp, G b = none) ∧ W i m G := fun {t G} K nx => by
        obtain ⟨m2, less, w2⟩ := down G nx
        have held : ∀ b ∈ fp, ∀ o, s7.heap.get? b = some o → t.heap.get? b = some o ∧ G b = none := fun b hb o z => let y := K.pin (b, o) (List.mem_append_right _ (List.mem_append_right _ (mem_pinsAt hb z))); ⟨y.1, y.2.1⟩
        refine ⟨m2, less, i + 1, G, (K.unpinned (pins := [])).weak (by rw [← hw8, wipe_length]) (fun j v z => (wipe_some (hw8 ▸ z)).1), T.keep _ _ _ st7 fun b hb o z => (held b hb o z).1, fun b hb => ?_, w2⟩
        obtain ⟨o, z, _⟩ := T.obj _ _ st7 b hb
        exact (held b hb o z).2
      match b, q9 with
      | false, q9 => exact next I9 (by simpa using q9)
      | true, q9 =>
        simp only [if_true] at q9 ⊢
        refine thnF (pe.run _ s9 σ8 H9 _ I9 q9) fun z s10 ⟨yv, H10, I10, r10, k, l, ey, at_, few, nx⟩ => ?_
        subst ey
        obtain ⟨t, rfl⟩ := r10
        exact addT_ok (X := X.blk s3 H3 sc ce fp) I10 at_ few fun s11 I11 => next I11 nx
  exact codeAny_compStart_set loop (T.self X.A 0 _ _ _ st4 loop)
/-- {e for x in xs} of texts -/
theorem pe_scT {elt tg iter : Expr} {ifs : List Expr} {sc : Scope} {own : List (Str × Nat)} {pos : Pos} {wi : TI} {g : TG} {tt : TT} {te : TE} (calm : X.calm = true) (dist : X.N.Nodup) (walks : PI X tg iter wi) (ok : BlkOk X.N X.env.scope sc own)
    (tgt : ∀ (s : Shared) (H : Hp) (C : Addr) (cl : List (Str × Addr)) (fp : List Addr), PG (X.blk s H sc (compEnvC sc cl C X.env) fp) tg g) (tst : ∀ (s : Shared) (H : Hp) (C : Addr) (cl : List (Str × Addr)) (fp : List Addr), PTs (X.blk s H sc (compEnvC sc cl C X.env) fp) ifs tt)
    (val : ∀ (s : Shared) (H : Hp) (C : Addr) (cl : List (Str × Addr)) (fp : List Addr), PE (X.blk s H sc (compEnvC sc cl C X.env) fp) elt te) (fold : ∀ x, foldedSetIterable iter X.env x = pure x := by intro _; rfl) :
    PE X (.SetComp elt [⟨tg, iter, ifs, 0⟩] sc pos) (tScT X.prog X.w wi g tt te (own.map (·.2))) :=
  ⟨fun pins s σ H Q I h => by
    rw [eval_SetComp]
    refine scT_core calm dist I walks ok tgt tst val fold h fun D C s2 m G J q space foot => ⟨m, space, fun h2 same => ?_⟩
    exact ⟨.ref D, G, J.turned (t' := s2.toks) (fun b o hb z => (same.2 b hb).trans z) foot.1 foot.2.1 foot.2.2.2.1 foot.2.2.2.2.1 foot.2.2.2.2.2, rfl, q⟩⟩
end
end Sk
end

section
/-! max of a list of pairs of whole numbers -/
namespace Sk
open PySem PySem.Spec PyProof.Rows L2
open PySem.W (alike dataLt maxD AlikeAll)
def p2D (p : Int × Int) : PyData := .tuple [.int p.1, .int p.2]
/-- q is not behind p -/
def le2 (q p : Int × Int) : Prop := q.1 < p.1 ∨ (q.1 = p.1 ∧ q.2 ≤ p.2)
theorem maxD_pairs : ∀ (ps : List (Int × Int)) (p : Int × Int), ∃ m, maxD (p2D p) (ps.map p2D) = p2D m ∧ m ∈ p :: ps ∧ ∀ q ∈ p :: ps, le2 q m
  | [], p => ⟨p, rfl, by simp, fun q hq => by simp at hq; subst hq; exact .inr ⟨rfl, Int.le_refl _⟩⟩
  | r :: ps, p => by
    have step : maxD (p2D p) ((r :: ps).map p2D) = maxD (if dataLt (p2D p) (p2D r) = true then p2D r else p2D p) (ps.map p2D) := rfl
    have lt : dataLt (p2D p) (p2D r) = decide (p.1 < r.1 ∨ (p.1 = r.1 ∧ p.2 < r.2)) := PySem.W.dataLt_ii _ _ _ _
    by_cases c : p.1 < r.1 ∨ (p.1 = r.1 ∧ p.2 < r.2)
    · rw [step, lt, decide_eq_true c, if_pos rfl]
      obtain ⟨m, h1, h2, h3⟩ := maxD_pairs ps r
      refine ⟨m, h1, ?_, fun q hq => ?_⟩
      · simp only [List.mem_cons] at h2 ⊢
        exact .inr h2
      · rcases List.mem_cons.mp hq with rfl | hq
        · have := h3 r (by simp)
          unfold le2 at *
          omega
        · exact h3 q hq
    · rw [step, lt, decide_eq_false c, if_neg Bool.false_ne_true]
      obtain ⟨m, h1, h2, h3⟩ := maxD_pairs ps p
      refine ⟨m, h1, ?_, fun q hq => ?_⟩
      · simp only [List.mem_cons] at h2 ⊢
        exact h2.imp id .inr
      · rcases List.mem_cons.mp hq with rfl | hq
        · exact h3 q (by simp)
        · rcases List.mem_cons.mp hq with rfl | hq
          · have := h3 p (by simp)
            unfold le2 at *
            omega
          · exact h3 q (by simp [hq])
theorem p2D_inj {p q : Int × Int} (h : p2D p = p2D q) : p = q := by
  obtain ⟨a, b⟩ := p
  obtain ⟨c, d⟩ := q
  simp only [p2D, PyData.tuple.injEq, List.cons.injEq, PyData.int.injEq] at h
  rw [h.1, h.2.1]
/-- max(l), l a list of pairs: the pair that is told -/
def rMax2 (K : PySem.W.Frag) : List V → Hp → VK → Prop := fun xs H Q => ∃ (l : Addr) (ps : List (Addr × Int × Int)), xs = [.ref l] ∧ SqL K H l (ps.map fun p => .ref p.1) ∧ ps ≠ [] ∧ (∀ p ∈ ps, SqT K H p.1 [.int p.2.1, .int p.2.2]) ∧
  ∀ p ∈ ps, (∀ q ∈ ps, le2 q.2 p.2) → Q (.ref p.1) H
theorem cr_max2 {X : Cx} {K : PySem.W.Frag} (h : X.K = K) (hc : X.calm = true) (hu : X.A.units + 64 < cLine) : CallR X (.builtin "max") (rMax2 K) := by
  subst h
  intro pins s σ H xs us Q I rel asked
  obtain ⟨l, ps, rfl, hs, ne, ht, q⟩ := asked
  obtain ⟨its, rv, hl, _⟩ := I.list hs
  rw [Vals.ref1 rel]
  have dp : ∀ {ps : List (Addr × Int × Int)}, (∀ p ∈ ps, SqT X.K H p.1 [.int p.2.1, .int p.2.2]) → DpAll X.K H (ps.map fun p => .ref p.1) (ps.map fun p => p2D p.2) := by
    intro ps
    induction ps with
    | nil => intro _; exact .nil
    | cons p ps ih => intro h; exact .cons (.tup (h p (by simp)) (.cons (.int _) (.cons (.int _) .nil))) (ih fun p hp => h p (by simp [hp]))
  obtain ⟨as, rs⟩ := Dp.readsAll I _ _ its (dp ht) rv
  obtain ⟨p0, pr, e0⟩ : ∃ p0 pr, ps = p0 :: pr := by
    cases ps with
    | nil => exact absurd rfl ne
    | cons a b => exact ⟨a, b, rfl⟩
  have em : (ps.map fun p => p2D p.2) = p2D p0.2 :: (pr.map fun p => p.2).map p2D := by rw [e0, List.map_cons, List.map_map]; rfl
  rw [em] at rs
  have all2 : ∀ d ∈ p2D p0.2 :: (pr.map fun p => p.2).map p2D, ∃ p, d = p2D p := fun d hd => by
    rcases List.mem_cons.mp hd with rfl | hd
    · exact ⟨_, rfl⟩
    · obtain ⟨p, _, rfl⟩ := List.mem_map.mp hd
      exact ⟨p, rfl⟩
  have al : AlikeAll (p2D p0.2 :: (pr.map fun p => p.2).map p2D) := ⟨fun x hx y hy => by
    obtain ⟨p, rfl⟩ := all2 x hx
    obtain ⟨r, rfl⟩ := all2 y hy
    rfl, fun x hx => by
    obtain ⟨p, rfl⟩ := all2 x hx
    exact fun z => nomatch z⟩
  have deep : ∀ {xs : List PyData}, (∀ d ∈ xs, ∃ p, d = p2D p) → PyData.depthAll xs ≤ 1 := by
    intro xs
    induction xs with
    | nil => intro _; simp [PyData.depthAll]
    | cons d xs ih =>
      intro h
      obtain ⟨p, rfl⟩ := h d (by simp)
      have := ih fun d hd => h d (by simp [hd])
      simp only [PyData.depthAll, p2D, PyData.depth]
      omega
  have dd := deep all2
  refine PySem.W.max_list_data (I.ok.hd hc) hl.isList (by simpa using rs) al (by omega) fun i v h2 tk bs hv hr keep => ?_
  have hv' : its[i]? = some v := by simpa using hv
  have lk : its.length = ps.length := by have z := rv.length; rw [List.length_map] at z; exact z.symm
  have hi : i < ps.length := lk ▸ (List.getElem?_eq_some_iff.mp hv').1
  have hp : ps[i] ∈ ps := List.getElem_mem hi
  have rl : RelV (.ref ps[i].1) v := by
    have := rv.get (i := i) (x := V.ref ps[i].1) (by simp [hi])
    obtain ⟨u, h1, h2⟩ := this
    rw [hv'] at h1
    cases h1
    exact h2
  obtain rfl : v = Value.ref ps[i].1 := rl
  have J : Inv X pins σ H { s with heap := h2, toks := tk } := I.kept keep
  obtain ⟨cs, r2⟩ := Dp.reads J (p2D ps[i].2) _ _ (.tup (ht _ hp) (.cons (.int _) (.cons (.int _) .nil))) rfl
  obtain ⟨m, h1, h3, h4⟩ := maxD_pairs (pr.map fun p => p.2) p0.2
  have eq : p2D ps[i].2 = p2D m := by
    rw [← h1]
    exact PySem.W.alike_unique _ _ _ _ _ (by rw [h1]; rfl) r2 hr
  have e2 := p2D_inj eq
  refine ⟨.ref ps[i].1, H, J, rfl, q ps[i] hp fun r hr => ?_⟩
  rw [e2]
  refine h4 r.2 ?_
  rw [e0] at hr
  rcases List.mem_cons.mp hr with rfl | hr
  · exact List.mem_cons_self
  · exact List.mem_cons_of_mem _ (List.mem_map.mpr ⟨r, hr, rfl⟩)
end Sk
end

section
namespace Sk
open PySem PySem.Spec PyProof.Rows L2
section
variable {X : Cx} {CX : CXT} {k : Nat} {f : Addr} {fd : FuncData} {ps ks : List Str} {sp : Sp} {E : XK} {x : Str} {p pos : Pos} {kws : List Keyword} {tk : TA} {g : List Value → List Value → List Value} {gV : List V → List V → List V}
/-- f(k = v, ..) -/
theorem pe_callN0 (F : FnOk X.prog X.w X.K X.mg X.base CX k f fd ps sp) (hr : Room k X.A) (hg : Gl X x) (hm : X.mg x = some (.ref f)) (hk : PySem.W.keepIn X.K (.ref f) = true) (hb : KBn X.K fd ps 0 ks g gV) (hx : Passes CX X E)
    (hkw : PK X kws tk) (hall : (backToKw pos (keywordEach kws X.env)).all (·.1.isSome) = true := by rfl) (hks : (backToKw pos (keywordEach kws X.env)).filterMap (·.1) = ks := by rfl)
    (hdb : (x == ("__debug__" : Str)) = false := by decide) (hpl : ((backTo pos (starEach [] X.env)).any (·.1) || (backToKw pos (keywordEach kws X.env)).any (·.1.isNone)) = false := by rfl) :
    PE X (.Call (.Name x p) [] kws pos) (tCallN 0 ks.length sp gV E tNil tk) := by
  refine ⟨fun pins s σ H Q I h => ?_⟩
  refine wpAny_Call_Name_kw (ld_glob I hg hm ?_ hdb)
  refine PySem.W.callWith_KW0 (h₀ := X.base) I.ok.mod.kin hk hall ?_ hpl
  refine thn (hkw.run pos pins s σ H _ I h) fun ws s2 ⟨zs, H2, I2, rz, l1, l2, q2⟩ => ⟨I2.kIn, ?_⟩
  rw [hks]
  exact run_fnN (us := []) (vs := []) F hr hb hx I2 .nil rz rfl l2 q2
end
/-! ### enumerate of a tuple -/
/-- the tuple at a, each of its things with its number in a new pair -/
def IteT (K : PySem.W.Frag) (a : Addr) : It where
  go := fun n H => ∃ ys y, SqT K H a ys ∧ ys[n]? = some y
  yld := fun n H v H' => ∃ q y, v = V.ref q ∧ H q = none ∧ H' = upd H q (.tup [V.int (n : Nat), y]) ∧ ∀ ys, SqT K H a ys → ys[n]? = some y
  stop := fun n H => ∃ ys, SqT K H a ys ∧ List.length ys ≤ n
theorem enum_ne {h : Heap} {e it a : Addr} {n : Int} {old : Value} {ts : Array Value} (E1 : IsEnum h e it n old) (E2 : h.IsTuple a ts) : e ≠ a := by
  rintro rfl
  obtain ⟨o, h1, h2, _⟩ := E2
  rw [E1] at h1
  cases h1
  exact absurd h2 (by simp)
theorem tit_ne {h : Heap} {it a : Addr} {n : Nat} {ts : Array Value} (E1 : h.IsTupleIter it a n) (E2 : h.IsTuple a ts) : a ≠ it := by
  rintro rfl
  obtain ⟨o, h1, h2, _⟩ := E2
  obtain ⟨o', g1, g2, _⟩ := E1
  rw [g1] at h1
  cases h1
  rw [h2] at g2
  exact absurd g2 (by simp)
section
variable {prog : Program} {w : World} {A : Around} {E : Value → Shared → Prop} {s : Shared}
/-- the next of an enumerate whose tuple is through -/
theorem enumT_end {e it a : Addr} {n : Nat} {ts : Array Value} {old : Value} {Q : Option Value → Shared → Prop} (calm : A.handled = none) (E1 : IsEnum s.heap e it n old) (E2 : s.heap.IsTupleIter it a n) (E3 : s.heap.IsTuple a ts) (E4 : ts[n]? = none)
    (k : ∀ h', Heap.ExtBut it s.heap h' → Q none { s with heap := h' }) : wpAny (model prog w) A (pyNext (.ref e)) Q E s := by
  have ty : s.TypeIs (.ref e) "enumerate" := ⟨_, E1, rfl⟩
  unfold pyNext
  refine wpAny_bind (wpAny_attempt (wpAny_callSpecial?_slot (name := Str.ofString "__next__") ty F.slot_enumerate_next (wpAny_call_entry F.slot_enumerate_next ty F.entry_enumerate_next ?_ (F.args_enumerate_next_1 _))))
  show wpAny _ _ (field (.ref e) 2 >>= _) _ _ _
  refine wpAny_bind (wpAny_field E1 rfl (x := .ref it) rfl (wpAny_bind (RZ.nextOf_tuple_end calm E2 E3 E4 fun h1 z x1 x2 => ?_)))
  obtain ⟨oz, z1, z2⟩ := x2
  exact wpAny_bind (wpAny_isInstance (T := "StopIteration") (b := true) ⟨oz, z1, z2⟩ isSubtype_stop (wpAny_pure (k _ x1)))
set_option maxHeartbeats 8000000 in
theorem meets_enumT (a : Addr) (ts : Array Value) :
    Meets (Builtin.«enumerate.__new__» ⟨[.type "enumerate", .ref a], []⟩) (fun _ R s => s.heap.IsTuple a ts ∧
      R (.ok (.ret (.ref (s.heap.push { cls := .type "tuple_iterator", data := .fields #[.ref a, .int 0 0] }).objs.size)))
        { s with heap := (s.heap.push { cls := .type "tuple_iterator", data := .fields #[.ref a, .int 0 0] }).push { cls := .type "enumerate", data := .fields #[.none, .bool false, .ref s.heap.objs.size, rawInt 0, .none, .none] } }) :=
  .of_wp fun prog w A R s h => by
    obtain ⟨hp, g, d, tk, os⟩ := s
    obtain ⟨ht, h⟩ := h
    have hsub := sub_enumerate
    wp_walk
    refine wpAny_stack_any fun st => wpAny_pure ?_
    split
    · rename_i c _ _ _ _ _
      cases (c == Value.type "enumerate")
      · wp_walk using wpAny_pyIter_tuple ht
        exact ⟨_, rfl, h⟩
      · wp_walk using wpAny_pyIter_tuple ht
        exact ⟨_, rfl, h⟩
    · wp_walk using wpAny_pyIter_tuple ht
      exact ⟨_, rfl, h⟩
theorem call_enumT {a : Addr} {ts : Array Value} {Q : Value → Shared → Prop} (E1 : s.heap.IsTuple a ts)
    (k : ∀ h', IsEnum h' (s.heap.objs.size + 1) s.heap.objs.size 0 .none → h'.IsTupleIter s.heap.objs.size a 0 → (∀ b o, s.heap.get? b = some o → h'.get? b = some o) → Q (.ref (s.heap.objs.size + 1)) { s with heap := h' }) :
    wpAny (model prog w) A (call (.type "enumerate") [.ref a]) Q E s := by
  refine callType_new F.called_enumerate (by decide) (F.typeCall_enumerate_1 _) (F.newCall_enumerate_1 _) (fun x => F.args_object_init_2 x _) F.entry_enumerate_new (meets_enumT a ts) ⟨E1, ?_⟩
  have z : (s.heap.push { cls := .type "tuple_iterator", data := .fields #[.ref a, .int 0 0] }).objs.size = s.heap.objs.size + 1 := Heap.size_push ..
  show _ ∧ _
  rw [z]
  have en : IsEnum ((s.heap.push { cls := .type "tuple_iterator", data := .fields #[.ref a, .int 0 0] }).push { cls := .type "enumerate", data := .fields #[.none, .bool false, .ref s.heap.objs.size, rawInt 0, .none, .none] }) (s.heap.objs.size + 1) s.heap.objs.size 0 .none := by
    have y := Heap.get?_push_size (s.heap.push { cls := .type "tuple_iterator", data := .fields #[.ref a, .int 0 0] }) (o := { cls := .type "enumerate", data := .fields #[.none, .bool false, .ref s.heap.objs.size, rawInt 0, .none, .none] }) rfl
    rw [z] at y
    exact y
  exact ⟨⟨_, en, rfl⟩, k _ en ⟨_, Heap.get?_push_of_some _ (Heap.get?_push_size _ rfl), rfl, rfl⟩ fun b o y => Heap.get?_push_of_some _ (Heap.get?_push_of_some _ y)⟩
end
theorem two_mem {b e it : Addr} (h : b ∈ [e, it]) : b = e ∨ b = it := by simpa using h
theorem turn_enumT {P : Program} {w : World} {K : PySem.W.Frag} {elts : List Expr} {kk : Nat} {tpos : Pos} (a e it : Addr) :
    Turn P w K (.Tuple elts kk tpos) (IteT K a) [e, it] e (fun n h => (∃ old, IsEnum h e it ((n : Nat) : Int) old) ∧ h.IsTupleIter it a n ∧ e ≠ it) where
  mem := List.mem_cons_self ..
  obj := by
    rintro n h ⟨⟨old, E1⟩, ⟨o, o1, _, o3⟩, _⟩ b hb
    rcases two_mem hb with rfl | rfl
    · exact ⟨_, E1, by intro v q; cases q⟩
    · exact ⟨o, o1, by intro v q; rw [o3] at q; cases q⟩
  keep := by
    rintro n h h' ⟨⟨old, E1⟩, E2, E3⟩ k
    exact ⟨⟨old, k e (by simp) _ E1⟩, E2.at fun o q => k it (by simp) o q, E3⟩
  item := by
    intro X x1 x2 x3 calm n pins s σ H E I hf st hg
    subst x1 x2 x3
    obtain ⟨⟨old, E1⟩, E2, E3⟩ := st
    obtain ⟨ys, y, y1, y2⟩ := hg
    obtain ⟨ts, rv, tp, _⟩ := I.tuple y1
    obtain ⟨u, u1, u2⟩ := rv.get y2
    have l1 : e < s.heap.objs.size := Heap.lt_size E1
    have l2 : it < s.heap.objs.size := by
      obtain ⟨_, q, _⟩ := E2
      exact Heap.lt_size q
    have n1 := enum_ne E1 tp
    have n2 := tit_ne E2 tp
    have n3 : n < ts.toArray.size := by simpa using (List.getElem?_eq_some_iff.mp u1).1
    refine wpAny_pyNext_enum_itemD (Draws.tuple (A := X.A.in1) (show X.A.in1.handled = none from I.ok.hd calm) it a n2 ts.toArray) E1 ⟨E2, tp⟩ n3 E3 (by simp [E3, n1]) fun v h1 tk g1 g2 g3 g4 g5 g6 => ?_
    obtain rfl : v = u := by
      have z : ts[n]? = some v := by simpa using g1
      exact Option.some.inj (z.symm.trans u1)
    refine ⟨_, rfl, wpAny_letOwnedTupleGo_enum (s := { s with heap := h1, toks := tk + 1 }) g2 fun h2 q1 q2 => ?_⟩
    have g7 : h2.get? s.heap.objs.size = some { cls := .type "tuple", data := .seq #[.int n tk, v] } := (q2.2 _ (Nat.ne_of_gt l1)).trans g4
    have fresh : ObjOk X.prog X.w (upd H s.heap.objs.size (.tup [V.int (n : Nat), y])) h2 s.heap.objs.size (.tup [V.int (n : Nat), y]) :=
      ⟨len_ok (xs := [V.int (n : Nat), y]) rfl, [.int n tk, v], .cons ⟨tk, rfl⟩ (.cons u2 .nil), ⟨_, g7, rfl, _, rfl⟩⟩
    have J : Inv X pins σ (upd H s.heap.objs.size (.tup [V.int (n : Nat), y])) { s with heap := h2, toks := tk + 1 } := by
      refine I.turnedNew (ch := [e, it]) (fun b ob hb q => ?_) hf (Nat.le_refl _) fresh
      have b1 : b ≠ e := fun z => hb (by simp [z])
      have b2 : b ≠ it := fun z => hb (by simp [z])
      exact (q2.2 b b1).trans (g6 b ob b1 b2 q)
    refine ⟨V.ref s.heap.objs.size, _, J, rfl, ⟨_, y, rfl, I.hok.fresh (Nat.le_refl _), rfl, fun zs hz => ?_⟩, ⟨⟨v, ?_⟩, g3.1.at fun o q => (q2.2 it (Ne.symm E3)).trans q, E3⟩, fun b hb => ?_⟩
    · rw [I.tuple_inj hz y1]
      exact y2
    · rw [show ((n + 1 : Nat) : Int) = (n : Int) + 1 by omega]
      exact q1
    · have lb : b < s.heap.objs.size := by
        rcases two_mem hb with rfl | rfl
        · exact l1
        · exact l2
      rw [upd_ne (Nat.ne_of_lt lb)]
      exact (hf b hb).1
  done := by
    intro X x1 x2 x3 calm n pins s σ H E I hf st hg
    subst x1 x2 x3
    obtain ⟨⟨old, E1⟩, E2, E3⟩ := st
    obtain ⟨ys, y1, y2⟩ := hg
    obtain ⟨ts, rv, tp, _⟩ := I.tuple y1
    obtain ⟨c0, c1, _, c3, c4, c5⟩ := hf it (by simp)
    have rl := rv.length
    exact enumT_end (I.ok.hd calm) E1 E2 tp (by simp; omega) fun h1 q => ⟨rfl, I.turned (t' := s.toks) (fun b o nb x => q b o nb x) c0 c1 c3 c4 c5⟩
  self := by
    rintro A n s Q E ⟨⟨_, E1⟩, _⟩ h
    exact wpAny_pyIter_enum E1 h
/-- enumerate of a list or a tuple -/
def iEnumA (K : PySem.W.Frag) (ta : TA) : TI := fun σ H R => ta σ H fun vs H1 => ∃ a ys, vs = [V.ref a] ∧ ((SqL K H1 a ys ∧ R (Ite K a) H1) ∨ (SqT K H1 a ys ∧ R (IteT K a) H1))
theorem pi_enumA {X : Cx} {e : Expr} {ta : TA} {p pos tpos : Pos} {elts : List Expr} {kk : Nat} (hg : Gl X "enumerate") (hm : X.mg "enumerate" = none) (ha : PA X [e] ta) (hs : starEach [e] X.env = [(false, eval e X.env)] := by rfl) :
    PI X (.Tuple elts kk tpos) (.Call (.Name "enumerate" p) [e] [] pos) (iEnumA X.K ta) := by
  refine ⟨fun pins s σ H R I h => Call_ (ld_blt I hg hm boot_enumerate (PyProof.Rows.callWith_type1 (thn (ha.run pos pins s σ H _ I h) ?_) hs rfl))⟩
  rintro us s1 ⟨vs, H1, I1, r1, a, ys, rfl, cs⟩
  obtain ⟨u, rfl, ru⟩ : ∃ u, us = [u] ∧ RelV (V.ref a) u := by
    cases r1 with
    | cons r rr => cases rr; exact ⟨_, rfl, r⟩
  obtain rfl : u = Value.ref a := ru
  have fp : ∀ b, b ∈ [s1.heap.objs.size + 1, s1.heap.objs.size] → FpOk X pins H1 b := fun b hb => by
    have le : s1.heap.objs.size ≤ b := by
      rcases two_mem hb with rfl | rfl
      · exact Nat.le_succ _
      · exact Nat.le_refl _
    exact I1.fpOk le (I1.hok.fresh le)
  rcases cs with ⟨hq, q⟩ | ⟨hq, q⟩
  · obtain ⟨ts, rv, tp, _⟩ := I1.list hq
    refine call_enumerate_list tp.isList fun h' g1 g2 g3 g4 => wpAny_pyIter_enum g1 ?_
    exact ⟨_, [s1.heap.objs.size + 1, s1.heap.objs.size], _, _, H1, rfl, I1.kept (t' := s1.toks) g4, turn_enum a (s1.heap.objs.size + 1) s1.heap.objs.size, ⟨⟨.none, g1⟩, g2, Nat.succ_ne_self _⟩, fp, q⟩
  · obtain ⟨ts, rv, tp, _⟩ := I1.tuple hq
    refine call_enumT tp fun h' g1 g2 g4 => wpAny_pyIter_enum g1 ?_
    exact ⟨_, [s1.heap.objs.size + 1, s1.heap.objs.size], _, _, H1, rfl, I1.kept (t' := s1.toks) g4, turn_enumT a (s1.heap.objs.size + 1) s1.heap.objs.size, ⟨⟨.none, g1⟩, g2, Nat.succ_ne_self _⟩, fp, q⟩
theorem walk_enumT {K : PySem.W.Frag} {a : Addr} {ys : List V} : Walk (IteT K a) ys.length (fun H => SqT K H a ys) (YPair (fun n => some (V.int (n : Nat))) (fun n => ys[n]?)) where
  goes := fun n H hn q => ⟨ys, ys[n], q, List.getElem?_eq_getElem hn⟩
  stops := fun H q => ⟨ys, q, Nat.le_refl _⟩
  yields := fun n H v H' _ q ⟨t, y, h1, h2, h3, h4⟩ => ⟨t, _, y, h1, h2, h3, rfl, h4 ys q⟩
/-! ### zip of lists and tuples in any mix: true is a tuple -/
def SqK (K : PySem.W.Frag) (t : Bool) (H : Hp) (a : Addr) (ys : List V) : Prop := if t = true then SqT K H a ys else SqL K H a ys
def SitK (t : Bool) (h : Heap) (it a : Addr) (n : Nat) : Prop := if t = true then h.IsTupleIter it a n else h.IsListIter it a n
def SisK (t : Bool) (h : Heap) (a : Addr) (ts : Array Value) : Prop := if t = true then h.IsTuple a ts else h.IsList a ts
def SitO (t : Bool) (a : Addr) : Obj := if t = true then { cls := .type "tuple_iterator", data := .fields #[.ref a, .int 0 0] } else { cls := .type "list_iterator", data := .fields #[.ref a, .int 0 0] }
theorem SitK.look {t : Bool} {h : Heap} {it a : Addr} {n : Nat} (x : SitK t h it a n) : ∃ o, h.get? it = some o ∧ ∀ v, o.data ≠ .cell v := by
  cases t with
  | true => obtain ⟨o, h1, _, h3⟩ := (show h.IsTupleIter it a n from x); exact ⟨o, h1, fun v q => by rw [h3] at q; cases q⟩
  | false => obtain ⟨o, h1, _, h3⟩ := (show h.IsListIter it a n from x); exact ⟨o, h1, fun v q => by rw [h3] at q; cases q⟩
theorem SitK.mv {t : Bool} {h h' : Heap} {it a : Addr} {n : Nat} (x : SitK t h it a n) (k : ∀ o, h.get? it = some o → h'.get? it = some o) : SitK t h' it a n := by
  cases t with
  | true => exact (show h.IsTupleIter it a n from x).at k
  | false => exact (show h.IsListIter it a n from x).at k
theorem SisK.ne {t : Bool} {h : Heap} {it a : Addr} {n : Nat} {ts : Array Value} (x : SitK t h it a n) (y : SisK t h a ts) : a ≠ it := by
  cases t with
  | true => exact tit_ne (show h.IsTupleIter it a n from x) (show h.IsTuple a ts from y)
  | false =>
    obtain ⟨o, h1, h2, _⟩ := (show h.IsList a ts from y)
    obtain ⟨o', g1, g2, _⟩ := (show h.IsListIter it a n from x)
    rintro rfl
    rw [g1] at h1
    cases h1
    rw [h2] at g2
    exact absurd g2 (by simp)
theorem drawsK {prog : Program} {w : World} {A : Around} (t : Bool) (calm : A.handled = none) (it a : Addr) (ne : a ≠ it) (ts : Array Value) :
    Draws prog w A it [it, a] ts.size (fun n v => ts[n]? = some v) (fun n h => SitK t h it a n ∧ SisK t h a ts) := by
  cases t with
  | true => exact Draws.tuple calm it a ne ts
  | false => exact Draws.list calm it a ne ts
theorem beginsK (t : Bool) (a : Addr) (ts : Array Value) : Begins (.ref a) (SitO t a) fun h => SisK t h a ts := by
  cases t with
  | true => exact begins_tuple a ts
  | false => exact begins_list a ts
theorem SqK.open {t : Bool} {X : Cx} {pins : List (Addr × Obj)} {σ : L2.St} {H : Hp} {s : Shared} (I : L2.Inv X pins σ H s) {a : Addr} {ys : List V} (q : SqK X.K t H a ys) : ∃ ts : List Value, Vals ys ts ∧ SisK t s.heap a ts.toArray ∧ a < s.heap.objs.size := by
  cases t with
  | true =>
    obtain ⟨ts, rv, tp, _⟩ := I.tuple (show SqT X.K H a ys from q)
    obtain ⟨o, ho, _⟩ := id tp
    exact ⟨ts, rv, tp, Heap.lt_size ho⟩
  | false =>
    obtain ⟨ts, rv, tp, _⟩ := I.list (show SqL X.K H a ys from q)
    exact ⟨ts, rv, tp.isList, tp.lt⟩
theorem SqK.inj {t : Bool} {X : Cx} {pins : List (Addr × Obj)} {σ : L2.St} {H : Hp} {s : Shared} (I : L2.Inv X pins σ H s) {a : Addr} {ys zs : List V} (q : SqK X.K t H a ys) (r : SqK X.K t H a zs) : ys = zs := by
  cases t with
  | true => exact I.tuple_inj (show SqT X.K H a ys from q) (show SqT X.K H a zs from r)
  | false => exact I.list_inj (show SqL X.K H a ys from q) (show SqL X.K H a zs from r)
def ItzK (K : PySem.W.Frag) (t u : Bool) (a b : Addr) : It where
  go := fun n H => ∃ ys zs y z, SqK K t H a ys ∧ SqK K u H b zs ∧ ys[n]? = some y ∧ zs[n]? = some z
  yld := fun n H v H' => ∃ q y z, v = V.ref q ∧ H q = none ∧ H' = upd H q (.tup [y, z]) ∧ (∀ ys, SqK K t H a ys → ys[n]? = some y) ∧ ∀ zs, SqK K u H b zs → zs[n]? = some z
  stop := fun n H => ∃ ys zs, SqK K t H a ys ∧ SqK K u H b zs ∧ n ≤ List.length ys ∧ n ≤ List.length zs ∧ (n = List.length ys ∨ n = List.length zs)
theorem five_mem {b z TI TO i1 i2 : Addr} (h : b ∈ [z, TI, TO, i1, i2]) : b = z ∨ b = TI ∨ b = TO ∨ b = i1 ∨ b = i2 := by simpa using h
theorem turn_zipK {P : Program} {w : World} {K : PySem.W.Frag} {elts : List Expr} {kk : Nat} {tpos : Pos} {t u : Bool} {a b z TI TO i1 i2 : Addr} (S : ZipSep2 z TI TO i1 i2 [i1, a] [i2, b]) :
    Turn P w K (.Tuple elts kk tpos) (ItzK K t u a b) [z, TI, TO, i1, i2] z (fun n h => IsZip h z TI TO .none ∧ IsTupOf2 h TI (.ref i1) (.ref i2) ∧ (∃ x y, IsTupOf2 h TO x y) ∧ SitK t h i1 a n ∧ SitK u h i2 b n) where
  mem := List.mem_cons_self ..
  obj := by
    rintro n h ⟨z1, z2, ⟨x, y, z3⟩, z4, z5⟩ c hc
    rcases five_mem hc with rfl | rfl | rfl | rfl | rfl
    · exact ⟨_, z1, by intro v q; cases q⟩
    · exact ⟨_, z2, by intro v q; cases q⟩
    · exact ⟨_, z3, by intro v q; cases q⟩
    · exact z4.look
    · exact z5.look
  keep := by
    rintro n h h' ⟨z1, z2, ⟨x, y, z3⟩, z4, z5⟩ k
    exact ⟨k z (by simp) _ z1, k TI (by simp) _ z2, ⟨x, y, k TO (by simp) _ z3⟩, z4.mv (k i1 (by simp)), z5.mv (k i2 (by simp))⟩
  item := by
    intro X x1 x2 x3 calm n pins s σ H E I hf st hg
    subst x1 x2 x3
    obtain ⟨z1, z2, ⟨x0, y0, z3⟩, z4, z5⟩ := st
    obtain ⟨ys, zs, y, w', q1, q2, q3, q4⟩ := hg
    obtain ⟨ts, r1, s1, _⟩ := q1.open I
    obtain ⟨us, r2, s2, _⟩ := q2.open I
    obtain ⟨v1, v2, v3⟩ := r1.get q3
    obtain ⟨w1, w2, w3⟩ := r2.get q4
    have n1 : n < ts.toArray.size := by simpa using (List.getElem?_eq_some_iff.mp v2).1
    have n2 : n < us.toArray.size := by simpa using (List.getElem?_eq_some_iff.mp w2).1
    have lz : z < s.heap.objs.size := Heap.lt_size z1
    have hd : X.A.in1.handled = none := I.ok.hd calm
    refine wpAny_pyNext_zipD2_item S (drawsK t hd i1 a (SisK.ne z4 s1) ts.toArray) (drawsK u hd i2 b (SisK.ne z5 s2) us.toArray) z1 z2 z3 ⟨z4, s1⟩ ⟨z5, s2⟩ n1 n2 fun a1 a2 h1 tk g1 g2 g3 g4 g5 g6 g7 g8 g9 => ?_
    obtain rfl : a1 = v1 := Option.some.inj ((show ts[n]? = some a1 by simpa using g1).symm.trans v2)
    obtain rfl : a2 = w1 := Option.some.inj ((show us[n]? = some a2 by simpa using g2).symm.trans w2)
    refine ⟨_, rfl, wpAny_letOwnedTupleGo_zip (s := { s with heap := h1, toks := tk }) g3 fun h2 p1 p2 => ?_⟩
    have g10 : h2.get? s.heap.objs.size = some { cls := .type "tuple", data := .seq #[a1, a2] } := (p2.2 _ (Nat.ne_of_gt lz)).trans g7
    have fresh : ObjOk X.prog X.w (upd H s.heap.objs.size (.tup [y, w'])) h2 s.heap.objs.size (.tup [y, w']) :=
      ⟨len_ok (xs := [y, w']) rfl, [a1, a2], .cons v3 (.cons w3 .nil), ⟨_, g10, rfl, _, rfl⟩⟩
    have J : Inv X pins σ (upd H s.heap.objs.size (.tup [y, w'])) { s with heap := h2, toks := tk } := by
      refine I.turnedNew (ch := [z, TI, TO, i1, i2]) (fun c o hc q => ?_) hf (Nat.le_refl _) fresh
      have c1 : c ≠ z := fun e => hc (by simp [e])
      exact (p2.2 c c1).trans (g9 c o c1 (fun e => hc (by simp [e])) (fun e => hc (by simp [e])) (fun e => hc (by simp [e])) q)
    refine ⟨V.ref s.heap.objs.size, _, J, rfl, ⟨_, y, w', rfl, I.hok.fresh (Nat.le_refl _), rfl, fun l hl => ?_, fun l hl => ?_⟩, ⟨p1, ?_, ⟨a1, a2, ?_⟩, ?_, ?_⟩, fun c hc => ?_⟩
    · rw [SqK.inj I hl q1]
      exact q3
    · rw [SqK.inj I hl q2]
      exact q4
    · exact (p2.2 _ S.TIz).trans (g9 _ _ S.TIz S.TITO S.TIi1 S.TIi2 z2)
    · exact (p2.2 _ S.TOz).trans g4
    · exact g5.1.mv fun o q => (p2.2 _ (fun e => S.zf1 (by simp [e]))).trans q
    · exact g6.1.mv fun o q => (p2.2 _ (fun e => S.zf2 (by simp [e]))).trans q
    · have lc : c < s.heap.objs.size := by
        rcases five_mem hc with rfl | rfl | rfl | rfl | rfl
        · exact lz
        · exact Heap.lt_size z2
        · exact Heap.lt_size z3
        · obtain ⟨o, e1, _⟩ := z4.look
          exact Heap.lt_size e1
        · obtain ⟨o, e1, _⟩ := z5.look
          exact Heap.lt_size e1
      rw [upd_ne (Nat.ne_of_lt lc)]
      exact (hf c hc).1
  done := by
    intro X x1 x2 x3 calm n pins s σ H E I hf st hg
    subst x1 x2 x3
    obtain ⟨z1, z2, ⟨x0, y0, z3⟩, z4, z5⟩ := st
    obtain ⟨ys, zs, q1, q2, q3, q4, q5⟩ := hg
    obtain ⟨ts, r1, s1, _⟩ := q1.open I
    obtain ⟨us, r2, s2, _⟩ := q2.open I
    have e1 := r1.length
    have e2 := r2.length
    have hd : X.A.in1.handled = none := I.ok.hd calm
    refine wpAny_pyNext_zipD2_end S (drawsK t hd i1 a (SisK.ne z4 s1) ts.toArray) (drawsK u hd i2 b (SisK.ne z5 s2) us.toArray) z1 z2 z3 ⟨z4, s1⟩ ⟨z5, s2⟩ (by simp; omega) (by simp; omega) (by simp; omega) fun h1 tk k => ⟨rfl, ?_⟩
    exact I.turnedL (t' := tk) (ch := [z, TI, TO, i1, i2]) (fun c o hc q => k c o (fun e => hc (by simp [e])) (fun e => hc (by simp [e])) (fun e => hc (by simp [e])) (fun e => hc (by simp [e])) q) hf
  self := by
    rintro A n s Q E ⟨z1, _⟩ h
    exact wpAny_pyIter_zip z1 h
def iZipK (K : PySem.W.Frag) (ta : TA) : TI := fun σ H R => ta σ H fun vs H1 => ∃ t u a b ys zs, vs = [V.ref a, V.ref b] ∧ SqK K t H1 a ys ∧ SqK K u H1 b zs ∧ R (ItzK K t u a b) H1
theorem pi_zipK {X : Cx} {e e2 : Expr} {ta : TA} {p pos tpos : Pos} {elts : List Expr} {kk : Nat} (hg : Gl X "zip") (hm : X.mg "zip" = none) (ha : PA X [e, e2] ta)
    (hs : starEach [e, e2] X.env = (false, eval e X.env) :: starEach [e2] X.env := by rfl) (hpl : (backTo pos (starEach [e2] X.env)).any (·.1) = false := by rfl) :
    PI X (.Tuple elts kk tpos) (.Call (.Name "zip" p) [e, e2] [] pos) (iZipK X.K ta) := by
  refine ⟨fun pins s σ H R I h => ?_⟩
  refine Call_ (ld_blt I hg hm PyProof.Rows.boot_zip (PyProof.Rows.callWith_type1 (thn (ha.run pos pins s σ H _ I h) fun vs s1 hh => ?_) hs hpl))
  obtain ⟨us, H1, I1, r1, t, u, a, b, ys, zs, rfl, q1, q2, q⟩ := hh
  obtain rfl : vs = [Value.ref a, Value.ref b] := by
    cases r1 with
    | cons r rr =>
      cases rr with
      | cons r' rr =>
        cases rr
        cases r
        cases r'
        rfl
  obtain ⟨ts, v1, s2, l1⟩ := q1.open I1
  obtain ⟨ws, v2, s3, l2⟩ := q2.open I1
  have fp : ∀ c, c ∈ [s1.heap.objs.size + 4, s1.heap.objs.size + 2, s1.heap.objs.size + 3, s1.heap.objs.size, s1.heap.objs.size + 1] → FpOk X pins H1 c := fun c hc => by
    have le : s1.heap.objs.size ≤ c := by
      rcases five_mem hc with rfl | rfl | rfl | rfl | rfl
      · exact Nat.le_add_right _ _
      · exact Nat.le_add_right _ _
      · exact Nat.le_add_right _ _
      · exact Nat.le_refl _
      · exact Nat.le_add_right _ _
    exact I1.fpOk le (I1.hok.fresh le)
  refine zip_begins2 (beginsK t a ts.toArray) (beginsK u b ws.toArray) s2 s3 fun h' g1 g2 g3 g4 g5 g6 g7 => wpAny_pyIter_zip g1 ?_
  have k1 : SitK t h' s1.heap.objs.size a 0 := by
    cases t with
    | true => exact ⟨_, g4, rfl, rfl⟩
    | false => exact ⟨_, g4, rfl, rfl⟩
  have k2 : SitK u h' (s1.heap.objs.size + 1) b 0 := by
    cases u with
    | true => exact ⟨_, g5, rfl, rfl⟩
    | false => exact ⟨_, g5, rfl, rfl⟩
  exact ⟨_, [s1.heap.objs.size + 4, s1.heap.objs.size + 2, s1.heap.objs.size + 3, s1.heap.objs.size, s1.heap.objs.size + 1], _, _, H1, rfl, I1.kept (t' := s1.toks) g7, turn_zipK (t := t) (u := u) (zip_sep2 (fp1 := [a]) (fp2 := [b]) (by simpa using l1) (by simpa using l2)), ⟨g1, g2, ⟨_, _, g3⟩, k1, k2⟩, fp, q⟩
theorem walk_zipK {K : PySem.W.Frag} {t u : Bool} {a b : Addr} {ys zs : List V} {n : Nat} (hn : n = min ys.length zs.length) : Walk (ItzK K t u a b) n (fun H => SqK K t H a ys ∧ SqK K u H b zs) (YPair (fun n => ys[n]?) (fun n => zs[n]?)) where
  goes := fun i H hi q => ⟨ys, zs, ys[i]'(by omega), zs[i]'(by omega), q.1, q.2, List.getElem?_eq_getElem _, List.getElem?_eq_getElem _⟩
  stops := fun H q => ⟨ys, zs, q.1, q.2, by omega, by omega, by omega⟩
  yields := fun i H v H' _ q ⟨c, y, z, h1, h2, h3, h4, h5⟩ => ⟨c, y, z, h1, h2, h3, h4 ys q.1, h5 zs q.2⟩
/-- for x in a list or a tuple -/
def iSeqA (K : PySem.W.Frag) (tl : TE) : TI := fun σ H R => tl σ H fun x H1 => ∃ a, x = V.ref a ∧ (((∃ ys, SqL K H1 a ys) ∧ R (Itl K a) H1) ∨ ((∃ ys, SqT K H1 a ys) ∧ R (Itt K a) H1))
theorem pi_seqA {X : Cx} {tg l : Expr} {tl : TE} (hl : PE X l tl) : PI X tg l (iSeqA X.K tl) := by
  refine ⟨fun pins s σ H R I h => ?_⟩
  refine thn (hl.run pins s σ H _ I h) fun u s1 hh => ?_
  obtain ⟨x, H1, I1, r1, a, rfl, cs⟩ := hh
  obtain rfl : u = Value.ref a := r1
  have fp : ∀ b, b ∈ [s1.heap.objs.size] → FpOk X pins H1 b := fun b hb => by
    obtain rfl : b = s1.heap.objs.size := by simpa using hb
    exact I1.fpOk (Nat.le_refl _) (I1.hok.fresh (Nat.le_refl _))
  rcases cs with ⟨⟨ys, q1⟩, q⟩ | ⟨⟨ys, q1⟩, q⟩
  · obtain ⟨ts, _, tp, _⟩ := I1.list q1
    exact wpAny_pyIter_list tp.isList ⟨_, [s1.heap.objs.size], _, _, H1, rfl, I1.kept (t' := s1.toks) fun b o e => Heap.get?_push_of_some _ e, turn_list a _, ⟨_, Heap.get?_push_size _ rfl, rfl, rfl⟩, fp, q⟩
  · obtain ⟨ts, _, tp, _⟩ := I1.tuple q1
    exact wpAny_pyIter_tuple tp ⟨_, [s1.heap.objs.size], _, _, H1, rfl, I1.kept (t' := s1.toks) fun b o e => Heap.get?_push_of_some _ e, turn_tuple a _, ⟨_, Heap.get?_push_size _ rfl, rfl, rfl⟩, fp, q⟩
end Sk
end

section
/-! defs that are called where no repr is under way -/
namespace Sk
open PySem PySem.Spec PyProof.Rows L2
/-- no repr is under way -/
def Clr (A : Around) : Prop := A.guards = some []
/-- as FnOk, where no repr is under way -/
structure FnG (P : Program) (w : World) (K : PySem.W.Frag) (mg : Str → Option Value) (base : Heap) (CX : CXT) (k : Nat) (f : Addr) (fd : FuncData) (ps : List Str) (sp : Sp) : Prop where
  len : ∀ vs H Q E, sp vs H Q E → vs.length = ps.length
  run : ∀ (A : Around) (outer : List Env) (s : Shared) (H : Hp) (args : Args) (us : List Value) (vs : List V) (Q : VK) (E : XK), Clr A → Room k A → Env0 P w K mg base A outer s H → BindsTo s fd args (ps.zip us) → Vals vs us → sp vs H Q E →
    codeAny (model P w) A (.call (.ref f) args) (CR CX outer P w H s Q E) s
theorem FnG.of {P : Program} {w : World} {K : PySem.W.Frag} {mg : Str → Option Value} {base : Heap} {CX : CXT} {k : Nat} {f : Addr} {fd : FuncData} {ps : List Str} {sp : Sp} (F : FnOk P w K mg base CX k f fd ps sp) : FnG P w K mg base CX k f fd ps sp :=
  ⟨F.len, fun A outer s H args us vs Q E _ => F.run A outer s H args us vs Q E⟩
theorem FnG.mono {P : Program} {w : World} {K : PySem.W.Frag} {mg : Str → Option Value} {base : Heap} {CX : CXT} {j k : Nat} {f : Addr} {fd : FuncData} {ps : List Str} {sp : Sp} (F : FnG P w K mg base CX j f fd ps sp) (h : j ≤ k) : FnG P w K mg base CX k f fd ps sp :=
  ⟨F.len, fun A outer s H args us vs Q E c r => F.run A outer s H args us vs Q E c (r.mono h)⟩
theorem clr_deeper {A : Around} (h : Clr A) (env : Env) : Clr (A.deeper env) := h
theorem fnG_of {CX : CXT} {P : Program} {w : World} {K : PySem.W.Frag} {mg : Str → Option Value} {base : Heap} {k : Nat} {f : Addr} {nm ql : Str} {prm : Arguments} {bd : List Stmt} {sc : Scope} {v1 v2 v3 v4 cdv v5 v6 : Value} {an od : Option Addr}
    {sl : Array (Option Value)} {N ps : List Str} {sp : Sp} (look : K.lookup f = some ⟨v6, od, .func (PySem.W.fnOf nm ql prm bd sc v1 v2 v3 v4 an cdv v5), sl⟩) (code : PySem.W.codeIn K cdv ql = true) (S : FnScope N ps sc)
    (len : ∀ vs H Q E, sp vs H Q E → vs.length = ps.length)
    (body : ∀ (A : Around) (outer : List Env) (s : Shared) (H : Hp) (vs : List V) (Q : VK) (E : XK), Clr A → Room k (A.deeper (envOfC ql sc s.heap.objs.size f cdv)) → sp vs H Q E →
      ∃ t, PSs (cxOf CX P w K mg base N ql sc f cdv A outer s H E) bd t ∧ t { nx := fun _ G => Q .non G, rt := Q } (start N vs) H) :
    FnG P w K mg base CX (k + 1) f (PySem.W.fnOf nm ql prm bd sc v1 v2 v3 v4 an cdv v5) ps sp := by
  refine ⟨len, fun A outer s H args us vs Q E clr room env0 bnd rel asked => ?_⟩
  have inK : K.In s.heap := env0.mod.kin.keeps fun b o z => (env0.bs b o z).1
  have nol : s.heap.NoLimit := env0.mod.nolimit.keeps fun b o z => (env0.bs b o z).1
  have kinds : ∀ y ∈ ps.zip us, sc.names.lookup y.1 = some .local ∨ (sc.names.lookup y.1 = some .cell ∧ ((cellsFrom (s.heap.objs.size + 1) sc.names []).lookup y.1).isSome = true) := by
    rintro ⟨n, v⟩ hy
    exact (S.par n (List.of_mem_zip hy).1).imp id fun z => ⟨z, PySem.W.cellsFrom_some _ _ _ (.inl z)⟩
  refine codeAny_call_function room.depth (inK _ _ look) rfl S.co S.gen rfl (PySem.W.codeRec_of inK code) (bnd _ _ _ _ (wpAny_newFunctionEnv_cells S.kind kinds ?_))
  rintro _ rfl s1 born
  refine ⟨nol.keeps born.toInCall.keep, codeAny_func ?_⟩
  obtain ⟨t, runs, read⟩ := body A outer s H vs Q E clr (room.deeper _) asked
  have I := inv_start (CX := CX) (E := E) S room.hd env0 (len _ _ _ _ asked) rel born
  refine wpAny_mono (runs.run [] s1 (start N vs) H _ I read) (fun fl s2 ends => ?_) fun _ _ z => z
  match fl, ends with
  | .ret u, ⟨v, _, G, J, rv, q⟩ => exact ⟨v, G, J.os, J.bare, J.base, J.hok, rv, q⟩
  | .next, ⟨_, G, J, q⟩ => exact ⟨.non, G, J.os, J.bare, J.base, J.hok, rfl, q⟩
  | .brk, ⟨_, _, _, q⟩ => exact False.elim q
  | .cont, ⟨_, _, _, q⟩ => exact False.elim q
section
variable {P : Program} {w : World} {K : PySem.W.Frag} {mg : Str → Option Value} {base : Heap}
/-- the rule for a def that asks for repr -/
theorem okG {x ql : Str} {st : Stmt} {f : Addr} {fd : FuncData} {N ps : List Str} {k : Nat} {sp : Sp} (F : Fun K x ql st f fd) (S : FnScope N ps (defScope st)) (len : ∀ vs H Q E, sp vs H Q E → vs.length = ps.length)
    (body : ∀ (cdv : Value) (A : Around) (outer : List Env) (s : Shared) (H : Hp) (vs : List V) (Q : VK) (E : XK), Clr A → Room k (A.deeper (envOfC ql (defScope st) s.heap.objs.size f cdv)) → sp vs H Q E →
      ∃ t, PSs (cxOf CX0 P w K mg base N ql (defScope st) f cdv A outer s H E).nox (defBody st) t ∧ t { nx := fun _ G => Q .non G, rt := Q } (start N vs) H) : FnG P w K mg base CX0 (k + 1) f fd ps sp := by
  obtain ⟨_, _, _, _, _, _, c, _, _, rfl, lk, hc⟩ := F.ex
  refine fnG_of lk hc S len fun A outer s H vs Q E clr room asked => ?_
  obtain ⟨t, runs, read⟩ := body c A outer s H vs Q E clr room asked
  exact ⟨t, runs.nox, read⟩
end
section
variable {X : Cx} {CX : CXT} {k : Nat} {f C : Addr} {fd : FuncData} {ps : List Str} {sp : Sp} {dvs : List V} {ds : List Value} {E : XK} {x m : Str} {p pos apos : Pos} {e o : Expr} {es : List Expr} {ta : TE} {t : TA}
theorem run_fnG {pins : List (Addr × Obj)} {σ : L2.St} {H : Hp} {s : Shared} {Q : VK} {us : List Value} {vs : List V} (F : FnG X.prog X.w X.K X.mg X.base CX k f fd ps sp) (clr : Clr X.A) (room : Room k X.A) (bnd : Binds X.K fd ps ds) (dflt : Vals dvs ds) (pass : Passes CX X E)
    (I : Inv X pins σ H s) (rel : Vals vs us) (asked : sp (vs ++ dvs) H Q E) : wpAny (model X.prog X.w) X.A (call (.ref f) us) (EP X pins σ Q) X.xe s := by
  have all := rel.append dflt
  have many : (us ++ ds).length = ps.length := all.length ▸ F.len _ _ _ _ asked
  refine wpAny_call (codeAny_mono (F.run X.A X.stack s H ⟨us, []⟩ _ _ Q E clr room I.env0 (bnd s us I.kIn many) all asked) fun r s2 ends => ?_)
  match r, ends with
  | .error z, ends => exact pass pins σ H s z s2 I ends
  | .ok (.ret u), ends => exact I.after ends
  | .ok .next, ends => exact False.elim ends
  | .ok .brk, ends => exact False.elim ends
  | .ok .cont, ends => exact False.elim ends
/-- f(e, ..) of such a def -/
theorem pe_callG (F : FnG X.prog X.w X.K X.mg X.base CX k f fd ps sp) (clr : Clr X.A) (room : Room k X.A) (gl : Gl X x) (at_ : X.mg x = some (.ref f)) (kp : PySem.W.keepIn X.K (.ref f) = true) (bnd : Binds X.K fd ps ds) (dflt : Vals dvs ds) (pass : Passes CX X E)
    (args : PA X (e :: es) t) (nd : (x == ("__debug__" : Str)) = false := by decide) (one : starEach (e :: es) X.env = (false, eval e X.env) :: starEach es X.env := by rfl) (rest : (backTo pos (starEach es X.env)).any (·.1) = false := by rfl) :
    PE X (.Call (.Name x p) (e :: es) [] pos) (tCall sp dvs E t) :=
  ⟨fun pins s σ H Q I h => wpAny_Call_Name_kw (ld_glob I gl at_ (PySem.W.callWith_K (h₀ := X.base) I.ok.mod.kin kp (thn (args.run pos pins s σ H _ I h) fun us s1 ⟨vs, H1, I1, rel, q⟩ => ⟨I1.kIn, run_fnG F clr room bnd dflt pass I1 rel q⟩) one rest) nd)⟩
end
/-! ### repr of data -/
def rRepr (K : PySem.W.Frag) : List V → Hp → VK → Prop := fun xs H Q => ∃ (a : Addr) (d : PyData), xs = [.ref a] ∧ Dp K H (.ref a) d ∧ d.showable = true ∧ d.hasDict = false ∧ d.depth ≤ 8 ∧ d.shown.length ≤ sizeLine ∧ Q (.str d.shown) H
theorem cr_repr {X : Cx} {K : PySem.W.Frag} (h : X.K = K) (clr : Clr X.A) (hu : X.A.units + 64 < cLine) : CallR X (.builtin "repr") (rRepr K) := by
  subst h
  intro pins s σ H xs us Q I rel asked
  obtain ⟨a, d, rfl, hd, sh, nd, dp, sz, q⟩ := asked
  rw [Vals.ref1 rel]
  obtain ⟨as, r⟩ := Dp.reads I d _ _ hd rfl
  exact repr_of_reads' r sh (fun z => by rw [nd] at z; cases z) clr (by omega) (fun _ _ z => z) (fun h' u tk hk => ⟨.str d.shown, H, I.kept hk, ⟨u, rfl⟩, q⟩) sz
/-! ### the end -/
section
variable {P : Program} {w : World} {K : PySem.W.Frag} {mg mb : Str → Option Value} {s₁ : Shared} {a : Addr} {us : List Value}
theorem env_top {H : Hp} (inK : K.In s₁.heap) (main : s₁.heap.Ns mainGlobals mg) (blt : s₁.heap.Ns builtinsNs mb) (boot : ∀ x : Str, x ≠ "__name__" → mb x = bootBuiltins x) (nol : s₁.heap.NoLimit) (none_ : s₁.gens = #[])
    (script : s₁.heap.get? a = some { cls := .type "list", data := .seq us.toArray }) (hok : HOk P w H s₁.heap) (just : ∀ b, H b ≠ none → b = a ∧ K.lookup a = none) :
    ∃ base : Heap, K.In base ∧ base.Ns mainGlobals mg ∧ Env0 P w K mg base callerA [] s₁ H := by
  have keep : ∀ {b : Addr} {o : Obj}, s₁.heap.get? b = some o → (b = a → K.lookup a ≠ none ∨ ∀ xs n, o.data ≠ .seq xs n) → (hidT s₁.heap H).get? b = some o := fun {b o} get out => by
    refine hidT_get get (Classical.byContradiction fun z => ?_)
    obtain ⟨rfl, no⟩ := just b z
    rcases out rfl with c | c
    · exact c no
    · rw [script] at get
      cases get
      exact c _ _ rfl
  have spaces : ∀ {b : Addr} {m : Str → Option Value}, s₁.heap.Ns b m → (hidT s₁.heap H).Ns b m := by
    rintro b m ⟨o, es, ep, get, dat, more⟩
    exact ⟨o, es, ep, keep get fun _ => .inr fun xs n z => (by rw [dat] at z; cases z), dat, more⟩
  have inB : K.In (hidT s₁.heap H) := fun b o get => keep (inK b o get) fun z => .inl (by rw [← z, get]; simp)
  obtain ⟨mc, c1, c2⟩ := nol
  exact ⟨_, inB, spaces main, ⟨rfl, ⟨inB, spaces main, ⟨mb, spaces blt, boot⟩, ⟨mc, spaces c1, c2⟩⟩, fun b o z => of_hidT z, Nat.le_of_eq (hidT_size _ _), trivial, fun b z => (nomatch z), hok, .of_eq none_⟩⟩
theorem law_callG {k : Nat} {f : Addr} {fd : FuncData} {x : Str} {sp : Sp} {ns : List Int} (inK : K.In s₁.heap) (main : s₁.heap.Ns mainGlobals mg) (blt : s₁.heap.Ns builtinsNs mb) (boot : ∀ x : Str, x ≠ "__name__" → mb x = bootBuiltins x) (nol : s₁.heap.NoLimit) (none_ : s₁.gens = #[])
    (script : s₁.heap.get? a = some { cls := .type "list", data := .seq us.toArray }) (nums : IntsAre us ns) (short : ns.length ≤ sizeLine) (room : Room k callerA)
    (F : ∀ base : Heap, K.In base → base.Ns mainGlobals mg → FnG P w K mg base CX0 k f fd [x] sp) (bnd : ∀ (s : Shared) (u : Value), BindsTo s fd ⟨[u], []⟩ [(x, u)])
    (asked : ∀ H : Hp, SqL K H a (ns.map V.int) → sp [.ref a] H (fun v _ => v = .bl true) fun _ _ _ => False) :
    codeAny (model P w) callerA (.call (.ref f) ⟨[.ref a], []⟩) (fun r s2 => r = .ok (.ret (.bool true)) ∧ OldK s₁.heap s2.heap ∧ s2.os = s₁.os ∧ AllBare s2.gens) s₁ := by
  have rel := vals_ints nums
  have go : ∀ H : Hp, SqL K H a (ns.map V.int) → HOk P w H s₁.heap → (∀ b, H b ≠ none → b = a ∧ K.lookup a = none) → (∀ u, H a = some u → ∃ ob xs, u = .frz ob (.lst xs)) →
      codeAny (model P w) callerA (.call (.ref f) ⟨[.ref a], []⟩) (fun r s2 => r = .ok (.ret (.bool true)) ∧ OldK s₁.heap s2.heap ∧ s2.os = s₁.os ∧ AllBare s2.gens) s₁ := by
    intro H hS hok just frz
    obtain ⟨base, b1, b2, e0⟩ := env_top inK main blt boot nol none_ script hok just
    refine codeAny_mono ((F base b1 b2).run callerA [] s₁ H ⟨[.ref a], []⟩ [.ref a] [.ref a] _ _ rfl room e0 (bnd s₁ (.ref a)) (.cons rfl .nil) (asked H hS)) fun r s2 ends => ?_
    match r, ends with
    | .error z, ends => exact False.elim ends
    | .ok .next, ends => exact False.elim ends
    | .ok .brk, ends => exact False.elim ends
    | .ok .cont, ends => exact False.elim ends
    | .ok (.ret u), ⟨v, G, c1, c2, c3, c4, c5, c6⟩ =>
      obtain rfl : v = .bl true := c6
      obtain rfl : u = Value.bool true := c5
      refine ⟨rfl, OldK.of_keep fun b o get => ?_, c1, c2⟩
      by_cases z : H b = none
      · exact c3.keep b o get z (fun y => (nomatch y)) (fun y => (nomatch y))
      · obtain ⟨rfl, _⟩ := just b z
        cases at_ : H b with
        | none => exact absurd at_ z
        | some t =>
          obtain ⟨ob, xs, rfl⟩ := frz t at_
          have d1 := (hok b _ at_).1
          have d2 := (c4 b _ (c3.frzs b ob _ at_)).1
          rw [get] at d1
          cases d1
          exact d2
  by_cases mine : K.lookup a = none
  · let H : Hp := fun b => if b = a then some (.frz { cls := .type "list", data := .seq us.toArray } (.lst (ns.map V.int))) else none
    have hHa : H a = some (.frz { cls := .type "list", data := .seq us.toArray } (.lst (ns.map V.int))) := if_pos rfl
    have hHn : ∀ b, b ≠ a → H b = none := fun b z => if_neg z
    refine go H (.inl (.inr ⟨_, hHa⟩)) (fun b u z => ?_) (fun b z => ⟨Classical.byContradiction fun y => z (hHn b y), mine⟩) fun u z => ⟨_, _, (Option.some.inj (hHa.symm.trans z)).symm⟩
    by_cases e : b = a
    · subst e
      obtain rfl := Option.some.inj (hHa.symm.trans z)
      exact ⟨script, by rw [List.length_map]; exact short, us, _, rel, script⟩
    · rw [hHn b e] at z
      cases z
  · cases its : K.lookup a with
    | none => exact absurd its mine
    | some o =>
      have same := inK a o its
      rw [script] at same
      cases same
      have sz : us.toArray.size ≤ sizeLine := by rw [List.size_toArray, nums.length]; exact short
      exact go (fun _ => none) (.inr ⟨_, us.toArray, _, its, rfl, rfl, rfl, sz, by simpa using rel⟩) (fun b u z => by cases z) (fun b z => absurd rfl z) fun u z => by cases z
end
/-- what k_head leaves, for a law that asks for repr -/
theorem walk_ofG {l : PySem.W.OpenLaw} {n k : Nat} {q : Program} {loose : List Str} {XP : (Str → Option Value) → Heap → Prop} {YP : World → Heap → Prop} {d : DefRec} {K : Params → PySem.W.Frag} {sp : World → Sp} {x : Str} (most : l.most = some n) (few : n ≤ sizeLine) (nodf : d.params.defaults = []) (room : Room k callerA)
    (inK : ∀ (w : World) (h : Heap), YP w h → (K w.params).In h)
    (F : ∀ (w : World) (mg : Str → Option Value) (f : Addr) (h : Heap), (K w.params).In h → h.Ns mainGlobals mg → mg d.name = some (.ref f) →
      ∃ fd : FuncData, (∀ (s : Shared) (u : Value), BindsTo s fd ⟨[u], []⟩ [(x, u)]) ∧ ∀ base : Heap, (K w.params).In base → base.Ns mainGlobals mg → FnG l.prog w (K w.params) mg base CX0 k f fd [x] (sp w))
    (asked : ∀ (w : World) (H : Hp) (a : Addr) (ns : List Int), ns.length ≤ n → SqL (K w.params) H a (ns.map V.int) → sp w [.ref a] H (fun v _ => v = .bl true) fun _ _ _ => False) :
    PySem.W.WalkO q loose XP YP l.row.toRowW d [] (fun f vs => PySem.call f vs) :=
  Att.attach_call most nodf fun w s₀ s₁ mg mb f o pm cd doc a us ns G Y _ _ _ at_ obj nums len none_ => by
    obtain ⟨fd, bnd, ok⟩ := F w mg f _ (inK w _ Y) G.T.g at_
    exact law_callG (inK w _ Y) G.T.g G.T.b G.T.builtins G.T.nolimit none_ obj nums (Nat.le_trans len few) room ok bnd fun H hS => asked w H a ns len hS
end Sk
end

section
namespace Sk
open PySem L2
/-- a purse: its state, its digits, how often it was taken of -/

def Purse (H : Hp) (p : Addr) : Prop := ∃ a b c : Int, H p = some (.lst [.int a, .int b, .int c]) ∧ 0 ≤ a ∧ a < 2147483423 ∧ 0 ≤ b

def spTake : Sp := fun vs H Q _ => ∃ (p : Addr) (m : Int), vs = [.ref p, .int m] ∧ Purse H p ∧ 0 < m ∧ m < 1073741824 ∧
  ∀ (r : Int) (H' : Hp), 0 ≤ r → r < m → Purse H' p → But p H H' → Q (.int r) H'

theorem ite_dec {c A B : Prop} [Decidable c] (h1 : c → A) (h2 : ¬ c → B) : if decide c = true then A else B := by
  by_cases h : c
  · rw [decide_eq_true h]; exact iteT (h1 h)
  · rw [decide_eq_false h]; exact iteF (h2 h)

/-- a def that keeps its promise, under its name -/

structure Def (P : Program) (w : World) (K : PySem.W.Frag) (mg : Str → Option Value) (base : Heap) (x : Str) (k : Nat) (f : Addr) (fd : FuncData) (ps : List Str) (sp : Sp) : Prop where
  ok : FnOk P w K mg base CX0 k f fd ps sp
  mg : mg x = some (.ref f)
  kp : PySem.W.keepIn K (.ref f) = true
  bd : Binds K fd ps []

/-- the built-ins that the text leaves as they are -/
structure Free (mg : Str → Option Value) : Prop where
  len : mg "len" = none
  sum : mg "sum" = none
  abs : mg "abs" = none
  all : mg "all" = none
  any : mg "any" = none
  min : mg "min" = none
  max : mg "max" = none
  sorted : mg "sorted" = none
  range : mg "range" = none
  enumerate : mg "enumerate" = none
  zip : mg "zip" = none
  isinstance : mg "isinstance" = none
  tuple : mg "tuple" = none
  list : mg "list" = none
  int_ : mg "int" = none
  bool_ : mg "bool" = none
  set_ : mg "set" = none
  repr : mg "repr" = none
  str_ : mg "str" = none
  dict_ : mg "dict" = none
  reversed : mg "reversed" = none

theorem Purse.ne {H : Hp} {p l : Addr} (h : Purse H p) (n : H l = none) : l ≠ p := by
  obtain ⟨a, b, c, e, _⟩ := h
  exact (ne_of_none e n).symm

theorem Purse.upd {H : Hp} {p l : Addr} {o : HO} (h : Purse H p) (n : l ≠ p) : Purse (upd H l o) p := by
  obtain ⟨a, b, c, e, r⟩ := h
  exact ⟨a, b, c, (upd_ne n.symm).trans e, r⟩

theorem Purse.ts {H H' : Hp} {p : Addr} (h : Purse H p) (e : Ext p H H') : TSt H H' := by
  obtain ⟨a, b, c, q, _⟩ := h
  exact e.ts q

theorem rd_ixI {K : PySem.W.Frag} {H : Hp} {Q : VK} {p : Addr} {ns : List Int} {i : Int} (h : H p = some (.lst (ns.map V.int))) (h0 : 0 ≤ i) (h1 : i < ns.length) (k : ∀ w, w ∈ ns → Q (.int w) H) : rIxL K (.ref p) (.int i) H Q := by
  obtain ⟨j, rfl⟩ : ∃ j : Nat, i = j := ⟨i.toNat, by omega⟩
  have hj : j < ns.length := by omega
  exact ⟨p, _, _, .int ns[j], rfl, rfl, SqL.of h, atI_nat (by simp [hj]), k _ (List.getElem_mem hj)⟩

theorem Purse.net {H : Hp} {p t : Addr} {xs : List V} (h : Purse H p) (e : H t = some (.tup xs)) : t ≠ p := by
  obtain ⟨a, b, c, q, _⟩ := h
  exact ne_kind e q ne_tl

theorem rd_take {H : Hp} {Q : VK} {E : XK} {p : Addr} {m : Int} (P : Purse H p) (h0 : 0 < m) (h1 : m < 1073741824) (k : ∀ (r : Int) (H' : Hp), 0 ≤ r → r < m → Purse H' p → But p H H' → Q (.int r) H') : spTake ([.ref p, .int m] ++ []) H Q E :=
  ⟨p, m, rfl, P, h0, h1, k⟩

theorem Ext.tsn {H H' : Hp} {D : Addr} (e : Ext D H H') (h : H D = none) : TSt H H' := fun t xs q => e t _ (ne_of_none q h) q

theorem take_snoc {α : Type} {l : List α} {i : Nat} {x : α} (h : l[i]? = some x) : l.take (i + 1) = l.take i ++ [x] := by
  rw [List.take_succ, h]; rfl

/-- a list or a tuple of these things -/

def Seq (H : Hp) (a : Addr) (us : List V) : Prop := H a = some (.lst us) ∨ H a = some (.tup us)

theorem Seq.mono {H H' : Hp} {a : Addr} {us : List V} (h : Seq H a us) (s : Same H H') : Seq H' a us := h.imp (s _ _) (s _ _)

theorem rd_tupOf {K : PySem.W.Frag} {H : Hp} {Q : VK} {a : Addr} {us : List V} (h : H a = some (.lst us)) (k : ∀ q, H q = none → Q (.ref q) (upd H q (.tup us))) :
    ∃ p ys, [V.ref a] = [.ref p] ∧ ((SqL K H p ys ∧ ∀ l, H l = none → Q (.ref l) (upd H l (.tup ys))) ∨ (SqT K H p ys ∧ Q (.ref p) H)) := ⟨a, us, rfl, .inl ⟨SqL.of h, k⟩⟩

theorem rd_listOf {K : PySem.W.Frag} {H : Hp} {Q : VK} {a : Addr} {us : List V} (h : Seq H a us) (k : ∀ q, H q = none → Q (.ref q) (upd H q (.lst us))) :
    ∃ p ys, [V.ref a] = [.ref p] ∧ (SqL K H p ys ∨ SqT K H p ys) ∧ ∀ l, H l = none → Q (.ref l) (upd H l (.lst ys)) := ⟨a, us, rfl, h.imp SqL.of SqT.of, k⟩

theorem rd_callN {n m : Nat} {sp : Sp} {gV : List V → List V → List V} {E : XK} {t tk : TA} {σ : St} {H : Hp} {Q : VK} (k : t σ H fun vs H1 => tk σ H1 fun zs H2 => vs.length = n ∧ zs.length = m ∧ sp (gV vs zs) H2 Q E) : tCallN n m sp gV E t tk σ H Q := k

theorem rd_tB {t : TE} {σ : St} {H : Hp} {R : Bool → Hp → Prop} (k : t σ H fun x H1 => ∃ c, x = .bl c ∧ R c H1) : tB t σ H R := k

theorem iteNT {A B : Prop} (h : B) : if (!true) = true then A else B := iteF h

theorem iteNF {A B : Prop} (h : A) : if (!false) = true then A else B := iteT h

theorem rd_allT {K : PySem.W.Frag} {H : Hp} {Q : VK} {a : Addr} {n : Nat} (h : H a = some (.lst (List.replicate n (V.bl true)))) (k : Q (.bl true) H) : rAll K [V.ref a] H Q := by
  refine rd_all (bs := List.replicate n true) (by rw [h, List.map_replicate]) ?_
  have : (List.replicate n true).all id = true := by simp
  rw [this]
  exact k

theorem rd_iZK {K : PySem.W.Frag} {ta : TA} {σ : St} {H : Hp} {R : It → Hp → Prop} (k : ta σ H fun vs H1 => ∃ t u a b ys zs, vs = [V.ref a, V.ref b] ∧ SqK K t H1 a ys ∧ SqK K u H1 b zs ∧ R (ItzK K t u a b) H1) : iZipK K ta σ H R := k

def spCell (K : PySem.W.Frag) : Sp := fun vs H Q _ => ∃ (a : Addr) (ns : List Int) (k : Nat), vs = [.ref a, .int k] ∧ SqL K H a (ns.map V.int) ∧ ∀ (n : Int) (H' : Hp), Same H H' → Q (.int n) H'

def spPurse : Sp := fun vs H Q _ => ∃ n : Int, vs = [.int n] ∧ ∀ (p : Addr) (H' : Hp), H p = none → Purse H' p → Same H H' → Q (.ref p) H'

def spNum : Sp := fun vs H Q _ => ∃ n : Int, vs = [.int n] ∧ Q (.bl true) H

section
variable {K : PySem.W.Frag} {σ : St} {H : Hp} {Q : VK} {R : It → Hp → Prop}
/-- kept as it stood -/
def Kept (H : Hp) (a : Addr) (H' : Hp) : Prop := ∀ o, H a = some o → H' a = some o
theorem Seq.sq {a : Addr} {us : List V} (h : Seq H a us) : ∃ t, ∀ H', Kept H a H' → SqK K t H' a us := by
  rcases h with h | h
  · exact ⟨false, fun H' k => SqL.of (k _ h)⟩
  · exact ⟨true, fun H' k => SqT.of (k _ h)⟩
theorem Seq.kept {a : Addr} {us : List V} {H' : Hp} (h : Seq H a us) (k : Kept H a H') : Seq H' a us := h.imp (k _) (k _)
theorem Seq.ne {a D : Addr} {us : List V} (h : Seq H a us) (n : H D = none) : a ≠ D := by
  rintro rfl
  rcases h with h | h <;> rw [h] at n <;> cases n
theorem Seq.ext {p a : Addr} {us : List V} {H' : Hp} (h : Seq H a us) (e : Ext p H H') (n : a ≠ p) : Seq H' a us := h.imp (e _ _ n) (e _ _ n)
def rIxA (K : PySem.W.Frag) : R2 := fun x y H Q => rIxL K x y H Q ∨ rIxT K x y H Q
theorem rd_ixA {a : Addr} {us : List V} {i : Int} {v : V} (h : Seq H a us) (e : atI us i = some v) (k : Q v H) : rIxA K (.ref a) (.int i) H Q := by
  rcases h with h | h
  · exact .inl (rd_ixL h e k)
  · exact .inr (rd_ixT h e k)
theorem rd_lenS {a : Addr} {us : List V} {R : Nat → Prop} (h : Seq H a us) (k : R us.length) : ∃ x n, [V.ref a] = [x] ∧ LenV K x H n ∧ R n := by
  rcases h with h | h
  · exact rd_lenL h k
  · exact rd_lenT h k
/-- what is asked of enumerate, of a row, of zip behind their arguments -/
def EnumS (R : It → Hp → Prop) (vs : List V) (H : Hp) : Prop := ∃ (a : Addr) (us : List V), vs = [V.ref a] ∧ Seq H a us ∧ ∀ (J : It) (G : Hp → Prop), (∀ H', Kept H a H' → G H') → Walk J us.length G (YPair (fun n => some (V.int (n : Nat))) (fun n => us[n]?)) → R J H
def ForS (R : It → Hp → Prop) (x : V) (H : Hp) : Prop := ∃ (a : Addr) (us : List V), x = V.ref a ∧ Seq H a us ∧ ∀ (J : It) (G : Hp → Prop), (∀ H', Kept H a H' → G H') → Walk J us.length G (YAt us) → R J H
def ZipS (R : It → Hp → Prop) (vs : List V) (H : Hp) : Prop := ∃ (a b : Addr) (us ws : List V), vs = [V.ref a, V.ref b] ∧ Seq H a us ∧ Seq H b ws ∧ ∀ (J : It) (G : Hp → Prop), (∀ H', Kept H a H' → Kept H b H' → G H') → Walk J (min us.length ws.length) G (YPair (fun n => us[n]?) (fun n => ws[n]?)) → R J H
end
/-- steps through what an argument row asks -/
def TAm (ta : TA) : Prop := ∀ (σ : St) (H : Hp) (R R' : List V → Hp → Prop), (∀ vs H, R vs H → R' vs H) → ta σ H R → ta σ H R'
def TEm (t : TE) : Prop := ∀ (σ : St) (H : Hp) (R R' : VK), (∀ v H, R v H → R' v H) → t σ H R → t σ H R'
section
variable {K : PySem.W.Frag} {σ : St} {H : Hp} {Q : VK} {R : It → Hp → Prop}
theorem tem_var {i : Nat} : TEm (tVar i) := fun σ H R R' h ⟨v, e, k⟩ => ⟨v, e, h _ _ k⟩
theorem tam_nil : TAm tNil := fun σ H R R' h k => h _ _ k
theorem tam_cons {t : TE} {ts : TA} (a : TEm t) (b : TAm ts) : TAm (tCons t ts) := fun σ H R R' h k => a σ H _ _ (fun v H1 k1 => b σ H1 _ _ (fun vs H2 k2 => h _ _ k2) k1) k
theorem rd_iEA {ta : TA} (m : TAm ta) (k : ta σ H (EnumS R)) : iEnumA K ta σ H R := m σ H _ _ (fun vs H1 ⟨a, us, e, hs, kk⟩ => by
  subst e
  rcases hs with h | h
  · exact ⟨a, us, rfl, .inl ⟨SqL.of h, kk _ _ (fun H' c => SqL.of (c _ h)) walk_enum⟩⟩
  · exact ⟨a, us, rfl, .inr ⟨SqT.of h, kk _ _ (fun H' c => SqT.of (c _ h)) walk_enumT⟩⟩) k
theorem rd_iSA {t : TE} (m : TEm t) (k : t σ H (ForS R)) : iSeqA K t σ H R := m σ H _ _ (fun x H1 ⟨a, us, e, hs, kk⟩ => by
  subst e
  rcases hs with h | h
  · exact ⟨a, rfl, .inl ⟨⟨us, SqL.of h⟩, kk _ _ (fun H' c => SqL.of (c _ h)) walk_list⟩⟩
  · exact ⟨a, rfl, .inr ⟨⟨us, SqT.of h⟩, kk _ _ (fun H' c => SqT.of (c _ h)) walk_tup⟩⟩) k
theorem rd_iZA {ta : TA} (m : TAm ta) (k : ta σ H (ZipS R)) : iZipK K ta σ H R := m σ H _ _ (fun vs H1 ⟨a, b, us, ws, e, ha, hb, kk⟩ => by
  subst e
  obtain ⟨t, ht⟩ := ha.sq (K := K)
  obtain ⟨u, hu⟩ := hb.sq (K := K)
  exact ⟨t, u, a, b, us, ws, rfl, ht H1 (fun _ e => e), hu H1 (fun _ e => e), kk _ _ (fun H' c d => ⟨ht H' c, hu H' d⟩) (walk_zipK rfl)⟩) k
end
section
variable {X : Cx} {K : PySem.W.Frag}
theorem ix_seqK (h : X.K = K) : IxR X (rIxA K) := by
  subst h
  intro value slice pins s σ H x y v u Q I rx ry hh hs
  rcases hh with hh | hh
  · exact ix_list value slice pins s σ H x y v u Q I rx ry hh hs
  · exact ix_tup value slice pins s σ H x y v u Q I rx ry hh hs
theorem pi_enumK {e : Expr} {ta : TA} {p pos tpos : Pos} {elts : List Expr} {kk : Nat} (h : X.K = K) (hg : Gl X "enumerate") (hm : X.mg "enumerate" = none) (ha : PA X [e] ta) (hs : starEach [e] X.env = [(false, eval e X.env)] := by rfl) :
    PI X (.Tuple elts kk tpos) (.Call (.Name "enumerate" p) [e] [] pos) (iEnumA K ta) := by subst h; exact pi_enumA hg hm ha hs
theorem pi_seqK {tg l : Expr} {tl : TE} (h : X.K = K) (hl : PE X l tl) : PI X tg l (iSeqA K tl) := by subst h; exact pi_seqA hl
end

/-- whether n lies within -/
def inB (n a b : Int) : Bool := decide (a ≤ n) && decide (n ≤ b)
theorem inB_yes {n a b : Int} (h : a ≤ n) (h' : n ≤ b) : inB n a b = true := by simp [inB, h, h']
theorem rd_inB {σ : St} {H : Hp} {Q : VK} {ta tb tc : TE} {n a b : Int} (h1 : ∀ R : VK, R (.int a) H → ta σ H R) (h2 : ∀ R : VK, R (.int n) H → tb σ H R) (h3 : ∀ R : VK, R (.int b) H → tc σ H R) (k : Q (.bl (inB n a b)) H) :
    tChain (rI0 fun i j => V.bl (decide (i ≤ j))) (rI0 fun i j => V.bl (decide (i ≤ j))) ta tb tc σ H Q := by
  refine h1 _ (h2 _ (rd_I0 ⟨decide (a ≤ n), rfl, ?_⟩))
  by_cases c : a ≤ n
  · rw [decide_eq_true c]
    refine iteT (h3 _ (rd_I0 ?_))
    have : inB n a b = decide (n ≤ b) := by simp [inB, c]
    rw [← this]; exact k
  · rw [decide_eq_false c]
    refine iteF ?_
    have : inB n a b = false := by simp [inB, c]
    rw [← this]; exact k
/-- a list or a tuple -/
theorem seq_isRow {K : PySem.W.Frag} {H : Hp} {Q : VK} {a tp : Addr} {us : List V} (h : Seq H a us) (ht : H tp = some (.tup [.ty "list", .ty "tuple"])) (k : Q (.bl true) H) : rIsiT K [.ref a, .ref tp] H Q := by
  rcases h with h | h
  · exact ⟨_, tp, _, _, [.type "list", .type "tuple"], true, rfl, ht, .cons (.ty _) (.cons (.ty _) .nil), .base (.lst h), by rfl, k⟩
  · exact ⟨_, tp, _, _, [.type "list", .type "tuple"], true, rfl, ht, .cons (.ty _) (.cons (.ty _) .nil), .base (.tup h), by rfl, k⟩


theorem kept_same {H G : Hp} {a : Addr} (s : Same H G) : Kept H a G := fun o e => s _ _ e

theorem pair_next {α : Type} {R : α → α → Prop} {l : List α} (h : l.Pairwise R) {i : Nat} {x y : α} (hx : l[i]? = some x) (hy : l[i + 1]? = some y) : R x y := by
  obtain ⟨h1, rfl⟩ := List.getElem?_eq_some_iff.mp hx
  obtain ⟨h2, rfl⟩ := List.getElem?_eq_some_iff.mp hy
  exact List.pairwise_iff_getElem.mp h i (i + 1) h1 h2 (Nat.lt_succ_self _)


theorem iteND {c A B : Prop} [Decidable c] (h : c) (k : B) : if (!decide c) = true then A else B := by rw [decide_eq_true h]; exact iteF k


/-! ### tuples of numbers and texts -/
def TupK (H : Hp) (v : V) (ks : List Key) : Prop := ∃ t, v = .ref t ∧ H t = some (.tup (ks.map kV))
theorem TupK.mono {H H' : Hp} {v : V} {ks : List Key} (h : TupK H v ks) (s : TSt H H') : TupK H' v ks := by
  obtain ⟨t, e, h⟩ := h; exact ⟨t, e, s _ _ h⟩
def RowsK (H : Hp) : List V → List (List Key) → Prop
  | [], [] => True
  | v :: vs, r :: rs => TupK H v r ∧ RowsK H vs rs
  | _, _ => False
theorem RowsK.mono {H H' : Hp} (s : TSt H H') : ∀ {vs : List V} {rs : List (List Key)}, RowsK H vs rs → RowsK H' vs rs
  | [], [], _ => True.intro
  | _ :: _, _ :: _, ⟨a, b⟩ => ⟨a.mono s, RowsK.mono s b⟩
  | [], _ :: _, h => h.elim
  | _ :: _, [], h => h.elim
theorem RowsK.same {H G : Hp} {us : List V} {rs : List (List Key)} (h : RowsK H us rs) (s : Same H G) : RowsK G us rs := h.mono (Same.ts s)
theorem RowsK.length {H : Hp} : ∀ {vs : List V} {rs : List (List Key)}, RowsK H vs rs → vs.length = rs.length
  | [], [], _ => rfl
  | _ :: _, _ :: _, ⟨_, b⟩ => by simp [RowsK.length b]
  | [], _ :: _, h => h.elim
  | _ :: _, [], h => h.elim
theorem RowsK.get {H : Hp} : ∀ {vs : List V} {rs : List (List Key)} {i : Nat} {v : V}, RowsK H vs rs → vs[i]? = some v → ∃ r, rs[i]? = some r ∧ TupK H v r
  | [], [], _, _, _, e => by simp at e
  | _ :: _, r :: _, 0, _, ⟨a, _⟩, e => by simp at e; subst e; exact ⟨r, rfl, a⟩
  | _ :: _, _ :: _, i + 1, v, ⟨_, b⟩, e => by
    obtain ⟨r, e1, e2⟩ := RowsK.get (i := i) (v := v) b (by simpa using e)
    exact ⟨r, by simpa using e1, e2⟩
  | [], _ :: _, _, _, h, _ => h.elim
  | _ :: _, [], _, _, h, _ => h.elim
theorem RowsK.snoc {H : Hp} : ∀ {vs : List V} {rs : List (List Key)} {v : V} {r : List Key}, RowsK H vs rs → TupK H v r → RowsK H (vs ++ [v]) (rs ++ [r])
  | [], [], _, _, _, t => ⟨t, True.intro⟩
  | _ :: _, _ :: _, _, _, ⟨a, b⟩, t => ⟨a, RowsK.snoc b t⟩
  | [], _ :: _, _, _, h, _ => h.elim
  | _ :: _, [], _, _, h, _ => h.elim
theorem rowsK_at {H : Hp} {us : List V} {α : Type} {f : α → List Key} {os : List α} {i : Nat} {x : V} (h : RowsK H us (os.map f)) (e : us[i]? = some x) : ∃ o t, os[i]? = some o ∧ x = .ref t ∧ H t = some (.tup ((f o).map kV)) := by
  obtain ⟨r, h1, t, h2, h3⟩ := h.get e
  rw [List.getElem?_map] at h1
  cases z : os[i]? with
  | none => rw [z] at h1; cases h1
  | some o =>
    rw [z] at h1
    obtain rfl := Option.some.inj h1
    exact ⟨o, t, rfl, h2, h3⟩
/-! ### texts -/
section
variable {K : PySem.W.Frag} {σ : St} {H : Hp} {Q : VK}
theorem rd_eqS {i j : Str} (k : Q (.bl (decide (i = j))) H) : rEq (.str i) (.str j) H Q := ⟨rfl, by
  have e : decide (V.str i = V.str j) = decide (i = j) := by simp
  rw [e]; exact k⟩
theorem rd_neS {i j : Str} (k : Q (.bl (!decide (i = j))) H) : rNe (.str i) (.str j) H Q := ⟨rfl, by
  have e : decide (V.str i = V.str j) = decide (i = j) := by simp
  rw [e]; exact k⟩
theorem rd_isiS {z : Str} {c : String} {b : Bool} (e : kitB "str" c = some b) (k : Q (.bl b) H) : rIsi K [.str z, .ty c] H Q := ⟨_, _, _, _, b, rfl, .ty c, .base (.str _), kit_ty e, k⟩
theorem rd_lenZ {z : Str} {R : Nat → Prop} (h : z.length ≤ 1000) (k : R z.length) : ∃ x n, [V.str z] = [x] ∧ LenV K x H n ∧ R n := ⟨_, _, rfl, ⟨Nat.le_trans h (by decide), rfl⟩, k⟩
theorem rd_inS {c : Nat} {z : Str} (k : Q (.bl (decide (c ∈ z.cps.toList))) H) : rInS (.str ⟨#[c]⟩) (.str z) H Q := ⟨c, z, rfl, rfl, k⟩
theorem rd_iS {te : TE} {R : It → Hp → Prop} (k : te σ H fun v H1 => ∃ x, v = .str x ∧ R (Its x) H1) : iStr te σ H R := k
theorem rd_iS' {z : Str} {R : Str → Prop} (k : R z) : ∃ x, V.str z = .str x ∧ R x := ⟨z, rfl, k⟩
end
end Sk
end

section
/-! rows of stakes: what they tell -/
namespace Sk
open PySem L2
/-- a text of one to six small letters -/
def IsName (z : Str) : Prop := (1 ≤ z.length ∧ z.length ≤ 6) ∧ ∀ c ∈ z.cps.toList, 97 ≤ c ∧ c ≤ 122
abbrev Rw := Str × Int × Int
def k3 (r : Rw) : List Key := [.inr r.1, .inl r.2.1, .inl r.2.2]
def k2 (r : Rw) : List Key := [.inr r.1, .inl r.2.1]
def kv2 (r : Rw) : List Key × V := (k2 r, .int r.2.2)
structure RowsOk (rs : List Rw) : Prop where
  bnd : ∀ r ∈ rs, IsName r.1 ∧ (0 ≤ r.2.1 ∧ r.2.1 ≤ 9999) ∧ (0 ≤ r.2.2 ∧ r.2.2 ≤ 9999)
  dis : rs.Pairwise fun a b => ¬ (a.1 = b.1 ∧ a.2.1 = b.2.1)
  len : rs.length ≤ 30
theorem k2_inj {a b : Rw} (h : k2 a = k2 b) : a.1 = b.1 ∧ a.2.1 = b.2.1 := by
  simp only [k2, List.cons.injEq, Sum.inr.injEq, Sum.inl.injEq] at h
  exact ⟨h.1, h.2.1⟩
theorem val_new {rs : List Rw} {r : Rw} (h : ∀ x ∈ rs, ¬ (x.1 = r.1 ∧ x.2.1 = r.2.1)) : valV (rs.map kv2) (k2 r) = none := by
  unfold valV
  rw [List.find?_eq_none.mpr]
  · rfl
  · intro x hx
    obtain ⟨y, hy, rfl⟩ := List.mem_map.mp hx
    exact fun e => h y hy (k2_inj (of_decide_eq_true e))
theorem put_new {rs : List Rw} {r : Rw} (h : ∀ x ∈ rs, ¬ (x.1 = r.1 ∧ x.2.1 = r.2.1)) : putK (rs.map kv2) (k2 r) (.int r.2.2) = (rs ++ [r]).map kv2 := by
  unfold putK
  rw [if_neg, List.map_append]
  · rfl
  · intro z
    obtain ⟨x, hx, e⟩ := List.any_eq_true.mp z
    obtain ⟨y, hy, rfl⟩ := List.mem_map.mp hx
    exact h y hy (k2_inj (of_decide_eq_true e))
theorem val_at {rs : List Rw} (dis : rs.Pairwise fun a b => ¬ (a.1 = b.1 ∧ a.2.1 = b.2.1)) {r : Rw} (h : r ∈ rs) : valV (rs.map kv2) (k2 r) = some (.int r.2.2) := by
  induction rs with
  | nil => cases h
  | cons x rs ih =>
    unfold valV
    rw [List.map_cons, List.find?_cons]
    obtain ⟨h1, h2⟩ := List.pairwise_cons.mp dis
    rcases List.mem_cons.mp h with rfl | h
    · simp [kv2]
    · have ne : ¬ k2 x = k2 r := fun e => h1 r h (k2_inj e)
      simp only [kv2, ne, decide_false]
      exact ih h2 h
/-! ### the order of the keys -/
def le3 (x y : Rw) : Bool := if x.1 = y.1 then decide (x.2.1 ≤ y.2.1) else leS x.1 y.1
theorem tupD_k2 (r : Rw) : tupD (k2 r) = .tuple [.str r.1, .int r.2.1] := rfl
theorem dataLe_k2 (x y : Rw) : PySem.W.dataLe false (fun z : Rw => tupD (k2 z)) x y = le3 x y := by
  rw [PySem.W.dataLe_eq]
  show (!PySem.W.dataLt (tupD (k2 y)) (tupD (k2 x))) = _
  rw [tupD_k2, tupD_k2, PySem.W.dataLt_pair (x := .str y.1) (x' := .str x.1) (y := .int y.2.1) (y' := .int x.2.1) rfl rfl]
  unfold le3
  by_cases e : x.1 = y.1
  · rw [if_pos e, e]
    have h1 : PyData.eqv (.str y.1) (.str y.1) = true := by simp [PyData.eqv]
    rw [if_pos h1, PySem.W.dataLt_int]
    by_cases d : y.2.1 = x.2.1
    · have h2 : PyData.eqv (.int y.2.1) (.int x.2.1) = true := by simp [PyData.eqv, d]
      rw [if_pos h2]
      simp [d]
    · have h2 : ¬ PyData.eqv (.int y.2.1) (.int x.2.1) = true := by simp [PyData.eqv, d]
      rw [if_neg h2]
      by_cases c : y.2.1 < x.2.1
      · have : ¬ x.2.1 ≤ y.2.1 := by omega
        simp [c, this]
      · have : x.2.1 ≤ y.2.1 := by omega
        simp [c, this]
  · rw [if_neg e]
    have h1 : ¬ PyData.eqv (.str y.1) (.str x.1) = true := by
      simp [PyData.eqv]
      exact fun z => e z.symm
    rw [if_neg h1, PySem.W.dataLt_str]
    exact PySem.W.not_lt_str _ _
theorem leS_anti {a b : Str} (h1 : leS a b = true) (h2 : leS b a = true) : a = b := by
  simp only [leS, decide_eq_true_eq] at h1 h2
  have := List.le_antisymm h1 h2
  cases a
  cases b
  simp only [Str.mk.injEq] at *
  exact Array.toList_inj.mp this
theorem le3_trans (a b c : Rw) (h1 : le3 a b = true) (h2 : le3 b c = true) : le3 a c = true := by
  unfold le3 at *
  by_cases e1 : a.1 = b.1
  · rw [if_pos e1] at h1
    by_cases e2 : b.1 = c.1
    · rw [if_pos e2] at h2
      rw [if_pos (e1.trans e2)]
      simp at *
      omega
    · rw [if_neg e2] at h2
      rw [e1, if_neg e2]
      exact h2
  · rw [if_neg e1] at h1
    by_cases e2 : b.1 = c.1
    · rw [← e2, if_neg e1]
      exact h1
    · rw [if_neg e2] at h2
      by_cases e3 : a.1 = c.1
      · exfalso
        rw [← e3] at h2
        exact e1 (leS_anti h1 h2)
      · rw [if_neg e3]
        exact leS_trans _ _ _ h1 h2
theorem le3_total (a b : Rw) : (le3 a b || le3 b a) = true := by
  unfold le3
  by_cases e : a.1 = b.1
  · rw [if_pos e, if_pos e.symm]
    simp
    omega
  · rw [if_neg e, if_neg fun z => e z.symm]
    exact leS_total _ _
/-- the keys, sorted -/
theorem sort_keys (rs : List Rw) (bs : List Addr) (hl : rs.length = bs.length) : ∃ L : List (Rw × Addr), sortZ (((rs.map kv2).zip bs).map fun x => (V.ref x.2, tupD x.1.1)) = L.map (fun x => V.ref x.2) ∧ L.Perm (rs.zip bs) ∧ (L.map (·.1)).Perm rs ∧ (L.map (·.1)).Pairwise fun a b => le3 a b = true := by
  refine ⟨(rs.zip bs).mergeSort fun x y => le3 x.1 y.1, ?_, List.mergeSort_perm _ _, ?_, ?_⟩
  · have h : ((rs.map kv2).zip bs).map (fun x => (V.ref x.2, tupD x.1.1)) = (rs.zip bs).map fun x => (V.ref x.2, tupD (k2 x.1)) := by
      rw [List.zip_map_left, List.map_map]
      rfl
    rw [h, sortZ]
    have h2 : ((rs.zip bs).map fun x => (V.ref x.2, tupD (k2 x.1))).mergeSort (PySem.W.dataLe false (·.2)) = ((rs.zip bs).mergeSort fun x y => le3 x.1 y.1).map fun x => (V.ref x.2, tupD (k2 x.1)) := by
      symm
      refine List.map_mergeSort fun a _ b _ => ?_
      exact (dataLe_k2 a.1 b.1).symm
    rw [h2, List.map_map]
    rfl
  · have := (List.mergeSort_perm (rs.zip bs) fun x y => le3 x.1 y.1).map (·.1)
    rw [List.map_fst_zip (Nat.le_of_eq hl)] at this
    exact this
  · rw [List.pairwise_map]
    exact List.pairwise_mergeSort (le := fun x y : Rw × Addr => le3 x.1 y.1) (fun a b c => le3_trans a.1 b.1 c.1) (fun a b => le3_total a.1 b.1) _
theorem alike_keys (rs : List Rw) : PySem.W.AllAlike ((rs.map kv2).map fun x => tupD x.1) := by
  rw [List.map_map]
  intro d hd e he
  obtain ⟨a, _, rfl⟩ := List.mem_map.mp hd
  obtain ⟨b, _, rfl⟩ := List.mem_map.mp he
  rfl
/-! ### what the program keeps -/
/-- the rows that change a stake, where `l` tells the last amount of each sort -/
def keeps : List Rw → (Str → Int) → List Rw
  | [], _ => []
  | r :: rs, l => if r.2.2 ≠ l r.1 then r :: keeps rs (fun s => if s = r.1 then r.2.2 else l s) else keeps rs (fun s => if s = r.1 then r.2.2 else l s)
def lastOf : List Rw → (Str → Int) → Str → Int
  | [], l => l
  | r :: rs, l => lastOf rs fun s => if s = r.1 then r.2.2 else l s
theorem keeps_snoc (r : Rw) : ∀ (rs : List Rw) (l : Str → Int), keeps (rs ++ [r]) l = keeps rs l ++ (if r.2.2 ≠ lastOf rs l r.1 then [r] else [])
  | [], l => by
    show (if r.2.2 ≠ l r.1 then [r] else []) = _
    rfl
  | x :: rs, l => by
    show (if x.2.2 ≠ l x.1 then x :: keeps (rs ++ [r]) _ else keeps (rs ++ [r]) _) = _
    rw [keeps_snoc r rs]
    simp only [keeps, lastOf]
    split <;> rfl
theorem lastOf_snoc (r : Rw) : ∀ (rs : List Rw) (l : Str → Int), lastOf (rs ++ [r]) l = fun s => if s = r.1 then r.2.2 else lastOf rs l s
  | [], l => rfl
  | x :: rs, l => lastOf_snoc r rs _
/-- days and amounts that change, of one sort -/
def chg : List (Int × Int) → Int → List (Int × Int)
  | [], _ => []
  | r :: rs, l => if r.2 ≠ l then r :: chg rs r.2 else chg rs r.2
def ofSort (s : Str) (rs : List Rw) : List (Int × Int) := (rs.filter fun r => decide (r.1 = s)).map (·.2)
theorem keeps_sort (s : Str) : ∀ (rs : List Rw) (l : Str → Int), ofSort s (keeps rs l) = chg (ofSort s rs) (l s)
  | [], l => rfl
  | r :: rs, l => by
    have ih := keeps_sort s rs fun t => if t = r.1 then r.2.2 else l t
    by_cases e : r.1 = s
    · have h1 : ofSort s (r :: rs) = r.2 :: ofSort s rs := by simp [ofSort, e]
      rw [h1]
      simp only [keeps, chg]
      rw [e]
      rw [e] at ih
      simp only [if_true] at ih
      by_cases c : r.2.2 ≠ l s
      · rw [if_pos c, if_pos c]
        have h2 : ∀ xs, ofSort s (r :: xs) = r.2 :: ofSort s xs := fun xs => by simp [ofSort, e]
        rw [h2, ih]
      · rw [if_neg c, if_neg c, ih]
    · have h1 : ∀ xs, ofSort s (r :: xs) = ofSort s xs := fun xs => by simp [ofSort, e]
      have e' : ¬ s = r.1 := fun z => e z.symm
      simp only [e', if_false] at ih
      rw [h1]
      simp only [keeps]
      split
      · rw [h1, ih]
      · exact ih
theorem keeps_sub : ∀ (rs : List Rw) (l : Str → Int), ∀ r ∈ keeps rs l, r ∈ rs
  | [], _, r, h => by cases h
  | x :: rs, l, r, h => by
    simp only [keeps] at h
    split at h
    · rcases List.mem_cons.mp h with rfl | h
      · simp
      · exact List.mem_cons_of_mem _ (keeps_sub rs _ r h)
    · exact List.mem_cons_of_mem _ (keeps_sub rs _ r h)
theorem keeps_len (rs : List Rw) (l : Str → Int) : (keeps rs l).length ≤ rs.length := by
  induction rs generalizing l with
  | nil => simp [keeps]
  | cons r rs ih =>
    simp only [keeps]
    split
    · simp only [List.length_cons]
      have := ih fun s => if s = r.1 then r.2.2 else l s
      omega
    · simp only [List.length_cons]
      have := ih fun s => if s = r.1 then r.2.2 else l s
      omega
/-! ### the stake on a day -/
/-- the last amount up to a day -/
def upTo (ds : List (Int × Int)) (d : Int) (a : Int) : Int := ds.foldl (fun a c => if c.1 ≤ d then c.2 else a) a
theorem upTo_none (d : Int) : ∀ (ds : List (Int × Int)) (a : Int), (∀ c ∈ ds, d < c.1) → upTo ds d a = a
  | [], _, _ => rfl
  | c :: ds, a, h => by
    have := h c (by simp)
    show upTo ds d (if c.1 ≤ d then c.2 else a) = a
    rw [if_neg (by omega)]
    exact upTo_none d ds a fun c hc => h c (by simp [hc])
theorem chg_sub : ∀ (ds : List (Int × Int)) (a : Int), ∀ c ∈ chg ds a, c ∈ ds
  | [], _, c, h => by cases h
  | x :: ds, a, c, h => by
    simp only [chg] at h
    split at h
    · rcases List.mem_cons.mp h with rfl | h
      · simp
      · exact List.mem_cons_of_mem _ (chg_sub ds _ c h)
    · exact List.mem_cons_of_mem _ (chg_sub ds _ c h)
theorem upTo_chg (d : Int) : ∀ (ds : List (Int × Int)) (a : Int), ds.Pairwise (fun x y => x.1 < y.1) → upTo (chg ds a) d a = upTo ds d a
  | [], _, _ => rfl
  | c :: ds, a, h => by
    obtain ⟨h1, h2⟩ := List.pairwise_cons.mp h
    by_cases e : c.1 ≤ d
    · have r : upTo (c :: ds) d a = upTo ds d c.2 := by
        show upTo ds d (if c.1 ≤ d then c.2 else a) = _
        rw [if_pos e]
      rw [r]
      simp only [chg]
      by_cases z : c.2 ≠ a
      · rw [if_pos z]
        show upTo (chg ds c.2) d (if c.1 ≤ d then c.2 else a) = _
        rw [if_pos e]
        exact upTo_chg d ds c.2 h2
      · rw [if_neg z]
        have : a = c.2 := by
          by_cases y : c.2 = a
          · exact y.symm
          · exact absurd y z
        rw [this]
        exact upTo_chg d ds c.2 h2
    · have later : ∀ x ∈ c :: ds, d < x.1 := fun x hx => by
        rcases List.mem_cons.mp hx with rfl | hx
        · omega
        · have := h1 x hx
          omega
      rw [upTo_none d _ a later]
      exact upTo_none d _ a fun x hx => later x (chg_sub (c :: ds) a x hx)
/-- the stake by own rows -/
def IsStake (rs : List Rw) (s : Str) (d v : Int) : Prop :=
  (∃ r ∈ rs, r.1 = s ∧ r.2.1 ≤ d ∧ v = r.2.2 ∧ ∀ x ∈ rs, x.1 = s → x.2.1 ≤ d → x.2.1 ≤ r.2.1) ∨ ((∀ x ∈ rs, x.1 = s → d < x.2.1) ∧ v = 0)
theorem same_row {rs : List Rw} (dis : rs.Pairwise fun a b => ¬ (a.1 = b.1 ∧ a.2.1 = b.2.1)) {a b : Rw} (ha : a ∈ rs) (hb : b ∈ rs) (h : a.1 = b.1 ∧ a.2.1 = b.2.1) : a = b := by
  induction rs with
  | nil => cases ha
  | cons x rs ih =>
    obtain ⟨h1, h2⟩ := List.pairwise_cons.mp dis
    rcases List.mem_cons.mp ha with e1 | ha1
    · rcases List.mem_cons.mp hb with e2 | hb1
      · rw [e1, e2]
      · rw [e1] at h
        exact absurd h (h1 b hb1)
    · rcases List.mem_cons.mp hb with e2 | hb1
      · rw [e2] at h
        exact absurd ⟨h.1.symm, h.2.symm⟩ (h1 a ha1)
      · exact ih h2 ha1 hb1
theorem IsStake.one {rs : List Rw} (dis : rs.Pairwise fun a b => ¬ (a.1 = b.1 ∧ a.2.1 = b.2.1)) {s : Str} {d v w : Int} (h1 : IsStake rs s d v) (h2 : IsStake rs s d w) : v = w := by
  rcases h1 with ⟨r, hr, e1, e2, rfl, m1⟩ | ⟨n1, rfl⟩
  · rcases h2 with ⟨x, hx, f1, f2, rfl, m2⟩ | ⟨n2, _⟩
    · have := m1 x hx f1 f2
      have := m2 r hr e1 e2
      rw [same_row dis hr hx ⟨e1.trans f1.symm, by omega⟩]
    · have := n2 r hr e1
      omega
  · rcases h2 with ⟨x, hx, f1, f2, _⟩ | ⟨_, rfl⟩
    · have := n1 x hx f1
      omega
    · rfl
theorem mem_ofSort {s : Str} {rs : List Rw} {p : Int × Int} : p ∈ ofSort s rs ↔ (s, p.1, p.2) ∈ rs := by
  unfold ofSort
  rw [List.mem_map]
  constructor
  · rintro ⟨r, hr, rfl⟩
    obtain ⟨h1, h2⟩ := List.mem_filter.mp hr
    have : r.1 = s := by simpa using h2
    subst this
    exact h1
  · intro h
    exact ⟨(s, p.1, p.2), List.mem_filter.mpr ⟨h, by simp⟩, rfl⟩
/-- sorted rows of one sort rise by their days -/
theorem sort_rise {ss : List Rw} (le : ss.Pairwise fun a b => le3 a b = true) (dis : ss.Pairwise fun a b => ¬ (a.1 = b.1 ∧ a.2.1 = b.2.1)) (s : Str) : (ofSort s ss).Pairwise fun x y => x.1 < y.1 := by
  unfold ofSort
  rw [List.pairwise_map]
  refine List.Pairwise.imp_of_mem (fun {a b} ha hb h => ?_) ((le.and dis).filter _)
  have e1 : a.1 = s := by simpa using (List.mem_filter.mp ha).2
  have e2 : b.1 = s := by simpa using (List.mem_filter.mp hb).2
  obtain ⟨h1, h2⟩ := h
  unfold le3 at h1
  rw [if_pos (e1.trans e2.symm)] at h1
  have h3 : a.2.1 ≤ b.2.1 := by simpa using h1
  have h4 : a.2.1 ≠ b.2.1 := fun z => h2 ⟨e1.trans e2.symm, z⟩
  omega
theorem upTo_is {rs : List Rw} {s : Str} {d : Int} (v : Int) : ∀ {ds : List (Int × Int)} (a : Int), ds.Pairwise (fun x y => x.1 < y.1) → ((∃ r ∈ ds, r.1 ≤ d ∧ upTo ds d a = r.2 ∧ ∀ x ∈ ds, x.1 ≤ d → x.1 ≤ r.1) ∨ ((∀ x ∈ ds, d < x.1) ∧ upTo ds d a = a))
  | [], a, _ => .inr ⟨by simp, rfl⟩
  | c :: ds, a, h => by
    obtain ⟨h1, h2⟩ := List.pairwise_cons.mp h
    by_cases e : c.1 ≤ d
    · have r : upTo (c :: ds) d a = upTo ds d c.2 := by
        show upTo ds d (if c.1 ≤ d then c.2 else a) = _
        rw [if_pos e]
      rcases upTo_is (rs := rs) (s := s) v (ds := ds) c.2 h2 with ⟨x, hx, y1, y2, y3⟩ | ⟨y1, y2⟩
      · refine .inl ⟨x, by simp [hx], y1, r.trans y2, fun z hz hz2 => ?_⟩
        rcases List.mem_cons.mp hz with rfl | hz
        · have := h1 x hx
          omega
        · exact y3 z hz hz2
      · refine .inl ⟨c, by simp, e, r.trans y2, fun z hz hz2 => ?_⟩
        rcases List.mem_cons.mp hz with rfl | hz
        · exact Int.le_refl _
        · have := y1 z hz
          omega
    · have later : ∀ x ∈ c :: ds, d < x.1 := fun x hx => by
        rcases List.mem_cons.mp hx with rfl | hx
        · omega
        · have := h1 x hx
          omega
      exact .inr ⟨later, upTo_none d _ a later⟩
/-- the program's stake is the stake by own rows -/
theorem stake_is {rs ss : List Rw} (pm : ss.Perm rs) (le : ss.Pairwise fun a b => le3 a b = true) (dis : ss.Pairwise fun a b => ¬ (a.1 = b.1 ∧ a.2.1 = b.2.1)) (s : Str) (d : Int) : IsStake rs s d (upTo (ofSort s (keeps ss fun _ => 0)) d 0) := by
  have rise := sort_rise le dis s
  rw [keeps_sort, upTo_chg d _ 0 rise]
  rcases upTo_is (rs := rs) (s := s) (d := d) 0 0 rise with ⟨x, hx, y1, y2, y3⟩ | ⟨y1, y2⟩
  · refine .inl ⟨(s, x.1, x.2), pm.mem_iff.mp (mem_ofSort.mp hx), rfl, y1, y2, fun z hz hs hd => ?_⟩
    have : (z.2.1, z.2.2) ∈ ofSort s ss := mem_ofSort.mpr (by
      rw [← hs]
      exact pm.mem_iff.mpr hz)
    exact y3 _ this hd
  · refine .inr ⟨fun z hz hs => ?_, y2⟩
    have : (z.2.1, z.2.2) ∈ ofSort s ss := mem_ofSort.mpr (by
      rw [← hs]
      exact pm.mem_iff.mpr hz)
    exact y1 _ this
end Sk
end

section
/-! texts, lists of texts -/
namespace Sk
open PySem L2
theorem u65 {k : Nat} {A : Around} (hr : Room k A) : A.units + 65 < cLine := by have := hr.un; omega
section
variable {X : Cx} {K : PySem.W.Frag}
theorem op_inDK (h : X.K = K) (hu : X.A.units + 65 < cLine) : OpR X (compareOp .In) (rInD K) := by subst h; exact op_inD hu
theorem op_notInDK (h : X.K = K) (hu : X.A.units + 65 < cLine) : OpR X (compareOp .NotIn) (rNotInD K) := by subst h; exact op_notInD hu
end
/-- the letters, as the text names them -/
def lets : Str := Str.ofString "abcdefghijklmnopqrstuvwxyz"
theorem lets_len : lets.cps.toList.length = 26 := by decide +kernel
theorem lets_at {i : Nat} (h : i < 26) : lets.cps.toList[i]? = some (97 + i) := by
  have : ∀ i : Fin 26, lets.cps.toList[i.val]? = some (97 + i.val) := by decide +kernel
  exact this ⟨i, h⟩
theorem app_cps (a b : Str) : (a ++ b).cps.toList = a.cps.toList ++ b.cps.toList := by
  show (a.cps ++ b.cps).toList = _
  rw [Array.toList_append]
theorem app_len (a b : Str) : (a ++ b).length = a.length + b.length := by
  have h := congrArg List.length (app_cps a b)
  simpa [Str.length] using h
theorem len_cps (a : Str) : a.length = a.cps.toList.length := by simp [Str.length]
/-- small letters alone -/
def Lets (z : Str) : Prop := ∀ c ∈ z.cps.toList, 97 ≤ c ∧ c ≤ 122
theorem Lets.app {a b : Str} (h : Lets a) (h' : Lets b) : Lets (a ++ b) := fun c hc => by
  rw [app_cps] at hc
  exact (List.mem_append.mp hc).elim (h c) (h' c)
theorem Lets.one {c : Nat} (h : 97 ≤ c ∧ c ≤ 122) : Lets ⟨#[c]⟩ := fun d hd => by
  simp at hd
  subst hd
  exact h
theorem cut4_cps (z : Str) : (cutS z none (some 4)).cps.toList = z.cps.toList.take 4 := by
  unfold cutS
  show ((z.cps.toList.drop 0).take (HT.sIx z.length z.length (some 4) - 0)) = _
  have : HT.sIx z.length z.length (some 4) = min 4 z.length := HT.sIx_nat z.length z.length 4
  rw [this]
  simp [Str.length, List.take_eq_take_iff]
section
variable {K : PySem.W.Frag} {σ : St} {H : Hp} {Q : VK}
theorem rd_let {i : Int} (h0 : 0 ≤ i) (h1 : i < 26) (k : Q (.str ⟨#[97 + i.toNat]⟩) H) : rIxS (.str lets) (.int i) H Q := by
  obtain ⟨j, rfl⟩ : ∃ j : Nat, i = j := ⟨i.toNat, by omega⟩
  exact ⟨lets, _, _, rfl, rfl, by decide +kernel, atI_nat (lets_at (by omega)), k⟩
theorem rd_addS {a b : Str} {R : Str → Str → Prop} (h : a.length + b.length ≤ 1000) (k : R a b) : ∃ i j, V.str a = .str i ∧ V.str b = .str j ∧ i.length + j.length ≤ sizeLine ∧ R i j := ⟨a, b, rfl, rfl, Nat.le_trans h (by decide), k⟩
theorem dp_strs : ∀ ys : List Str, DpAll K H (ys.map V.str) (ys.map PyData.str)
  | [] => .nil
  | y :: ys => .cons (.str y) (dp_strs ys)
theorem ok_lets {z : Str} (h : Lets z) : PyData.strOk z = true := by
  unfold PyData.strOk
  rw [← Array.all_toList, List.all_eq_true]
  intro c hc
  have := h c hc
  simp
  omega
theorem lay_strs : ∀ ys : List Str, (∀ y ∈ ys, Lets y) → PyData.canLayAll0 (ys.map PyData.str) = true
  | [], _ => rfl
  | y :: ys, h => by simp [PyData.canLayAll0, PyData.canLay0, lay_strs ys fun y hy => h y (by simp [hy]), ok_lets (h y (by simp))]
theorem deep_strs : ∀ ys : List Str, PyData.depthAll (ys.map PyData.str) = 0
  | [] => rfl
  | y :: ys => by simp [PyData.depthAll, PyData.depth, deep_strs ys]
theorem shaped_strs (ys : List Str) (h : ∀ y ∈ ys, Lets y) : SeqAt.shaped (.list (ys.map PyData.str)) = true := by simp [SeqAt.shaped, PyData.canLay0, lay_strs ys h, PyData.depth, deep_strs]
theorem shaped_str {z : Str} (h : Lets z) : SeqAt.shaped (.str z) = true := by simp [SeqAt.shaped, PyData.canLay0, ok_lets h, PyData.depth]
theorem any_strs (z : Str) (ys : List Str) : ((ys.map PyData.str).any fun d => PyData.eqv d (.str z)) = decide (z ∈ ys) := by
  rw [List.any_map]
  by_cases h : z ∈ ys
  · rw [decide_eq_true h]
    exact List.any_eq_true.mpr ⟨z, h, by simp [PyData.eqv]⟩
  · rw [decide_eq_false h]
    refine List.any_eq_false.mpr fun y hy => ?_
    have : ¬ y = z := fun e => h (e ▸ hy)
    simp [PyData.eqv, this]
theorem rd_ninS {l : Addr} {z : Str} {ys : List Str} (h : H l = some (.lst (ys.map V.str))) (hz : Lets z) (hy : ∀ y ∈ ys, Lets y) (k : Q (.bl (!decide (z ∈ ys))) H) : rNotInD K (.str z) (.ref l) H Q :=
  ⟨.str z, ys.map PyData.str, .str z, .lst (SqL.of h) (dp_strs ys), shaped_str hz, shaped_strs ys hy, by rw [any_strs]; exact k⟩
end
theorem pigeon {α : Type} [DecidableEq α] : ∀ {ws ys : List α}, ws.Nodup → (∀ w ∈ ws, w ∈ ys) → ws.length ≤ ys.length
  | [], _, _, _ => Nat.zero_le _
  | w :: ws, ys, nd, h => by
    have hw := h w List.mem_cons_self
    have p := (List.perm_cons_erase hw).length_eq
    have := pigeon (ws := ws) (ys := ys.erase w) (List.nodup_cons.mp nd).2 fun x hx => by
      have : x ≠ w := fun z => (List.nodup_cons.mp nd).1 (z ▸ hx)
      exact (List.mem_erase_of_ne this).mpr (h x (List.mem_cons_of_mem _ hx))
    simp only [List.length_cons] at *
    omega
theorem pigeon_out {α : Type} [DecidableEq α] {ws ys : List α} (nd : ws.Nodup) (h : ys.length < ws.length) : ∃ w ∈ ws, w ∉ ys := by
  refine Classical.byContradiction fun z => ?_
  have : ∀ w ∈ ws, w ∈ ys := fun w hw => Classical.byContradiction fun y => z ⟨w, hw, y⟩
  have := pigeon nd this
  omega
/-- the k-th spare word -/
def spareW (z : Str) (k : Nat) : Str := ⟨#[97 + k / 26]⟩ ++ ⟨#[97 + k % 26]⟩ ++ cutS z none (some 4)
theorem spare_name {z : Str} (h : Lets z) {k : Nat} (hk : k < 26) : IsName (spareW z k) := by
  have l1 : (cutS z none (some 4)).length ≤ 4 := by
    rw [len_cps, cut4_cps]
    simp
    omega
  have l2 : (spareW z k).length = 1 + 1 + (cutS z none (some 4)).length := by
    unfold spareW
    rw [app_len, app_len]
    rfl
  have hc : Lets (cutS z none (some 4)) := fun c hc => by
    rw [cut4_cps] at hc
    exact h c (List.mem_of_mem_take hc)
  refine ⟨by omega, ?_⟩
  exact ((Lets.one ⟨by omega, by omega⟩).app (Lets.one ⟨by omega, by omega⟩)).app hc
theorem spare_inj {z : Str} {j k : Nat} (hj : j < 26) (hk : k < 26) (h : spareW z j = spareW z k) : j = k := by
  have e := congrArg (fun s : Str => s.cps.toList[1]?) h
  simp only [spareW, app_cps] at e
  simp at e
  omega
theorem spare_nodup (z : Str) {n : Nat} (h : n ≤ 26) : ((List.range n).map (spareW z)).Nodup := by
  unfold List.Nodup
  rw [List.pairwise_map]
  refine List.Pairwise.imp_of_mem (fun {a b} ha hb ne e => ?_) (List.nodup_range (n := n))
  have h1 := List.mem_range.mp ha
  have h2 := List.mem_range.mp hb
  exact ne (spare_inj (by omega) (by omega) e)
end Sk
end

section
/-! rows as data; what the law tells of changes -/
namespace Sk
open PySem L2
theorem sl_tupK {X : Cx} {K : PySem.W.Frag} (h : X.K = K) : SlR X (rSlT K) := by subst h; exact sl_tup
def kp2 (p : Int × Int) : List Key := [.inl p.1, .inl p.2]
/-- what the program keeps of rows -/
def Kept0 (rs cs : List Rw) : Prop := ∃ ss : List Rw, ss.Perm rs ∧ (ss.Pairwise fun a b => le3 a b = true) ∧ cs = keeps ss fun _ => 0
def KeyOk : Key → Prop
  | .inl _ => True
  | .inr z => Lets z
theorem lay_key : ∀ {k : Key}, KeyOk k → (keyD k).canLay0 = true
  | .inl i, _ => by simp [keyD, PyData.canLay0]
  | .inr z, h => by simp [keyD, PyData.canLay0, ok_lets (z := z) h]
theorem lay_keys : ∀ {ks : List Key}, (∀ k ∈ ks, KeyOk k) → PyData.canLayAll0 (ks.map keyD) = true
  | [], _ => rfl
  | k :: ks, h => by
    have h1 := lay_key (h k (by simp))
    have h2 := lay_keys (ks := ks) fun k hk => h k (by simp [hk])
    simp only [List.map_cons, PyData.canLayAll0, h1, h2, Bool.and_self]
theorem lay_tups : ∀ {kss : List (List Key)}, (∀ ks ∈ kss, ∀ k ∈ ks, KeyOk k) → PyData.canLayAll0 (kss.map tupD) = true
  | [], _ => rfl
  | ks :: kss, h => by
    have h1 := lay_keys (h ks (by simp))
    have h2 := lay_tups (kss := kss) fun ks hk => h ks (by simp [hk])
    simp only [List.map_cons, PyData.canLayAll0, tupD, PyData.canLay0, h1, h2, Bool.and_self]
theorem deep_tups : ∀ kss : List (List Key), PyData.depthAll (kss.map tupD) ≤ 1
  | [] => by simp [PyData.depthAll]
  | ks :: kss => by
    have := deep_tups kss
    simp only [List.map_cons, PyData.depthAll, tupD, PyData.depth, deep_keys]
    omega
theorem shaped_tup {ks : List Key} (h : ∀ k ∈ ks, KeyOk k) : SeqAt.shaped (tupD ks) = true := by
  simp [SeqAt.shaped, tupD, PyData.canLay0, lay_keys h, PyData.depth, deep_keys]
theorem shaped_lt {kss : List (List Key)} (h : ∀ ks ∈ kss, ∀ k ∈ ks, KeyOk k) : SeqAt.shaped (.list (kss.map tupD)) = true := by
  have := deep_tups kss
  simp [SeqAt.shaped, PyData.canLay0, lay_tups h, PyData.depth]
  omega
theorem shaped_tt {kss : List (List Key)} (h : ∀ ks ∈ kss, ∀ k ∈ ks, KeyOk k) : SeqAt.shaped (.tuple (kss.map tupD)) = true := by
  have := deep_tups kss
  simp [SeqAt.shaped, PyData.canLay0, lay_tups h, PyData.depth]
  omega
section
variable {K : PySem.W.Frag} {H : Hp} {Q : VK}
theorem dp_rowsK : ∀ {us : List V} {kss : List (List Key)}, RowsK H us kss → DpAll K H us (kss.map tupD)
  | [], [], _ => .nil
  | _ :: _, ks :: _, ⟨⟨t, e, h⟩, b⟩ => by
    subst e
    exact .cons (.tup (SqT.of h) (dp_keys ks)) (dp_rowsK b)
  | [], _ :: _, h => h.elim
  | _ :: _, [], h => h.elim
theorem eqv_k2 (a b : Rw) : PyData.eqv (tupD (k2 a)) (tupD (k2 b)) = decide (a.1 = b.1 ∧ a.2.1 = b.2.1) := by
  rw [tupD_k2, tupD_k2]
  by_cases h : a.1 = b.1
  · by_cases h2 : a.2.1 = b.2.1
    · simp [PyData.eqv, PyData.eqvAll, h, h2]
    · simp [PyData.eqv, PyData.eqvAll, h, h2]
  · simp [PyData.eqv, PyData.eqvAll, h]
theorem rd_ninRow {q D : Addr} {us : List V} {rs : List Rw} {r : Rw} (hq : H q = some (.tup [.str r.1, .int r.2.1])) (hD : H D = some (.lst us)) (hR : RowsK H us (rs.map k2)) (hr : Lets r.1) (hrs : ∀ x ∈ rs, Lets x.1)
    (k : Q (.bl (!decide (∃ x ∈ rs, x.1 = r.1 ∧ x.2.1 = r.2.1))) H) : rNotInD K (.ref q) (.ref D) H Q := by
  refine ⟨tupD (k2 r), (rs.map k2).map tupD, .tup (SqT.of hq) (dp_keys (k2 r)), .lst (SqL.of hD) (dp_rowsK hR), shaped_tup fun k hk => ?_, shaped_lt fun ks hks k hk => ?_, ?_⟩
  · simp [k2] at hk
    rcases hk with rfl | rfl
    · exact hr
    · trivial
  · obtain ⟨x, hx, rfl⟩ := List.mem_map.mp hks
    simp [k2] at hk
    rcases hk with rfl | rfl
    · exact hrs x hx
    · trivial
  · have : (((rs.map k2).map tupD).any fun z => PyData.eqv z (tupD (k2 r))) = decide (∃ x ∈ rs, x.1 = r.1 ∧ x.2.1 = r.2.1) := by
      rw [List.map_map, List.any_map]
      by_cases h : ∃ x ∈ rs, x.1 = r.1 ∧ x.2.1 = r.2.1
      · rw [decide_eq_true h]
        obtain ⟨x, hx, e⟩ := h
        exact List.any_eq_true.mpr ⟨x, hx, by simp [eqv_k2, e]⟩
      · rw [decide_eq_false h]
        refine List.any_eq_false.mpr fun x hx => ?_
        have : ¬ (x.1 = r.1 ∧ x.2.1 = r.2.1) := fun e => h ⟨x, hx, e⟩
        simp [eqv_k2, this]
    rw [this]
    exact k
theorem ints_ok {ps : List (Int × Int)} : ∀ ks ∈ ps.map kp2, ∀ k ∈ ks, KeyOk k := fun ks hks k hk => by
  obtain ⟨x, hx, rfl⟩ := List.mem_map.mp hks
  simp [kp2] at hk
  rcases hk with rfl | rfl <;> trivial
/-- a list of pairs is not [] -/
theorem rd_neNil {a e : Addr} {us : List V} {ps : List (Int × Int)} (ha : H a = some (.lst us)) (hR : RowsK H us (ps.map kp2)) (he : H e = some (.lst [])) (k : Q (.bl (decide (ps ≠ []))) H) : rNeD K (.ref a) (.ref e) H Q := by
  refine ⟨.list ((ps.map kp2).map tupD), .list [], .lst (SqL.of ha) (dp_rowsK hR), .lst (SqL.of he) .nil, shaped_lt ints_ok, rfl, ?_⟩
  have : (!PyData.eqv (.list ((ps.map kp2).map tupD)) (.list [])) = decide (ps ≠ []) := by
    cases ps with
    | nil => simp [PyData.eqv, PyData.eqvAll]
    | cons p ps => simp [PyData.eqv, PyData.eqvAll]
  rw [this]
  exact k
/-- a tuple of pairs is not () -/
theorem rd_neNilT {a e : Addr} {us : List V} {ps : List (Int × Int)} (ha : H a = some (.tup us)) (hR : RowsK H us (ps.map kp2)) (he : H e = some (.tup [])) (k : Q (.bl (decide (ps ≠ []))) H) : rNeD K (.ref a) (.ref e) H Q := by
  refine ⟨.tuple ((ps.map kp2).map tupD), .tuple [], .tup (SqT.of ha) (dp_rowsK hR), .tup (SqT.of he) .nil, shaped_tt ints_ok, rfl, ?_⟩
  have : (!PyData.eqv (.tuple ((ps.map kp2).map tupD)) (.tuple [])) = decide (ps ≠ []) := by
    cases ps with
    | nil => simp [PyData.eqv, PyData.eqvAll]
    | cons p ps => simp [PyData.eqv, PyData.eqvAll]
  rw [this]
  exact k
end
/-! ### the law's changes are the program's -/
def LChg (rs : List Rw) (z : Str) (lc : List (Int × Int)) : Prop :=
  ∃ ps : List (Int × Int), (ps.Pairwise fun x y => x.1 < y.1) ∧ (∀ d, (∃ p ∈ ps, p.1 = d) ↔ ∃ r ∈ rs, r.1 = z ∧ r.2.1 = d) ∧ (∀ p ∈ ps, IsStake rs z p.1 p.2) ∧ lc = chg ps 0
theorem rise_ext : ∀ {a b : List (Int × Int)}, (a.Pairwise fun x y => x.1 < y.1) → (b.Pairwise fun x y => x.1 < y.1) → (∀ p, p ∈ a ↔ p ∈ b) → a = b
  | [], [], _, _, _ => rfl
  | [], y :: b, _, _, h => absurd ((h y).mpr (by simp)) (by simp)
  | x :: a, [], _, _, h => absurd ((h x).mp (by simp)) (by simp)
  | x :: a, y :: b, ha, hb, h => by
    obtain ⟨a1, a2⟩ := List.pairwise_cons.mp ha
    obtain ⟨b1, b2⟩ := List.pairwise_cons.mp hb
    have e : x = y := by
      rcases List.mem_cons.mp ((h x).mp (by simp)) with e | hx
      · exact e
      · rcases List.mem_cons.mp ((h y).mpr (by simp)) with e | hy
        · exact e.symm
        · have h1 := b1 x hx
          have h2 := a1 y hy
          omega
    subst e
    congr 1
    refine rise_ext a2 b2 fun p => ?_
    constructor
    · intro hp
      rcases List.mem_cons.mp ((h p).mp (by simp [hp])) with e | hx
      · subst e
        have := a1 p hp
        omega
      · exact hx
    · intro hp
      rcases List.mem_cons.mp ((h p).mpr (by simp [hp])) with e | hx
      · subst e
        have := b1 p hp
        omega
      · exact hx
theorem self_stake {rs : List Rw} {r : Rw} (hr : r ∈ rs) : IsStake rs r.1 r.2.1 r.2.2 := .inl ⟨r, hr, rfl, Int.le_refl _, rfl, fun _ _ _ h => h⟩
theorem dis_perm {rs ss : List Rw} (pm : ss.Perm rs) (dis : rs.Pairwise fun a b => ¬ (a.1 = b.1 ∧ a.2.1 = b.2.1)) : ss.Pairwise fun a b => ¬ (a.1 = b.1 ∧ a.2.1 = b.2.1) :=
  (List.Perm.pairwise_iff (fun {a b} h z => h ⟨z.1.symm, z.2.symm⟩) pm).mpr dis
theorem chg_same {rs cs : List Rw} (dis : rs.Pairwise fun a b => ¬ (a.1 = b.1 ∧ a.2.1 = b.2.1)) {z : Str} {lc : List (Int × Int)} (h : LChg rs z lc) (kp : Kept0 rs cs) : lc = ofSort z cs := by
  obtain ⟨ps, p1, p2, p3, rfl⟩ := h
  obtain ⟨ss, pm, le, rfl⟩ := kp
  have ds := dis_perm pm dis
  rw [keeps_sort]
  congr 1
  refine rise_ext p1 (sort_rise le ds z) fun p => ?_
  rw [mem_ofSort, pm.mem_iff]
  constructor
  · intro hp
    obtain ⟨r, hr, e1, e2⟩ := (p2 p.1).mp ⟨p, hp, rfl⟩
    have h1 := p3 p hp
    have h2 := self_stake hr
    rw [e1, e2] at h2
    have e3 := IsStake.one dis h1 h2
    rw [← e1, ← e2, e3]
    exact hr
  · intro hp
    obtain ⟨q, hq, e⟩ := (p2 p.1).mpr ⟨_, hp, rfl, rfl⟩
    have h1 := p3 q hq
    have h2 := self_stake hp
    rw [e] at h1
    have e3 := IsStake.one dis h1 h2
    have : q = p := Prod.ext e e3
    rw [← this]
    exact hq
theorem stake_same {rs cs : List Rw} (dis : rs.Pairwise fun a b => ¬ (a.1 = b.1 ∧ a.2.1 = b.2.1)) {z : Str} {d v : Int} (h : IsStake rs z d v) (kp : Kept0 rs cs) : v = upTo (ofSort z cs) d 0 := by
  obtain ⟨ss, pm, le, rfl⟩ := kp
  exact IsStake.one dis h (stake_is pm le (dis_perm pm dis) z d)
theorem has_sort {cs : List Rw} {z : Str} : ofSort z cs ≠ [] ↔ ∃ r ∈ cs, r.1 = z := by
  constructor
  · intro h
    obtain ⟨p, hp⟩ := List.exists_mem_of_ne_nil _ h
    exact ⟨_, mem_ofSort.mp hp, rfl⟩
  · rintro ⟨r, hr, rfl⟩ e
    have : (r.2.1, r.2.2) ∈ ofSort r.1 cs := mem_ofSort.mpr hr
    rw [e] at this
    cases this
theorem kept_sub {rs cs : List Rw} (kp : Kept0 rs cs) : ∀ r ∈ cs, r ∈ rs := by
  obtain ⟨ss, pm, le, rfl⟩ := kp
  exact fun r hr => pm.mem_iff.mp (keeps_sub ss _ r hr)
theorem strs_ext : ∀ {a b : List Str}, a.Nodup → b.Nodup → (a.Pairwise fun x y => leS x y = true) → (b.Pairwise fun x y => leS x y = true) → (∀ p, p ∈ a ↔ p ∈ b) → a = b
  | [], [], _, _, _, _, _ => rfl
  | [], y :: b, _, _, _, _, h => absurd ((h y).mpr (by simp)) (by simp)
  | x :: a, [], _, _, _, _, h => absurd ((h x).mp (by simp)) (by simp)
  | x :: a, y :: b, na, nb, ha, hb, h => by
    obtain ⟨a1, a2⟩ := List.pairwise_cons.mp ha
    obtain ⟨b1, b2⟩ := List.pairwise_cons.mp hb
    obtain ⟨n1, n2⟩ := List.nodup_cons.mp na
    obtain ⟨m1, m2⟩ := List.nodup_cons.mp nb
    have e : x = y := by
      rcases List.mem_cons.mp ((h x).mp (by simp)) with e | hx
      · exact e
      · rcases List.mem_cons.mp ((h y).mpr (by simp)) with e | hy
        · exact e.symm
        · exact leS_anti (a1 y hy) (b1 x hx)
    subst e
    congr 1
    refine strs_ext n2 m2 a2 b2 fun p => ?_
    constructor
    · intro hp
      rcases List.mem_cons.mp ((h p).mp (by simp [hp])) with e | hx
      · subst e
        exact absurd hp n1
      · exact hx
    · intro hp
      rcases List.mem_cons.mp ((h p).mpr (by simp [hp])) with e | hx
      · subst e
        exact absurd hp m1
      · exact hx
end Sk
end

section
/-! how long the repr of rows is; repr of rows -/
namespace Sk
open PySem L2
/-- a number of at most twelve figures, a text of at most six small letters -/
def BKey : Key → Prop
  | .inl i => i.natAbs < 10 ^ 12
  | .inr z => Lets z ∧ z.length ≤ 6
theorem BKey.ok : ∀ {k : Key}, BKey k → KeyOk k
  | .inl _, _ => trivial
  | .inr _, h => h.1
theorem shown_key : ∀ {k : Key}, BKey k → (keyD k).shown.length ≤ 70
  | .inl i, h => by
    show (Str.ofString (toString i)).length ≤ 70
    have e := int_text_length_le10 (a := i) (k := 12) (by decide) h
    rw [ofString_length]
    omega
  | .inr z, h => by
    show (reprText z).length ≤ 70
    have e := PySem.StrLaws.reprText_len z fun c hc => by have := h.1 c hc; omega
    have := h.2
    omega
theorem showable_key : ∀ {k : Key}, BKey k → (keyD k).showable = true
  | .inl i, h => by
    show decide (i.natAbs.log2 < 1920) = true
    refine decide_eq_true ?_
    have h1 : i.natAbs < 2 ^ 1920 := Nat.lt_of_lt_of_le (show i.natAbs < 10 ^ 12 from h) (Nat.le_trans (show 10 ^ 12 ≤ 2 ^ 40 by decide) (Nat.pow_le_pow_right (by decide) (by decide)))
    by_cases z : i.natAbs = 0
    · rw [z]
      decide
    · exact (Nat.log2_lt z).mpr h1
  | .inr z, h => rfl
theorem piled_le {c : Nat} : ∀ {ts : List Str}, (∀ t ∈ ts, t.length ≤ c) → piled ts ≤ (c + 2) * ts.length
  | [], _ => by simp [piled]
  | t :: ts, h => by
    have h1 := h t (by simp)
    have h2 := piled_le (c := c) (ts := ts) fun t ht => h t (by simp [ht])
    have e : piled (t :: ts) = t.length + 2 + piled ts := by simp [piled]
    rw [e, List.length_cons, Nat.mul_add, Nat.mul_one]
    omega
theorem tupleText_le {c : Nat} {ts : List Str} (h : ∀ t ∈ ts, t.length ≤ c) : (tupleText ts).length ≤ 3 + (c + 2) * ts.length := by
  unfold tupleText
  rw [strLen_append, strLen_append]
  have e1 : ((("(" : String) : Str)).length = 1 := rfl
  have e3 : (((if ts.length == 1 then ",)" else ")" : String) : Str)).length ≤ 2 := by split <;> decide
  rw [e1]
  have h2 := piled_le h
  by_cases z : ts = []
  · subst z
    have : (Str.join ", " ([] : List Str)).length = 0 := rfl
    omega
  · have := join_length_add ts z
    omega
theorem textFrom_le : ∀ (ts : List Str) (k : Nat) (acc : Str), (textFrom k acc ts).length ≤ acc.length + piled ts
  | [], _, acc => Nat.le_add_right _ _
  | t :: r, k, acc => by
    have h := textFrom_le r (k + 1) (acc ++ (if k > 0 then ", " else "" : String) ++ t)
    have e : (acc ++ (if k > 0 then ", " else "" : String) ++ t).length = acc.length + (if k > 0 then 2 else 0) + t.length := by
      rw [strLen_append, strLen_append]
      split <;> rfl
    have e2 : piled (t :: r) = t.length + 2 + piled r := by simp [piled]
    have e3 : (if k > 0 then 2 else 0 : Nat) ≤ 2 := by split <;> omega
    show (textFrom (k + 1) _ r).length ≤ _
    omega
theorem listText_le {c : Nat} {ts : List Str} (h : ∀ t ∈ ts, t.length ≤ c) : (listText ts).length ≤ 3 + (c + 2) * ts.length := by
  unfold listText
  rw [strLen_append]
  have h1 := textFrom_le ts 0 "["
  have e1 : ((("[" : String) : Str)).length = 1 := rfl
  have e2 : ((("]" : String) : Str)).length = 1 := rfl
  have h2 := piled_le h
  omega
theorem shownAll_map : ∀ ds : List PyData, PyData.shownAll ds = ds.map PyData.shown
  | [] => rfl
  | d :: ds => by rw [PyData.shownAll, shownAll_map ds]; rfl
theorem showableAll_of : ∀ {ds : List PyData}, (∀ d ∈ ds, d.showable = true) → PyData.showableAll ds = true
  | [], _ => rfl
  | d :: ds, h => by
    rw [PyData.showableAll, h d (by simp), showableAll_of (ds := ds) fun d hd => h d (by simp [hd])]
    rfl
/-- rows of few such things -/
def BRows (kss : List (List Key)) : Prop := kss.length ≤ 1000 ∧ ∀ ks ∈ kss, ks.length ≤ 8 ∧ ∀ k ∈ ks, BKey k
theorem BRows.keys {kss : List (List Key)} (h : BRows kss) : ∀ ks ∈ kss, ∀ k ∈ ks, KeyOk k := fun ks hk k hk' => ((h.2 ks hk).2 k hk').ok
theorem shown_tup {ks : List Key} (h : ks.length ≤ 8 ∧ ∀ k ∈ ks, BKey k) : (tupD ks).shown.length ≤ 600 := by
  have e : (tupD ks).shown = tupleText ((ks.map keyD).map PyData.shown) := by
    rw [← shownAll_map]
    rfl
  rw [e]
  have h2 := tupleText_le (c := 70) (ts := (ks.map keyD).map PyData.shown) fun t ht => by
    obtain ⟨d, hd, rfl⟩ := List.mem_map.mp ht
    obtain ⟨k, hk, rfl⟩ := List.mem_map.mp hd
    exact shown_key (h.2 k hk)
  simp only [List.length_map] at h2
  have := h.1
  omega
theorem showable_tup {ks : List Key} (h : ∀ k ∈ ks, BKey k) : (tupD ks).showable = true := by
  show PyData.showableAll (ks.map keyD) = true
  refine showableAll_of fun d hd => ?_
  obtain ⟨k, hk, rfl⟩ := List.mem_map.mp hd
  exact showable_key (h k hk)
theorem shown_rowsT {kss : List (List Key)} (h : BRows kss) : (PyData.tuple (kss.map tupD)).shown.length ≤ sizeLine := by
  have e : (PyData.tuple (kss.map tupD)).shown = tupleText ((kss.map tupD).map PyData.shown) := by
    rw [← shownAll_map]
    rfl
  rw [e, sizeLine_eq]
  have h2 := tupleText_le (c := 600) (ts := (kss.map tupD).map PyData.shown) fun t ht => by
    obtain ⟨d, hd, rfl⟩ := List.mem_map.mp ht
    obtain ⟨k, hk, rfl⟩ := List.mem_map.mp hd
    exact shown_tup (h.2 k hk)
  simp only [List.length_map] at h2
  have := h.1
  omega
theorem shown_rowsL {kss : List (List Key)} (h : BRows kss) : (PyData.list (kss.map tupD)).shown.length ≤ sizeLine := by
  have e : (PyData.list (kss.map tupD)).shown = listText ((kss.map tupD).map PyData.shown) := by
    rw [← shownAll_map]
    rfl
  rw [e, sizeLine_eq]
  have h2 := listText_le (c := 600) (ts := (kss.map tupD).map PyData.shown) fun t ht => by
    obtain ⟨d, hd, rfl⟩ := List.mem_map.mp ht
    obtain ⟨k, hk, rfl⟩ := List.mem_map.mp hd
    exact shown_tup (h.2 k hk)
  simp only [List.length_map] at h2
  have := h.1
  omega
theorem showable_rows {kss : List (List Key)} (h : BRows kss) : PyData.showableAll (kss.map tupD) = true := by
  refine showableAll_of fun d hd => ?_
  obtain ⟨k, hk, rfl⟩ := List.mem_map.mp hd
  exact showable_tup (h.2 k hk).2
section
variable {K : PySem.W.Frag} {H : Hp} {Q : VK}
theorem rd_reprT {a : Addr} {us : List V} {kss : List (List Key)} (ha : H a = some (.tup us)) (hR : RowsK H us kss) (hb : BRows kss) (k : Q (.str (PyData.tuple (kss.map tupD)).shown) H) : rRepr K [.ref a] H Q := by
  refine ⟨a, _, rfl, .tup (SqT.of ha) (dp_rowsK hR), showable_rows hb, PyData.hasDict_of_canLay _ (by simp [PyData.canLay0, lay_tups hb.keys]), ?_, shown_rowsT hb, k⟩
  have := deep_tups kss
  simp [PyData.depth]
  omega
theorem rd_reprL {a : Addr} {us : List V} {kss : List (List Key)} (ha : H a = some (.lst us)) (hR : RowsK H us kss) (hb : BRows kss) (k : Q (.str (PyData.list (kss.map tupD)).shown) H) : rRepr K [.ref a] H Q := by
  refine ⟨a, _, rfl, .lst (SqL.of ha) (dp_rowsK hR), showable_rows hb, PyData.hasDict_of_canLay _ (by simp [PyData.canLay0, lay_tups hb.keys]), ?_, shown_rowsL hb, k⟩
  have := deep_tups kss
  simp [PyData.depth]
  omega
/-- a list or a tuple of rows -/
theorem rd_reprS {a : Addr} {us : List V} {kss : List (List Key)} (ha : Seq H a us) (hR : RowsK H us kss) (hb : BRows kss) (k : ∀ z : Str, (∀ (G : Hp) (R : VK), Kept H a G → RowsK G us kss → R (.str z) G → rRepr K [.ref a] G R) → Q (.str z) H) : rRepr K [.ref a] H Q := by
  rcases ha with h | h
  · exact rd_reprL h hR hb (k _ fun G R kp hG r => rd_reprL (kp _ h) hG hb r)
  · exact rd_reprT h hR hb (k _ fun G R kp hG r => rd_reprT (kp _ h) hG hb r)
theorem eqv_strs : ∀ xs ys : List Str, PyData.eqvAll (xs.map PyData.str) (ys.map PyData.str) = decide (xs = ys)
  | [], [] => by simp [PyData.eqvAll]
  | [], y :: ys => by simp [PyData.eqvAll]
  | x :: xs, [] => by simp [PyData.eqvAll]
  | x :: xs, y :: ys => by
    have := eqv_strs xs ys
    simp only [List.map_cons, PyData.eqvAll, this, PyData.eqv]
    by_cases h : x = y <;> by_cases h2 : xs = ys <;> simp [h, h2]
/-- two tuples of texts -/
theorem rd_eqTx {a b : Addr} {xs ys : List Str} (ha : H a = some (.tup (xs.map V.str))) (hb : H b = some (.tup (ys.map V.str))) (hx : ∀ x ∈ xs, Lets x) (hy : ∀ y ∈ ys, Lets y) (k : Q (.bl (decide (xs = ys))) H) : rEqD K (.ref a) (.ref b) H Q := by
  refine ⟨.tuple (xs.map PyData.str), .tuple (ys.map PyData.str), .tup (SqT.of ha) (dp_strs xs), .tup (SqT.of hb) (dp_strs ys), ?_, ?_, ?_⟩
  · simp [SeqAt.shaped, PyData.canLay0, lay_strs xs hx, PyData.depth, deep_strs]
  · simp [SeqAt.shaped, PyData.canLay0, lay_strs ys hy, PyData.depth, deep_strs]
  · have : PyData.eqv (.tuple (xs.map PyData.str)) (.tuple (ys.map PyData.str)) = decide (xs = ys) := by
      rw [← eqv_strs]
      simp [PyData.eqv]
    rw [this]
    exact k
end
end Sk
end

section
namespace Sk
open PySem L2
local macro_rules | `(tactic| walk_at "kb") => `(tactic| first | exact kb_int_int | exact kb_int_bool | exact kb_int_str | exact kb_int_tuple | exact kb_int_list | exact kb_tuple_int | exact kb_tuple_bool | exact kb_tuple_str | exact kb_tuple_tuple | exact kb_tuple_list | exact kb_list_int | exact kb_list_bool | exact kb_list_str | exact kb_list_tuple | exact kb_list_list | exact kb_bool_int | exact kb_bool_bool | exact kb_bool_str | exact kb_bool_tuple | exact kb_bool_list | exact kb_str_int | exact kb_str_bool | exact kb_str_str | exact kb_str_tuple | exact kb_str_list | exact kb_dict_int | exact kb_dict_bool | exact kb_dict_str | exact kb_dict_tuple | exact kb_dict_list | exact kb_NoneType_int | exact kb_NoneType_bool | exact kb_NoneType_str | exact kb_NoneType_tuple | exact kb_NoneType_list)
local macro_rules | `(tactic| walk_at "hp") => `(tactic| first
  | assumption
  | exact upd_same
  | (refine' upd_get ?n ?e; (case n => walk_at "ne"); (case e => walk_at "hp"))
  | (refine' But.get (by assumption) ?n ?e; (case n => walk_at "ne"); (case e => walk_at "hp"))
  | (refine' Ext.get (by assumption) ?n ?e; (case n => walk_at "ne"); (case e => walk_at "hp"))
  | (refine' same_get (by assumption) ?e; (case e => walk_at "hp")))
local macro_rules | `(tactic| walk_at "ne") => `(tactic| first
  | assumption
  | (apply Ne.symm; assumption)
  | (refine' ne_of_none ?h (by assumption); (case h => walk_at "hp"))
  | (apply Ne.symm; refine' ne_of_none ?h (by assumption); (case h => walk_at "hp")))
local macro_rules | `(tactic| walk_at "sd") => `(tactic| first
  | (show (0 : Int) < _; omega)
  | (simp only [CMul, CDiv]; omega)
  | exact ⟨by omega, by omega⟩)
local macro_rules | `(tactic| walk_at "rd1") => `(tactic| first
  | with_reducible refine' rd_c ?_
  | ((with_reducible refine' rd_var ?h ?_); (case h => exact rfl))
  | with_reducible refine' rd_op ?_
  | with_reducible refine' rd_seq ?_
  | with_reducible refine' rd_asg ?_
  | with_reducible refine' rd_gName ?_
  | with_reducible refine' rd_I0 ?_
  | ((with_reducible refine' rd_I ?c ?_); (case c => walk_at "sd"))
  | with_reducible refine' rd_eqI ?_
  | with_reducible refine' rd_neI ?_
  | with_reducible refine' rd_U ?_
  | with_reducible refine' rd_un ?_
  | with_reducible refine' rd_ret ?_
  | with_reducible refine' rd_drop ?_
  | with_reducible refine' rd_next ?_
  | with_reducible refine' rd_ifS ?_
  | with_reducible refine' rd_test ?_
  | with_reducible refine' rd_bl ?_
  | with_reducible refine' rd_nil ?_
  | with_reducible refine' rd_cons ?_
  | with_reducible refine' rd_tup ?_
  | with_reducible refine' rd_lst ?_
  | with_reducible refine' rd_call ?_
  | with_reducible refine' rd_cb ?_
  | with_reducible refine' rd_par ?_
  | with_reducible refine' rd_par2 ?_
  | with_reducible refine' rd_and ?_
  | with_reducible refine' rd_or ?_
  | with_reducible refine' rd_not ?_
  | with_reducible refine' rd_andV ?_
  | with_reducible refine' rd_orV ?_
  | with_reducible refine' rd_notV ?_
  | with_reducible refine' rd_if ?_
  | with_reducible refine' rd_gSub ?_
  | ((with_reducible refine' rd_ixL ?h ?e ?_); (case h => walk_at "hp"); (case e => exact rfl))
  | ((with_reducible refine' rd_ixT ?h ?e ?_); (case h => walk_at "hp"); (case e => exact rfl))
  | ((with_reducible refine' rd_setL ?h ?e ?_); (case h => walk_at "hp"); (case e => exact rfl))
  | ((with_reducible refine' rd_append ?h ?e ?_); (case h => walk_at "hp"); (case e => assumption))
  | (with_reducible refine' rd_bmL ?_)
  | ((with_reducible refine' And.intro (tyL ?h) ?_); (case h => walk_at "hp"))
  | ((with_reducible refine' And.intro (len_ok ?h) ?_); (case h => exact rfl))
  | with_reducible refine' rd_ex1 ?_
  | with_reducible refine' rd_ex2 ?_
  | with_reducible refine' rd_int1b ?_
  | ((with_reducible refine' rd_isiI ?e ?_); (case e => walk_at "kb"))
  | ((with_reducible refine' rd_isiB ?e ?_); (case e => walk_at "kb"))
  | ((with_reducible refine' rd_isiT ?h ?e ?_); (case h => walk_at "hp"); (case e => walk_at "kb"))
  | ((with_reducible refine' rd_isiL ?h ?e ?_); (case h => walk_at "hp"); (case e => walk_at "kb"))
  | ((with_reducible refine' rd_lenL ?h ?_); (case h => walk_at "hp"))
  | ((with_reducible refine' rd_lenT ?h ?_); (case h => walk_at "hp"))
  | ((with_reducible refine' rd_gTup ?h ?e ?_); (case h => walk_at "hp"); (case e => exact rfl))
  | with_reducible refine' rd_gCons ?_
  | with_reducible refine' rd_gNil ?_
  | with_reducible refine' rd_yes ?_
  | with_reducible refine' rd_for ?_
  | with_reducible refine' rd_lc ?_
  | with_reducible refine' rd_rng1 ?_
  | with_reducible refine' rd_iL ?_
  | with_reducible refine' rd_iT ?_
  | with_reducible refine' rd_iE ?_
  | with_reducible refine' rd_iZ ?_
  | ((with_reducible refine' rd_iL' ?h ?_); (case h => walk_at "hp"))
  | ((with_reducible refine' rd_iT' ?h ?_); (case h => walk_at "hp"))
  | ((with_reducible refine' rd_iE' ?h ?_); (case h => walk_at "hp"))
  | ((with_reducible refine' rd_iZ' ?h1 ?h2 ?_); (case h1 => walk_at "hp"); (case h2 => walk_at "hp"))
  | with_reducible refine' iteT ?_
  | with_reducible refine' iteF ?_)
local macro_rules | `(tactic| walk_at "rd") => `(tactic| repeat walk_at "rd1")
local macro_rules | `(tactic| walk_at "rd1") => `(tactic| first | with_reducible refine' rd_tB ?_ | with_reducible refine' iteNT ?_ | with_reducible refine' iteNF ?_ | with_reducible refine' rd_iEA (tam_cons tem_var tam_nil) ?_ | with_reducible refine' rd_iSA tem_var ?_ | with_reducible refine' rd_iZA (tam_cons tem_var (tam_cons tem_var tam_nil)) ?_)
local macro_rules | `(tactic| walk_at "rd1") => `(tactic| first | with_reducible refine' rd_eqS ?_ | with_reducible refine' rd_neS ?_ | ((with_reducible refine' rd_isiS ?e ?_); (case e => walk_at "kb")) | with_reducible refine' rd_inS ?_ | with_reducible refine' rd_iS ?_ | with_reducible refine' rd_iS' ?_)
def top (i : Nat) : Stmt := PySem.Challenge.pw_stakecrates_k02_stakes_by_days.main.body.getD i (.Pass ⟨0, 0, 0, 0⟩)
/-- what stands at the top beside the defs -/
structure Top (mg : Str → Option Value) : Prop extends Free mg where
  LETTERS : ∃ u, mg "LETTERS" = some u ∧ RelV (.str lets) u
theorem lets_mem {c : Nat} (h : 97 ≤ c ∧ c ≤ 122) : c ∈ lets.cps.toList := by
  have : ∀ i : Fin 26, (97 + i.val) ∈ lets.cps.toList := by decide +kernel
  obtain ⟨d, rfl⟩ : ∃ d, c = 97 + d := ⟨c - 97, by omega⟩
  exact this ⟨d, by omega⟩
section
variable {P : Program} {w : World} {K : PySem.W.Frag} {mg : Str → Option Value} {base : Heap}

abbrev s_is_whole : Stmt := top 8
theorem sc_is_whole : FnScope ["thing", "least", "greatest"] ["thing", "least", "greatest"] (defScope s_is_whole) := ⟨rfl, rfl, rfl, by decide +kernel, rfl, by decide +kernel, by decide +kernel⟩
def spWhole : Sp := fun vs H Q _ => ∃ n a b : Int, vs = [.int n, .int a, .int b] ∧ Q (.bl (inB n a b)) H
theorem ok_whole {f : Addr} {fd : FuncData} (F : Fun K "is_whole" "is_whole" s_is_whole f fd) (T : Top mg) : FnOk P w K mg base CX0 1 f fd ["thing", "least", "greatest"] spWhole := by
  refine F.ok sc_is_whole (fun vs H Q E h => ?_) (fun cdv A outer s H vs Q E hr h => ?_)
  · obtain ⟨n, a, b, rfl, _⟩ := h
    rfl
  · obtain ⟨n, a, b, rfl, k⟩ := h
    refine ⟨_, (pss_one (ps_ret (pe_and (pe_callB (call_isi1 (K := K) rfl) (by rfl) T.isinstance (by decide +kernel) (pa_cons (pv 0) (pa_cons (pe_bltn (v := .ty "int") (by rfl) T.int_ (by decide +kernel) rfl) pa_nil))) (pe_and (pe_not (pe_callB (call_isi1 (K := K) rfl) (by rfl) T.isinstance (by decide +kernel) (pa_cons (pv 0) (pa_cons (pe_bltn (v := .ty "bool") (by rfl) T.bool_ (by decide +kernel) rfl) pa_nil)))) (pe_one (pe_chain op_le op_le (pv 1) (pv 0) (pv 2))))))), ?_⟩
    walk_at "rd"
    exact rd_inB (fun R h => rd_var rfl h) (fun R h => rd_var rfl h) (fun R h => rd_var rfl h) k

abbrev s_is_day : Stmt := top 10
theorem sc_is_day : FnScope ["thing"] ["thing"] (defScope s_is_day) := ⟨rfl, rfl, rfl, by decide +kernel, rfl, by decide +kernel, by decide +kernel⟩
def spDay : Sp := fun vs H Q _ => ∃ n : Int, vs = [.int n] ∧ Q (.bl (inB n 0 9999)) H
theorem ok_Day {f fW : Addr} {fd fdW : FuncData} (F : Fun K "is_day" "is_day" s_is_day f fd) (dWhole : Def P w K mg base "is_whole" 1 fW fdW ["thing", "least", "greatest"] spWhole) : FnOk P w K mg base CX0 2 f fd ["thing"] spDay := by
  refine F.ok sc_is_day (fun vs H Q E h => ?_) (fun cdv A outer s H vs Q E hr h => ?_)
  · obtain ⟨n, rfl, _⟩ := h
    rfl
  · obtain ⟨n, rfl, k⟩ := h
    refine ⟨_, (pss_one (ps_ret (pe_call dWhole.ok (hr.mono (by decide)) (by rfl) dWhole.mg dWhole.kp dWhole.bd .nil pass0 (pa_cons (pv 0) (pa_cons pe_int (pa_cons pe_int pa_nil)))))), ?_⟩
    walk_at "rd"
    exact ⟨n, 0, 9999, rfl, k⟩

abbrev s_is_amount : Stmt := top 11
theorem sc_is_amount : FnScope ["thing"] ["thing"] (defScope s_is_amount) := ⟨rfl, rfl, rfl, by decide +kernel, rfl, by decide +kernel, by decide +kernel⟩
theorem ok_Amount {f fW : Addr} {fd fdW : FuncData} (F : Fun K "is_amount" "is_amount" s_is_amount f fd) (dWhole : Def P w K mg base "is_whole" 1 fW fdW ["thing", "least", "greatest"] spWhole) : FnOk P w K mg base CX0 2 f fd ["thing"] spDay := by
  refine F.ok sc_is_amount (fun vs H Q E h => ?_) (fun cdv A outer s H vs Q E hr h => ?_)
  · obtain ⟨n, rfl, _⟩ := h
    rfl
  · obtain ⟨n, rfl, k⟩ := h
    refine ⟨_, (pss_one (ps_ret (pe_call dWhole.ok (hr.mono (by decide)) (by rfl) dWhole.mg dWhole.kp dWhole.bd .nil pass0 (pa_cons (pv 0) (pa_cons pe_int (pa_cons pe_int pa_nil)))))), ?_⟩
    walk_at "rd"
    exact ⟨n, 0, 9999, rfl, k⟩

abbrev s_is_row : Stmt := top 12
theorem sc_is_row : FnScope ["thing"] ["thing"] (defScope s_is_row) := ⟨rfl, rfl, rfl, by decide +kernel, rfl, by decide +kernel, by decide +kernel⟩
def spIsRow : Sp := fun vs H Q _ => ∃ (a : Addr) (us : List V), vs = [.ref a] ∧ Seq H a us ∧ ∀ H', Same H H' → Q (.bl true) H'
theorem ok_isRow {f : Addr} {fd : FuncData} (F : Fun K "is_row" "is_row" s_is_row f fd) (T : Top mg) : FnOk P w K mg base CX0 1 f fd ["thing"] spIsRow := by
  refine F.ok sc_is_row (fun vs H Q E h => ?_) (fun cdv A outer s H vs Q E hr h => ?_)
  · obtain ⟨a, us, rfl, _⟩ := h
    rfl
  · obtain ⟨a, us, rfl, hs, k⟩ := h
    refine ⟨_, (pss_one (ps_ret (pe_callB (call_isiTK (K := K) rfl) (by rfl) T.isinstance (by decide +kernel) (pa_cons (pv 0) (pa_cons (pe_tup (pa_cons (pe_bltn (v := .ty "list") (by rfl) T.list (by decide +kernel) rfl) (pa_cons (pe_bltn (v := .ty "tuple") (by rfl) T.tuple (by decide +kernel) rfl) pa_nil))) pa_nil))))), ?_⟩
    walk_at "rd"
    intro p hp
    walk_at "rd"
    exact seq_isRow (hs.mono (same_new (Same.refl _) hp)) upd_same (k _ (same_new (Same.refl _) hp))

abbrev s_is_name : Stmt := top 9
theorem sc_is_name : FnScope ["thing", "sign"] ["thing"] (defScope s_is_name) := ⟨rfl, rfl, rfl, by decide +kernel, rfl, by decide +kernel, by decide +kernel⟩
def spName : Sp := fun vs H Q _ => ∃ z : Str, vs = [.str z] ∧ IsName z ∧ ∀ H', Same H H' → Q (.bl true) H'
theorem ok_name {f : Addr} {fd : FuncData} (F : Fun K "is_name" "is_name" s_is_name f fd) (T : Top mg) : FnOk P w K mg base CX0 1 f fd ["thing"] spName := by
  refine F.ok sc_is_name (fun vs H Q E h => ?_) (fun cdv A outer s H vs Q E hr h => ?_)
  · obtain ⟨z, rfl, _⟩ := h
    rfl
  · obtain ⟨z, rfl, hz, k⟩ := h
    obtain ⟨uL, hLu, rLu⟩ := T.LETTERS
    refine ⟨_, (pss_one (ps_ret (pe_and (pe_callB (call_isi1 (K := K) rfl) (by rfl) T.isinstance (by decide +kernel) (pa_cons (pv 0) (pa_cons (pe_bltn (v := .ty "str") (by rfl) T.str_ (by decide +kernel) rfl) pa_nil))) (pe_and (pe_chain op_le op_le pe_int (pe_callB (call_lenK (K := K) rfl) (by rfl) T.len (by decide +kernel) (pa_cons (pv 0) pa_nil)) pe_int) (pe_one (pe_callB (cr_allK (K := K) rfl rfl) (by rfl) T.all (by decide +kernel) (pa_cons (pe_lc (own := [("sign", 1)]) (tt := tYes) rfl sc_is_name.nd (pi_str (pv 0)) (blkOk_by (N := ["thing", "sign"]) (sc := defScope s_is_name) (by decide +kernel)) (fun _ _ _ _ _ => (pg_name (i := 1) sc_is_name.nd rfl (by first | exact Or.inl rfl | exact Or.inr rfl))) (fun _ _ _ _ _ => pts_nil) (fun _ _ _ _ _ => (pe_cmpR op_inS (pv 1) (pe_glob (by rfl) hLu rLu) (by rfl)))) pa_nil))))))), ?_⟩
    walk_at "rd"
    refine rd_inB (n := (z.length : Int)) (fun R h => rd_c h) (fun R h => rd_cb (rd_cons (rd_var rfl (rd_nil (rd_lenZ (by have := hz.1.2; omega) h))))) (fun R h => rd_c h) ?_
    refine ⟨true, by rw [inB_yes (by have := hz.1.1; omega) (by have := hz.1.2; omega)], ?_⟩
    walk_at "rd"
    intro D hD
    have zl : z.cps.size ≤ 6 := hz.1.2
    refine lcA (p := D) (walk_str (z := z)) (fun i acc _ => acc = List.replicate i (V.bl true)) hD (by omega) rfl (fun _ _ => True.intro) ?_ ?_
    · rintro i x G G' acc M hi e q l a ⟨rfl, c, hc, rfl⟩ k1 k2
      walk_at "rd"
      refine ⟨rfl, ?_⟩
      walk_at "rd"
      have hcm : c ∈ z.cps.toList := by
        rw [← Array.getElem?_toList] at hc
        exact List.mem_of_getElem? hc
      refine k1 _ _ e q ?_
      subst a
      rw [decide_eq_true (lets_mem (hz.2 c hcm)), List.replicate_succ']
    · intro G acc e q l a
      walk_at "rd"
      subst a
      refine rd_allT q ?_
      exact k G fun b o hb => e b o (ne_of_none hb hD) hb

abbrev s_check_name : Stmt := top 14
theorem sc_check_name : FnScope ["name"] ["name"] (defScope s_check_name) := ⟨rfl, rfl, rfl, by decide +kernel, rfl, by decide +kernel, by decide +kernel⟩
def spCName : Sp := fun vs H Q _ => ∃ z : Str, vs = [.str z] ∧ IsName z ∧ ∀ H', Same H H' → Q .non H'
theorem ok_CName {f fN : Addr} {fd fdN : FuncData} (F : Fun K "check_name" "check_name" s_check_name f fd) (dName : Def P w K mg base "is_name" 1 fN fdN ["thing"] spName) : FnOk P w K mg base CX0 2 f fd ["name"] spCName := by
  refine F.ok sc_check_name (fun vs H Q E h => ?_) (fun cdv A outer s H vs Q E hr h => ?_)
  · obtain ⟨z, rfl, _⟩ := h
    rfl
  · obtain ⟨z, rfl, hz, k⟩ := h
    refine ⟨_, (pss_one (ps_if (pt_not (pt_val (pe_call dName.ok (hr.mono (by decide)) (by rfl) dName.mg dName.kp dName.bd .nil pass0 (pa_cons (pv 0) pa_nil)))) 
        (pss_one ps_never) pss_nil)), ?_⟩
    walk_at "rd"
    refine ⟨z, rfl, hz, fun H1 s1 => ⟨true, rfl, ?_⟩⟩
    walk_at "rd"
    exact k H1 s1

abbrev s_check_day : Stmt := top 15
theorem sc_check_day : FnScope ["day"] ["day"] (defScope s_check_day) := ⟨rfl, rfl, rfl, by decide +kernel, rfl, by decide +kernel, by decide +kernel⟩
def spCDay : Sp := fun vs H Q _ => ∃ n : Int, vs = [.int n] ∧ 0 ≤ n ∧ n ≤ 9999 ∧ Q .non H
theorem ok_CDay {f fN : Addr} {fd fdN : FuncData} (F : Fun K "check_day" "check_day" s_check_day f fd) (dDay : Def P w K mg base "is_day" 2 fN fdN ["thing"] spDay) : FnOk P w K mg base CX0 3 f fd ["day"] spCDay := by
  refine F.ok sc_check_day (fun vs H Q E h => ?_) (fun cdv A outer s H vs Q E hr h => ?_)
  · obtain ⟨n, rfl, _⟩ := h
    rfl
  · obtain ⟨n, rfl, h0, h1, k⟩ := h
    refine ⟨_, (pss_one (ps_if (pt_not (pt_val (pe_call dDay.ok (hr.mono (by decide)) (by rfl) dDay.mg dDay.kp dDay.bd .nil pass0 (pa_cons (pv 0) pa_nil)))) 
        (pss_one ps_never) pss_nil)), ?_⟩
    walk_at "rd"
    refine ⟨n, rfl, true, by rw [inB_yes h0 h1], ?_⟩
    walk_at "rd"
    exact k

abbrev s_check_row : Stmt := top 16
theorem sc_check_row : FnScope ["rows"] ["rows"] (defScope s_check_row) := ⟨rfl, rfl, rfl, by decide +kernel, rfl, by decide +kernel, by decide +kernel⟩
def spCRow : Sp := fun vs H Q _ => ∃ (a : Addr) (us : List V), vs = [.ref a] ∧ Seq H a us ∧ ∀ H', Same H H' → Q .non H'
theorem ok_CRow {f fN : Addr} {fd fdN : FuncData} (F : Fun K "check_row" "check_row" s_check_row f fd) (dIsRow : Def P w K mg base "is_row" 1 fN fdN ["thing"] spIsRow) : FnOk P w K mg base CX0 2 f fd ["rows"] spCRow := by
  refine F.ok sc_check_row (fun vs H Q E h => ?_) (fun cdv A outer s H vs Q E hr h => ?_)
  · obtain ⟨a, us, rfl, _⟩ := h
    rfl
  · obtain ⟨a, us, rfl, hs, k⟩ := h
    refine ⟨_, (pss_one (ps_if (pt_not (pt_val (pe_call dIsRow.ok (hr.mono (by decide)) (by rfl) dIsRow.mg dIsRow.kp dIsRow.bd .nil pass0 (pa_cons (pv 0) pa_nil)))) 
        (pss_one ps_never) pss_nil)), ?_⟩
    walk_at "rd"
    refine ⟨a, us, rfl, hs, fun H1 s1 => ⟨true, rfl, ?_⟩⟩
    walk_at "rd"
    exact k H1 s1

end
end Sk
end

section
namespace Sk
open PySem L2
local macro_rules | `(tactic| walk_at "kb") => `(tactic| first | exact kb_int_int | exact kb_int_bool | exact kb_int_str | exact kb_int_tuple | exact kb_int_list | exact kb_tuple_int | exact kb_tuple_bool | exact kb_tuple_str | exact kb_tuple_tuple | exact kb_tuple_list | exact kb_list_int | exact kb_list_bool | exact kb_list_str | exact kb_list_tuple | exact kb_list_list | exact kb_bool_int | exact kb_bool_bool | exact kb_bool_str | exact kb_bool_tuple | exact kb_bool_list | exact kb_str_int | exact kb_str_bool | exact kb_str_str | exact kb_str_tuple | exact kb_str_list | exact kb_dict_int | exact kb_dict_bool | exact kb_dict_str | exact kb_dict_tuple | exact kb_dict_list | exact kb_NoneType_int | exact kb_NoneType_bool | exact kb_NoneType_str | exact kb_NoneType_tuple | exact kb_NoneType_list)
local macro_rules | `(tactic| walk_at "hp") => `(tactic| first
  | assumption
  | exact upd_same
  | (refine' upd_get ?n ?e; (case n => walk_at "ne"); (case e => walk_at "hp"))
  | (refine' But.get (by assumption) ?n ?e; (case n => walk_at "ne"); (case e => walk_at "hp"))
  | (refine' Ext.get (by assumption) ?n ?e; (case n => walk_at "ne"); (case e => walk_at "hp"))
  | (refine' same_get (by assumption) ?e; (case e => walk_at "hp")))
local macro_rules | `(tactic| walk_at "ne") => `(tactic| first
  | assumption
  | (apply Ne.symm; assumption)
  | (refine' ne_of_none ?h (by assumption); (case h => walk_at "hp"))
  | (apply Ne.symm; refine' ne_of_none ?h (by assumption); (case h => walk_at "hp")))
local macro_rules | `(tactic| walk_at "sd") => `(tactic| first
  | (show (0 : Int) < _; omega)
  | (simp only [CMul, CDiv]; omega)
  | exact ⟨by omega, by omega⟩)
local macro_rules | `(tactic| walk_at "rd1") => `(tactic| first
  | with_reducible refine' rd_c ?_
  | ((with_reducible refine' rd_var ?h ?_); (case h => exact rfl))
  | with_reducible refine' rd_op ?_
  | with_reducible refine' rd_seq ?_
  | with_reducible refine' rd_asg ?_
  | with_reducible refine' rd_gName ?_
  | with_reducible refine' rd_I0 ?_
  | ((with_reducible refine' rd_I ?c ?_); (case c => walk_at "sd"))
  | with_reducible refine' rd_eqI ?_
  | with_reducible refine' rd_neI ?_
  | with_reducible refine' rd_U ?_
  | with_reducible refine' rd_un ?_
  | with_reducible refine' rd_ret ?_
  | with_reducible refine' rd_drop ?_
  | with_reducible refine' rd_next ?_
  | with_reducible refine' rd_ifS ?_
  | with_reducible refine' rd_test ?_
  | with_reducible refine' rd_bl ?_
  | with_reducible refine' rd_nil ?_
  | with_reducible refine' rd_cons ?_
  | with_reducible refine' rd_tup ?_
  | with_reducible refine' rd_lst ?_
  | with_reducible refine' rd_call ?_
  | with_reducible refine' rd_cb ?_
  | with_reducible refine' rd_par ?_
  | with_reducible refine' rd_par2 ?_
  | with_reducible refine' rd_and ?_
  | with_reducible refine' rd_or ?_
  | with_reducible refine' rd_not ?_
  | with_reducible refine' rd_andV ?_
  | with_reducible refine' rd_orV ?_
  | with_reducible refine' rd_notV ?_
  | with_reducible refine' rd_if ?_
  | with_reducible refine' rd_gSub ?_
  | ((with_reducible refine' rd_ixL ?h ?e ?_); (case h => walk_at "hp"); (case e => exact rfl))
  | ((with_reducible refine' rd_ixT ?h ?e ?_); (case h => walk_at "hp"); (case e => exact rfl))
  | ((with_reducible refine' rd_setL ?h ?e ?_); (case h => walk_at "hp"); (case e => exact rfl))
  | ((with_reducible refine' rd_append ?h ?e ?_); (case h => walk_at "hp"); (case e => assumption))
  | (with_reducible refine' rd_bmL ?_)
  | ((with_reducible refine' And.intro (tyL ?h) ?_); (case h => walk_at "hp"))
  | ((with_reducible refine' And.intro (len_ok ?h) ?_); (case h => exact rfl))
  | with_reducible refine' rd_ex1 ?_
  | with_reducible refine' rd_ex2 ?_
  | with_reducible refine' rd_int1b ?_
  | ((with_reducible refine' rd_isiI ?e ?_); (case e => walk_at "kb"))
  | ((with_reducible refine' rd_isiB ?e ?_); (case e => walk_at "kb"))
  | ((with_reducible refine' rd_isiT ?h ?e ?_); (case h => walk_at "hp"); (case e => walk_at "kb"))
  | ((with_reducible refine' rd_isiL ?h ?e ?_); (case h => walk_at "hp"); (case e => walk_at "kb"))
  | ((with_reducible refine' rd_lenL ?h ?_); (case h => walk_at "hp"))
  | ((with_reducible refine' rd_lenT ?h ?_); (case h => walk_at "hp"))
  | ((with_reducible refine' rd_gTup ?h ?e ?_); (case h => walk_at "hp"); (case e => exact rfl))
  | with_reducible refine' rd_gCons ?_
  | with_reducible refine' rd_gNil ?_
  | with_reducible refine' rd_yes ?_
  | with_reducible refine' rd_for ?_
  | with_reducible refine' rd_lc ?_
  | with_reducible refine' rd_rng1 ?_
  | with_reducible refine' rd_iL ?_
  | with_reducible refine' rd_iT ?_
  | with_reducible refine' rd_iE ?_
  | with_reducible refine' rd_iZ ?_
  | ((with_reducible refine' rd_iL' ?h ?_); (case h => walk_at "hp"))
  | ((with_reducible refine' rd_iT' ?h ?_); (case h => walk_at "hp"))
  | ((with_reducible refine' rd_iE' ?h ?_); (case h => walk_at "hp"))
  | ((with_reducible refine' rd_iZ' ?h1 ?h2 ?_); (case h1 => walk_at "hp"); (case h2 => walk_at "hp"))
  | with_reducible refine' iteT ?_
  | with_reducible refine' iteF ?_)
local macro_rules | `(tactic| walk_at "rd") => `(tactic| repeat walk_at "rd1")
local macro_rules | `(tactic| walk_at "rd1") => `(tactic| first | with_reducible refine' rd_tB ?_ | with_reducible refine' iteNT ?_ | with_reducible refine' iteNF ?_ | with_reducible refine' rd_iEA (tam_cons tem_var tam_nil) ?_ | with_reducible refine' rd_iSA tem_var ?_ | with_reducible refine' rd_iZA (tam_cons tem_var (tam_cons tem_var tam_nil)) ?_)
local macro_rules | `(tactic| walk_at "rd1") => `(tactic| first | with_reducible refine' rd_eqS ?_ | with_reducible refine' rd_neS ?_ | ((with_reducible refine' rd_isiS ?e ?_); (case e => walk_at "kb")) | with_reducible refine' rd_inS ?_ | with_reducible refine' rd_iS ?_ | with_reducible refine' rd_iS' ?_)
section
variable {K : PySem.W.Frag} {σ : St} {H : Hp} {Q : VK} {D : Ends}
theorem rd_din {ty td : TE} (k : ty σ H fun y H1 => td σ H1 fun x H2 => ∃ a o, x = .ref a ∧ DGet H2 a y o ∧ Q (.bl o.isSome) H2) : tDIn ty td σ H Q := k
theorem rd_dput {td ty tv : TE} (k : tv σ H fun v H1 => td σ H1 fun x H2 => ty σ H2 fun y H3 => ∃ a H4, x = .ref a ∧ DPut H3 a y v H4 ∧ D.nx σ H4) : sDPut td ty tv D σ H := k
theorem rd_dget {td ty : TE} (k : td σ H fun x H1 => ty σ H1 fun y H2 => ∃ a v, x = .ref a ∧ DGet H2 a y (some v) ∧ Q v H2) : tDGet td ty σ H Q := k
theorem rd_dget2 {td ty tx : TE} (k : td σ H fun x H1 => ∃ a, x = .ref a ∧ IsD H1 a ∧ ty σ H1 fun y H2 => tx σ H2 fun z H3 => ∃ o, DGet H3 a y o ∧ Q (o.getD z) H3) : tDGet2 td ty tx σ H Q := k
theorem rd_dnT (k : ∀ p, H p = none → Q (.ref p) (upd H p (.dT []))) : tDNewT σ H Q := k
theorem rd_dnK (k : ∀ p, H p = none → Q (.ref p) (upd H p (.dK []))) : tDNewK σ H Q := k
end
local macro_rules | `(tactic| walk_at "rd1") => `(tactic| first | with_reducible refine' rd_din ?_ | with_reducible refine' rd_dput ?_ | with_reducible refine' rd_dget ?_ | with_reducible refine' rd_dget2 ?_ | with_reducible refine' rd_dnT ?_ | with_reducible refine' rd_dnK ?_)
theorem ne_dT {xs : List (List Key × V)} {ys : List V} : HO.tup ys ≠ HO.dT xs := fun e => by cases e
theorem ne_dK {xs : List (Key × V)} {ys : List V} : HO.tup ys ≠ HO.dK xs := fun e => by cases e
section
variable {P : Program} {w : World} {K : PySem.W.Frag} {mg : Str → Option Value} {base : Heap}

abbrev s_is_stake_row : Stmt := top 21
theorem sc_is_stake_row : FnScope ["thing"] ["thing"] (defScope s_is_stake_row) := ⟨rfl, rfl, rfl, by decide +kernel, rfl, by decide +kernel, by decide +kernel⟩
def RowAt (r : Rw) : Prop := IsName r.1 ∧ (0 ≤ r.2.1 ∧ r.2.1 ≤ 9999) ∧ (0 ≤ r.2.2 ∧ r.2.2 ≤ 9999)
def spSRow : Sp := fun vs H Q _ => ∃ (t : Addr) (r : Rw), vs = [.ref t] ∧ H t = some (.tup [.str r.1, .int r.2.1, .int r.2.2]) ∧ RowAt r ∧ ∀ H', Same H H' → Q (.bl true) H'
theorem ok_sRow {f fN fD fA : Addr} {fd fdN fdD fdA : FuncData} (F : Fun K "is_stake_row" "is_stake_row" s_is_stake_row f fd) (T : Top mg) (dName : Def P w K mg base "is_name" 1 fN fdN ["thing"] spName)
    (dDay : Def P w K mg base "is_day" 2 fD fdD ["thing"] spDay) (dAmount : Def P w K mg base "is_amount" 2 fA fdA ["thing"] spDay) : FnOk P w K mg base CX0 3 f fd ["thing"] spSRow := by
  refine F.ok sc_is_stake_row (fun vs H Q E h => ?_) (fun cdv A outer s H vs Q E hr h => ?_)
  · obtain ⟨t, r, rfl, _⟩ := h
    rfl
  · obtain ⟨t, r, rfl, ht, ⟨hn, hd, ha⟩, k⟩ := h
    refine ⟨_, (pss_one (ps_ret (pe_and (pe_callB (call_isi1 (K := K) rfl) (by rfl) T.isinstance (by decide +kernel) (pa_cons (pv 0) (pa_cons (pe_bltn (v := .ty "tuple") (by rfl) T.tuple (by decide +kernel) rfl) pa_nil))) (pe_and (pe_cmpR op_eq (pe_callB (call_lenK (K := K) rfl) (by rfl) T.len (by decide +kernel) (pa_cons (pv 0) pa_nil)) pe_int (nomark _)) (pe_and (pe_call dName.ok (hr.mono (by decide)) (by rfl) dName.mg dName.kp dName.bd .nil pass0 (pa_cons (pe_ix (ix_tupK (K := K) rfl) (pv 0) pe_int (fun _ _ => rfl)) pa_nil)) (pe_and (pe_call dDay.ok (hr.mono (by decide)) (by rfl) dDay.mg dDay.kp dDay.bd .nil pass0 (pa_cons (pe_ix (ix_tupK (K := K) rfl) (pv 0) pe_int (fun _ _ => rfl)) pa_nil)) (pe_one (pe_call dAmount.ok (hr.mono (by decide)) (by rfl) dAmount.mg dAmount.kp dAmount.bd .nil pass0 (pa_cons (pe_ix (ix_tupK (K := K) rfl) (pv 0) pe_int (fun _ _ => rfl)) pa_nil))))))))), ?_⟩
    walk_at "rd"
    refine ite_dec (fun h => ?_) (fun h => (h rfl).elim)
    walk_at "rd"
    refine ⟨r.1, rfl, hn, fun H1 s1 => ⟨true, rfl, ?_⟩⟩
    walk_at "rd"
    refine ⟨r.2.1, rfl, true, by rw [inB_yes hd.1 hd.2], ?_⟩
    walk_at "rd"
    refine ⟨r.2.2, rfl, ?_⟩
    rw [inB_yes ha.1 ha.2]
    exact k H1 s1

abbrev s_amounts_of : Stmt := top 22
theorem sc_amounts_of : FnScope ["rows", "amounts", "number", "row"] ["rows"] (defScope s_amounts_of) := ⟨rfl, rfl, rfl, by decide +kernel, rfl, by decide +kernel, by decide +kernel⟩
def spAmts : Sp := fun vs H Q _ => ∃ (l : Addr) (us : List V) (rs : List Rw), vs = [.ref l] ∧ Seq H l us ∧ RowsK H us (rs.map k3) ∧ RowsOk rs ∧ ∀ H' d, Same H H' → H d = none → H' d = some (.dT (rs.map kv2)) → Q (.ref d) H'
theorem ok_amts {f fR fS : Addr} {fd fdR fdS : FuncData} (F : Fun K "amounts_of" "amounts_of" s_amounts_of f fd) (T : Top mg) (dCRow : Def P w K mg base "check_row" 2 fR fdR ["rows"] spCRow)
    (dSRow : Def P w K mg base "is_stake_row" 3 fS fdS ["thing"] spSRow) : FnOk P w K mg base CX0 4 f fd ["rows"] spAmts := by
  refine F.ok sc_amounts_of (fun vs H Q E h => ?_) (fun cdv A outer s H vs Q E hr h => ?_)
  · obtain ⟨l, us, rs, rfl, _⟩ := h
    rfl
  · obtain ⟨l, us, rs, rfl, hs, hR, ok, k⟩ := h
    have lu : us.length = rs.length := by rw [hR.length, List.length_map]
    have bo := ok.len
    refine ⟨_, (pss_cons (ps_expr (pe_call dCRow.ok (hr.mono (by decide)) (by rfl) dCRow.mg dCRow.kp dCRow.bd .nil pass0 (pa_cons (pv 0) pa_nil))) 
      (pss_cons (ps_set (i := 1) sc_amounts_of.nd rfl (by first | exact Or.inl rfl | exact Or.inr rfl) pe_dnewT) 
      (pss_cons (ps_for PassesOwn.never rfl (pi_enumK (K := K) rfl (by rfl) T.enumerate (pa_cons (pv 0) pa_nil)) (pg_tupK (K := K) (n := 2) rfl (by rfl) (pgs_cons (pg_name (i := 2) sc_amounts_of.nd rfl (by first | exact Or.inl rfl | exact Or.inr rfl)) (pgs_cons (pg_name (i := 3) sc_amounts_of.nd rfl (by first | exact Or.inl rfl | exact Or.inr rfl)) pgs_nil))) 
        (pss_cons (ps_if (PW.pt (pw_or (pt_not (pt_val (pe_call dSRow.ok (hr.mono (by decide)) (by rfl) dSRow.mg dSRow.kp dSRow.bd .nil pass0 (pa_cons (pv 3) pa_nil)))) (pw_or1 (pt_cmp (pc_din (hu_of hr) (pe_tup (pa_cons (pe_ix (ix_tupK (K := K) rfl) (pv 3) pe_int (fun _ _ => rfl)) (pa_cons (pe_ix (ix_tupK (K := K) rfl) (pv 3) pe_int (fun _ _ => rfl)) pa_nil))) (pv 1)))))) 
          (pss_one ps_never) pss_nil) 
        (pss_one (ps_dput (hu_of hr) (pv 1) (pe_tup (pa_cons (pe_ix (ix_tupK (K := K) rfl) (pv 3) pe_int (fun _ _ => rfl)) (pa_cons (pe_ix (ix_tupK (K := K) rfl) (pv 3) pe_int (fun _ _ => rfl)) pa_nil))) (pe_ix (ix_tupK (K := K) rfl) (pv 3) pe_int (fun _ _ => rfl)) rfl)))) 
      (pss_one (ps_ret (pv 1)))))), ?_⟩
    walk_at "rd"
    refine ⟨l, us, rfl, hs, fun H1 s1 => ?_⟩
    walk_at "rd"
    intro d hd
    walk_at "rd"
    have dN : H d = none := same_free s1 hd
    have s2 : Same H (upd H1 d (.dT [])) := same_new s1 hd
    have hd2 : upd H1 d (.dT []) d = some (.dT (([] : List Rw).map kv2)) := upd_same
    generalize upd H1 d (.dT []) = H2 at *
    refine ⟨l, us, rfl, hs.mono s2, fun J G hG W => ?_⟩
    refine loopW W (fun i σ G => ∃ (v2 v3 : Option V), σ = [some (.ref l), some (.ref d), v2, v3] ∧ Same H G ∧ G d = some (.dT ((rs.take i).map kv2))) ⟨none, none, rfl, s2, hd2⟩ (fun i σ G _ ⟨_, _, _, sG, _⟩ => hG _ fun o e => ?_) ?_ ?_
    · have h1 := hs.mono sG
      rcases hs with h | h
      · rw [s2 _ _ h] at e
        cases e
        exact sG _ _ h
      · rw [s2 _ _ h] at e
        cases e
        exact sG _ _ h
    · rintro i x σ G G' hi ⟨v2, v3, rfl, sG, hdG⟩ ⟨T', x', y, rfl, hT, rfl, e1, e2⟩
      cases e1
      obtain ⟨r, t, hr', rfl, ht⟩ := rowsK_at (hR.same sG) e2
      replace ht : G t = some (.tup [.str r.1, .int r.2.1, .int r.2.2]) := ht
      have hb := ok.bnd r (List.mem_of_getElem? hr')
      have sT : Same H (upd G T' (.tup [.int (i : Nat), .ref t])) := same_new sG hT
      have htT : upd G T' (.tup [.int (i : Nat), .ref t]) t = some (.tup [.str r.1, .int r.2.1, .int r.2.2]) := by walk_at "hp"
      have hdT : upd G T' (.tup [.int (i : Nat), .ref t]) d = some (.dT ((rs.take i).map kv2)) := by walk_at "hp"
      walk_at "rd"
      generalize upd G T' (.tup [.int (i : Nat), .ref t]) = G1 at *
      refine ⟨t, r, rfl, htT, hb, fun G2 s3 => ⟨true, rfl, ?_⟩⟩
      have htG := s3 _ _ htT
      have hdG2 := s3 _ _ hdT
      have s4 := sT.trans s3
      walk_at "rd"
      intro q1 hq1
      walk_at "rd"
      have fresh : ∀ x ∈ rs.take i, ¬ (x.1 = r.1 ∧ x.2.1 = r.2.1) := fun x hx => by
        obtain ⟨j, hj⟩ := List.getElem?_of_mem hx
        rw [List.getElem?_take] at hj
        split at hj
        · rename_i hji
          obtain ⟨a1, rfl⟩ := List.getElem?_eq_some_iff.mp hj
          obtain ⟨a2, rfl⟩ := List.getElem?_eq_some_iff.mp hr'
          exact List.pairwise_iff_getElem.mp ok.dis j i a1 a2 hji
        · cases hj
      have nd1 : d ≠ q1 := ne_of_none hdG2 hq1
      refine ⟨d, none, rfl, ?_, ?_⟩
      · have := DGet.t (H := upd G2 q1 (.tup [.str r.1, .int r.2.1])) (a := d) (b := q1) (kvs := (rs.take i).map kv2) (k := k2 r) (by walk_at "hp") upd_same
        rw [val_new fresh] at this
        exact this
      refine ⟨false, rfl, iteF ?_⟩
      walk_at "rd"
      intro q2 hq2
      walk_at "rd"
      have nd2 : d ≠ q2 := ne_of_none (upd_get nd1 hdG2) hq2
      refine ⟨d, _, rfl, DPut.t (kvs := (rs.take i).map kv2) (k := k2 r) (by walk_at "hp") upd_same (small1000 (by simp; omega)), ?_⟩
      rw [put_new fresh, ← take_snoc hr']
      refine ⟨_, _, rfl, fun b o hb => ?_, upd_same⟩
      have h1 := s4 b o hb
      have n1 : b ≠ d := ne_of_none hb dN
      walk_at "hp"
    · rintro σ G ⟨v2, v3, rfl, sG, hdG⟩
      rw [lu, List.take_length] at hdG
      walk_at "rd"
      exact k G d sG dN hdG

abbrev s_changes_of : Stmt := top 23
theorem sc_changes_of : FnScope ["amounts", "changes", "last", "sort", "day", "amount"] ["amounts"] (defScope s_changes_of) := ⟨rfl, rfl, rfl, by decide +kernel, rfl, by decide +kernel, by decide +kernel⟩
def spChgs : Sp := fun vs H Q _ => ∃ (d : Addr) (rs : List Rw), vs = [.ref d] ∧ H d = some (.dT (rs.map kv2)) ∧ RowsOk rs ∧ ∀ H' t us cs, Same H H' → H t = none → H' t = some (.tup us) → RowsK H' us (cs.map k3) → Kept0 rs cs → Q (.ref t) H'
theorem ok_chgs {f : Addr} {fd : FuncData} (F : Fun K "changes_of" "changes_of" s_changes_of f fd) (T : Top mg) : FnOk P w K mg base CX0 4 f fd ["amounts"] spChgs := by
  refine F.ok sc_changes_of (fun vs H Q E h => ?_) (fun cdv A outer s H vs Q E hr h => ?_)
  · obtain ⟨d, rs, rfl, _⟩ := h
    rfl
  · obtain ⟨d, rs, rfl, hd, ok, k⟩ := h
    have bo := ok.len
    refine ⟨_, (pss_cons (ps_set (i := 1) sc_changes_of.nd rfl (by first | exact Or.inl rfl | exact Or.inr rfl) (pe_lst pa_nil)) 
      (pss_cons (ps_set (i := 2) sc_changes_of.nd rfl (by first | exact Or.inl rfl | exact Or.inr rfl) pe_dnewK) 
      (pss_cons (ps_for PassesOwn.never rfl (pi_listK (K := K) rfl (pe_callB (cr_sortedDT rfl hr.units) (by rfl) T.sorted (by decide +kernel) (pa_cons (pv 0) pa_nil))) (pg_tupK (K := K) (n := 2) rfl (by rfl) (pgs_cons (pg_name (i := 3) sc_changes_of.nd rfl (by first | exact Or.inl rfl | exact Or.inr rfl)) (pgs_cons (pg_name (i := 4) sc_changes_of.nd rfl (by first | exact Or.inl rfl | exact Or.inr rfl)) pgs_nil))) 
        (pss_cons (ps_set (i := 5) sc_changes_of.nd rfl (by first | exact Or.inl rfl | exact Or.inr rfl) (pe_dget (hu_of hr) (pv 0) (pe_tup (pa_cons (pv 3) (pa_cons (pv 4) pa_nil))) (fun _ _ => rfl))) 
        (pss_cons (ps_if (pt_cmpR op_ne (pv 5) (pe_dget2 (hu_of hr) (pv 2) (pv 3) pe_int ⟨rfl, rfl, rfl, rfl⟩) (nomark _)) 
          (pss_one (ps_expr (pe_bm PySem.F.plainAttrs_list PySem.F.slot_list_append PySem.F.type_list_append mt_append (pv 1) (pa_cons (pe_tup (pa_cons (pv 3) (pa_cons (pv 4) (pa_cons (pv 5) pa_nil)))) pa_nil)))) pss_nil) 
        (pss_one (ps_dput (hu_of hr) (pv 2) (pv 3) (pv 5) rfl))))) 
      (pss_one (ps_ret (pe_callTy call_tuple_of (by rfl) T.tuple (by decide +kernel) (pa_cons (pv 1) pa_nil))))))), ?_⟩
    walk_at "rd"
    intro c hc
    walk_at "rd"
    intro e he
    walk_at "rd"
    have dne1 : d ≠ c := ne_of_none hd hc
    have dne2 : d ≠ e := ne_of_none (upd_get dne1 hd) he
    have ce : c ≠ e := fun z => (upd_none he).1 z.symm
    have eN : H e = none := (upd_none he).2
    refine ⟨d, rs.map kv2, rfl, .inl (by walk_at "hp"), alike_keys rs, fun x hx => ?_, fun bs p isk hp => ?_⟩
    · obtain ⟨y, _, rfl⟩ := List.mem_map.mp hx
      exact fun z => by cases z
    have lb : rs.length = bs.length := by have := Paired.length isk; simpa using this
    obtain ⟨L, eL, pL, pR, srt⟩ := sort_keys rs bs lb
    rw [eL]
    have hkey : ∀ x ∈ L, upd (upd H c (.lst [])) e (.dK []) x.2 = some (.tup [.str x.1.1, .int x.1.2.1]) := fun x hx => by
      have h1 : x ∈ rs.zip bs := pL.mem_iff.mp hx
      have h2 : (kv2 x.1, x.2) ∈ (rs.map kv2).zip bs := by
        rw [List.zip_map_left]
        exact List.mem_map.mpr ⟨x, h1, rfl⟩
      exact paired_zip isk _ h2
    have lL : L.length ≤ 30 := by
      have := pR.length_eq
      rw [List.length_map] at this
      omega
    have s3 : Same H (upd (upd (upd H c (.lst [])) e (.dK [])) p (.lst (L.map fun x => V.ref x.2))) := same_new (same_new (same_new (Same.refl _) hc) he) hp
    have pc : p ≠ c := fun z => by rw [z, upd_ne ce, upd_same] at hp; cases hp
    have pe' : p ≠ e := fun z => by rw [z, upd_same] at hp; cases hp
    have pN : H p = none := by rw [upd_ne pe', upd_ne pc] at hp; exact hp
    have hp3 : upd (upd (upd H c (.lst [])) e (.dK [])) p (.lst (L.map fun x => V.ref x.2)) p = some (.lst (L.map fun x => V.ref x.2)) := upd_same
    have hc3 : upd (upd (upd H c (.lst [])) e (.dK [])) p (.lst (L.map fun x => V.ref x.2)) c = some (.lst []) := by walk_at "hp"
    have he3 : upd (upd (upd H c (.lst [])) e (.dK [])) p (.lst (L.map fun x => V.ref x.2)) e = some (.dK []) := by walk_at "hp"
    have hk3 : ∀ x ∈ L, upd (upd (upd H c (.lst [])) e (.dK [])) p (.lst (L.map fun x => V.ref x.2)) x.2 = some (.tup [.str x.1.1, .int x.1.2.1]) := fun x hx => by
      have h1 := hkey x hx
      exact upd_get (ne_of_none h1 hp) h1
    generalize upd (upd (upd H c (.lst [])) e (.dK [])) p (.lst (L.map fun x => V.ref x.2)) = H3 at *
    refine ⟨p, rfl, ⟨_, SqL.of hp3⟩, ?_⟩
    refine loopW (walk_list (xs := L.map fun x => V.ref x.2)) (fun i σ G => ∃ (us : List V) (kvs : List (Key × V)) (v3 v4 v5 : Option V), σ = [some (.ref d), some (.ref c), some (.ref e), v3, v4, v5] ∧ Same H G ∧ TSt H3 G ∧ G p = some (.lst (L.map fun x => V.ref x.2)) ∧ G c = some (.lst us) ∧
      RowsK G us ((keeps ((L.map (·.1)).take i) fun _ => 0).map k3) ∧ G e = some (.dK kvs) ∧ kvs.length ≤ i ∧ ∀ s, (valV kvs (.inr s)).getD (.int 0) = .int (lastOf ((L.map (·.1)).take i) (fun _ => 0) s))
      ⟨[], [], none, none, none, rfl, s3, TSt.refl, hp3, hc3, True.intro, he3, Nat.le_refl _, fun s => rfl⟩ (fun i σ G _ ⟨_, _, _, _, _, _, _, _, h, _⟩ => SqL.of h) ?_ ?_
    · rintro i x σ G G' hi ⟨us, kvs, v3, v4, v5, rfl, sG, tG, hpG, hcG, hRG, heG, hlen, hlast⟩ ⟨rfl, y⟩
      have hi' : i < L.length := by simpa using hi
      have hx : L[i]? = some L[i] := List.getElem?_eq_getElem hi'
      obtain rfl : x = V.ref L[i].2 := by
        rw [List.getElem?_map, hx] at y
        exact (Option.some.inj y).symm
      have hb := tG _ _ (hk3 L[i] (List.getElem_mem hi'))
      have hss : (L.map (·.1))[i]? = some L[i].1 := by rw [List.getElem?_map, hx]; rfl
      generalize L[i] = X at hb hss hx
      obtain ⟨r, b⟩ := X
      replace hb : G' b = some (.tup [.str r.1, .int r.2.1]) := hb
      replace hss : (L.map (·.1))[i]? = some r := hss
      have hrm : r ∈ rs := pR.mem_iff.mp (List.mem_of_getElem? hss)
      have hdG := sG _ _ hd
      have hul : us.length < sizeLine := by
        have h1 := hRG.length
        rw [List.length_map] at h1
        have h2 := keeps_len ((L.map (·.1)).take i) fun _ => 0
        have h3 : ((L.map (·.1)).take i).length ≤ 30 := by simp; omega
        exact small1000 (by omega)
      walk_at "rd"
      intro q1 hq1
      walk_at "rd"
      have nd1 : d ≠ q1 := ne_of_none hdG hq1
      have nc1 : c ≠ q1 := ne_of_none hcG hq1
      have ne1 : e ≠ q1 := ne_of_none heG hq1
      have np1 : p ≠ q1 := ne_of_none hpG hq1
      refine ⟨d, .int r.2.2, rfl, ?_, ?_⟩
      · have := DGet.t (H := upd G' q1 (.tup [.str r.1, .int r.2.1])) (a := d) (b := q1) (kvs := rs.map kv2) (k := k2 r) (by walk_at "hp") upd_same
        rw [val_at ok.dis hrm] at this
        exact this
      walk_at "rd"
      refine ⟨e, rfl, .inl ⟨kvs, .inl (by walk_at "hp")⟩, ?_⟩
      walk_at "rd"
      refine ⟨_, DGet.k (k := .inr r.1) (by walk_at "hp"), ?_⟩
      rw [hlast r.1]
      walk_at "rd"
      have nde : d ≠ e := dne2
      have step : ∀ (G2 : Hp) (us2 : List V), Same H G2 → TSt H3 G2 → G2 p = some (.lst (L.map fun x => V.ref x.2)) → G2 c = some (.lst us2) → RowsK G2 us2 ((keeps ((L.map (·.1)).take (i + 1)) fun _ => 0).map k3) → G2 e = some (.dK kvs) →
          ∃ (a : Addr) (H4 : Hp), V.ref e = .ref a ∧ DPut G2 a (.str r.1) (.int r.2.2) H4 ∧ ∃ (us : List V) (kvs : List (Key × V)) (v3 v4 v5 : Option V), [some (.ref d), some (.ref c), some (.ref e), some (.str r.1), some (.int r.2.1), some (.int r.2.2)] = [some (.ref d), some (.ref c), some (.ref e), v3, v4, v5] ∧ Same H H4 ∧ TSt H3 H4 ∧ H4 p = some (.lst (L.map fun x => V.ref x.2)) ∧ H4 c = some (.lst us) ∧
            RowsK H4 us ((keeps ((L.map (·.1)).take (i + 1)) fun _ => 0).map k3) ∧ H4 e = some (.dK kvs) ∧ kvs.length ≤ i + 1 ∧ ∀ s, (valV kvs (.inr s)).getD (.int 0) = .int (lastOf ((L.map (·.1)).take (i + 1)) (fun _ => 0) s) := by
        intro G2 us2 sG2 tG2 hp2 hc2 hR2 he2
        have tse : TSt G2 (upd G2 e (.dK (putK kvs (.inr r.1) (.int r.2.2)))) := fun t xs ht => by
          have : t ≠ e := ne_kind ht he2 ne_dK
          walk_at "hp"
        refine ⟨e, _, rfl, DPut.k (k := .inr r.1) he2 (small1000 (by omega)), us2, _, _, _, _, rfl, fun b o hb => ?_, tG2.trans tse, by walk_at "hp", by walk_at "hp", hR2.mono tse, upd_same, ?_, fun s => ?_⟩
        · have h1 := sG2 b o hb
          have n1 : b ≠ e := ne_of_none hb eN
          walk_at "hp"
        · have := length_putK kvs (.inr r.1 : Key) (.int r.2.2)
          omega
        · rw [valV_put, take_snoc hss, lastOf_snoc]
          by_cases z : s = r.1
          · subst z
            simp
          · have : ¬ ((.inr s : Key) = .inr r.1) := fun y => z (Sum.inr.inj y)
            rw [if_neg this]
            show _ = V.int (if s = r.1 then _ else _)
            rw [if_neg z]
            exact hlast s
      have ksn : keeps ((L.map (·.1)).take (i + 1)) (fun _ => 0) = keeps ((L.map (·.1)).take i) (fun _ => 0) ++ (if r.2.2 ≠ lastOf ((L.map (·.1)).take i) (fun _ => 0) r.1 then [r] else []) := by rw [take_snoc hss, keeps_snoc]
      have ts1 : TSt G' (upd G' q1 (.tup [.str r.1, .int r.2.1])) := TSt.new hq1
      by_cases z : r.2.2 = lastOf ((L.map (·.1)).take i) (fun _ => 0) r.1
      · refine iteND z ?_
        walk_at "rd"
        refine step _ us (same_new sG hq1) (tG.trans ts1) (by walk_at "hp") (by walk_at "hp") ?_ (by walk_at "hp")
        rw [ksn, if_neg (fun y => y z), List.append_nil]
        exact hRG.mono ts1
      · rw [decide_eq_false z]
        walk_at "rd"
        intro q2 hq2
        walk_at "rd"
        have nc2 : c ≠ q2 := ne_of_none (upd_get nc1 hcG) hq2
        have ne2 : e ≠ q2 := ne_of_none (upd_get ne1 heG) hq2
        have np2 : p ≠ q2 := ne_of_none (upd_get np1 hpG) hq2
        have hc2 : upd (upd G' q1 (.tup [.str r.1, .int r.2.1])) q2 (.tup [.str r.1, .int r.2.1, .int r.2.2]) c = some (.lst us) := by walk_at "hp"
        have ts2 : TSt (upd G' q1 (.tup [.str r.1, .int r.2.1])) (upd (upd G' q1 (.tup [.str r.1, .int r.2.1])) q2 (.tup [.str r.1, .int r.2.1, .int r.2.2])) := TSt.new hq2
        have ts3 := TSt.lst (o := .lst (us ++ [.ref q2])) hc2
        refine step _ (us ++ [.ref q2]) (fun b o hb => ?_) (((tG.trans ts1).trans ts2).trans ts3) (by walk_at "hp") upd_same ?_ (by walk_at "hp")
        · have h1 := sG b o hb
          have n1 : b ≠ c := ne_of_none hb hc
          walk_at "hp"
        · rw [ksn, if_pos z, List.map_append]
          exact (((hRG.mono ts1).mono ts2).mono ts3).snoc ⟨q2, rfl, by walk_at "hp"⟩
    · rintro σ G ⟨us, kvs, v3, v4, v5, rfl, sG, tG, hpG, hcG, hRG, heG, hlen, hlast⟩
      walk_at "rd"
      refine rd_tupOf hcG fun q hq => ?_
      rw [List.take_of_length_le (by simp)] at hRG
      exact k _ q us _ (same_new sG hq) (same_free sG hq) upd_same (hRG.mono (TSt.new hq)) ⟨_, pR, srt, rfl⟩
end
end Sk
end

section
namespace Sk
open PySem L2
local macro_rules | `(tactic| walk_at "kb") => `(tactic| first | exact kb_int_int | exact kb_int_bool | exact kb_int_str | exact kb_int_tuple | exact kb_int_list | exact kb_tuple_int | exact kb_tuple_bool | exact kb_tuple_str | exact kb_tuple_tuple | exact kb_tuple_list | exact kb_list_int | exact kb_list_bool | exact kb_list_str | exact kb_list_tuple | exact kb_list_list | exact kb_bool_int | exact kb_bool_bool | exact kb_bool_str | exact kb_bool_tuple | exact kb_bool_list | exact kb_str_int | exact kb_str_bool | exact kb_str_str | exact kb_str_tuple | exact kb_str_list | exact kb_dict_int | exact kb_dict_bool | exact kb_dict_str | exact kb_dict_tuple | exact kb_dict_list | exact kb_NoneType_int | exact kb_NoneType_bool | exact kb_NoneType_str | exact kb_NoneType_tuple | exact kb_NoneType_list)
local macro_rules | `(tactic| walk_at "hp") => `(tactic| first
  | assumption
  | exact upd_same
  | (refine' upd_get ?n ?e; (case n => walk_at "ne"); (case e => walk_at "hp"))
  | (refine' But.get (by assumption) ?n ?e; (case n => walk_at "ne"); (case e => walk_at "hp"))
  | (refine' Ext.get (by assumption) ?n ?e; (case n => walk_at "ne"); (case e => walk_at "hp"))
  | (refine' same_get (by assumption) ?e; (case e => walk_at "hp")))
local macro_rules | `(tactic| walk_at "ne") => `(tactic| first
  | assumption
  | (apply Ne.symm; assumption)
  | (refine' ne_of_none ?h (by assumption); (case h => walk_at "hp"))
  | (apply Ne.symm; refine' ne_of_none ?h (by assumption); (case h => walk_at "hp")))
local macro_rules | `(tactic| walk_at "sd") => `(tactic| first
  | (show (0 : Int) < _; omega)
  | (simp only [CMul, CDiv]; omega)
  | exact ⟨by omega, by omega⟩)
local macro_rules | `(tactic| walk_at "rd1") => `(tactic| first
  | with_reducible refine' rd_c ?_
  | ((with_reducible refine' rd_var ?h ?_); (case h => exact rfl))
  | with_reducible refine' rd_op ?_
  | with_reducible refine' rd_seq ?_
  | with_reducible refine' rd_asg ?_
  | with_reducible refine' rd_gName ?_
  | with_reducible refine' rd_I0 ?_
  | ((with_reducible refine' rd_I ?c ?_); (case c => walk_at "sd"))
  | with_reducible refine' rd_eqI ?_
  | with_reducible refine' rd_neI ?_
  | with_reducible refine' rd_U ?_
  | with_reducible refine' rd_un ?_
  | with_reducible refine' rd_ret ?_
  | with_reducible refine' rd_drop ?_
  | with_reducible refine' rd_next ?_
  | with_reducible refine' rd_ifS ?_
  | with_reducible refine' rd_test ?_
  | with_reducible refine' rd_bl ?_
  | with_reducible refine' rd_nil ?_
  | with_reducible refine' rd_cons ?_
  | with_reducible refine' rd_tup ?_
  | with_reducible refine' rd_lst ?_
  | with_reducible refine' rd_call ?_
  | with_reducible refine' rd_cb ?_
  | with_reducible refine' rd_par ?_
  | with_reducible refine' rd_par2 ?_
  | with_reducible refine' rd_and ?_
  | with_reducible refine' rd_or ?_
  | with_reducible refine' rd_not ?_
  | with_reducible refine' rd_andV ?_
  | with_reducible refine' rd_orV ?_
  | with_reducible refine' rd_notV ?_
  | with_reducible refine' rd_if ?_
  | with_reducible refine' rd_gSub ?_
  | ((with_reducible refine' rd_ixL ?h ?e ?_); (case h => walk_at "hp"); (case e => exact rfl))
  | ((with_reducible refine' rd_ixT ?h ?e ?_); (case h => walk_at "hp"); (case e => exact rfl))
  | ((with_reducible refine' rd_setL ?h ?e ?_); (case h => walk_at "hp"); (case e => exact rfl))
  | ((with_reducible refine' rd_append ?h ?e ?_); (case h => walk_at "hp"); (case e => assumption))
  | (with_reducible refine' rd_bmL ?_)
  | ((with_reducible refine' And.intro (tyL ?h) ?_); (case h => walk_at "hp"))
  | ((with_reducible refine' And.intro (len_ok ?h) ?_); (case h => exact rfl))
  | with_reducible refine' rd_ex1 ?_
  | with_reducible refine' rd_ex2 ?_
  | with_reducible refine' rd_int1b ?_
  | ((with_reducible refine' rd_isiI ?e ?_); (case e => walk_at "kb"))
  | ((with_reducible refine' rd_isiB ?e ?_); (case e => walk_at "kb"))
  | ((with_reducible refine' rd_isiT ?h ?e ?_); (case h => walk_at "hp"); (case e => walk_at "kb"))
  | ((with_reducible refine' rd_isiL ?h ?e ?_); (case h => walk_at "hp"); (case e => walk_at "kb"))
  | ((with_reducible refine' rd_lenL ?h ?_); (case h => walk_at "hp"))
  | ((with_reducible refine' rd_lenT ?h ?_); (case h => walk_at "hp"))
  | ((with_reducible refine' rd_gTup ?h ?e ?_); (case h => walk_at "hp"); (case e => exact rfl))
  | with_reducible refine' rd_gCons ?_
  | with_reducible refine' rd_gNil ?_
  | with_reducible refine' rd_yes ?_
  | with_reducible refine' rd_for ?_
  | with_reducible refine' rd_lc ?_
  | with_reducible refine' rd_rng1 ?_
  | with_reducible refine' rd_iL ?_
  | with_reducible refine' rd_iT ?_
  | with_reducible refine' rd_iE ?_
  | with_reducible refine' rd_iZ ?_
  | ((with_reducible refine' rd_iL' ?h ?_); (case h => walk_at "hp"))
  | ((with_reducible refine' rd_iT' ?h ?_); (case h => walk_at "hp"))
  | ((with_reducible refine' rd_iE' ?h ?_); (case h => walk_at "hp"))
  | ((with_reducible refine' rd_iZ' ?h1 ?h2 ?_); (case h1 => walk_at "hp"); (case h2 => walk_at "hp"))
  | with_reducible refine' iteT ?_
  | with_reducible refine' iteF ?_)
local macro_rules | `(tactic| walk_at "rd") => `(tactic| repeat walk_at "rd1")
local macro_rules | `(tactic| walk_at "rd1") => `(tactic| first | with_reducible refine' rd_tB ?_ | with_reducible refine' iteNT ?_ | with_reducible refine' iteNF ?_ | with_reducible refine' rd_iEA (tam_cons tem_var tam_nil) ?_ | with_reducible refine' rd_iSA tem_var ?_ | with_reducible refine' rd_iZA (tam_cons tem_var (tam_cons tem_var tam_nil)) ?_)
local macro_rules | `(tactic| walk_at "rd1") => `(tactic| first | with_reducible refine' rd_eqS ?_ | with_reducible refine' rd_neS ?_ | ((with_reducible refine' rd_isiS ?e ?_); (case e => walk_at "kb")) | with_reducible refine' rd_inS ?_ | with_reducible refine' rd_iS ?_ | with_reducible refine' rd_iS' ?_)
section
variable {K : PySem.W.Frag} {σ : St} {H : Hp} {Q : VK} {D : Ends}
theorem rd_isN {ta : TE} (k : ta σ H fun x H1 => Q (.bl (decide (x = .non))) H1) : tIsN ta σ H Q := k
theorem rd_fld {ta : TE} {f : Str} (k : ta σ H fun x H1 => ∃ a C dx fs v, x = .ref a ∧ H1 a = some (.ins C dx fs) ∧ Cls K C ∧ NoAttr K C f ∧ fs.lookup f = some v ∧ Q v H1) : tFld K ta f σ H Q := k
theorem rd_sfld {ta tv : TE} {f : Str} (k : tv σ H fun y H1 => ta σ H1 fun x H2 => ∃ a C dx fs, x = .ref a ∧ H2 a = some (.ins C dx fs) ∧ Cls K C ∧ NoAttr K C f ∧ fs.length < 1000 ∧ D.nx σ (upd H2 a (.ins C dx (putF f y fs)))) : sFld K ta tv f D σ H := k
theorem rd_meth {C : Addr} {m : Str} {sp : Sp} {dvs : List V} {E : XK} {ta : TE} {t : TA} (k : ta σ H fun x H1 => ∃ a dx fs, x = .ref a ∧ H1 a = some (.ins C dx fs) ∧ fs.lookup m = none ∧ t σ H1 fun vs H2 => sp (x :: (vs ++ dvs)) H2 Q E) : tMeth C m sp dvs E ta t σ H Q := k
theorem rd_sc {P : Program} {w : World} {wi : TI} {g : TG} {tt : TT} {te : TE} {vs : List Nat} (k : wi σ H fun J H1 => ∀ D, H1 D = none → ScW P w J g tt te vs σ H1 D fun H2 => Q (.ref D) H2) : tScT P w wi g tt te vs σ H Q := k
end
local macro_rules | `(tactic| walk_at "rd1") => `(tactic| first | with_reducible refine' rd_isN ?_ | with_reducible refine' rd_fld ?_ | with_reducible refine' rd_sfld ?_ | with_reducible refine' rd_meth ?_ | with_reducible refine' rd_sc ?_)
/-- a set comprehension of texts: A tells the texts so far -/
theorem scA {P : Program} {w : World} {J : It} {n : Nat} {G : Hp → Prop} {Y : Nat → Hp → V → Hp → Prop} (wk : Walk J n G Y) {g : TG} {tt : TT} {te : TE} {vs : List Nat} {σ : St} {H0 : Hp} {D : Addr} {Qd : Hp → Prop} (A : Nat → List Str → Prop) (hD : H0 D = none) (hn : n ≤ 1000) (h0 : A 0 [])
    (hG : ∀ H', Ext D H0 H' → G H')
    (hs : ∀ i x H H' l (M : Hp → Prop), i < n → Ext D H0 H → H D = some (TxO P w D l) → A i l → Y i H x H' →
      (∀ H4 k, Ext D H0 H4 → H4 D = some (TxO P w D l) → A (i + 1) (if k ∈ l then l else k :: l) → ∃ (k' : Str) (l' : List Str), V.str k = .str k' ∧ H4 D = some (TxO P w D l') ∧ l'.length + 1 < scanBound ∧ M (upd H4 D (TxO P w D (if k' ∈ l' then l' else k' :: l')))) →
      g x (wipe σ vs) H' fun σ2 H2 => wipe σ2 vs = wipe σ vs ∧ tt σ2 H2 fun b H3 => if b = true then te σ2 H3 fun y H4 => ∃ (k' : Str) (l' : List Str), y = .str k' ∧ H4 D = some (TxO P w D l') ∧ l'.length + 1 < scanBound ∧ M (upd H4 D (TxO P w D (if k' ∈ l' then l' else k' :: l'))) else M H3)
    (hd : ∀ H' l, Ext D H0 H' → H' D = some (TxO P w D l) → l.length ≤ n → A n l → Qd H') : ScW P w J g tt te vs σ H0 D Qd := by
  refine ⟨fun i m H => m = n - i ∧ i ≤ n ∧ ∃ l, Ext D H0 H ∧ H D = some (TxO P w D l) ∧ l.length ≤ i ∧ A i l, ⟨n, by simp, Nat.zero_le _, [], Ext.new Ext.refl hD, upd_same, Nat.le_refl _, h0⟩, ?_⟩
  rintro i m H ⟨rfl, hi, l, e, q, len, a⟩
  have gg := hG H e
  by_cases lt : i < n
  · refine .inr ⟨wk.goes i H lt gg, fun H' => ∃ l, Ext D H0 H' ∧ H' D = some (TxO P w D l) ∧ l.length ≤ i + 1 ∧ A (i + 1) l, fun H' z => ⟨n - (i + 1), by omega, rfl, lt, z⟩, fun x H' y => ?_⟩
    refine hs i x H H' l _ lt e q a (wk.yields i H x H' lt gg y) fun H4 k e4 q4 a4 => ⟨k, l, rfl, q4, by unfold scanBound; omega, _, ?_, upd_same, ?_, a4⟩
    · intro b o nb eb
      rw [upd_ne nb]
      exact e4 b o nb eb
    · split
      · omega
      · show l.length + 1 ≤ i + 1
        omega
  · have : i = n := by omega
    subst this
    exact .inl ⟨wk.stops H gg, hd H l e q len a⟩
/-- what a class Stakes must have -/
structure ClsS (K : PySem.W.Frag) (C : Addr) : Prop where
  cls : Cls K C
  rows : NoAttr K C "rows"
/-- a method that keeps its promise -/
structure DefM (P : Program) (w : World) (K : PySem.W.Frag) (mg : Str → Option Value) (base : Heap) (C : Addr) (m : Str) (k : Nat) (f : Addr) (fd : FuncData) (ps : List Str) (sp : Sp) : Prop where
  ok : FnOk P w K mg base CX0 k f fd ps sp
  me : Meth K C m f
  bd : Binds K fd ps []
/-- Stakes that keep these rows -/
def StakesAt (C : Addr) (H : Hp) (o : Addr) (cs : List Rw) : Prop := ∃ (dx t : Addr) (us : List V), H o = some (.ins C dx [("rows", .ref t)]) ∧ H t = some (.tup us) ∧ RowsK H us (cs.map k3) ∧ cs.length ≤ 30
theorem StakesAt.mono {C : Addr} {H G : Hp} {o : Addr} {cs : List Rw} (h : StakesAt C H o cs) (s : Same H G) : StakesAt C G o cs := by
  obtain ⟨dx, t, us, h1, h2, h3, h4⟩ := h
  exact ⟨dx, t, us, s _ _ h1, s _ _ h2, h3.same s, h4⟩
theorem lk_rows {t : V} : ([(("rows" : Str), t)] : List (Str × V)).lookup ("rows" : Str) = some t := by simp [List.lookup]
theorem lk_no {t : V} {m : Str} (h : (m == ("rows" : Str)) = false) : ([(("rows" : Str), t)] : List (Str × V)).lookup m = none := by simp [List.lookup, h]
theorem ne_ti {xs : List V} {C dx : Addr} {fs : List (Str × V)} : HO.tup xs ≠ HO.ins C dx fs := fun e => by cases e
section
variable {P : Program} {w : World} {K : PySem.W.Frag} {mg : Str → Option Value} {base : Heap}

abbrev sinit : Stmt := inClass (top 24) 0
theorem scinit : FnScope ["self", "rows"] ["self", "rows"] (defScope sinit) := ⟨rfl, rfl, rfl, by decide +kernel, rfl, by decide +kernel, by decide +kernel⟩
def spInit (C : Addr) : Sp := fun vs H Q _ => ∃ (o dx : Addr) (v : V) (rs : List Rw), vs = [.ref o, v] ∧ H o = some (.ins C dx []) ∧ ((v = .non ∧ rs = []) ∨ ∃ l us, v = .ref l ∧ Seq H l us ∧ RowsK H us (rs.map k3)) ∧ RowsOk rs ∧
  ∀ H' cs, Kept0 rs cs → StakesAt C H' o cs → (∀ b u, H b = some u → b ≠ o → H' b = some u) → Q .non H'
theorem ok_init {C f fA fC : Addr} {fd fdA fdC : FuncData} (F : FunD K "__init__" "Stakes.__init__" (defArgs sinit) (defBody sinit) (defScope sinit) [.non] [] f fd) (T : Top mg) (CL : ClsS K C) (dAmts : Def P w K mg base "amounts_of" 4 fA fdA ["rows"] spAmts)
    (dChgs : Def P w K mg base "changes_of" 4 fC fdC ["amounts"] spChgs) : FnOk P w K mg base CX0 5 f fd ["self", "rows"] (spInit C) := by
  refine F.ok scinit (fun vs H Q E h => ?_) (fun cdv A outer s H vs Q E hr h => ?_)
  · obtain ⟨o, dx, v, rs, rfl, _⟩ := h
    rfl
  · obtain ⟨o, dx, v, rs, rfl, ho, hv, ok, k⟩ := h
    refine ⟨_, (pss_one (ps_fld (pv 0) (pe_call dChgs.ok (hr.mono (by decide)) (by rfl) dChgs.mg dChgs.kp dChgs.bd .nil pass0 (pa_cons (pe_call dAmts.ok (hr.mono (by decide)) (by rfl) dAmts.mg dAmts.kp dAmts.bd .nil pass0 (pa_cons (pe_ifExp (pt_cmp (pc_isN (pv 1))) (pe_tup pa_nil) (pv 1)) pa_nil)) pa_nil)) rfl)), ?_⟩
    walk_at "rd"
    have fin : ∀ (H1 : Hp) (l : Addr) (us : List V), Same H H1 → Seq H1 l us → RowsK H1 us (rs.map k3) → spAmts [.ref l] H1 (fun x H1 => tNil (L2.start ["self", "rows"] [V.ref o, v]) H1 fun xs H2 => spChgs (x :: xs ++ []) H2 (fun y H1 => tVar 0 (L2.start ["self", "rows"] [V.ref o, v]) H1 fun x H2 => ∃ a C' dx' fs, x = .ref a ∧ H2 a = some (.ins C' dx' fs) ∧ Cls K C' ∧ NoAttr K C' "rows" ∧ fs.length < 1000 ∧ Q .non (upd H2 a (.ins C' dx' (putF "rows" y fs)))) E0) E0 := by
      intro H1 l us s1 hs hR
      refine ⟨l, us, rs, rfl, hs, hR, ok, fun H2 d s2 hd0 hd => ⟨d, rs, rfl, hd, ok, fun H3 t us' cs s3 ht0 ht hR3 kp => ?_⟩⟩
      have sA := (s1.trans s2).trans s3
      refine ⟨.ref o, rfl, o, C, dx, [], rfl, sA _ _ ho, CL.cls, CL.rows, by decide, ?_⟩
      have hlen : cs.length ≤ 30 := by
        obtain ⟨ss, p1, _, rfl⟩ := kp
        have := keeps_len ss fun _ => 0
        have := p1.length_eq
        have := ok.len
        omega
      have to : t ≠ o := ne_kind ht (sA _ _ ho) ne_ti
      have tso : TSt H3 (upd H3 o (.ins C dx (putF "rows" (.ref t) []))) := fun q xs hq => by
        have : q ≠ o := ne_kind hq (sA _ _ ho) ne_ti
        walk_at "hp"
      refine k _ cs kp ⟨dx, t, us', upd_same, by walk_at "hp", hR3.mono tso, hlen⟩ fun b u hb nb => ?_
      have := sA b u hb
      walk_at "hp"
    rcases hv with ⟨rfl, rfl⟩ | ⟨l, us, rfl, hs, hR⟩
    · refine ite_dec (fun _ => ?_) (fun c => (c rfl).elim)
      walk_at "rd"
      intro p hp
      exact fin _ p [] (same_new (Same.refl _) hp) (.inr upd_same) True.intro
    · refine ite_dec (fun c => by cases c) (fun _ => ?_)
      walk_at "rd"
      exact fin H l us (Same.refl _) hs hR

abbrev schanges : Stmt := inClass (top 24) 2
theorem scchanges : FnScope ["self", "sort", "name", "day", "amount"] ["self", "sort"] (defScope schanges) := ⟨rfl, rfl, rfl, by decide +kernel, rfl, by decide +kernel, by decide +kernel⟩
def spChanges (C : Addr) : Sp := fun vs H Q _ => ∃ (o : Addr) (z : Str) (cs : List Rw), vs = [.ref o, .str z] ∧ StakesAt C H o cs ∧ IsName z ∧ ∀ H' t us, Same H H' → H t = none → H' t = some (.tup us) → RowsK H' us ((ofSort z cs).map kp2) → Q (.ref t) H'
theorem ok_changes {C f fN : Addr} {fd fdN : FuncData} (F : Fun K "changes" "Stakes.changes" schanges f fd) (T : Top mg) (CL : ClsS K C) (dCName : Def P w K mg base "check_name" 2 fN fdN ["name"] spCName) : FnOk P w K mg base CX0 3 f fd ["self", "sort"] (spChanges C) := by
  refine F.ok scchanges (fun vs H Q E h => ?_) (fun cdv A outer s H vs Q E hr h => ?_)
  · obtain ⟨o, z, cs, rfl, _⟩ := h
    rfl
  · obtain ⟨o, z, cs, rfl, ⟨dx, t, us, ho, ht, hR, hl⟩, hz, k⟩ := h
    have lu : us.length = cs.length := by rw [hR.length, List.length_map]
    refine ⟨_, (pss_cons (ps_expr (pe_call dCName.ok (hr.mono (by decide)) (by rfl) dCName.mg dCName.kp dCName.bd .nil pass0 (pa_cons (pv 1) pa_nil))) 
      (pss_one (ps_ret (pe_callTy call_tuple_of (by rfl) T.tuple (by decide +kernel) (pa_cons (pe_lc (own := [("name", 2), ("day", 3), ("amount", 4)]) rfl scchanges.nd (pi_tupK (K := K) rfl (pe_fld (pv 0) rfl)) (blkOk_by (N := ["self", "sort", "name", "day", "amount"]) (sc := defScope schanges) (by decide +kernel)) (fun _ _ _ _ _ => (pg_tupK (K := K) (n := 3) rfl (by rfl) (pgs_cons (pg_name (i := 2) scchanges.nd rfl (by first | exact Or.inl rfl | exact Or.inr rfl)) (pgs_cons (pg_name (i := 3) scchanges.nd rfl (by first | exact Or.inl rfl | exact Or.inr rfl)) (pgs_cons (pg_name (i := 4) scchanges.nd rfl (by first | exact Or.inl rfl | exact Or.inr rfl)) pgs_nil))))) (fun _ _ _ _ _ => (pts_one (pt_cmpR op_eq (pv 2) (pv 1) (nomark _)))) (fun _ _ _ _ _ => (pe_tup (pa_cons (pv 3) (pa_cons (pv 4) pa_nil))))) pa_nil))))), ?_⟩
    walk_at "rd"
    refine ⟨z, rfl, hz, fun H1 s1 => ?_⟩
    walk_at "rd"
    have ht1 := s1 _ _ ht
    refine ⟨o, C, dx, _, .ref t, rfl, s1 _ _ ho, CL.cls, CL.rows, lk_rows, ?_⟩
    walk_at "rd"
    intro D hD
    refine lcA (p := D) (walk_tup (xs := us)) (fun i acc G => RowsK G acc ((ofSort z (cs.take i)).map kp2)) hD (by omega) True.intro (fun H' e => SqT.of (e.get (ne_of_none ht1 hD) ht1)) ?_ ?_
    · rintro i x G G' acc M hi e q la a ⟨rfl, y⟩ k1 k2
      obtain ⟨r, tt, hr', rfl, htt⟩ := rowsK_at ((hR.same s1).mono (e.tsn hD)) y
      replace htt : G' tt = some (.tup [.str r.1, .int r.2.1, .int r.2.2]) := htt
      walk_at "rd"
      refine ⟨rfl, ?_⟩
      walk_at "rd"
      have hsn : ofSort z (cs.take (i + 1)) = ofSort z (cs.take i) ++ (if r.1 = z then [r.2] else []) := by
        rw [take_snoc hr']
        unfold ofSort
        rw [List.filter_append, List.map_append]
        by_cases c : r.1 = z <;> simp [c]
      refine ite_dec (fun c => ?_) (fun c => ?_)
      · walk_at "rd"
        intro q1 hq1
        have nD : D ≠ q1 := ne_of_none q hq1
        refine k1 _ _ (e.new hq1) (by walk_at "hp") ?_
        rw [hsn, if_pos c, List.map_append]
        have ts1 : TSt G' (upd G' q1 (.tup [.int r.2.1, .int r.2.2])) := TSt.new hq1
        have hD1 : upd G' q1 (.tup [.int r.2.1, .int r.2.2]) D = some (.lst acc) := by walk_at "hp"
        have ts2 := TSt.lst (o := .lst (acc ++ [.ref q1])) hD1
        exact ((a.mono ts1).mono ts2).snoc ⟨q1, rfl, by walk_at "hp"⟩
      · refine k2 _ e q ?_
        rw [hsn, if_neg c, List.append_nil]
        exact a
    · intro G acc e q la a
      rw [List.take_of_length_le (by omega)] at a
      walk_at "rd"
      have s2 : Same H G := fun b o hb => e b o (ne_of_none (s1 _ _ hb) hD) (s1 _ _ hb)
      refine rd_tupOf q fun p hp => ?_
      exact k _ p acc (same_new s2 hp) (same_free s2 hp) upd_same (a.mono (TSt.new hp))

abbrev sstake : Stmt := inClass (top 24) 1
theorem scstake : FnScope ["self", "sort", "day", "amount", "change"] ["self", "sort", "day"] (defScope sstake) := ⟨rfl, rfl, rfl, by decide +kernel, rfl, by decide +kernel, by decide +kernel⟩
def spStake (C : Addr) : Sp := fun vs H Q _ => ∃ (o : Addr) (z : Str) (d : Int) (cs : List Rw), vs = [.ref o, .str z, .int d] ∧ StakesAt C H o cs ∧ IsName z ∧ 0 ≤ d ∧ d ≤ 9999 ∧ ∀ H', Same H H' → Q (.int (upTo (ofSort z cs) d 0)) H'
theorem upTo_snoc (ds : List (Int × Int)) (c : Int × Int) (d a : Int) : upTo (ds ++ [c]) d a = if c.1 ≤ d then c.2 else upTo ds d a := by simp [upTo]
theorem ok_stake {C f fN fD fM : Addr} {fd fdN fdD fdM : FuncData} (F : Fun K "stake" "Stakes.stake" sstake f fd) (T : Top mg) (CL : ClsS K C) (dCName : Def P w K mg base "check_name" 2 fN fdN ["name"] spCName) (dCDay : Def P w K mg base "check_day" 3 fD fdD ["day"] spCDay)
    (mChg : DefM P w K mg base C "changes" 3 fM fdM ["self", "sort"] (spChanges C)) : FnOk P w K mg base CX0 4 f fd ["self", "sort", "day"] (spStake C) := by
  refine F.ok scstake (fun vs H Q E h => ?_) (fun cdv A outer s H vs Q E hr h => ?_)
  · obtain ⟨o, z, d, cs, rfl, _⟩ := h
    rfl
  · obtain ⟨o, z, d, cs, rfl, sa, hz, h0, h1, k⟩ := h
    refine ⟨_, (pss_cons (ps_expr (pe_call dCName.ok (hr.mono (by decide)) (by rfl) dCName.mg dCName.kp dCName.bd .nil pass0 (pa_cons (pv 1) pa_nil))) 
      (pss_cons (ps_expr (pe_call dCDay.ok (hr.mono (by decide)) (by rfl) dCDay.mg dCDay.kp dCDay.bd .nil pass0 (pa_cons (pv 2) pa_nil))) 
      (pss_cons (ps_set (i := 3) scstake.nd rfl (by first | exact Or.inl rfl | exact Or.inr rfl) pe_int) 
      (pss_cons (ps_for PassesOwn.never rfl (pi_tupK (K := K) rfl (pe_meth (pl := _) (pv 0) CL.cls mChg.me mChg.ok (hr.mono (by decide)) mChg.bd .nil pass0 (pa_cons (pv 1) pa_nil))) (pg_name (i := 4) scstake.nd rfl (by first | exact Or.inl rfl | exact Or.inr rfl)) 
        (pss_one (ps_if (pt_cmpR op_le (pe_ix (ix_tupK (K := K) rfl) (pv 4) pe_int (fun _ _ => rfl)) (pv 2) (nomark _)) 
          (pss_one (ps_set (i := 3) scstake.nd rfl (by first | exact Or.inl rfl | exact Or.inr rfl) (pe_ix (ix_tupK (K := K) rfl) (pv 4) pe_int (fun _ _ => rfl)))) pss_nil))) 
      (pss_one (ps_ret (pv 3))))))), ?_⟩
    walk_at "rd"
    refine ⟨z, rfl, hz, fun H1 s1 => ?_⟩
    walk_at "rd"
    refine ⟨d, rfl, h0, h1, ?_⟩
    walk_at "rd"
    have sa1 := sa.mono s1
    obtain ⟨dx, t, us, ho, ht, hR, hl⟩ := id sa1
    refine ⟨o, dx, _, rfl, ho, lk_no (by decide +kernel), ?_⟩
    walk_at "rd"
    refine ⟨o, z, cs, rfl, sa1, hz, fun H2 t2 us2 s2 ht0 ht2 hR2 => ?_⟩
    have lu : us2.length = (ofSort z cs).length := by rw [hR2.length, List.length_map]
    refine ⟨t2, rfl, ⟨_, SqT.of ht2⟩, ?_⟩
    refine loopW (walk_tup (xs := us2)) (fun i σ G => ∃ v4 : Option V, σ = [some (.ref o), some (.str z), some (.int d), some (.int (upTo ((ofSort z cs).take i) d 0)), v4] ∧ Same H2 G) ⟨none, rfl, Same.refl _⟩ (fun i σ G _ ⟨_, _, sG⟩ => SqT.of (sG _ _ ht2)) ?_ ?_
    · rintro i x σ G G' hi ⟨v4, rfl, sG⟩ ⟨rfl, y⟩
      obtain ⟨c, tt, hc, rfl, htt⟩ := rowsK_at (hR2.same sG) y
      replace htt : G' tt = some (.tup [.int c.1, .int c.2]) := htt
      have hsn : upTo ((ofSort z cs).take (i + 1)) d 0 = if c.1 ≤ d then c.2 else upTo ((ofSort z cs).take i) d 0 := by rw [take_snoc hc, upTo_snoc]
      walk_at "rd"
      refine ite_dec (fun e => ?_) (fun e => ?_)
      · walk_at "rd"
        refine ⟨some (.ref tt), ?_, sG⟩
        rw [hsn, if_pos e]
        rfl
      · walk_at "rd"
        refine ⟨some (.ref tt), ?_, sG⟩
        rw [hsn, if_neg e]
        rfl
    · rintro σ G ⟨v4, rfl, sG⟩
      rw [lu, List.take_length]
      walk_at "rd"
      exact k G ((s1.trans s2).trans sG)

abbrev ssorts : Stmt := inClass (top 24) 3
theorem scsorts : FnScope ["self", "row"] ["self"] (defScope ssorts) := ⟨rfl, rfl, rfl, by decide +kernel, rfl, by decide +kernel, by decide +kernel⟩
def spSorts (C : Addr) : Sp := fun vs H Q _ => ∃ (o : Addr) (cs : List Rw), vs = [.ref o] ∧ StakesAt C H o cs ∧ ∀ (H' : Hp) (t : Addr) (ys : List Str), Same H H' → H t = none → H' t = some (.tup (ys.map V.str)) → ys.Nodup → (ys.Pairwise fun a b => leS a b = true) → (∀ z, z ∈ ys ↔ ∃ r ∈ cs, r.1 = z) → Q (.ref t) H'
theorem ok_sorts {C f : Addr} {fd : FuncData} (F : Fun K "sorts" "Stakes.sorts" ssorts f fd) (T : Top mg) (CL : ClsS K C) : FnOk P w K mg base CX0 1 f fd ["self"] (spSorts C) := by
  refine F.ok scsorts (fun vs H Q E h => ?_) (fun cdv A outer s H vs Q E hr h => ?_)
  · obtain ⟨o, cs, rfl, _⟩ := h
    rfl
  · obtain ⟨o, cs, rfl, ⟨dx, t, us, ho, ht, hR, hl⟩, k⟩ := h
    have lu : us.length = cs.length := by rw [hR.length, List.length_map]
    refine ⟨_, (pss_one (ps_ret (pe_callTy call_tuple_of (by rfl) T.tuple (by decide +kernel) (pa_cons (pe_callB (cr_sortedTx rfl hr.units) (by rfl) T.sorted (by decide +kernel) (pa_cons (pe_scT (own := [("row", 1)]) (tt := tYes) rfl scsorts.nd (pi_tupK (K := K) rfl (pe_fld (pv 0) rfl)) (blkOk_by (N := ["self", "row"]) (sc := defScope ssorts) (by decide +kernel)) (fun _ _ _ _ _ => (pg_name (i := 1) scsorts.nd rfl (by first | exact Or.inl rfl | exact Or.inr rfl))) (fun _ _ _ _ _ => pts_nil) (fun _ _ _ _ _ => (pe_ix (ix_tupK (K := K) rfl) (pv 1) pe_int (fun _ _ => rfl)))) pa_nil)) pa_nil)))), ?_⟩
    walk_at "rd"
    refine ⟨o, C, dx, _, .ref t, rfl, ho, CL.cls, CL.rows, lk_rows, ?_⟩
    walk_at "rd"
    intro D hD
    refine scA (walk_tup (xs := us)) (fun i l => l.Nodup ∧ ∀ z, z ∈ l ↔ ∃ r ∈ cs.take i, r.1 = z) hD (by omega) ⟨List.nodup_nil, by simp⟩ (fun H' e => SqT.of (e.get (ne_of_none ht hD) ht)) ?_ ?_
    · rintro i x G G' l M hi e q ⟨nd, mem⟩ ⟨rfl, y⟩ k1
      obtain ⟨r, tt, hr', rfl, htt⟩ := rowsK_at (hR.mono (e.tsn hD)) y
      replace htt : G' tt = some (.tup [.str r.1, .int r.2.1, .int r.2.2]) := htt
      walk_at "rd"
      refine ⟨rfl, ?_⟩
      walk_at "rd"
      refine k1 _ _ e q ⟨?_, fun z => ?_⟩
      · split
        · exact nd
        · rename_i c
          exact List.nodup_cons.mpr ⟨c, nd⟩
      · rw [take_snoc hr']
        have : (∃ x ∈ cs.take i ++ [r], x.1 = z) ↔ (z ∈ l ∨ r.1 = z) := by
          rw [mem z]
          simp only [List.mem_append, List.mem_singleton]
          constructor
          · rintro ⟨x, h | rfl, h2⟩
            · exact .inl ⟨x, h, h2⟩
            · exact .inr h2
          · rintro (⟨x, h, h2⟩ | h)
            · exact ⟨x, .inl h, h2⟩
            · exact ⟨r, .inr rfl, h⟩
        rw [this]
        split
        · rename_i c
          exact ⟨.inl, fun h => h.elim id fun e => e ▸ c⟩
        · rw [List.mem_cons]
          exact ⟨fun h => h.elim (fun e => .inr e.symm) .inl, fun h => h.elim .inr fun e => .inl e.symm⟩
    · rintro G l e q len ⟨nd, mem⟩
      rw [List.take_of_length_le (by omega)] at mem
      walk_at "rd"
      have s1 : Same H G := fun b o hb => e b o (ne_of_none hb hD) hb
      refine ⟨D, l, rfl, q, by omega, fun p ys pm srt hp => ?_⟩
      have s2 : Same H (upd G p (.lst (ys.map V.str))) := same_new s1 hp
      walk_at "rd"
      refine rd_tupOf upd_same fun p2 hp2 => ?_
      exact k _ p2 ys (same_new s2 hp2) (same_free s2 hp2) upd_same (pm.nodup_iff.mpr nd) srt fun z => by rw [pm.mem_iff, mem z]
end
end Sk
end

section
namespace Sk
open PySem L2
local macro_rules | `(tactic| walk_at "kb") => `(tactic| first | exact kb_int_int | exact kb_int_bool | exact kb_int_str | exact kb_int_tuple | exact kb_int_list | exact kb_tuple_int | exact kb_tuple_bool | exact kb_tuple_str | exact kb_tuple_tuple | exact kb_tuple_list | exact kb_list_int | exact kb_list_bool | exact kb_list_str | exact kb_list_tuple | exact kb_list_list | exact kb_bool_int | exact kb_bool_bool | exact kb_bool_str | exact kb_bool_tuple | exact kb_bool_list | exact kb_str_int | exact kb_str_bool | exact kb_str_str | exact kb_str_tuple | exact kb_str_list | exact kb_dict_int | exact kb_dict_bool | exact kb_dict_str | exact kb_dict_tuple | exact kb_dict_list | exact kb_NoneType_int | exact kb_NoneType_bool | exact kb_NoneType_str | exact kb_NoneType_tuple | exact kb_NoneType_list)
local macro_rules | `(tactic| walk_at "hp") => `(tactic| first
  | assumption
  | exact upd_same
  | (refine' upd_get ?n ?e; (case n => walk_at "ne"); (case e => walk_at "hp"))
  | (refine' But.get (by assumption) ?n ?e; (case n => walk_at "ne"); (case e => walk_at "hp"))
  | (refine' Ext.get (by assumption) ?n ?e; (case n => walk_at "ne"); (case e => walk_at "hp"))
  | (refine' same_get (by assumption) ?e; (case e => walk_at "hp")))
local macro_rules | `(tactic| walk_at "ne") => `(tactic| first
  | assumption
  | (apply Ne.symm; assumption)
  | (refine' ne_of_none ?h (by assumption); (case h => walk_at "hp"))
  | (apply Ne.symm; refine' ne_of_none ?h (by assumption); (case h => walk_at "hp")))
local macro_rules | `(tactic| walk_at "sd") => `(tactic| first
  | (show (0 : Int) < _; omega)
  | (simp only [CMul, CDiv]; omega)
  | exact ⟨by omega, by omega⟩)
local macro_rules | `(tactic| walk_at "rd1") => `(tactic| first
  | with_reducible refine' rd_c ?_
  | ((with_reducible refine' rd_var ?h ?_); (case h => exact rfl))
  | with_reducible refine' rd_op ?_
  | with_reducible refine' rd_seq ?_
  | with_reducible refine' rd_asg ?_
  | with_reducible refine' rd_gName ?_
  | with_reducible refine' rd_I0 ?_
  | ((with_reducible refine' rd_I ?c ?_); (case c => walk_at "sd"))
  | with_reducible refine' rd_eqI ?_
  | with_reducible refine' rd_neI ?_
  | with_reducible refine' rd_U ?_
  | with_reducible refine' rd_un ?_
  | with_reducible refine' rd_ret ?_
  | with_reducible refine' rd_drop ?_
  | with_reducible refine' rd_next ?_
  | with_reducible refine' rd_ifS ?_
  | with_reducible refine' rd_test ?_
  | with_reducible refine' rd_bl ?_
  | with_reducible refine' rd_nil ?_
  | with_reducible refine' rd_cons ?_
  | with_reducible refine' rd_tup ?_
  | with_reducible refine' rd_lst ?_
  | with_reducible refine' rd_call ?_
  | with_reducible refine' rd_cb ?_
  | with_reducible refine' rd_par ?_
  | with_reducible refine' rd_par2 ?_
  | with_reducible refine' rd_and ?_
  | with_reducible refine' rd_or ?_
  | with_reducible refine' rd_not ?_
  | with_reducible refine' rd_andV ?_
  | with_reducible refine' rd_orV ?_
  | with_reducible refine' rd_notV ?_
  | with_reducible refine' rd_if ?_
  | with_reducible refine' rd_gSub ?_
  | ((with_reducible refine' rd_ixL ?h ?e ?_); (case h => walk_at "hp"); (case e => exact rfl))
  | ((with_reducible refine' rd_ixT ?h ?e ?_); (case h => walk_at "hp"); (case e => exact rfl))
  | ((with_reducible refine' rd_setL ?h ?e ?_); (case h => walk_at "hp"); (case e => exact rfl))
  | ((with_reducible refine' rd_append ?h ?e ?_); (case h => walk_at "hp"); (case e => assumption))
  | (with_reducible refine' rd_bmL ?_)
  | ((with_reducible refine' And.intro (tyL ?h) ?_); (case h => walk_at "hp"))
  | ((with_reducible refine' And.intro (len_ok ?h) ?_); (case h => exact rfl))
  | with_reducible refine' rd_ex1 ?_
  | with_reducible refine' rd_ex2 ?_
  | with_reducible refine' rd_int1b ?_
  | ((with_reducible refine' rd_isiI ?e ?_); (case e => walk_at "kb"))
  | ((with_reducible refine' rd_isiB ?e ?_); (case e => walk_at "kb"))
  | ((with_reducible refine' rd_isiT ?h ?e ?_); (case h => walk_at "hp"); (case e => walk_at "kb"))
  | ((with_reducible refine' rd_isiL ?h ?e ?_); (case h => walk_at "hp"); (case e => walk_at "kb"))
  | ((with_reducible refine' rd_lenL ?h ?_); (case h => walk_at "hp"))
  | ((with_reducible refine' rd_lenT ?h ?_); (case h => walk_at "hp"))
  | ((with_reducible refine' rd_gTup ?h ?e ?_); (case h => walk_at "hp"); (case e => exact rfl))
  | with_reducible refine' rd_gCons ?_
  | with_reducible refine' rd_gNil ?_
  | with_reducible refine' rd_yes ?_
  | with_reducible refine' rd_for ?_
  | with_reducible refine' rd_lc ?_
  | with_reducible refine' rd_rng1 ?_
  | with_reducible refine' rd_iL ?_
  | with_reducible refine' rd_iT ?_
  | with_reducible refine' rd_iE ?_
  | with_reducible refine' rd_iZ ?_
  | ((with_reducible refine' rd_iL' ?h ?_); (case h => walk_at "hp"))
  | ((with_reducible refine' rd_iT' ?h ?_); (case h => walk_at "hp"))
  | ((with_reducible refine' rd_iE' ?h ?_); (case h => walk_at "hp"))
  | ((with_reducible refine' rd_iZ' ?h1 ?h2 ?_); (case h1 => walk_at "hp"); (case h2 => walk_at "hp"))
  | with_reducible refine' iteT ?_
  | with_reducible refine' iteF ?_)
local macro_rules | `(tactic| walk_at "rd") => `(tactic| repeat walk_at "rd1")
local macro_rules | `(tactic| walk_at "rd1") => `(tactic| first | with_reducible refine' rd_tB ?_ | with_reducible refine' iteNT ?_ | with_reducible refine' iteNF ?_ | with_reducible refine' rd_iEA (tam_cons tem_var tam_nil) ?_ | with_reducible refine' rd_iSA tem_var ?_ | with_reducible refine' rd_iZA (tam_cons tem_var (tam_cons tem_var tam_nil)) ?_)
local macro_rules | `(tactic| walk_at "rd1") => `(tactic| first | with_reducible refine' rd_eqS ?_ | with_reducible refine' rd_neS ?_ | ((with_reducible refine' rd_isiS ?e ?_); (case e => walk_at "kb")) | with_reducible refine' rd_inS ?_ | with_reducible refine' rd_iS ?_ | with_reducible refine' rd_iS' ?_)
abbrev sTake : Stmt := top 28
abbrev sCell : Stmt := top 26
abbrev sPurse : Stmt := top 27
abbrev sNum : Stmt := top 31
section
variable {P : Program} {w : World} {K : PySem.W.Frag} {mg : Str → Option Value} {base : Heap}
theorem scTake : FnScope ["_law_purse_here", "_law_many", "_law_old", "_law_taken"] ["_law_purse_here", "_law_many"] (defScope sTake) :=
  ⟨rfl, rfl, rfl, by decide +kernel, rfl, by decide +kernel, by decide +kernel⟩
theorem ok_take {f : Addr} {fd : FuncData} (F : Fun K "_law_take" "_law_take" sTake f fd) : FnOk P w K mg base CX0 1 f fd ["_law_purse_here", "_law_many"] spTake := by
  refine F.ok scTake (fun vs H Q E h => ?_) (fun cdv A outer s H vs Q E hr h => ?_)
  · obtain ⟨p, m, rfl, _⟩ := h
    rfl
  · obtain ⟨p, m, rfl, ⟨a, b, c, hp, ha, ha', hb⟩, hm, hm', k⟩ := h
    refine ⟨_, pss_cons (ps_asg (pe_op op_add (pe_ix ix_list (pv 0) pe_int (fun _ _ => rfl)) pe_int) (pg_sub (pv 0) pe_int set_list))
      (pss_cons (ps_set (i := 2) scTake.nd rfl (Or.inl rfl) (pe_ix ix_list (pv 0) pe_int (fun _ _ => rfl)))
      (pss_cons (ps_asg (pe_op op_mod (pe_op op_add (pe_op op_add (pe_op op_mul (pv 2) (pe_op op_add (pe_op op_mod (pv 2) pe_int) pe_int)) (pe_op op_mul pe_int (pe_ix ix_list (pv 0) pe_int (fun _ _ => rfl)))) pe_int) pe_int) (pg_sub (pv 0) pe_int set_list))
      (pss_cons (ps_if (pt_cmpR op_gt (pe_ix ix_list (pv 0) pe_int (fun _ _ => rfl)) pe_int (nomark _))
        (pss_cons (ps_set (i := 3) scTake.nd rfl (Or.inl rfl) (pe_op op_mod (pe_ix ix_list (pv 0) pe_int (fun _ _ => rfl)) (pv 1)))
        (pss_cons (ps_asg (pe_op op_fdiv (pe_ix ix_list (pv 0) pe_int (fun _ _ => rfl)) (pv 1)) (pg_sub (pv 0) pe_int set_list))
        (pss_one (ps_ret (pv 3))))) pss_nil)
      (pss_one (ps_ret (pe_op op_mod (pe_op op_fdiv (pe_ix ix_list (pv 0) pe_int (fun _ _ => rfl)) pe_int) (pv 1))))))), ?_⟩
    walk_at "rd"
    have hx := Int.emod_nonneg (a * (a % 45013 + 19013) + 91009 * (c + 1) + 11) (show (2147483423 : Int) ≠ 0 by decide)
    have hy := Int.emod_lt_of_pos (a * (a % 45013 + 19013) + 91009 * (c + 1) + 11) (show (0 : Int) < 2147483423 by decide)
    refine ite_dec (fun h => ?_) (fun h => ?_)
    · walk_at "rd"
      exact k _ _ (Int.emod_nonneg _ (by omega)) (Int.emod_lt_of_pos _ hm) ⟨_, _, _, upd_same, hx, hy, Int.ediv_nonneg hb (by omega)⟩ ((But.upd.trans But.upd).trans But.upd)
    · walk_at "rd"
      exact k _ _ (Int.emod_nonneg _ (by omega)) (Int.emod_lt_of_pos _ hm) ⟨_, _, _, upd_same, hx, hy, hb⟩ (But.upd.trans But.upd)
theorem scCell : FnScope ["_law_script", "_law_k"] ["_law_script", "_law_k"] (defScope sCell) := ⟨rfl, rfl, rfl, by decide +kernel, rfl, by decide +kernel, by decide +kernel⟩
theorem ok_cell {f : Addr} {fd : FuncData} (F : Fun K "_law_cell" "_law_cell" sCell f fd) (T : Top mg) : FnOk P w K mg base CX0 1 f fd ["_law_script", "_law_k"] (spCell K) := by
  refine F.ok scCell (fun vs H Q E h => ?_) (fun cdv A outer s H vs Q E hr h => ?_)
  · obtain ⟨a, ns, k, rfl, _⟩ := h
    rfl
  · obtain ⟨a, ns, k, rfl, hs, kk⟩ := h
    refine ⟨_, (pss_cons (ps_if (pt_cmpR op_lt (pv 1) (pe_callB call_len (by rfl) T.len (by decide +kernel) (pa_cons (pv 0) pa_nil)) (nomark _)) 
        (pss_one (ps_ret (pe_ix ix_list (pv 0) (pv 1) (fun _ _ => rfl)))) pss_nil) 
      (pss_one (ps_ret (pe_op op_add (pe_op op_add (pe_op op_mul (pe_callB (cr_sum rfl) (by rfl) T.sum (by decide +kernel) (pa_cons (pe_slice sl_list (pv 0) po_none (po_some pe_int)) pa_nil)) pe_int) (pe_op op_mul pe_int (pe_op op_add (pv 1) pe_int))) pe_int)))), ?_⟩
    walk_at "rd"
    refine ⟨_, _, rfl, .inl ⟨_, hs, rfl⟩, ?_⟩
    walk_at "rd"
    refine ite_dec (fun h => ?_) (fun h => ?_)
    · walk_at "rd"
      have hk : k < ns.length := by simpa using h
      refine ⟨a, _, _, .int ns[k], rfl, rfl, hs, atI_nat (by simp [hk]), ?_⟩
      exact kk _ _ (Same.refl _)
    · walk_at "rd"
      refine ⟨_, rfl, 3, rfl, a, _, rfl, hs, fun p hp => ?_⟩
      walk_at "rd"
      refine rd_sum (ns := (ns.drop (HT.sIx (ns.map V.int).length 0 none)).take (HT.sIx (ns.map V.int).length (ns.map V.int).length (some 3) - HT.sIx (ns.map V.int).length 0 none)) (by rw [upd_same]; simp [cutV, List.map_drop, List.map_take]) ?_
      walk_at "rd"
      exact kk _ _ fun b o e => by rw [upd_ne (ne_of_none e hp)]; exact e
theorem scPurse : FnScope ["_law_cell_here", "_law_digits"] ["_law_cell_here"] (defScope sPurse) := ⟨rfl, rfl, rfl, by decide +kernel, rfl, by decide +kernel, by decide +kernel⟩
theorem ok_purse {f : Addr} {fd : FuncData} (F : Fun K "_law_purse" "_law_purse" sPurse f fd) (T : Top mg) : FnOk P w K mg base CX0 1 f fd ["_law_cell_here"] spPurse := by
  refine F.ok scPurse (fun vs H Q E h => ?_) (fun cdv A outer s H vs Q E hr h => ?_)
  · obtain ⟨n, rfl, _⟩ := h
    rfl
  · obtain ⟨n, rfl, k⟩ := h
    have fin : ∀ (b : Int) (p : Addr), 0 ≤ b → H p = none → Q (.ref p) (upd H p (.lst [.int (n % 2147483423), .int b, .int 0])) := fun b p hb hp =>
      k p _ hp ⟨_, _, _, upd_same, Int.emod_nonneg _ (by decide), Int.emod_lt_of_pos _ (by decide), hb⟩ fun c o e => by rw [upd_ne (ne_of_none e hp)]; exact e
    refine ⟨_, (pss_cons (ps_set (i := 1) scPurse.nd rfl (by first | exact Or.inl rfl | exact Or.inr rfl) pe_int) 
      (pss_cons (ps_if (PW.pt (pw_or (pt_cmpR op_lt (pv 0) pe_int (nomark _)) (pw_or1 (pt_cmpR op_ge (pv 0) (pe_op op_pow pe_int pe_int) (nomark _))))) 
        (pss_one (ps_set (i := 1) scPurse.nd rfl (by first | exact Or.inl rfl | exact Or.inr rfl) (pe_callB call_abs (by rfl) T.abs (by decide +kernel) (pa_cons (pv 0) pa_nil)))) pss_nil) 
      (pss_one (ps_ret (pe_lst (pa_cons (pe_op op_mod (pv 0) pe_int) (pa_cons (pv 1) (pa_cons pe_int pa_nil)))))))), ?_⟩
    walk_at "rd"
    refine ite_dec (fun h => ?_) (fun h => ?_)
    · walk_at "rd"
      exact fun p hp => fin _ p (by split <;> omega) hp
    · walk_at "rd"
      refine ite_dec (fun h => ?_) (fun h => ?_)
      · walk_at "rd"
        exact fun p hp => fin _ p (by split <;> omega) hp
      · walk_at "rd"
        exact fun p hp => fin _ p (by decide) hp
theorem scNum : FnScope ["_law_thing"] ["_law_thing"] (defScope sNum) := ⟨rfl, rfl, rfl, by decide +kernel, rfl, by decide +kernel, by decide +kernel⟩
theorem ok_num {f : Addr} {fd : FuncData} (F : Fun K "_law_number" "_law_number" sNum f fd) (T : Top mg) : FnOk P w K mg base CX0 1 f fd ["_law_thing"] spNum := by
  refine F.ok scNum (fun vs H Q E h => ?_) (fun cdv A outer s H vs Q E hr h => ?_)
  · obtain ⟨n, rfl, _⟩ := h
    rfl
  · obtain ⟨n, rfl, k⟩ := h
    refine ⟨_, (pss_one (ps_ret (pe_and (pe_callB call_isi (by rfl) T.isinstance (by decide +kernel) (pa_cons (pv 0) (pa_cons (pe_bltn (v := .ty "int") (by rfl) T.int_ (by decide +kernel) rfl) pa_nil))) (pe_one (pe_not (pe_callB call_isi (by rfl) T.isinstance (by decide +kernel) (pa_cons (pv 0) (pa_cons (pe_bltn (v := .ty "bool") (by rfl) T.bool_ (by decide +kernel) rfl) pa_nil)))))))), ?_⟩
    walk_at "rd"
    exact k
end
end Sk
end

section
namespace Sk
open PySem L2
local macro_rules | `(tactic| walk_at "kb") => `(tactic| first | exact kb_int_int | exact kb_int_bool | exact kb_int_str | exact kb_int_tuple | exact kb_int_list | exact kb_tuple_int | exact kb_tuple_bool | exact kb_tuple_str | exact kb_tuple_tuple | exact kb_tuple_list | exact kb_list_int | exact kb_list_bool | exact kb_list_str | exact kb_list_tuple | exact kb_list_list | exact kb_bool_int | exact kb_bool_bool | exact kb_bool_str | exact kb_bool_tuple | exact kb_bool_list | exact kb_str_int | exact kb_str_bool | exact kb_str_str | exact kb_str_tuple | exact kb_str_list | exact kb_dict_int | exact kb_dict_bool | exact kb_dict_str | exact kb_dict_tuple | exact kb_dict_list | exact kb_NoneType_int | exact kb_NoneType_bool | exact kb_NoneType_str | exact kb_NoneType_tuple | exact kb_NoneType_list)
local macro_rules | `(tactic| walk_at "hp") => `(tactic| first
  | assumption
  | exact upd_same
  | (refine' upd_get ?n ?e; (case n => walk_at "ne"); (case e => walk_at "hp"))
  | (refine' But.get (by assumption) ?n ?e; (case n => walk_at "ne"); (case e => walk_at "hp"))
  | (refine' Ext.get (by assumption) ?n ?e; (case n => walk_at "ne"); (case e => walk_at "hp"))
  | (refine' same_get (by assumption) ?e; (case e => walk_at "hp")))
local macro_rules | `(tactic| walk_at "ne") => `(tactic| first
  | assumption
  | (apply Ne.symm; assumption)
  | (refine' ne_of_none ?h (by assumption); (case h => walk_at "hp"))
  | (apply Ne.symm; refine' ne_of_none ?h (by assumption); (case h => walk_at "hp")))
local macro_rules | `(tactic| walk_at "sd") => `(tactic| first
  | (show (0 : Int) < _; omega)
  | (simp only [CMul, CDiv]; omega)
  | exact ⟨by omega, by omega⟩)
local macro_rules | `(tactic| walk_at "rd1") => `(tactic| first
  | with_reducible refine' rd_c ?_
  | ((with_reducible refine' rd_var ?h ?_); (case h => exact rfl))
  | with_reducible refine' rd_op ?_
  | with_reducible refine' rd_seq ?_
  | with_reducible refine' rd_asg ?_
  | with_reducible refine' rd_gName ?_
  | with_reducible refine' rd_I0 ?_
  | ((with_reducible refine' rd_I ?c ?_); (case c => walk_at "sd"))
  | with_reducible refine' rd_eqI ?_
  | with_reducible refine' rd_neI ?_
  | with_reducible refine' rd_U ?_
  | with_reducible refine' rd_un ?_
  | with_reducible refine' rd_ret ?_
  | with_reducible refine' rd_drop ?_
  | with_reducible refine' rd_next ?_
  | with_reducible refine' rd_ifS ?_
  | with_reducible refine' rd_test ?_
  | with_reducible refine' rd_bl ?_
  | with_reducible refine' rd_nil ?_
  | with_reducible refine' rd_cons ?_
  | with_reducible refine' rd_tup ?_
  | with_reducible refine' rd_lst ?_
  | with_reducible refine' rd_call ?_
  | with_reducible refine' rd_cb ?_
  | with_reducible refine' rd_par ?_
  | with_reducible refine' rd_par2 ?_
  | with_reducible refine' rd_and ?_
  | with_reducible refine' rd_or ?_
  | with_reducible refine' rd_not ?_
  | with_reducible refine' rd_andV ?_
  | with_reducible refine' rd_orV ?_
  | with_reducible refine' rd_notV ?_
  | with_reducible refine' rd_if ?_
  | with_reducible refine' rd_gSub ?_
  | ((with_reducible refine' rd_ixL ?h ?e ?_); (case h => walk_at "hp"); (case e => exact rfl))
  | ((with_reducible refine' rd_ixT ?h ?e ?_); (case h => walk_at "hp"); (case e => exact rfl))
  | ((with_reducible refine' rd_setL ?h ?e ?_); (case h => walk_at "hp"); (case e => exact rfl))
  | ((with_reducible refine' rd_append ?h ?e ?_); (case h => walk_at "hp"); (case e => assumption))
  | (with_reducible refine' rd_bmL ?_)
  | ((with_reducible refine' And.intro (tyL ?h) ?_); (case h => walk_at "hp"))
  | ((with_reducible refine' And.intro (len_ok ?h) ?_); (case h => exact rfl))
  | with_reducible refine' rd_ex1 ?_
  | with_reducible refine' rd_ex2 ?_
  | with_reducible refine' rd_int1b ?_
  | ((with_reducible refine' rd_isiI ?e ?_); (case e => walk_at "kb"))
  | ((with_reducible refine' rd_isiB ?e ?_); (case e => walk_at "kb"))
  | ((with_reducible refine' rd_isiT ?h ?e ?_); (case h => walk_at "hp"); (case e => walk_at "kb"))
  | ((with_reducible refine' rd_isiL ?h ?e ?_); (case h => walk_at "hp"); (case e => walk_at "kb"))
  | ((with_reducible refine' rd_lenL ?h ?_); (case h => walk_at "hp"))
  | ((with_reducible refine' rd_lenT ?h ?_); (case h => walk_at "hp"))
  | ((with_reducible refine' rd_gTup ?h ?e ?_); (case h => walk_at "hp"); (case e => exact rfl))
  | with_reducible refine' rd_gCons ?_
  | with_reducible refine' rd_gNil ?_
  | with_reducible refine' rd_yes ?_
  | with_reducible refine' rd_for ?_
  | with_reducible refine' rd_lc ?_
  | with_reducible refine' rd_rng1 ?_
  | with_reducible refine' rd_iL ?_
  | with_reducible refine' rd_iT ?_
  | with_reducible refine' rd_iE ?_
  | with_reducible refine' rd_iZ ?_
  | ((with_reducible refine' rd_iL' ?h ?_); (case h => walk_at "hp"))
  | ((with_reducible refine' rd_iT' ?h ?_); (case h => walk_at "hp"))
  | ((with_reducible refine' rd_iE' ?h ?_); (case h => walk_at "hp"))
  | ((with_reducible refine' rd_iZ' ?h1 ?h2 ?_); (case h1 => walk_at "hp"); (case h2 => walk_at "hp"))
  | with_reducible refine' iteT ?_
  | with_reducible refine' iteF ?_)
local macro_rules | `(tactic| walk_at "rd") => `(tactic| repeat walk_at "rd1")
local macro_rules | `(tactic| walk_at "rd1") => `(tactic| first | with_reducible refine' rd_tB ?_ | with_reducible refine' iteNT ?_ | with_reducible refine' iteNF ?_ | with_reducible refine' rd_iEA (tam_cons tem_var tam_nil) ?_ | with_reducible refine' rd_iSA tem_var ?_ | with_reducible refine' rd_iZA (tam_cons tem_var (tam_cons tem_var tam_nil)) ?_)
local macro_rules | `(tactic| walk_at "rd1") => `(tactic| first | with_reducible refine' rd_eqS ?_ | with_reducible refine' rd_neS ?_ | ((with_reducible refine' rd_isiS ?e ?_); (case e => walk_at "kb")) | with_reducible refine' rd_inS ?_ | with_reducible refine' rd_iS ?_ | with_reducible refine' rd_iS' ?_)
theorem rd_ixS {K : PySem.W.Frag} {H : Hp} {Q : VK} {p : Addr} {ys : List Str} {i : Int} (h : H p = some (.lst (ys.map V.str))) (h0 : 0 ≤ i) (h1 : i < ys.length) (k : ∀ z, z ∈ ys → Q (.str z) H) : rIxL K (.ref p) (.int i) H Q := by
  obtain ⟨j, rfl⟩ : ∃ j : Nat, i = j := ⟨i.toNat, by omega⟩
  have hj : j < ys.length := by omega
  exact ⟨p, _, _, .str ys[j], rfl, rfl, SqL.of h, atI_nat (by simp [hj]), k _ (List.getElem_mem hj)⟩
theorem rd_slS {σ : St} {H : Hp} {Q : VK} {te : TE} {tl th : TO} (k : te σ H fun x H1 => tl σ H1 fun l H2 => th σ H2 fun u H3 => rSlS x l u H3 Q) : tSl rSlS te tl th σ H Q := k
/-- both ways of an if meet in J -/
theorem ifS_cut {c : TT} {t u : TS} {D : Ends} {σ : St} {H : Hp} (J : St → Hp → Prop) (hJ : ∀ σ G, J σ G → D.nx σ G) (body : ∀ N : St → Hp → Prop, (∀ σ G, J σ G → N σ G) → tIfS c t u { D with nx := N } σ H) : tIfS c t u D σ H := body D.nx hJ
theorem Ext.put {p : Addr} {H G : Hp} (a : Ext p H G) {G2 : Hp} (b : But p G G2) : Ext p H G2 := a.trans b.ext
theorem lets_snoc {z : Str} {c : Nat} (h : Lets z) (hc : 97 ≤ c ∧ c ≤ 122) : Lets (z ++ ⟨#[c]⟩) := h.app (Lets.one hc)
def menu : List Str := ["out", "back", "home", "wash", "paid", "store", "cart", "none", "owes", "first", "last", "both", "x", "undo"]
instance (z : Str) : Decidable (IsName z) := by unfold IsName; infer_instance
theorem menu_name : ∀ z ∈ menu, IsName z := by decide +kernel
section
variable {P : Program} {w : World} {K : PySem.W.Frag} {mg : Str → Option Value} {base : Heap}

abbrev s_word : Stmt := top 29
theorem sc_word : FnScope ["_law_purse_here", "_law_used", "_law_letters", "_law_menu", "_law_word_here", "_law_k", "_law_spare_here", "_law_one"] ["_law_purse_here", "_law_used"] (defScope s_word) := ⟨rfl, rfl, rfl, by decide +kernel, rfl, by decide +kernel, by decide +kernel⟩
def spWord : Sp := fun vs H Q _ => ∃ (p u : Addr) (ys : List Str), vs = [.ref p, .ref u] ∧ Purse H p ∧ H u = some (.lst (ys.map V.str)) ∧ u ≠ p ∧ ys.length ≤ 20 ∧ (∀ y ∈ ys, IsName y) ∧ ∀ (z : Str) (H' : Hp), IsName z → Purse H' p → Ext p H H' → Q (.str z) H'
theorem ok_word {f fT : Addr} {fd fdT : FuncData} (F : Fun K "_law_word" "_law_word" s_word f fd) (T : Top mg) (dT : Def P w K mg base "_law_take" 1 fT fdT ["_law_purse_here", "_law_many"] spTake) : FnOk P w K mg base CX0 2 f fd ["_law_purse_here", "_law_used"] spWord := by
  refine F.ok sc_word (fun vs H Q E h => ?_) (fun cdv A outer s H vs Q E hr h => ?_)
  · obtain ⟨p, u, ys, rfl, _⟩ := h
    rfl
  · obtain ⟨p, u, ys, rfl, P0, hu, up, ylen, yn, k⟩ := h
    have yl : ∀ y ∈ ys, Lets y := fun y hy => (yn y hy).2
    refine ⟨_, (pss_cons (ps_set (i := 2) sc_word.nd rfl (by first | exact Or.inl rfl | exact Or.inr rfl) pe_str) 
      (pss_cons (ps_set (i := 3) sc_word.nd rfl (by first | exact Or.inl rfl | exact Or.inr rfl) (pe_lst (pa_cons pe_str (pa_cons pe_str (pa_cons pe_str (pa_cons pe_str (pa_cons pe_str (pa_cons pe_str (pa_cons pe_str (pa_cons pe_str (pa_cons pe_str (pa_cons pe_str (pa_cons pe_str (pa_cons pe_str pa_nil)))))))))))))) 
      (pss_cons (ps_set (i := 4) sc_word.nd rfl (by first | exact Or.inl rfl | exact Or.inr rfl) (pe_ix (ix_listK (K := K) rfl) (pe_op op_cat (pv 3) (pe_lst (pa_cons pe_str (pa_cons pe_str pa_nil)))) (pe_call dT.ok (hr.mono (by decide)) (by rfl) dT.mg dT.kp dT.bd .nil pass0 (pa_cons (pv 0) (pa_cons pe_int pa_nil))) (fun _ _ => rfl))) 
      (pss_cons (ps_if (pt_cmpR op_gt (pe_call dT.ok (hr.mono (by decide)) (by rfl) dT.mg dT.kp dT.bd .nil pass0 (pa_cons (pv 0) (pa_cons pe_int pa_nil))) pe_int (nomark _)) 
        (pss_cons (ps_set (i := 4) sc_word.nd rfl (by first | exact Or.inl rfl | exact Or.inr rfl) pe_str) 
        (pss_one (ps_for PassesOwn.never rfl (pi_range1 (by rfl) T.range (pa_cons (pe_op op_add pe_int (pe_call dT.ok (hr.mono (by decide)) (by rfl) dT.mg dT.kp dT.bd .nil pass0 (pa_cons (pv 0) (pa_cons pe_int pa_nil)))) pa_nil)) (pg_name (i := 5) sc_word.nd rfl (by first | exact Or.inl rfl | exact Or.inr rfl)) 
          (pss_one (ps_set (i := 4) sc_word.nd rfl (by first | exact Or.inl rfl | exact Or.inr rfl) (pe_op op_add_str (pv 4) (pe_ix ix_str (pv 2) (pe_call dT.ok (hr.mono (by decide)) (by rfl) dT.mg dT.kp dT.bd .nil pass0 (pa_cons (pv 0) (pa_cons pe_int pa_nil))) (fun _ _ => rfl)))))))) pss_nil) 
      (pss_cons (ps_if (pt_cmpR (op_notInDK (K := K) rfl (u65 hr)) (pv 4) (pv 1) (by rfl)) 
        (pss_one (ps_ret (pv 4))) pss_nil) 
      (pss_cons (ps_setLc (i := 6) (own := [("_law_k", 5)]) (tt := tYes) rfl sc_word.nd rfl rfl (sw_true rfl rfl rfl (by decide +kernel)) (pi_range1 (by rfl) T.range (pa_cons (pe_op op_add (pe_callB (call_lenK (K := K) rfl) (by rfl) T.len (by decide +kernel) (pa_cons (pv 1) pa_nil)) pe_int) pa_nil)) (blkOk_by (N := ["_law_purse_here", "_law_used", "_law_letters", "_law_menu", "_law_word_here", "_law_k", "_law_spare_here", "_law_one"]) (sc := defScope s_word) (by decide +kernel)) (fun _ _ _ _ _ => (pg_name (i := 5) sc_word.nd rfl (by first | exact Or.inl rfl | exact Or.inr rfl))) (fun _ _ _ _ _ => pts_nil) (fun _ _ _ _ _ => (pe_op op_add_str (pe_op op_add_str (pe_ix ix_str (pv 2) (pe_op op_fdiv (pv 5) pe_int) (fun _ _ => rfl)) (pe_ix ix_str (pv 2) (pe_op op_mod (pv 5) pe_int) (fun _ _ => rfl))) (pe_slice sl_str (pv 4) po_none (po_some pe_int))))) 
      (pss_one (ps_ret (pe_ix (ix_listK (K := K) rfl) (pe_lc (own := [("_law_one", 7)]) rfl sc_word.nd (pi_listK (K := K) rfl (pv 6)) (blkOk_by (N := ["_law_purse_here", "_law_used", "_law_letters", "_law_menu", "_law_word_here", "_law_k", "_law_spare_here", "_law_one"]) (sc := defScope s_word) (by decide +kernel)) (fun _ _ _ _ _ => (pg_name (i := 7) sc_word.nd rfl (by first | exact Or.inl rfl | exact Or.inr rfl))) (fun _ _ _ _ _ => (pts_one (pt_cmpR (op_notInDK (K := K) rfl (u65 hr)) (pv 7) (pv 1) (by rfl)))) (fun _ _ _ _ _ => (pv 7))) pe_int (fun _ _ => rfl)))))))))), ?_⟩
    walk_at "rd"
    intro m1 hm1
    have pm1 := P0.ne hm1
    have um1 : u ≠ m1 := ne_of_none hu hm1
    walk_at "rd"
    intro m2 hm2
    walk_at "rd"
    have pm2 := (P0.upd (o := .lst [.str "out", .str "back", .str "home", .str "wash", .str "paid", .str "store", .str "cart", .str "none", .str "owes", .str "first", .str "last", .str "both"]) pm1).ne hm2
    refine rd_cat (by walk_at "hp") upd_same (by decide) fun m3 hm3 => ?_
    have P3 := ((P0.upd (o := .lst [.str "out", .str "back", .str "home", .str "wash", .str "paid", .str "store", .str "cart", .str "none", .str "owes", .str "first", .str "last", .str "both"]) pm1).upd (o := .lst [.str "x", .str "undo"]) pm2)
    have pm3 := P3.ne hm3
    replace P3 := P3.upd (o := .lst (menu.map V.str)) pm3
    have E3 : Ext p H (upd (upd (upd H m1 (.lst [.str "out", .str "back", .str "home", .str "wash", .str "paid", .str "store", .str "cart", .str "none", .str "owes", .str "first", .str "last", .str "both"])) m2 (.lst [.str "x", .str "undo"])) m3 (.lst (menu.map V.str))) := ((Ext.refl.new hm1).new hm2).new hm3
    have hm33 : upd (upd (upd H m1 (.lst [.str "out", .str "back", .str "home", .str "wash", .str "paid", .str "store", .str "cart", .str "none", .str "owes", .str "first", .str "last", .str "both"])) m2 (.lst [.str "x", .str "undo"])) m3 (.lst (menu.map V.str)) m3 = some (.lst (menu.map V.str)) := upd_same
    show tCall spTake [] E0 _ _ (upd (upd (upd H m1 (.lst [.str "out", .str "back", .str "home", .str "wash", .str "paid", .str "store", .str "cart", .str "none", .str "owes", .str "first", .str "last", .str "both"])) m2 (.lst [.str "x", .str "undo"])) m3 (.lst (menu.map V.str))) _
    generalize upd (upd (upd H m1 (.lst [.str "out", .str "back", .str "home", .str "wash", .str "paid", .str "store", .str "cart", .str "none", .str "owes", .str "first", .str "last", .str "both"])) m2 (.lst [.str "x", .str "undo"])) m3 (.lst (menu.map V.str)) = H3 at *
    walk_at "rd"
    refine rd_take P3 (by decide) (by decide) fun r4 H4 a4 b4 P4 C4 => ?_
    refine rd_ixS (ys := menu) (C4.get pm3 hm33) a4 b4 fun z0 hz0 => ?_
    have E4 := E3.put C4
    walk_at "rd1"
    walk_at "rd1"
    refine ifS_cut (fun σ G => ∃ (z : Str) (v5 : Option V), σ = [some (.ref p), some (.ref u), some (.str lets), some (.ref m1), some (.str z), v5, none, none] ∧ IsName z ∧ Purse G p ∧ Ext p H G) ?_ fun N hN => ?_
    · rintro σ G ⟨z, v5, rfl, hz, PG, EG⟩
      have huG := EG.get up hu
      walk_at "rd"
      refine rd_ninS huG hz.2 yl ?_
      walk_at "rd"
      by_cases c : z ∈ ys
      · rw [decide_eq_true c]
        walk_at "rd"
        refine ⟨by simp; omega, by simp; omega, ?_⟩
        have hn : ((((ys.map V.str).length : Nat) : Int) + 1).toNat = ys.length + 1 := by rw [List.length_map]; omega
        rw [hn]
        intro D hD
        have hDp := PG.ne hD
        refine lcA (p := D) walk_range (fun i acc _ => acc = ((List.range i).map (spareW z)).map V.str) hD (by omega) rfl (fun _ _ => True.intro) ?_ ?_
        · rintro i x G1 G1' acc M hi e q la a ⟨rfl, rfl⟩ k1 k2
          have hi' : i < 26 := by omega
          walk_at "rd"
          refine ⟨rfl, ?_⟩
          walk_at "rd"
          refine rd_let (by omega) (by omega) ?_
          walk_at "rd"
          refine rd_let (by omega) (by omega) ?_
          refine rd_addS ?_ ?_
          · show (1 : Nat) + 1 ≤ 1000
            decide
          refine rd_slS ?_
          walk_at "rd"
          refine (⟨4, rfl, z, rfl, Nat.le_trans hz.1.2 (by decide), ?_⟩ : ∃ i, V.int 4 = .int i ∧ rSlS (.str z) none (some i) G1' _)
          have l4 : (cutS z none (some 4)).length ≤ 4 := by
            rw [len_cps, cut4_cps]
            simp
            omega
          refine rd_addS ?_ ?_
          · rw [app_len]
            show 1 + 1 + (cutS z none (some 4)).length ≤ 1000
            omega
          refine k1 _ _ e q ?_
          have e1 : (((0 : Int) + (i : Int)) / 26).toNat = i / 26 := by omega
          have e2 : (((0 : Int) + (i : Int)) % 26).toNat = i % 26 := by omega
          rw [a, List.range_succ, List.map_append, List.map_append, e1, e2]
          rfl
        · intro G1 acc e q la a
          subst a
          walk_at "rd"
          have EG1 : Ext p H G1 := fun b o nb hb => by
            have h1 := EG b o nb hb
            exact e b o (ne_of_none h1 hD) h1
          have PG1 : Purse G1 p := by
            obtain ⟨x1, x2, x3, x4, x5⟩ := PG
            exact ⟨x1, x2, x3, e.get hDp.symm x4, x5⟩
          have hu1 := EG1.get up hu
          intro D2 hD2
          have hD2p := PG1.ne hD2
          have hDD2 : D ≠ D2 := ne_of_none q hD2
          refine lcA (p := D2) (walk_list (xs := ((List.range (ys.length + 1)).map (spareW z)).map V.str)) (fun i acc _ => acc = ((((List.range (ys.length + 1)).map (spareW z)).take i).filter fun s => decide (s ∉ ys)).map V.str) hD2 (by simp; omega) rfl (fun H' e' => SqL.of (e'.get hDD2 q)) ?_ ?_
          · rintro i x G2 G2' acc M hi e' q' la' a' ⟨rfl, y⟩ k1 k2
            have hi' : i < ys.length + 1 := by simpa using hi
            have hw : ((List.range (ys.length + 1)).map (spareW z))[i]? = some (spareW z i) := by simp [hi']
            obtain rfl : x = .str (spareW z i) := by
              rw [List.getElem?_map, hw] at y
              exact (Option.some.inj y).symm
            have hu2 := e'.get (ne_of_none hu1 hD2) hu1
            walk_at "rd"
            refine ⟨rfl, ?_⟩
            walk_at "rd"
            refine rd_ninS hu2 (spare_name hz.2 (by omega)).2 yl ?_
            walk_at "rd"
            by_cases c2 : spareW z i ∈ ys
            · rw [decide_eq_true c2]
              refine iteNT ?_
              refine k2 _ e' q' ?_
              rw [take_snoc hw, List.filter_append, a']
              simp [c2]
            · rw [decide_eq_false c2]
              refine iteNF ?_
              walk_at "rd"
              refine k1 _ _ e' q' ?_
              rw [take_snoc hw, List.filter_append, a']
              simp [c2]
          · intro G2 acc e' q' la' a'
            rw [List.take_of_length_le (by simp)] at a'
            have ex := pigeon_out (ys := ys) (spare_nodup z (n := ys.length + 1) (by omega)) (by simp)
            obtain ⟨wd, hw1, hw2⟩ := ex
            have hne : wd ∈ (((List.range (ys.length + 1)).map (spareW z)).filter fun s => decide (s ∉ ys)) := List.mem_filter.mpr ⟨hw1, by simpa using hw2⟩
            have hall : ∀ s ∈ (((List.range (ys.length + 1)).map (spareW z)).filter fun s => decide (s ∉ ys)), IsName s := fun s hs => by
              obtain ⟨j, hj, rfl⟩ := List.mem_map.mp (List.mem_filter.mp hs).1
              exact spare_name hz.2 (by have := List.mem_range.mp hj; omega)
            generalize (((List.range (ys.length + 1)).map (spareW z)).filter fun s => decide (s ∉ ys)) = fs at *
            subst a'
            walk_at "rd"
            refine rd_ixS q' (by decide) (by have := List.length_pos_of_mem hne; omega) fun s hs => ?_
            refine k s G2 (hall s hs) ?_ fun b o nb hb => ?_
            · obtain ⟨x1, x2, x3, x4, x5⟩ := PG1
              exact ⟨x1, x2, x3, e'.get hD2p.symm x4, x5⟩
            · have h1 := EG1 b o nb hb
              exact e' b o (ne_of_none h1 hD2) h1
      · rw [decide_eq_false c]
        walk_at "rd"
        exact k z G hz PG EG
    · walk_at "rd"
      refine rd_take P4 (by decide) (by decide) fun r5 H5 a5 b5 P5 C5 => ?_
      have E5 := E4.put C5
      walk_at "rd"
      refine ite_dec (fun c => ?_) (fun c => ?_)
      · walk_at "rd"
        refine rd_take P5 (by decide) (by decide) fun r6 H6 a6 b6 P6 C6 => ?_
        have E6 := E5.put C6
        walk_at "rd"
        refine ⟨by omega, by omega, ?_⟩
        refine loopW walk_range (fun i σ G => ∃ (z : Str) (v5 : Option V), σ = [some (.ref p), some (.ref u), some (.str lets), some (.ref m1), some (.str z), v5, none, none] ∧ z.length = i ∧ Lets z ∧ Purse G p ∧ Ext p H G) ⟨_, none, rfl, rfl, (fun c hc => nomatch hc), P6, E6⟩ (fun _ _ _ _ _ => True.intro) ?_ ?_
        · rintro i x σ G G' hi ⟨z, v5, rfl, hl, hz, PG, EG⟩ ⟨rfl, rfl⟩
          walk_at "rd"
          refine rd_take PG (by decide) (by decide) fun r7 H7 a7 b7 P7 C7 => ?_
          refine rd_let a7 b7 ?_
          refine rd_addS ?_ ?_
          · show z.length + 1 ≤ 1000
            omega
          exact ⟨_, _, rfl, by rw [app_len, hl]; rfl, lets_snoc hz ⟨by omega, by omega⟩, P7, EG.put C7⟩
        · rintro σ G ⟨z, v5, rfl, hl, hz, PG, EG⟩
          exact hN _ _ ⟨z, v5, rfl, ⟨by omega, hz⟩, PG, EG⟩
      · walk_at "rd"
        exact hN _ _ ⟨z0, none, rfl, menu_name z0 hz0, P5, E5⟩

abbrev s_words : Stmt := top 30
theorem sc_words : FnScope ["_law_purse_here", "_law_many", "_law_found", "_law_k"] ["_law_purse_here", "_law_many"] (defScope s_words) := ⟨rfl, rfl, rfl, by decide +kernel, rfl, by decide +kernel, by decide +kernel⟩
def spWords : Sp := fun vs H Q _ => ∃ (p : Addr) (n : Nat), vs = [.ref p, .int n] ∧ Purse H p ∧ n ≤ 4 ∧ ∀ (H' : Hp) (l : Addr) (ys : List Str), Purse H' p → Ext p H H' → H l = none → l ≠ p → H' l = some (.lst (ys.map V.str)) → ys.length = n → (∀ y ∈ ys, IsName y) → Q (.ref l) H'
theorem ok_words {f fW : Addr} {fd fdW : FuncData} (F : Fun K "_law_words" "_law_words" s_words f fd) (T : Top mg) (dWord : Def P w K mg base "_law_word" 2 fW fdW ["_law_purse_here", "_law_used"] spWord) : FnOk P w K mg base CX0 3 f fd ["_law_purse_here", "_law_many"] spWords := by
  refine F.ok sc_words (fun vs H Q E h => ?_) (fun cdv A outer s H vs Q E hr h => ?_)
  · obtain ⟨p, n, rfl, _⟩ := h
    rfl
  · obtain ⟨p, n, rfl, P0, hn, k⟩ := h
    refine ⟨_, (pss_cons (ps_set (i := 2) sc_words.nd rfl (by first | exact Or.inl rfl | exact Or.inr rfl) (pe_lst pa_nil)) 
      (pss_cons (ps_for PassesOwn.never rfl (pi_range1 (by rfl) T.range (pa_cons (pv 1) pa_nil)) (pg_name (i := 3) sc_words.nd rfl (by first | exact Or.inl rfl | exact Or.inr rfl)) 
        (pss_one (ps_expr (pe_bm PySem.F.plainAttrs_list PySem.F.slot_list_append PySem.F.type_list_append mt_append (pv 2) (pa_cons (pe_call dWord.ok (hr.mono (by decide)) (by rfl) dWord.mg dWord.kp dWord.bd .nil pass0 (pa_cons (pv 0) (pa_cons (pv 2) pa_nil))) pa_nil))))) 
      (pss_one (ps_ret (pv 2))))), ?_⟩
    walk_at "rd"
    intro l hl
    have lp := P0.ne hl
    walk_at "rd"
    refine ⟨by omega, by omega, ?_⟩
    refine loopW walk_range (fun i σ G => ∃ (ys : List Str) (v3 : Option V), σ = [some (.ref p), some (.int n), some (.ref l), v3] ∧ Purse G p ∧ Ext p H G ∧ G l = some (.lst (ys.map V.str)) ∧ ys.length = i ∧ ∀ y ∈ ys, IsName y)
      ⟨[], none, rfl, P0.upd lp, Ext.refl.new hl, upd_same, rfl, by simp⟩ (fun _ _ _ _ _ => True.intro) ?_ ?_
    · rintro i x σ G G' hi ⟨ys, v3, rfl, PG, EG, hlG, hlen, hn'⟩ ⟨rfl, rfl⟩
      have hi' : i < 4 := by omega
      walk_at "rd"
      refine ⟨p, l, ys, rfl, PG, hlG, lp, by omega, hn', fun z H1 hz P1 E1 => ?_⟩
      have hl1 := E1.get lp hlG
      have hul : (ys.map V.str).length < sizeLine := small1000 (by simp; omega)
      walk_at "rd"
      refine ⟨ys ++ [z], _, rfl, P1.upd lp, fun b o nb hb => ?_, ?_, by simp [hlen], fun y hy => ?_⟩
      · have h1 := E1 b o nb (EG b o nb hb)
        have n1 : b ≠ l := ne_of_none hb hl
        walk_at "hp"
      · rw [upd_same, List.map_append]
        rfl
      · rcases List.mem_append.mp hy with h | h
        · exact hn' y h
        · simp at h
          subst h
          exact hz
    · rintro σ G ⟨ys, v3, rfl, PG, EG, hlG, hlen, hn'⟩
      walk_at "rd"
      exact k G l ys PG EG hl lp hlG (by omega) hn'
end
end Sk
end

section
namespace Sk
open PySem L2
local macro_rules | `(tactic| walk_at "kb") => `(tactic| first | exact kb_int_int | exact kb_int_bool | exact kb_int_str | exact kb_int_tuple | exact kb_int_list | exact kb_tuple_int | exact kb_tuple_bool | exact kb_tuple_str | exact kb_tuple_tuple | exact kb_tuple_list | exact kb_list_int | exact kb_list_bool | exact kb_list_str | exact kb_list_tuple | exact kb_list_list | exact kb_bool_int | exact kb_bool_bool | exact kb_bool_str | exact kb_bool_tuple | exact kb_bool_list | exact kb_str_int | exact kb_str_bool | exact kb_str_str | exact kb_str_tuple | exact kb_str_list | exact kb_dict_int | exact kb_dict_bool | exact kb_dict_str | exact kb_dict_tuple | exact kb_dict_list | exact kb_NoneType_int | exact kb_NoneType_bool | exact kb_NoneType_str | exact kb_NoneType_tuple | exact kb_NoneType_list)
local macro_rules | `(tactic| walk_at "hp") => `(tactic| first
  | assumption
  | exact upd_same
  | (refine' upd_get ?n ?e; (case n => walk_at "ne"); (case e => walk_at "hp"))
  | (refine' But.get (by assumption) ?n ?e; (case n => walk_at "ne"); (case e => walk_at "hp"))
  | (refine' Ext.get (by assumption) ?n ?e; (case n => walk_at "ne"); (case e => walk_at "hp"))
  | (refine' same_get (by assumption) ?e; (case e => walk_at "hp")))
local macro_rules | `(tactic| walk_at "ne") => `(tactic| first
  | assumption
  | (apply Ne.symm; assumption)
  | (refine' ne_of_none ?h (by assumption); (case h => walk_at "hp"))
  | (apply Ne.symm; refine' ne_of_none ?h (by assumption); (case h => walk_at "hp")))
local macro_rules | `(tactic| walk_at "sd") => `(tactic| first
  | (show (0 : Int) < _; omega)
  | (simp only [CMul, CDiv]; omega)
  | exact ⟨by omega, by omega⟩)
local macro_rules | `(tactic| walk_at "rd1") => `(tactic| first
  | with_reducible refine' rd_c ?_
  | ((with_reducible refine' rd_var ?h ?_); (case h => exact rfl))
  | with_reducible refine' rd_op ?_
  | with_reducible refine' rd_seq ?_
  | with_reducible refine' rd_asg ?_
  | with_reducible refine' rd_gName ?_
  | with_reducible refine' rd_I0 ?_
  | ((with_reducible refine' rd_I ?c ?_); (case c => walk_at "sd"))
  | with_reducible refine' rd_eqI ?_
  | with_reducible refine' rd_neI ?_
  | with_reducible refine' rd_U ?_
  | with_reducible refine' rd_un ?_
  | with_reducible refine' rd_ret ?_
  | with_reducible refine' rd_drop ?_
  | with_reducible refine' rd_next ?_
  | with_reducible refine' rd_ifS ?_
  | with_reducible refine' rd_test ?_
  | with_reducible refine' rd_bl ?_
  | with_reducible refine' rd_nil ?_
  | with_reducible refine' rd_cons ?_
  | with_reducible refine' rd_tup ?_
  | with_reducible refine' rd_lst ?_
  | with_reducible refine' rd_call ?_
  | with_reducible refine' rd_cb ?_
  | with_reducible refine' rd_par ?_
  | with_reducible refine' rd_par2 ?_
  | with_reducible refine' rd_and ?_
  | with_reducible refine' rd_or ?_
  | with_reducible refine' rd_not ?_
  | with_reducible refine' rd_andV ?_
  | with_reducible refine' rd_orV ?_
  | with_reducible refine' rd_notV ?_
  | with_reducible refine' rd_if ?_
  | with_reducible refine' rd_gSub ?_
  | ((with_reducible refine' rd_ixL ?h ?e ?_); (case h => walk_at "hp"); (case e => exact rfl))
  | ((with_reducible refine' rd_ixT ?h ?e ?_); (case h => walk_at "hp"); (case e => exact rfl))
  | ((with_reducible refine' rd_setL ?h ?e ?_); (case h => walk_at "hp"); (case e => exact rfl))
  | ((with_reducible refine' rd_append ?h ?e ?_); (case h => walk_at "hp"); (case e => assumption))
  | (with_reducible refine' rd_bmL ?_)
  | ((with_reducible refine' And.intro (tyL ?h) ?_); (case h => walk_at "hp"))
  | ((with_reducible refine' And.intro (len_ok ?h) ?_); (case h => exact rfl))
  | with_reducible refine' rd_ex1 ?_
  | with_reducible refine' rd_ex2 ?_
  | with_reducible refine' rd_int1b ?_
  | ((with_reducible refine' rd_isiI ?e ?_); (case e => walk_at "kb"))
  | ((with_reducible refine' rd_isiB ?e ?_); (case e => walk_at "kb"))
  | ((with_reducible refine' rd_isiT ?h ?e ?_); (case h => walk_at "hp"); (case e => walk_at "kb"))
  | ((with_reducible refine' rd_isiL ?h ?e ?_); (case h => walk_at "hp"); (case e => walk_at "kb"))
  | ((with_reducible refine' rd_lenL ?h ?_); (case h => walk_at "hp"))
  | ((with_reducible refine' rd_lenT ?h ?_); (case h => walk_at "hp"))
  | ((with_reducible refine' rd_gTup ?h ?e ?_); (case h => walk_at "hp"); (case e => exact rfl))
  | with_reducible refine' rd_gCons ?_
  | with_reducible refine' rd_gNil ?_
  | with_reducible refine' rd_yes ?_
  | with_reducible refine' rd_for ?_
  | with_reducible refine' rd_lc ?_
  | with_reducible refine' rd_rng1 ?_
  | with_reducible refine' rd_iL ?_
  | with_reducible refine' rd_iT ?_
  | with_reducible refine' rd_iE ?_
  | with_reducible refine' rd_iZ ?_
  | ((with_reducible refine' rd_iL' ?h ?_); (case h => walk_at "hp"))
  | ((with_reducible refine' rd_iT' ?h ?_); (case h => walk_at "hp"))
  | ((with_reducible refine' rd_iE' ?h ?_); (case h => walk_at "hp"))
  | ((with_reducible refine' rd_iZ' ?h1 ?h2 ?_); (case h1 => walk_at "hp"); (case h2 => walk_at "hp"))
  | with_reducible refine' iteT ?_
  | with_reducible refine' iteF ?_)
local macro_rules | `(tactic| walk_at "rd") => `(tactic| repeat walk_at "rd1")
local macro_rules | `(tactic| walk_at "rd1") => `(tactic| first | with_reducible refine' rd_tB ?_ | with_reducible refine' iteNT ?_ | with_reducible refine' iteNF ?_ | with_reducible refine' rd_iEA (tam_cons tem_var tam_nil) ?_ | with_reducible refine' rd_iSA tem_var ?_ | with_reducible refine' rd_iZA (tam_cons tem_var (tam_cons tem_var tam_nil)) ?_)
local macro_rules | `(tactic| walk_at "rd1") => `(tactic| first | with_reducible refine' rd_eqS ?_ | with_reducible refine' rd_neS ?_ | ((with_reducible refine' rd_isiS ?e ?_); (case e => walk_at "kb")) | with_reducible refine' rd_inS ?_ | with_reducible refine' rd_iS ?_ | with_reducible refine' rd_iS' ?_)
theorem rd_cutT {K : PySem.W.Frag} {σ : St} {H : Hp} {Q : VK} {te : TE} {tl th : TO} (k : te σ H fun x H1 => tl σ H1 fun l H2 => th σ H2 fun u H3 => rSlT K x l u H3 Q) : tSl (rSlT K) te tl th σ H Q := k
theorem rd_cut2 {K : PySem.W.Frag} {H : Hp} {Q : VK} {a : Addr} {x y z : V} (h : H a = some (.tup [x, y, z])) (k : ∀ p, H p = none → Q (.ref p) (upd H p (.tup [x, y]))) : rSlT K (.ref a) none (some 2) H Q :=
  ⟨a, _, rfl, SqT.of h, (fun z => absurd z.2 (show ¬ (2 : Nat) = 3 by decide)), fun p hp => k p hp⟩
theorem rd_catT {K : PySem.W.Frag} {H : Hp} {Q : VK} {a b : Addr} {x y z : V} (h : H a = some (.tup [x, y])) (h' : H b = some (.tup [z])) (k : ∀ p, H p = none → Q (.ref p) (upd H p (.tup [x, y, z]))) : rCatT K (.ref a) (.ref b) H Q :=
  ⟨a, b, _, _, rfl, rfl, SqT.of h, SqT.of h', (fun z => by cases z), (show (3 : Nat) ≤ sizeLine by decide), (fun z => by cases z), fun _ p hp => k p hp⟩
theorem if_not {c A B : Prop} [Decidable c] (h1 : ¬ c → A) (h2 : c → B) : if (!decide c) = true then A else B := by
  by_cases h : c
  · rw [decide_eq_true h]
    exact iteF (h2 h)
  · rw [decide_eq_false h]
    exact iteT (h1 h)
/-- rows that the law drew -/
structure Drawn (ks : List Str) (rs : List Rw) : Prop where
  ok : RowsOk rs
  few : ks.length ≤ 4
  of : ∀ r ∈ rs, r.1 ∈ ks
theorem dis_snoc {rs : List Rw} {r : Rw} (h : rs.Pairwise fun a b => ¬ (a.1 = b.1 ∧ a.2.1 = b.2.1)) (n : ¬ ∃ x ∈ rs, x.1 = r.1 ∧ x.2.1 = r.2.1) : (rs ++ [r]).Pairwise fun a b => ¬ (a.1 = b.1 ∧ a.2.1 = b.2.1) := by
  rw [List.pairwise_append]
  refine ⟨h, by simp, fun a ha b hb e => ?_⟩
  simp at hb
  subst hb
  exact n ⟨a, ha, e⟩
section
variable {P : Program} {w : World} {K : PySem.W.Frag} {mg : Str → Option Value} {base : Heap}

abbrev s_stake_rows : Stmt := top 32
theorem sc_stake_rows : FnScope ["_law_purse_here", "_law_kinds", "_law_many", "_law_found", "_law_k", "_law_when", "_law_row", "_law_one"] ["_law_purse_here", "_law_kinds", "_law_many"] (defScope s_stake_rows) := ⟨rfl, rfl, rfl, by decide +kernel, rfl, by decide +kernel, by decide +kernel⟩
def spSRows : Sp := fun vs H Q _ => ∃ (p l : Addr) (ks : List Str) (n : Nat), vs = [.ref p, .ref l, .int n] ∧ Purse H p ∧ H l = some (.lst (ks.map V.str)) ∧ l ≠ p ∧ ks ≠ [] ∧ ks.length ≤ 4 ∧ (∀ y ∈ ks, IsName y) ∧ n ≤ 30 ∧
  ∀ (H' : Hp) (a : Addr) (us : List V) (rs : List Rw), Purse H' p → Ext p H H' → H a = none → a ≠ p → H' a = some (.lst us) → RowsK H' us (rs.map k3) → Drawn ks rs → Q (.ref a) H'
theorem ok_sRows {f fT : Addr} {fd fdT : FuncData} (F : Fun K "_law_stake_rows" "_law_stake_rows" s_stake_rows f fd) (T : Top mg) (dT : Def P w K mg base "_law_take" 1 fT fdT ["_law_purse_here", "_law_many"] spTake) : FnOk P w K mg base CX0 2 f fd ["_law_purse_here", "_law_kinds", "_law_many"] spSRows := by
  refine F.ok sc_stake_rows (fun vs H Q E h => ?_) (fun cdv A outer s H vs Q E hr h => ?_)
  · obtain ⟨p, l, ks, n, rfl, _⟩ := h
    rfl
  · obtain ⟨p, l, ks, n, rfl, P0, hl, lp, kne, klen, kn, hn, k⟩ := h
    have kpos : 0 < ks.length := by
      cases ks with
      | nil => exact absurd rfl kne
      | cons a b => simp
    refine ⟨_, (pss_cons (ps_set (i := 3) sc_stake_rows.nd rfl (by first | exact Or.inl rfl | exact Or.inr rfl) (pe_lst pa_nil)) 
      (pss_cons (ps_for PassesOwn.never rfl (pi_range1 (by rfl) T.range (pa_cons (pv 2) pa_nil)) (pg_name (i := 4) sc_stake_rows.nd rfl (by first | exact Or.inl rfl | exact Or.inr rfl)) 
        (pss_cons (ps_set (i := 5) sc_stake_rows.nd rfl (by first | exact Or.inl rfl | exact Or.inr rfl) (pe_ix (ix_listK (K := K) rfl) (pe_lst (pa_cons pe_int (pa_cons (pe_call dT.ok (hr.mono (by decide)) (by rfl) dT.mg dT.kp dT.bd .nil pass0 (pa_cons (pv 0) (pa_cons pe_int pa_nil))) (pa_cons pe_int (pa_cons (pe_call dT.ok (hr.mono (by decide)) (by rfl) dT.mg dT.kp dT.bd .nil pass0 (pa_cons (pv 0) (pa_cons pe_int pa_nil))) pa_nil))))) (pe_call dT.ok (hr.mono (by decide)) (by rfl) dT.mg dT.kp dT.bd .nil pass0 (pa_cons (pv 0) (pa_cons pe_int pa_nil))) (fun _ _ => rfl))) 
        (pss_cons (ps_set (i := 6) sc_stake_rows.nd rfl (by first | exact Or.inl rfl | exact Or.inr rfl) (pe_tup (pa_cons (pe_ix (ix_listK (K := K) rfl) (pv 1) (pe_call dT.ok (hr.mono (by decide)) (by rfl) dT.mg dT.kp dT.bd .nil pass0 (pa_cons (pv 0) (pa_cons (pe_callB (call_lenK (K := K) rfl) (by rfl) T.len (by decide +kernel) (pa_cons (pv 1) pa_nil)) pa_nil))) (fun _ _ => rfl)) (pa_cons (pv 5) pa_nil)))) 
        (pss_one (ps_if (pt_cmpR (op_notInDK (K := K) rfl (u65 hr)) (pv 6) (pe_lc (own := [("_law_one", 7)]) (tt := tYes) rfl sc_stake_rows.nd (pi_listK (K := K) rfl (pv 3)) (blkOk_by (N := ["_law_purse_here", "_law_kinds", "_law_many", "_law_found", "_law_k", "_law_when", "_law_row", "_law_one"]) (sc := defScope s_stake_rows) (by decide +kernel)) (fun _ _ _ _ _ => (pg_name (i := 7) sc_stake_rows.nd rfl (by first | exact Or.inl rfl | exact Or.inr rfl))) (fun _ _ _ _ _ => pts_nil) (fun _ _ _ _ _ => (pe_slice (sl_tupK (K := K) rfl) (pv 7) po_none (po_some pe_int)))) (by rfl)) 
          (pss_one (ps_expr (pe_bm PySem.F.plainAttrs_list PySem.F.slot_list_append PySem.F.type_list_append mt_append (pv 3) (pa_cons (pe_op op_catT (pv 6) (pe_tup (pa_cons (pe_ix (ix_listK (K := K) rfl) (pe_lst (pa_cons pe_int (pa_cons pe_int (pa_cons pe_int (pa_cons (pe_call dT.ok (hr.mono (by decide)) (by rfl) dT.mg dT.kp dT.bd .nil pass0 (pa_cons (pv 0) (pa_cons pe_int pa_nil))) pa_nil))))) (pe_call dT.ok (hr.mono (by decide)) (by rfl) dT.mg dT.kp dT.bd .nil pass0 (pa_cons (pv 0) (pa_cons pe_int pa_nil))) (fun _ _ => rfl)) pa_nil))) pa_nil)))) pss_nil))))) 
      (pss_one (ps_ret (pv 3))))), ?_⟩
    walk_at "rd"
    intro a ha
    have ap := P0.ne ha
    have la : l ≠ a := ne_of_none hl ha
    walk_at "rd"
    refine ⟨by omega, by omega, ?_⟩
    refine loopW walk_range (fun i σ G => ∃ (us : List V) (rs : List Rw) (v4 v5 v6 : Option V), σ = [some (.ref p), some (.ref l), some (.int n), some (.ref a), v4, v5, v6, none] ∧ Purse G p ∧ Ext p H G ∧ G a = some (.lst us) ∧ RowsK G us (rs.map k3) ∧ rs.length ≤ i ∧
      (∀ r ∈ rs, IsName r.1 ∧ (0 ≤ r.2.1 ∧ r.2.1 ≤ 9999) ∧ (0 ≤ r.2.2 ∧ r.2.2 ≤ 9999)) ∧ (rs.Pairwise fun a b => ¬ (a.1 = b.1 ∧ a.2.1 = b.2.1)) ∧ ∀ r ∈ rs, r.1 ∈ ks)
      ⟨[], [], none, none, none, rfl, P0.upd ap, Ext.refl.new ha, upd_same, True.intro, Nat.le_refl _, by simp, List.Pairwise.nil, by simp⟩ (fun _ _ _ _ _ => True.intro) ?_ ?_
    · rintro i x σ G G' hi ⟨us, rs, v4, v5, v6, rfl, PG, EG, haG, hR, hlen, hb, hd, hk⟩ ⟨rfl, rfl⟩
      have hi' : i < 30 := by omega
      have hlG := EG.get lp hl
      walk_at "rd"
      refine rd_take PG (by decide) (by decide) fun r1 G1 a1 b1 P1 C1 => ?_
      walk_at "rd"
      refine rd_take P1 (by decide) (by decide) fun r2 G2 a2 b2 P2 C2 => ?_
      walk_at "rd"
      intro q1 hq1
      have q1p := P2.ne hq1
      walk_at "rd"
      refine rd_take (P2.upd q1p) (by decide) (by decide) fun r3 G3 a3 b3 P3 C3 => ?_
      refine rd_ixI (ns := [0, r1, 9999, r2]) (by walk_at "hp") a3 (by simpa using b3) fun when hw => ?_
      have hw' : 0 ≤ when ∧ when ≤ 9999 := by simp at hw; omega
      have EA : Ext p H G3 := ((((EG.put C1).put C2).new hq1).put C3)
      have tA : TSt G' G3 := (((PG.ts C1.ext).trans (P1.ts C2.ext)).trans (TSt.new hq1)).trans ((P2.upd q1p).ts C3.ext)
      have ha3 : G3 a = some (.lst us) := by
        have h1 := C2.get ap (C1.get ap haG)
        have n1 : a ≠ q1 := ne_of_none h1 hq1
        walk_at "hp"
      have hl3 := EA.get lp hl
      clear C1 C2 C3
      walk_at "rd"
      refine rd_take P3 (by simp; omega) (by simp; omega) fun r4 G4 a4 b4 P4 C4 => ?_
      refine rd_ixS (ys := ks) (C4.get lp hl3) a4 (by simpa using b4) fun z hz => ?_
      walk_at "rd"
      intro q2 hq2
      have q2p := P4.ne hq2
      walk_at "rd"
      have P5 := P4.upd (o := .tup [.str z, .int when]) q2p
      have EB : Ext p H (upd G4 q2 (.tup [.str z, .int when])) := (EA.put C4).new hq2
      have tB : TSt G' (upd G4 q2 (.tup [.str z, .int when])) := (tA.trans (P3.ts C4.ext)).trans (TSt.new hq2)
      have ha5 : upd G4 q2 (.tup [.str z, .int when]) a = some (.lst us) := by
        have h1 := C4.get ap ha3
        have n1 : a ≠ q2 := ne_of_none h1 hq2
        walk_at "hp"
      have hq5 : upd G4 q2 (.tup [.str z, .int when]) q2 = some (.tup [.str z, .int when]) := upd_same
      generalize upd G4 q2 (.tup [.str z, .int when]) = G5 at *
      have hR5 := hR.mono tB
      have lu : us.length = rs.length := by rw [hR.length, List.length_map]
      intro D hD
      have hDp := P5.ne hD
      have aD : a ≠ D := ne_of_none ha5 hD
      have q2D : q2 ≠ D := ne_of_none hq5 hD
      refine lcA (p := D) (walk_list (xs := us)) (fun i acc G => RowsK G acc ((rs.take i).map k2)) hD (by omega) True.intro (fun H' e => SqL.of (e.get aD ha5)) ?_ ?_
      · rintro j x G6 G6' acc M hj e q la' ac ⟨rfl, y⟩ k1 k2'
        obtain ⟨r, t, hr', rfl, ht⟩ := rowsK_at (hR5.mono (e.tsn hD)) y
        replace ht : G6' t = some (.tup [.str r.1, .int r.2.1, .int r.2.2]) := ht
        walk_at "rd"
        refine ⟨rfl, ?_⟩
        walk_at "rd"
        refine rd_cutT ?_
        walk_at "rd"
        refine (⟨2, rfl, rd_cut2 ht fun q3 hq3 => ?_⟩ : ∃ i, V.int 2 = .int i ∧ rSlT K (.ref t) none (some i) G6' _)
        have Dq3 : D ≠ q3 := ne_of_none q hq3
        refine k1 _ _ (e.new hq3) (by walk_at "hp") ?_
        rw [take_snoc hr', List.map_append]
        have ts1 : TSt G6' (upd G6' q3 (.tup [.str r.1, .int r.2.1])) := TSt.new hq3
        have hD1 : upd G6' q3 (.tup [.str r.1, .int r.2.1]) D = some (.lst acc) := by walk_at "hp"
        have ts2 := TSt.lst (o := .lst (acc ++ [.ref q3])) hD1
        exact ((ac.mono ts1).mono ts2).snoc ⟨q3, rfl, by walk_at "hp"⟩
      · intro G6 acc e q la' ac
        rw [List.take_of_length_le (by omega)] at ac
        have P6 : Purse G6 p := by
          obtain ⟨x1, x2, x3, x4, x5⟩ := P5
          exact ⟨x1, x2, x3, e.get hDp.symm x4, x5⟩
        have E6 : Ext p H G6 := fun b o nb hb => by
          have h1 := EB b o nb hb
          exact e b o (ne_of_none h1 hD) h1
        have t6 : TSt G' G6 := tB.trans (e.tsn hD)
        have ha6 := e.get aD ha5
        have hq6 := e.get q2D hq5
        refine rd_ninRow (r := (z, when, 0)) hq6 q ac (kn z hz).2 (fun x hx => (hb x hx).1.2) ?_
        walk_at "rd"
        refine if_not (fun c => ?_) (fun c => ?_)
        · walk_at "rd"
          refine rd_take P6 (by decide) (by decide) fun r5 G7 a7 b7 P7 C7 => ?_
          walk_at "rd"
          intro q3 hq3
          have q3p := P7.ne hq3
          walk_at "rd"
          refine rd_take (P7.upd q3p) (by decide) (by decide) fun r6 G8 a8 b8 P8 C8 => ?_
          refine rd_ixI (ns := [0, 8, 15, r5]) (by walk_at "hp") a8 (by simpa using b8) fun am ham => ?_
          have ham' : 0 ≤ am ∧ am ≤ 9999 := by simp at ham; omega
          have E8 : Ext p H G8 := (((E6.put C7).new hq3).put C8)
          have t8 : TSt G6 G8 := ((P6.ts C7.ext).trans (TSt.new hq3)).trans ((P7.upd q3p).ts C8.ext)
          have ha8 : G8 a = some (.lst us) := by
            have h1 := C7.get ap ha6
            have n1 : a ≠ q3 := ne_of_none h1 hq3
            walk_at "hp"
          have hq8 := t8 _ _ hq6
          clear C7 C8
          walk_at "rd"
          intro q4 hq4
          have q4p := P8.ne hq4
          have aq4 : a ≠ q4 := ne_of_none ha8 hq4
          have q2q4 : q2 ≠ q4 := ne_of_none hq8 hq4
          walk_at "rd"
          refine rd_catT (by walk_at "hp") upd_same fun q5 hq5' => ?_
          have q5p := (P8.upd (o := .tup [.int am]) q4p).ne hq5'
          have aq5 : a ≠ q5 := ne_of_none (upd_get aq4 ha8) hq5'
          have hul : us.length < sizeLine := small1000 (by omega)
          walk_at "rd"
          have tF1 : TSt G8 (upd G8 q4 (.tup [.int am])) := TSt.new hq4
          have tF2 : TSt (upd G8 q4 (.tup [.int am])) (upd (upd G8 q4 (.tup [.int am])) q5 (.tup [.str z, .int when, .int am])) := TSt.new hq5'
          have haF : upd (upd G8 q4 (.tup [.int am])) q5 (.tup [.str z, .int when, .int am]) a = some (.lst us) := by walk_at "hp"
          have tF3 := TSt.lst (o := .lst (us ++ [.ref q5])) haF
          refine ⟨us ++ [.ref q5], rs ++ [(z, when, am)], _, _, _, rfl, ((P8.upd q4p).upd q5p).upd ap, fun b o nb hb' => ?_, upd_same, ?_, by simp; omega, fun r hr' => ?_, dis_snoc hd c, fun r hr' => ?_⟩
          · have h1 := E8 b o nb hb'
            have n1 : b ≠ a := ne_of_none hb' ha
            walk_at "hp"
          · rw [List.map_append]
            exact ((((hR.mono t6).mono t8).mono ((tF1.trans tF2).trans tF3))).snoc ⟨q5, rfl, by walk_at "hp"⟩
          · rcases List.mem_append.mp hr' with h | h
            · exact hb r h
            · simp at h
              subst h
              exact ⟨kn z hz, hw', ham'⟩
          · rcases List.mem_append.mp hr' with h | h
            · exact hk r h
            · simp at h
              subst h
              exact hz
        · walk_at "rd"
          exact ⟨us, rs, _, _, _, rfl, P6, E6, ha6, hR.mono t6, by omega, hb, hd, hk⟩
    · rintro σ G ⟨us, rs, v4, v5, v6, rfl, PG, EG, haG, hR, hlen, hb, hd, hk⟩
      walk_at "rd"
      exact k G a us rs PG EG ha ap haG hR ⟨⟨hb, hd, by omega⟩, klen, hk⟩

end
end Sk
end

section
namespace Sk
open PySem L2
local macro_rules | `(tactic| walk_at "kb") => `(tactic| first | exact kb_int_int | exact kb_int_bool | exact kb_int_str | exact kb_int_tuple | exact kb_int_list | exact kb_tuple_int | exact kb_tuple_bool | exact kb_tuple_str | exact kb_tuple_tuple | exact kb_tuple_list | exact kb_list_int | exact kb_list_bool | exact kb_list_str | exact kb_list_tuple | exact kb_list_list | exact kb_bool_int | exact kb_bool_bool | exact kb_bool_str | exact kb_bool_tuple | exact kb_bool_list | exact kb_str_int | exact kb_str_bool | exact kb_str_str | exact kb_str_tuple | exact kb_str_list | exact kb_dict_int | exact kb_dict_bool | exact kb_dict_str | exact kb_dict_tuple | exact kb_dict_list | exact kb_NoneType_int | exact kb_NoneType_bool | exact kb_NoneType_str | exact kb_NoneType_tuple | exact kb_NoneType_list)
local macro_rules | `(tactic| walk_at "hp") => `(tactic| first
  | assumption
  | exact upd_same
  | (refine' upd_get ?n ?e; (case n => walk_at "ne"); (case e => walk_at "hp"))
  | (refine' But.get (by assumption) ?n ?e; (case n => walk_at "ne"); (case e => walk_at "hp"))
  | (refine' Ext.get (by assumption) ?n ?e; (case n => walk_at "ne"); (case e => walk_at "hp"))
  | (refine' same_get (by assumption) ?e; (case e => walk_at "hp")))
local macro_rules | `(tactic| walk_at "ne") => `(tactic| first
  | assumption
  | (apply Ne.symm; assumption)
  | (refine' ne_of_none ?h (by assumption); (case h => walk_at "hp"))
  | (apply Ne.symm; refine' ne_of_none ?h (by assumption); (case h => walk_at "hp")))
local macro_rules | `(tactic| walk_at "sd") => `(tactic| first
  | (show (0 : Int) < _; omega)
  | (simp only [CMul, CDiv]; omega)
  | exact ⟨by omega, by omega⟩)
local macro_rules | `(tactic| walk_at "rd1") => `(tactic| first
  | with_reducible refine' rd_c ?_
  | ((with_reducible refine' rd_var ?h ?_); (case h => exact rfl))
  | with_reducible refine' rd_op ?_
  | with_reducible refine' rd_seq ?_
  | with_reducible refine' rd_asg ?_
  | with_reducible refine' rd_gName ?_
  | with_reducible refine' rd_I0 ?_
  | ((with_reducible refine' rd_I ?c ?_); (case c => walk_at "sd"))
  | with_reducible refine' rd_eqI ?_
  | with_reducible refine' rd_neI ?_
  | with_reducible refine' rd_U ?_
  | with_reducible refine' rd_un ?_
  | with_reducible refine' rd_ret ?_
  | with_reducible refine' rd_drop ?_
  | with_reducible refine' rd_next ?_
  | with_reducible refine' rd_ifS ?_
  | with_reducible refine' rd_test ?_
  | with_reducible refine' rd_bl ?_
  | with_reducible refine' rd_nil ?_
  | with_reducible refine' rd_cons ?_
  | with_reducible refine' rd_tup ?_
  | with_reducible refine' rd_lst ?_
  | with_reducible refine' rd_call ?_
  | with_reducible refine' rd_cb ?_
  | with_reducible refine' rd_par ?_
  | with_reducible refine' rd_par2 ?_
  | with_reducible refine' rd_and ?_
  | with_reducible refine' rd_or ?_
  | with_reducible refine' rd_not ?_
  | with_reducible refine' rd_andV ?_
  | with_reducible refine' rd_orV ?_
  | with_reducible refine' rd_notV ?_
  | with_reducible refine' rd_if ?_
  | with_reducible refine' rd_gSub ?_
  | ((with_reducible refine' rd_ixL ?h ?e ?_); (case h => walk_at "hp"); (case e => exact rfl))
  | ((with_reducible refine' rd_ixT ?h ?e ?_); (case h => walk_at "hp"); (case e => exact rfl))
  | ((with_reducible refine' rd_setL ?h ?e ?_); (case h => walk_at "hp"); (case e => exact rfl))
  | ((with_reducible refine' rd_append ?h ?e ?_); (case h => walk_at "hp"); (case e => assumption))
  | (with_reducible refine' rd_bmL ?_)
  | ((with_reducible refine' And.intro (tyL ?h) ?_); (case h => walk_at "hp"))
  | ((with_reducible refine' And.intro (len_ok ?h) ?_); (case h => exact rfl))
  | with_reducible refine' rd_ex1 ?_
  | with_reducible refine' rd_ex2 ?_
  | with_reducible refine' rd_int1b ?_
  | ((with_reducible refine' rd_isiI ?e ?_); (case e => walk_at "kb"))
  | ((with_reducible refine' rd_isiB ?e ?_); (case e => walk_at "kb"))
  | ((with_reducible refine' rd_isiT ?h ?e ?_); (case h => walk_at "hp"); (case e => walk_at "kb"))
  | ((with_reducible refine' rd_isiL ?h ?e ?_); (case h => walk_at "hp"); (case e => walk_at "kb"))
  | ((with_reducible refine' rd_lenL ?h ?_); (case h => walk_at "hp"))
  | ((with_reducible refine' rd_lenT ?h ?_); (case h => walk_at "hp"))
  | ((with_reducible refine' rd_gTup ?h ?e ?_); (case h => walk_at "hp"); (case e => exact rfl))
  | with_reducible refine' rd_gCons ?_
  | with_reducible refine' rd_gNil ?_
  | with_reducible refine' rd_yes ?_
  | with_reducible refine' rd_for ?_
  | with_reducible refine' rd_lc ?_
  | with_reducible refine' rd_rng1 ?_
  | with_reducible refine' rd_iL ?_
  | with_reducible refine' rd_iT ?_
  | with_reducible refine' rd_iE ?_
  | with_reducible refine' rd_iZ ?_
  | ((with_reducible refine' rd_iL' ?h ?_); (case h => walk_at "hp"))
  | ((with_reducible refine' rd_iT' ?h ?_); (case h => walk_at "hp"))
  | ((with_reducible refine' rd_iE' ?h ?_); (case h => walk_at "hp"))
  | ((with_reducible refine' rd_iZ' ?h1 ?h2 ?_); (case h1 => walk_at "hp"); (case h2 => walk_at "hp"))
  | with_reducible refine' iteT ?_
  | with_reducible refine' iteF ?_)
local macro_rules | `(tactic| walk_at "rd") => `(tactic| repeat walk_at "rd1")
local macro_rules | `(tactic| walk_at "rd1") => `(tactic| first | with_reducible refine' rd_tB ?_ | with_reducible refine' iteNT ?_ | with_reducible refine' iteNF ?_ | with_reducible refine' rd_iEA (tam_cons tem_var tam_nil) ?_ | with_reducible refine' rd_iSA tem_var ?_ | with_reducible refine' rd_iZA (tam_cons tem_var (tam_cons tem_var tam_nil)) ?_)
local macro_rules | `(tactic| walk_at "rd1") => `(tactic| first | with_reducible refine' rd_eqS ?_ | with_reducible refine' rd_neS ?_ | ((with_reducible refine' rd_isiS ?e ?_); (case e => walk_at "kb")) | with_reducible refine' rd_inS ?_ | with_reducible refine' rd_iS ?_ | with_reducible refine' rd_iS' ?_)
/-- days and amounts of a sort up to a day -/
def sel (z : Str) (d : Int) (rs : List Rw) : List (Int × Int) := (rs.filter fun r => decide (r.1 = z ∧ r.2.1 ≤ d)).map (·.2)
theorem mem_sel {z : Str} {d : Int} {rs : List Rw} {p : Int × Int} : p ∈ sel z d rs ↔ (z, p.1, p.2) ∈ rs ∧ p.1 ≤ d := by
  unfold sel
  rw [List.mem_map]
  constructor
  · rintro ⟨r, hr, rfl⟩
    obtain ⟨h1, h2⟩ := List.mem_filter.mp hr
    have h3 : r.1 = z ∧ r.2.1 ≤ d := by simpa using h2
    obtain ⟨rfl, h4⟩ := h3
    exact ⟨h1, h4⟩
  · rintro ⟨h1, h2⟩
    exact ⟨(z, p.1, p.2), List.mem_filter.mpr ⟨h1, by simpa using h2⟩, rfl⟩
theorem sel_max {rs : List Rw} {z : Str} {d : Int} {m : Int × Int} (hm : m ∈ sel z d rs) (hx : ∀ q ∈ sel z d rs, le2 q m) : IsStake rs z d m.2 := by
  obtain ⟨h1, h2⟩ := mem_sel.mp hm
  refine .inl ⟨_, h1, rfl, h2, rfl, fun x hx1 hx2 hx3 => ?_⟩
  have h3 : x.2 ∈ sel z d rs := mem_sel.mpr ⟨by rw [← hx2]; exact hx1, hx3⟩
  have h4 := hx _ h3
  unfold le2 at h4
  show x.2.1 ≤ m.1
  omega
theorem sel_nil {rs : List Rw} {z : Str} {d : Int} (h : sel z d rs = []) : IsStake rs z d 0 := by
  refine .inr ⟨fun x hx hs => ?_, rfl⟩
  refine Classical.byContradiction fun c => ?_
  have h3 : x.2 ∈ sel z d rs := mem_sel.mpr ⟨by rw [← hs]; exact hx, by omega⟩
  rw [h] at h3
  cases h3
theorem sel_snoc (z : Str) (d : Int) (rs : List Rw) (r : Rw) : sel z d (rs ++ [r]) = sel z d rs ++ (if r.1 = z ∧ r.2.1 ≤ d then [r.2] else []) := by
  unfold sel
  rw [List.filter_append, List.map_append]
  by_cases c : r.1 = z ∧ r.2.1 ≤ d <;> simp [c]
theorem ofSort_snoc (z : Str) (rs : List Rw) (r : Rw) : ofSort z (rs ++ [r]) = ofSort z rs ++ (if r.1 = z then [r.2] else []) := by
  unfold ofSort
  rw [List.filter_append, List.map_append]
  by_cases c : r.1 = z <;> simp [c]
theorem ofSort_len (z : Str) (rs : List Rw) : (ofSort z rs).length ≤ rs.length := by
  unfold ofSort
  rw [List.length_map]
  exact List.length_filter_le _ _
/-- rows of pairs by their places -/
theorem rows_pairs {G : Hp} : ∀ {acc : List V} {qs : List (Int × Int)}, RowsK G acc (qs.map kp2) → ∃ ps : List (Addr × Int × Int), acc = ps.map (fun p => V.ref p.1) ∧ ps.map (·.2) = qs ∧ ∀ p ∈ ps, G p.1 = some (.tup [.int p.2.1, .int p.2.2])
  | [], [], _ => ⟨[], rfl, rfl, by simp⟩
  | _ :: _, q :: _, ⟨⟨t, e, h⟩, b⟩ => by
    obtain ⟨ps, h1, h2, h3⟩ := rows_pairs b
    subst e
    refine ⟨(t, q) :: ps, by rw [h1]; rfl, by rw [← h2]; rfl, fun p hp => ?_⟩
    rcases List.mem_cons.mp hp with rfl | hp
    · exact h
    · exact h3 p hp
  | [], _ :: _, h => h.elim
  | _ :: _, [], h => h.elim
/-- the last amount -/
def lastA : List (Int × Int) → Int → Int
  | [], a => a
  | r :: rs, _ => lastA rs r.2
theorem chg_snoc (x : Int × Int) : ∀ (ps : List (Int × Int)) (a : Int), chg (ps ++ [x]) a = chg ps a ++ (if x.2 ≠ lastA ps a then [x] else [])
  | [], a => by
    show (if x.2 ≠ a then [x] else []) = _
    rfl
  | r :: ps, a => by
    show (if r.2 ≠ a then r :: chg (ps ++ [x]) r.2 else chg (ps ++ [x]) r.2) = _
    rw [chg_snoc x ps]
    simp only [chg, lastA]
    split <;> rfl
theorem lastA_snoc (x : Int × Int) : ∀ (ps : List (Int × Int)) (a : Int), lastA (ps ++ [x]) a = x.2
  | [], _ => rfl
  | r :: ps, _ => lastA_snoc x ps r.2
theorem chg_len : ∀ (ps : List (Int × Int)) (a : Int), (chg ps a).length ≤ ps.length
  | [], _ => Nat.le_refl _
  | r :: ps, a => by
    simp only [chg]
    have := chg_len ps r.2
    split
    · simp only [List.length_cons]
      omega
    · simp only [List.length_cons]
      omega
theorem rise_lt {ys : List Int} (nd : ys.Nodup) (le : ys.Pairwise (· ≤ ·)) : ys.Pairwise (· < ·) := by
  refine (le.and nd).imp fun {a b} h => ?_
  have h1 := h.1
  have h2 : a ≠ b := h.2
  omega
section
variable {P : Program} {w : World} {K : PySem.W.Frag} {mg : Str → Option Value} {base : Heap}

abbrev s_lstake : Stmt := top 33
theorem sc_lstake : FnScope ["_law_rows", "_law_kind", "_law_when", "_law_found", "_law_row"] ["_law_rows", "_law_kind", "_law_when"] (defScope s_lstake) := ⟨rfl, rfl, rfl, by decide +kernel, rfl, by decide +kernel, by decide +kernel⟩
def spStk : Sp := fun vs H Q _ => ∃ (l : Addr) (us : List V) (rs : List Rw) (z : Str) (d : Int), vs = [.ref l, .str z, .int d] ∧ H l = some (.lst us) ∧ RowsK H us (rs.map k3) ∧ rs.length ≤ 30 ∧ ∀ (v : Int) (H' : Hp), IsStake rs z d v → Same H H' → Q (.int v) H'
theorem ok_lstake {f : Addr} {fd : FuncData} (F : Fun K "_law_stake" "_law_stake" s_lstake f fd) (T : Top mg) : FnOk P w K mg base CX0 1 f fd ["_law_rows", "_law_kind", "_law_when"] spStk := by
  refine F.ok sc_lstake (fun vs H Q E h => ?_) (fun cdv A outer s H vs Q E hr h => ?_)
  · obtain ⟨l, us, rs, z, d, rfl, _⟩ := h
    rfl
  · obtain ⟨l, us, rs, z, d, rfl, hl, hR, hlen, k⟩ := h
    have lu : us.length = rs.length := by rw [hR.length, List.length_map]
    refine ⟨_, (pss_cons (ps_setLc (i := 3) (own := [("_law_row", 4)]) rfl sc_lstake.nd rfl rfl (sw_true rfl rfl rfl (by decide +kernel)) (pi_listK (K := K) rfl (pv 0)) (blkOk_by (N := ["_law_rows", "_law_kind", "_law_when", "_law_found", "_law_row"]) (sc := defScope s_lstake) (by decide +kernel)) (fun _ _ _ _ _ => (pg_name (i := 4) sc_lstake.nd rfl (by first | exact Or.inl rfl | exact Or.inr rfl))) (fun _ _ _ _ _ => (pts_one (PW.pt (pw_and (pt_cmpR op_eq (pe_ix (ix_tupK (K := K) rfl) (pv 4) pe_int (fun _ _ => rfl)) (pv 1) (nomark _)) (pw_and1 (pt_cmpR op_le (pe_ix (ix_tupK (K := K) rfl) (pv 4) pe_int (fun _ _ => rfl)) (pv 2) (nomark _))))))) (fun _ _ _ _ _ => (pe_tup (pa_cons (pe_ix (ix_tupK (K := K) rfl) (pv 4) pe_int (fun _ _ => rfl)) (pa_cons (pe_ix (ix_tupK (K := K) rfl) (pv 4) pe_int (fun _ _ => rfl)) pa_nil))))) 
      (pss_one (ps_ret (pe_ifExp (pt_cmpR (op_neDK (K := K) rfl hr.units) (pv 3) (pe_lst pa_nil) (nomark _)) (pe_ix (ix_tupK (K := K) rfl) (pe_callB (cr_max2 (K := K) rfl rfl hr.units) (by rfl) T.max (by decide +kernel) (pa_cons (pv 3) pa_nil)) pe_int (fun _ _ => rfl)) pe_int)))), ?_⟩
    walk_at "rd"
    intro D hD
    refine lcA (p := D) (walk_list (xs := us)) (fun i acc G => RowsK G acc ((sel z d (rs.take i)).map kp2)) hD (by omega) True.intro (fun H' e => SqL.of (e.get (ne_of_none hl hD) hl)) ?_ ?_
    · rintro i x G G' acc M hi e q la a ⟨rfl, y⟩ k1 k2
      obtain ⟨r, tt, hr', rfl, htt⟩ := rowsK_at (hR.mono (e.tsn hD)) y
      replace htt : G' tt = some (.tup [.str r.1, .int r.2.1, .int r.2.2]) := htt
      walk_at "rd"
      refine ⟨rfl, ?_⟩
      walk_at "rd"
      refine ite_dec (fun c => ?_) (fun c => ?_)
      · walk_at "rd"
        refine ite_dec (fun c2 => ?_) (fun c2 => ?_)
        · walk_at "rd"
          intro q1 hq1
          have nD : D ≠ q1 := ne_of_none q hq1
          refine k1 _ _ (e.new hq1) (by walk_at "hp") ?_
          rw [take_snoc hr', sel_snoc, if_pos ⟨c, c2⟩, List.map_append]
          have ts1 : TSt G' (upd G' q1 (.tup [.int r.2.1, .int r.2.2])) := TSt.new hq1
          have hD1 : upd G' q1 (.tup [.int r.2.1, .int r.2.2]) D = some (.lst acc) := by walk_at "hp"
          have ts2 := TSt.lst (o := .lst (acc ++ [.ref q1])) hD1
          exact ((a.mono ts1).mono ts2).snoc ⟨q1, rfl, by walk_at "hp"⟩
        · refine k2 _ e q ?_
          rw [take_snoc hr', sel_snoc, if_neg (fun h => c2 h.2), List.append_nil]
          exact a
      · walk_at "rd"
        refine k2 _ e q ?_
        rw [take_snoc hr', sel_snoc, if_neg (fun h => c h.1), List.append_nil]
        exact a
    · intro G acc e q la a
      rw [List.take_of_length_le (by omega)] at a
      have sG : Same H G := fun b o hb => e b o (ne_of_none hb hD) hb
      walk_at "rd"
      intro q1 hq1
      have Dq1 : D ≠ q1 := ne_of_none q hq1
      have a1 := a.mono (TSt.new (o := .lst []) hq1)
      refine rd_neNil (by walk_at "hp") a1 upd_same ?_
      walk_at "rd"
      refine ite_dec (fun c => ?_) (fun c => ?_)
      · walk_at "rd"
        obtain ⟨ps, ea, ep, hp⟩ := rows_pairs a1
        subst ea
        refine ⟨D, ps, rfl, SqL.of (by walk_at "hp"), fun z => ?_, fun p hp' => SqT.of (hp p hp'), fun p hp' hmax => ?_⟩
        · rw [z] at ep
          exact c ep.symm
        have hpp := hp p hp'
        walk_at "rd"
        refine k _ _ (sel_max (m := p.2) ?_ fun q hq => ?_) (same_new sG hq1)
        · rw [← ep]
          exact List.mem_map.mpr ⟨p, hp', rfl⟩
        · rw [← ep] at hq
          obtain ⟨p2, h1, rfl⟩ := List.mem_map.mp hq
          exact hmax p2 h1
      · walk_at "rd"
        exact k 0 _ (sel_nil (Classical.byContradiction c)) (same_new sG hq1)

abbrev s_lchanges : Stmt := top 34
theorem sc_lchanges : FnScope ["_law_rows", "_law_kind", "_law_found", "_law_last", "_law_when", "_law_much", "_law_row"] ["_law_rows", "_law_kind"] (defScope s_lchanges) := ⟨rfl, rfl, rfl, by decide +kernel, rfl, by decide +kernel, by decide +kernel⟩
def spLChg : Sp := fun vs H Q _ => ∃ (l : Addr) (us : List V) (rs : List Rw) (z : Str), vs = [.ref l, .str z] ∧ H l = some (.lst us) ∧ RowsK H us (rs.map k3) ∧ rs.length ≤ 30 ∧
  ∀ (H' : Hp) (t : Addr) (ws : List V) (lc : List (Int × Int)), Same H H' → H t = none → H' t = some (.tup ws) → RowsK H' ws (lc.map kp2) → LChg rs z lc → Q (.ref t) H'
theorem ok_lchanges {f fS : Addr} {fd fdS : FuncData} (F : Fun K "_law_changes" "_law_changes" s_lchanges f fd) (T : Top mg) (dStake : Def P w K mg base "_law_stake" 1 fS fdS ["_law_rows", "_law_kind", "_law_when"] spStk) : FnOk P w K mg base CX0 2 f fd ["_law_rows", "_law_kind"] spLChg := by
  refine F.ok sc_lchanges (fun vs H Q E h => ?_) (fun cdv A outer s H vs Q E hr h => ?_)
  · obtain ⟨l, us, rs, z, rfl, _⟩ := h
    rfl
  · obtain ⟨l, us, rs, z, rfl, hl, hR, hlen, k⟩ := h
    have lu : us.length = rs.length := by rw [hR.length, List.length_map]
    have ol := ofSort_len z rs
    refine ⟨_, (pss_cons (ps_par (i := 2) (j := 3) (by rfl) sc_lchanges.nd rfl rfl (by decide) rfl rfl (pa_cons (pe_lst pa_nil) (pa_cons pe_int pa_nil)) (by rfl)) 
      (pss_cons (ps_for PassesOwn.never rfl (pi_listK (K := K) rfl (pe_callB (cr_sortedIn rfl hr.units) (by rfl) T.sorted (by decide +kernel) (pa_cons (pe_callTy (cr_setIn rfl) (by rfl) T.set_ (by decide +kernel) (pa_cons (pe_lc (own := [("_law_row", 6)]) rfl sc_lchanges.nd (pi_listK (K := K) rfl (pv 0)) (blkOk_by (N := ["_law_rows", "_law_kind", "_law_found", "_law_last", "_law_when", "_law_much", "_law_row"]) (sc := defScope s_lchanges) (by decide +kernel)) (fun _ _ _ _ _ => (pg_name (i := 6) sc_lchanges.nd rfl (by first | exact Or.inl rfl | exact Or.inr rfl))) (fun _ _ _ _ _ => (pts_one (pt_cmpR op_eq (pe_ix (ix_tupK (K := K) rfl) (pv 6) pe_int (fun _ _ => rfl)) (pv 1) (nomark _)))) (fun _ _ _ _ _ => (pe_ix (ix_tupK (K := K) rfl) (pv 6) pe_int (fun _ _ => rfl)))) pa_nil)) pa_nil))) (pg_name (i := 4) sc_lchanges.nd rfl (by first | exact Or.inl rfl | exact Or.inr rfl)) 
        (pss_cons (ps_set (i := 5) sc_lchanges.nd rfl (by first | exact Or.inl rfl | exact Or.inr rfl) (pe_call dStake.ok (hr.mono (by decide)) (by rfl) dStake.mg dStake.kp dStake.bd .nil pass0 (pa_cons (pv 0) (pa_cons (pv 1) (pa_cons (pv 4) pa_nil))))) 
        (pss_cons (ps_if (pt_cmpR op_ne (pv 5) (pv 3) (nomark _)) 
          (pss_one (ps_expr (pe_bm PySem.F.plainAttrs_list PySem.F.slot_list_append PySem.F.type_list_append mt_append (pv 2) (pa_cons (pe_tup (pa_cons (pv 4) (pa_cons (pv 5) pa_nil))) pa_nil)))) pss_nil) 
        (pss_one (ps_set (i := 3) sc_lchanges.nd rfl (by first | exact Or.inl rfl | exact Or.inr rfl) (pv 5)))))) 
      (pss_one (ps_ret (pe_callTy call_tuple_of (by rfl) T.tuple (by decide +kernel) (pa_cons (pv 2) pa_nil)))))), ?_⟩
    walk_at "rd"
    intro c hc
    walk_at "rd"
    have s1 : Same H (upd H c (.lst [])) := same_new (Same.refl _) hc
    have hc1 : upd H c (.lst []) c = some (.lst []) := upd_same
    generalize upd H c (.lst []) = H1 at *
    have hl1 := s1 _ _ hl
    have hR1 := hR.same s1
    intro D hD
    refine lcA (p := D) (walk_list (xs := us)) (fun i acc G => acc = ((ofSort z (rs.take i)).map (·.1)).map V.int) hD (by omega) rfl (fun H' e => SqL.of (e.get (ne_of_none hl1 hD) hl1)) ?_ ?_
    · rintro i x G G' acc M hi e q la a ⟨rfl, y⟩ k1 k2
      obtain ⟨r, tt, hr', rfl, htt⟩ := rowsK_at (hR1.mono (e.tsn hD)) y
      replace htt : G' tt = some (.tup [.str r.1, .int r.2.1, .int r.2.2]) := htt
      walk_at "rd"
      refine ⟨rfl, ?_⟩
      walk_at "rd"
      refine ite_dec (fun c => ?_) (fun c => ?_)
      · walk_at "rd"
        refine k1 _ _ e q ?_
        rw [take_snoc hr', ofSort_snoc, if_pos c, a, List.map_append, List.map_append]
        rfl
      · refine k2 _ e q ?_
        rw [take_snoc hr', ofSort_snoc, if_neg c, List.append_nil]
        exact a
    · intro G acc e q la a
      rw [List.take_of_length_le (by omega)] at a
      subst a
      have sG : Same H1 G := fun b o hb => e b o (ne_of_none hb hD) hb
      walk_at "rd"
      refine ⟨D, (ofSort z rs).map (·.1), rfl, SqL.of q, by rw [List.length_map]; omega, fun p n hn hp => ?_⟩
      have s2 : Same H1 (upd G p (SetO w p (fun j => decide (j ∈ (ofSort z rs).map (·.1))) n)) := same_new sG hp
      have hp2 : upd G p (SetO w p (fun j => decide (j ∈ (ofSort z rs).map (·.1))) n) p = some (SetO w p (fun j => decide (j ∈ (ofSort z rs).map (·.1))) n) := upd_same
      rw [List.length_map] at hn
      walk_at "rd"
      refine ⟨p, _, n, rfl, upd_same, by omega, fun p2 ys nd srt mem ylen hpp => ?_⟩
      have s3 := same_new (o := .lst (ys.map V.int)) s2 hpp
      have hy : upd (upd G p (SetO w p (fun j => decide (j ∈ (ofSort z rs).map (·.1))) n)) p2 (.lst (ys.map V.int)) p2 = some (.lst (ys.map V.int)) := upd_same
      have hc3 := s3 _ _ hc1
      refine ⟨p2, rfl, ⟨_, SqL.of hy⟩, ?_⟩
      have cp2 : c ≠ p2 := ne_of_none (s2 _ _ hc1) hpp
      refine loopW (walk_list (xs := ys.map V.int)) (fun i σ G => ∃ (ws : List V) (ps : List (Int × Int)) (v4 v5 : Option V), σ = [some (.ref l), some (.str z), some (.ref c), some (.int (lastA ps 0)), v4, v5, none] ∧ Same H G ∧ G p2 = some (.lst (ys.map V.int)) ∧ G c = some (.lst ws) ∧ RowsK G ws ((chg ps 0).map kp2) ∧ ps.map (·.1) = ys.take i ∧ ∀ p ∈ ps, IsStake rs z p.1 p.2)
        ⟨[], [], none, none, rfl, s1.trans s3, hy, hc3, True.intro, rfl, by simp⟩ (fun i σ G _ ⟨_, _, _, _, _, _, h, _⟩ => SqL.of h) ?_ ?_
      · rintro i x σ G4 G5 hi ⟨ws, ps, v4, v5, rfl, s4, hy4, hc4, hR4, hps, hst⟩ ⟨rfl, y⟩
        have hi' : i < ys.length := by simpa using hi
        obtain ⟨d, hd, rfl⟩ : ∃ d, ys[i]? = some d ∧ x = .int d := by
          rw [List.getElem?_map, List.getElem?_eq_getElem hi'] at y
          exact ⟨ys[i], List.getElem?_eq_getElem hi', (Option.some.inj y).symm⟩
        have pl : ps.length = i := by
          have := congrArg List.length hps
          simp at this
          omega
        have hws : ws.length ≤ i := by
          have h1 := hR4.length
          rw [List.length_map] at h1
          have := chg_len ps 0
          omega
        have hul : ws.length < sizeLine := small1000 (by omega)
        have hl4 := s4 _ _ hl
        walk_at "rd"
        refine ⟨l, us, rs, z, d, rfl, hl4, hR.same s4, hlen, fun v G6 iv s6 => ?_⟩
        have hc6 := s6 _ _ hc4
        have hy6 := s6 _ _ hy4
        have hR6 := hR4.same s6
        walk_at "rd"
        have hps' : (ps ++ [(d, v)]).map (·.1) = ys.take (i + 1) := by rw [List.map_append, hps, take_snoc hd]; rfl
        have hst' : ∀ p ∈ ps ++ [(d, v)], IsStake rs z p.1 p.2 := fun p hp => by
          rcases List.mem_append.mp hp with h | h
          · exact hst p h
          · simp at h
            subst h
            exact iv
        by_cases e1 : v = lastA ps 0
        · refine iteND e1 ?_
          walk_at "rd"
          refine ⟨ws, ps ++ [(d, v)], _, _, by rw [lastA_snoc]; rfl, s4.trans s6, hy6, hc6, ?_, hps', hst'⟩
          rw [chg_snoc, if_neg (fun y => y e1), List.append_nil]
          exact hR6
        · rw [decide_eq_false e1]
          walk_at "rd"
          intro q1 hq1
          have nc1 : c ≠ q1 := ne_of_none hc6 hq1
          have np1 : p2 ≠ q1 := ne_of_none hy6 hq1
          walk_at "rd"
          have ts1 : TSt G6 (upd G6 q1 (.tup [.int d, .int v])) := TSt.new hq1
          have hc7 : upd G6 q1 (.tup [.int d, .int v]) c = some (.lst ws) := by walk_at "hp"
          have ts2 := TSt.lst (o := .lst (ws ++ [.ref q1])) hc7
          refine ⟨ws ++ [.ref q1], ps ++ [(d, v)], _, _, by rw [lastA_snoc]; rfl, fun b o hb => ?_, by walk_at "hp", upd_same, ?_, hps', hst'⟩
          · have h1 := s6 b o (s4 b o hb)
            have n1 : b ≠ c := ne_of_none hb hc
            walk_at "hp"
          · rw [chg_snoc, if_pos e1, List.map_append]
            exact ((hR6.mono ts1).mono ts2).snoc ⟨q1, rfl, by walk_at "hp"⟩
      · rintro σ G4 ⟨ws, ps, v4, v5, rfl, s4, hy4, hc4, hR4, hps, hst⟩
        rw [List.take_of_length_le (by simp)] at hps
        walk_at "rd"
        refine rd_tupOf hc4 fun q hq => ?_
        refine k _ q ws _ (same_new s4 hq) (same_free s4 hq) upd_same (hR4.mono (TSt.new hq)) ⟨ps, ?_, fun d => ?_, hst, rfl⟩
        · have := rise_lt nd srt
          rw [← hps, List.pairwise_map] at this
          exact this
        · have h1 := mem d
          rw [← hps] at h1
          constructor
          · rintro ⟨p, hp, rfl⟩
            have h2 := of_decide_eq_true (h1.mp (List.mem_map.mpr ⟨p, hp, rfl⟩))
            obtain ⟨q, hq, e⟩ := List.mem_map.mp h2
            exact ⟨_, mem_ofSort.mp hq, rfl, e⟩
          · rintro ⟨r, hr', e1, e2⟩
            have h2 : r.2 ∈ ofSort z rs := mem_ofSort.mpr (by rw [← e1]; exact hr')
            obtain ⟨p, hp, e⟩ := List.mem_map.mp (h1.mpr (decide_eq_true (List.mem_map.mpr ⟨r.2, h2, e2⟩)))
            exact ⟨p, hp, e⟩

end
end Sk
end

section
namespace Sk
open PySem L2
local macro_rules | `(tactic| walk_at "kb") => `(tactic| first | exact kb_int_int | exact kb_int_bool | exact kb_int_str | exact kb_int_tuple | exact kb_int_list | exact kb_tuple_int | exact kb_tuple_bool | exact kb_tuple_str | exact kb_tuple_tuple | exact kb_tuple_list | exact kb_list_int | exact kb_list_bool | exact kb_list_str | exact kb_list_tuple | exact kb_list_list | exact kb_bool_int | exact kb_bool_bool | exact kb_bool_str | exact kb_bool_tuple | exact kb_bool_list | exact kb_str_int | exact kb_str_bool | exact kb_str_str | exact kb_str_tuple | exact kb_str_list | exact kb_dict_int | exact kb_dict_bool | exact kb_dict_str | exact kb_dict_tuple | exact kb_dict_list | exact kb_NoneType_int | exact kb_NoneType_bool | exact kb_NoneType_str | exact kb_NoneType_tuple | exact kb_NoneType_list)
local macro_rules | `(tactic| walk_at "hp") => `(tactic| first
  | assumption
  | exact upd_same
  | (refine' upd_get ?n ?e; (case n => walk_at "ne"); (case e => walk_at "hp"))
  | (refine' But.get (by assumption) ?n ?e; (case n => walk_at "ne"); (case e => walk_at "hp"))
  | (refine' Ext.get (by assumption) ?n ?e; (case n => walk_at "ne"); (case e => walk_at "hp"))
  | (refine' same_get (by assumption) ?e; (case e => walk_at "hp")))
local macro_rules | `(tactic| walk_at "ne") => `(tactic| first
  | assumption
  | (apply Ne.symm; assumption)
  | (refine' ne_of_none ?h (by assumption); (case h => walk_at "hp"))
  | (apply Ne.symm; refine' ne_of_none ?h (by assumption); (case h => walk_at "hp")))
local macro_rules | `(tactic| walk_at "sd") => `(tactic| first
  | (show (0 : Int) < _; omega)
  | (simp only [CMul, CDiv]; omega)
  | exact ⟨by omega, by omega⟩)
local macro_rules | `(tactic| walk_at "rd1") => `(tactic| first
  | with_reducible refine' rd_c ?_
  | ((with_reducible refine' rd_var ?h ?_); (case h => exact rfl))
  | with_reducible refine' rd_op ?_
  | with_reducible refine' rd_seq ?_
  | with_reducible refine' rd_asg ?_
  | with_reducible refine' rd_gName ?_
  | with_reducible refine' rd_I0 ?_
  | ((with_reducible refine' rd_I ?c ?_); (case c => walk_at "sd"))
  | with_reducible refine' rd_eqI ?_
  | with_reducible refine' rd_neI ?_
  | with_reducible refine' rd_U ?_
  | with_reducible refine' rd_un ?_
  | with_reducible refine' rd_ret ?_
  | with_reducible refine' rd_drop ?_
  | with_reducible refine' rd_next ?_
  | with_reducible refine' rd_ifS ?_
  | with_reducible refine' rd_test ?_
  | with_reducible refine' rd_bl ?_
  | with_reducible refine' rd_nil ?_
  | with_reducible refine' rd_cons ?_
  | with_reducible refine' rd_tup ?_
  | with_reducible refine' rd_lst ?_
  | with_reducible refine' rd_call ?_
  | with_reducible refine' rd_cb ?_
  | with_reducible refine' rd_par ?_
  | with_reducible refine' rd_par2 ?_
  | with_reducible refine' rd_and ?_
  | with_reducible refine' rd_or ?_
  | with_reducible refine' rd_not ?_
  | with_reducible refine' rd_andV ?_
  | with_reducible refine' rd_orV ?_
  | with_reducible refine' rd_notV ?_
  | with_reducible refine' rd_if ?_
  | with_reducible refine' rd_gSub ?_
  | ((with_reducible refine' rd_ixL ?h ?e ?_); (case h => walk_at "hp"); (case e => exact rfl))
  | ((with_reducible refine' rd_ixT ?h ?e ?_); (case h => walk_at "hp"); (case e => exact rfl))
  | ((with_reducible refine' rd_setL ?h ?e ?_); (case h => walk_at "hp"); (case e => exact rfl))
  | ((with_reducible refine' rd_append ?h ?e ?_); (case h => walk_at "hp"); (case e => assumption))
  | (with_reducible refine' rd_bmL ?_)
  | ((with_reducible refine' And.intro (tyL ?h) ?_); (case h => walk_at "hp"))
  | ((with_reducible refine' And.intro (len_ok ?h) ?_); (case h => exact rfl))
  | with_reducible refine' rd_ex1 ?_
  | with_reducible refine' rd_ex2 ?_
  | with_reducible refine' rd_int1b ?_
  | ((with_reducible refine' rd_isiI ?e ?_); (case e => walk_at "kb"))
  | ((with_reducible refine' rd_isiB ?e ?_); (case e => walk_at "kb"))
  | ((with_reducible refine' rd_isiT ?h ?e ?_); (case h => walk_at "hp"); (case e => walk_at "kb"))
  | ((with_reducible refine' rd_isiL ?h ?e ?_); (case h => walk_at "hp"); (case e => walk_at "kb"))
  | ((with_reducible refine' rd_lenL ?h ?_); (case h => walk_at "hp"))
  | ((with_reducible refine' rd_lenT ?h ?_); (case h => walk_at "hp"))
  | ((with_reducible refine' rd_gTup ?h ?e ?_); (case h => walk_at "hp"); (case e => exact rfl))
  | with_reducible refine' rd_gCons ?_
  | with_reducible refine' rd_gNil ?_
  | with_reducible refine' rd_yes ?_
  | with_reducible refine' rd_for ?_
  | with_reducible refine' rd_lc ?_
  | with_reducible refine' rd_rng1 ?_
  | with_reducible refine' rd_iL ?_
  | with_reducible refine' rd_iT ?_
  | with_reducible refine' rd_iE ?_
  | with_reducible refine' rd_iZ ?_
  | ((with_reducible refine' rd_iL' ?h ?_); (case h => walk_at "hp"))
  | ((with_reducible refine' rd_iT' ?h ?_); (case h => walk_at "hp"))
  | ((with_reducible refine' rd_iE' ?h ?_); (case h => walk_at "hp"))
  | ((with_reducible refine' rd_iZ' ?h1 ?h2 ?_); (case h1 => walk_at "hp"); (case h2 => walk_at "hp"))
  | with_reducible refine' iteT ?_
  | with_reducible refine' iteF ?_)
local macro_rules | `(tactic| walk_at "rd") => `(tactic| repeat walk_at "rd1")
local macro_rules | `(tactic| walk_at "rd1") => `(tactic| first | with_reducible refine' rd_tB ?_ | with_reducible refine' iteNT ?_ | with_reducible refine' iteNF ?_ | with_reducible refine' rd_iEA (tam_cons tem_var tam_nil) ?_ | with_reducible refine' rd_iSA tem_var ?_ | with_reducible refine' rd_iZA (tam_cons tem_var (tam_cons tem_var tam_nil)) ?_)
local macro_rules | `(tactic| walk_at "rd1") => `(tactic| first | with_reducible refine' rd_eqS ?_ | with_reducible refine' rd_neS ?_ | ((with_reducible refine' rd_isiS ?e ?_); (case e => walk_at "kb")) | with_reducible refine' rd_inS ?_ | with_reducible refine' rd_iS ?_ | with_reducible refine' rd_iS' ?_)
/-- the spare words -/
def spares : List Str := ["zzzzzz", "zzzzzy", "zzzzzx", "zzzzzw", "zzzzzv", "zzzzzu"]
theorem spares_name : ∀ z ∈ spares, IsName z := by decide +kernel
theorem spares_nodup : spares.Nodup := by decide +kernel
section
variable {P : Program} {w : World} {K : PySem.W.Frag} {mg : Str → Option Value} {base : Heap}

abbrev s_some : Stmt := top 35
theorem sc_some : FnScope ["_law_purse_here", "_law_kinds", "_law_most"] ["_law_purse_here"] (defScope s_some) := ⟨rfl, rfl, rfl, by decide +kernel, rfl, by decide +kernel, by decide +kernel⟩
def spSome : Sp := fun vs H Q _ => ∃ p : Addr, vs = [.ref p] ∧ Purse H p ∧
  ∀ (H' : Hp) (a : Addr) (us : List V) (ks : List Str) (rs : List Rw), Purse H' p → Ext p H H' → H a = none → a ≠ p → H' a = some (.lst us) → RowsK H' us (rs.map k3) → Drawn ks rs → Q (.ref a) H'
theorem ok_some {f fT fW fR : Addr} {fd fdT fdW fdR : FuncData} (F : Fun K "_law_some_rows" "_law_some_rows" s_some f fd) (T : Top mg) (dT : Def P w K mg base "_law_take" 1 fT fdT ["_law_purse_here", "_law_many"] spTake)
    (dWords : Def P w K mg base "_law_words" 3 fW fdW ["_law_purse_here", "_law_many"] spWords) (dSRows : Def P w K mg base "_law_stake_rows" 2 fR fdR ["_law_purse_here", "_law_kinds", "_law_many"] spSRows) : FnOk P w K mg base CX0 4 f fd ["_law_purse_here"] spSome := by
  refine F.ok sc_some (fun vs H Q E h => ?_) (fun cdv A outer s H vs Q E hr h => ?_)
  · obtain ⟨p, rfl, _⟩ := h
    rfl
  · obtain ⟨p, rfl, P0, k⟩ := h
    refine ⟨_, (pss_cons (ps_set (i := 1) sc_some.nd rfl (by first | exact Or.inl rfl | exact Or.inr rfl) (pe_call dWords.ok (hr.mono (by decide)) (by rfl) dWords.mg dWords.kp dWords.bd .nil pass0 (pa_cons (pv 0) (pa_cons (pe_op op_add pe_int (pe_call dT.ok (hr.mono (by decide)) (by rfl) dT.mg dT.kp dT.bd .nil pass0 (pa_cons (pv 0) (pa_cons pe_int pa_nil)))) pa_nil)))) 
      (pss_cons (ps_set (i := 2) sc_some.nd rfl (by first | exact Or.inl rfl | exact Or.inr rfl) (pe_ix (ix_listK (K := K) rfl) (pe_lst (pa_cons pe_int (pa_cons pe_int (pa_cons pe_int (pa_cons pe_int (pa_cons pe_int (pa_cons pe_int pa_nil))))))) (pe_call dT.ok (hr.mono (by decide)) (by rfl) dT.mg dT.kp dT.bd .nil pass0 (pa_cons (pv 0) (pa_cons pe_int pa_nil))) (fun _ _ => rfl))) 
      (pss_one (ps_ret (pe_call dSRows.ok (hr.mono (by decide)) (by rfl) dSRows.mg dSRows.kp dSRows.bd .nil pass0 (pa_cons (pv 0) (pa_cons (pv 1) (pa_cons (pe_call dT.ok (hr.mono (by decide)) (by rfl) dT.mg dT.kp dT.bd .nil pass0 (pa_cons (pv 0) (pa_cons (pv 2) pa_nil))) pa_nil)))))))), ?_⟩
    walk_at "rd"
    refine rd_take P0 (by decide) (by decide) fun r1 H1 a1 b1 P1 C1 => ?_
    walk_at "rd"
    obtain ⟨n, rfl⟩ : ∃ n : Nat, r1 = n := ⟨r1.toNat, by omega⟩
    refine ⟨p, 1 + n, by simp, P1, by omega, fun H2 l ys P2 E2 hl0 lp hl ylen yn => ?_⟩
    walk_at "rd"
    intro q1 hq1
    have q1p := P2.ne hq1
    have lq1 : l ≠ q1 := ne_of_none hl hq1
    walk_at "rd"
    refine rd_take (P2.upd q1p) (by decide) (by decide) fun r2 H3 a2 b2 P3 C3 => ?_
    refine rd_ixI (ns := [9, 9, 9, 9, 9, 31]) (by walk_at "hp") a2 (by simpa using b2) fun most hm => ?_
    have hm' : 0 < most ∧ most ≤ 31 := by simp at hm; omega
    walk_at "rd"
    refine rd_take P3 (by omega) (by omega) fun r3 H4 a3 b3 P4 C4 => ?_
    obtain ⟨m, rfl⟩ : ∃ m : Nat, r3 = m := ⟨r3.toNat, by omega⟩
    walk_at "rd"
    have E4 : Ext p H2 H4 := ((Ext.refl.new hq1).put C3).put C4
    have EA : Ext p H H4 := (C1.ext.trans E2).trans E4
    refine ⟨p, l, ys, m, rfl, P4, E4.get lp hl, lp, fun z => ?_, by omega, yn, by omega, fun H5 a us rs P5 E5 ha0 ap ha hR D => ?_⟩
    · rw [z] at ylen
      simp at ylen
      omega
    · exact k H5 a us ys rs P5 (EA.trans E5) (EA.free ha0 ap) ap ha hR D

abbrev s_days : Stmt := top 37
theorem sc_days : FnScope ["_law_rows", "_law_found", "_law_kind", "_law_when", "_law_much", "_law_near"] ["_law_rows"] (defScope s_days) := ⟨rfl, rfl, rfl, by decide +kernel, rfl, by decide +kernel, by decide +kernel⟩
def spDays : Sp := fun vs H Q _ => ∃ (l : Addr) (us : List V) (rs : List Rw), vs = [.ref l] ∧ H l = some (.lst us) ∧ RowsK H us (rs.map k3) ∧ rs.length ≤ 30 ∧
  ∀ (H' : Hp) (t : Addr) (ds : List Int), Same H H' → H t = none → H' t = some (.lst (ds.map V.int)) → ds.length ≤ 100 → (∀ d ∈ ds, 0 ≤ d ∧ d ≤ 9999) → Q (.ref t) H'
theorem ok_days {f : Addr} {fd : FuncData} (F : Fun K "_law_days_beside" "_law_days_beside" s_days f fd) (T : Top mg) : FnOk P w K mg base CX0 1 f fd ["_law_rows"] spDays := by
  refine F.ok sc_days (fun vs H Q E h => ?_) (fun cdv A outer s H vs Q E hr h => ?_)
  · obtain ⟨l, us, rs, rfl, _⟩ := h
    rfl
  · obtain ⟨l, us, rs, rfl, hl, hR, hlen, k⟩ := h
    have lu : us.length = rs.length := by rw [hR.length, List.length_map]
    refine ⟨_, (pss_cons (ps_set (i := 1) sc_days.nd rfl (by first | exact Or.inl rfl | exact Or.inr rfl) (pe_lst (pa_cons pe_int (pa_cons pe_int pa_nil)))) 
      (pss_cons (ps_for PassesOwn.never rfl (pi_listK (K := K) rfl (pv 0)) (pg_tupK (K := K) (n := 3) rfl (by rfl) (pgs_cons (pg_name (i := 2) sc_days.nd rfl (by first | exact Or.inl rfl | exact Or.inr rfl)) (pgs_cons (pg_name (i := 3) sc_days.nd rfl (by first | exact Or.inl rfl | exact Or.inr rfl)) (pgs_cons (pg_name (i := 4) sc_days.nd rfl (by first | exact Or.inl rfl | exact Or.inr rfl)) pgs_nil)))) 
        (pss_one (ps_set (i := 1) sc_days.nd rfl (by first | exact Or.inl rfl | exact Or.inr rfl) (pe_op op_cat (pv 1) (pe_lc (own := [("_law_near", 5)]) rfl sc_days.nd (pi_tupK (K := K) rfl (pe_tup (pa_cons (pe_op op_sub (pv 3) pe_int) (pa_cons (pv 3) (pa_cons (pe_op op_add (pv 3) pe_int) pa_nil))))) (blkOk_by (N := ["_law_rows", "_law_found", "_law_kind", "_law_when", "_law_much", "_law_near"]) (sc := defScope s_days) (by decide +kernel)) (fun _ _ _ _ _ => (pg_name (i := 5) sc_days.nd rfl (by first | exact Or.inl rfl | exact Or.inr rfl))) (fun _ _ _ _ _ => (pts_one (pt_chain op_le op_le pe_int (pv 5) pe_int))) (fun _ _ _ _ _ => (pv 5))))))) 
      (pss_one (ps_ret (pe_callB (cr_sortedIn rfl hr.units) (by rfl) T.sorted (by decide +kernel) (pa_cons (pe_callTy (cr_setIn rfl) (by rfl) T.set_ (by decide +kernel) (pa_cons (pv 1) pa_nil)) pa_nil)))))), ?_⟩
    walk_at "rd"
    intro a ha
    have la : l ≠ a := ne_of_none hl ha
    walk_at "rd"
    refine loopW (walk_list (xs := us)) (fun i σ G => ∃ (b : Addr) (ds : List Int) (v2 v3 v4 : Option V), σ = [some (.ref l), some (.ref b), v2, v3, v4, none] ∧ Same H G ∧ G b = some (.lst (ds.map V.int)) ∧ ds.length ≤ 2 + 3 * i ∧ ∀ d ∈ ds, 0 ≤ d ∧ d ≤ 9999)
      ⟨a, [0, 9999], none, none, none, rfl, same_new (Same.refl _) ha, upd_same, by simp, by simp⟩ (fun i σ G _ ⟨_, _, _, _, _, _, sG, _⟩ => SqL.of (sG _ _ hl)) ?_ ?_
    · rintro i x σ G G' hi ⟨b, ds, v2, v3, v4, rfl, sG, hb, dl, db⟩ ⟨rfl, y⟩
      obtain ⟨r, tt, hr', rfl, htt⟩ := rowsK_at (hR.same sG) y
      replace htt : G' tt = some (.tup [.str r.1, .int r.2.1, .int r.2.2]) := htt
      walk_at "rd"
      intro T1 hT1
      have bT1 : b ≠ T1 := ne_of_none hb hT1
      walk_at "rd"
      have s2 : Same H (upd G' T1 (.tup [.int (r.2.1 - 1), .int r.2.1, .int (r.2.1 + 1)])) := same_new sG hT1
      have hT2 : upd G' T1 (.tup [.int (r.2.1 - 1), .int r.2.1, .int (r.2.1 + 1)]) T1 = some (.tup [.int (r.2.1 - 1), .int r.2.1, .int (r.2.1 + 1)]) := upd_same
      have hb2 : upd G' T1 (.tup [.int (r.2.1 - 1), .int r.2.1, .int (r.2.1 + 1)]) b = some (.lst (ds.map V.int)) := by walk_at "hp"
      generalize upd G' T1 (.tup [.int (r.2.1 - 1), .int r.2.1, .int (r.2.1 + 1)]) = G2 at *
      intro D hD
      have bD : b ≠ D := ne_of_none hb2 hD
      refine lcA (p := D) (walk_tup (xs := [.int (r.2.1 - 1), .int r.2.1, .int (r.2.1 + 1)])) (fun i acc G => ∃ ns : List Int, acc = ns.map V.int ∧ ns.length ≤ i ∧ ∀ d ∈ ns, 0 ≤ d ∧ d ≤ 9999) hD (by simp) ⟨[], rfl, Nat.le_refl _, by simp⟩ (fun H' e => SqT.of (e.get (ne_of_none hT2 hD) hT2)) ?_ ?_
      · rintro j x G3 G3' acc M hj e q la' ⟨ns, rfl, nl, nb⟩ ⟨rfl, y⟩ k1 k2
        obtain ⟨n, rfl⟩ : ∃ n : Int, x = .int n := by
          have := List.mem_of_getElem? y
          simp at this
          rcases this with rfl | rfl | rfl <;> exact ⟨_, rfl⟩
        walk_at "rd"
        refine ⟨rfl, ?_⟩
        walk_at "rd"
        refine rd_inB (n := n) (fun R h => rd_c h) (fun R h => rd_var rfl h) (fun R h => rd_c h) ?_
        refine ⟨_, rfl, ?_⟩
        cases c : inB n 0 9999 with
        | true =>
          walk_at "rd"
          refine k1 _ _ e q ⟨ns ++ [n], by simp, by simp; omega, fun d hd => ?_⟩
          rcases List.mem_append.mp hd with h | h
          · exact nb d h
          · simp at h
            subst h
            simp [inB] at c
            exact c
        | false =>
          walk_at "rd"
          exact k2 _ e q ⟨ns, rfl, by omega, nb⟩
      · rintro G3 acc e q la' ⟨ns, rfl, nl, nb⟩
        have hb3 := e.get bD hb2
        have s3 : Same H G3 := fun b o hb => e b o (ne_of_none (s2 b o hb) hD) (s2 b o hb)
        walk_at "rd"
        refine rd_cat hb3 q (by simp; exact Nat.le_of_lt (small1000 (by simp at nl; omega))) fun p hp => ?_
        refine ⟨p, ds ++ ns, _, _, _, rfl, same_new s3 hp, by rw [upd_same, List.map_append], by simp at nl ⊢; omega, fun d hd => ?_⟩
        rcases List.mem_append.mp hd with h | h
        · exact db d h
        · exact nb d h
    · rintro σ G ⟨b, ds, v2, v3, v4, rfl, sG, hb, dl, db⟩
      walk_at "rd"
      refine ⟨b, ds, rfl, SqL.of hb, by omega, fun p n hn hp => ?_⟩
      walk_at "rd"
      refine ⟨p, _, n, rfl, upd_same, by omega, fun p2 ys nd srt mem ylen hpp => ?_⟩
      have s2 := same_new (o := SetO w p (fun j => decide (j ∈ ds)) n) sG hp
      refine k _ p2 ys (same_new s2 hpp) (same_free s2 hpp) upd_same (by omega) fun d hd => ?_
      exact db d (of_decide_eq_true ((mem d).mp hd))

abbrev s_spare : Stmt := top 38
theorem sc_spare : FnScope ["_law_rows", "_law_known", "_law_row", "_law_one"] ["_law_rows"] (defScope s_spare) := ⟨rfl, rfl, rfl, by decide +kernel, rfl, by decide +kernel, by decide +kernel⟩
def spSpare : Sp := fun vs H Q _ => ∃ (l : Addr) (us : List V) (ks : List Str) (rs : List Rw), vs = [.ref l] ∧ H l = some (.lst us) ∧ RowsK H us (rs.map k3) ∧ Drawn ks rs ∧ ∀ (z : Str) (H' : Hp), Same H H' → IsName z → Q (.str z) H'
theorem ok_spare {f : Addr} {fd : FuncData} (F : Fun K "_law_spare" "_law_spare" s_spare f fd) (T : Top mg) : FnOk P w K mg base CX0 1 f fd ["_law_rows"] spSpare := by
  refine F.ok sc_spare (fun vs H Q E h => ?_) (fun cdv A outer s H vs Q E hr h => ?_)
  · obtain ⟨l, us, ks, rs, rfl, _⟩ := h
    rfl
  · obtain ⟨l, us, ks, rs, rfl, hl, hR, Dr, k⟩ := h
    have lu : us.length = rs.length := by rw [hR.length, List.length_map]
    have bo := Dr.ok.len
    refine ⟨_, (pss_cons (ps_set (i := 1) sc_spare.nd rfl (by first | exact Or.inl rfl | exact Or.inr rfl) (pe_lc (own := [("_law_row", 2)]) (tt := tYes) rfl sc_spare.nd (pi_listK (K := K) rfl (pv 0)) (blkOk_by (N := ["_law_rows", "_law_known", "_law_row", "_law_one"]) (sc := defScope s_spare) (by decide +kernel)) (fun _ _ _ _ _ => (pg_name (i := 2) sc_spare.nd rfl (by first | exact Or.inl rfl | exact Or.inr rfl))) (fun _ _ _ _ _ => pts_nil) (fun _ _ _ _ _ => (pe_ix (ix_tupK (K := K) rfl) (pv 2) pe_int (fun _ _ => rfl))))) 
      (pss_one (ps_ret (pe_ix (ix_listK (K := K) rfl) (pe_lc (own := [("_law_one", 3)]) rfl sc_spare.nd (pi_listK (K := K) rfl (pe_lst (pa_cons pe_str (pa_cons pe_str (pa_cons pe_str (pa_cons pe_str (pa_cons pe_str (pa_cons pe_str pa_nil)))))))) (blkOk_by (N := ["_law_rows", "_law_known", "_law_row", "_law_one"]) (sc := defScope s_spare) (by decide +kernel)) (fun _ _ _ _ _ => (pg_name (i := 3) sc_spare.nd rfl (by first | exact Or.inl rfl | exact Or.inr rfl))) (fun _ _ _ _ _ => (pts_one (pt_cmpR (op_notInDK (K := K) rfl (u65 hr)) (pv 3) (pv 1) (by rfl)))) (fun _ _ _ _ _ => (pv 3))) pe_int (fun _ _ => rfl))))), ?_⟩
    walk_at "rd"
    intro D hD
    refine lcA (p := D) (walk_list (xs := us)) (fun i acc G => acc = ((rs.take i).map (·.1)).map V.str) hD (by omega) rfl (fun H' e => SqL.of (e.get (ne_of_none hl hD) hl)) ?_ ?_
    · rintro i x G G' acc M hi e q la a ⟨rfl, y⟩ k1 k2
      obtain ⟨r, tt, hr', rfl, htt⟩ := rowsK_at (hR.mono (e.tsn hD)) y
      replace htt : G' tt = some (.tup [.str r.1, .int r.2.1, .int r.2.2]) := htt
      walk_at "rd"
      refine ⟨rfl, ?_⟩
      walk_at "rd"
      refine k1 _ _ e q ?_
      rw [take_snoc hr', a, List.map_append, List.map_append]
      rfl
    · intro G acc e q la a
      rw [List.take_of_length_le (by omega)] at a
      subst a
      have sG : Same H G := fun b o hb => e b o (ne_of_none hb hD) hb
      walk_at "rd"
      intro m hm
      have Dm : D ≠ m := ne_of_none q hm
      walk_at "rd"
      have q2 : upd G m (.lst (spares.map V.str)) D = some (.lst ((rs.map (·.1)).map V.str)) := by walk_at "hp"
      have hm2 : upd G m (.lst (spares.map V.str)) m = some (.lst (spares.map V.str)) := upd_same
      have s2 : Same H (upd G m (.lst (spares.map V.str))) := same_new sG hm
      intro D2 hD2
      replace hD2 : upd G m (.lst (spares.map V.str)) D2 = none := hD2
      have yl : ∀ y ∈ rs.map (·.1), Lets y := fun y hy => by
        obtain ⟨r, hr', rfl⟩ := List.mem_map.mp hy
        exact (Dr.ok.bnd r hr').1.2
      refine lcA (H0 := upd G m (.lst (spares.map V.str))) (p := D2) (walk_list (xs := spares.map V.str)) (fun i acc _ => acc = ((spares.take i).filter fun s => decide (s ∉ rs.map (·.1))).map V.str) hD2 (by decide) rfl (fun H' e' => SqL.of (e'.get (ne_of_none hm2 hD2) hm2)) ?_ ?_
      · rintro i x G2 G2' acc M hi e' q' la' a' ⟨rfl, y⟩ k1 k2
        obtain ⟨z, hz, rfl⟩ : ∃ z, spares[i]? = some z ∧ x = .str z := by
          rw [List.getElem?_map] at y
          cases h : spares[i]? with
          | none => rw [h] at y; cases y
          | some z => rw [h] at y; exact ⟨z, rfl, (Option.some.inj y).symm⟩
        have hq2 := e'.get (ne_of_none q2 hD2) q2
        walk_at "rd"
        refine ⟨rfl, ?_⟩
        walk_at "rd"
        refine rd_ninS hq2 (spares_name z (List.mem_of_getElem? hz)).2 yl ?_
        walk_at "rd"
        by_cases c2 : z ∈ rs.map (·.1)
        · rw [decide_eq_true c2]
          refine iteNT ?_
          refine k2 _ e' q' ?_
          rw [take_snoc hz, List.filter_append, a']
          simp at c2
          simp [c2]
        · rw [decide_eq_false c2]
          refine iteNF ?_
          walk_at "rd"
          refine k1 _ _ e' q' ?_
          rw [take_snoc hz, List.filter_append, a']
          simp at c2
          simp [c2]
      · intro G2 acc e' q' la' a'
        rw [List.take_of_length_le (by decide)] at a'
        obtain ⟨wd, hw1, hw2⟩ := pigeon_out (ys := ks) spares_nodup (Nat.lt_of_le_of_lt Dr.few (by decide))
        have hne : wd ∈ (spares.filter fun s => decide (s ∉ rs.map (·.1))) := List.mem_filter.mpr ⟨hw1, decide_eq_true fun h => by
          obtain ⟨r, hr', rfl⟩ := List.mem_map.mp h
          exact hw2 (Dr.of r hr')⟩
        have hall : ∀ s ∈ (spares.filter fun s => decide (s ∉ rs.map (·.1))), IsName s := fun s hs => spares_name s (List.mem_filter.mp hs).1
        generalize (spares.filter fun s => decide (s ∉ rs.map (·.1))) = fs at *
        subst a'
        walk_at "rd"
        refine rd_ixS q' (by decide) (by have := List.length_pos_of_mem hne; omega) fun s hs => ?_
        refine k s G2 (fun b o hb => ?_) (hall s hs)
        have h1 := s2 b o hb
        exact e' b o (ne_of_none h1 hD2) h1

end
end Sk
end

section
namespace Sk
open PySem L2
local macro_rules | `(tactic| walk_at "kb") => `(tactic| first | exact kb_int_int | exact kb_int_bool | exact kb_int_str | exact kb_int_tuple | exact kb_int_list | exact kb_tuple_int | exact kb_tuple_bool | exact kb_tuple_str | exact kb_tuple_tuple | exact kb_tuple_list | exact kb_list_int | exact kb_list_bool | exact kb_list_str | exact kb_list_tuple | exact kb_list_list | exact kb_bool_int | exact kb_bool_bool | exact kb_bool_str | exact kb_bool_tuple | exact kb_bool_list | exact kb_str_int | exact kb_str_bool | exact kb_str_str | exact kb_str_tuple | exact kb_str_list | exact kb_dict_int | exact kb_dict_bool | exact kb_dict_str | exact kb_dict_tuple | exact kb_dict_list | exact kb_NoneType_int | exact kb_NoneType_bool | exact kb_NoneType_str | exact kb_NoneType_tuple | exact kb_NoneType_list)
local macro_rules | `(tactic| walk_at "hp") => `(tactic| first
  | assumption
  | exact upd_same
  | (refine' upd_get ?n ?e; (case n => walk_at "ne"); (case e => walk_at "hp"))
  | (refine' But.get (by assumption) ?n ?e; (case n => walk_at "ne"); (case e => walk_at "hp"))
  | (refine' Ext.get (by assumption) ?n ?e; (case n => walk_at "ne"); (case e => walk_at "hp"))
  | (refine' same_get (by assumption) ?e; (case e => walk_at "hp")))
local macro_rules | `(tactic| walk_at "ne") => `(tactic| first
  | assumption
  | (apply Ne.symm; assumption)
  | (refine' ne_of_none ?h (by assumption); (case h => walk_at "hp"))
  | (apply Ne.symm; refine' ne_of_none ?h (by assumption); (case h => walk_at "hp")))
local macro_rules | `(tactic| walk_at "sd") => `(tactic| first
  | (show (0 : Int) < _; omega)
  | (simp only [CMul, CDiv]; omega)
  | exact ⟨by omega, by omega⟩)
local macro_rules | `(tactic| walk_at "rd1") => `(tactic| first
  | with_reducible refine' rd_c ?_
  | ((with_reducible refine' rd_var ?h ?_); (case h => exact rfl))
  | with_reducible refine' rd_op ?_
  | with_reducible refine' rd_seq ?_
  | with_reducible refine' rd_asg ?_
  | with_reducible refine' rd_gName ?_
  | with_reducible refine' rd_I0 ?_
  | ((with_reducible refine' rd_I ?c ?_); (case c => walk_at "sd"))
  | with_reducible refine' rd_eqI ?_
  | with_reducible refine' rd_neI ?_
  | with_reducible refine' rd_U ?_
  | with_reducible refine' rd_un ?_
  | with_reducible refine' rd_ret ?_
  | with_reducible refine' rd_drop ?_
  | with_reducible refine' rd_next ?_
  | with_reducible refine' rd_ifS ?_
  | with_reducible refine' rd_test ?_
  | with_reducible refine' rd_bl ?_
  | with_reducible refine' rd_nil ?_
  | with_reducible refine' rd_cons ?_
  | with_reducible refine' rd_tup ?_
  | with_reducible refine' rd_lst ?_
  | with_reducible refine' rd_call ?_
  | with_reducible refine' rd_cb ?_
  | with_reducible refine' rd_par ?_
  | with_reducible refine' rd_par2 ?_
  | with_reducible refine' rd_and ?_
  | with_reducible refine' rd_or ?_
  | with_reducible refine' rd_not ?_
  | with_reducible refine' rd_andV ?_
  | with_reducible refine' rd_orV ?_
  | with_reducible refine' rd_notV ?_
  | with_reducible refine' rd_if ?_
  | with_reducible refine' rd_gSub ?_
  | ((with_reducible refine' rd_ixL ?h ?e ?_); (case h => walk_at "hp"); (case e => exact rfl))
  | ((with_reducible refine' rd_ixT ?h ?e ?_); (case h => walk_at "hp"); (case e => exact rfl))
  | ((with_reducible refine' rd_setL ?h ?e ?_); (case h => walk_at "hp"); (case e => exact rfl))
  | ((with_reducible refine' rd_append ?h ?e ?_); (case h => walk_at "hp"); (case e => assumption))
  | (with_reducible refine' rd_bmL ?_)
  | ((with_reducible refine' And.intro (tyL ?h) ?_); (case h => walk_at "hp"))
  | ((with_reducible refine' And.intro (len_ok ?h) ?_); (case h => exact rfl))
  | with_reducible refine' rd_ex1 ?_
  | with_reducible refine' rd_ex2 ?_
  | with_reducible refine' rd_int1b ?_
  | ((with_reducible refine' rd_isiI ?e ?_); (case e => walk_at "kb"))
  | ((with_reducible refine' rd_isiB ?e ?_); (case e => walk_at "kb"))
  | ((with_reducible refine' rd_isiT ?h ?e ?_); (case h => walk_at "hp"); (case e => walk_at "kb"))
  | ((with_reducible refine' rd_isiL ?h ?e ?_); (case h => walk_at "hp"); (case e => walk_at "kb"))
  | ((with_reducible refine' rd_lenL ?h ?_); (case h => walk_at "hp"))
  | ((with_reducible refine' rd_lenT ?h ?_); (case h => walk_at "hp"))
  | ((with_reducible refine' rd_gTup ?h ?e ?_); (case h => walk_at "hp"); (case e => exact rfl))
  | with_reducible refine' rd_gCons ?_
  | with_reducible refine' rd_gNil ?_
  | with_reducible refine' rd_yes ?_
  | with_reducible refine' rd_for ?_
  | with_reducible refine' rd_lc ?_
  | with_reducible refine' rd_rng1 ?_
  | with_reducible refine' rd_iL ?_
  | with_reducible refine' rd_iT ?_
  | with_reducible refine' rd_iE ?_
  | with_reducible refine' rd_iZ ?_
  | ((with_reducible refine' rd_iL' ?h ?_); (case h => walk_at "hp"))
  | ((with_reducible refine' rd_iT' ?h ?_); (case h => walk_at "hp"))
  | ((with_reducible refine' rd_iE' ?h ?_); (case h => walk_at "hp"))
  | ((with_reducible refine' rd_iZ' ?h1 ?h2 ?_); (case h1 => walk_at "hp"); (case h2 => walk_at "hp"))
  | with_reducible refine' iteT ?_
  | with_reducible refine' iteF ?_)
local macro_rules | `(tactic| walk_at "rd") => `(tactic| repeat walk_at "rd1")
local macro_rules | `(tactic| walk_at "rd1") => `(tactic| first | with_reducible refine' rd_tB ?_ | with_reducible refine' iteNT ?_ | with_reducible refine' iteNF ?_ | with_reducible refine' rd_iEA (tam_cons tem_var tam_nil) ?_ | with_reducible refine' rd_iSA tem_var ?_ | with_reducible refine' rd_iZA (tam_cons tem_var (tam_cons tem_var tam_nil)) ?_)
local macro_rules | `(tactic| walk_at "rd1") => `(tactic| first | with_reducible refine' rd_eqS ?_ | with_reducible refine' rd_neS ?_ | ((with_reducible refine' rd_isiS ?e ?_); (case e => walk_at "kb")) | with_reducible refine' rd_inS ?_ | with_reducible refine' rd_iS ?_ | with_reducible refine' rd_iS' ?_)
local macro_rules | `(tactic| walk_at "rd1") => `(tactic| first | with_reducible refine' rd_isN ?_ | with_reducible refine' rd_fld ?_ | with_reducible refine' rd_sfld ?_ | with_reducible refine' rd_meth ?_ | with_reducible refine' rd_sc ?_)
theorem brows_of {ps : List (Int × Int)} (h : ∀ p ∈ ps, (0 ≤ p.1 ∧ p.1 ≤ 9999) ∧ (0 ≤ p.2 ∧ p.2 ≤ 9999)) (hl : ps.length ≤ 1000) : BRows (ps.map kp2) := by
  refine ⟨by simpa using hl, fun ks hks => ?_⟩
  obtain ⟨p, hp, rfl⟩ := List.mem_map.mp hks
  have h1 := h p hp
  refine ⟨by simp [kp2], fun k hk => ?_⟩
  simp [kp2] at hk
  rcases hk with rfl | rfl
  · show p.1.natAbs < 10 ^ 12
    omega
  · show p.2.natAbs < 10 ^ 12
    omega
theorem brows_sort {rs cs : List Rw} (ok : RowsOk rs) (kp : Kept0 rs cs) (hl : cs.length ≤ 30) (z : Str) : BRows ((ofSort z cs).map kp2) := by
  refine brows_of (fun p hp => ?_) (Nat.le_trans (ofSort_len z cs) (by omega))
  have h1 := kept_sub kp _ (mem_ofSort.mp hp)
  exact (ok.bnd _ h1).2
structure DefG (P : Program) (w : World) (K : PySem.W.Frag) (mg : Str → Option Value) (base : Heap) (x : Str) (k : Nat) (f : Addr) (fd : FuncData) (ps : List Str) (sp : Sp) : Prop where
  ok : FnG P w K mg base CX0 k f fd ps sp
  mg : mg x = some (.ref f)
  kp : PySem.W.keepIn K (.ref f) = true
  bd : Binds K fd ps []
section
variable {P : Program} {w : World} {K : PySem.W.Frag} {mg : Str → Option Value} {base : Heap}

abbrev s_told : Stmt := top 36
theorem sc_told : FnScope ["_law_stakes", "_law_rows", "_law_days", "_law_kind", "_law_told", "_law_when", "_law_found", "_law_due", "_law_row"] ["_law_stakes", "_law_rows", "_law_days"] (defScope s_told) := ⟨rfl, rfl, rfl, by decide +kernel, rfl, by decide +kernel, by decide +kernel⟩
def spTold (C : Addr) : Sp := fun vs H Q _ => ∃ (o l dl : Addr) (us : List V) (ks : List Str) (rs cs : List Rw) (ds : List Int), vs = [.ref o, .ref l, .ref dl] ∧ StakesAt C H o cs ∧ H l = some (.lst us) ∧ RowsK H us (rs.map k3) ∧ Drawn ks rs ∧ Kept0 rs cs ∧
  H dl = some (.lst (ds.map V.int)) ∧ ds.length ≤ 1000 ∧ (∀ d ∈ ds, 0 ≤ d ∧ d ≤ 9999) ∧ ∀ H', Same H H' → Q (.bl true) H'
theorem ok_told {C f f1 f2 f3 f4 f5 f6 f7 : Addr} {fd fd1 fd2 fd3 fd4 fd5 fd6 fd7 : FuncData} (F : Fun K "_law_told_right" "_law_told_right" s_told f fd) (T : Top mg) (CL : ClsS K C)
    (mChg : DefM P w K mg base C "changes" 3 f1 fd1 ["self", "sort"] (spChanges C)) (mStk : DefM P w K mg base C "stake" 4 f2 fd2 ["self", "sort", "day"] (spStake C)) (mSrt : DefM P w K mg base C "sorts" 1 f3 fd3 ["self"] (spSorts C))
    (dStake : Def P w K mg base "_law_stake" 1 f4 fd4 ["_law_rows", "_law_kind", "_law_when"] spStk) (dLChg : Def P w K mg base "_law_changes" 2 f5 fd5 ["_law_rows", "_law_kind"] spLChg) (dSpare : Def P w K mg base "_law_spare" 1 f6 fd6 ["_law_rows"] spSpare)
    (dNum : Def P w K mg base "_law_number" 1 f7 fd7 ["_law_thing"] spNum) : FnG P w K mg base CX0 5 f fd ["_law_stakes", "_law_rows", "_law_days"] (spTold C) := by
  refine okG F sc_told (fun vs H Q E h => ?_) (fun cdv A outer s H vs Q E clr hr h => ?_)
  · obtain ⟨o, l, dl, us, ks, rs, cs, ds, rfl, _⟩ := h
    rfl
  · obtain ⟨o, l, dl, us, ks, rs, cs, ds, rfl, sa, hl, hR, Dr, kp, hdl, dsl, dsb, k⟩ := h
    have lu : us.length = rs.length := by rw [hR.length, List.length_map]
    have bo := Dr.ok.len
    have s0 : Same H H := Same.refl _
    obtain ⟨dx, rt, rus, ho, hrt, hrR, csl⟩ := id sa
    refine ⟨_, (pss_cons (ps_for PassesOwn.never rfl (pi_listK (K := K) rfl (pe_op op_cat (pe_callB (cr_sortedTx rfl hr.units) (by rfl) T.sorted (by decide +kernel) (pa_cons (pe_callTy (cr_setTx rfl) (by rfl) T.set_ (by decide +kernel) (pa_cons (pe_lc (own := [("_law_row", 8)]) (tt := tYes) rfl sc_told.nd (pi_listK (K := K) rfl (pv 1)) (blkOk_by (N := ["_law_stakes", "_law_rows", "_law_days", "_law_kind", "_law_told", "_law_when", "_law_found", "_law_due", "_law_row"]) (sc := defScope s_told) (by decide +kernel)) (fun _ _ _ _ _ => (pg_name (i := 8) sc_told.nd rfl (by first | exact Or.inl rfl | exact Or.inr rfl))) (fun _ _ _ _ _ => pts_nil) (fun _ _ _ _ _ => (pe_ix (ix_tupK (K := K) rfl) (pv 8) pe_int (fun _ _ => rfl)))) pa_nil)) pa_nil)) (pe_lst (pa_cons (pe_call dSpare.ok (hr.mono (by decide)) (by rfl) dSpare.mg dSpare.kp dSpare.bd .nil pass0 (pa_cons (pv 1) pa_nil)) pa_nil)))) (pg_name (i := 3) sc_told.nd rfl (by first | exact Or.inl rfl | exact Or.inr rfl)) 
        (pss_cons (ps_set (i := 4) sc_told.nd rfl (by first | exact Or.inl rfl | exact Or.inr rfl) (pe_meth (pl := _) (pv 0) CL.cls mChg.me mChg.ok (hr.mono (by decide)) mChg.bd .nil pass0 (pa_cons (pv 3) pa_nil))) 
        (pss_cons (ps_if (PW.pt (pw_or (pt_not (pt_val (pe_callB (call_isi1 (K := K) rfl) (by rfl) T.isinstance (by decide +kernel) (pa_cons (pv 4) (pa_cons (pe_bltn (v := .ty "tuple") (by rfl) T.tuple (by decide +kernel) rfl) pa_nil))))) (pw_or1 (pt_cmpR op_ne (pe_callB (cr_repr (K := K) rfl clr hr.units) (by rfl) T.repr (by decide +kernel) (pa_cons (pv 4) pa_nil)) (pe_callB (cr_repr (K := K) rfl clr hr.units) (by rfl) T.repr (by decide +kernel) (pa_cons (pe_call dLChg.ok (hr.mono (by decide)) (by rfl) dLChg.mg dLChg.kp dLChg.bd .nil pass0 (pa_cons (pv 1) (pa_cons (pv 3) pa_nil))) pa_nil)) (nomark _))))) 
          (pss_one (ps_ret pe_bl)) pss_nil) 
        (pss_one (ps_for PassesOwn.never rfl (pi_listK (K := K) rfl (pv 2)) (pg_name (i := 5) sc_told.nd rfl (by first | exact Or.inl rfl | exact Or.inr rfl)) 
          (pss_cons (ps_set (i := 6) sc_told.nd rfl (by first | exact Or.inl rfl | exact Or.inr rfl) (pe_meth (pl := _) (pv 0) CL.cls mStk.me mStk.ok (hr.mono (by decide)) mStk.bd .nil pass0 (pa_cons (pv 3) (pa_cons (pv 5) pa_nil)))) 
          (pss_one (ps_if (PW.pt (pw_or (pt_not (pt_val (pe_call dNum.ok (hr.mono (by decide)) (by rfl) dNum.mg dNum.kp dNum.bd .nil pass0 (pa_cons (pv 6) pa_nil)))) (pw_or1 (pt_cmpR op_ne (pv 6) (pe_call dStake.ok (hr.mono (by decide)) (by rfl) dStake.mg dStake.kp dStake.bd .nil pass0 (pa_cons (pv 1) (pa_cons (pv 3) (pa_cons (pv 5) pa_nil)))) (nomark _))))) 
            (pss_one (ps_ret pe_bl)) pss_nil)))))))) 
      (pss_cons (ps_setLc (i := 7) (own := [("_law_kind", 3)]) rfl sc_told.nd rfl rfl (sw_true rfl rfl rfl (by decide +kernel)) (pi_listK (K := K) rfl (pe_callB (cr_sortedTx rfl hr.units) (by rfl) T.sorted (by decide +kernel) (pa_cons (pe_callTy (cr_setTx rfl) (by rfl) T.set_ (by decide +kernel) (pa_cons (pe_lc (own := [("_law_row", 8)]) (tt := tYes) rfl sc_told.nd (pi_listK (K := K) rfl (pv 1)) (blkOk_by (N := ["_law_stakes", "_law_rows", "_law_days", "_law_kind", "_law_told", "_law_when", "_law_found", "_law_due", "_law_row"]) (sc := defScope s_told) (by decide +kernel)) (fun _ _ _ _ _ => (pg_name (i := 8) sc_told.nd rfl (by first | exact Or.inl rfl | exact Or.inr rfl))) (fun _ _ _ _ _ => pts_nil) (fun _ _ _ _ _ => (pe_ix (ix_tupK (K := K) rfl) (pv 8) pe_int (fun _ _ => rfl)))) pa_nil)) pa_nil))) (blkOk_by (N := ["_law_stakes", "_law_rows", "_law_days", "_law_kind", "_law_told", "_law_when", "_law_found", "_law_due", "_law_row"]) (sc := defScope s_told) (by decide +kernel)) (fun _ _ _ _ _ => (pg_name (i := 3) sc_told.nd rfl (by first | exact Or.inl rfl | exact Or.inr rfl))) (fun _ _ _ _ _ => (pts_one (pt_cmpR (op_neDK (K := K) rfl hr.units) (pe_call dLChg.ok (hr.mono (by decide)) (by rfl) dLChg.mg dLChg.kp dLChg.bd .nil pass0 (pa_cons (pv 1) (pa_cons (pv 3) pa_nil))) (pe_tup pa_nil) (nomark _)))) (fun _ _ _ _ _ => (pv 3))) 
      (pss_one (ps_ret (pe_cmpR (op_eqDK (K := K) rfl hr.units) (pe_meth0 (pl := _) (pv 0) CL.cls mSrt.me mSrt.ok (hr.mono (by decide)) mSrt.bd .nil pass0) (pe_callTy call_tuple_of (by rfl) T.tuple (by decide +kernel) (pa_cons (pv 7) pa_nil)) (nomark _)))))), ?_⟩
    walk_at "rd"
    intro D hD
    have hlD := s0 _ _ hl
    refine lcA (p := D) (walk_list (xs := us)) (fun i acc G => acc = ((rs.take i).map (·.1)).map V.str) hD (by omega) rfl (fun H' e => SqL.of (e.get (ne_of_none hlD hD) hlD)) ?_ ?_
    · rintro i x G G' acc M hi e q la a ⟨rfl, y⟩ k1 k2
      obtain ⟨r, tt, hr', rfl, htt⟩ := rowsK_at ((hR.same s0).mono (e.tsn hD)) y
      replace htt : G' tt = some (.tup [.str r.1, .int r.2.1, .int r.2.2]) := htt
      walk_at "rd"
      refine ⟨rfl, ?_⟩
      walk_at "rd"
      refine k1 _ _ e q ?_
      rw [take_snoc hr', a, List.map_append, List.map_append]
      rfl
    intro GD accD eD qD laD aD
    rw [List.take_of_length_le (by omega)] at aD
    subst aD
    have sAD : Same H GD := fun b o hb => eD b o (ne_of_none (s0 b o hb) hD) (s0 b o hb)
    walk_at "rd"
    refine ⟨D, rs.map (·.1), rfl, SqL.of qD, by rw [List.length_map]; omega, fun p1D l1D ndD memD hp1D => ?_⟩
    have sBD : Same H (upd GD p1D (TxO P w p1D l1D)) := same_new sAD hp1D
    have llD : l1D.length ≤ 30 := by
      have := pigeon ndD fun w hw => (memD w).mp hw
      rw [List.length_map] at this
      omega
    walk_at "rd"
    refine ⟨p1D, l1D, rfl, upd_same, by omega, fun p2D ysD pmD srtD hp2D => ?_⟩
    have sCD : Same H (upd (upd GD p1D (TxO P w p1D l1D)) p2D (.lst (ysD.map V.str))) := same_new sBD hp2D
    have hyD : upd (upd GD p1D (TxO P w p1D l1D)) p2D (.lst (ysD.map V.str)) p2D = some (.lst (ysD.map V.str)) := upd_same
    have ynD : ∀ z ∈ ysD, IsName z := fun z hz => by
      obtain ⟨r, hr', rfl⟩ := List.mem_map.mp ((memD z).mp (pmD.mem_iff.mp hz))
      exact (Dr.ok.bnd r hr').1
    have yndD : ysD.Nodup := pmD.nodup_iff.mpr ndD
    have ymemD : ∀ z, z ∈ ysD ↔ ∃ r ∈ rs, r.1 = z := fun z => by rw [pmD.mem_iff, memD z, List.mem_map]
    have ylD : ysD.length ≤ 30 := by rw [pmD.length_eq]; exact llD
    walk_at "rd"
    refine ⟨l, us, ks, rs, rfl, sCD _ _ hl, hR.same sCD, Dr, fun zs H3 s3 hzs => ?_⟩
    have sE := sCD.trans s3
    have hy3 := s3 _ _ hyD
    walk_at "rd"
    intro L1 hL1
    have n1 : p2D ≠ L1 := ne_of_none hy3 hL1
    refine rd_cat (by walk_at "hp") upd_same (by simp; exact Nat.le_of_lt (small1000 (by omega))) fun L hL => ?_
    have sF : Same H (upd (upd H3 L1 (.lst [.str zs])) L (.lst (ysD.map V.str ++ [.str zs]))) := same_new (same_new sE hL1) hL
    have hLL : upd (upd H3 L1 (.lst [.str zs])) L (.lst (ysD.map V.str ++ [.str zs])) L = some (.lst (ysD.map V.str ++ [.str zs])) := upd_same
    generalize upd (upd H3 L1 (.lst [.str zs])) L (.lst (ysD.map V.str ++ [.str zs])) = H4 at *
    refine ⟨L, rfl, ⟨_, SqL.of hLL⟩, ?_⟩
    refine loopW (walk_list (xs := ysD.map V.str ++ [.str zs])) (fun i σ G => ∃ (v3 v4 v5 v6 : Option V), σ = [some (.ref o), some (.ref l), some (.ref dl), v3, v4, v5, v6, none, none] ∧ Same H4 G)
      ⟨none, none, none, none, rfl, Same.refl _⟩ (fun i σ G _ ⟨_, _, _, _, _, sG⟩ => SqL.of (sG _ _ hLL)) ?_ ?_
    · rintro i x σ G G' hi ⟨v3, v4, v5, v6, rfl, sG⟩ ⟨rfl, y⟩
      obtain ⟨z, hz, rfl⟩ : ∃ z, IsName z ∧ x = .str z := by
        have := List.mem_of_getElem? y
        rcases List.mem_append.mp this with h | h
        · obtain ⟨z, hz, rfl⟩ := List.mem_map.mp h
          exact ⟨z, ynD z hz, rfl⟩
        · simp at h
          exact ⟨zs, hzs, h⟩
      have sH : Same H G' := sF.trans sG
      walk_at "rd"
      refine ⟨o, dx, _, rfl, sH _ _ ho, lk_no (by decide +kernel), ?_⟩
      walk_at "rd"
      refine ⟨o, z, cs, rfl, sa.mono sH, hz, fun H5 t5 us5 s5 ht50 ht5 hR5 => ?_⟩
      walk_at "rd"
      have bz := brows_sort Dr.ok kp csl z
      refine rd_reprT ht5 hR5 bz ?_
      walk_at "rd"
      have sI : Same H H5 := sH.trans s5
      refine ⟨l, us, rs, z, rfl, sI _ _ hl, hR.same sI, bo, fun H6 t6 ws lc s6 ht60 ht6 hR6 hlc => ?_⟩
      obtain rfl := chg_same Dr.ok.dis hlc kp
      walk_at "rd"
      refine rd_reprT ht6 hR6 bz ?_
      walk_at "rd"
      refine iteND rfl ?_
      have sJ : Same H H6 := sI.trans s6
      have hdl6 := sJ _ _ hdl
      walk_at "rd"
      refine loopW (walk_list (xs := ds.map V.int)) (fun i σ G => ∃ (v5 v6 : Option V), σ = [some (.ref o), some (.ref l), some (.ref dl), some (.str z), some (.ref t5), v5, v6, none, none] ∧ Same H6 G)
        ⟨_, _, rfl, Same.refl _⟩ (fun i σ G _ ⟨_, _, _, sG⟩ => SqL.of (sG _ _ hdl6)) ?_ ?_
      · rintro j x σ G7 G7' hj ⟨v5, v6, rfl, sG7⟩ ⟨rfl, y⟩
        obtain ⟨d, hd, rfl⟩ : ∃ d, d ∈ ds ∧ x = .int d := by
          obtain ⟨d, hd, e⟩ := List.mem_map.mp (List.mem_of_getElem? y)
          exact ⟨d, hd, e.symm⟩
        have db := dsb d hd
        have sK : Same H G7' := sJ.trans sG7
        walk_at "rd"
        refine ⟨o, dx, _, rfl, sK _ _ ho, lk_no (by decide +kernel), ?_⟩
        walk_at "rd"
        refine ⟨o, z, d, cs, rfl, sa.mono sK, hz, db.1, db.2, fun H8 s8 => ?_⟩
        walk_at "rd"
        refine ⟨_, rfl, ?_⟩
        walk_at "rd"
        have sL : Same H H8 := sK.trans s8
        refine ⟨l, us, rs, z, d, rfl, sL _ _ hl, hR.same sL, bo, fun v H9 iv s9 => ?_⟩
        obtain rfl := stake_same Dr.ok.dis iv kp
        walk_at "rd"
        refine iteND rfl ?_
        walk_at "rd"
        exact ⟨_, _, rfl, (sG7.trans s8).trans s9⟩
      · rintro σ G7 ⟨v5, v6, rfl, sG7⟩
        exact ⟨_, _, _, _, rfl, ((sG.trans s5).trans s6).trans sG7⟩
    rintro σ H5 ⟨v3, v4, v5, v6, rfl, sG⟩
    have s5 : Same H H5 := sF.trans sG
    clear sG hLL sF
    walk_at "rd"
    intro E hE
    have hlE := s5 _ _ hl
    refine lcA (p := E) (walk_list (xs := us)) (fun i acc G => acc = ((rs.take i).map (·.1)).map V.str) hE (by omega) rfl (fun H' e => SqL.of (e.get (ne_of_none hlE hE) hlE)) ?_ ?_
    · rintro i x G G' acc M hi e q la a ⟨rfl, y⟩ k1 k2
      obtain ⟨r, tt, hr', rfl, htt⟩ := rowsK_at ((hR.same s5).mono (e.tsn hE)) y
      replace htt : G' tt = some (.tup [.str r.1, .int r.2.1, .int r.2.2]) := htt
      walk_at "rd"
      refine ⟨rfl, ?_⟩
      walk_at "rd"
      refine k1 _ _ e q ?_
      rw [take_snoc hr', a, List.map_append, List.map_append]
      rfl
    intro GE accE eE qE laE aE
    rw [List.take_of_length_le (by omega)] at aE
    subst aE
    have sAE : Same H GE := fun b o hb => eE b o (ne_of_none (s5 b o hb) hE) (s5 b o hb)
    walk_at "rd"
    refine ⟨E, rs.map (·.1), rfl, SqL.of qE, by rw [List.length_map]; omega, fun p1E l1E ndE memE hp1E => ?_⟩
    have sBE : Same H (upd GE p1E (TxO P w p1E l1E)) := same_new sAE hp1E
    have llE : l1E.length ≤ 30 := by
      have := pigeon ndE fun w hw => (memE w).mp hw
      rw [List.length_map] at this
      omega
    walk_at "rd"
    refine ⟨p1E, l1E, rfl, upd_same, by omega, fun p2E ysE pmE srtE hp2E => ?_⟩
    have sCE : Same H (upd (upd GE p1E (TxO P w p1E l1E)) p2E (.lst (ysE.map V.str))) := same_new sBE hp2E
    have hyE : upd (upd GE p1E (TxO P w p1E l1E)) p2E (.lst (ysE.map V.str)) p2E = some (.lst (ysE.map V.str)) := upd_same
    have ynE : ∀ z ∈ ysE, IsName z := fun z hz => by
      obtain ⟨r, hr', rfl⟩ := List.mem_map.mp ((memE z).mp (pmE.mem_iff.mp hz))
      exact (Dr.ok.bnd r hr').1
    have yndE : ysE.Nodup := pmE.nodup_iff.mpr ndE
    have ymemE : ∀ z, z ∈ ysE ↔ ∃ r ∈ rs, r.1 = z := fun z => by rw [pmE.mem_iff, memE z, List.mem_map]
    have ylE : ysE.length ≤ 30 := by rw [pmE.length_eq]; exact llE
    walk_at "rd"
    intro D2 hD2
    replace hD2 : upd (upd GE p1E (TxO P w p1E l1E)) p2E (.lst (ysE.map V.str)) D2 = none := hD2
    refine lcA (H0 := upd (upd GE p1E (TxO P w p1E l1E)) p2E (.lst (ysE.map V.str))) (p := D2) (walk_list (xs := ysE.map V.str)) (fun i acc _ => acc = ((ysE.take i).filter fun z => decide (ofSort z cs ≠ [])).map V.str) hD2 (by simp; omega) rfl (fun H' e' => SqL.of (e'.get (ne_of_none hyE hD2) hyE)) ?_ ?_
    · rintro i x G2 G2' acc M hi e' q' la' a' ⟨rfl, y⟩ k1 k2
      obtain ⟨z, hz, rfl⟩ : ∃ z, ysE[i]? = some z ∧ x = .str z := by
        rw [List.getElem?_map] at y
        cases h : ysE[i]? with
        | none => rw [h] at y; cases y
        | some z => rw [h] at y; exact ⟨z, rfl, (Option.some.inj y).symm⟩
      have sG2 : Same H G2' := fun b o hb => e' b o (ne_of_none (sCE b o hb) hD2) (sCE b o hb)
      walk_at "rd"
      refine ⟨rfl, ?_⟩
      walk_at "rd"
      refine ⟨l, us, rs, z, rfl, sG2 _ _ hl, hR.same sG2, bo, fun H6 t6 ws lc s6 ht60 ht6 hR6 hlc => ?_⟩
      obtain rfl := chg_same Dr.ok.dis hlc kp
      have e6 : Ext D2 (upd (upd GE p1E (TxO P w p1E l1E)) p2E (.lst (ysE.map V.str))) H6 := e'.trans (Same.ext s6)
      have q6 := s6 _ _ q'
      walk_at "rd"
      intro q1 hq1
      have n1 : t6 ≠ q1 := ne_of_none ht6 hq1
      have n2 : D2 ≠ q1 := ne_of_none q6 hq1
      refine rd_neNilT (by walk_at "hp") (hR6.mono (TSt.new hq1)) upd_same ?_
      walk_at "rd"
      refine ite_dec (fun c => ?_) (fun c => ?_)
      · walk_at "rd"
        refine k1 _ _ (e6.new hq1) (by walk_at "hp") ?_
        rw [take_snoc hz, List.filter_append, a']
        simp [c]
      · refine k2 _ (e6.new hq1) (by walk_at "hp") ?_
        rw [take_snoc hz, List.filter_append, a']
        simp [c]
    · intro G2 acc e' q' la' a'
      rw [List.take_of_length_le (by simp)] at a'
      have sG2 : Same H G2 := fun b o hb => e' b o (ne_of_none (sCE b o hb) hD2) (sCE b o hb)
      subst a'
      walk_at "rd"
      refine ⟨o, dx, _, rfl, sG2 _ _ ho, lk_no (by decide +kernel), ?_⟩
      walk_at "rd"
      refine ⟨o, cs, rfl, sa.mono sG2, fun H7 t7 zs7 s7 ht70 ht7 nd7 srt7 mem7 => ?_⟩
      have q7 := s7 _ _ q'
      walk_at "rd"
      refine rd_tupOf (K := K) (Q := fun y H2 => rEqD K (.ref t7) y H2 Q) q7 fun p8 hp8 => ?_
      show rEqD K (.ref t7) (.ref p8) _ Q
      have n7 : t7 ≠ p8 := ne_of_none ht7 hp8
      have same : zs7 = ysE.filter fun z => decide (ofSort z cs ≠ []) := by
        refine strs_ext nd7 (List.Pairwise.filter _ yndE) srt7 (List.Pairwise.filter _ srtE) fun z => ?_
        rw [mem7 z, List.mem_filter, ymemE z]
        constructor
        · rintro ⟨r, hr', rfl⟩
          exact ⟨⟨r, kept_sub kp r hr', rfl⟩, decide_eq_true (has_sort.mpr ⟨r, hr', rfl⟩)⟩
        · rintro ⟨_, h⟩
          exact has_sort.mp (of_decide_eq_true h)
      refine rd_eqTx (by walk_at "hp") upd_same (fun x hx => ?_) (fun x hx => (ynE x (List.mem_filter.mp hx).1).2) ?_
      · rw [same] at hx
        exact (ynE x (List.mem_filter.mp hx).1).2
      · rw [decide_eq_true same]
        exact k _ (same_new (sG2.trans s7) hp8)
end
end Sk
end

section
namespace Sk
open PySem L2
local macro_rules | `(tactic| walk_at "kb") => `(tactic| first | exact kb_int_int | exact kb_int_bool | exact kb_int_str | exact kb_int_tuple | exact kb_int_list | exact kb_tuple_int | exact kb_tuple_bool | exact kb_tuple_str | exact kb_tuple_tuple | exact kb_tuple_list | exact kb_list_int | exact kb_list_bool | exact kb_list_str | exact kb_list_tuple | exact kb_list_list | exact kb_bool_int | exact kb_bool_bool | exact kb_bool_str | exact kb_bool_tuple | exact kb_bool_list | exact kb_str_int | exact kb_str_bool | exact kb_str_str | exact kb_str_tuple | exact kb_str_list | exact kb_dict_int | exact kb_dict_bool | exact kb_dict_str | exact kb_dict_tuple | exact kb_dict_list | exact kb_NoneType_int | exact kb_NoneType_bool | exact kb_NoneType_str | exact kb_NoneType_tuple | exact kb_NoneType_list)
local macro_rules | `(tactic| walk_at "hp") => `(tactic| first
  | assumption
  | exact upd_same
  | (refine' upd_get ?n ?e; (case n => walk_at "ne"); (case e => walk_at "hp"))
  | (refine' But.get (by assumption) ?n ?e; (case n => walk_at "ne"); (case e => walk_at "hp"))
  | (refine' Ext.get (by assumption) ?n ?e; (case n => walk_at "ne"); (case e => walk_at "hp"))
  | (refine' same_get (by assumption) ?e; (case e => walk_at "hp")))
local macro_rules | `(tactic| walk_at "ne") => `(tactic| first
  | assumption
  | (apply Ne.symm; assumption)
  | (refine' ne_of_none ?h (by assumption); (case h => walk_at "hp"))
  | (apply Ne.symm; refine' ne_of_none ?h (by assumption); (case h => walk_at "hp")))
local macro_rules | `(tactic| walk_at "sd") => `(tactic| first
  | (show (0 : Int) < _; omega)
  | (simp only [CMul, CDiv]; omega)
  | exact ⟨by omega, by omega⟩)
local macro_rules | `(tactic| walk_at "rd1") => `(tactic| first
  | with_reducible refine' rd_c ?_
  | ((with_reducible refine' rd_var ?h ?_); (case h => exact rfl))
  | with_reducible refine' rd_op ?_
  | with_reducible refine' rd_seq ?_
  | with_reducible refine' rd_asg ?_
  | with_reducible refine' rd_gName ?_
  | with_reducible refine' rd_I0 ?_
  | ((with_reducible refine' rd_I ?c ?_); (case c => walk_at "sd"))
  | with_reducible refine' rd_eqI ?_
  | with_reducible refine' rd_neI ?_
  | with_reducible refine' rd_U ?_
  | with_reducible refine' rd_un ?_
  | with_reducible refine' rd_ret ?_
  | with_reducible refine' rd_drop ?_
  | with_reducible refine' rd_next ?_
  | with_reducible refine' rd_ifS ?_
  | with_reducible refine' rd_test ?_
  | with_reducible refine' rd_bl ?_
  | with_reducible refine' rd_nil ?_
  | with_reducible refine' rd_cons ?_
  | with_reducible refine' rd_tup ?_
  | with_reducible refine' rd_lst ?_
  | with_reducible refine' rd_call ?_
  | with_reducible refine' rd_cb ?_
  | with_reducible refine' rd_par ?_
  | with_reducible refine' rd_par2 ?_
  | with_reducible refine' rd_and ?_
  | with_reducible refine' rd_or ?_
  | with_reducible refine' rd_not ?_
  | with_reducible refine' rd_andV ?_
  | with_reducible refine' rd_orV ?_
  | with_reducible refine' rd_notV ?_
  | with_reducible refine' rd_if ?_
  | with_reducible refine' rd_gSub ?_
  | ((with_reducible refine' rd_ixL ?h ?e ?_); (case h => walk_at "hp"); (case e => exact rfl))
  | ((with_reducible refine' rd_ixT ?h ?e ?_); (case h => walk_at "hp"); (case e => exact rfl))
  | ((with_reducible refine' rd_setL ?h ?e ?_); (case h => walk_at "hp"); (case e => exact rfl))
  | ((with_reducible refine' rd_append ?h ?e ?_); (case h => walk_at "hp"); (case e => assumption))
  | (with_reducible refine' rd_bmL ?_)
  | ((with_reducible refine' And.intro (tyL ?h) ?_); (case h => walk_at "hp"))
  | ((with_reducible refine' And.intro (len_ok ?h) ?_); (case h => exact rfl))
  | with_reducible refine' rd_ex1 ?_
  | with_reducible refine' rd_ex2 ?_
  | with_reducible refine' rd_int1b ?_
  | ((with_reducible refine' rd_isiI ?e ?_); (case e => walk_at "kb"))
  | ((with_reducible refine' rd_isiB ?e ?_); (case e => walk_at "kb"))
  | ((with_reducible refine' rd_isiT ?h ?e ?_); (case h => walk_at "hp"); (case e => walk_at "kb"))
  | ((with_reducible refine' rd_isiL ?h ?e ?_); (case h => walk_at "hp"); (case e => walk_at "kb"))
  | ((with_reducible refine' rd_lenL ?h ?_); (case h => walk_at "hp"))
  | ((with_reducible refine' rd_lenT ?h ?_); (case h => walk_at "hp"))
  | ((with_reducible refine' rd_gTup ?h ?e ?_); (case h => walk_at "hp"); (case e => exact rfl))
  | with_reducible refine' rd_gCons ?_
  | with_reducible refine' rd_gNil ?_
  | with_reducible refine' rd_yes ?_
  | with_reducible refine' rd_for ?_
  | with_reducible refine' rd_lc ?_
  | with_reducible refine' rd_rng1 ?_
  | with_reducible refine' rd_iL ?_
  | with_reducible refine' rd_iT ?_
  | with_reducible refine' rd_iE ?_
  | with_reducible refine' rd_iZ ?_
  | ((with_reducible refine' rd_iL' ?h ?_); (case h => walk_at "hp"))
  | ((with_reducible refine' rd_iT' ?h ?_); (case h => walk_at "hp"))
  | ((with_reducible refine' rd_iE' ?h ?_); (case h => walk_at "hp"))
  | ((with_reducible refine' rd_iZ' ?h1 ?h2 ?_); (case h1 => walk_at "hp"); (case h2 => walk_at "hp"))
  | with_reducible refine' iteT ?_
  | with_reducible refine' iteF ?_)
local macro_rules | `(tactic| walk_at "rd") => `(tactic| repeat walk_at "rd1")
local macro_rules | `(tactic| walk_at "rd1") => `(tactic| first | with_reducible refine' rd_tB ?_ | with_reducible refine' iteNT ?_ | with_reducible refine' iteNF ?_ | with_reducible refine' rd_iEA (tam_cons tem_var tam_nil) ?_ | with_reducible refine' rd_iSA tem_var ?_ | with_reducible refine' rd_iZA (tam_cons tem_var (tam_cons tem_var tam_nil)) ?_)
local macro_rules | `(tactic| walk_at "rd1") => `(tactic| first | with_reducible refine' rd_eqS ?_ | with_reducible refine' rd_neS ?_ | ((with_reducible refine' rd_isiS ?e ?_); (case e => walk_at "kb")) | with_reducible refine' rd_inS ?_ | with_reducible refine' rd_iS ?_ | with_reducible refine' rd_iS' ?_)
local macro_rules | `(tactic| walk_at "rd1") => `(tactic| first | with_reducible refine' rd_isN ?_ | with_reducible refine' rd_fld ?_ | with_reducible refine' rd_sfld ?_ | with_reducible refine' rd_meth ?_ | with_reducible refine' rd_sc ?_)
theorem pe_revLK {X : Cx} {K : PySem.W.Frag} {e : Expr} {te : TE} {k : Nat} {p1 p2 p3 pos : Pos} (h : X.K = K) (he : PE X e te) : PE X (.Subscript e (.Slice none none (some (.UnaryOp .USub (.Constant (.int 1) k p1) p2)) p3) pos) (tRevL K te) := by subst h; exact pe_revL he
section
variable {K : PySem.W.Frag} {σ : St} {H : Hp} {Q : VK}
theorem rd_make {C : Addr} {sp : Sp} {dvs : List V} {E : XK} {t : TA} (k : t σ H fun vs H1 => ∀ x dx, H1 x = none → H1 dx = none → dx ≠ x → sp (.ref x :: (vs ++ dvs)) (upd (upd H1 dx (.own x)) x (.ins C dx [])) (fun v H2 => v = .non ∧ Q (.ref x) H2) E) : tMake C sp dvs E t σ H Q := k
theorem rd_revL {te : TE} (k : te σ H fun x H1 => ∃ a xs, x = .ref a ∧ SqL K H1 a xs ∧ ∀ p, H1 p = none → Q (.ref p) (upd H1 p (.lst xs.reverse))) : tRevL K te σ H Q := k
theorem rd_bm0 {r : V → List V → Hp → VK → Prop} {to : TE} (k : to σ H fun x H1 => tyV K "list" x H1 ∧ r x [] H1 Q) : tBM0 K "list" r to σ H Q := k
theorem rd_rev {l : Addr} {xs : List V} (h : H l = some (.lst xs)) (k : Q .non (upd H l (.lst xs.reverse))) : rReverse (.ref l) [] H Q := ⟨l, xs, rfl, rfl, h, k⟩
/-- Stakes made of rows -/
theorem rd_mk {C : Addr} {v : V} {rs : List Rw} {E : XK} {R : Addr → Hp → Prop} (hv : (v = .non ∧ rs = []) ∨ ∃ l us, v = .ref l ∧ Seq H l us ∧ RowsK H us (rs.map k3)) (ok : RowsOk rs) (k : ∀ x H' cs, Kept0 rs cs → StakesAt C H' x cs → Same H H' → H x = none → R x H') :
    ∀ x dx, H x = none → H dx = none → dx ≠ x → spInit C [.ref x, v] (upd (upd H dx (.own x)) x (.ins C dx [])) (fun v H2 => v = .non ∧ R x H2) E := by
  intro x dx hx hdx ne
  have s0 : Same H (upd (upd H dx (.own x)) x (.ins C dx [])) := fun b o hb => by
    have n1 : b ≠ dx := ne_of_none hb hdx
    have n2 : b ≠ x := ne_of_none hb hx
    rw [upd_ne n2, upd_ne n1]
    exact hb
  refine ⟨x, dx, v, rs, rfl, upd_same, ?_, ok, fun H' cs kp sa keep => ⟨rfl, k x H' cs kp sa (fun b o hb => ?_) hx⟩⟩
  · rcases hv with h | ⟨l, us, e, h1, h2⟩
    · exact .inl h
    · exact .inr ⟨l, us, e, h1.mono s0, h2.same s0⟩
  · exact keep b o (s0 b o hb) (ne_of_none hb hx)
theorem rd_ix2 {q q1 q2 : Addr} {r : Int} {us : List V} (h : H q = some (.lst [.ref q1, .ref q2])) (h0 : 0 ≤ r) (h1 : r < 2) (a : Seq H q1 us) (b : Seq H q2 us) (k : ∀ hd, Seq H hd us → (hd = q1 ∨ hd = q2) → Q (.ref hd) H) : rIxL K (.ref q) (.int r) H Q := by
  by_cases c : r = 0
  · subst c
    exact rd_ixL h rfl (k q1 a (.inl rfl))
  · obtain rfl : r = 1 := by omega
    exact rd_ixL h rfl (k q2 b (.inr rfl))
end
theorem ok_nil : RowsOk [] := ⟨by simp, List.Pairwise.nil, by simp⟩
theorem kept_nil {cs : List Rw} (h : Kept0 [] cs) : cs = [] := by
  obtain ⟨ss, pm, _, rfl⟩ := h
  rw [List.Perm.eq_nil pm]
  rfl
theorem brows_rows {rs : List Rw} (ok : RowsOk rs) : BRows (rs.map k3) := by
  refine ⟨by have := ok.len; simp; omega, fun ks hks => ?_⟩
  obtain ⟨r, hr, rfl⟩ := List.mem_map.mp hks
  obtain ⟨h1, h2, h3⟩ := ok.bnd r hr
  refine ⟨by simp [k3], fun k hk => ?_⟩
  simp [k3] at hk
  rcases hk with rfl | rfl | rfl
  · exact ⟨h1.2, h1.1.2⟩
  · show r.2.1.natAbs < 10 ^ 12
    omega
  · show r.2.2.natAbs < 10 ^ 12
    omega
local macro_rules | `(tactic| walk_at "rd1") => `(tactic| first | with_reducible refine' rd_make ?_ | with_reducible refine' rd_revL ?_ | with_reducible refine' rd_bm0 ?_ | ((with_reducible refine' rd_rev ?h ?_); (case h => walk_at "hp")))
/-- Stakes are made so -/
structure MakeS (P : Program) (w : World) (K : PySem.W.Frag) (mg : Str → Option Value) (base : Heap) (C f : Addr) (fd : FuncData) : Prop where
  mkc : Mk K C f
  ok : FnOk P w K mg base CX0 5 f fd ["self", "rows"] (spInit C)
  mg : mg "Stakes" = some (.ref C)
  b0 : Binds K fd ["self", "rows"] []
  b1 : Binds K fd ["self", "rows"] [Value.none]
section
variable {P : Program} {w : World} {K : PySem.W.Frag} {mg : Str → Option Value} {base : Heap}

abbrev s_right : Stmt := top 39
theorem sc_right : FnScope ["_law_purse_here", "_law_rows", "_law_handed", "_law_kept", "_law_stakes", "_law_days", "_law_some", "_law_turn", "_law_one"] ["_law_purse_here"] (defScope s_right) := ⟨rfl, rfl, rfl, by decide +kernel, rfl, by decide +kernel, by decide +kernel⟩
def spRight : Sp := fun vs H Q _ => ∃ p : Addr, vs = [.ref p] ∧ Purse H p ∧ ∀ H', Ext p H H' → Q (.bl true) H'
theorem ok_right {C f f1 f2 f3 f4 f5 f6 f7 f8 f9 : Addr} {fd fd1 fd2 fd3 fd4 fd5 fd6 fd7 fd8 fd9 : FuncData} (F : Fun K "_law_right" "_law_right" s_right f fd) (T : Top mg) (CL : ClsS K C)
    (mChg : DefM P w K mg base C "changes" 3 f1 fd1 ["self", "sort"] (spChanges C)) (mStk : DefM P w K mg base C "stake" 4 f2 fd2 ["self", "sort", "day"] (spStake C)) (mSrt : DefM P w K mg base C "sorts" 1 f3 fd3 ["self"] (spSorts C))
    (mkS : MakeS P w K mg base C f4 fd4) (dSome : Def P w K mg base "_law_some_rows" 4 f5 fd5 ["_law_purse_here"] spSome) (dT : Def P w K mg base "_law_take" 1 f6 fd6 ["_law_purse_here", "_law_many"] spTake) (dDays : Def P w K mg base "_law_days_beside" 1 f7 fd7 ["_law_rows"] spDays)
    (dSpare : Def P w K mg base "_law_spare" 1 f8 fd8 ["_law_rows"] spSpare) (dTold : DefG P w K mg base "_law_told_right" 5 f9 fd9 ["_law_stakes", "_law_rows", "_law_days"] (spTold C)) : FnG P w K mg base CX0 7 f fd ["_law_purse_here"] spRight := by
  refine okG F sc_right (fun vs H Q E h => ?_) (fun cdv A outer s H vs Q E clr hr h => ?_)
  · obtain ⟨p, rfl, _⟩ := h
    rfl
  · obtain ⟨p, rfl, P0, k⟩ := h
    refine ⟨_, (pss_cons (ps_set (i := 1) sc_right.nd rfl (by first | exact Or.inl rfl | exact Or.inr rfl) (pe_call dSome.ok (hr.mono (by decide)) (by rfl) dSome.mg dSome.kp dSome.bd .nil pass0 (pa_cons (pv 0) pa_nil))) 
      (pss_cons (ps_set (i := 2) sc_right.nd rfl (by first | exact Or.inl rfl | exact Or.inr rfl) (pe_ix (ix_listK (K := K) rfl) (pe_lst (pa_cons (pe_callTy call_list_of (by rfl) T.list (by decide +kernel) (pa_cons (pv 1) pa_nil)) (pa_cons (pe_callTy call_tuple_of (by rfl) T.tuple (by decide +kernel) (pa_cons (pv 1) pa_nil)) pa_nil))) (pe_call dT.ok (hr.mono (by decide)) (by rfl) dT.mg dT.kp dT.bd .nil pass0 (pa_cons (pv 0) (pa_cons pe_int pa_nil))) (fun _ _ => rfl))) 
      (pss_cons (ps_set (i := 3) sc_right.nd rfl (by first | exact Or.inl rfl | exact Or.inr rfl) (pe_callB (cr_repr (K := K) rfl clr hr.units) (by rfl) T.repr (by decide +kernel) (pa_cons (pv 2) pa_nil))) 
      (pss_cons (ps_set (i := 4) sc_right.nd rfl (by first | exact Or.inl rfl | exact Or.inr rfl) (pe_make mkS.mkc mkS.ok (hr.mono (by decide)) (by rfl) mkS.mg mkS.b0 .nil pass0 (pa_cons (pv 2) pa_nil))) 
      (pss_cons (ps_set (i := 5) sc_right.nd rfl (by first | exact Or.inl rfl | exact Or.inr rfl) (pe_op op_cat (pe_call dDays.ok (hr.mono (by decide)) (by rfl) dDays.mg dDays.kp dDays.bd .nil pass0 (pa_cons (pv 1) pa_nil)) (pe_lc (own := [("_law_turn", 7)]) (tt := tYes) rfl sc_right.nd (pi_range1 (by rfl) T.range (pa_cons pe_int pa_nil)) (blkOk_by (N := ["_law_purse_here", "_law_rows", "_law_handed", "_law_kept", "_law_stakes", "_law_days", "_law_some", "_law_turn", "_law_one"]) (sc := defScope s_right) (by decide +kernel)) (fun _ _ _ _ _ => (pg_name (i := 7) sc_right.nd rfl (by first | exact Or.inl rfl | exact Or.inr rfl))) (fun _ _ _ _ _ => pts_nil) (fun _ _ _ _ _ => (pe_call dT.ok (hr.mono (by decide)) (by rfl) dT.mg dT.kp dT.bd .nil pass0 (pa_cons (pv 0) (pa_cons pe_int pa_nil))))))) 
      (pss_cons (ps_if (PW.pt (pw_or (pt_not (pt_val (pe_callG dTold.ok clr (hr.mono (by decide)) (by rfl) dTold.mg dTold.kp dTold.bd .nil pass0 (pa_cons (pv 4) (pa_cons (pv 1) (pa_cons (pv 5) pa_nil)))))) (pw_or1 (pt_cmpR op_ne (pe_callB (cr_repr (K := K) rfl clr hr.units) (by rfl) T.repr (by decide +kernel) (pa_cons (pv 2) pa_nil)) (pv 3) (nomark _))))) 
        (pss_one (ps_ret pe_bl)) pss_nil) 
      (pss_cons (ps_if (pt_val (pe_callB (call_isi1 (K := K) rfl) (by rfl) T.isinstance (by decide +kernel) (pa_cons (pv 2) (pa_cons (pe_bltn (v := .ty "list") (by rfl) T.list (by decide +kernel) rfl) pa_nil)))) 
        (pss_cons (ps_expr (pe_bm PySem.F.plainAttrs_list PySem.F.slot_list_append PySem.F.type_list_append mt_append (pv 2) (pa_cons (pe_tup (pa_cons (pe_call dSpare.ok (hr.mono (by decide)) (by rfl) dSpare.mg dSpare.kp dSpare.bd .nil pass0 (pa_cons (pv 1) pa_nil)) (pa_cons pe_int (pa_cons pe_int pa_nil)))) pa_nil))) 
        (pss_one (ps_expr (pe_bm0 PySem.F.plainAttrs_list PySem.F.slot_list_reverse PySem.F.type_list_reverse mt_reverse (pv 2))))) pss_nil) 
      (pss_cons (ps_if (pt_not (pt_val (pe_callG dTold.ok clr (hr.mono (by decide)) (by rfl) dTold.mg dTold.kp dTold.bd .nil pass0 (pa_cons (pv 4) (pa_cons (pv 1) (pa_cons (pe_revLK (K := K) rfl (pv 5)) pa_nil)))))) 
        (pss_one (ps_ret pe_bl)) pss_nil) 
      (pss_cons (ps_set (i := 6) sc_right.nd rfl (by first | exact Or.inl rfl | exact Or.inr rfl) (pe_lst (pa_cons (pe_make0 (dvs := [.non]) mkS.mkc mkS.ok (hr.mono (by decide)) (by rfl) mkS.mg mkS.b1 (.cons rfl .nil) pass0) (pa_cons (pe_make mkS.mkc mkS.ok (hr.mono (by decide)) (by rfl) mkS.mg mkS.b0 .nil pass0 (pa_cons pe_non pa_nil)) (pa_cons (pe_make mkS.mkc mkS.ok (hr.mono (by decide)) (by rfl) mkS.mg mkS.b0 .nil pass0 (pa_cons (pe_tup pa_nil) pa_nil)) (pa_cons (pe_make mkS.mkc mkS.ok (hr.mono (by decide)) (by rfl) mkS.mg mkS.b0 .nil pass0 (pa_cons (pe_lst pa_nil) pa_nil)) pa_nil)))))) 
      (pss_one (ps_ret (pe_callB (cr_allK (K := K) rfl rfl) (by rfl) T.all (by decide +kernel) (pa_cons (pe_lc (own := [("_law_one", 8)]) (tt := tYes) rfl sc_right.nd (pi_listK (K := K) rfl (pv 6)) (blkOk_by (N := ["_law_purse_here", "_law_rows", "_law_handed", "_law_kept", "_law_stakes", "_law_days", "_law_some", "_law_turn", "_law_one"]) (sc := defScope s_right) (by decide +kernel)) (fun _ _ _ _ _ => (pg_name (i := 8) sc_right.nd rfl (by first | exact Or.inl rfl | exact Or.inr rfl))) (fun _ _ _ _ _ => pts_nil) (fun _ _ _ _ _ => (pe_and (pe_cmpR (op_eqDK (K := K) rfl hr.units) (pe_meth0 (pl := _) (pv 8) CL.cls mSrt.me mSrt.ok (hr.mono (by decide)) mSrt.bd .nil pass0) (pe_tup pa_nil) (nomark _)) (pe_and (pe_cmpR op_eq (pe_meth (pl := _) (pv 8) CL.cls mStk.me mStk.ok (hr.mono (by decide)) mStk.bd .nil pass0 (pa_cons pe_str (pa_cons pe_int pa_nil))) pe_int (nomark _)) (pe_one (pe_cmpR (op_eqDK (K := K) rfl hr.units) (pe_meth (pl := _) (pv 8) CL.cls mChg.me mChg.ok (hr.mono (by decide)) mChg.bd .nil pass0 (pa_cons pe_str pa_nil)) (pe_tup pa_nil) (nomark _))))))) pa_nil))))))))))))), ?_⟩
    walk_at "rd"
    refine ⟨p, rfl, P0, fun H1 a us ks rs P1 E1 ha0 ap ha hR Dr => ?_⟩
    have bo := Dr.ok.len
    have lu : us.length = rs.length := by rw [hR.length, List.length_map]
    walk_at "rd"
    refine ⟨a, us, rfl, .inl (SqL.of ha), fun q1 hq1 => ?_⟩
    have s1 : Same H1 (upd H1 q1 (.lst us)) := same_new (Same.refl _) hq1
    have aq1 : a ≠ q1 := ne_of_none ha hq1
    walk_at "rd"
    refine ⟨a, us, rfl, .inl ⟨SqL.of (by walk_at "hp"), fun q2 hq2 => ?_⟩⟩
    have s2 : Same H1 (upd (upd H1 q1 (.lst us)) q2 (.tup us)) := same_new s1 hq2
    have q12 : q1 ≠ q2 := fun z => by rw [← z, upd_same] at hq2; cases hq2
    walk_at "rd"
    intro q3 hq3
    have s3 := same_new (o := .lst [.ref q1, .ref q2]) s2 hq3
    have n13 : q1 ≠ q3 := fun z => by rw [← z, upd_ne q12, upd_same] at hq3; cases hq3
    have n23 : q2 ≠ q3 := fun z => by rw [← z, upd_same] at hq3; cases hq3
    have g1 : upd (upd (upd H1 q1 (.lst us)) q2 (.tup us)) q3 (.lst [.ref q1, .ref q2]) q1 = some (.lst us) := by walk_at "hp"
    have g2 : upd (upd (upd H1 q1 (.lst us)) q2 (.tup us)) q3 (.lst [.ref q1, .ref q2]) q2 = some (.tup us) := by walk_at "hp"
    have g3 : upd (upd (upd H1 q1 (.lst us)) q2 (.tup us)) q3 (.lst [.ref q1, .ref q2]) q3 = some (.lst [.ref q1, .ref q2]) := upd_same
    have q1p := P1.ne hq1
    have q2p := (P1.upd (o := .lst us) q1p).ne hq2
    have q3p := ((P1.upd (o := .lst us) q1p).upd (o := .tup us) q2p).ne hq3
    have P2 := (((P1.upd (o := .lst us) q1p).upd (o := .tup us) q2p).upd (o := .lst [.ref q1, .ref q2]) q3p)
    have q2N : H1 q2 = none := (upd_none hq2).2
    have aq2 : a ≠ q2 := ne_of_none ha q2N
    generalize upd (upd (upd H1 q1 (.lst us)) q2 (.tup us)) q3 (.lst [.ref q1, .ref q2]) = H2 at *
    walk_at "rd"
    refine rd_take P2 (by decide) (by decide) fun r3 H3 a3 b3 P3 C3 => ?_
    refine rd_ix2 (C3.get q3p g3) a3 b3 (.inl (C3.get q1p g1)) (.inr (C3.get q2p g2)) fun hd hs hor => ?_
    have hdp : hd ≠ p := by rcases hor with rfl | rfl <;> assumption
    have ahd : a ≠ hd := by rcases hor with rfl | rfl <;> assumption
    have hdN : H hd = none := by
      have : H1 hd = none := by rcases hor with rfl | rfl <;> assumption
      exact E1.free this hdp
    have E3 : Ext p H H3 := (E1.trans (Same.ext s3)).trans C3.ext
    have ha3 := C3.get ap (s3 _ _ ha)
    have hR3 : RowsK H3 us (rs.map k3) := (hR.same s3).mono (P2.ts C3.ext)
    clear hq1 hq2 hq3 g1 g2 g3 s1 s2 s3 C3 E1 hR ha P1 P2
    walk_at "rd"
    refine rd_reprS hs hR3 (brows_rows Dr.ok) fun zk hzk => ?_
    walk_at "rd"
    refine rd_mk (rs := rs) (.inr ⟨hd, us, rfl, hs, hR3⟩) Dr.ok fun o H4 cs kp sa s4 ho0 => ?_
    walk_at "rd"
    refine ⟨a, us, rs, rfl, s4 _ _ ha3, hR3.same s4, bo, fun H5 t5 ds s5 ht50 ht5 dl db => ?_⟩
    have s45 := s4.trans s5
    have t5p : t5 ≠ p := ((by
      obtain ⟨x1, x2, x3, x4, x5⟩ := P3
      exact ⟨x1, x2, x3, s4 _ _ x4, x5⟩ : Purse H4 p)).ne ht50
    have P5 : Purse H5 p := by
      obtain ⟨x1, x2, x3, x4, x5⟩ := P3
      exact ⟨x1, x2, x3, s45 _ _ x4, x5⟩
    walk_at "rd"
    refine ⟨by omega, by omega, ?_⟩
    intro D hD
    have Dp := P5.ne hD
    refine lcA (p := p) walk_range (fun i acc G => Purse G p ∧ ∃ ns : List Int, acc = ns.map V.int ∧ ns.length ≤ i ∧ ∀ d ∈ ns, 0 ≤ d ∧ d ≤ 9999) hD (by decide) ⟨P5.upd Dp, [], rfl, Nat.le_refl _, by simp⟩ (fun _ _ => True.intro) ?_ ?_
    · rintro i x G G' acc M hi e q la ⟨PG, ns, rfl, nl, nb⟩ ⟨rfl, rfl⟩ k1 k2
      walk_at "rd"
      refine ⟨rfl, ?_⟩
      walk_at "rd"
      refine rd_take PG (by decide) (by decide) fun r6 G6 a6 b6 P6 C6 => ?_
      refine k1 _ _ (e.trans C6.ext) (C6.get Dp q) ⟨P6.upd Dp, ns ++ [r6], by simp, by simp; omega, fun d hd => ?_⟩
      rcases List.mem_append.mp hd with h | h
      · exact nb d h
      · simp at h
        subst h
        omega
    rintro G6 acc e6 q6 la6 ⟨PG6, ns, rfl, nl, nb⟩
    replace nl : ns.length ≤ 3 := nl
    have ht6 := e6.get t5p ht5
    walk_at "rd"
    refine rd_cat ht6 q6 (by simp; exact Nat.le_of_lt (small1000 (by omega))) fun L hL => ?_
    have hdB : ∀ d ∈ ds ++ ns, 0 ≤ d ∧ d ≤ 9999 := fun d hd => (List.mem_append.mp hd).elim (db d) (nb d)
    have hdL : (ds ++ ns).length ≤ 1000 := by simp; omega
    have X6 : Ext p H3 (upd G6 L (.lst (ds.map V.int ++ ns.map V.int))) := ((Same.ext s45).trans e6).new hL
    have hLL : upd G6 L (.lst (ds.map V.int ++ ns.map V.int)) L = some (.lst ((ds ++ ns).map V.int)) := by rw [upd_same, List.map_append]
    have X6' : Ext p H4 (upd G6 L (.lst (ds.map V.int ++ ns.map V.int))) := ((Same.ext s5).trans e6).new hL
    have P7 : Purse (upd G6 L (.lst (ds.map V.int ++ ns.map V.int))) p := PG6.upd (PG6.ne hL)
    generalize upd G6 L (.lst (ds.map V.int ++ ns.map V.int)) = H7 at *
    have ha7 := X6.get ap ha3
    have hR7 : RowsK H7 us (rs.map k3) := hR3.mono (P3.ts X6)
    have P4 : Purse H4 p := by
      obtain ⟨x1, x2, x3, x4, x5⟩ := P3
      exact ⟨x1, x2, x3, s4 _ _ x4, x5⟩
    have op : o ≠ p := P3.ne ho0
    have sa7 : StakesAt C H7 o cs := by
      obtain ⟨dx, t, us', h1, h2, h3, h4⟩ := sa
      exact ⟨dx, t, us', X6'.get op h1, P4.ts X6' _ _ h2, h3.mono (P4.ts X6'), h4⟩
    have hs7 : Seq H7 hd us := hs.imp (X6.get hdp) (X6.get hdp)
    have E7 : Ext p H H7 := E3.trans X6
    have oN : H o = none := E3.free ho0 op
    have hdo : hd ≠ o := by
      rintro rfl
      rcases hs with h | h <;> rw [h] at ho0 <;> cases ho0
    have hdLn : hd ≠ L := by
      rintro rfl
      have h2 := X6
      rcases hs with h | h
      · have := ((Same.ext s45).trans e6).get hdp h
        rw [this] at hL
        cases hL
      · have := ((Same.ext s45).trans e6).get hdp h
        rw [this] at hL
        cases hL
    have LN : H3 L = none := ((Same.ext s45).trans e6).free hL (PG6.ne hL)
    have keep7 : Kept H3 hd H7 := fun o ho => X6.get hdp ho
    clear e6 q6 la6 PG6 ht6 hL hD s45 P5 ht5 s5 s4 X6 X6'
    walk_at "rd"
    refine ⟨o, a, L, us, ks, rs, cs, ds ++ ns, rfl, sa7, ha7, hR7, Dr, kp, hLL, hdL, hdB, fun H8 s8 => ?_⟩
    walk_at "rd"
    refine hzk H8 _ (fun o ho => s8 _ _ (keep7 o ho)) (hR7.same s8) ?_
    walk_at "rd"
    refine iteND rfl ?_
    repeat (first | with_reducible refine' rd_next ?_ | with_reducible refine' rd_seq ?_)
    have E8 : Ext p H H8 := E7.trans (Same.ext s8)
    have ha8 := s8 _ _ ha7
    have hR8 := hR7.same s8
    have sa8 := sa7.mono s8
    have hL8 := s8 _ _ hLL
    have hs8 := hs7.mono s8
    refine ifS_cut (fun σ G => σ = [some (.ref p), some (.ref a), some (.ref hd), some (.str zk), some (.ref o), some (.ref L), none, none, none] ∧ Ext p H G ∧ G a = some (.lst us) ∧ RowsK G us (rs.map k3) ∧ StakesAt C G o cs ∧ G L = some (.lst ((ds ++ ns).map V.int))) ?_ fun N hN => ?_
    · rintro σ G ⟨rfl, EG, haG, hRG, saG, hLG⟩
      walk_at "rd"
      refine ⟨L, _, rfl, SqL.of hLG, fun R hRv => ?_⟩
      walk_at "rd"
      have sR : Same G (upd G R (.lst ((ds ++ ns).map V.int).reverse)) := same_new (Same.refl _) hRv
      refine ⟨o, a, R, us, ks, rs, cs, (ds ++ ns).reverse, rfl, saG.mono sR, sR _ _ haG, hRG.same sR, Dr, kp, by rw [upd_same, List.map_reverse], by rw [List.length_reverse]; exact hdL, fun d hd => hdB d (List.mem_reverse.mp hd), fun H9 s9 => ?_⟩
      have E9 : Ext p H H9 := EG.trans (Same.ext (sR.trans s9))
      walk_at "rd"
      refine rd_mk (rs := []) (.inl ⟨rfl, rfl⟩) ok_nil fun o1 J1 c1 kp1 sb1 w1 ho1 => ?_
      obtain rfl := kept_nil kp1
      walk_at "rd"
      refine rd_mk (rs := []) (.inl ⟨rfl, rfl⟩) ok_nil fun o2 J2 c2 kp2' sb2 w2 ho2 => ?_
      obtain rfl := kept_nil kp2'
      walk_at "rd"
      intro e1 he1
      have w3 : Same J2 (upd J2 e1 (.tup [])) := same_new (Same.refl _) he1
      walk_at "rd"
      refine rd_mk (rs := []) (.inr ⟨e1, [], rfl, .inr upd_same, True.intro⟩) ok_nil fun o3 J3 c3 kp3 sb3 w4 ho3 => ?_
      obtain rfl := kept_nil kp3
      walk_at "rd"
      intro e2 he2
      have w5 : Same J3 (upd J3 e2 (.lst [])) := same_new (Same.refl _) he2
      walk_at "rd"
      refine rd_mk (rs := []) (.inr ⟨e2, [], rfl, .inl upd_same, True.intro⟩) ok_nil fun o4 J4 c4 kp4 sb4 w6 ho4 => ?_
      obtain rfl := kept_nil kp4
      walk_at "rd"
      intro m hm
      have wB : Same J3 J4 := w5.trans w6
      have wA : Same J2 J4 := (w3.trans w4).trans wB
      have w7 : Same J4 (upd J4 m (.lst [.ref o1, .ref o2, .ref o3, .ref o4])) := same_new (Same.refl _) hm
      have all4 : ∀ x ∈ [V.ref o1, .ref o2, .ref o3, .ref o4], ∃ q, x = .ref q ∧ StakesAt C (upd J4 m (.lst [.ref o1, .ref o2, .ref o3, .ref o4])) q [] := fun x hx => by
        simp at hx
        rcases hx with rfl | rfl | rfl | rfl
        · exact ⟨_, rfl, ((sb1.mono w2).mono wA).mono w7⟩
        · exact ⟨_, rfl, (sb2.mono wA).mono w7⟩
        · exact ⟨_, rfl, (sb3.mono wB).mono w7⟩
        · exact ⟨_, rfl, sb4.mono w7⟩
      have hm2 : upd J4 m (.lst [.ref o1, .ref o2, .ref o3, .ref o4]) m = some (.lst [.ref o1, .ref o2, .ref o3, .ref o4]) := upd_same
      have EA : Ext p H (upd J4 m (.lst [.ref o1, .ref o2, .ref o3, .ref o4])) := E9.trans (Same.ext ((((w1.trans w2).trans wA)).trans w7))
      generalize upd J4 m (.lst [.ref o1, .ref o2, .ref o3, .ref o4]) = J5 at *
      walk_at "rd"
      intro D3 hD3
      refine lcA (p := D3) (walk_list (xs := [.ref o1, .ref o2, .ref o3, .ref o4])) (fun i acc _ => acc = List.replicate i (V.bl true)) hD3 (by simp) rfl (fun H' e => SqL.of (e.get (ne_of_none hm2 hD3) hm2)) ?_ ?_
      · rintro i x G2 G2' acc M hi e q la a' ⟨rfl, y⟩ k1 k2
        obtain ⟨q0, rfl, sq⟩ := all4 x (List.mem_of_getElem? y)
        have sJ : Same J5 G2' := fun b o hb => e b o (ne_of_none hb hD3) hb
        have sq1 := sq.mono sJ
        obtain ⟨dx, rt, rus, hq0, _⟩ := id sq1
        walk_at "rd"
        refine ⟨rfl, ?_⟩
        walk_at "rd"
        refine ⟨q0, dx, _, rfl, hq0, lk_no (by decide +kernel), ?_⟩
        walk_at "rd"
        refine ⟨q0, [], rfl, sq1, fun K1 t1 y1 u1 ht10 ht1 nd1 srt1 mem1 => ?_⟩
        obtain rfl : y1 = [] := List.eq_nil_iff_forall_not_mem.mpr fun z hz => by
          obtain ⟨r, hr', _⟩ := (mem1 z).mp hz
          cases hr'
        walk_at "rd"
        intro e1' he1'
        have n1 : t1 ≠ e1' := ne_of_none ht1 he1'
        refine rd_eqTx (xs := []) (ys := []) (by walk_at "hp") upd_same (by simp) (by simp) ?_
        walk_at "rd"
        refine ite_dec (fun _ => ?_) (fun c => (c rfl).elim)
        have u2 : Same G2' (upd K1 e1' (.tup [])) := same_new u1 he1'
        walk_at "rd"
        refine ⟨q0, dx, _, rfl, u2 _ _ hq0, lk_no (by decide +kernel), ?_⟩
        walk_at "rd"
        refine ⟨q0, _, 9999, [], rfl, sq1.mono u2, by decide +kernel, by decide, by decide, fun K2 u3 => ?_⟩
        walk_at "rd"
        refine ite_dec (fun _ => ?_) (fun c => (c rfl).elim)
        have u4 := u2.trans u3
        walk_at "rd"
        refine ⟨q0, dx, _, rfl, u4 _ _ hq0, lk_no (by decide +kernel), ?_⟩
        walk_at "rd"
        refine ⟨q0, _, [], rfl, sq1.mono u4, by decide +kernel, fun K3 t3 us3 u5 ht30 ht3 hR3' => ?_⟩
        obtain rfl : us3 = [] := by
          cases us3 with
          | nil => rfl
          | cons a b => exact hR3'.elim
        walk_at "rd"
        intro e2' he2'
        have n2 : t3 ≠ e2' := ne_of_none ht3 he2'
        refine rd_eqTx (xs := []) (ys := []) (by walk_at "hp") upd_same (by simp) (by simp) ?_
        have u6 : Same G2' (upd K3 e2' (.tup [])) := same_new (u4.trans u5) he2'
        refine k1 _ _ (e.trans (Same.ext u6)) (u6 _ _ q) ?_
        subst a'
        rw [List.replicate_succ']
        rfl
      · intro G2 acc e q la a'
        subst a'
        walk_at "rd"
        refine rd_allT q (k G2 fun b o nb hb => ?_)
        have h1 := EA b o nb hb
        exact e b o (ne_of_none h1 hD3) h1
    · rcases hs8 with hs8 | hs8
      · walk_at "rd"
        refine ⟨a, us, ks, rs, rfl, ha8, hR8, Dr, fun z H9 s9 hz => ?_⟩
        have hs9 := s9 _ _ hs8
        walk_at "rd"
        intro t9 ht9
        have nt : hd ≠ t9 := ne_of_none hs9 ht9
        have hul : us.length < sizeLine := small1000 (by omega)
        walk_at "rd"
        have ts1 : TSt H9 (upd H9 t9 (.tup [.str z, .int 0, .int 5])) := TSt.new ht9
        have hsA : upd H9 t9 (.tup [.str z, .int 0, .int 5]) hd = some (.lst us) := by walk_at "hp"
        have ts2 := TSt.lst (o := .lst (us ++ [.ref t9])) hsA
        have hsB : upd (upd H9 t9 (.tup [.str z, .int 0, .int 5])) hd (.lst (us ++ [.ref t9])) hd = some (.lst (us ++ [.ref t9])) := upd_same
        have ts3 := TSt.lst (o := .lst (us ++ [V.ref t9]).reverse) hsB
        have tA := (ts1.trans ts2).trans ts3
        have stays : ∀ b o', b ≠ hd → H8 b = some o' → upd (upd (upd H9 t9 (.tup [.str z, .int 0, .int 5])) hd (.lst (us ++ [.ref t9]))) hd (.lst (us ++ [V.ref t9]).reverse) b = some o' := fun b o' nb hb => by
          have h1 := s9 _ _ hb
          have n1 : b ≠ t9 := ne_of_none h1 ht9
          walk_at "hp"
        refine hN _ _ ⟨rfl, fun b o' nb hb => stays b o' (ne_of_none hb hdN) (E8 b o' nb hb), stays _ _ ahd ha8, (hR8.same s9).mono tA, ?_, stays _ _ hdLn.symm hL8⟩
        obtain ⟨dx, t, us', h1, h2, h3, h4⟩ := sa8
        exact ⟨dx, t, us', stays _ _ hdo.symm h1, tA _ _ (s9 _ _ h2), (h3.same s9).mono tA, h4⟩
      · walk_at "rd"
        exact hN _ _ ⟨rfl, E8, ha8, hR8, sa8, hL8⟩
end
end Sk
end

section
namespace Sk
open PySem L2
local macro_rules | `(tactic| walk_at "kb") => `(tactic| first | exact kb_int_int | exact kb_int_bool | exact kb_int_str | exact kb_int_tuple | exact kb_int_list | exact kb_tuple_int | exact kb_tuple_bool | exact kb_tuple_str | exact kb_tuple_tuple | exact kb_tuple_list | exact kb_list_int | exact kb_list_bool | exact kb_list_str | exact kb_list_tuple | exact kb_list_list | exact kb_bool_int | exact kb_bool_bool | exact kb_bool_str | exact kb_bool_tuple | exact kb_bool_list | exact kb_str_int | exact kb_str_bool | exact kb_str_str | exact kb_str_tuple | exact kb_str_list | exact kb_dict_int | exact kb_dict_bool | exact kb_dict_str | exact kb_dict_tuple | exact kb_dict_list | exact kb_NoneType_int | exact kb_NoneType_bool | exact kb_NoneType_str | exact kb_NoneType_tuple | exact kb_NoneType_list)
local macro_rules | `(tactic| walk_at "hp") => `(tactic| first
  | assumption
  | exact upd_same
  | (refine' upd_get ?n ?e; (case n => walk_at "ne"); (case e => walk_at "hp"))
  | (refine' But.get (by assumption) ?n ?e; (case n => walk_at "ne"); (case e => walk_at "hp"))
  | (refine' Ext.get (by assumption) ?n ?e; (case n => walk_at "ne"); (case e => walk_at "hp"))
  | (refine' same_get (by assumption) ?e; (case e => walk_at "hp")))
local macro_rules | `(tactic| walk_at "ne") => `(tactic| first
  | assumption
  | (apply Ne.symm; assumption)
  | (refine' ne_of_none ?h (by assumption); (case h => walk_at "hp"))
  | (apply Ne.symm; refine' ne_of_none ?h (by assumption); (case h => walk_at "hp")))
local macro_rules | `(tactic| walk_at "sd") => `(tactic| first
  | (show (0 : Int) < _; omega)
  | (simp only [CMul, CDiv]; omega)
  | exact ⟨by omega, by omega⟩)
local macro_rules | `(tactic| walk_at "rd1") => `(tactic| first
  | with_reducible refine' rd_c ?_
  | ((with_reducible refine' rd_var ?h ?_); (case h => exact rfl))
  | with_reducible refine' rd_op ?_
  | with_reducible refine' rd_seq ?_
  | with_reducible refine' rd_asg ?_
  | with_reducible refine' rd_gName ?_
  | with_reducible refine' rd_I0 ?_
  | ((with_reducible refine' rd_I ?c ?_); (case c => walk_at "sd"))
  | with_reducible refine' rd_eqI ?_
  | with_reducible refine' rd_neI ?_
  | with_reducible refine' rd_U ?_
  | with_reducible refine' rd_un ?_
  | with_reducible refine' rd_ret ?_
  | with_reducible refine' rd_drop ?_
  | with_reducible refine' rd_next ?_
  | with_reducible refine' rd_ifS ?_
  | with_reducible refine' rd_test ?_
  | with_reducible refine' rd_bl ?_
  | with_reducible refine' rd_nil ?_
  | with_reducible refine' rd_cons ?_
  | with_reducible refine' rd_tup ?_
  | with_reducible refine' rd_lst ?_
  | with_reducible refine' rd_call ?_
  | with_reducible refine' rd_cb ?_
  | with_reducible refine' rd_par ?_
  | with_reducible refine' rd_par2 ?_
  | with_reducible refine' rd_and ?_
  | with_reducible refine' rd_or ?_
  | with_reducible refine' rd_not ?_
  | with_reducible refine' rd_andV ?_
  | with_reducible refine' rd_orV ?_
  | with_reducible refine' rd_notV ?_
  | with_reducible refine' rd_if ?_
  | with_reducible refine' rd_gSub ?_
  | ((with_reducible refine' rd_ixL ?h ?e ?_); (case h => walk_at "hp"); (case e => exact rfl))
  | ((with_reducible refine' rd_ixT ?h ?e ?_); (case h => walk_at "hp"); (case e => exact rfl))
  | ((with_reducible refine' rd_setL ?h ?e ?_); (case h => walk_at "hp"); (case e => exact rfl))
  | ((with_reducible refine' rd_append ?h ?e ?_); (case h => walk_at "hp"); (case e => assumption))
  | (with_reducible refine' rd_bmL ?_)
  | ((with_reducible refine' And.intro (tyL ?h) ?_); (case h => walk_at "hp"))
  | ((with_reducible refine' And.intro (len_ok ?h) ?_); (case h => exact rfl))
  | with_reducible refine' rd_ex1 ?_
  | with_reducible refine' rd_ex2 ?_
  | with_reducible refine' rd_int1b ?_
  | ((with_reducible refine' rd_isiI ?e ?_); (case e => walk_at "kb"))
  | ((with_reducible refine' rd_isiB ?e ?_); (case e => walk_at "kb"))
  | ((with_reducible refine' rd_isiT ?h ?e ?_); (case h => walk_at "hp"); (case e => walk_at "kb"))
  | ((with_reducible refine' rd_isiL ?h ?e ?_); (case h => walk_at "hp"); (case e => walk_at "kb"))
  | ((with_reducible refine' rd_lenL ?h ?_); (case h => walk_at "hp"))
  | ((with_reducible refine' rd_lenT ?h ?_); (case h => walk_at "hp"))
  | ((with_reducible refine' rd_gTup ?h ?e ?_); (case h => walk_at "hp"); (case e => exact rfl))
  | with_reducible refine' rd_gCons ?_
  | with_reducible refine' rd_gNil ?_
  | with_reducible refine' rd_yes ?_
  | with_reducible refine' rd_for ?_
  | with_reducible refine' rd_lc ?_
  | with_reducible refine' rd_rng1 ?_
  | with_reducible refine' rd_iL ?_
  | with_reducible refine' rd_iT ?_
  | with_reducible refine' rd_iE ?_
  | with_reducible refine' rd_iZ ?_
  | ((with_reducible refine' rd_iL' ?h ?_); (case h => walk_at "hp"))
  | ((with_reducible refine' rd_iT' ?h ?_); (case h => walk_at "hp"))
  | ((with_reducible refine' rd_iE' ?h ?_); (case h => walk_at "hp"))
  | ((with_reducible refine' rd_iZ' ?h1 ?h2 ?_); (case h1 => walk_at "hp"); (case h2 => walk_at "hp"))
  | with_reducible refine' iteT ?_
  | with_reducible refine' iteF ?_)
local macro_rules | `(tactic| walk_at "rd") => `(tactic| repeat walk_at "rd1")
local macro_rules | `(tactic| walk_at "rd1") => `(tactic| first | with_reducible refine' rd_tB ?_ | with_reducible refine' iteNT ?_ | with_reducible refine' iteNF ?_ | with_reducible refine' rd_iEA (tam_cons tem_var tam_nil) ?_ | with_reducible refine' rd_iSA tem_var ?_ | with_reducible refine' rd_iZA (tam_cons tem_var (tam_cons tem_var tam_nil)) ?_)
local macro_rules | `(tactic| walk_at "rd1") => `(tactic| first | with_reducible refine' rd_eqS ?_ | with_reducible refine' rd_neS ?_ | ((with_reducible refine' rd_isiS ?e ?_); (case e => walk_at "kb")) | with_reducible refine' rd_inS ?_ | with_reducible refine' rd_iS ?_ | with_reducible refine' rd_iS' ?_)
section
variable {P : Program} {w : World} {K : PySem.W.Frag} {mg : Str → Option Value} {base : Heap}
def spLaw (K : PySem.W.Frag) : Sp := fun vs H Q _ => ∃ (a : Addr) (ns : List Int), vs = [.ref a] ∧ SqL K H a (ns.map V.int) ∧ ns.length ≤ 63 ∧ ∀ H', Q (.bl true) H'
abbrev s_law : Stmt := top 40
theorem sc_law : FnScope ["_law_script", "_law_k"] ["_law_script"] (defScope s_law) := ⟨rfl, rfl, rfl, by decide +kernel, rfl, by decide +kernel, by decide +kernel⟩
theorem ok_law {f fC fP fR : Addr} {fd fdC fdP fdR : FuncData} (F : Fun K "law" "law" s_law f fd) (T : Top mg) (dCell : Def P w K mg base "_law_cell" 1 fC fdC ["_law_script", "_law_k"] (spCell K))
    (dPurse : Def P w K mg base "_law_purse" 1 fP fdP ["_law_cell_here"] spPurse) (dRight : DefG P w K mg base "_law_right" 7 fR fdR ["_law_purse_here"] spRight) : FnG P w K mg base CX0 8 f fd ["_law_script"] (spLaw K) := by
  refine okG F sc_law (fun vs H Q E h => ?_) (fun cdv A outer s H vs Q E clr hr h => ?_)
  · obtain ⟨a, ns, rfl, _⟩ := h
    rfl
  · obtain ⟨a, ns, rfl, hS, hln, k⟩ := h
    refine ⟨_, (pss_one (ps_ret (pe_callB (cr_allK (K := K) rfl rfl) (by rfl) T.all (by decide +kernel) (pa_cons (pe_lc (own := [("_law_k", 1)]) (tt := tYes) rfl sc_law.nd (pi_range1 (by rfl) T.range (pa_cons (pe_callB (call_max2 rfl) (by rfl) T.max (by decide +kernel) (pa_cons pe_int (pa_cons (pe_callB (call_min2 rfl) (by rfl) T.min (by decide +kernel) (pa_cons (pe_callB (call_lenK (K := K) rfl) (by rfl) T.len (by decide +kernel) (pa_cons (pv 0) pa_nil)) (pa_cons pe_int pa_nil))) pa_nil))) pa_nil)) (blkOk_by (N := ["_law_script", "_law_k"]) (sc := defScope s_law) (by decide +kernel)) (fun _ _ _ _ _ => (pg_name (i := 1) sc_law.nd rfl (by first | exact Or.inl rfl | exact Or.inr rfl))) (fun _ _ _ _ _ => pts_nil) (fun _ _ _ _ _ => (pe_callG dRight.ok clr (hr.mono (by decide)) (by rfl) dRight.mg dRight.kp dRight.bd .nil pass0 (pa_cons (pe_call dPurse.ok (hr.mono (by decide)) (by rfl) dPurse.mg dPurse.kp dPurse.bd .nil pass0 (pa_cons (pe_call dCell.ok (hr.mono (by decide)) (by rfl) dCell.mg dCell.kp dCell.bd .nil pass0 (pa_cons (pv 0) (pa_cons (pv 1) pa_nil))) pa_nil)) pa_nil)))) pa_nil)))), ?_⟩
    walk_at "rd"
    refine ⟨_, _, rfl, .inl ⟨_, hS, rfl⟩, ?_⟩
    walk_at "rd"
    refine ⟨by first | omega | (split <;> omega) | (split <;> split <;> omega), by first | omega | (split <;> omega) | (split <;> split <;> omega), ?_⟩
    intro D hD
    refine lcA (p := D) walk_range (fun i acc _ => acc = List.replicate i (V.bl true)) hD (by first | omega | (split <;> omega) | (split <;> split <;> omega)) rfl (fun _ _ => True.intro) ?_ ?_
    · rintro j x J J' acc M hj e q la a' ⟨rfl, rfl⟩ k1 k2
      have sJ : Same H J' := fun b o h => e.get (ne_of_none h hD) h
      walk_at "rd"
      refine ⟨rfl, ?_⟩
      walk_at "rd"
      refine ⟨a, ns, j, by simp, sJ.seq hS, fun c J1 s1 => ?_⟩
      walk_at "rd"
      refine ⟨c, rfl, fun p J2 hp0 hp s2 => ?_⟩
      walk_at "rd"
      refine ⟨p, rfl, hp, fun J3 e3 => ?_⟩
      have hpD : D ≠ p := ne_of_none (s1 _ _ q) hp0
      refine k1 _ _ (fun b o nb h => ?_) (e3.get hpD (s2 _ _ (s1 _ _ q))) ?_
      · have h1 := s1 _ _ (e b o nb h)
        exact e3.get (ne_of_none h1 hp0) (s2 _ _ h1)
      · subst a'
        rw [List.replicate_succ']
    · intro H1 acc e1 q1 la a'
      subst a'
      walk_at "rd"
      exact rd_allT q1 (k H1)
end

theorem all_mk {l : PySem.W.OpenLaw} {w : World} {K : PySem.W.Frag} {h : Heap} {mg : Str → Option Value} {fa C TD f1 f2 f3 f4 f5 f6 f7 f8 f9 f10 f11 f12 f13 f14 f15 f16 f17 f18 f19 f20 f21 f22 f23 f24 f25 f26 fM1 fM2 fM3 fI : Addr} (X : K.In h) (G : h.Ns mainGlobals mg) (hfa : mg "law" = some (.ref fa))
    {od1 an1 : Option Addr} {sl1 : Array (Option Value)} {oc1 kV1 dc1 pm1 cd1 ct1 : Value} {od2 an2 : Option Addr} {sl2 : Array (Option Value)} {oc2 kV2 dc2 pm2 cd2 ct2 : Value} {od3 an3 : Option Addr} {sl3 : Array (Option Value)} {oc3 kV3 dc3 pm3 cd3 ct3 : Value} {od4 an4 : Option Addr} {sl4 : Array (Option Value)} {oc4 kV4 dc4 pm4 cd4 ct4 : Value} {od5 an5 : Option Addr} {sl5 : Array (Option Value)} {oc5 kV5 dc5 pm5 cd5 ct5 : Value} {od6 an6 : Option Addr} {sl6 : Array (Option Value)} {oc6 kV6 dc6 pm6 cd6 ct6 : Value} {od7 an7 : Option Addr} {sl7 : Array (Option Value)} {oc7 kV7 dc7 pm7 cd7 ct7 : Value} {od8 an8 : Option Addr} {sl8 : Array (Option Value)} {oc8 kV8 dc8 pm8 cd8 ct8 : Value} {od9 an9 : Option Addr} {sl9 : Array (Option Value)} {oc9 kV9 dc9 pm9 cd9 ct9 : Value} {od10 an10 : Option Addr} {sl10 : Array (Option Value)} {oc10 kV10 dc10 pm10 cd10 ct10 : Value} {od11 an11 : Option Addr} {sl11 : Array (Option Value)} {oc11 kV11 dc11 pm11 cd11 ct11 : Value} {od12 an12 : Option Addr} {sl12 : Array (Option Value)} {oc12 kV12 dc12 pm12 cd12 ct12 : Value} {od13 an13 : Option Addr} {sl13 : Array (Option Value)} {oc13 kV13 dc13 pm13 cd13 ct13 : Value} {od14 an14 : Option Addr} {sl14 : Array (Option Value)} {oc14 kV14 dc14 pm14 cd14 ct14 : Value} {od15 an15 : Option Addr} {sl15 : Array (Option Value)} {oc15 kV15 dc15 pm15 cd15 ct15 : Value} {od16 an16 : Option Addr} {sl16 : Array (Option Value)} {oc16 kV16 dc16 pm16 cd16 ct16 : Value} {od17 an17 : Option Addr} {sl17 : Array (Option Value)} {oc17 kV17 dc17 pm17 cd17 ct17 : Value} {od18 an18 : Option Addr} {sl18 : Array (Option Value)} {oc18 kV18 dc18 pm18 cd18 ct18 : Value} {od19 an19 : Option Addr} {sl19 : Array (Option Value)} {oc19 kV19 dc19 pm19 cd19 ct19 : Value} {od20 an20 : Option Addr} {sl20 : Array (Option Value)} {oc20 kV20 dc20 pm20 cd20 ct20 : Value} {od21 an21 : Option Addr} {sl21 : Array (Option Value)} {oc21 kV21 dc21 pm21 cd21 ct21 : Value} {od22 an22 : Option Addr} {sl22 : Array (Option Value)} {oc22 kV22 dc22 pm22 cd22 ct22 : Value} {od23 an23 : Option Addr} {sl23 : Array (Option Value)} {oc23 kV23 dc23 pm23 cd23 ct23 : Value} {od24 an24 : Option Addr} {sl24 : Array (Option Value)} {oc24 kV24 dc24 pm24 cd24 ct24 : Value} {od25 an25 : Option Addr} {sl25 : Array (Option Value)} {oc25 kV25 dc25 pm25 cd25 ct25 : Value} {od26 an26 : Option Addr} {sl26 : Array (Option Value)} {oc26 kV26 dc26 pm26 cd26 ct26 : Value} {odM1 anM1 : Option Addr} {slM1 : Array (Option Value)} {ocM1 kVM1 dcM1 pmM1 cdM1 ctM1 : Value} {odM2 anM2 : Option Addr} {slM2 : Array (Option Value)} {ocM2 kVM2 dcM2 pmM2 cdM2 ctM2 : Value} {odM3 anM3 : Option Addr} {slM3 : Array (Option Value)} {ocM3 kVM3 dcM3 pmM3 cdM3 ctM3 : Value} {odI anI : Option Addr} {slI : Array (Option Value)} {ocI kVI dcI pmI cdI ctI : Value} {ocT : Value} {odT : Option Addr} {nT : Nat} {slT : Array (Option Value)} {tL : Tok}
    (a1 : PySem.W.nsIn K mainGlobals "_law_take" = some (some (.ref f1))) (l1 : K.lookup f1 = some ⟨oc1, od1, .func (PySem.W.fnOf "_law_take" "_law_take" (defArgs sTake) (defBody sTake) (defScope sTake) .none kV1 dc1 pm1 an1 cd1 ct1), sl1⟩) (c1 : PySem.W.codeIn K cd1 "_law_take" = true) (k1 : PySem.W.keepIn K (.ref f1) = true)
    (a2 : PySem.W.nsIn K mainGlobals "_law_cell" = some (some (.ref f2))) (l2 : K.lookup f2 = some ⟨oc2, od2, .func (PySem.W.fnOf "_law_cell" "_law_cell" (defArgs sCell) (defBody sCell) (defScope sCell) .none kV2 dc2 pm2 an2 cd2 ct2), sl2⟩) (c2 : PySem.W.codeIn K cd2 "_law_cell" = true) (k2 : PySem.W.keepIn K (.ref f2) = true)
    (a3 : PySem.W.nsIn K mainGlobals "_law_purse" = some (some (.ref f3))) (l3 : K.lookup f3 = some ⟨oc3, od3, .func (PySem.W.fnOf "_law_purse" "_law_purse" (defArgs sPurse) (defBody sPurse) (defScope sPurse) .none kV3 dc3 pm3 an3 cd3 ct3), sl3⟩) (c3 : PySem.W.codeIn K cd3 "_law_purse" = true) (k3 : PySem.W.keepIn K (.ref f3) = true)
    (a4 : PySem.W.nsIn K mainGlobals "_law_number" = some (some (.ref f4))) (l4 : K.lookup f4 = some ⟨oc4, od4, .func (PySem.W.fnOf "_law_number" "_law_number" (defArgs sNum) (defBody sNum) (defScope sNum) .none kV4 dc4 pm4 an4 cd4 ct4), sl4⟩) (c4 : PySem.W.codeIn K cd4 "_law_number" = true) (k4 : PySem.W.keepIn K (.ref f4) = true)
    (a5 : PySem.W.nsIn K mainGlobals "is_whole" = some (some (.ref f5))) (l5 : K.lookup f5 = some ⟨oc5, od5, .func (PySem.W.fnOf "is_whole" "is_whole" (defArgs s_is_whole) (defBody s_is_whole) (defScope s_is_whole) .none kV5 dc5 pm5 an5 cd5 ct5), sl5⟩) (c5 : PySem.W.codeIn K cd5 "is_whole" = true) (k5 : PySem.W.keepIn K (.ref f5) = true)
    (a6 : PySem.W.nsIn K mainGlobals "is_name" = some (some (.ref f6))) (l6 : K.lookup f6 = some ⟨oc6, od6, .func (PySem.W.fnOf "is_name" "is_name" (defArgs s_is_name) (defBody s_is_name) (defScope s_is_name) .none kV6 dc6 pm6 an6 cd6 ct6), sl6⟩) (c6 : PySem.W.codeIn K cd6 "is_name" = true) (k6 : PySem.W.keepIn K (.ref f6) = true)
    (a7 : PySem.W.nsIn K mainGlobals "is_day" = some (some (.ref f7))) (l7 : K.lookup f7 = some ⟨oc7, od7, .func (PySem.W.fnOf "is_day" "is_day" (defArgs s_is_day) (defBody s_is_day) (defScope s_is_day) .none kV7 dc7 pm7 an7 cd7 ct7), sl7⟩) (c7 : PySem.W.codeIn K cd7 "is_day" = true) (k7 : PySem.W.keepIn K (.ref f7) = true)
    (a8 : PySem.W.nsIn K mainGlobals "is_amount" = some (some (.ref f8))) (l8 : K.lookup f8 = some ⟨oc8, od8, .func (PySem.W.fnOf "is_amount" "is_amount" (defArgs s_is_amount) (defBody s_is_amount) (defScope s_is_amount) .none kV8 dc8 pm8 an8 cd8 ct8), sl8⟩) (c8 : PySem.W.codeIn K cd8 "is_amount" = true) (k8 : PySem.W.keepIn K (.ref f8) = true)
    (a9 : PySem.W.nsIn K mainGlobals "is_row" = some (some (.ref f9))) (l9 : K.lookup f9 = some ⟨oc9, od9, .func (PySem.W.fnOf "is_row" "is_row" (defArgs s_is_row) (defBody s_is_row) (defScope s_is_row) .none kV9 dc9 pm9 an9 cd9 ct9), sl9⟩) (c9 : PySem.W.codeIn K cd9 "is_row" = true) (k9 : PySem.W.keepIn K (.ref f9) = true)
    (a10 : PySem.W.nsIn K mainGlobals "check_name" = some (some (.ref f10))) (l10 : K.lookup f10 = some ⟨oc10, od10, .func (PySem.W.fnOf "check_name" "check_name" (defArgs s_check_name) (defBody s_check_name) (defScope s_check_name) .none kV10 dc10 pm10 an10 cd10 ct10), sl10⟩) (c10 : PySem.W.codeIn K cd10 "check_name" = true) (k10 : PySem.W.keepIn K (.ref f10) = true)
    (a11 : PySem.W.nsIn K mainGlobals "check_day" = some (some (.ref f11))) (l11 : K.lookup f11 = some ⟨oc11, od11, .func (PySem.W.fnOf "check_day" "check_day" (defArgs s_check_day) (defBody s_check_day) (defScope s_check_day) .none kV11 dc11 pm11 an11 cd11 ct11), sl11⟩) (c11 : PySem.W.codeIn K cd11 "check_day" = true) (k11 : PySem.W.keepIn K (.ref f11) = true)
    (a12 : PySem.W.nsIn K mainGlobals "check_row" = some (some (.ref f12))) (l12 : K.lookup f12 = some ⟨oc12, od12, .func (PySem.W.fnOf "check_row" "check_row" (defArgs s_check_row) (defBody s_check_row) (defScope s_check_row) .none kV12 dc12 pm12 an12 cd12 ct12), sl12⟩) (c12 : PySem.W.codeIn K cd12 "check_row" = true) (k12 : PySem.W.keepIn K (.ref f12) = true)
    (a13 : PySem.W.nsIn K mainGlobals "is_stake_row" = some (some (.ref f13))) (l13 : K.lookup f13 = some ⟨oc13, od13, .func (PySem.W.fnOf "is_stake_row" "is_stake_row" (defArgs s_is_stake_row) (defBody s_is_stake_row) (defScope s_is_stake_row) .none kV13 dc13 pm13 an13 cd13 ct13), sl13⟩) (c13 : PySem.W.codeIn K cd13 "is_stake_row" = true) (k13 : PySem.W.keepIn K (.ref f13) = true)
    (a14 : PySem.W.nsIn K mainGlobals "amounts_of" = some (some (.ref f14))) (l14 : K.lookup f14 = some ⟨oc14, od14, .func (PySem.W.fnOf "amounts_of" "amounts_of" (defArgs s_amounts_of) (defBody s_amounts_of) (defScope s_amounts_of) .none kV14 dc14 pm14 an14 cd14 ct14), sl14⟩) (c14 : PySem.W.codeIn K cd14 "amounts_of" = true) (k14 : PySem.W.keepIn K (.ref f14) = true)
    (a15 : PySem.W.nsIn K mainGlobals "changes_of" = some (some (.ref f15))) (l15 : K.lookup f15 = some ⟨oc15, od15, .func (PySem.W.fnOf "changes_of" "changes_of" (defArgs s_changes_of) (defBody s_changes_of) (defScope s_changes_of) .none kV15 dc15 pm15 an15 cd15 ct15), sl15⟩) (c15 : PySem.W.codeIn K cd15 "changes_of" = true) (k15 : PySem.W.keepIn K (.ref f15) = true)
    (a16 : PySem.W.nsIn K mainGlobals "_law_word" = some (some (.ref f16))) (l16 : K.lookup f16 = some ⟨oc16, od16, .func (PySem.W.fnOf "_law_word" "_law_word" (defArgs s_word) (defBody s_word) (defScope s_word) .none kV16 dc16 pm16 an16 cd16 ct16), sl16⟩) (c16 : PySem.W.codeIn K cd16 "_law_word" = true) (k16 : PySem.W.keepIn K (.ref f16) = true)
    (a17 : PySem.W.nsIn K mainGlobals "_law_words" = some (some (.ref f17))) (l17 : K.lookup f17 = some ⟨oc17, od17, .func (PySem.W.fnOf "_law_words" "_law_words" (defArgs s_words) (defBody s_words) (defScope s_words) .none kV17 dc17 pm17 an17 cd17 ct17), sl17⟩) (c17 : PySem.W.codeIn K cd17 "_law_words" = true) (k17 : PySem.W.keepIn K (.ref f17) = true)
    (a18 : PySem.W.nsIn K mainGlobals "_law_stake_rows" = some (some (.ref f18))) (l18 : K.lookup f18 = some ⟨oc18, od18, .func (PySem.W.fnOf "_law_stake_rows" "_law_stake_rows" (defArgs s_stake_rows) (defBody s_stake_rows) (defScope s_stake_rows) .none kV18 dc18 pm18 an18 cd18 ct18), sl18⟩) (c18 : PySem.W.codeIn K cd18 "_law_stake_rows" = true) (k18 : PySem.W.keepIn K (.ref f18) = true)
    (a19 : PySem.W.nsIn K mainGlobals "_law_stake" = some (some (.ref f19))) (l19 : K.lookup f19 = some ⟨oc19, od19, .func (PySem.W.fnOf "_law_stake" "_law_stake" (defArgs s_lstake) (defBody s_lstake) (defScope s_lstake) .none kV19 dc19 pm19 an19 cd19 ct19), sl19⟩) (c19 : PySem.W.codeIn K cd19 "_law_stake" = true) (k19 : PySem.W.keepIn K (.ref f19) = true)
    (a20 : PySem.W.nsIn K mainGlobals "_law_changes" = some (some (.ref f20))) (l20 : K.lookup f20 = some ⟨oc20, od20, .func (PySem.W.fnOf "_law_changes" "_law_changes" (defArgs s_lchanges) (defBody s_lchanges) (defScope s_lchanges) .none kV20 dc20 pm20 an20 cd20 ct20), sl20⟩) (c20 : PySem.W.codeIn K cd20 "_law_changes" = true) (k20 : PySem.W.keepIn K (.ref f20) = true)
    (a21 : PySem.W.nsIn K mainGlobals "_law_some_rows" = some (some (.ref f21))) (l21 : K.lookup f21 = some ⟨oc21, od21, .func (PySem.W.fnOf "_law_some_rows" "_law_some_rows" (defArgs s_some) (defBody s_some) (defScope s_some) .none kV21 dc21 pm21 an21 cd21 ct21), sl21⟩) (c21 : PySem.W.codeIn K cd21 "_law_some_rows" = true) (k21 : PySem.W.keepIn K (.ref f21) = true)
    (a22 : PySem.W.nsIn K mainGlobals "_law_told_right" = some (some (.ref f22))) (l22 : K.lookup f22 = some ⟨oc22, od22, .func (PySem.W.fnOf "_law_told_right" "_law_told_right" (defArgs s_told) (defBody s_told) (defScope s_told) .none kV22 dc22 pm22 an22 cd22 ct22), sl22⟩) (c22 : PySem.W.codeIn K cd22 "_law_told_right" = true) (k22 : PySem.W.keepIn K (.ref f22) = true)
    (a23 : PySem.W.nsIn K mainGlobals "_law_days_beside" = some (some (.ref f23))) (l23 : K.lookup f23 = some ⟨oc23, od23, .func (PySem.W.fnOf "_law_days_beside" "_law_days_beside" (defArgs s_days) (defBody s_days) (defScope s_days) .none kV23 dc23 pm23 an23 cd23 ct23), sl23⟩) (c23 : PySem.W.codeIn K cd23 "_law_days_beside" = true) (k23 : PySem.W.keepIn K (.ref f23) = true)
    (a24 : PySem.W.nsIn K mainGlobals "_law_spare" = some (some (.ref f24))) (l24 : K.lookup f24 = some ⟨oc24, od24, .func (PySem.W.fnOf "_law_spare" "_law_spare" (defArgs s_spare) (defBody s_spare) (defScope s_spare) .none kV24 dc24 pm24 an24 cd24 ct24), sl24⟩) (c24 : PySem.W.codeIn K cd24 "_law_spare" = true) (k24 : PySem.W.keepIn K (.ref f24) = true)
    (a25 : PySem.W.nsIn K mainGlobals "_law_right" = some (some (.ref f25))) (l25 : K.lookup f25 = some ⟨oc25, od25, .func (PySem.W.fnOf "_law_right" "_law_right" (defArgs s_right) (defBody s_right) (defScope s_right) .none kV25 dc25 pm25 an25 cd25 ct25), sl25⟩) (c25 : PySem.W.codeIn K cd25 "_law_right" = true) (k25 : PySem.W.keepIn K (.ref f25) = true)
    (a26 : PySem.W.nsIn K mainGlobals "law" = some (some (.ref f26))) (l26 : K.lookup f26 = some ⟨oc26, od26, .func (PySem.W.fnOf "law" "law" (defArgs s_law) (defBody s_law) (defScope s_law) .none kV26 dc26 pm26 an26 cd26 ct26), sl26⟩) (c26 : PySem.W.codeIn K cd26 "law" = true) (k26 : PySem.W.keepIn K (.ref f26) = true)
    (aC : PySem.W.nsIn K mainGlobals "Stakes" = some (some (.ref C)))
    (aM1 : PySem.W.findIn K (.ref C) "changes" = some (some (.ref fM1))) (iM1 : PySem.W.isFn K (.ref fM1) = true) (lM1 : K.lookup fM1 = some ⟨ocM1, odM1, .func (PySem.W.fnOf "changes" "Stakes.changes" (defArgs schanges) (defBody schanges) (defScope schanges) .none kVM1 dcM1 pmM1 anM1 cdM1 ctM1), slM1⟩) (cM1 : PySem.W.codeIn K cdM1 "Stakes.changes" = true) (kM1 : PySem.W.keepIn K (.ref fM1) = true)
    (aM2 : PySem.W.findIn K (.ref C) "stake" = some (some (.ref fM2))) (iM2 : PySem.W.isFn K (.ref fM2) = true) (lM2 : K.lookup fM2 = some ⟨ocM2, odM2, .func (PySem.W.fnOf "stake" "Stakes.stake" (defArgs sstake) (defBody sstake) (defScope sstake) .none kVM2 dcM2 pmM2 anM2 cdM2 ctM2), slM2⟩) (cM2 : PySem.W.codeIn K cdM2 "Stakes.stake" = true) (kM2 : PySem.W.keepIn K (.ref fM2) = true)
    (aM3 : PySem.W.findIn K (.ref C) "sorts" = some (some (.ref fM3))) (iM3 : PySem.W.isFn K (.ref fM3) = true) (lM3 : K.lookup fM3 = some ⟨ocM3, odM3, .func (PySem.W.fnOf "sorts" "Stakes.sorts" (defArgs ssorts) (defBody ssorts) (defScope ssorts) .none kVM3 dcM3 pmM3 anM3 cdM3 ctM3), slM3⟩) (cM3 : PySem.W.codeIn K cdM3 "Stakes.sorts" = true) (kM3 : PySem.W.keepIn K (.ref fM3) = true)
    (aI : PySem.W.findIn K (.ref C) "__init__" = some (some (.ref fI))) (iI : PySem.W.isFn K (.ref fI) = true) (lI : K.lookup fI = some ⟨ocI, odI, .func (PySem.W.fnOf "__init__" "Stakes.__init__" (defArgs sinit) (defBody sinit) (defScope sinit) (.ref TD) kVI dcI pmI anI cdI ctI), slI⟩) (cI : PySem.W.codeIn K cdI "Stakes.__init__" = true) (kI : PySem.W.keepIn K (.ref fI) = true)
    (lT : K.lookup TD = some ⟨ocT, odT, .seq #[Value.none] nT, slT⟩)
    (pg : PySem.W.plainGet K C Str.empty = true) (hd : PySem.W.hasDictIn K C = true) (po : PySem.W.plainOver K C = true) (sa : PySem.W.findIn K (.ref C) "__setattr__" = some (some (.builtin "object.__setattr__"))) (mk : PySem.W.makesIn K C = true) (kc : PySem.W.keepIn K (.ref C) = true) (nR : PySem.W.findIn K (.ref C) "rows" = some none)
    (zL : PySem.W.nsIn K mainGlobals "LETTERS" = some (some (.str lets tL)))
    (z1 : PySem.W.nsIn K mainGlobals "len" = some none) (z2 : PySem.W.nsIn K mainGlobals "sum" = some none) (z3 : PySem.W.nsIn K mainGlobals "abs" = some none) (z4 : PySem.W.nsIn K mainGlobals "all" = some none) (z5 : PySem.W.nsIn K mainGlobals "any" = some none) (z6 : PySem.W.nsIn K mainGlobals "min" = some none) (z7 : PySem.W.nsIn K mainGlobals "max" = some none) (z8 : PySem.W.nsIn K mainGlobals "sorted" = some none) (z9 : PySem.W.nsIn K mainGlobals "range" = some none) (z10 : PySem.W.nsIn K mainGlobals "enumerate" = some none) (z11 : PySem.W.nsIn K mainGlobals "zip" = some none) (z12 : PySem.W.nsIn K mainGlobals "isinstance" = some none) (z13 : PySem.W.nsIn K mainGlobals "tuple" = some none) (z14 : PySem.W.nsIn K mainGlobals "list" = some none) (z15 : PySem.W.nsIn K mainGlobals "int" = some none) (z16 : PySem.W.nsIn K mainGlobals "bool" = some none) (z17 : PySem.W.nsIn K mainGlobals "set" = some none) (z18 : PySem.W.nsIn K mainGlobals "repr" = some none) (z19 : PySem.W.nsIn K mainGlobals "str" = some none) (z20 : PySem.W.nsIn K mainGlobals "dict" = some none) (z21 : PySem.W.nsIn K mainGlobals "reversed" = some none)
    : ∃ fd : FuncData, (∀ (s : Shared) (v : Value), BindsTo s fd ⟨[v], []⟩ [("_law_script", v)]) ∧ ∀ base : Heap, K.In base → base.Ns mainGlobals mg → FnG l.prog w K mg base CX0 8 fa fd ["_law_script"] (spLaw K) := by
  have e := hfa.symm.trans (PySem.W.mg_of X G a26)
  cases e
  have T : Top mg := ⟨⟨PySem.W.mg_none_of X G z1, PySem.W.mg_none_of X G z2, PySem.W.mg_none_of X G z3, PySem.W.mg_none_of X G z4, PySem.W.mg_none_of X G z5, PySem.W.mg_none_of X G z6, PySem.W.mg_none_of X G z7, PySem.W.mg_none_of X G z8, PySem.W.mg_none_of X G z9, PySem.W.mg_none_of X G z10, PySem.W.mg_none_of X G z11, PySem.W.mg_none_of X G z12, PySem.W.mg_none_of X G z13, PySem.W.mg_none_of X G z14, PySem.W.mg_none_of X G z15, PySem.W.mg_none_of X G z16, PySem.W.mg_none_of X G z17, PySem.W.mg_none_of X G z18, PySem.W.mg_none_of X G z19, PySem.W.mg_none_of X G z20, PySem.W.mg_none_of X G z21⟩, ⟨_, PySem.W.mg_of X G zL, ⟨tL, rfl⟩⟩⟩
  have F1 := fun_mk (st := sTake) l1 c1 k1
  have b1 := F1.binds (ps := ["_law_purse_here", "_law_many"]) fun _ _ _ _ _ _ us hl => match us, hl with | [_, _], _ => rfl
  have F2 := fun_mk (st := sCell) l2 c2 k2
  have b2 := F2.binds (ps := ["_law_script", "_law_k"]) fun _ _ _ _ _ _ us hl => match us, hl with | [_, _], _ => rfl
  have F3 := fun_mk (st := sPurse) l3 c3 k3
  have b3 := F3.binds (ps := ["_law_cell_here"]) fun _ _ _ _ _ _ us hl => match us, hl with | [_], _ => rfl
  have F4 := fun_mk (st := sNum) l4 c4 k4
  have b4 := F4.binds (ps := ["_law_thing"]) fun _ _ _ _ _ _ us hl => match us, hl with | [_], _ => rfl
  have F5 := fun_mk (st := s_is_whole) l5 c5 k5
  have b5 := F5.binds (ps := ["thing", "least", "greatest"]) fun _ _ _ _ _ _ us hl => match us, hl with | [_, _, _], _ => rfl
  have F6 := fun_mk (st := s_is_name) l6 c6 k6
  have b6 := F6.binds (ps := ["thing"]) fun _ _ _ _ _ _ us hl => match us, hl with | [_], _ => rfl
  have F7 := fun_mk (st := s_is_day) l7 c7 k7
  have b7 := F7.binds (ps := ["thing"]) fun _ _ _ _ _ _ us hl => match us, hl with | [_], _ => rfl
  have F8 := fun_mk (st := s_is_amount) l8 c8 k8
  have b8 := F8.binds (ps := ["thing"]) fun _ _ _ _ _ _ us hl => match us, hl with | [_], _ => rfl
  have F9 := fun_mk (st := s_is_row) l9 c9 k9
  have b9 := F9.binds (ps := ["thing"]) fun _ _ _ _ _ _ us hl => match us, hl with | [_], _ => rfl
  have F10 := fun_mk (st := s_check_name) l10 c10 k10
  have b10 := F10.binds (ps := ["name"]) fun _ _ _ _ _ _ us hl => match us, hl with | [_], _ => rfl
  have F11 := fun_mk (st := s_check_day) l11 c11 k11
  have b11 := F11.binds (ps := ["day"]) fun _ _ _ _ _ _ us hl => match us, hl with | [_], _ => rfl
  have F12 := fun_mk (st := s_check_row) l12 c12 k12
  have b12 := F12.binds (ps := ["rows"]) fun _ _ _ _ _ _ us hl => match us, hl with | [_], _ => rfl
  have F13 := fun_mk (st := s_is_stake_row) l13 c13 k13
  have b13 := F13.binds (ps := ["thing"]) fun _ _ _ _ _ _ us hl => match us, hl with | [_], _ => rfl
  have F14 := fun_mk (st := s_amounts_of) l14 c14 k14
  have b14 := F14.binds (ps := ["rows"]) fun _ _ _ _ _ _ us hl => match us, hl with | [_], _ => rfl
  have F15 := fun_mk (st := s_changes_of) l15 c15 k15
  have b15 := F15.binds (ps := ["amounts"]) fun _ _ _ _ _ _ us hl => match us, hl with | [_], _ => rfl
  have F16 := fun_mk (st := s_word) l16 c16 k16
  have b16 := F16.binds (ps := ["_law_purse_here", "_law_used"]) fun _ _ _ _ _ _ us hl => match us, hl with | [_, _], _ => rfl
  have F17 := fun_mk (st := s_words) l17 c17 k17
  have b17 := F17.binds (ps := ["_law_purse_here", "_law_many"]) fun _ _ _ _ _ _ us hl => match us, hl with | [_, _], _ => rfl
  have F18 := fun_mk (st := s_stake_rows) l18 c18 k18
  have b18 := F18.binds (ps := ["_law_purse_here", "_law_kinds", "_law_many"]) fun _ _ _ _ _ _ us hl => match us, hl with | [_, _, _], _ => rfl
  have F19 := fun_mk (st := s_lstake) l19 c19 k19
  have b19 := F19.binds (ps := ["_law_rows", "_law_kind", "_law_when"]) fun _ _ _ _ _ _ us hl => match us, hl with | [_, _, _], _ => rfl
  have F20 := fun_mk (st := s_lchanges) l20 c20 k20
  have b20 := F20.binds (ps := ["_law_rows", "_law_kind"]) fun _ _ _ _ _ _ us hl => match us, hl with | [_, _], _ => rfl
  have F21 := fun_mk (st := s_some) l21 c21 k21
  have b21 := F21.binds (ps := ["_law_purse_here"]) fun _ _ _ _ _ _ us hl => match us, hl with | [_], _ => rfl
  have F22 := fun_mk (st := s_told) l22 c22 k22
  have b22 := F22.binds (ps := ["_law_stakes", "_law_rows", "_law_days"]) fun _ _ _ _ _ _ us hl => match us, hl with | [_, _, _], _ => rfl
  have F23 := fun_mk (st := s_days) l23 c23 k23
  have b23 := F23.binds (ps := ["_law_rows"]) fun _ _ _ _ _ _ us hl => match us, hl with | [_], _ => rfl
  have F24 := fun_mk (st := s_spare) l24 c24 k24
  have b24 := F24.binds (ps := ["_law_rows"]) fun _ _ _ _ _ _ us hl => match us, hl with | [_], _ => rfl
  have F25 := fun_mk (st := s_right) l25 c25 k25
  have b25 := F25.binds (ps := ["_law_purse_here"]) fun _ _ _ _ _ _ us hl => match us, hl with | [_], _ => rfl
  have F26 := fun_mk (st := s_law) l26 c26 k26
  have b26 := F26.binds (ps := ["_law_script"]) fun _ _ _ _ _ _ us hl => match us, hl with | [_], _ => rfl
  have FM1 := fun_mk (st := schanges) lM1 cM1 kM1
  have bM1 := FM1.binds (ps := ["self", "sort"]) fun _ _ _ _ _ _ us hl => match us, hl with | [_, _], _ => rfl
  have FM2 := fun_mk (st := sstake) lM2 cM2 kM2
  have bM2 := FM2.binds (ps := ["self", "sort", "day"]) fun _ _ _ _ _ _ us hl => match us, hl with | [_, _, _], _ => rfl
  have FM3 := fun_mk (st := ssorts) lM3 cM3 kM3
  have bM3 := FM3.binds (ps := ["self"]) fun _ _ _ _ _ _ us hl => match us, hl with | [_], _ => rfl
  have CL : ClsS K C := ⟨⟨pg, hd, po, sa⟩, nR⟩
  have FI : FunD K "__init__" "Stakes.__init__" (defArgs sinit) (defBody sinit) (defScope sinit) [.non] [] fI _ := ⟨⟨ocI, odI, .ref TD, kVI, dcI, pmI, anI, cdI, ctI, slI, rfl, lI, cI, .inr ⟨by simp, TD, _, [Value.none], nT, rfl, lT, rfl, .cons rfl .nil⟩, .inl rfl⟩, kI⟩
  have bI0 : Binds K (PySem.W.fnOf "__init__" "Stakes.__init__" (defArgs sinit) (defBody sinit) (defScope sinit) (.ref TD) kVI dcI pmI anI cdI ctI) ["self", "rows"] [] := fun s us X hl => by
    refine BindsTo.of_looks fun M => ?_
    have h1 : us.length = 2 := by simpa using hl
    match us, h1 with
    | [u, v], _ => exact looks_items X lT rfl (.of_pure rfl)
  have bI1 : Binds K (PySem.W.fnOf "__init__" "Stakes.__init__" (defArgs sinit) (defBody sinit) (defScope sinit) (.ref TD) kVI dcI pmI anI cdI ctI) ["self", "rows"] [Value.none] := fun s us X hl => by
    refine BindsTo.of_looks fun M => ?_
    have h1 : us.length = 1 := by simpa using hl
    match us, h1 with
    | [u], _ => exact looks_items X lT rfl (.of_pure rfl)
  refine ⟨PySem.W.fnOf "law" "law" (defArgs s_law) (defBody s_law) (defScope s_law) .none kV26 dc26 pm26 an26 cd26 ct26, fun s v => .of_eq rfl, fun base _ _ => ?_⟩
  have dT : Def l.prog w K mg base "_law_take" 1 f1 _ _ spTake := ⟨ok_take F1, PySem.W.mg_of X G a1, k1, b1⟩
  have dCell : Def l.prog w K mg base "_law_cell" 1 f2 _ _ (spCell K) := ⟨ok_cell F2 T, PySem.W.mg_of X G a2, k2, b2⟩
  have dPurse : Def l.prog w K mg base "_law_purse" 1 f3 _ _ spPurse := ⟨ok_purse F3 T, PySem.W.mg_of X G a3, k3, b3⟩
  have dNum : Def l.prog w K mg base "_law_number" 1 f4 _ _ spNum := ⟨ok_num F4 T, PySem.W.mg_of X G a4, k4, b4⟩
  have dWhole : Def l.prog w K mg base "is_whole" 1 f5 _ _ spWhole := ⟨ok_whole F5 T, PySem.W.mg_of X G a5, k5, b5⟩
  have dName : Def l.prog w K mg base "is_name" 1 f6 _ _ spName := ⟨ok_name F6 T, PySem.W.mg_of X G a6, k6, b6⟩
  have dDay : Def l.prog w K mg base "is_day" 2 f7 _ _ spDay := ⟨ok_Day F7 dWhole, PySem.W.mg_of X G a7, k7, b7⟩
  have dAmount : Def l.prog w K mg base "is_amount" 2 f8 _ _ spDay := ⟨ok_Amount F8 dWhole, PySem.W.mg_of X G a8, k8, b8⟩
  have dIsRow : Def l.prog w K mg base "is_row" 1 f9 _ _ spIsRow := ⟨ok_isRow F9 T, PySem.W.mg_of X G a9, k9, b9⟩
  have dCName : Def l.prog w K mg base "check_name" 2 f10 _ _ spCName := ⟨ok_CName F10 dName, PySem.W.mg_of X G a10, k10, b10⟩
  have dCDay : Def l.prog w K mg base "check_day" 3 f11 _ _ spCDay := ⟨ok_CDay F11 dDay, PySem.W.mg_of X G a11, k11, b11⟩
  have dCRow : Def l.prog w K mg base "check_row" 2 f12 _ _ spCRow := ⟨ok_CRow F12 dIsRow, PySem.W.mg_of X G a12, k12, b12⟩
  have dSRow : Def l.prog w K mg base "is_stake_row" 3 f13 _ _ spSRow := ⟨ok_sRow F13 T dName dDay dAmount, PySem.W.mg_of X G a13, k13, b13⟩
  have dAmts : Def l.prog w K mg base "amounts_of" 4 f14 _ _ spAmts := ⟨ok_amts F14 T dCRow dSRow, PySem.W.mg_of X G a14, k14, b14⟩
  have dChgs : Def l.prog w K mg base "changes_of" 4 f15 _ _ spChgs := ⟨ok_chgs F15 T, PySem.W.mg_of X G a15, k15, b15⟩
  have dWord : Def l.prog w K mg base "_law_word" 2 f16 _ _ spWord := ⟨ok_word F16 T dT, PySem.W.mg_of X G a16, k16, b16⟩
  have dWords : Def l.prog w K mg base "_law_words" 3 f17 _ _ spWords := ⟨ok_words F17 T dWord, PySem.W.mg_of X G a17, k17, b17⟩
  have dSRows : Def l.prog w K mg base "_law_stake_rows" 2 f18 _ _ spSRows := ⟨ok_sRows F18 T dT, PySem.W.mg_of X G a18, k18, b18⟩
  have dStake : Def l.prog w K mg base "_law_stake" 1 f19 _ _ spStk := ⟨ok_lstake F19 T, PySem.W.mg_of X G a19, k19, b19⟩
  have dLChg : Def l.prog w K mg base "_law_changes" 2 f20 _ _ spLChg := ⟨ok_lchanges F20 T dStake, PySem.W.mg_of X G a20, k20, b20⟩
  have dSome : Def l.prog w K mg base "_law_some_rows" 4 f21 _ _ spSome := ⟨ok_some F21 T dT dWords dSRows, PySem.W.mg_of X G a21, k21, b21⟩
  have dDays : Def l.prog w K mg base "_law_days_beside" 1 f23 _ _ spDays := ⟨ok_days F23 T, PySem.W.mg_of X G a23, k23, b23⟩
  have dSpare : Def l.prog w K mg base "_law_spare" 1 f24 _ _ spSpare := ⟨ok_spare F24 T, PySem.W.mg_of X G a24, k24, b24⟩
  have mChg : DefM l.prog w K mg base C "changes" 3 fM1 _ _ (spChanges C) := ⟨ok_changes FM1 T CL dCName, ⟨aM1, iM1, kM1⟩, bM1⟩
  have mStk : DefM l.prog w K mg base C "stake" 4 fM2 _ _ (spStake C) := ⟨ok_stake FM2 T CL dCName dCDay mChg, ⟨aM2, iM2, kM2⟩, bM2⟩
  have mSrt : DefM l.prog w K mg base C "sorts" 1 fM3 _ _ (spSorts C) := ⟨ok_sorts FM3 T CL, ⟨aM3, iM3, kM3⟩, bM3⟩
  have mkS : MakeS l.prog w K mg base C fI _ := ⟨⟨mk, aI, iI, kc⟩, ok_init FI T CL dAmts dChgs, PySem.W.mg_of X G aC, bI0, bI1⟩
  have dTold : DefG l.prog w K mg base "_law_told_right" 5 f22 _ _ (spTold C) := ⟨ok_told F22 T CL mChg mStk mSrt dStake dLChg dSpare dNum, PySem.W.mg_of X G a22, k22, b22⟩
  have dRight : DefG l.prog w K mg base "_law_right" 7 f25 _ _ spRight := ⟨ok_right F25 T CL mChg mStk mSrt mkS dSome dT dDays dSpare dTold, PySem.W.mg_of X G a25, k25, b25⟩
  exact ok_law F26 T dCell dPurse dRight
theorem walk {l : PySem.W.OpenLaw} {q : Program} {loose : List Str} {XP : (Str → Option Value) → Heap → Prop} {YP : World → Heap → Prop} {d : DefRec} {K : Params → PySem.W.Frag} (hn : l.most = some 63) (hdf : d.params.defaults = [])
    (hY : ∀ (w : World) (h : Heap), YP w h → (K w.params).In h)
    (F : ∀ (w : World) (mg : Str → Option Value) (fa : Addr) (h : Heap), (K w.params).In h → h.Ns mainGlobals mg → mg d.name = some (.ref fa) →
      ∃ fd : FuncData, (∀ (s : Shared) (u : Value), BindsTo s fd ⟨[u], []⟩ [("_law_script", u)]) ∧ ∀ base : Heap, (K w.params).In base → base.Ns mainGlobals mg → FnG l.prog w (K w.params) mg base CX0 8 fa fd ["_law_script"] (spLaw (K w.params))) :
    PySem.W.WalkO q loose XP YP l.row.toRowW d [] (fun f vs => PySem.call f vs) :=
  walk_ofG (n := 63) (k := 8) (x := "_law_script") (sp := fun w => spLaw (K w.params)) hn (by decide) hdf ⟨rfl, by decide, by decide⟩ hY F fun _ _ a ns hl hS => ⟨a, ns, rfl, hS, hl, fun _ => rfl⟩
end Sk
open PySem PySem.W PyProof.Rows
set_option maxRecDepth 100000 in
set_option maxHeartbeats 0 in
theorem PySem.Challenge.cw_stakecrates_k02_stakes_by_days_holds : PySem.Challenge.rw_stakecrates_k02_stakes_by_days.Holds := by
  w_on; o_law; k_head; (case hw => w_witness2)
  k_fill
  refine Sk.walk (l := PySem.Challenge.rw_stakecrates_k02_stakes_by_days) rfl rfl (fun w h Y => PySem.W.kIn_of Y) ?F
  case F =>
    intro w mg fa h KX G hmg
    refine' Sk.all_mk KX G hmg ?a1 ?l1 ?c1 ?k1 ?a2 ?l2 ?c2 ?k2 ?a3 ?l3 ?c3 ?k3 ?a4 ?l4 ?c4 ?k4 ?a5 ?l5 ?c5 ?k5 ?a6 ?l6 ?c6 ?k6 ?a7 ?l7 ?c7 ?k7 ?a8 ?l8 ?c8 ?k8 ?a9 ?l9 ?c9 ?k9 ?a10 ?l10 ?c10 ?k10 ?a11 ?l11 ?c11 ?k11 ?a12 ?l12 ?c12 ?k12 ?a13 ?l13 ?c13 ?k13 ?a14 ?l14 ?c14 ?k14 ?a15 ?l15 ?c15 ?k15 ?a16 ?l16 ?c16 ?k16 ?a17 ?l17 ?c17 ?k17 ?a18 ?l18 ?c18 ?k18 ?a19 ?l19 ?c19 ?k19 ?a20 ?l20 ?c20 ?k20 ?a21 ?l21 ?c21 ?k21 ?a22 ?l22 ?c22 ?k22 ?a23 ?l23 ?c23 ?k23 ?a24 ?l24 ?c24 ?k24 ?a25 ?l25 ?c25 ?k25 ?a26 ?l26 ?c26 ?k26 ?aC ?aM1 ?iM1 ?lM1 ?cM1 ?kM1 ?aM2 ?iM2 ?lM2 ?cM2 ?kM2 ?aM3 ?iM3 ?lM3 ?cM3 ?kM3 ?aI ?iI ?lI ?cI ?kI ?lT ?pg ?hd ?po ?sa ?mk ?kc ?nR ?zL ?z1 ?z2 ?z3 ?z4 ?z5 ?z6 ?z7 ?z8 ?z9 ?z10 ?z11 ?z12 ?z13 ?z14 ?z15 ?z16 ?z17 ?z18 ?z19 ?z20 ?z21
    (case a1 => k_is); (case l1 => k_is); (case c1 => k_is); (case k1 => k_is)
    (case a2 => k_is); (case l2 => k_is); (case c2 => k_is); (case k2 => k_is)
    (case a3 => k_is); (case l3 => k_is); (case c3 => k_is); (case k3 => k_is)
    (case a4 => k_is); (case l4 => k_is); (case c4 => k_is); (case k4 => k_is)
    (case a5 => k_is); (case l5 => k_is); (case c5 => k_is); (case k5 => k_is)
    (case a6 => k_is); (case l6 => k_is); (case c6 => k_is); (case k6 => k_is)
    (case a7 => k_is); (case l7 => k_is); (case c7 => k_is); (case k7 => k_is)
    (case a8 => k_is); (case l8 => k_is); (case c8 => k_is); (case k8 => k_is)
    (case a9 => k_is); (case l9 => k_is); (case c9 => k_is); (case k9 => k_is)
    (case a10 => k_is); (case l10 => k_is); (case c10 => k_is); (case k10 => k_is)
    (case a11 => k_is); (case l11 => k_is); (case c11 => k_is); (case k11 => k_is)
    (case a12 => k_is); (case l12 => k_is); (case c12 => k_is); (case k12 => k_is)
    (case a13 => k_is); (case l13 => k_is); (case c13 => k_is); (case k13 => k_is)
    (case a14 => k_is); (case l14 => k_is); (case c14 => k_is); (case k14 => k_is)
    (case a15 => k_is); (case l15 => k_is); (case c15 => k_is); (case k15 => k_is)
    (case a16 => k_is); (case l16 => k_is); (case c16 => k_is); (case k16 => k_is)
    (case a17 => k_is); (case l17 => k_is); (case c17 => k_is); (case k17 => k_is)
    (case a18 => k_is); (case l18 => k_is); (case c18 => k_is); (case k18 => k_is)
    (case a19 => k_is); (case l19 => k_is); (case c19 => k_is); (case k19 => k_is)
    (case a20 => k_is); (case l20 => k_is); (case c20 => k_is); (case k20 => k_is)
    (case a21 => k_is); (case l21 => k_is); (case c21 => k_is); (case k21 => k_is)
    (case a22 => k_is); (case l22 => k_is); (case c22 => k_is); (case k22 => k_is)
    (case a23 => k_is); (case l23 => k_is); (case c23 => k_is); (case k23 => k_is)
    (case a24 => k_is); (case l24 => k_is); (case c24 => k_is); (case k24 => k_is)
    (case a25 => k_is); (case l25 => k_is); (case c25 => k_is); (case k25 => k_is)
    (case a26 => k_is); (case l26 => k_is); (case c26 => k_is); (case k26 => k_is)
    (case aC => k_is); (case aM1 => k_is); (case iM1 => k_is); (case lM1 => k_is)
    (case cM1 => k_is); (case kM1 => k_is); (case aM2 => k_is); (case iM2 => k_is)
    (case lM2 => k_is); (case cM2 => k_is); (case kM2 => k_is); (case aM3 => k_is)
    (case iM3 => k_is); (case lM3 => k_is); (case cM3 => k_is); (case kM3 => k_is)
    (case aI => k_is); (case iI => k_is); (case lI => k_is); (case cI => k_is)
    (case kI => k_is); (case lT => k_is); (case pg => k_is); (case hd => k_is)
    (case po => k_is); (case sa => k_is); (case mk => k_is); (case kc => k_is)
    (case nR => k_is); (case zL => k_is); (case z1 => k_is); (case z2 => k_is)
    (case z3 => k_is); (case z4 => k_is); (case z5 => k_is); (case z6 => k_is)
    (case z7 => k_is); (case z8 => k_is); (case z9 => k_is); (case z10 => k_is)
    (case z11 => k_is); (case z12 => k_is); (case z13 => k_is); (case z14 => k_is)
    (case z15 => k_is); (case z16 => k_is); (case z17 => k_is); (case z18 => k_is)
    (case z19 => k_is); (case z20 => k_is); (case z21 => k_is)
end
