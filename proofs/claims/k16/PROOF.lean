import PyProof.Rows.All
import Wide.All
import OpenK.AllK
import Wide.FinOn
import HandS.ForMost
import HandS.IsInst
import HandS.Walk
import HandS.Style
import HandS.SortRule
import HandS.TupSets
import HandS.TupAny
import HandS.TupLe
import KE.KRevSl
import HandS.Defaults
import HandS.Zip
import KE.GoesMore
import KE.GoesEnum
import HandS.Conv
import HandS.More
import KE.SortData
import KE.DataMinMax
import PyProof.ReprRoads
import HandS.Sort
import PySem.Challenge.RW_stakecrates_k16_what_dealings_are
set_option Elab.async false
set_option linter.all false
set_option maxRecDepth 100000
set_option maxHeartbeats 4000000
section
/-! My own steps: one lemma a reading. -/
namespace Sk
open PySem L2
theorem kb_int_int : kitB "int" "int" = some true := by decide +kernel
theorem kb_int_bool : kitB "int" "bool" = some false := by decide +kernel
theorem kb_int_str : kitB "int" "str" = some false := by decide +kernel
theorem kb_int_tuple : kitB "int" "tuple" = some false := by decide +kernel
theorem kb_int_list : kitB "int" "list" = some false := by decide +kernel
theorem kb_bool_int : kitB "bool" "int" = some true := by decide +kernel
theorem kb_bool_bool : kitB "bool" "bool" = some true := by decide +kernel
theorem kb_bool_str : kitB "bool" "str" = some false := by decide +kernel
theorem kb_bool_tuple : kitB "bool" "tuple" = some false := by decide +kernel
theorem kb_bool_list : kitB "bool" "list" = some false := by decide +kernel
theorem kb_str_int : kitB "str" "int" = some false := by decide +kernel
theorem kb_str_bool : kitB "str" "bool" = some false := by decide +kernel
theorem kb_str_str : kitB "str" "str" = some true := by decide +kernel
theorem kb_str_tuple : kitB "str" "tuple" = some false := by decide +kernel
theorem kb_str_list : kitB "str" "list" = some false := by decide +kernel
theorem kb_tuple_int : kitB "tuple" "int" = some false := by decide +kernel
theorem kb_tuple_bool : kitB "tuple" "bool" = some false := by decide +kernel
theorem kb_tuple_str : kitB "tuple" "str" = some false := by decide +kernel
theorem kb_tuple_tuple : kitB "tuple" "tuple" = some true := by decide +kernel
theorem kb_tuple_list : kitB "tuple" "list" = some false := by decide +kernel
theorem kb_list_int : kitB "list" "int" = some false := by decide +kernel
theorem kb_list_bool : kitB "list" "bool" = some false := by decide +kernel
theorem kb_list_str : kitB "list" "str" = some false := by decide +kernel
theorem kb_list_tuple : kitB "list" "tuple" = some false := by decide +kernel
theorem kb_list_list : kitB "list" "list" = some true := by decide +kernel
theorem kb_dict_int : kitB "dict" "int" = some false := by decide +kernel
theorem kb_dict_bool : kitB "dict" "bool" = some false := by decide +kernel
theorem kb_dict_str : kitB "dict" "str" = some false := by decide +kernel
theorem kb_dict_tuple : kitB "dict" "tuple" = some false := by decide +kernel
theorem kb_dict_list : kitB "dict" "list" = some false := by decide +kernel
theorem kb_NoneType_int : kitB "NoneType" "int" = some false := by decide +kernel
theorem kb_NoneType_bool : kitB "NoneType" "bool" = some false := by decide +kernel
theorem kb_NoneType_str : kitB "NoneType" "str" = some false := by decide +kernel
theorem kb_NoneType_tuple : kitB "NoneType" "tuple" = some false := by decide +kernel
theorem kb_NoneType_list : kitB "NoneType" "list" = some false := by decide +kernel
/-- all but what stands at p is as it was -/
def But (p : Addr) (H H' : Hp) : Prop := ∀ b, b ≠ p → H' b = H b
theorem But.upd {H : Hp} {p : Addr} {o : HO} : But p H (upd H p o) := fun b hb => upd_ne hb
theorem But.get {H H' : Hp} {p b : Addr} {o : HO} (h : But p H H') (n : b ≠ p) (e : H b = some o) : H' b = some o := (h b n).trans e
theorem But.getN {H H' : Hp} {p b : Addr} (h : But p H H') (n : b ≠ p) (e : H' b = none) : H b = none := (h b n).symm.trans e
theorem But.trans {H H1 H2 : Hp} {p : Addr} (a : But p H H1) (b : But p H1 H2) : But p H H2 := fun c hc => (b c hc).trans (a c hc)
theorem But.refl {H : Hp} {p : Addr} : But p H H := fun _ _ => rfl
theorem upd_none {H : Hp} {p q : Addr} {o : HO} (h : upd H p o q = none) : q ≠ p ∧ H q = none := by
  by_cases e : q = p
  · rw [e, upd_same] at h; cases h
  · rw [upd_ne e] at h; exact ⟨e, h⟩
theorem upd_get {H : Hp} {p q : Addr} {o u : HO} (n : q ≠ p) (e : H q = some u) : upd H p o q = some u := (upd_ne n).trans e
theorem ne_kind {H : Hp} {p q : Addr} {o u : HO} (a : H p = some o) (b : H q = some u) (d : o ≠ u) : p ≠ q := fun e => by
  rw [e, b] at a; exact d (Option.some.inj a).symm
theorem len_ok {xs : List V} (h : Nat.ble xs.length 1000 = true) : xs.length ≤ sizeLine := Nat.le_trans (Nat.le_of_ble_eq_true h) (by decide)
theorem ne_lt {xs ys : List V} : HO.lst xs ≠ HO.tup ys := fun e => by cases e
theorem ne_tl {xs ys : List V} : HO.tup xs ≠ HO.lst ys := fun e => by cases e
section
variable {K : PySem.W.Frag} {σ : St} {H : Hp} {Q : VK} {D : Ends}
theorem rd_var {i : Nat} {v : V} (h : σ[i]? = some (some v)) (k : Q v H) : tVar i σ H Q := ⟨v, h, k⟩
theorem rd_c {v : V} (k : Q v H) : tC v σ H Q := k
theorem rd_op {r : R2} {ta tb : TE} (k : ta σ H fun x H1 => tb σ H1 fun y H2 => r x y H2 Q) : tOp r ta tb σ H Q := k
theorem rd_un {r : V → Hp → VK → Prop} {ta : TE} (k : ta σ H fun x H1 => r x H1 Q) : tUn r ta σ H Q := k
theorem rd_I0 {g : Int → Int → V} {i j : Int} (k : Q (g i j) H) : rI0 g (.int i) (.int j) H Q := ⟨i, j, rfl, rfl, k⟩
theorem rd_I {C : Int → Int → Prop} {g : Int → Int → V} {i j : Int} (c : C i j) (k : Q (g i j) H) : rI C g (.int i) (.int j) H Q := ⟨i, j, rfl, rfl, c, k⟩
theorem rd_U {g : Int → V} {i : Int} (k : Q (g i) H) : rU g (.int i) H Q := ⟨i, rfl, k⟩
theorem rd_eqI {i j : Int} (k : Q (.bl (decide (i = j))) H) : rEq (.int i) (.int j) H Q := ⟨rfl, by
  have e : decide (V.int i = V.int j) = decide (i = j) := by simp
  rw [e]; exact k⟩
theorem rd_neI {i j : Int} (k : Q (.bl (!decide (i = j))) H) : rNe (.int i) (.int j) H Q := ⟨rfl, by
  have e : decide (V.int i = V.int j) = decide (i = j) := by simp
  rw [e]; exact k⟩
theorem rd_ixL {p : Addr} {xs : List V} {i : Int} {v : V} (h : H p = some (.lst xs)) (e : atI xs i = some v) (k : Q v H) : rIxL K (.ref p) (.int i) H Q := ⟨p, xs, i, v, rfl, rfl, SqL.of h, e, k⟩
theorem rd_ixT {p : Addr} {xs : List V} {i : Int} {v : V} (h : H p = some (.tup xs)) (e : atI xs i = some v) (k : Q v H) : rIxT K (.ref p) (.int i) H Q := ⟨p, xs, i, v, rfl, rfl, SqT.of h, e, k⟩
theorem rd_setL {p : Addr} {xs : List V} {i : Int} {j : Nat} {v : V} {R : Hp → Prop} (h : H p = some (.lst xs)) (e : ixN xs.length i = some j) (k : R (upd H p (.lst (xs.set j v)))) : rSetL (.ref p) (.int i) v H R := ⟨p, xs, i, j, rfl, rfl, h, e, k⟩
theorem rd_seq {t u : TS} (k : t { D with nx := u D } σ H) : tSeq t u D σ H := k
theorem rd_asg {te : TE} {g : TG} (k : te σ H fun x H1 => g x σ H1 D.nx) : tAsg te g D σ H := k
theorem rd_gName {i : Nat} {v : V} {R : St → Hp → Prop} (k : R (σ.set i (some v)) H) : gName i v σ H R := k
theorem rd_gSub {to ti : TE} {t : TSet} {v : V} {R : St → Hp → Prop} (k : to σ H fun o H1 => ti σ H1 fun i H2 => t o i v H2 fun H3 => R σ H3) : gSub to ti t v σ H R := k
theorem rd_ret {te : TE} (k : te σ H D.rt) : tRet te D σ H := k
theorem rd_drop {te : TE} (k : te σ H fun _ H1 => D.nx σ H1) : tDrop te D σ H := k
theorem rd_next (k : D.nx σ H) : tNext D σ H := k
theorem rd_ifS {c : TT} {t u : TS} (k : c σ H fun b H1 => if b = true then t D σ H1 else u D σ H1) : tIfS c t u D σ H := k
theorem rd_test {t : TE} {R : Bool → Hp → Prop} (k : t σ H fun x H' => ∃ k, x = .bl k ∧ R k H') : tTest t σ H R := k
theorem rd_bl {b : Bool} {R : Bool → Prop} (k : R b) : ∃ k, V.bl b = .bl k ∧ R k := ⟨b, rfl, k⟩
theorem rd_nil {R : List V → Hp → Prop} (k : R [] H) : tNil σ H R := k
theorem rd_cons {ta : TE} {tr : TA} {R : List V → Hp → Prop} (k : ta σ H fun x H1 => tr σ H1 fun xs H2 => R (x :: xs) H2) : tCons ta tr σ H R := k
theorem rd_tup {t : TA} (k : t σ H fun xs H1 => xs.length ≤ sizeLine ∧ ∀ p, H1 p = none → Q (.ref p) (upd H1 p (.tup xs))) : tTup t σ H Q := k
theorem rd_lst {t : TA} (k : t σ H fun xs H1 => xs.length ≤ sizeLine ∧ ∀ p, H1 p = none → Q (.ref p) (upd H1 p (.lst xs))) : tLst t σ H Q := k
theorem rd_call {sp : Sp} {dvs : List V} {E : XK} {t : TA} (k : t σ H fun vs H1 => sp (vs ++ dvs) H1 Q E) : tCall sp dvs E t σ H Q := k
theorem rd_cb {r : List V → Hp → VK → Prop} {t : TA} (k : t σ H fun vs H1 => r vs H1 Q) : tCB r t σ H Q := k
theorem rd_par {i j : Nat} {ta : TA} (k : ta σ H fun vs H1 => ∃ v w, vs = [v, w] ∧ D.nx ((σ.set i (some v)).set j (some w)) H1) : tPar i j ta D σ H := k
theorem rd_par2 {v w : V} {R : V → V → Prop} (k : R v w) : ∃ v' w', [v, w] = [v', w'] ∧ R v' w' := ⟨v, w, rfl, k⟩
theorem rd_and {t u : TT} {R : Bool → Hp → Prop} (k : t σ H fun c H1 => if c = true then u σ H1 R else R false H1) : tAnd t u σ H R := k
theorem rd_or {t u : TT} {R : Bool → Hp → Prop} (k : t σ H fun c H1 => if c = true then R true H1 else u σ H1 R) : tOr t u σ H R := k
theorem rd_not {t : TT} {R : Bool → Hp → Prop} (k : t σ H fun c H1 => R (!c) H1) : tNot t σ H R := k
theorem rd_andV {ta tb : TE} (k : ta σ H fun x H1 => ∃ c, x = .bl c ∧ if c = true then tb σ H1 Q else Q (.bl false) H1) : tAndV ta tb σ H Q := k
theorem rd_orV {ta tb : TE} (k : ta σ H fun x H1 => ∃ c, x = .bl c ∧ if c = true then Q (.bl true) H1 else tb σ H1 Q) : tOrV ta tb σ H Q := k
theorem rd_notV {ta : TE} (k : ta σ H fun x H1 => ∃ c, x = .bl c ∧ Q (.bl (!c)) H1) : tNotV ta σ H Q := k
theorem rd_if {t : TT} {ta tb : TE} (k : t σ H fun c H1 => if c = true then ta σ H1 Q else tb σ H1 Q) : tIf t ta tb σ H Q := k
theorem rd_append {l : Addr} {xs : List V} {y : V} (h : H l = some (.lst xs)) (n : xs.length < sizeLine) (k : Q .non (upd H l (.lst (xs ++ [y])))) : rAppend (.ref l) [y] H Q := ⟨l, xs, y, rfl, rfl, h, n, k⟩
theorem rd_bmL {r : V → List V → Hp → VK → Prop} {to : TE} {t : TA} (k : to σ H fun x H1 => tyV K "list" x H1 ∧ t σ H1 fun xs H2 => r x xs H2 Q) : tBM K "list" r to t σ H Q := k
theorem rd_cat {l b : Addr} {xs zs : List V} (h : H l = some (.lst xs)) (h' : H b = some (.lst zs)) (n : xs.length + zs.length ≤ sizeLine) (k : ∀ p, H p = none → Q (.ref p) (upd H p (.lst (xs ++ zs)))) : rCat (.ref l) (.ref b) H Q := ⟨l, b, xs, zs, rfl, rfl, h, h', n, k⟩
theorem rd_sum {a : Addr} {ns : List Int} (h : H a = some (.lst (ns.map V.int))) (k : Q (.int ns.sum) H) : rSum K [V.ref a] H Q := ⟨a, ns, rfl, SqL.of h, k⟩
theorem rd_all {a : Addr} {bs : List Bool} (h : H a = some (.lst (bs.map V.bl))) (k : Q (.bl (bs.all id)) H) : rAll K [V.ref a] H Q := ⟨a, bs, rfl, SqL.of h, k⟩
theorem rd_any {a : Addr} {bs : List Bool} (h : H a = some (.lst (bs.map V.bl))) (k : Q (.bl (bs.any id)) H) : rAny K [V.ref a] H Q := ⟨a, bs, rfl, SqL.of h, k⟩
theorem tyL {a : Addr} {xs : List V} (h : H a = some (.lst xs)) : tyV K "list" (.ref a) H := .inl ⟨rfl, _, SqL.of h⟩
end
/-- all but what stands at p stays; more may stand -/
def Ext (p : Addr) (H H' : Hp) : Prop := ∀ b o, b ≠ p → H b = some o → H' b = some o
theorem Ext.refl {H : Hp} {p : Addr} : Ext p H H := fun _ _ _ e => e
theorem Ext.trans {H H1 H2 : Hp} {p : Addr} (a : Ext p H H1) (b : Ext p H1 H2) : Ext p H H2 := fun c o n e => b c o n (a c o n e)
theorem But.ext {H H' : Hp} {p : Addr} (h : But p H H') : Ext p H H' := fun b _ n e => h.get n e
theorem Ext.get {H H' : Hp} {p b : Addr} {o : HO} (h : Ext p H H') (n : b ≠ p) (e : H b = some o) : H' b = some o := h b o n e
theorem Ext.new {H H' : Hp} {p l : Addr} {o : HO} (h : Ext p H H') (n : H' l = none) : Ext p H (L2.upd H' l o) := fun b u nb e => by
  have := h b u nb e
  rw [upd_ne (ne_of_none this n)]; exact this
theorem Ext.own {H H' : Hp} {p l : Addr} {o : HO} (h : Ext p H H') (n : H l = none) : Ext p H (L2.upd H' l o) := fun b u nb e => by
  rw [upd_ne (ne_of_none e n)]; exact h b u nb e
theorem Ext.at_ {H H' : Hp} {p : Addr} {o : HO} (h : Ext p H H') : Ext p H (L2.upd H' p o) := fun b u nb e => by
  rw [upd_ne nb]; exact h b u nb e
theorem Ext.free {H H' : Hp} {p l : Addr} (h : Ext p H H') (n : H' l = none) (hl : l ≠ p) : H l = none := by
  cases e : H l with
  | none => rfl
  | some o => rw [h l o hl e] at n; cases n
theorem Same.ext {H H' : Hp} {p : Addr} (h : L2.Same H H') : Ext p H H' := fun b o _ e => h b o e
theorem same_get {H H' : Hp} {b : Addr} {o : HO} (h : L2.Same H H') (e : H b = some o) : H' b = some o := h b o e
theorem same_new {H H' : Hp} {l : Addr} {o : HO} (h : L2.Same H H') (n : H' l = none) : L2.Same H (L2.upd H' l o) := fun b u e => by
  have := h b u e
  rw [upd_ne (ne_of_none this n)]; exact this
theorem same_own {H H' : Hp} {l : Addr} {o : HO} (h : L2.Same H H') (n : H l = none) : L2.Same H (L2.upd H' l o) := fun b u e => by
  rw [upd_ne (ne_of_none e n)]; exact h b u e
theorem same_free {H H' : Hp} {l : Addr} (h : L2.Same H H') (n : H' l = none) : H l = none := h.free n
/-- tuples stay -/
def TSt (H H' : Hp) : Prop := ∀ t xs, H t = some (.tup xs) → H' t = some (.tup xs)
theorem TSt.refl {H : Hp} : TSt H H := fun _ _ e => e
theorem TSt.trans {H H1 H2 : Hp} (a : TSt H H1) (b : TSt H1 H2) : TSt H H2 := fun t xs e => b t xs (a t xs e)
theorem TSt.new {H : Hp} {l : Addr} {o : HO} (n : H l = none) : TSt H (upd H l o) := fun t xs e => by rw [upd_ne (ne_of_none e n)]; exact e
theorem TSt.lst {H : Hp} {l : Addr} {o : HO} {ys : List V} (n : H l = some (.lst ys)) : TSt H (upd H l o) := fun t xs e => by rw [upd_ne (ne_kind e n ne_tl)]; exact e
theorem Ext.ts {H H' : Hp} {p : Addr} {ys : List V} (h : Ext p H H') (n : H p = some (.lst ys)) : TSt H H' := fun t xs e => h t _ (ne_kind e n ne_tl) e
theorem Same.ts {H H' : Hp} (h : L2.Same H H') : TSt H H' := fun t xs e => h t _ e
/-- a tuple of ints -/
def Tup (H : Hp) (v : V) (ns : List Int) : Prop := ∃ t, v = .ref t ∧ H t = some (.tup (ns.map V.int))
theorem Tup.mono {H H' : Hp} {v : V} {ns : List Int} (h : Tup H v ns) (s : TSt H H') : Tup H' v ns := by
  obtain ⟨t, e, h⟩ := h; exact ⟨t, e, s _ _ h⟩
def Rows (H : Hp) : List V → List (List Int) → Prop
  | [], [] => True
  | v :: vs, r :: rs => Tup H v r ∧ Rows H vs rs
  | _, _ => False
theorem Rows.mono {H H' : Hp} (s : TSt H H') : ∀ {vs : List V} {rs : List (List Int)}, Rows H vs rs → Rows H' vs rs
  | [], [], _ => True.intro
  | _ :: _, _ :: _, ⟨a, b⟩ => ⟨a.mono s, Rows.mono s b⟩
  | [], _ :: _, h => h.elim
  | _ :: _, [], h => h.elim
theorem Rows.length {H : Hp} : ∀ {vs : List V} {rs : List (List Int)}, Rows H vs rs → vs.length = rs.length
  | [], [], _ => rfl
  | _ :: _, _ :: _, ⟨_, b⟩ => by simp [Rows.length b]
  | [], _ :: _, h => h.elim
  | _ :: _, [], h => h.elim
theorem Rows.get {H : Hp} : ∀ {vs : List V} {rs : List (List Int)} {i : Nat} {v : V}, Rows H vs rs → vs[i]? = some v → ∃ r, rs[i]? = some r ∧ Tup H v r
  | [], [], _, _, _, e => by simp at e
  | _ :: _, r :: _, 0, _, ⟨a, _⟩, e => by simp at e; subst e; exact ⟨r, rfl, a⟩
  | _ :: _, _ :: _, i + 1, v, ⟨_, b⟩, e => by
    obtain ⟨r, e1, e2⟩ := Rows.get (i := i) (v := v) b (by simpa using e)
    exact ⟨r, by simpa using e1, e2⟩
  | [], _ :: _, _, _, h, _ => h.elim
  | _ :: _, [], _, _, h, _ => h.elim
theorem Rows.snoc {H : Hp} : ∀ {vs : List V} {rs : List (List Int)} {v : V} {r : List Int}, Rows H vs rs → Tup H v r → Rows H (vs ++ [v]) (rs ++ [r])
  | [], [], _, _, _, t => ⟨t, True.intro⟩
  | _ :: _, _ :: _, _, _, ⟨a, b⟩, t => ⟨a, Rows.snoc b t⟩
  | [], _ :: _, _, _, h, _ => h.elim
  | _ :: _, [], _, _, h, _ => h.elim
section
variable {K : PySem.W.Frag} {σ : St} {H : Hp} {Q : VK} {D : Ends}
theorem rd_ex1 {R : Int → Prop} {a : Int} (k : R a) : ∃ i, [V.int a] = [V.int i] ∧ R i := ⟨a, rfl, k⟩
theorem rd_ex2 {R : Int → Int → Prop} {a b : Int} (k : R a b) : ∃ i j, [V.int a, V.int b] = [V.int i, V.int j] ∧ R i j := ⟨a, b, rfl, k⟩
theorem rd_int1b {R : Int → Prop} {R' : Bool → Prop} {b : Bool} (k : R' b) : (∃ i, [V.bl b] = [V.int i] ∧ R i) ∨ ∃ k, [V.bl b] = [V.bl k] ∧ R' k := .inr ⟨b, rfl, k⟩
theorem rd_isiI {n : Int} {c : String} {b : Bool} (e : kitB "int" c = some b) (k : Q (.bl b) H) : rIsi K [.int n, .ty c] H Q := ⟨_, _, _, _, b, rfl, .ty c, .base (.int _), kit_ty e, k⟩
theorem rd_isiB {n : Bool} {c : String} {b : Bool} (e : kitB "bool" c = some b) (k : Q (.bl b) H) : rIsi K [.bl n, .ty c] H Q := ⟨_, _, _, _, b, rfl, .ty c, .base (.bl _), kit_ty e, k⟩
theorem rd_isiT {a : Addr} {xs : List V} {c : String} {b : Bool} (h : H a = some (.tup xs)) (e : kitB "tuple" c = some b) (k : Q (.bl b) H) : rIsi K [.ref a, .ty c] H Q := ⟨_, _, _, _, b, rfl, .ty c, .base (.tup h), kit_ty e, k⟩
theorem rd_isiL {a : Addr} {xs : List V} {c : String} {b : Bool} (h : H a = some (.lst xs)) (e : kitB "list" c = some b) (k : Q (.bl b) H) : rIsi K [.ref a, .ty c] H Q := ⟨_, _, _, _, b, rfl, .ty c, .base (.lst h), kit_ty e, k⟩
theorem rd_lenL {p : Addr} {xs : List V} {R : Nat → Prop} (h : H p = some (.lst xs)) (k : R xs.length) : ∃ x n, [V.ref p] = [x] ∧ LenV K x H n ∧ R n := ⟨_, _, rfl, .inl ⟨xs, SqL.of h, rfl⟩, k⟩
theorem rd_lenT {p : Addr} {xs : List V} {R : Nat → Prop} (h : H p = some (.tup xs)) (k : R xs.length) : ∃ x n, [V.ref p] = [x] ∧ LenV K x H n ∧ R n := ⟨_, _, rfl, .inr ⟨xs, SqT.of h, rfl⟩, k⟩
theorem rd_gTup {n : Nat} {t : TGs} {p : Addr} {xs : List V} {R : St → Hp → Prop} (h : H p = some (.tup xs)) (e : xs.length = n) (k : t xs σ H R) : gTup K n t (.ref p) σ H R := ⟨p, xs, rfl, SqT.of h, e, k⟩
theorem rd_gCons {t : TG} {u : TGs} {v : V} {r : List V} {R : St → Hp → Prop} (k : t v σ H fun σ' H' => u r σ' H' R) : gCons t u (v :: r) σ H R := ⟨v, r, rfl, k⟩
theorem rd_yes {R : Bool → Hp → Prop} (k : R true H) : tYes σ H R := k
theorem rd_gNil {R : St → Hp → Prop} (k : R σ H) : gNil [] σ H R := ⟨rfl, k⟩
end
/-- what is asked of a for behind its iterator -/
def LoopW (J : It) (g : TG) (tb : TS) (D : Ends) (σ : St) (H : Hp) : Prop := ∃ W : Nat → Nat → St → Hp → Prop, (∃ m, W 0 m σ H) ∧ ∀ i m σ H, W i m σ H →
  (J.stop i H ∧ D.nx σ H) ∨ (J.go i H ∧ ∃ N : St → Hp → Prop, (∀ σ' H', N σ' H' → ∃ m', m' < m ∧ W (i + 1) m' σ' H') ∧ ∀ x H', J.yld i H x H' → g x σ H' fun σ2 H2 => tb { D with nx := N, ct := N, bk := D.nx } σ2 H2)
/-- what is asked of a comprehension behind its iterator -/
def CompW (J : It) (g : TG) (tt : TT) (te : TE) (vs : List Nat) (σ : St) (H1 : Hp) (D : Addr) (Qd : Hp → Prop) : Prop := ∃ W : Nat → Nat → Hp → Prop, (∃ m, W 0 m (upd H1 D (.lst []))) ∧ ∀ i m H, W i m H →
  (J.stop i H ∧ Qd H) ∨ (J.go i H ∧ ∃ Nx : Hp → Prop, (∀ H', Nx H' → ∃ m', m' < m ∧ W (i + 1) m' H') ∧ ∀ x H', J.yld i H x H' → g x (wipe σ vs) H' fun σ2 H2 => wipe σ2 vs = wipe σ vs ∧ tt σ2 H2 fun b H3 =>
    if b = true then te σ2 H3 fun y H4 => ∃ acc, H4 D = some (.lst acc) ∧ acc.length < sizeLine ∧ Nx (upd H4 D (.lst (acc ++ [y]))) else Nx H3)
section
variable {K : PySem.W.Frag} {σ : St} {H : Hp} {Q : VK} {D : Ends} {R : It → Hp → Prop}
theorem rd_for {wi : TI} {g : TG} {tb : TS} (k : wi σ H fun J H1 => LoopW J g tb D σ H1) : tFor wi g tb D σ H := k
theorem rd_lc {wi : TI} {g : TG} {tt : TT} {te : TE} {vs : List Nat} (k : wi σ H fun J H1 => ∀ D, H1 D = none → CompW J g tt te vs σ H1 D (fun H2 => Q (.ref D) H2)) : tLc wi g tt te vs σ H Q := k
theorem rd_rng1 {ta : TA} (k : ta σ H fun vs H1 => ∃ j : Int, vs = [.int j] ∧ -(2 ^ 62) ≤ j ∧ j < 2 ^ 62 ∧ R (Itr 0 j.toNat) H1) : iRng1 ta σ H R := k
theorem rd_iL {tl : TE} (k : tl σ H fun x H1 => ∃ a, x = .ref a ∧ (∃ xs, SqL K H1 a xs) ∧ R (Itl K a) H1) : iList K tl σ H R := k
theorem rd_iT {tl : TE} (k : tl σ H fun x H1 => ∃ a, x = .ref a ∧ (∃ xs, SqT K H1 a xs) ∧ R (Itt K a) H1) : iTup K tl σ H R := k
theorem rd_iE {ta : TA} (k : ta σ H fun vs H1 => ∃ a xs, vs = [.ref a] ∧ SqL K H1 a xs ∧ R (Ite K a) H1) : iEnum K ta σ H R := k
theorem rd_iZ {ta : TA} (k : ta σ H fun vs H1 => ∃ a b xs ys, vs = [.ref a, .ref b] ∧ SqL K H1 a xs ∧ SqL K H1 b ys ∧ R (Itz K a b) H1) : iZip K ta σ H R := k
theorem rd_iL' {a : Addr} {xs : List V} {R : Addr → Prop} (h : H a = some (.lst xs)) (k : R a) : ∃ b, V.ref a = .ref b ∧ (∃ xs, SqL K H b xs) ∧ R b := ⟨a, rfl, ⟨xs, SqL.of h⟩, k⟩
theorem rd_iT' {a : Addr} {xs : List V} {R : Addr → Prop} (h : H a = some (.tup xs)) (k : R a) : ∃ b, V.ref a = .ref b ∧ (∃ xs, SqT K H b xs) ∧ R b := ⟨a, rfl, ⟨xs, SqT.of h⟩, k⟩
theorem rd_iE' {a : Addr} {xs : List V} {R : Addr → Prop} (h : H a = some (.lst xs)) (k : R a) : ∃ b ys, [V.ref a] = [.ref b] ∧ SqL K H b ys ∧ R b := ⟨a, xs, rfl, SqL.of h, k⟩
theorem rd_iZ' {a b : Addr} {xs ys : List V} {R : Addr → Addr → Prop} (h : H a = some (.lst xs)) (h' : H b = some (.lst ys)) (k : R a b) : ∃ c d xs ys, [V.ref a, V.ref b] = [.ref c, .ref d] ∧ SqL K H c xs ∧ SqL K H d ys ∧ R c d := ⟨a, b, xs, ys, rfl, SqL.of h, SqL.of h', k⟩
theorem loopW {J : It} {n : Nat} {G : Hp → Prop} {Y : Nat → Hp → V → Hp → Prop} (w : Walk J n G Y) {g : TG} {tb : TS} (Pv : Nat → St → Hp → Prop) (h0 : Pv 0 σ H) (hG : ∀ i σ H, i ≤ n → Pv i σ H → G H)
    (hs : ∀ i x σ H H', i < n → Pv i σ H → Y i H x H' → g x σ H' fun σ2 H2 => tb { D with nx := Pv (i + 1), ct := Pv (i + 1), bk := D.nx } σ2 H2) (hd : ∀ σ H, Pv n σ H → D.nx σ H) : LoopW J g tb D σ H := for_it w Pv h0 hG hs hd
end
section
variable {J : It} {n : Nat} {G : Hp → Prop} {Y : Nat → Hp → V → Hp → Prop}
/-- a comprehension: A tells the list so far; all but what stands at p stays -/
theorem lcA (w : Walk J n G Y) {g : TG} {tt : TT} {te : TE} {vs : List Nat} {σ : St} {H0 : Hp} {D p : Addr} {Qd : Hp → Prop} (A : Nat → List V → Hp → Prop) (hD : H0 D = none) (hn : n ≤ 100000)
    (h0 : A 0 [] (upd H0 D (.lst []))) (hG : ∀ H', Ext p H0 H' → G H')
    (hs : ∀ i x H H' acc (M : Hp → Prop), i < n → Ext p H0 H → H D = some (.lst acc) → acc.length ≤ i → A i acc H → Y i H x H' →
      (∀ H4 y, Ext p H0 H4 → H4 D = some (.lst acc) → A (i + 1) (acc ++ [y]) (upd H4 D (.lst (acc ++ [y]))) → ∃ acc', H4 D = some (.lst acc') ∧ acc'.length < sizeLine ∧ M (upd H4 D (.lst (acc' ++ [y])))) →
      (∀ H3, Ext p H0 H3 → H3 D = some (.lst acc) → A (i + 1) acc H3 → M H3) →
      g x (wipe σ vs) H' fun σ2 H2 => wipe σ2 vs = wipe σ vs ∧ tt σ2 H2 fun b H3 =>
        if b = true then te σ2 H3 fun y H4 => ∃ acc', H4 D = some (.lst acc') ∧ acc'.length < sizeLine ∧ M (upd H4 D (.lst (acc' ++ [y]))) else M H3)
    (hd : ∀ H' acc, Ext p H0 H' → H' D = some (.lst acc) → acc.length ≤ n → A n acc H' → Qd H') :
    CompW J g tt te vs σ H0 D Qd := by
  refine lc_it w (fun i H => ∃ acc, Ext p H0 H ∧ H D = some (.lst acc) ∧ acc.length ≤ i ∧ A i acc H) ⟨[], Ext.new Ext.refl hD, upd_same, Nat.le_refl _, h0⟩ (fun i H _ ⟨acc, e, _⟩ => hG H e) ?_ (fun H ⟨acc, e, q, l, a⟩ => hd H acc e q l a)
  rintro i x H H' hi ⟨acc, e, q, l, a⟩ y
  refine hs i x H H' acc _ hi e q l a y (fun H4 y e4 q4 a4 => ⟨acc, q4, Nat.lt_of_le_of_lt (Nat.le_trans l (Nat.le_trans (Nat.le_of_lt hi) hn)) (by decide), acc ++ [y], ?_, upd_same, by simp; omega, a4⟩) (fun H3 e3 q3 a3 => ⟨acc, e3, q3, by omega, a3⟩)
  intro b o nb eb
  have h4 := e4 b o nb eb
  have : b ≠ D := ne_of_none eb hD
  rw [upd_ne this]; exact h4
end
/-! ### rules with the written part by name, for comprehensions -/
section
variable {X : Cx} {K : PySem.W.Frag}
theorem ix_listK (h : X.K = K) : IxR X (rIxL K) := by subst h; exact ix_list
theorem ix_tupK (h : X.K = K) : IxR X (rIxT K) := by subst h; exact ix_tup
theorem call_lenK (h : X.K = K) : CallR X (.builtin "len") (fun xs H Q => ∃ x n, xs = [x] ∧ LenV K x H n ∧ Q (.int n) H) := by subst h; exact call_len
theorem pg_tupK {es : List Expr} {kk n : Nat} {t : TGs} {pos : Pos} (hK : X.K = K) (hc : X.calm = true) (h : PGs X es t)
    (hn : List.length (assignEach es X.env) = n := by rfl) (hst : List.findIdx? (·.1) (assignEach es X.env) = none := by rfl) : PG X (.Tuple es kk pos) (gTup K n t) := by
  subst hK
  exact pg_tup hc h hn hst
theorem pi_listK {tg l : Expr} {tl : TE} (h : X.K = K) (hl : PE X l tl) : PI X tg l (iList K tl) := by subst h; exact pi_list hl
theorem pi_tupK {tg l : Expr} {tl : TE} (h : X.K = K) (hl : PE X l tl) : PI X tg l (iTup K tl) := by subst h; exact pi_tup hl
theorem cr_sumK (h : X.K = K) (hc : X.calm = true) : CallR X (.builtin "sum") (rSum K) := by subst h; exact cr_sum hc
theorem cr_allK (h : X.K = K) (hc : X.calm = true) : CallR X (.builtin "all") (rAll K) := by subst h; exact cr_all hc
theorem cr_anyK (h : X.K = K) (hc : X.calm = true) : CallR X (.builtin "any") (rAny K) := by subst h; exact cr_any hc
theorem call_isi1 (h : X.K = K) : CallR X (.builtin "isinstance") (rIsi K) := by subst h; exact call_isi
theorem call_isiTK (h : X.K = K) : CallR X (.builtin "isinstance") (rIsiT K) := by subst h; exact call_isiT
theorem sl_listK (h : X.K = K) : SlR X (rSlL K) := by subst h; exact sl_list
theorem op_eqDK (h : X.K = K) (hu : X.A.units + 64 < cLine) : OpR X (compareOp .Eq) (rEqD K) := by subst h; exact op_eqD hu
theorem op_neDK (h : X.K = K) (hu : X.A.units + 64 < cLine) : OpR X (compareOp .NotEq) (rNeD K) := by subst h; exact op_neD hu
end
end Sk
end

section
/-! xs[i] op= e, slices of tuples, t < u -/
namespace Sk
open PySem L2
section
variable {X : Cx} {K : PySem.W.Frag}
/-- an item of a list, by values -/
def gtL (K : PySem.W.Frag) : V → V → Hp → VK → Prop := fun x y H Q => ∃ p xs i v, x = .ref p ∧ y = .int i ∧ 0 ≤ i ∧ SqL K H p xs ∧ atI xs i = some v ∧ Q v H
theorem get_listK (h : X.K = K) : PGet X (gtL K) := by
  subst h
  intro pins s σ H x y v u Q I rx ry h
  obtain ⟨p, xs, i, z, rfl, rfl, h0, hq, he, q⟩ := h
  cases rx
  obtain ⟨t, rfl⟩ := ry
  obtain ⟨its, r, pl, hz⟩ := I.list hq
  obtain ⟨j, h1, h2, h3, h4, h5⟩ := atI_get he
  obtain ⟨w, ew, rw'⟩ := r.get h2
  have hl := r.length
  have hn := line63
  have hj : i.toNat = j := by
    rw [seqIndex_of h0 h5] at h1
    exact Option.some.inj h1
  exact PySem.wpAny_getItem_list pl.isList h0 (by omega) (by rw [hj]; simpa using ew) ⟨z, H, I, rw', q⟩
theorem rd_augS {σ : St} {H : Hp} {D : Ends} {to ti te : TE} {tget : V → V → Hp → VK → Prop} {tip : TIp} {tset : TSet} (k : to σ H fun o H1 => ti σ H1 fun i H2 => tget o i H2 fun x H3 => te σ H3 fun y H4 => tip x y H4 fun z H5 => tset o i z H5 fun H6 => D.nx σ H6) : tAugS to ti te tget tip tset D σ H := k
theorem rd_ip {H : Hp} {Q : VK} {f : Int → Int → Int} {i j : Int} (k : Q (.int (f i j)) H) : ipI f (.int i) (.int j) H Q := ⟨i, j, rfl, rfl, k⟩
theorem rd_gtL {H : Hp} {Q : VK} {a : Addr} {xs : List V} {i : Int} {v : V} (h : H a = some (.lst xs)) (h0 : 0 ≤ i) (e : atI xs i = some v) (k : Q v H) : gtL K (.ref a) (.int i) H Q := ⟨a, xs, i, v, rfl, rfl, h0, SqL.of h, e, k⟩
theorem rd_slTx {σ : St} {H : Hp} {Q : VK} {te : TE} {tl th : TO} (k : te σ H fun x H1 => tl σ H1 fun l H2 => th σ H2 fun u H3 => rSlT K x l u H3 Q) : tSl (rSlT K) te tl th σ H Q := k
theorem sl_tupAK (h : X.K = K) : SlR X (rSlA K) := by subst h; exact sl_tupA
theorem sl_tupK (h : X.K = K) : SlR X (rSlT K) := by subst h; exact sl_tup
theorem rd_slAx {σ : St} {H : Hp} {Q : VK} {te : TE} {tl th : TO} (k : te σ H fun x H1 => tl σ H1 fun l H2 => th σ H2 fun u H3 => rSlA K x l u H3 Q) : tSl (rSlA K) te tl th σ H Q := k
theorem rd_noP {σ : St} {H : Hp} {R : Option Int → Hp → Prop} (k : R none H) : tNoPart σ H R := k
theorem rd_aP {σ : St} {H : Hp} {R : Option Int → Hp → Prop} {n : Int} (k : R (some n) H) : tPart (tC (.int n)) σ H R := ⟨n, rfl, k⟩
/-- t[1:] -/
theorem rd_tail {H : Hp} {Q : VK} {t : Addr} {ts : List V} (h : H t = some (.tup ts)) (k : ∀ b H', Same H H' → H' b = some (.tup (ts.drop 1)) → Q (.ref b) H') : rSlA K (.ref t) (some 1) none H Q := by
  have e1 : HT.sIx ts.length 0 (some 1) = min 1 ts.length := HT.sIx_nat ts.length 0 1
  have e2 : HT.sIx ts.length ts.length none = ts.length := rfl
  refine ⟨t, ts, rfl, SqT.of h, fun hw => ?_, fun hw p hp => ?_⟩
  · rw [e1] at hw
    have : ts = [] := List.eq_nil_of_length_eq_zero (by omega)
    subst this
    exact k t H (Same.refl _) h
  · refine k p _ (same_new (Same.refl _) hp) ?_
    have : cutV ts (some 1) none = ts.drop 1 := by
      unfold cutV
      rw [e1, e2]
      cases ts with
      | nil => rfl
      | cons a ts => simp [Nat.min_eq_left]
    rw [this]
    exact upd_same
/-- t[:2] of three -/
theorem rd_head2 {H : Hp} {Q : VK} {t : Addr} {a b c : V} (h : H t = some (.tup [a, b, c])) (k : ∀ p, H p = none → Q (.ref p) (upd H p (.tup [a, b]))) : rSlT K (.ref t) none (some 2) H Q :=
  ⟨t, [a, b, c], rfl, SqT.of h, (by show ¬ (HT.sIx 3 0 none = 0 ∧ HT.sIx 3 3 (some 2) = 3); decide), fun p hp => k p hp⟩
theorem rd_ltT2 {H : Hp} {Q : VK} {p q : Addr} {a b c d : Int} (hp : H p = some (.tup [.int a, .int b])) (hq : H q = some (.tup [.int c, .int d])) (h : a < c ∨ (a = c ∧ b < d)) (k : Q (.bl true) H) : rLtT K (.ref p) (.ref q) H Q := by
  refine ⟨p, q, [a, b], [c, d], rfl, rfl, SqT.of hp, SqT.of hq, ?_⟩
  have : HT.lexLt [a, b] [c, d] = true := by
    rw [HT.lexLt_cons, HT.lexLt_cons, HT.lexLt_nil_nil]
    rcases h with h | ⟨h, h'⟩
    · rw [if_neg (by omega)]; exact decide_eq_true h
    · rw [if_pos h, if_neg (by omega)]; exact decide_eq_true h'
  rw [this]
  exact k
theorem op_ltTK (h : X.K = K) (hu : X.A.units + 64 < cLine) : OpR X (compareOp .Lt) (rLtT K) := by subst h; exact op_ltT (by omega)
theorem tem_slA {te : TE} {n : Int} (m : ∀ (σ : St) (H : Hp) (R R' : VK), (∀ v H, R v H → R' v H) → te σ H R → te σ H R') : ∀ (σ : St) (H : Hp) (R R' : VK), (∀ v H, R v H → R' v H) → tSl (rSlA K) te (tPart (tC (.int n))) tNoPart σ H R → tSl (rSlA K) te (tPart (tC (.int n))) tNoPart σ H R' := fun σ H R R' h k => m σ H _ _ (fun v H1 ⟨i, e, a, xs, e1, e2, q1, q2⟩ => ⟨i, e, a, xs, e1, e2, fun w => h _ _ (q1 w), fun w p hp => h _ _ (q2 w p hp)⟩) k
end
end Sk
end

section
/-! (a, b) >= (c, d) of ints; t[::-1] -/
namespace Sk
open PySem L2 PyProof.Rows
section
variable {prog : Program} {w : World} {A : Around} {E : Value → Shared → Prop} {s : Shared}
theorem rev_pick (xs : Array Value) : ((List.range xs.size).filterMap fun (m : Nat) => xs[(((xs.size : Int) - 1) + (m : Int) * (-1)).toNat]?) = xs.toList.reverse := by
  apply List.ext_getElem?
  intro i
  have all : ∀ n, n ≤ xs.size → (List.range n).filterMap (fun (m : Nat) => xs[(((xs.size : Int) - 1) + (m : Int) * (-1)).toNat]?) = xs.toList.reverse.take n := by
    intro n
    induction n with
    | zero => intro _; simp
    | succ n ih =>
      intro hn
      have e1 : ((((xs.size : Int) - 1) + (n : Int) * (-1)).toNat) = xs.size - 1 - n := by omega
      have e2 : xs.toList.reverse[n]? = some xs[xs.size - 1 - n] := by
        rw [List.getElem?_reverse (by simp; omega)]
        simp
      rw [List.range_succ, List.filterMap_append, ih (by omega), List.take_succ, e2]
      simp only [List.filterMap_cons, List.filterMap_nil, e1, Option.toList]
      rw [Array.getElem?_eq_getElem (by omega)]
  rw [all _ (Nat.le_refl _), List.take_of_length_le (by simp)]
theorem tuple_turned {t sl : Addr} {xs : Array Value} {k : Tok} {Q : Value → Shared → Prop} (hT : PyProof.Rows.IsTup s.heap t xs) (hS : s.heap.IsSliceOf sl .none .none (.int (-1) k)) (hZ : xs.size ≤ sizeLine)
    (hQ : Q (.ref s.heap.objs.size) { s with heap := s.heap.push { cls := .type "tuple", data := .seq xs.toList.reverse.toArray } }) : wpAny (model prog w) A (getItem (.ref t) (.ref sl)) Q E s := by
  have z : sizeOk (.seq xs.toList.reverse.toArray) := by
    show xs.toList.reverse.toArray.size ≤ sizeLine
    simpa using hZ
  obtain ⟨o1, o2, o3, o4⟩ := id hS
  have hk : s.TypeIs (.ref sl) "slice" := ⟨o1, o2, o3⟩
  unfold getItem
  try with_reducible refine wpAny_holding ?_
  first | refine wpAny_bind (wpAny_pure ?_) | skip
  refine wpAny_bind (wpAny_sequenceKey hT.typeIs (by decide) ?_)
  refine wpAny_bind (wpAny_callSpecial?_slot (name := Str.ofString "__getitem__") hT.typeIs PyProof.Rows.slot_tuple_getitem (wpAny_call_entry PyProof.Rows.slot_tuple_getitem hT.typeIs PyProof.Rows.entry_tuple_getitem ?_ (PyProof.Rows.args_tuple_getitem _ _)))
  show wpAny _ _ (Builtin.Tuple.tupleItemsOf (.ref t) >>= _) _ _ s
  refine wpAny_bind (PyProof.Rows.tupleItemsOf_ hT ?_); refine wpAny_bind (wpAny_typeOf hk ?_)
  rw [if_pos (by decide)]
  refine wpAny_bind ?_
  unfold Builtin.Slice.sliceApplied Builtin.Slice.sliceFields
  refine wpAny_bind (wpAny_bind (wpAny_field o2 o4 (x := .none) rfl (wpAny_bind (wpAny_field o2 o4 (x := .none) rfl (wpAny_bind (wpAny_field o2 o4 (x := .int (-1) k) rfl (wpAny_pure ?_)))))))
  refine wpAny_bind (HT.slicePart_ (.int (-1) k) ?_)
  show wpAny _ _ (if ((-1 : Int) == 0) = true then _ else _) _ _ s
  rw [if_neg (by decide)]
  refine wpAny_bind (HT.slicePart_ .none (wpAny_bind (HT.slicePart_ .none (wpAny_bind (wpAny_pure ?_)))))
  have e1 : Builtin.Slice.sliceAdjust none none (-1) (xs.size : Int) = ((xs.size : Int) - 1, -1) := rfl
  have e2 : Builtin.Slice.slicePlaces ((xs.size : Int) - 1) (-1) (-1) = xs.size := by
    unfold Builtin.Slice.slicePlaces
    rw [if_neg (by decide)]
    by_cases h : (xs.size : Int) - 1 > -1
    · rw [if_pos h]
      show (((xs.size : Int) - 1 - -1 - 1) / 1 + 1).toNat = _
      rw [Int.ediv_one]
      omega
    · rw [if_neg h]
      omega
  show wpAny _ _ (match Builtin.Slice.sliceAdjust none none (-1) (xs.size : Int) with | (lo, hi) => pure (lo, (-1 : Int), Builtin.Slice.slicePlaces lo hi (-1))) _ _ s
  rw [e1]
  show wpAny _ _ (pure ((xs.size : Int) - 1, (-1 : Int), Builtin.Slice.slicePlaces ((xs.size : Int) - 1) (-1) (-1))) _ _ s
  rw [e2]
  refine wpAny_pure ?_
  show wpAny _ _ (if (((xs.size : Int) - 1) == 0 && (-1 : Int) == 1 && xs.size == xs.size) = true then _ else _) _ _ s
  rw [if_neg (by simp)]
  have e3 := rev_pick xs
  show wpAny _ _ (Builtin.Tuple.tupleExact ((List.range xs.size).filterMap fun (m : Nat) => xs[(((xs.size : Int) - 1) + (m : Int) * (-1)).toNat]?).toArray >>= _) _ _ s
  rw [e3]
  first
    | exact wpAny_bind (m := Builtin.Tuple.tupleExact _) (wpAny_newObj_type (wpAny_pure ⟨_, rfl, wpAny_pure hQ⟩) z)
    | exact wpAny_bind (wpAny_bind (m := Builtin.Tuple.tupleExact _) (wpAny_newObj_type (wpAny_pure (wpAny_pure ⟨_, rfl, wpAny_pure hQ⟩)) z))
end
section
variable {X : Cx} {K : PySem.W.Frag}
/-- two pairs of ints, the one not ahead of the other -/
def rGe2 (K : PySem.W.Frag) : R2 := fun x y H Q => ∃ (p q : Addr) (a b c d : Int), x = .ref p ∧ y = .ref q ∧ SqT K H p [.int a, .int b] ∧ SqT K H q [.int c, .int d] ∧ Q (.bl (!HT.lexLt [a, b] [c, d])) H
theorem ints2 {us : List Value} {a b : Int} (h : Vals [.int a, .int b] us) : ∃ t t', us = [.int a t, .int b t'] := by
  cases h with
  | cons h1 h2 =>
    cases h2 with
    | cons h3 h4 =>
      cases h4
      obtain ⟨t, rfl⟩ := h1
      obtain ⟨t', rfl⟩ := h3
      exact ⟨t, t', rfl⟩
theorem le_not (d b : Int) : decide (d ≤ b) = !decide (b < d) := by
  by_cases h : b < d
  · rw [decide_eq_true h, decide_eq_false (by omega)]
    rfl
  · rw [decide_eq_false h, decide_eq_true (by omega)]
    rfl
theorem op_ge2 (hu : X.A.units + 64 < cLine) : OpR X (compareOp .GtE) (rGe2 X.K) := by
  intro pins s σ H x y v u Q I rx ry hh
  obtain ⟨p, q, a, b, c, d, rfl, rfl, hp, hq, k⟩ := hh
  cases rx
  cases ry
  obtain ⟨us, r1, p1, _⟩ := I.tuple hp
  obtain ⟨ws, r2, p2, _⟩ := I.tuple hq
  obtain ⟨t1, t2, rfl⟩ := ints2 r1
  obtain ⟨t3, t4, rfl⟩ := ints2 r2
  have R := Ob.RcOp.tuples_ge (A := X.A) (s := s) (e := fun j => if j = 0 then a == c else b == d) (r := fun j => if j = 0 then decide (c ≤ a) else decide (d ≤ b)) p1 p2 (by omega)
    (fun j g1 g2 => by
      match j, g1 with
      | 0, _ => exact SeqAt.EqAt.int_int _ _ _ _
      | 1, _ => exact SeqAt.EqAt.int_int _ _ _ _)
    (fun j g1 g2 _ => by
      match j, g1 with
      | 0, _ => exact Ob.RcOp.ge_int a c t1 t3
      | 1, _ => exact Ob.RcOp.ge_int b d t2 t4)
  refine R X.prog X.w X.xe (EP X pins σ Q) ⟨.bl _, H, I, rfl, ?_⟩
  have e : Ob.lexAt (fun j => if j = 0 then a == c else b == d) (fun j => if j = 0 then decide (c ≤ a) else decide (d ≤ b)) (decide ([Value.int a t1, Value.int b t2].toArray.size ≥ [Value.int c t3, Value.int d t4].toArray.size)) 0
      (min [Value.int a t1, Value.int b t2].toArray.size [Value.int c t3, Value.int d t4].toArray.size) = !HT.lexLt [a, b] [c, d] := by
    show (if (a == c) = true then (if (b == d) = true then decide (2 ≥ 2) else decide (d ≤ b)) else decide (c ≤ a)) = _
    rw [HT.lexLt_cons, HT.lexLt_cons, HT.lexLt_nil_nil]
    rw [le_not c a, le_not d b]
    by_cases h1 : a = c
    · by_cases h2 : b = d
      · rw [if_pos (by simp [h1]), if_pos (by simp [h2]), if_pos h1, if_pos h2]
        rfl
      · rw [if_pos (by simp [h1]), if_neg (by simp [h2]), if_pos h1, if_neg h2]
    · rw [if_neg (by simp [h1]), if_neg h1]
  rw [e]
  exact k
theorem op_ge2K (h : X.K = K) (hu : X.A.units + 64 < cLine) : OpR X (compareOp .GtE) (rGe2 K) := by subst h; exact op_ge2 hu
/-- t[::-1] -/
def tRevT (K : PySem.W.Frag) (te : TE) : TE := fun σ H Q => te σ H fun x H1 => ∃ a xs, x = .ref a ∧ SqT K H1 a xs ∧ ∀ p, H1 p = none → Q (.ref p) (upd H1 p (.tup xs.reverse))
theorem pe_revT {e : Expr} {te : TE} {k : Nat} {p1 p2 p3 pos : Pos} (he : PE X e te) : PE X (.Subscript e (.Slice none none (some (.UnaryOp .USub (.Constant (.int 1) k p1) p2)) p3) pos) (tRevT X.K te) := by
  refine ⟨fun pins s σ H Q J h => PyProof.Rows.Subscript_ (thn (he.run pins s σ H _ J h) fun v s1 ⟨x, H1, J1, r1, q1⟩ => ?_)⟩
  obtain ⟨a, xs, rfl, hx, q⟩ := q1
  cases r1
  have step : PO X (some (.UnaryOp .USub (.Constant (.int 1) k p1) p2)) (tPart (tUn (rU fun i => .int (-i)) (tC (.int 1)))) := po_some (pe_un un_neg pe_int)
  refine wpAny_Slice (thn (po_none.run pins s1 σ H1 (fun o H2 => o = none ∧ H2 = H1) J1 ⟨rfl, rfl⟩) fun vl s2 ⟨l, H2, J2, pl, el, e2⟩ => thn (po_none.run pins s2 σ H2 (fun o H3 => o = none ∧ H3 = H2) J2 ⟨rfl, rfl⟩) fun vu s3 ⟨u, H3, J3, pu, eu, e3⟩ => ?_)
  subst el e2 eu e3
  refine thn (step.run pins s3 σ H3 (fun o H4 => o = some (-1) ∧ H4 = H3) J3 ⟨1, rfl, -1, rfl, rfl, rfl⟩) fun vs s4 ⟨o, H4, J4, ps, eo, e4⟩ => ?_
  subst eo e4
  cases pl
  cases pu
  cases ps with
  | int _ tk =>
  have J5 : Inv X pins σ H4 { s4 with heap := s4.heap.push { cls := .type "slice", data := .fields #[.none, .none, .int (-1) tk] } } := J4.kept (t' := s4.toks) fun b ob z => Heap.get?_push_of_some _ z
  obtain ⟨its, r, ht, hz⟩ := J5.tuple hx
  have hl := r.length
  show wpAny (model X.prog X.w) X.A (PyProof.Rows.subscriptTail e (.Slice none none (some (.UnaryOp .USub (.Constant (.int 1) k p1) p2)) p3) (.ref a) (.ref s4.heap.objs.size)) (EP X pins σ Q) X.xe { s4 with heap := s4.heap.push { cls := .type "slice", data := .fields #[.none, .none, .int (-1) tk] } }
  refine tail_any (ops := [.ref a, .ref s4.heap.objs.size]) ht.typeIs PyProof.Rows.slot_tuple_getitem.lookup ?_ (by with_unfolding_all rfl)
  refine tuple_turned ht (Heap.IsSliceOf.new _ .none .none (.int (-1) tk)) (by rw [List.size_toArray]; omega) ?_
  refine ⟨.ref _, _, J5.laid (t' := s4.toks) (o := .tup xs.reverse) (fun b ob z => Heap.get?_push_of_some _ z) (Nat.le_refl _) ?_, rfl, q _ (J5.hok.fresh (Nat.le_refl _))⟩
  exact ⟨by rw [List.length_reverse]; exact hz, _, r.reverse, PyProof.Rows.IsTup.new _ _⟩
theorem pe_revTK {e : Expr} {te : TE} {k : Nat} {p1 p2 p3 pos : Pos} (h : X.K = K) (he : PE X e te) : PE X (.Subscript e (.Slice none none (some (.UnaryOp .USub (.Constant (.int 1) k p1) p2)) p3) pos) (tRevT K te) := by subst h; exact pe_revT he
theorem rd_revT {σ : L2.St} {H : Hp} {Q : VK} {te : TE} (k : te σ H fun x H1 => ∃ a xs, x = .ref a ∧ SqT K H1 a xs ∧ ∀ p, H1 p = none → Q (.ref p) (upd H1 p (.tup xs.reverse))) : tRevT K te σ H Q := k
end
end Sk
end

section
namespace Sk
open PySem PySem.Spec PyProof.Rows L2
section
variable {X : Cx} {CX : CXT} {k : Nat} {f : Addr} {fd : FuncData} {ps ks : List Str} {sp : Sp} {E : XK} {x : Str} {p pos : Pos} {kws : List Keyword} {tk : TA} {g : List Value → List Value → List Value} {gV : List V → List V → List V}
/-- f(k = v, ..) -/
theorem pe_callN0 (F : FnOk X.prog X.w X.K X.mg X.base CX k f fd ps sp) (hr : Room k X.A) (hg : Gl X x) (hm : X.mg x = some (.ref f)) (hk : PySem.W.keepIn X.K (.ref f) = true) (hb : KBn X.K fd ps 0 ks g gV) (hx : Passes CX X E)
    (hkw : PK X kws tk) (hall : (backToKw pos (keywordEach kws X.env)).all (·.1.isSome) = true := by rfl) (hks : (backToKw pos (keywordEach kws X.env)).filterMap (·.1) = ks := by rfl)
    (hdb : (x == ("__debug__" : Str)) = false := by decide) (hpl : ((backTo pos (starEach [] X.env)).any (·.1) || (backToKw pos (keywordEach kws X.env)).any (·.1.isNone)) = false := by rfl) :
    PE X (.Call (.Name x p) [] kws pos) (tCallN 0 ks.length sp gV E tNil tk) := by
  refine ⟨fun pins s σ H Q I h => ?_⟩
  refine wpAny_Call_Name_kw (ld_glob I hg hm ?_ hdb)
  refine PySem.W.callWith_KW0 (h₀ := X.base) I.ok.mod.kin hk hall ?_ hpl
  refine thn (hkw.run pos pins s σ H _ I h) fun ws s2 ⟨zs, H2, I2, rz, l1, l2, q2⟩ => ⟨I2.kIn, ?_⟩
  rw [hks]
  exact run_fnN (us := []) (vs := []) F hr hb hx I2 .nil rz rfl l2 q2
end
/-! ### enumerate of a tuple -/
/-- the tuple at a, each of its things with its number in a new pair -/
def IteT (K : PySem.W.Frag) (a : Addr) : It where
  go := fun n H => ∃ ys y, SqT K H a ys ∧ ys[n]? = some y
  yld := fun n H v H' => ∃ q y, v = V.ref q ∧ H q = none ∧ H' = upd H q (.tup [V.int (n : Nat), y]) ∧ ∀ ys, SqT K H a ys → ys[n]? = some y
  stop := fun n H => ∃ ys, SqT K H a ys ∧ List.length ys ≤ n
theorem enum_ne {h : Heap} {e it a : Addr} {n : Int} {old : Value} {ts : Array Value} (E1 : IsEnum h e it n old) (E2 : h.IsTuple a ts) : e ≠ a := by
  rintro rfl
  obtain ⟨o, h1, h2, _⟩ := E2
  rw [E1] at h1
  cases h1
  exact absurd h2 (by simp)
theorem tit_ne {h : Heap} {it a : Addr} {n : Nat} {ts : Array Value} (E1 : h.IsTupleIter it a n) (E2 : h.IsTuple a ts) : a ≠ it := by
  rintro rfl
  obtain ⟨o, h1, h2, _⟩ := E2
  obtain ⟨o', g1, g2, _⟩ := E1
  rw [g1] at h1
  cases h1
  rw [h2] at g2
  exact absurd g2 (by simp)
section
variable {prog : Program} {w : World} {A : Around} {E : Value → Shared → Prop} {s : Shared}
/-- the next of an enumerate whose tuple is through -/
theorem enumT_end {e it a : Addr} {n : Nat} {ts : Array Value} {old : Value} {Q : Option Value → Shared → Prop} (calm : A.handled = none) (E1 : IsEnum s.heap e it n old) (E2 : s.heap.IsTupleIter it a n) (E3 : s.heap.IsTuple a ts) (E4 : ts[n]? = none)
    (k : ∀ h', Heap.ExtBut it s.heap h' → Q none { s with heap := h' }) : wpAny (model prog w) A (pyNext (.ref e)) Q E s := by
  have ty : s.TypeIs (.ref e) "enumerate" := ⟨_, E1, rfl⟩
  unfold pyNext
  refine wpAny_bind (wpAny_attempt (wpAny_callSpecial?_slot (name := Str.ofString "__next__") ty F.slot_enumerate_next (wpAny_call_entry F.slot_enumerate_next ty F.entry_enumerate_next ?_ (F.args_enumerate_next_1 _))))
  show wpAny _ _ (field (.ref e) 2 >>= _) _ _ _
  refine wpAny_bind (wpAny_field E1 rfl (x := .ref it) rfl (wpAny_bind (RZ.nextOf_tuple_end calm E2 E3 E4 fun h1 z x1 x2 => ?_)))
  obtain ⟨oz, z1, z2⟩ := x2
  exact wpAny_bind (wpAny_isInstance (T := "StopIteration") (b := true) ⟨oz, z1, z2⟩ isSubtype_stop (wpAny_pure (k _ x1)))
set_option maxHeartbeats 8000000 in
theorem meets_enumT (a : Addr) (ts : Array Value) :
    Meets (Builtin.«enumerate.__new__» ⟨[.type "enumerate", .ref a], []⟩) (fun _ R s => s.heap.IsTuple a ts ∧
      R (.ok (.ret (.ref (s.heap.push { cls := .type "tuple_iterator", data := .fields #[.ref a, .int 0 0] }).objs.size)))
        { s with heap := (s.heap.push { cls := .type "tuple_iterator", data := .fields #[.ref a, .int 0 0] }).push { cls := .type "enumerate", data := .fields #[.none, .bool false, .ref s.heap.objs.size, rawInt 0, .none, .none] } }) :=
  .of_wp fun prog w A R s h => by
    obtain ⟨hp, g, d, tk, os⟩ := s
    obtain ⟨ht, h⟩ := h
    have hsub := sub_enumerate
    wp_walk
    refine wpAny_stack_any fun st => wpAny_pure ?_
    split
    · rename_i c _ _ _ _ _
      cases (c == Value.type "enumerate")
      · wp_walk using wpAny_pyIter_tuple ht
        exact ⟨_, rfl, h⟩
      · wp_walk using wpAny_pyIter_tuple ht
        exact ⟨_, rfl, h⟩
    · wp_walk using wpAny_pyIter_tuple ht
      exact ⟨_, rfl, h⟩
theorem call_enumT {a : Addr} {ts : Array Value} {Q : Value → Shared → Prop} (E1 : s.heap.IsTuple a ts)
    (k : ∀ h', IsEnum h' (s.heap.objs.size + 1) s.heap.objs.size 0 .none → h'.IsTupleIter s.heap.objs.size a 0 → (∀ b o, s.heap.get? b = some o → h'.get? b = some o) → Q (.ref (s.heap.objs.size + 1)) { s with heap := h' }) :
    wpAny (model prog w) A (call (.type "enumerate") [.ref a]) Q E s := by
  refine callType_new F.called_enumerate (by decide) (F.typeCall_enumerate_1 _) (F.newCall_enumerate_1 _) (fun x => F.args_object_init_2 x _) F.entry_enumerate_new (meets_enumT a ts) ⟨E1, ?_⟩
  have z : (s.heap.push { cls := .type "tuple_iterator", data := .fields #[.ref a, .int 0 0] }).objs.size = s.heap.objs.size + 1 := Heap.size_push ..
  show _ ∧ _
  rw [z]
  have en : IsEnum ((s.heap.push { cls := .type "tuple_iterator", data := .fields #[.ref a, .int 0 0] }).push { cls := .type "enumerate", data := .fields #[.none, .bool false, .ref s.heap.objs.size, rawInt 0, .none, .none] }) (s.heap.objs.size + 1) s.heap.objs.size 0 .none := by
    have y := Heap.get?_push_size (s.heap.push { cls := .type "tuple_iterator", data := .fields #[.ref a, .int 0 0] }) (o := { cls := .type "enumerate", data := .fields #[.none, .bool false, .ref s.heap.objs.size, rawInt 0, .none, .none] }) rfl
    rw [z] at y
    exact y
  exact ⟨⟨_, en, rfl⟩, k _ en ⟨_, Heap.get?_push_of_some _ (Heap.get?_push_size _ rfl), rfl, rfl⟩ fun b o y => Heap.get?_push_of_some _ (Heap.get?_push_of_some _ y)⟩
end
theorem two_mem {b e it : Addr} (h : b ∈ [e, it]) : b = e ∨ b = it := by simpa using h
theorem turn_enumT {P : Program} {w : World} {K : PySem.W.Frag} {elts : List Expr} {kk : Nat} {tpos : Pos} (a e it : Addr) :
    Turn P w K (.Tuple elts kk tpos) (IteT K a) [e, it] e (fun n h => (∃ old, IsEnum h e it ((n : Nat) : Int) old) ∧ h.IsTupleIter it a n ∧ e ≠ it) where
  mem := List.mem_cons_self ..
  obj := by
    rintro n h ⟨⟨old, E1⟩, ⟨o, o1, _, o3⟩, _⟩ b hb
    rcases two_mem hb with rfl | rfl
    · exact ⟨_, E1, by intro v q; cases q⟩
    · exact ⟨o, o1, by intro v q; rw [o3] at q; cases q⟩
  keep := by
    rintro n h h' ⟨⟨old, E1⟩, E2, E3⟩ k
    exact ⟨⟨old, k e (by simp) _ E1⟩, E2.at fun o q => k it (by simp) o q, E3⟩
  item := by
    intro X x1 x2 x3 calm n pins s σ H E I hf st hg
    subst x1 x2 x3
    obtain ⟨⟨old, E1⟩, E2, E3⟩ := st
    obtain ⟨ys, y, y1, y2⟩ := hg
    obtain ⟨ts, rv, tp, _⟩ := I.tuple y1
    obtain ⟨u, u1, u2⟩ := rv.get y2
    have l1 : e < s.heap.objs.size := Heap.lt_size E1
    have l2 : it < s.heap.objs.size := by
      obtain ⟨_, q, _⟩ := E2
      exact Heap.lt_size q
    have n1 := enum_ne E1 tp
    have n2 := tit_ne E2 tp
    have n3 : n < ts.toArray.size := by simpa using (List.getElem?_eq_some_iff.mp u1).1
    refine wpAny_pyNext_enum_itemD (Draws.tuple (A := X.A.in1) (show X.A.in1.handled = none from I.ok.hd calm) it a n2 ts.toArray) E1 ⟨E2, tp⟩ n3 E3 (by simp [E3, n1]) fun v h1 tk g1 g2 g3 g4 g5 g6 => ?_
    obtain rfl : v = u := by
      have z : ts[n]? = some v := by simpa using g1
      exact Option.some.inj (z.symm.trans u1)
    refine ⟨_, rfl, wpAny_letOwnedTupleGo_enum (s := { s with heap := h1, toks := tk + 1 }) g2 fun h2 q1 q2 => ?_⟩
    have g7 : h2.get? s.heap.objs.size = some { cls := .type "tuple", data := .seq #[.int n tk, v] } := (q2.2 _ (Nat.ne_of_gt l1)).trans g4
    have fresh : ObjOk X.prog X.w (upd H s.heap.objs.size (.tup [V.int (n : Nat), y])) h2 s.heap.objs.size (.tup [V.int (n : Nat), y]) :=
      ⟨len_ok (xs := [V.int (n : Nat), y]) rfl, [.int n tk, v], .cons ⟨tk, rfl⟩ (.cons u2 .nil), ⟨_, g7, rfl, _, rfl⟩⟩
    have J : Inv X pins σ (upd H s.heap.objs.size (.tup [V.int (n : Nat), y])) { s with heap := h2, toks := tk + 1 } := by
      refine I.turnedNew (ch := [e, it]) (fun b ob hb q => ?_) hf (Nat.le_refl _) fresh
      have b1 : b ≠ e := fun z => hb (by simp [z])
      have b2 : b ≠ it := fun z => hb (by simp [z])
      exact (q2.2 b b1).trans (g6 b ob b1 b2 q)
    refine ⟨V.ref s.heap.objs.size, _, J, rfl, ⟨_, y, rfl, I.hok.fresh (Nat.le_refl _), rfl, fun zs hz => ?_⟩, ⟨⟨v, ?_⟩, g3.1.at fun o q => (q2.2 it (Ne.symm E3)).trans q, E3⟩, fun b hb => ?_⟩
    · rw [I.tuple_inj hz y1]
      exact y2
    · rw [show ((n + 1 : Nat) : Int) = (n : Int) + 1 by omega]
      exact q1
    · have lb : b < s.heap.objs.size := by
        rcases two_mem hb with rfl | rfl
        · exact l1
        · exact l2
      rw [upd_ne (Nat.ne_of_lt lb)]
      exact (hf b hb).1
  done := by
    intro X x1 x2 x3 calm n pins s σ H E I hf st hg
    subst x1 x2 x3
    obtain ⟨⟨old, E1⟩, E2, E3⟩ := st
    obtain ⟨ys, y1, y2⟩ := hg
    obtain ⟨ts, rv, tp, _⟩ := I.tuple y1
    obtain ⟨c0, c1, _, c3, c4, c5⟩ := hf it (by simp)
    have rl := rv.length
    exact enumT_end (I.ok.hd calm) E1 E2 tp (by simp; omega) fun h1 q => ⟨rfl, I.turned (t' := s.toks) (fun b o nb x => q b o nb x) c0 c1 c3 c4 c5⟩
  self := by
    rintro A n s Q E ⟨⟨_, E1⟩, _⟩ h
    exact wpAny_pyIter_enum E1 h
/-- enumerate of a list or a tuple -/
def iEnumA (K : PySem.W.Frag) (ta : TA) : TI := fun σ H R => ta σ H fun vs H1 => ∃ a ys, vs = [V.ref a] ∧ ((SqL K H1 a ys ∧ R (Ite K a) H1) ∨ (SqT K H1 a ys ∧ R (IteT K a) H1))
theorem pi_enumA {X : Cx} {e : Expr} {ta : TA} {p pos tpos : Pos} {elts : List Expr} {kk : Nat} (hg : Gl X "enumerate") (hm : X.mg "enumerate" = none) (ha : PA X [e] ta) (hs : starEach [e] X.env = [(false, eval e X.env)] := by rfl) :
    PI X (.Tuple elts kk tpos) (.Call (.Name "enumerate" p) [e] [] pos) (iEnumA X.K ta) := by
  refine ⟨fun pins s σ H R I h => Call_ (ld_blt I hg hm boot_enumerate (PyProof.Rows.callWith_type1 (thn (ha.run pos pins s σ H _ I h) ?_) hs rfl))⟩
  rintro us s1 ⟨vs, H1, I1, r1, a, ys, rfl, cs⟩
  obtain ⟨u, rfl, ru⟩ : ∃ u, us = [u] ∧ RelV (V.ref a) u := by
    cases r1 with
    | cons r rr => cases rr; exact ⟨_, rfl, r⟩
  obtain rfl : u = Value.ref a := ru
  have fp : ∀ b, b ∈ [s1.heap.objs.size + 1, s1.heap.objs.size] → FpOk X pins H1 b := fun b hb => by
    have le : s1.heap.objs.size ≤ b := by
      rcases two_mem hb with rfl | rfl
      · exact Nat.le_succ _
      · exact Nat.le_refl _
    exact I1.fpOk le (I1.hok.fresh le)
  rcases cs with ⟨hq, q⟩ | ⟨hq, q⟩
  · obtain ⟨ts, rv, tp, _⟩ := I1.list hq
    refine call_enumerate_list tp.isList fun h' g1 g2 g3 g4 => wpAny_pyIter_enum g1 ?_
    exact ⟨_, [s1.heap.objs.size + 1, s1.heap.objs.size], _, _, H1, rfl, I1.kept (t' := s1.toks) g4, turn_enum a (s1.heap.objs.size + 1) s1.heap.objs.size, ⟨⟨.none, g1⟩, g2, Nat.succ_ne_self _⟩, fp, q⟩
  · obtain ⟨ts, rv, tp, _⟩ := I1.tuple hq
    refine call_enumT tp fun h' g1 g2 g4 => wpAny_pyIter_enum g1 ?_
    exact ⟨_, [s1.heap.objs.size + 1, s1.heap.objs.size], _, _, H1, rfl, I1.kept (t' := s1.toks) g4, turn_enumT a (s1.heap.objs.size + 1) s1.heap.objs.size, ⟨⟨.none, g1⟩, g2, Nat.succ_ne_self _⟩, fp, q⟩
theorem walk_enumT {K : PySem.W.Frag} {a : Addr} {ys : List V} : Walk (IteT K a) ys.length (fun H => SqT K H a ys) (YPair (fun n => some (V.int (n : Nat))) (fun n => ys[n]?)) where
  goes := fun n H hn q => ⟨ys, ys[n], q, List.getElem?_eq_getElem hn⟩
  stops := fun H q => ⟨ys, q, Nat.le_refl _⟩
  yields := fun n H v H' _ q ⟨t, y, h1, h2, h3, h4⟩ => ⟨t, _, y, h1, h2, h3, rfl, h4 ys q⟩
/-! ### zip of lists and tuples in any mix: true is a tuple -/
def SqK (K : PySem.W.Frag) (t : Bool) (H : Hp) (a : Addr) (ys : List V) : Prop := if t = true then SqT K H a ys else SqL K H a ys
def SitK (t : Bool) (h : Heap) (it a : Addr) (n : Nat) : Prop := if t = true then h.IsTupleIter it a n else h.IsListIter it a n
def SisK (t : Bool) (h : Heap) (a : Addr) (ts : Array Value) : Prop := if t = true then h.IsTuple a ts else h.IsList a ts
def SitO (t : Bool) (a : Addr) : Obj := if t = true then { cls := .type "tuple_iterator", data := .fields #[.ref a, .int 0 0] } else { cls := .type "list_iterator", data := .fields #[.ref a, .int 0 0] }
theorem SitK.look {t : Bool} {h : Heap} {it a : Addr} {n : Nat} (x : SitK t h it a n) : ∃ o, h.get? it = some o ∧ ∀ v, o.data ≠ .cell v := by
  cases t with
  | true => obtain ⟨o, h1, _, h3⟩ := (show h.IsTupleIter it a n from x); exact ⟨o, h1, fun v q => by rw [h3] at q; cases q⟩
  | false => obtain ⟨o, h1, _, h3⟩ := (show h.IsListIter it a n from x); exact ⟨o, h1, fun v q => by rw [h3] at q; cases q⟩
theorem SitK.mv {t : Bool} {h h' : Heap} {it a : Addr} {n : Nat} (x : SitK t h it a n) (k : ∀ o, h.get? it = some o → h'.get? it = some o) : SitK t h' it a n := by
  cases t with
  | true => exact (show h.IsTupleIter it a n from x).at k
  | false => exact (show h.IsListIter it a n from x).at k
theorem SisK.ne {t : Bool} {h : Heap} {it a : Addr} {n : Nat} {ts : Array Value} (x : SitK t h it a n) (y : SisK t h a ts) : a ≠ it := by
  cases t with
  | true => exact tit_ne (show h.IsTupleIter it a n from x) (show h.IsTuple a ts from y)
  | false =>
    obtain ⟨o, h1, h2, _⟩ := (show h.IsList a ts from y)
    obtain ⟨o', g1, g2, _⟩ := (show h.IsListIter it a n from x)
    rintro rfl
    rw [g1] at h1
    cases h1
    rw [h2] at g2
    exact absurd g2 (by simp)
theorem drawsK {prog : Program} {w : World} {A : Around} (t : Bool) (calm : A.handled = none) (it a : Addr) (ne : a ≠ it) (ts : Array Value) :
    Draws prog w A it [it, a] ts.size (fun n v => ts[n]? = some v) (fun n h => SitK t h it a n ∧ SisK t h a ts) := by
  cases t with
  | true => exact Draws.tuple calm it a ne ts
  | false => exact Draws.list calm it a ne ts
theorem beginsK (t : Bool) (a : Addr) (ts : Array Value) : Begins (.ref a) (SitO t a) fun h => SisK t h a ts := by
  cases t with
  | true => exact begins_tuple a ts
  | false => exact begins_list a ts
theorem SqK.open {t : Bool} {X : Cx} {pins : List (Addr × Obj)} {σ : L2.St} {H : Hp} {s : Shared} (I : L2.Inv X pins σ H s) {a : Addr} {ys : List V} (q : SqK X.K t H a ys) : ∃ ts : List Value, Vals ys ts ∧ SisK t s.heap a ts.toArray ∧ a < s.heap.objs.size := by
  cases t with
  | true =>
    obtain ⟨ts, rv, tp, _⟩ := I.tuple (show SqT X.K H a ys from q)
    obtain ⟨o, ho, _⟩ := id tp
    exact ⟨ts, rv, tp, Heap.lt_size ho⟩
  | false =>
    obtain ⟨ts, rv, tp, _⟩ := I.list (show SqL X.K H a ys from q)
    exact ⟨ts, rv, tp.isList, tp.lt⟩
theorem SqK.inj {t : Bool} {X : Cx} {pins : List (Addr × Obj)} {σ : L2.St} {H : Hp} {s : Shared} (I : L2.Inv X pins σ H s) {a : Addr} {ys zs : List V} (q : SqK X.K t H a ys) (r : SqK X.K t H a zs) : ys = zs := by
  cases t with
  | true => exact I.tuple_inj (show SqT X.K H a ys from q) (show SqT X.K H a zs from r)
  | false => exact I.list_inj (show SqL X.K H a ys from q) (show SqL X.K H a zs from r)
def ItzK (K : PySem.W.Frag) (t u : Bool) (a b : Addr) : It where
  go := fun n H => ∃ ys zs y z, SqK K t H a ys ∧ SqK K u H b zs ∧ ys[n]? = some y ∧ zs[n]? = some z
  yld := fun n H v H' => ∃ q y z, v = V.ref q ∧ H q = none ∧ H' = upd H q (.tup [y, z]) ∧ (∀ ys, SqK K t H a ys → ys[n]? = some y) ∧ ∀ zs, SqK K u H b zs → zs[n]? = some z
  stop := fun n H => ∃ ys zs, SqK K t H a ys ∧ SqK K u H b zs ∧ n ≤ List.length ys ∧ n ≤ List.length zs ∧ (n = List.length ys ∨ n = List.length zs)
theorem five_mem {b z TI TO i1 i2 : Addr} (h : b ∈ [z, TI, TO, i1, i2]) : b = z ∨ b = TI ∨ b = TO ∨ b = i1 ∨ b = i2 := by simpa using h
theorem turn_zipK {P : Program} {w : World} {K : PySem.W.Frag} {elts : List Expr} {kk : Nat} {tpos : Pos} {t u : Bool} {a b z TI TO i1 i2 : Addr} (S : ZipSep2 z TI TO i1 i2 [i1, a] [i2, b]) :
    Turn P w K (.Tuple elts kk tpos) (ItzK K t u a b) [z, TI, TO, i1, i2] z (fun n h => IsZip h z TI TO .none ∧ IsTupOf2 h TI (.ref i1) (.ref i2) ∧ (∃ x y, IsTupOf2 h TO x y) ∧ SitK t h i1 a n ∧ SitK u h i2 b n) where
  mem := List.mem_cons_self ..
  obj := by
    rintro n h ⟨z1, z2, ⟨x, y, z3⟩, z4, z5⟩ c hc
    rcases five_mem hc with rfl | rfl | rfl | rfl | rfl
    · exact ⟨_, z1, by intro v q; cases q⟩
    · exact ⟨_, z2, by intro v q; cases q⟩
    · exact ⟨_, z3, by intro v q; cases q⟩
    · exact z4.look
    · exact z5.look
  keep := by
    rintro n h h' ⟨z1, z2, ⟨x, y, z3⟩, z4, z5⟩ k
    exact ⟨k z (by simp) _ z1, k TI (by simp) _ z2, ⟨x, y, k TO (by simp) _ z3⟩, z4.mv (k i1 (by simp)), z5.mv (k i2 (by simp))⟩
  item := by
    intro X x1 x2 x3 calm n pins s σ H E I hf st hg
    subst x1 x2 x3
    obtain ⟨z1, z2, ⟨x0, y0, z3⟩, z4, z5⟩ := st
    obtain ⟨ys, zs, y, w', q1, q2, q3, q4⟩ := hg
    obtain ⟨ts, r1, s1, _⟩ := q1.open I
    obtain ⟨us, r2, s2, _⟩ := q2.open I
    obtain ⟨v1, v2, v3⟩ := r1.get q3
    obtain ⟨w1, w2, w3⟩ := r2.get q4
    have n1 : n < ts.toArray.size := by simpa using (List.getElem?_eq_some_iff.mp v2).1
    have n2 : n < us.toArray.size := by simpa using (List.getElem?_eq_some_iff.mp w2).1
    have lz : z < s.heap.objs.size := Heap.lt_size z1
    have hd : X.A.in1.handled = none := I.ok.hd calm
    refine wpAny_pyNext_zipD2_item S (drawsK t hd i1 a (SisK.ne z4 s1) ts.toArray) (drawsK u hd i2 b (SisK.ne z5 s2) us.toArray) z1 z2 z3 ⟨z4, s1⟩ ⟨z5, s2⟩ n1 n2 fun a1 a2 h1 tk g1 g2 g3 g4 g5 g6 g7 g8 g9 => ?_
    obtain rfl : a1 = v1 := Option.some.inj ((show ts[n]? = some a1 by simpa using g1).symm.trans v2)
    obtain rfl : a2 = w1 := Option.some.inj ((show us[n]? = some a2 by simpa using g2).symm.trans w2)
    refine ⟨_, rfl, wpAny_letOwnedTupleGo_zip (s := { s with heap := h1, toks := tk }) g3 fun h2 p1 p2 => ?_⟩
    have g10 : h2.get? s.heap.objs.size = some { cls := .type "tuple", data := .seq #[a1, a2] } := (p2.2 _ (Nat.ne_of_gt lz)).trans g7
    have fresh : ObjOk X.prog X.w (upd H s.heap.objs.size (.tup [y, w'])) h2 s.heap.objs.size (.tup [y, w']) :=
      ⟨len_ok (xs := [y, w']) rfl, [a1, a2], .cons v3 (.cons w3 .nil), ⟨_, g10, rfl, _, rfl⟩⟩
    have J : Inv X pins σ (upd H s.heap.objs.size (.tup [y, w'])) { s with heap := h2, toks := tk } := by
      refine I.turnedNew (ch := [z, TI, TO, i1, i2]) (fun c o hc q => ?_) hf (Nat.le_refl _) fresh
      have c1 : c ≠ z := fun e => hc (by simp [e])
      exact (p2.2 c c1).trans (g9 c o c1 (fun e => hc (by simp [e])) (fun e => hc (by simp [e])) (fun e => hc (by simp [e])) q)
    refine ⟨V.ref s.heap.objs.size, _, J, rfl, ⟨_, y, w', rfl, I.hok.fresh (Nat.le_refl _), rfl, fun l hl => ?_, fun l hl => ?_⟩, ⟨p1, ?_, ⟨a1, a2, ?_⟩, ?_, ?_⟩, fun c hc => ?_⟩
    · rw [SqK.inj I hl q1]
      exact q3
    · rw [SqK.inj I hl q2]
      exact q4
    · exact (p2.2 _ S.TIz).trans (g9 _ _ S.TIz S.TITO S.TIi1 S.TIi2 z2)
    · exact (p2.2 _ S.TOz).trans g4
    · exact g5.1.mv fun o q => (p2.2 _ (fun e => S.zf1 (by simp [e]))).trans q
    · exact g6.1.mv fun o q => (p2.2 _ (fun e => S.zf2 (by simp [e]))).trans q
    · have lc : c < s.heap.objs.size := by
        rcases five_mem hc with rfl | rfl | rfl | rfl | rfl
        · exact lz
        · exact Heap.lt_size z2
        · exact Heap.lt_size z3
        · obtain ⟨o, e1, _⟩ := z4.look
          exact Heap.lt_size e1
        · obtain ⟨o, e1, _⟩ := z5.look
          exact Heap.lt_size e1
      rw [upd_ne (Nat.ne_of_lt lc)]
      exact (hf c hc).1
  done := by
    intro X x1 x2 x3 calm n pins s σ H E I hf st hg
    subst x1 x2 x3
    obtain ⟨z1, z2, ⟨x0, y0, z3⟩, z4, z5⟩ := st
    obtain ⟨ys, zs, q1, q2, q3, q4, q5⟩ := hg
    obtain ⟨ts, r1, s1, _⟩ := q1.open I
    obtain ⟨us, r2, s2, _⟩ := q2.open I
    have e1 := r1.length
    have e2 := r2.length
    have hd : X.A.in1.handled = none := I.ok.hd calm
    refine wpAny_pyNext_zipD2_end S (drawsK t hd i1 a (SisK.ne z4 s1) ts.toArray) (drawsK u hd i2 b (SisK.ne z5 s2) us.toArray) z1 z2 z3 ⟨z4, s1⟩ ⟨z5, s2⟩ (by simp; omega) (by simp; omega) (by simp; omega) fun h1 tk k => ⟨rfl, ?_⟩
    exact I.turnedL (t' := tk) (ch := [z, TI, TO, i1, i2]) (fun c o hc q => k c o (fun e => hc (by simp [e])) (fun e => hc (by simp [e])) (fun e => hc (by simp [e])) (fun e => hc (by simp [e])) q) hf
  self := by
    rintro A n s Q E ⟨z1, _⟩ h
    exact wpAny_pyIter_zip z1 h
def iZipK (K : PySem.W.Frag) (ta : TA) : TI := fun σ H R => ta σ H fun vs H1 => ∃ t u a b ys zs, vs = [V.ref a, V.ref b] ∧ SqK K t H1 a ys ∧ SqK K u H1 b zs ∧ R (ItzK K t u a b) H1
theorem pi_zipK {X : Cx} {e e2 : Expr} {ta : TA} {p pos tpos : Pos} {elts : List Expr} {kk : Nat} (hg : Gl X "zip") (hm : X.mg "zip" = none) (ha : PA X [e, e2] ta)
    (hs : starEach [e, e2] X.env = (false, eval e X.env) :: starEach [e2] X.env := by rfl) (hpl : (backTo pos (starEach [e2] X.env)).any (·.1) = false := by rfl) :
    PI X (.Tuple elts kk tpos) (.Call (.Name "zip" p) [e, e2] [] pos) (iZipK X.K ta) := by
  refine ⟨fun pins s σ H R I h => ?_⟩
  refine Call_ (ld_blt I hg hm PyProof.Rows.boot_zip (PyProof.Rows.callWith_type1 (thn (ha.run pos pins s σ H _ I h) fun vs s1 hh => ?_) hs hpl))
  obtain ⟨us, H1, I1, r1, t, u, a, b, ys, zs, rfl, q1, q2, q⟩ := hh
  obtain rfl : vs = [Value.ref a, Value.ref b] := by
    cases r1 with
    | cons r rr =>
      cases rr with
      | cons r' rr =>
        cases rr
        cases r
        cases r'
        rfl
  obtain ⟨ts, v1, s2, l1⟩ := q1.open I1
  obtain ⟨ws, v2, s3, l2⟩ := q2.open I1
  have fp : ∀ c, c ∈ [s1.heap.objs.size + 4, s1.heap.objs.size + 2, s1.heap.objs.size + 3, s1.heap.objs.size, s1.heap.objs.size + 1] → FpOk X pins H1 c := fun c hc => by
    have le : s1.heap.objs.size ≤ c := by
      rcases five_mem hc with rfl | rfl | rfl | rfl | rfl
      · exact Nat.le_add_right _ _
      · exact Nat.le_add_right _ _
      · exact Nat.le_add_right _ _
      · exact Nat.le_refl _
      · exact Nat.le_add_right _ _
    exact I1.fpOk le (I1.hok.fresh le)
  refine zip_begins2 (beginsK t a ts.toArray) (beginsK u b ws.toArray) s2 s3 fun h' g1 g2 g3 g4 g5 g6 g7 => wpAny_pyIter_zip g1 ?_
  have k1 : SitK t h' s1.heap.objs.size a 0 := by
    cases t with
    | true => exact ⟨_, g4, rfl, rfl⟩
    | false => exact ⟨_, g4, rfl, rfl⟩
  have k2 : SitK u h' (s1.heap.objs.size + 1) b 0 := by
    cases u with
    | true => exact ⟨_, g5, rfl, rfl⟩
    | false => exact ⟨_, g5, rfl, rfl⟩
  exact ⟨_, [s1.heap.objs.size + 4, s1.heap.objs.size + 2, s1.heap.objs.size + 3, s1.heap.objs.size, s1.heap.objs.size + 1], _, _, H1, rfl, I1.kept (t' := s1.toks) g7, turn_zipK (t := t) (u := u) (zip_sep2 (fp1 := [a]) (fp2 := [b]) (by simpa using l1) (by simpa using l2)), ⟨g1, g2, ⟨_, _, g3⟩, k1, k2⟩, fp, q⟩
theorem walk_zipK {K : PySem.W.Frag} {t u : Bool} {a b : Addr} {ys zs : List V} {n : Nat} (hn : n = min ys.length zs.length) : Walk (ItzK K t u a b) n (fun H => SqK K t H a ys ∧ SqK K u H b zs) (YPair (fun n => ys[n]?) (fun n => zs[n]?)) where
  goes := fun i H hi q => ⟨ys, zs, ys[i]'(by omega), zs[i]'(by omega), q.1, q.2, List.getElem?_eq_getElem _, List.getElem?_eq_getElem _⟩
  stops := fun H q => ⟨ys, zs, q.1, q.2, by omega, by omega, by omega⟩
  yields := fun i H v H' _ q ⟨c, y, z, h1, h2, h3, h4, h5⟩ => ⟨c, y, z, h1, h2, h3, h4 ys q.1, h5 zs q.2⟩
/-- for x in a list or a tuple -/
def iSeqA (K : PySem.W.Frag) (tl : TE) : TI := fun σ H R => tl σ H fun x H1 => ∃ a, x = V.ref a ∧ (((∃ ys, SqL K H1 a ys) ∧ R (Itl K a) H1) ∨ ((∃ ys, SqT K H1 a ys) ∧ R (Itt K a) H1))
theorem pi_seqA {X : Cx} {tg l : Expr} {tl : TE} (hl : PE X l tl) : PI X tg l (iSeqA X.K tl) := by
  refine ⟨fun pins s σ H R I h => ?_⟩
  refine thn (hl.run pins s σ H _ I h) fun u s1 hh => ?_
  obtain ⟨x, H1, I1, r1, a, rfl, cs⟩ := hh
  obtain rfl : u = Value.ref a := r1
  have fp : ∀ b, b ∈ [s1.heap.objs.size] → FpOk X pins H1 b := fun b hb => by
    obtain rfl : b = s1.heap.objs.size := by simpa using hb
    exact I1.fpOk (Nat.le_refl _) (I1.hok.fresh (Nat.le_refl _))
  rcases cs with ⟨⟨ys, q1⟩, q⟩ | ⟨⟨ys, q1⟩, q⟩
  · obtain ⟨ts, _, tp, _⟩ := I1.list q1
    exact wpAny_pyIter_list tp.isList ⟨_, [s1.heap.objs.size], _, _, H1, rfl, I1.kept (t' := s1.toks) fun b o e => Heap.get?_push_of_some _ e, turn_list a _, ⟨_, Heap.get?_push_size _ rfl, rfl, rfl⟩, fp, q⟩
  · obtain ⟨ts, _, tp, _⟩ := I1.tuple q1
    exact wpAny_pyIter_tuple tp ⟨_, [s1.heap.objs.size], _, _, H1, rfl, I1.kept (t' := s1.toks) fun b o e => Heap.get?_push_of_some _ e, turn_tuple a _, ⟨_, Heap.get?_push_size _ rfl, rfl, rfl⟩, fp, q⟩
end Sk
end

section
/-! sorted and max of data -/
namespace Sk
open PySem PySem.Spec PyProof.Rows L2
open PySem.W (AllAlike Sortable dataLe sortVals_data SortsAt sortingHeap sortingHeap_old EachIs)
theorem each_vals : ∀ {zs : List (V × PyData)} {us : List Value}, Vals (zs.map (·.1)) us → EachIs (fun v z => RelV z.1 v) us zs
  | [], _, .nil => .nil
  | _ :: _, _, .cons a b => .cons a (each_vals b)
theorem vals_each : ∀ {zs : List (V × PyData)} {us : List Value}, EachIs (fun v z => RelV z.1 v) us zs → Vals (zs.map (·.1)) us
  | [], _, .nil => .nil
  | _ :: _, _, .cons a b => .cons a (vals_each b)
/-- things that can be sorted -/
structure SortZ (K : PySem.W.Frag) (H : Hp) (zs : List (V × PyData)) : Prop where
  dp : ∀ z ∈ zs, Dp K H z.1 z.2
  al : AllAlike (zs.map (·.2))
  so : Sortable (zs.map (·.2))
  de : ∀ z ∈ zs, z.2.depth ≤ 8
  le : zs.length ≤ sizeLine
/-- these things, sorted -/
def sortZ (zs : List (V × PyData)) : List V := (zs.mergeSort (dataLe false (·.2))).map (·.1)
theorem reads_each {X : Cx} {pins : List (Addr × Obj)} {σ : L2.St} {H : Hp} {s1 : Shared} (J : Inv X pins σ H s1) {hp : Heap} (keep : ∀ b o, s1.heap.get? b = some o → hp.get? b = some o) {zs : List (V × PyData)} {us : List Value} (dp : ∀ z ∈ zs, Dp X.K H z.1 z.2)
    (e : EachIs (fun v z => RelV z.1 v) us zs) : EachIs (fun v z => ∃ as, Reads hp v z.2 as) us zs := by
  induction e with
  | nil => exact .nil
  | @cons v z vs zs a b ih =>
    obtain ⟨as, r⟩ := Dp.reads J z.2 z.1 v (dp z List.mem_cons_self) a
    exact .cons ⟨as, PyProof.Rows.Reads.keeps keep r⟩ (ih fun y hy => dp y (List.mem_cons_of_mem _ hy))
/-- sorted(r), whatever r is, once its things are collected -/
theorem sorted_by {X : Cx} (hu : X.A.units + 64 < cLine) {pins : List (Addr × Obj)} {s : Shared} {σ : L2.St} {H : Hp} {Q : VK} {r : Addr}
    (col : ∀ (R : List Value → Shared → Prop) (E : Value → Shared → Prop), (∀ us s1 zs, Inv X pins σ H s1 → Vals (zs.map (·.1)) us → SortZ X.K H zs → (∀ p, H p = none → Q (.ref p) (upd H p (.lst (sortZ zs)))) → R us s1) → wpAny (model X.prog X.w) X.A.in1 (collect (.ref r)) R E s) :
    wpAny (model X.prog X.w) X.A (call (.builtin "sorted") [.ref r]) (EP X pins σ Q) X.xe s := by
  refine Calls.call_function_entry kind_sorted plain_sorted entry_sorted (args_sorted1 (.ref r)) (?asked)
  unfold Builtin.«sorted»
  refine wpAny_bind (m := checkCount "sorted" 1 1 _) (wpAny_pure (wpAny_bind (col _ _ ?_)))
  intro us s1 zs J rel Z q
  have many : us.length = zs.length := by rw [← rel.length, List.length_map]
  have room : us.length ≤ sizeLine := many ▸ Z.le
  obtain ⟨hp, g1, g2, tk, g3⟩ := s1
  refine wpAny_bind (wpAny_newList ?_ room)
  generalize made : hp.push (seqObj "list" us.toArray 0) = hn
  have new : hn.get? hp.objs.size = some (seqObj "list" us.toArray 0) := made ▸ Heap.get?_push_size _ rfl
  have old : ∀ b o, hp.get? b = some o → b ≠ hp.objs.size ∧ hn.get? b = some o := fun b o g => ⟨Nat.ne_of_lt (Heap.lt_size g), made ▸ Heap.get?_push_of_some _ g⟩
  have ea := each_vals rel
  have er := reads_each (hp := sortingHeap hn hp.objs.size us) J (fun b o g => sortingHeap_old (old b o g).1 (old b o g).2) Z.dp ea
  have can : SortsAt X.prog X.w X.A.in1.in1 (⟨sortingHeap hn hp.objs.size us, g1, g2, tk, g3⟩ : Shared) (PySem.W.dataKind (sortingHeap hn hp.objs.size us) (zs.map fun z => z.2)) us := by
    refine SortsAt.data (s := ⟨sortingHeap hn hp.objs.size us, g1, g2, tk, g3⟩) (PySem.W.each_map (R := fun v d => ∃ as, Reads (sortingHeap hn hp.objs.size us) v d as) (fun z : V × PyData => z.2) er) Z.al Z.so fun d hd => ?_
    obtain ⟨z, hz, rfl⟩ := List.mem_map.mp hd
    have := Z.de z hz
    show X.A.units + 1 + 1 + z.2.depth < cLine
    omega
  show wpAny (model X.prog X.w) X.A.in1 _ _ _ (⟨hn, g1, g2, tk, g3⟩ : Shared)
  refine wpAny_bind (wpAny_holding (wpAny_call_entry slot_list_sort ⟨_, new, rfl⟩ entry_list_sort (PySem.W.list_sort_vals (s := ⟨hn, g1, g2, tk, g3⟩) new can room ⟨.none, rfl, ?_⟩) (args_list_sort (.ref hp.objs.size))))
  have eo := sortVals_data (R := fun v (z : V × PyData) => RelV z.1 v) false ea er Z.al
  generalize PySem.W.sortVals (PySem.W.dataKind (sortingHeap hn hp.objs.size us) (zs.map fun z => z.2)) false us us = out at eo
  obtain ⟨ep, at_⟩ := sortedHeap_at (vs := us) (out := out.toArray) new
  refine wpAny_pure ⟨_, rfl, .ref hp.objs.size, upd H hp.objs.size (.lst (sortZ zs)), J.laid (t' := tk) (fun b o g => ?_) (Nat.le_refl _) ⟨?_, out, ep, vals_each eo, at_⟩, rfl, q _ (J.hok.fresh (Nat.le_refl _))⟩
  · rw [sortedHeap_old (old b o g).1 (Heap.lt_size (old b o g).2)]
    exact (old b o g).2
  · rw [sortZ, List.length_map, List.length_mergeSort]
    exact Z.le
/-! ### sorted of a dict whose keys are tuples -/
def keyD : Key → PyData
  | .inl i => .int i
  | .inr x => .str x
def tupD (k : List Key) : PyData := .tuple (k.map keyD)
theorem dp_key {K : PySem.W.Frag} {H : Hp} : ∀ k : Key, Dp K H (kV k) (keyD k)
  | .inl i => .int i
  | .inr x => .str x
theorem dp_keys {K : PySem.W.Frag} {H : Hp} : ∀ ks : List Key, DpAll K H (ks.map kV) (ks.map keyD)
  | [] => .nil
  | k :: ks => .cons (dp_key k) (dp_keys ks)
theorem deep_keys : ∀ ks : List Key, PyData.depthAll (ks.map keyD) = 0
  | [] => rfl
  | .inl i :: ks => by simp [PyData.depthAll, PyData.depth, keyD, deep_keys ks]
  | .inr x :: ks => by simp [PyData.depthAll, PyData.depth, keyD, deep_keys ks]
/-- sorted(d): the key tuples themselves -/
def rSortedDT : List V → Hp → VK → Prop := fun xs H Q => ∃ (d : Addr) (kvs : List (List Key × V)), xs = [.ref d] ∧ Rd H d (.dT kvs) ∧ AllAlike (kvs.map fun x => tupD x.1) ∧ (∀ x ∈ kvs, x.1 ≠ []) ∧
  ∀ (bs : List Addr) (p : Addr), IsKeys H kvs bs → H p = none → Q (.ref p) (upd H p (.lst (sortZ ((kvs.zip bs).map fun x => (V.ref x.2, tupD x.1.1)))))
theorem paired_zip {α β : Type} {R : α → β → Prop} : ∀ {as : List α} {bs : List β}, Paired R as bs → ∀ x ∈ as.zip bs, R x.1 x.2
  | _, _, .nil, x, h => by cases h
  | _, _, .cons a b, x, h => by
    rcases List.mem_cons.mp h with rfl | h
    · exact a
    · exact paired_zip b x h
theorem cr_sortedDT {X : Cx} (hc : X.calm = true) (hu : X.A.units + 64 < cLine) : CallR X (.builtin "sorted") rSortedDT := by
  intro pins s σ H xs us Q I rel asked
  obtain ⟨d, kvs, rfl, hd, al, ne, q⟩ := asked
  obtain ⟨u, rfl, ru⟩ := rel.one
  cases ru
  obtain ⟨z, lo, ks, pr, o, es, ep, ho, hx, hdt, he, _⟩ := (show ObjOk X.prog X.w H s.heap d (.dT kvs) from hd.ok I.hok)
  have l1 : es.size = ks.length := size_of_entries he
  have l2 : kvs.length = ks.length := Paired.length pr
  have kk := isKeys_of pr
  have l3 : kvs.length = (ks.map fun x => x.2.1).length := by rw [List.length_map]; exact l2
  refine sorted_by (H := H) hu fun R E k => PySem.W.kdu_collect (A := X.A.in1) (kdl_raw lo hx hdt) (I.ok.hd hc) ho (by omega) fun h' tk acc kp it => ?_
  have ea : acc.toList = (ks.map fun x => x.2.1).map Value.ref := by
    have hl : acc.toList.length = ks.length := by rw [Array.length_toList, it.1]; exact l1
    refine List.ext_getElem (by simp [hl]) fun j j1 j2 => ?_
    have jk : j < ks.length := hl ▸ j1
    obtain ⟨en, hen, hv⟩ := it.2 j acc.toList[j] (by rw [← Array.getElem?_toList, List.getElem?_eq_getElem j1])
    have qe := entry_at he j
    rw [hen, List.getElem?_eq_getElem jk] at qe
    have e2 : en = entryOfKey (tupleKind (mixKind X.prog X.w)) ks[j] := Option.some.inj qe
    rw [hv, e2]
    simp [entryOfKey]
  have zf : ((kvs.zip (ks.map fun x => x.2.1)).map fun x => (V.ref x.2, tupD x.1.1)).map (·.1) = (ks.map fun x => x.2.1).map V.ref := by
    rw [List.map_map]
    have : ((kvs.zip (ks.map fun x => x.2.1)).map Prod.snd) = ks.map fun x => x.2.1 := List.map_snd_zip (Nat.le_of_eq l3.symm)
    conv => rhs; rw [← this, List.map_map]
    rfl
  refine k acc.toList _ _ (I.kept kp) ?_ ⟨?_, ?_, ?_, ?_, ?_⟩ fun p hp => q _ p kk hp
  · rw [zf, ea]
    exact vals_refs _
  · intro y hy
    obtain ⟨x, hx', rfl⟩ := List.mem_map.mp hy
    exact .tup (SqT.of (paired_zip kk x hx')) (dp_keys _)
  · have : (((kvs.zip (ks.map fun x => x.2.1)).map fun x => (V.ref x.2, tupD x.1.1)).map (·.2)) = kvs.map fun x => tupD x.1 := by
      rw [List.map_map]
      have : ((kvs.zip (ks.map fun x => x.2.1)).map Prod.fst) = kvs := List.map_fst_zip (Nat.le_of_eq l3)
      conv => rhs; rw [← this, List.map_map]
      rfl
    rw [this]
    exact al
  · refine .inl fun y hy => ?_
    obtain ⟨x, hx', rfl⟩ := List.mem_map.mp hy
    obtain ⟨v, hv, rfl⟩ := List.mem_map.mp hx'
    have := ne v.1 (List.of_mem_zip hv).1
    cases e : v.1.1 with
    | nil => exact absurd e this
    | cons a b => exact ⟨keyD a, b.map keyD, by simp [tupD, e]⟩
  · intro y hy
    obtain ⟨v, hv, rfl⟩ := List.mem_map.mp hy
    show PyData.depth (tupD v.1.1) ≤ 8
    simp [tupD, PyData.depth, deep_keys]
  · rw [List.length_map, List.length_zip]
    omega
end Sk
end

section
namespace Sk
open PySem L2
local macro_rules | `(tactic| walk_at "kb") => `(tactic| first | exact kb_int_int | exact kb_int_bool | exact kb_int_str | exact kb_int_tuple | exact kb_int_list | exact kb_tuple_int | exact kb_tuple_bool | exact kb_tuple_str | exact kb_tuple_tuple | exact kb_tuple_list | exact kb_list_int | exact kb_list_bool | exact kb_list_str | exact kb_list_tuple | exact kb_list_list | exact kb_bool_int | exact kb_bool_bool | exact kb_bool_str | exact kb_bool_tuple | exact kb_bool_list | exact kb_str_int | exact kb_str_bool | exact kb_str_str | exact kb_str_tuple | exact kb_str_list | exact kb_dict_int | exact kb_dict_bool | exact kb_dict_str | exact kb_dict_tuple | exact kb_dict_list | exact kb_NoneType_int | exact kb_NoneType_bool | exact kb_NoneType_str | exact kb_NoneType_tuple | exact kb_NoneType_list)
local macro_rules | `(tactic| walk_at "hp") => `(tactic| first
  | assumption
  | exact upd_same
  | (refine' upd_get ?n ?e; (case n => walk_at "ne"); (case e => walk_at "hp"))
  | (refine' But.get (by assumption) ?n ?e; (case n => walk_at "ne"); (case e => walk_at "hp"))
  | (refine' Ext.get (by assumption) ?n ?e; (case n => walk_at "ne"); (case e => walk_at "hp"))
  | (refine' same_get (by assumption) ?e; (case e => walk_at "hp")))
local macro_rules | `(tactic| walk_at "ne") => `(tactic| first
  | assumption
  | (apply Ne.symm; assumption)
  | (refine' ne_of_none ?h (by assumption); (case h => walk_at "hp"))
  | (apply Ne.symm; refine' ne_of_none ?h (by assumption); (case h => walk_at "hp")))
local macro_rules | `(tactic| walk_at "sd") => `(tactic| first
  | (show (0 : Int) < _; omega)
  | (simp only [CMul, CDiv]; omega)
  | exact ⟨by omega, by omega⟩)
local macro_rules | `(tactic| walk_at "rd1") => `(tactic| first
  | with_reducible refine' rd_c ?_
  | ((with_reducible refine' rd_var ?h ?_); (case h => exact rfl))
  | with_reducible refine' rd_op ?_
  | with_reducible refine' rd_seq ?_
  | with_reducible refine' rd_asg ?_
  | with_reducible refine' rd_gName ?_
  | with_reducible refine' rd_I0 ?_
  | ((with_reducible refine' rd_I ?c ?_); (case c => walk_at "sd"))
  | with_reducible refine' rd_eqI ?_
  | with_reducible refine' rd_neI ?_
  | with_reducible refine' rd_U ?_
  | with_reducible refine' rd_un ?_
  | with_reducible refine' rd_ret ?_
  | with_reducible refine' rd_drop ?_
  | with_reducible refine' rd_next ?_
  | with_reducible refine' rd_ifS ?_
  | with_reducible refine' rd_test ?_
  | with_reducible refine' rd_bl ?_
  | with_reducible refine' rd_nil ?_
  | with_reducible refine' rd_cons ?_
  | with_reducible refine' rd_tup ?_
  | with_reducible refine' rd_lst ?_
  | with_reducible refine' rd_call ?_
  | with_reducible refine' rd_cb ?_
  | with_reducible refine' rd_par ?_
  | with_reducible refine' rd_par2 ?_
  | with_reducible refine' rd_and ?_
  | with_reducible refine' rd_or ?_
  | with_reducible refine' rd_not ?_
  | with_reducible refine' rd_andV ?_
  | with_reducible refine' rd_orV ?_
  | with_reducible refine' rd_notV ?_
  | with_reducible refine' rd_if ?_
  | with_reducible refine' rd_gSub ?_
  | ((with_reducible refine' rd_ixL ?h ?e ?_); (case h => walk_at "hp"); (case e => exact rfl))
  | ((with_reducible refine' rd_ixT ?h ?e ?_); (case h => walk_at "hp"); (case e => exact rfl))
  | ((with_reducible refine' rd_setL ?h ?e ?_); (case h => walk_at "hp"); (case e => exact rfl))
  | ((with_reducible refine' rd_append ?h ?e ?_); (case h => walk_at "hp"); (case e => assumption))
  | (with_reducible refine' rd_bmL ?_)
  | ((with_reducible refine' And.intro (tyL ?h) ?_); (case h => walk_at "hp"))
  | ((with_reducible refine' And.intro (len_ok ?h) ?_); (case h => exact rfl))
  | with_reducible refine' rd_ex1 ?_
  | with_reducible refine' rd_ex2 ?_
  | with_reducible refine' rd_int1b ?_
  | ((with_reducible refine' rd_isiI ?e ?_); (case e => walk_at "kb"))
  | ((with_reducible refine' rd_isiB ?e ?_); (case e => walk_at "kb"))
  | ((with_reducible refine' rd_isiT ?h ?e ?_); (case h => walk_at "hp"); (case e => walk_at "kb"))
  | ((with_reducible refine' rd_isiL ?h ?e ?_); (case h => walk_at "hp"); (case e => walk_at "kb"))
  | ((with_reducible refine' rd_lenL ?h ?_); (case h => walk_at "hp"))
  | ((with_reducible refine' rd_lenT ?h ?_); (case h => walk_at "hp"))
  | ((with_reducible refine' rd_gTup ?h ?e ?_); (case h => walk_at "hp"); (case e => exact rfl))
  | with_reducible refine' rd_gCons ?_
  | with_reducible refine' rd_gNil ?_
  | with_reducible refine' rd_yes ?_
  | with_reducible refine' rd_for ?_
  | with_reducible refine' rd_lc ?_
  | with_reducible refine' rd_rng1 ?_
  | with_reducible refine' rd_iL ?_
  | with_reducible refine' rd_iT ?_
  | with_reducible refine' rd_iE ?_
  | with_reducible refine' rd_iZ ?_
  | ((with_reducible refine' rd_iL' ?h ?_); (case h => walk_at "hp"))
  | ((with_reducible refine' rd_iT' ?h ?_); (case h => walk_at "hp"))
  | ((with_reducible refine' rd_iE' ?h ?_); (case h => walk_at "hp"))
  | ((with_reducible refine' rd_iZ' ?h1 ?h2 ?_); (case h1 => walk_at "hp"); (case h2 => walk_at "hp"))
  | with_reducible refine' iteT ?_
  | with_reducible refine' iteF ?_)
local macro_rules | `(tactic| walk_at "rd") => `(tactic| repeat walk_at "rd1")

def top (i : Nat) : Stmt := PySem.Challenge.pw_stakecrates_k16_what_dealings_are.main.body.getD i (.Pass ⟨0, 0, 0, 0⟩)
abbrev sTake : Stmt := top 23
/-- a purse: its state, its digits, how often it was taken of -/
def Purse (H : Hp) (p : Addr) : Prop := ∃ a b c : Int, H p = some (.lst [.int a, .int b, .int c]) ∧ 0 ≤ a ∧ a < 2147483423 ∧ 0 ≤ b
def spTake : Sp := fun vs H Q _ => ∃ (p : Addr) (m : Int), vs = [.ref p, .int m] ∧ Purse H p ∧ 0 < m ∧ m < 1073741824 ∧
  ∀ (r : Int) (H' : Hp), 0 ≤ r → r < m → Purse H' p → But p H H' → Q (.int r) H'
theorem ite_dec {c A B : Prop} [Decidable c] (h1 : c → A) (h2 : ¬ c → B) : if decide c = true then A else B := by
  by_cases h : c
  · rw [decide_eq_true h]; exact iteT (h1 h)
  · rw [decide_eq_false h]; exact iteF (h2 h)
section
variable {P : Program} {w : World} {K : PySem.W.Frag} {mg : Str → Option Value} {base : Heap}
theorem scTake : FnScope ["_law_purse_here", "_law_many", "_law_old", "_law_taken"] ["_law_purse_here", "_law_many"] (defScope sTake) :=
  ⟨rfl, rfl, rfl, by decide +kernel, rfl, by decide +kernel, by decide +kernel⟩
theorem ok_take {f : Addr} {fd : FuncData} (F : Fun K "_law_take" "_law_take" sTake f fd) : FnOk P w K mg base CX0 1 f fd ["_law_purse_here", "_law_many"] spTake := by
  refine F.ok scTake (fun vs H Q E h => ?_) (fun cdv A outer s H vs Q E hr h => ?_)
  · obtain ⟨p, m, rfl, _⟩ := h
    rfl
  · obtain ⟨p, m, rfl, ⟨a, b, c, hp, ha, ha', hb⟩, hm, hm', k⟩ := h
    refine ⟨_, pss_cons (ps_asg (pe_op op_add (pe_ix ix_list (pv 0) pe_int (fun _ _ => rfl)) pe_int) (pg_sub (pv 0) pe_int set_list))
      (pss_cons (ps_set (i := 2) scTake.nd rfl (Or.inl rfl) (pe_ix ix_list (pv 0) pe_int (fun _ _ => rfl)))
      (pss_cons (ps_asg (pe_op op_mod (pe_op op_add (pe_op op_add (pe_op op_mul (pv 2) (pe_op op_add (pe_op op_mod (pv 2) pe_int) pe_int)) (pe_op op_mul pe_int (pe_ix ix_list (pv 0) pe_int (fun _ _ => rfl)))) pe_int) pe_int) (pg_sub (pv 0) pe_int set_list))
      (pss_cons (ps_if (pt_cmpR op_gt (pe_ix ix_list (pv 0) pe_int (fun _ _ => rfl)) pe_int (nomark _))
        (pss_cons (ps_set (i := 3) scTake.nd rfl (Or.inl rfl) (pe_op op_mod (pe_ix ix_list (pv 0) pe_int (fun _ _ => rfl)) (pv 1)))
        (pss_cons (ps_asg (pe_op op_fdiv (pe_ix ix_list (pv 0) pe_int (fun _ _ => rfl)) (pv 1)) (pg_sub (pv 0) pe_int set_list))
        (pss_one (ps_ret (pv 3))))) pss_nil)
      (pss_one (ps_ret (pe_op op_mod (pe_op op_fdiv (pe_ix ix_list (pv 0) pe_int (fun _ _ => rfl)) pe_int) (pv 1))))))), ?_⟩
    walk_at "rd"
    have hx := Int.emod_nonneg (a * (a % 45013 + 19013) + 91009 * (c + 1) + 11) (show (2147483423 : Int) ≠ 0 by decide)
    have hy := Int.emod_lt_of_pos (a * (a % 45013 + 19013) + 91009 * (c + 1) + 11) (show (0 : Int) < 2147483423 by decide)
    refine ite_dec (fun h => ?_) (fun h => ?_)
    · walk_at "rd"
      exact k _ _ (Int.emod_nonneg _ (by omega)) (Int.emod_lt_of_pos _ hm) ⟨_, _, _, upd_same, hx, hy, Int.ediv_nonneg hb (by omega)⟩ ((But.upd.trans But.upd).trans But.upd)
    · walk_at "rd"
      exact k _ _ (Int.emod_nonneg _ (by omega)) (Int.emod_lt_of_pos _ hm) ⟨_, _, _, upd_same, hx, hy, hb⟩ (But.upd.trans But.upd)
end
/-- a def that keeps its promise, under its name -/
structure Def (P : Program) (w : World) (K : PySem.W.Frag) (mg : Str → Option Value) (base : Heap) (x : Str) (k : Nat) (f : Addr) (fd : FuncData) (ps : List Str) (sp : Sp) : Prop where
  ok : FnOk P w K mg base CX0 k f fd ps sp
  mg : mg x = some (.ref f)
  kp : PySem.W.keepIn K (.ref f) = true
  bd : Binds K fd ps []
/-- the built-ins that the text leaves as they are -/
structure Free (mg : Str → Option Value) : Prop where
  len : mg "len" = none
  sum : mg "sum" = none
  abs : mg "abs" = none
  all : mg "all" = none
  any : mg "any" = none
  min : mg "min" = none
  max : mg "max" = none
  sorted : mg "sorted" = none
  range : mg "range" = none
  enumerate : mg "enumerate" = none
  zip : mg "zip" = none
  isinstance : mg "isinstance" = none
  tuple : mg "tuple" = none
  list : mg "list" = none
  int_ : mg "int" = none
  bool_ : mg "bool" = none
abbrev sCell : Stmt := top 21
theorem scCell : FnScope ["_law_script", "_law_k"] ["_law_script", "_law_k"] (defScope sCell) := ⟨rfl, rfl, rfl, by decide +kernel, rfl, by decide +kernel, by decide +kernel⟩
def spCell (K : PySem.W.Frag) : Sp := fun vs H Q _ => ∃ (a : Addr) (ns : List Int) (k : Nat), vs = [.ref a, .int k] ∧ SqL K H a (ns.map V.int) ∧ ∀ (n : Int) (H' : Hp), Same H H' → Q (.int n) H'
section
variable {P : Program} {w : World} {K : PySem.W.Frag} {mg : Str → Option Value} {base : Heap}
theorem ok_cell {f : Addr} {fd : FuncData} (F : Fun K "_law_cell" "_law_cell" sCell f fd) (T : Free mg) : FnOk P w K mg base CX0 1 f fd ["_law_script", "_law_k"] (spCell K) := by
  refine F.ok scCell (fun vs H Q E h => ?_) (fun cdv A outer s H vs Q E hr h => ?_)
  · obtain ⟨a, ns, k, rfl, _⟩ := h
    rfl
  · obtain ⟨a, ns, k, rfl, hs, kk⟩ := h
    refine ⟨_, (pss_cons (ps_if (pt_cmpR op_lt (pv 1) (pe_callB call_len (by rfl) T.len (by decide +kernel) (pa_cons (pv 0) pa_nil)) (nomark _)) 
        (pss_one (ps_ret (pe_ix ix_list (pv 0) (pv 1) (fun _ _ => rfl)))) pss_nil) 
      (pss_one (ps_ret (pe_op op_add (pe_op op_add (pe_op op_mul (pe_callB (cr_sum rfl) (by rfl) T.sum (by decide +kernel) (pa_cons (pe_slice sl_list (pv 0) po_none (po_some pe_int)) pa_nil)) pe_int) (pe_op op_mul pe_int (pe_op op_add (pv 1) pe_int))) pe_int)))), ?_⟩
    walk_at "rd"
    refine ⟨_, _, rfl, .inl ⟨_, hs, rfl⟩, ?_⟩
    walk_at "rd"
    refine ite_dec (fun h => ?_) (fun h => ?_)
    · walk_at "rd"
      have hk : k < ns.length := by simpa using h
      refine ⟨a, _, _, .int ns[k], rfl, rfl, hs, atI_nat (by simp [hk]), ?_⟩
      exact kk _ _ (Same.refl _)
    · walk_at "rd"
      refine ⟨_, rfl, 3, rfl, a, _, rfl, hs, fun p hp => ?_⟩
      walk_at "rd"
      refine rd_sum (ns := (ns.drop (HT.sIx (ns.map V.int).length 0 none)).take (HT.sIx (ns.map V.int).length (ns.map V.int).length (some 3) - HT.sIx (ns.map V.int).length 0 none)) (by rw [upd_same]; simp [cutV, List.map_drop, List.map_take]) ?_
      walk_at "rd"
      exact kk _ _ fun b o e => by rw [upd_ne (ne_of_none e hp)]; exact e
abbrev sPurse : Stmt := top 22
theorem scPurse : FnScope ["_law_cell_here", "_law_digits"] ["_law_cell_here"] (defScope sPurse) := ⟨rfl, rfl, rfl, by decide +kernel, rfl, by decide +kernel, by decide +kernel⟩
def spPurse : Sp := fun vs H Q _ => ∃ n : Int, vs = [.int n] ∧ ∀ (p : Addr) (H' : Hp), H p = none → Purse H' p → Same H H' → Q (.ref p) H'
theorem ok_purse {f : Addr} {fd : FuncData} (F : Fun K "_law_purse" "_law_purse" sPurse f fd) (T : Free mg) : FnOk P w K mg base CX0 1 f fd ["_law_cell_here"] spPurse := by
  refine F.ok scPurse (fun vs H Q E h => ?_) (fun cdv A outer s H vs Q E hr h => ?_)
  · obtain ⟨n, rfl, _⟩ := h
    rfl
  · obtain ⟨n, rfl, k⟩ := h
    have fin : ∀ (b : Int) (p : Addr), 0 ≤ b → H p = none → Q (.ref p) (upd H p (.lst [.int (n % 2147483423), .int b, .int 0])) := fun b p hb hp =>
      k p _ hp ⟨_, _, _, upd_same, Int.emod_nonneg _ (by decide), Int.emod_lt_of_pos _ (by decide), hb⟩ fun c o e => by rw [upd_ne (ne_of_none e hp)]; exact e
    refine ⟨_, (pss_cons (ps_set (i := 1) scPurse.nd rfl (by first | exact Or.inl rfl | exact Or.inr rfl) pe_int) 
      (pss_cons (ps_if (PW.pt (pw_or (pt_cmpR op_lt (pv 0) pe_int (nomark _)) (pw_or1 (pt_cmpR op_ge (pv 0) (pe_op op_pow pe_int pe_int) (nomark _))))) 
        (pss_one (ps_set (i := 1) scPurse.nd rfl (by first | exact Or.inl rfl | exact Or.inr rfl) (pe_callB call_abs (by rfl) T.abs (by decide +kernel) (pa_cons (pv 0) pa_nil)))) pss_nil) 
      (pss_one (ps_ret (pe_lst (pa_cons (pe_op op_mod (pv 0) pe_int) (pa_cons (pv 1) (pa_cons pe_int pa_nil)))))))), ?_⟩
    walk_at "rd"
    refine ite_dec (fun h => ?_) (fun h => ?_)
    · walk_at "rd"
      exact fun p hp => fin _ p (by split <;> omega) hp
    · walk_at "rd"
      refine ite_dec (fun h => ?_) (fun h => ?_)
      · walk_at "rd"
        exact fun p hp => fin _ p (by split <;> omega) hp
      · walk_at "rd"
        exact fun p hp => fin _ p (by decide) hp
abbrev sNum : Stmt := top 24
theorem scNum : FnScope ["_law_it"] ["_law_it"] (defScope sNum) := ⟨rfl, rfl, rfl, by decide +kernel, rfl, by decide +kernel, by decide +kernel⟩
def spNum : Sp := fun vs H Q _ => ∃ n : Int, vs = [.int n] ∧ Q (.bl true) H
theorem ok_num {f : Addr} {fd : FuncData} (F : Fun K "_law_number" "_law_number" sNum f fd) (T : Free mg) : FnOk P w K mg base CX0 1 f fd ["_law_it"] spNum := by
  refine F.ok scNum (fun vs H Q E h => ?_) (fun cdv A outer s H vs Q E hr h => ?_)
  · obtain ⟨n, rfl, _⟩ := h
    rfl
  · obtain ⟨n, rfl, k⟩ := h
    refine ⟨_, (pss_one (ps_ret (pe_and (pe_callB call_isi (by rfl) T.isinstance (by decide +kernel) (pa_cons (pv 0) (pa_cons (pe_bltn (v := .ty "int") (by rfl) T.int_ (by decide +kernel) rfl) pa_nil))) (pe_one (pe_not (pe_callB call_isi (by rfl) T.isinstance (by decide +kernel) (pa_cons (pv 0) (pa_cons (pe_bltn (v := .ty "bool") (by rfl) T.bool_ (by decide +kernel) rfl) pa_nil)))))))), ?_⟩
    walk_at "rd"
    exact k
abbrev sNums : Stmt := top 25
theorem scNums : FnScope ["_law_it", "_law_many", "_law_one"] ["_law_it", "_law_many"] (defScope sNums) := ⟨rfl, rfl, rfl, by decide +kernel, rfl, by decide +kernel, by decide +kernel⟩
def spNums : Sp := fun vs H Q _ => ∃ (t : Addr) (ns : List Int), vs = [.ref t, .int ns.length] ∧ H t = some (.tup (ns.map V.int)) ∧ ns.length ≤ 1000 ∧ ∀ H', Same H H' → Q (.bl true) H'
theorem ok_nums {f fN : Addr} {fd fdN : FuncData} (F : Fun K "_law_numbers" "_law_numbers" sNums f fd) (T : Free mg) (dNum : Def P w K mg base "_law_number" 1 fN fdN ["_law_it"] spNum) : FnOk P w K mg base CX0 2 f fd ["_law_it", "_law_many"] spNums := by
  refine F.ok scNums (fun vs H Q E h => ?_) (fun cdv A outer s H vs Q E hr h => ?_)
  · obtain ⟨t, ns, rfl, _⟩ := h
    rfl
  · obtain ⟨t, ns, rfl, ht, hl, k⟩ := h
    refine ⟨_, (pss_one (ps_ret (pe_and (pe_callB call_isi (by rfl) T.isinstance (by decide +kernel) (pa_cons (pv 0) (pa_cons (pe_bltn (v := .ty "tuple") (by rfl) T.tuple (by decide +kernel) rfl) pa_nil))) (pe_and (pe_cmpR op_eq (pe_callB call_len (by rfl) T.len (by decide +kernel) (pa_cons (pv 0) pa_nil)) (pv 1) (nomark _)) (pe_one (pe_callB (cr_all rfl) (by rfl) T.all (by decide +kernel) (pa_cons (pe_lc (own := [("_law_one", 2)]) (tt := tYes) rfl scNums.nd (pi_tup (pv 0)) (blkOk_by (N := ["_law_it", "_law_many", "_law_one"]) (sc := defScope sNums) (by decide +kernel)) (fun _ _ _ _ _ => (pg_name (i := 2) scNums.nd rfl (by first | exact Or.inl rfl | exact Or.inr rfl))) (fun _ _ _ _ _ => pts_nil) (fun _ _ _ _ _ => (pe_call dNum.ok (hr.mono (by decide)) (by rfl) dNum.mg dNum.kp dNum.bd .nil pass0 (pa_cons (pv 2) pa_nil)))) pa_nil))))))), ?_⟩
    walk_at "rd"
    refine ite_dec (fun h => ?_) (fun h => (h (by simp)).elim)
    walk_at "rd"
    intro D hD
    refine lcA (p := D) (walk_tup (xs := ns.map V.int)) (fun i acc _ => acc = List.replicate i (V.bl true)) hD (by simp; omega) rfl (fun H' e => SqT.of (e.get (ne_of_none ht hD) ht)) ?_ ?_
    · rintro i x H1 H1' acc M hi e q l a ⟨rfl, y⟩ k1 k2
      obtain ⟨n, rfl⟩ : ∃ n, x = V.int n := by
        rw [List.getElem?_map] at y
        cases z : ns[i]? with
        | none => rw [z] at y; cases y
        | some n => rw [z] at y; exact ⟨n, (Option.some.inj y).symm⟩
      walk_at "rd"
      refine ⟨rfl, ?_⟩
      walk_at "rd"
      refine ⟨n, rfl, ?_⟩
      refine k1 _ _ e q ?_
      subst a
      rw [List.replicate_succ']
    · intro H' acc e q l a
      walk_at "rd"
      subst a
      refine rd_all (bs := List.replicate ns.length true) (by rw [q]; simp) ?_
      have : (List.replicate ns.length true).all id = true := by simp
      rw [this]
      exact k H' fun b o hb => e b o (ne_of_none hb hD) hb
end
end Sk
end

section
namespace Sk
open PySem L2
local macro_rules | `(tactic| walk_at "kb") => `(tactic| first | exact kb_int_int | exact kb_int_bool | exact kb_int_str | exact kb_int_tuple | exact kb_int_list | exact kb_tuple_int | exact kb_tuple_bool | exact kb_tuple_str | exact kb_tuple_tuple | exact kb_tuple_list | exact kb_list_int | exact kb_list_bool | exact kb_list_str | exact kb_list_tuple | exact kb_list_list | exact kb_bool_int | exact kb_bool_bool | exact kb_bool_str | exact kb_bool_tuple | exact kb_bool_list | exact kb_str_int | exact kb_str_bool | exact kb_str_str | exact kb_str_tuple | exact kb_str_list | exact kb_dict_int | exact kb_dict_bool | exact kb_dict_str | exact kb_dict_tuple | exact kb_dict_list | exact kb_NoneType_int | exact kb_NoneType_bool | exact kb_NoneType_str | exact kb_NoneType_tuple | exact kb_NoneType_list)
local macro_rules | `(tactic| walk_at "hp") => `(tactic| first
  | assumption
  | exact upd_same
  | (refine' upd_get ?n ?e; (case n => walk_at "ne"); (case e => walk_at "hp"))
  | (refine' But.get (by assumption) ?n ?e; (case n => walk_at "ne"); (case e => walk_at "hp"))
  | (refine' Ext.get (by assumption) ?n ?e; (case n => walk_at "ne"); (case e => walk_at "hp"))
  | (refine' same_get (by assumption) ?e; (case e => walk_at "hp")))
local macro_rules | `(tactic| walk_at "ne") => `(tactic| first
  | assumption
  | (apply Ne.symm; assumption)
  | (refine' ne_of_none ?h (by assumption); (case h => walk_at "hp"))
  | (apply Ne.symm; refine' ne_of_none ?h (by assumption); (case h => walk_at "hp")))
local macro_rules | `(tactic| walk_at "sd") => `(tactic| first
  | (show (0 : Int) < _; omega)
  | (simp only [CMul, CDiv]; omega)
  | exact ⟨by omega, by omega⟩)
local macro_rules | `(tactic| walk_at "rd1") => `(tactic| first
  | with_reducible refine' rd_c ?_
  | ((with_reducible refine' rd_var ?h ?_); (case h => exact rfl))
  | with_reducible refine' rd_op ?_
  | with_reducible refine' rd_seq ?_
  | with_reducible refine' rd_asg ?_
  | with_reducible refine' rd_gName ?_
  | with_reducible refine' rd_I0 ?_
  | ((with_reducible refine' rd_I ?c ?_); (case c => walk_at "sd"))
  | with_reducible refine' rd_eqI ?_
  | with_reducible refine' rd_neI ?_
  | with_reducible refine' rd_U ?_
  | with_reducible refine' rd_un ?_
  | with_reducible refine' rd_ret ?_
  | with_reducible refine' rd_drop ?_
  | with_reducible refine' rd_next ?_
  | with_reducible refine' rd_ifS ?_
  | with_reducible refine' rd_test ?_
  | with_reducible refine' rd_bl ?_
  | with_reducible refine' rd_nil ?_
  | with_reducible refine' rd_cons ?_
  | with_reducible refine' rd_tup ?_
  | with_reducible refine' rd_lst ?_
  | with_reducible refine' rd_call ?_
  | with_reducible refine' rd_cb ?_
  | with_reducible refine' rd_par ?_
  | with_reducible refine' rd_par2 ?_
  | with_reducible refine' rd_and ?_
  | with_reducible refine' rd_or ?_
  | with_reducible refine' rd_not ?_
  | with_reducible refine' rd_andV ?_
  | with_reducible refine' rd_orV ?_
  | with_reducible refine' rd_notV ?_
  | with_reducible refine' rd_if ?_
  | with_reducible refine' rd_gSub ?_
  | ((with_reducible refine' rd_ixL ?h ?e ?_); (case h => walk_at "hp"); (case e => exact rfl))
  | ((with_reducible refine' rd_ixT ?h ?e ?_); (case h => walk_at "hp"); (case e => exact rfl))
  | ((with_reducible refine' rd_setL ?h ?e ?_); (case h => walk_at "hp"); (case e => exact rfl))
  | ((with_reducible refine' rd_append ?h ?e ?_); (case h => walk_at "hp"); (case e => assumption))
  | (with_reducible refine' rd_bmL ?_)
  | ((with_reducible refine' And.intro (tyL ?h) ?_); (case h => walk_at "hp"))
  | ((with_reducible refine' And.intro (len_ok ?h) ?_); (case h => exact rfl))
  | with_reducible refine' rd_ex1 ?_
  | with_reducible refine' rd_ex2 ?_
  | with_reducible refine' rd_int1b ?_
  | ((with_reducible refine' rd_isiI ?e ?_); (case e => walk_at "kb"))
  | ((with_reducible refine' rd_isiB ?e ?_); (case e => walk_at "kb"))
  | ((with_reducible refine' rd_isiT ?h ?e ?_); (case h => walk_at "hp"); (case e => walk_at "kb"))
  | ((with_reducible refine' rd_isiL ?h ?e ?_); (case h => walk_at "hp"); (case e => walk_at "kb"))
  | ((with_reducible refine' rd_lenL ?h ?_); (case h => walk_at "hp"))
  | ((with_reducible refine' rd_lenT ?h ?_); (case h => walk_at "hp"))
  | ((with_reducible refine' rd_gTup ?h ?e ?_); (case h => walk_at "hp"); (case e => exact rfl))
  | with_reducible refine' rd_gCons ?_
  | with_reducible refine' rd_gNil ?_
  | with_reducible refine' rd_yes ?_
  | with_reducible refine' rd_for ?_
  | with_reducible refine' rd_lc ?_
  | with_reducible refine' rd_rng1 ?_
  | with_reducible refine' rd_iL ?_
  | with_reducible refine' rd_iT ?_
  | with_reducible refine' rd_iE ?_
  | with_reducible refine' rd_iZ ?_
  | ((with_reducible refine' rd_iL' ?h ?_); (case h => walk_at "hp"))
  | ((with_reducible refine' rd_iT' ?h ?_); (case h => walk_at "hp"))
  | ((with_reducible refine' rd_iE' ?h ?_); (case h => walk_at "hp"))
  | ((with_reducible refine' rd_iZ' ?h1 ?h2 ?_); (case h1 => walk_at "hp"); (case h2 => walk_at "hp"))
  | with_reducible refine' iteT ?_
  | with_reducible refine' iteF ?_)
local macro_rules | `(tactic| walk_at "rd") => `(tactic| repeat walk_at "rd1")

theorem Purse.ne {H : Hp} {p l : Addr} (h : Purse H p) (n : H l = none) : l ≠ p := by
  obtain ⟨a, b, c, e, _⟩ := h
  exact (ne_of_none e n).symm
theorem Purse.upd {H : Hp} {p l : Addr} {o : HO} (h : Purse H p) (n : l ≠ p) : Purse (upd H l o) p := by
  obtain ⟨a, b, c, e, r⟩ := h
  exact ⟨a, b, c, (upd_ne n.symm).trans e, r⟩
theorem Purse.ts {H H' : Hp} {p : Addr} (h : Purse H p) (e : Ext p H H') : TSt H H' := by
  obtain ⟨a, b, c, q, _⟩ := h
  exact e.ts q
theorem rd_ixI {K : PySem.W.Frag} {H : Hp} {Q : VK} {p : Addr} {ns : List Int} {i : Int} (h : H p = some (.lst (ns.map V.int))) (h0 : 0 ≤ i) (h1 : i < ns.length) (k : ∀ w, w ∈ ns → Q (.int w) H) : rIxL K (.ref p) (.int i) H Q := by
  obtain ⟨j, rfl⟩ : ∃ j : Nat, i = j := ⟨i.toNat, by omega⟩
  have hj : j < ns.length := by omega
  exact ⟨p, _, _, .int ns[j], rfl, rfl, SqL.of h, atI_nat (by simp [hj]), k _ (List.getElem_mem hj)⟩
theorem Purse.net {H : Hp} {p t : Addr} {xs : List V} (h : Purse H p) (e : H t = some (.tup xs)) : t ≠ p := by
  obtain ⟨a, b, c, q, _⟩ := h
  exact ne_kind e q ne_tl
/-- a draw: what _law_take promises, for whoever calls it -/
theorem rd_take {H : Hp} {Q : VK} {E : XK} {p : Addr} {m : Int} (P : Purse H p) (h0 : 0 < m) (h1 : m < 1073741824) (k : ∀ (r : Int) (H' : Hp), 0 ≤ r → r < m → Purse H' p → But p H H' → Q (.int r) H') : spTake ([.ref p, .int m] ++ []) H Q E :=
  ⟨p, m, rfl, P, h0, h1, k⟩
def t3 (o : Int × Int × Int) : List Int := [o.1, o.2.1, o.2.2]
structure OutsOk (os : List (Int × Int × Int)) : Prop where
  rise : os.Pairwise fun a b => a.1 < b.1
  bnd : ∀ o ∈ os, (0 ≤ o.1 ∧ o.1 ≤ 7800) ∧ (1 ≤ o.2.1 ∧ o.2.1 ≤ 99999) ∧ (0 ≤ o.2.2 ∧ o.2.2 ≤ 9999)
  len : os.length ≤ 18
def spOuts : Sp := fun vs H Q _ => ∃ (p : Addr) (many most : Int), vs = [.ref p, .int many, .int most] ∧ Purse H p ∧ (0 ≤ many ∧ many ≤ 18) ∧ (1 ≤ most ∧ most ≤ 99999) ∧
  ∀ (H' : Hp) (l : Addr) (us : List V) (os : List (Int × Int × Int)), Ext p H H' → Purse H' p → H l = none → H' l = some (.lst us) → Rows H' us (os.map t3) → OutsOk os → (∀ o ∈ os, o.2.1 ≤ most) → Q (.ref l) H'
/-- how far the days of outs may come -/
def step (many : Int) : Int := if 12 < many then 9 else 700
theorem outs_snoc {many : Int} {os : List (Int × Int × Int)} {when d m a : Int} {i : Nat} (hm : many ≤ 18) (hi : (i : Int) < many) (hl : os.length = i) (hr : os.Pairwise fun a b => a.1 < b.1)
    (hb : ∀ o ∈ os, (0 ≤ o.1 ∧ o.1 ≤ 7800) ∧ (1 ≤ o.2.1 ∧ o.2.1 ≤ 99999) ∧ (0 ≤ o.2.2 ∧ o.2.2 ≤ 9999)) (hw : ∀ o ∈ os, o.1 < when) (h0 : 0 ≤ when) (h1 : when ≤ 49 + step many * i) (hm1 : 1 ≤ m ∧ m ≤ 99999) (ha : 0 ≤ a ∧ a ≤ 9999) (hd : when < d) (hd2 : d ≤ when + step many) :
    (os ++ [(when, m, a)]).length = i + 1 ∧ (os ++ [(when, m, a)]).Pairwise (fun a b => a.1 < b.1) ∧ (∀ o ∈ os ++ [(when, m, a)], (0 ≤ o.1 ∧ o.1 ≤ 7800) ∧ (1 ≤ o.2.1 ∧ o.2.1 ≤ 99999) ∧ (0 ≤ o.2.2 ∧ o.2.2 ≤ 9999)) ∧
    (∀ o ∈ os ++ [(when, m, a)], o.1 < d) ∧ 0 ≤ d ∧ d ≤ 49 + step many * ((i + 1 : Nat) : Int) := by
  have hs : when ≤ 7800 := by
    unfold step at h1
    split at h1 <;> omega
  have e : step many * ((i + 1 : Nat) : Int) = step many * i + step many := by
    rw [Int.natCast_add, Int.mul_add]; simp
  refine ⟨by simp [hl], ?_, ?_, ?_, by omega, by rw [e]; omega⟩
  · rw [List.pairwise_append]
    refine ⟨hr, by simp, fun x hx y hy => ?_⟩
    simp at hy
    subst hy
    exact hw x hx
  · intro o ho
    rcases List.mem_append.mp ho with ho | ho
    · exact hb o ho
    · simp at ho
      subst ho
      exact ⟨⟨h0, hs⟩, hm1, ha⟩
  · intro o ho
    rcases List.mem_append.mp ho with ho | ho
    · have := hw o ho
      omega
    · simp at ho
      subst ho
      exact hd
theorem map_snoc {α β : Type} (f : α → β) (l : List α) (x : α) : (l ++ [x]).map f = l.map f ++ [f x] := by simp
abbrev sOuts : Stmt := top 26
theorem scOuts : FnScope ["_law_purse_here", "_law_many", "_law_most", "_law_found", "_law_when", "_law_k", "_law_amount"] ["_law_purse_here", "_law_many", "_law_most"] (defScope sOuts) := ⟨rfl, rfl, rfl, by decide +kernel, rfl, by decide +kernel, by decide +kernel⟩
section
variable {P : Program} {w : World} {K : PySem.W.Frag} {mg : Str → Option Value} {base : Heap}
theorem ok_outs {f fT : Addr} {fd fdT : FuncData} (F : Fun K "_law_outs" "_law_outs" sOuts f fd) (T : Free mg) (dT : Def P w K mg base "_law_take" 1 fT fdT ["_law_purse_here", "_law_many"] spTake) :
    FnOk P w K mg base CX0 2 f fd ["_law_purse_here", "_law_many", "_law_most"] spOuts := by
  refine F.ok scOuts (fun vs H Q E h => ?_) (fun cdv A outer s H vs Q E hr h => ?_)
  · obtain ⟨p, many, most, rfl, _⟩ := h
    rfl
  · obtain ⟨p, many, most, rfl, P0, ⟨hm0, hm1⟩, ⟨ho0, ho1⟩, k⟩ := h
    refine ⟨_, (pss_cons (ps_par (i := 3) (j := 4) (by rfl) scOuts.nd rfl rfl (by decide) rfl rfl (pa_cons (pe_lst pa_nil) (pa_cons (pe_ix ix_list (pe_lst (pa_cons pe_int (pa_cons (pe_call dT.ok (hr.mono (by decide)) (by rfl) dT.mg dT.kp dT.bd .nil pass0 (pa_cons (pv 0) (pa_cons pe_int pa_nil))) pa_nil))) (pe_call dT.ok (hr.mono (by decide)) (by rfl) dT.mg dT.kp dT.bd .nil pass0 (pa_cons (pv 0) (pa_cons pe_int pa_nil))) (fun _ _ => rfl)) pa_nil)) (by rfl)) 
      (pss_cons (ps_for PassesOwn.never rfl (pi_range1 (by rfl) T.range (pa_cons (pv 1) pa_nil)) (pg_name (i := 5) scOuts.nd rfl (by first | exact Or.inl rfl | exact Or.inr rfl)) 
        (pss_cons (ps_set (i := 6) scOuts.nd rfl (by first | exact Or.inl rfl | exact Or.inr rfl) (pe_ix ix_list (pe_lst (pa_cons pe_int (pa_cons pe_int (pa_cons pe_int (pa_cons (pe_call dT.ok (hr.mono (by decide)) (by rfl) dT.mg dT.kp dT.bd .nil pass0 (pa_cons (pv 0) (pa_cons pe_int pa_nil))) (pa_cons (pe_call dT.ok (hr.mono (by decide)) (by rfl) dT.mg dT.kp dT.bd .nil pass0 (pa_cons (pv 0) (pa_cons pe_int pa_nil))) pa_nil)))))) (pe_call dT.ok (hr.mono (by decide)) (by rfl) dT.mg dT.kp dT.bd .nil pass0 (pa_cons (pv 0) (pa_cons pe_int pa_nil))) (fun _ _ => rfl))) 
        (pss_cons (ps_expr (pe_bm PySem.F.plainAttrs_list PySem.F.slot_list_append PySem.F.type_list_append mt_append (pv 3) (pa_cons (pe_tup (pa_cons (pv 4) (pa_cons (pe_op op_add pe_int (pe_call dT.ok (hr.mono (by decide)) (by rfl) dT.mg dT.kp dT.bd .nil pass0 (pa_cons (pv 0) (pa_cons (pv 2) pa_nil)))) (pa_cons (pv 6) pa_nil)))) pa_nil))) 
        (pss_one (ps_set (i := 4) scOuts.nd rfl (by first | exact Or.inl rfl | exact Or.inr rfl) (pe_op op_add (pe_op op_add (pv 4) pe_int) (pe_call dT.ok (hr.mono (by decide)) (by rfl) dT.mg dT.kp dT.bd .nil pass0 (pa_cons (pv 0) (pa_cons (pe_ix ix_list (pe_lst (pa_cons pe_int (pa_cons pe_int (pa_cons (pe_ix ix_list (pe_lst (pa_cons pe_int (pa_cons pe_int pa_nil))) (pe_callTy call_int1 (by rfl) T.int_ (by decide +kernel) (pa_cons (pe_cmpR op_gt (pv 1) pe_int (nomark _)) pa_nil)) (fun _ _ => rfl)) pa_nil)))) (pe_call dT.ok (hr.mono (by decide)) (by rfl) dT.mg dT.kp dT.bd .nil pass0 (pa_cons (pv 0) (pa_cons pe_int pa_nil))) (fun _ _ => rfl)) pa_nil))))))))) 
      (pss_one (ps_ret (pv 3))))), ?_⟩
    walk_at "rd"
    intro l hl
    have hlp := P0.ne hl
    walk_at "rd"
    refine rd_take (P0.upd hlp) (by decide) (by decide) (fun r1 H1 a1 b1 P1 B1 => ?_)
    walk_at "rd"
    intro q hq
    have hqp := P1.ne hq
    walk_at "rd"
    refine rd_take (P1.upd hqp) (by decide) (by decide) (fun r2 H2 a2 b2 P2 B2 => ?_)
    refine rd_ixI (ns := [0, r1]) (by walk_at "hp") a2 (by simpa using b2) (fun w0 hw0 => ?_)
    have hw0' : 0 ≤ w0 ∧ w0 ≤ 49 := by simp at hw0; omega
    walk_at "rd"
    have E2 : Ext p H H2 := (((Ext.new Ext.refl hl).trans B1.ext).new hq).trans B2.ext
    have hL2 : H2 l = some (.lst []) := by walk_at "hp"
    refine ⟨by omega, by omega, loopW walk_range (fun i σ G => ∃ (os : List (Int × Int × Int)) (us : List V) (when : Int) (v5 v6 : Option V),
      σ = [some (.ref p), some (.int many), some (.int most), some (.ref l), some (.int when), v5, v6] ∧ Ext p H G ∧ Purse G p ∧ G l = some (.lst us) ∧ Rows G us (os.map t3) ∧
      os.length = i ∧ (os.Pairwise fun a b => a.1 < b.1) ∧ (∀ o ∈ os, (0 ≤ o.1 ∧ o.1 ≤ 7800) ∧ (1 ≤ o.2.1 ∧ o.2.1 ≤ 99999) ∧ (0 ≤ o.2.2 ∧ o.2.2 ≤ 9999)) ∧ (∀ o ∈ os, o.1 < when) ∧ 0 ≤ when ∧ when ≤ 49 + step many * (i : Int) ∧ ∀ o ∈ os, o.2.1 ≤ most)
      ⟨[], [], w0, none, none, rfl, E2, P2, hL2, True.intro, rfl, List.Pairwise.nil, by simp, by simp, hw0'.1, by simpa using hw0'.2, by simp⟩ (fun _ _ _ _ _ => True.intro) ?_ ?_⟩
    · rintro i x σ G G' hi ⟨os, us, when, v5, v6, rfl, eG, PG, hL, hR, hlen, h1, h2, h3, h4, h5, h6⟩ ⟨rfl, rfl⟩
      have hul : us.length < sizeLine := by
        have := hR.length
        rw [List.length_map] at this
        exact small1000 (by omega)
      have hlen' : (i : Int) < many := by omega
      walk_at "rd"
      refine rd_take PG (by decide) (by decide) (fun r3 G1 a3 b3 Q1 C1 => ?_)
      walk_at "rd"
      refine rd_take Q1 (by decide) (by decide) (fun r4 G2 a4 b4 Q2 C2 => ?_)
      walk_at "rd"
      intro q1 hq1
      have hq1p := Q2.ne hq1
      walk_at "rd"
      refine rd_take (Q2.upd hq1p) (by decide) (by decide) (fun r5 G3 a5 b5 Q3 C3 => ?_)
      refine rd_ixI (ns := [0, 8, 8, r3, r4]) (by walk_at "hp") a5 (by simpa using b5) (fun am ham => ?_)
      have ham' : 0 ≤ am ∧ am ≤ 9999 := by simp at ham; omega
      walk_at "rd"
      refine rd_take Q3 (by omega) (by omega) (fun r6 G4 a6 b6 Q4 C4 => ?_)
      walk_at "rd"
      intro t ht
      have htp := Q4.ne ht
      walk_at "rd"
      intro q2 hq2
      have hq2p := ((Q4.upd htp).upd hlp).ne hq2
      walk_at "rd"
      have hst : atI [V.int 700, V.int 9] (if decide (12 < many) = true then 1 else 0) = some (.int (step many)) := by
        unfold step
        by_cases h : 12 < many
        · simp [h]; rfl
        · simp [h]; rfl
      refine rd_ixL (by walk_at "hp") hst ?_
      walk_at "rd"
      intro q3 hq3
      have hq3p := (((Q4.upd htp).upd hlp).upd hq2p).ne hq3
      walk_at "rd"
      refine rd_take ((((Q4.upd htp).upd hlp).upd hq2p).upd hq3p) (by decide) (by decide) (fun r7 G5 a7 b7 Q5 C5 => ?_)
      refine rd_ixI (ns := [1, 4, step many]) (by walk_at "hp") a7 (by simpa using b7) (fun w1 hw1 => ?_)
      have hs1 : 9 ≤ step many ∧ step many ≤ 700 := by unfold step; split <;> omega
      have hw1' : 1 ≤ w1 ∧ w1 ≤ step many := by simp at hw1; omega
      walk_at "rd"
      refine rd_take Q5 (by omega) (by omega) (fun r8 G6 a8 b8 Q6 C6 => ?_)
      walk_at "rd"
      have TS1 : TSt G' G6 := fun t0 xs0 h0 => by
        have n1 : t0 ≠ l := ne_kind h0 hL ne_tl
        have n2 : t0 ≠ p := PG.net h0
        walk_at "hp"
      obtain ⟨c1, c2, c3, c4, c5, c6⟩ := outs_snoc (m := 1 + r6) (a := am) (d := when + 1 + r8) hm1 hlen' hlen h1 h2 h3 h4 h5 (by omega) ham' (by omega) (by omega)
      refine ⟨os ++ [(when, 1 + r6, am)], us ++ [.ref t], when + 1 + r8, _, _, rfl, fun b o nb eb => ?_, Q6, by walk_at "hp", ?_, c1, c2, c3, c4, c5, c6, ?_⟩
      · have := eG b o nb eb
        have nl : b ≠ l := ne_of_none eb hl
        walk_at "hp"
      · rw [map_snoc]
        exact (hR.mono TS1).snoc ⟨t, rfl, by walk_at "hp"⟩
      · intro o ho
        rcases List.mem_append.mp ho with ho | ho
        · exact h6 o ho
        · simp at ho
          subst ho
          show 1 + r6 ≤ most
          omega
    · rintro σ G ⟨os, us, when, v5, v6, rfl, eG, PG, hL, hR, hlen, h1, h2, h3, h4, h5, h6⟩
      walk_at "rd"
      exact k G l us os eG PG hl hL hR ⟨h1, h2, by omega⟩ h6
end
end Sk
end

section
namespace Sk
open PySem L2
local macro_rules | `(tactic| walk_at "kb") => `(tactic| first | exact kb_int_int | exact kb_int_bool | exact kb_int_str | exact kb_int_tuple | exact kb_int_list | exact kb_tuple_int | exact kb_tuple_bool | exact kb_tuple_str | exact kb_tuple_tuple | exact kb_tuple_list | exact kb_list_int | exact kb_list_bool | exact kb_list_str | exact kb_list_tuple | exact kb_list_list | exact kb_bool_int | exact kb_bool_bool | exact kb_bool_str | exact kb_bool_tuple | exact kb_bool_list | exact kb_str_int | exact kb_str_bool | exact kb_str_str | exact kb_str_tuple | exact kb_str_list | exact kb_dict_int | exact kb_dict_bool | exact kb_dict_str | exact kb_dict_tuple | exact kb_dict_list | exact kb_NoneType_int | exact kb_NoneType_bool | exact kb_NoneType_str | exact kb_NoneType_tuple | exact kb_NoneType_list)
local macro_rules | `(tactic| walk_at "hp") => `(tactic| first
  | assumption
  | exact upd_same
  | (refine' upd_get ?n ?e; (case n => walk_at "ne"); (case e => walk_at "hp"))
  | (refine' But.get (by assumption) ?n ?e; (case n => walk_at "ne"); (case e => walk_at "hp"))
  | (refine' Ext.get (by assumption) ?n ?e; (case n => walk_at "ne"); (case e => walk_at "hp"))
  | (refine' same_get (by assumption) ?e; (case e => walk_at "hp")))
local macro_rules | `(tactic| walk_at "ne") => `(tactic| first
  | assumption
  | (apply Ne.symm; assumption)
  | (refine' ne_of_none ?h (by assumption); (case h => walk_at "hp"))
  | (apply Ne.symm; refine' ne_of_none ?h (by assumption); (case h => walk_at "hp")))
local macro_rules | `(tactic| walk_at "sd") => `(tactic| first
  | (show (0 : Int) < _; omega)
  | (simp only [CMul, CDiv]; omega)
  | exact ⟨by omega, by omega⟩)
local macro_rules | `(tactic| walk_at "rd1") => `(tactic| first
  | with_reducible refine' rd_c ?_
  | ((with_reducible refine' rd_var ?h ?_); (case h => exact rfl))
  | with_reducible refine' rd_op ?_
  | with_reducible refine' rd_seq ?_
  | with_reducible refine' rd_asg ?_
  | with_reducible refine' rd_gName ?_
  | with_reducible refine' rd_I0 ?_
  | ((with_reducible refine' rd_I ?c ?_); (case c => walk_at "sd"))
  | with_reducible refine' rd_eqI ?_
  | with_reducible refine' rd_neI ?_
  | with_reducible refine' rd_U ?_
  | with_reducible refine' rd_un ?_
  | with_reducible refine' rd_ret ?_
  | with_reducible refine' rd_drop ?_
  | with_reducible refine' rd_next ?_
  | with_reducible refine' rd_ifS ?_
  | with_reducible refine' rd_test ?_
  | with_reducible refine' rd_bl ?_
  | with_reducible refine' rd_nil ?_
  | with_reducible refine' rd_cons ?_
  | with_reducible refine' rd_tup ?_
  | with_reducible refine' rd_lst ?_
  | with_reducible refine' rd_call ?_
  | with_reducible refine' rd_cb ?_
  | with_reducible refine' rd_par ?_
  | with_reducible refine' rd_par2 ?_
  | with_reducible refine' rd_and ?_
  | with_reducible refine' rd_or ?_
  | with_reducible refine' rd_not ?_
  | with_reducible refine' rd_andV ?_
  | with_reducible refine' rd_orV ?_
  | with_reducible refine' rd_notV ?_
  | with_reducible refine' rd_if ?_
  | with_reducible refine' rd_gSub ?_
  | ((with_reducible refine' rd_ixL ?h ?e ?_); (case h => walk_at "hp"); (case e => exact rfl))
  | ((with_reducible refine' rd_ixT ?h ?e ?_); (case h => walk_at "hp"); (case e => exact rfl))
  | ((with_reducible refine' rd_setL ?h ?e ?_); (case h => walk_at "hp"); (case e => exact rfl))
  | ((with_reducible refine' rd_append ?h ?e ?_); (case h => walk_at "hp"); (case e => assumption))
  | (with_reducible refine' rd_bmL ?_)
  | ((with_reducible refine' And.intro (tyL ?h) ?_); (case h => walk_at "hp"))
  | ((with_reducible refine' And.intro (len_ok ?h) ?_); (case h => exact rfl))
  | with_reducible refine' rd_ex1 ?_
  | with_reducible refine' rd_ex2 ?_
  | with_reducible refine' rd_int1b ?_
  | ((with_reducible refine' rd_isiI ?e ?_); (case e => walk_at "kb"))
  | ((with_reducible refine' rd_isiB ?e ?_); (case e => walk_at "kb"))
  | ((with_reducible refine' rd_isiT ?h ?e ?_); (case h => walk_at "hp"); (case e => walk_at "kb"))
  | ((with_reducible refine' rd_isiL ?h ?e ?_); (case h => walk_at "hp"); (case e => walk_at "kb"))
  | ((with_reducible refine' rd_lenL ?h ?_); (case h => walk_at "hp"))
  | ((with_reducible refine' rd_lenT ?h ?_); (case h => walk_at "hp"))
  | ((with_reducible refine' rd_gTup ?h ?e ?_); (case h => walk_at "hp"); (case e => exact rfl))
  | with_reducible refine' rd_gCons ?_
  | with_reducible refine' rd_gNil ?_
  | with_reducible refine' rd_yes ?_
  | with_reducible refine' rd_for ?_
  | with_reducible refine' rd_lc ?_
  | with_reducible refine' rd_rng1 ?_
  | with_reducible refine' rd_iL ?_
  | with_reducible refine' rd_iT ?_
  | with_reducible refine' rd_iE ?_
  | with_reducible refine' rd_iZ ?_
  | ((with_reducible refine' rd_iL' ?h ?_); (case h => walk_at "hp"))
  | ((with_reducible refine' rd_iT' ?h ?_); (case h => walk_at "hp"))
  | ((with_reducible refine' rd_iE' ?h ?_); (case h => walk_at "hp"))
  | ((with_reducible refine' rd_iZ' ?h1 ?h2 ?_); (case h1 => walk_at "hp"); (case h2 => walk_at "hp"))
  | with_reducible refine' iteT ?_
  | with_reducible refine' iteF ?_)
local macro_rules | `(tactic| walk_at "rd") => `(tactic| repeat walk_at "rd1")

def t2 (b : Int × Int) : List Int := [b.1, b.2]
/-- how many of these outs are there by a day -/
def there (os : List (Int × Int × Int)) (d : Int) : Int := ((os.filter fun o => decide (o.1 ≤ d)).map fun o => o.2.1).sum
structure BacksOk (os : List (Int × Int × Int)) (bs : List (Int × Int)) : Prop where
  rise : bs.Pairwise fun a b => a.1 ≤ b.1
  bnd : ∀ b ∈ bs, (0 ≤ b.1 ∧ b.1 ≤ 9999) ∧ (1 ≤ b.2 ∧ b.2 ≤ 99999)
  fit : ∀ j b, bs[j]? = some b → ((bs.take (j + 1)).map fun b => b.2).sum ≤ there os b.1
  len : bs.length ≤ 18
theorem Ext.tsn {H H' : Hp} {D : Addr} (e : Ext D H H') (h : H D = none) : TSt H H' := fun t xs q => e t _ (ne_of_none q h) q
theorem take_snoc {α : Type} {l : List α} {i : Nat} {x : α} (h : l[i]? = some x) : l.take (i + 1) = l.take i ++ [x] := by
  rw [List.take_succ, h]; rfl
theorem rows_at {H : Hp} {us : List V} {α : Type} {f : α → List Int} {os : List α} {i : Nat} {x : V} (h : Rows H us (os.map f)) (e : us[i]? = some x) : ∃ o t, os[i]? = some o ∧ x = .ref t ∧ H t = some (.tup ((f o).map V.int)) := by
  obtain ⟨r, h1, t, h2, h3⟩ := h.get e
  rw [List.getElem?_map] at h1
  cases q : os[i]? with
  | none => rw [q] at h1; cases h1
  | some o => rw [q] at h1; cases h1; exact ⟨o, t, rfl, h2, h3⟩
theorem rows_len {H : Hp} {us : List V} {α : Type} {f : α → List Int} {os : List α} (h : Rows H us (os.map f)) : us.length = os.length := by
  have := h.length
  rwa [List.length_map] at this
theorem sum_snoc (l : List Int) (x : Int) : (l ++ [x]).sum = l.sum + x := by simp [List.sum_append]
theorem there_le (os : List (Int × Int × Int)) (d : Int) (hb : ∀ o ∈ os, 1 ≤ o.2.1 ∧ o.2.1 ≤ 99999) : there os d ≤ 99999 * os.length := by
  unfold there
  induction os with
  | nil => simp
  | cons o os ih =>
    have h1 := hb o (by simp)
    have h2 := ih fun o ho => hb o (by simp [ho])
    rw [List.filter_cons]
    split
    · simp only [List.map_cons, List.sum_cons, List.length_cons]
      push_cast
      omega
    · simp only [List.length_cons]
      push_cast
      omega
theorem sum_nn : ∀ (l : List Int), (∀ x ∈ l, 0 ≤ x) → 0 ≤ l.sum
  | [], _ => by simp
  | a :: l, h => by
    have h1 := h a (by simp)
    have h2 := sum_nn l fun x hx => h x (by simp [hx])
    rw [List.sum_cons]
    omega
theorem backs_snoc {os : List (Int × Int × Int)} {bs : List (Int × Int)} {gone least w m : Int} (hg : gone = (bs.map fun b => b.2).sum) (h : bs.Pairwise fun a b => a.1 ≤ b.1)
    (h2 : ∀ b ∈ bs, (0 ≤ b.1 ∧ b.1 ≤ 9999) ∧ (1 ≤ b.2 ∧ b.2 ≤ 99999)) (h3 : ∀ j b, bs[j]? = some b → ((bs.take (j + 1)).map fun b => b.2).sum ≤ there os b.1) (h4 : ∀ b ∈ bs, b.1 ≤ least)
    (hw : least ≤ w) (hw0 : 0 ≤ w ∧ w ≤ 9999) (hm : 1 ≤ m ∧ m ≤ 99999) (hf : gone + m ≤ there os w) :
    gone + m = ((bs ++ [(w, m)]).map fun b => b.2).sum ∧ ((bs ++ [(w, m)]).Pairwise fun a b => a.1 ≤ b.1) ∧ (∀ b ∈ bs ++ [(w, m)], (0 ≤ b.1 ∧ b.1 ≤ 9999) ∧ (1 ≤ b.2 ∧ b.2 ≤ 99999)) ∧
    (∀ j b, (bs ++ [(w, m)])[j]? = some b → (((bs ++ [(w, m)]).take (j + 1)).map fun b => b.2).sum ≤ there os b.1) ∧ (∀ b ∈ bs ++ [(w, m)], b.1 ≤ w) := by
  refine ⟨by rw [map_snoc, sum_snoc, hg], ?_, ?_, ?_, ?_⟩
  · rw [List.pairwise_append]
    refine ⟨h, by simp, fun x hx y hy => ?_⟩
    simp at hy
    subst hy
    have := h4 x hx
    show x.1 ≤ w
    omega
  · intro b hb
    rcases List.mem_append.mp hb with hb | hb
    · exact h2 b hb
    · simp at hb
      subst hb
      exact ⟨hw0, hm⟩
  · intro j b hb
    by_cases hj : j < bs.length
    · rw [List.getElem?_append_left hj] at hb
      rw [List.take_append_of_le_length (by omega)]
      exact h3 j b hb
    · have e : j = bs.length := by
        have := (List.getElem?_eq_some_iff.mp hb).1
        simp at this
        omega
      subst e
      rw [List.getElem?_append_right (Nat.le_refl _)] at hb
      simp at hb
      subst hb
      rw [List.take_of_length_le (by simp), map_snoc, sum_snoc, ← hg]
      exact hf
  · intro b hb
    rcases List.mem_append.mp hb with hb | hb
    · have := h4 b hb
      omega
    · simp at hb
      subst hb
      exact Int.le_refl _
def spBacks : Sp := fun vs H Q _ => ∃ (p l : Addr) (us : List V) (os : List (Int × Int × Int)) (many : Int), vs = [.ref p, .ref l, .int many] ∧ Purse H p ∧ H l = some (.lst us) ∧ l ≠ p ∧ Rows H us (os.map t3) ∧ OutsOk os ∧ (0 ≤ many ∧ many ≤ 18) ∧
  ∀ (H' : Hp) (m : Addr) (ws : List V) (bs : List (Int × Int)), Ext p H H' → Purse H' p → H m = none → H' m = some (.lst ws) → Rows H' ws (bs.map t2) → BacksOk os bs → Q (.ref m) H'
abbrev sBacks : Stmt := top 27
theorem scBacks : FnScope ["_law_purse_here", "_law_sent", "_law_many", "_law_found", "_law_gone", "_law_least", "_law_k", "_law_days", "_law_when", "_law_free", "_law_much", "_law_row"] ["_law_purse_here", "_law_sent", "_law_many"] (defScope sBacks) := ⟨rfl, rfl, rfl, by decide +kernel, rfl, by decide +kernel, by decide +kernel⟩
section
variable {P : Program} {w : World} {K : PySem.W.Frag} {mg : Str → Option Value} {base : Heap}
theorem ok_backs {f fT : Addr} {fd fdT : FuncData} (F : Fun K "_law_backs" "_law_backs" sBacks f fd) (T : Free mg) (dT : Def P w K mg base "_law_take" 1 fT fdT ["_law_purse_here", "_law_many"] spTake) :
    FnOk P w K mg base CX0 2 f fd ["_law_purse_here", "_law_sent", "_law_many"] spBacks := by
  refine F.ok scBacks (fun vs H Q E h => ?_) (fun cdv A outer s H vs Q E hr h => ?_)
  · obtain ⟨p, l, us, os, many, rfl, _⟩ := h
    rfl
  · obtain ⟨p, l, us, os, many, rfl, P0, hL, hlp, hR, OK, ⟨hm0, hm1⟩, k⟩ := h
    refine ⟨_, (pss_cons (ps_asg (pe_tup (pa_cons (pe_lst pa_nil) (pa_cons pe_int (pa_cons pe_int pa_nil)))) (pg_tup (by rfl) (pgs_cons (pg_name (i := 3) scBacks.nd rfl (by first | exact Or.inl rfl | exact Or.inr rfl)) (pgs_cons (pg_name (i := 4) scBacks.nd rfl (by first | exact Or.inl rfl | exact Or.inr rfl)) (pgs_cons (pg_name (i := 5) scBacks.nd rfl (by first | exact Or.inl rfl | exact Or.inr rfl)) pgs_nil))))) 
      (pss_cons (ps_for PassesOwn.never rfl (pi_range1 (by rfl) T.range (pa_cons (pv 2) pa_nil)) (pg_name (i := 6) scBacks.nd rfl (by first | exact Or.inl rfl | exact Or.inr rfl)) 
        (pss_cons (ps_setLc (i := 7) (own := [("_law_row", 11)]) rfl scBacks.nd rfl rfl (sw_true rfl rfl rfl (by decide +kernel)) (pi_list (pv 1)) (blkOk_by (N := ["_law_purse_here", "_law_sent", "_law_many", "_law_found", "_law_gone", "_law_least", "_law_k", "_law_days", "_law_when", "_law_free", "_law_much", "_law_row"]) (sc := defScope sBacks) (by decide +kernel)) (fun _ _ _ _ _ => (pg_name (i := 11) scBacks.nd rfl (by first | exact Or.inl rfl | exact Or.inr rfl))) (fun _ _ _ _ _ => (pts_one (pt_cmpR op_ge (pe_ix (ix_tupK (K := K) rfl) (pv 11) pe_int (fun _ _ => rfl)) (pv 5) (nomark _)))) (fun _ _ _ _ _ => (pe_ix (ix_tupK (K := K) rfl) (pv 11) pe_int (fun _ _ => rfl)))) 
        (pss_cons (ps_set (i := 8) scBacks.nd rfl (by first | exact Or.inl rfl | exact Or.inr rfl) (pe_op op_add (pe_ix (ix_listK (K := K) rfl) (pe_op op_cat (pv 7) (pe_lst (pa_cons (pv 5) pa_nil))) (pe_call dT.ok (hr.mono (by decide)) (by rfl) dT.mg dT.kp dT.bd .nil pass0 (pa_cons (pv 0) (pa_cons (pe_op op_add (pe_callB (call_lenK (K := K) rfl) (by rfl) T.len (by decide +kernel) (pa_cons (pv 7) pa_nil)) pe_int) pa_nil))) (fun _ _ => rfl)) (pe_ix (ix_listK (K := K) rfl) (pe_lst (pa_cons pe_int (pa_cons pe_int (pa_cons pe_int (pa_cons pe_int pa_nil))))) (pe_call dT.ok (hr.mono (by decide)) (by rfl) dT.mg dT.kp dT.bd .nil pass0 (pa_cons (pv 0) (pa_cons pe_int pa_nil))) (fun _ _ => rfl)))) 
        (pss_cons (ps_set (i := 9) scBacks.nd rfl (by first | exact Or.inl rfl | exact Or.inr rfl) (pe_op op_sub (pe_callB (cr_sumK (K := K) rfl rfl) (by rfl) T.sum (by decide +kernel) (pa_cons (pe_lc (own := [("_law_row", 11)]) rfl scBacks.nd (pi_list (pv 1)) (blkOk_by (N := ["_law_purse_here", "_law_sent", "_law_many", "_law_found", "_law_gone", "_law_least", "_law_k", "_law_days", "_law_when", "_law_free", "_law_much", "_law_row"]) (sc := defScope sBacks) (by decide +kernel)) (fun _ _ _ _ _ => (pg_name (i := 11) scBacks.nd rfl (by first | exact Or.inl rfl | exact Or.inr rfl))) (fun _ _ _ _ _ => (pts_one (pt_cmpR op_le (pe_ix (ix_tupK (K := K) rfl) (pv 11) pe_int (fun _ _ => rfl)) (pv 8) (nomark _)))) (fun _ _ _ _ _ => (pe_ix (ix_tupK (K := K) rfl) (pv 11) pe_int (fun _ _ => rfl)))) pa_nil)) (pv 4))) 
        (pss_one (ps_if (pt_cmpR op_gt (pv 9) pe_int (nomark _)) 
          (pss_cons (ps_set (i := 10) scBacks.nd rfl (by first | exact Or.inl rfl | exact Or.inr rfl) (pe_callB (call_min2 rfl) (by rfl) T.min (by decide +kernel) (pa_cons pe_int (pa_cons (pe_ix (ix_listK (K := K) rfl) (pe_lst (pa_cons pe_int (pa_cons (pv 9) (pa_cons (pe_op op_add pe_int (pe_call dT.ok (hr.mono (by decide)) (by rfl) dT.mg dT.kp dT.bd .nil pass0 (pa_cons (pv 0) (pa_cons (pv 9) pa_nil)))) pa_nil)))) (pe_call dT.ok (hr.mono (by decide)) (by rfl) dT.mg dT.kp dT.bd .nil pass0 (pa_cons (pv 0) (pa_cons pe_int pa_nil))) (fun _ _ => rfl)) pa_nil)))) 
          (pss_cons (ps_expr (pe_bm PySem.F.plainAttrs_list PySem.F.slot_list_append PySem.F.type_list_append mt_append (pv 3) (pa_cons (pe_tup (pa_cons (pv 8) (pa_cons (pv 10) pa_nil))) pa_nil))) 
          (pss_one (ps_asg (pe_tup (pa_cons (pe_op op_add (pv 4) (pv 10)) (pa_cons (pv 8) pa_nil))) (pg_tup (by rfl) (pgs_cons (pg_name (i := 4) scBacks.nd rfl (by first | exact Or.inl rfl | exact Or.inr rfl)) (pgs_cons (pg_name (i := 5) scBacks.nd rfl (by first | exact Or.inl rfl | exact Or.inr rfl)) pgs_nil))))))) pss_nil)))))) 
      (pss_one (ps_ret (pv 3))))), ?_⟩
    have hul := rows_len hR
    have hol := OK.len
    walk_at "rd"
    intro m hm
    have hmp := P0.ne hm
    walk_at "rd"
    intro t0 ht0
    have ht0p := (P0.upd hmp).ne ht0
    walk_at "rd"
    refine ⟨by omega, by omega, loopW walk_range (fun i σ G => ∃ (bs : List (Int × Int)) (ws : List V) (gone least : Int) (v6 v7 v8 v9 v10 : Option V),
      σ = [some (.ref p), some (.ref l), some (.int many), some (.ref m), some (.int gone), some (.int least), v6, v7, v8, v9, v10, none] ∧ Ext p H G ∧ Purse G p ∧ G m = some (.lst ws) ∧ Rows G ws (bs.map t2) ∧
      bs.length ≤ i ∧ gone = (bs.map fun b => b.2).sum ∧ (bs.Pairwise fun a b => a.1 ≤ b.1) ∧ (∀ b ∈ bs, (0 ≤ b.1 ∧ b.1 ≤ 9999) ∧ (1 ≤ b.2 ∧ b.2 ≤ 99999)) ∧
      (∀ j b, bs[j]? = some b → ((bs.take (j + 1)).map fun b => b.2).sum ≤ there os b.1) ∧ (∀ b ∈ bs, b.1 ≤ least) ∧ 0 ≤ least ∧ least ≤ 7800 + 30 * (i : Int))
      ⟨[], [], 0, 0, none, none, none, none, none, rfl, (Ext.new Ext.refl hm).new ht0, (P0.upd hmp).upd ht0p, by walk_at "hp", True.intro, Nat.le_refl _, rfl, List.Pairwise.nil, by simp, by simp, by simp, by decide, by decide⟩ (fun _ _ _ _ _ => True.intro) ?_ ?_⟩
    · rintro i x σ G G' hi ⟨bs, ws, gone, least, v6, v7, v8, v9, v10, rfl, eG, PG, hM, hW, hlen, h1, h2, h3, h4, h5, h6, h7⟩ ⟨rfl, rfl⟩
      have hi' : (i : Int) < many := by omega
      have hwl : ws.length < sizeLine := by
        have := rows_len hW
        exact small1000 (by omega)
      have hLG : G' l = some (.lst us) := eG.get hlp hL
      have hRG : Rows G' us (os.map t3) := hR.mono (P0.ts eG)
      walk_at "rd"
      intro D hD
      have hDp := PG.ne hD
      refine lcA (p := D) (walk_list (xs := us)) (fun i acc _ => acc = (((os.take i).filter (fun o => decide (least ≤ o.1))).map fun o => o.1).map V.int) hD (by omega) rfl (fun H' e => SqL.of (e.get (ne_of_none hLG hD) hLG)) ?_ ?_
      · rintro j x H1 H1' acc M hj e q la a ⟨rfl, y⟩ k1 k2
        obtain ⟨o, t, ho, rfl, ht⟩ := rows_at (hRG.mono (e.tsn hD)) y
        walk_at "rd"
        refine ⟨rfl, ?_⟩
        walk_at "rd"
        refine ite_dec (fun c => ?_) (fun c => ?_)
        · walk_at "rd"
          refine k1 _ _ e q ?_
          rw [take_snoc ho, List.filter_append, a]
          simp [c]
        · refine k2 _ e q ?_
          rw [take_snoc ho, List.filter_append, a]
          simp [c]
      · intro G1 acc e1 q1 la a
        rw [List.take_of_length_le (by omega)] at a
        subst a
        have PG1 : Purse G1 p := by
          obtain ⟨x1, x2, x3, x4, x5⟩ := PG
          exact ⟨x1, x2, x3, e1.get hDp.symm x4, x5⟩
        have hdl : ((os.filter (fun o => decide (least ≤ o.1))).map fun o => o.1).length ≤ 18 := by
          rw [List.length_map]
          exact Nat.le_trans (List.length_filter_le _ _) hol
        have hdm : ∀ d ∈ (os.filter (fun o => decide (least ≤ o.1))).map (fun o => o.1), least ≤ d ∧ d ≤ 7800 := by
          intro d hd
          obtain ⟨o, ho, rfl⟩ := List.mem_map.mp hd
          obtain ⟨ho1, ho2⟩ := List.mem_filter.mp ho
          exact ⟨by simpa using ho2, (OK.bnd o ho1).1.2⟩
        generalize (os.filter (fun o => decide (least ≤ o.1))).map (fun o => o.1) = dys at q1 hdl hdm
        walk_at "rd"
        intro q2 hq2
        have hq2p := PG1.ne hq2
        walk_at "rd"
        refine rd_cat (by walk_at "hp") (by walk_at "hp") (by rw [List.length_map]; exact Nat.le_of_lt (small1000 (by simp; omega))) ?_
        intro q3 hq3
        have hq3p := (PG1.upd hq2p).ne hq3
        walk_at "rd"
        rw [List.length_map]
        refine rd_take ((PG1.upd hq2p).upd hq3p) (by omega) (by omega) (fun r1 G2 a1 b1 P2 C2 => ?_)
        have hq3' : G2 q3 = some (.lst ((dys ++ [least]).map V.int)) := by
          rw [List.map_append]
          walk_at "hp"
        refine rd_ixI hq3' a1 (by simpa using b1) (fun wd hwd => ?_)
        have hwd' : least ≤ wd ∧ (wd ≤ 7800 ∨ wd = least) := by
          rcases List.mem_append.mp hwd with h | h
          · exact ⟨(hdm wd h).1, .inl (hdm wd h).2⟩
          · simp at h
            exact ⟨by omega, .inr h⟩
        walk_at "rd"
        intro q4 hq4
        have hq4p := P2.ne hq4
        walk_at "rd"
        refine rd_take (P2.upd hq4p) (by decide) (by decide) (fun r2 G3 a2 b2 P3 C3 => ?_)
        refine rd_ixI (ns := [0, 0, 1, 30]) (by walk_at "hp") a2 (by simpa using b2) (fun up hup => ?_)
        have hup' : 0 ≤ up ∧ up ≤ 30 := by simp at hup; omega
        walk_at "rd"
        have hL3 : G3 l = some (.lst us) := by
          have n1 : l ≠ D := ne_of_none hLG hD
          have n2 : G1 l = some (.lst us) := e1.get n1 hLG
          walk_at "hp"
        have T03 : TSt G' G3 := fun t xs h => by
          have n0 : t ≠ p := PG.net h
          have n1 : t ≠ D := ne_of_none h hD
          have n2 : G1 t = some (.tup xs) := e1.get n1 h
          walk_at "hp"
        have hM3 : G3 m = some (.lst ws) := by
          have n1 : m ≠ D := ne_of_none hM hD
          have n2 : G1 m = some (.lst ws) := e1.get n1 hM
          walk_at "hp"
        have E3 : Ext p H G3 := fun b o nb eb => by
          have h0 := eG b o nb eb
          have n1 : b ≠ D := ne_of_none h0 hD
          have n2 : G1 b = some o := e1.get n1 h0
          walk_at "hp"
        have hR3 : Rows G3 us (os.map t3) := hRG.mono T03
        have hW3 : Rows G3 ws (bs.map t2) := hW.mono T03
        intro D2 hD2
        have hD2p := P3.ne hD2
        refine lcA (p := D2) (walk_list (xs := us)) (fun i acc _ => acc = (((os.take i).filter (fun o => decide (o.1 ≤ wd + up))).map fun o => o.2.1).map V.int) hD2 (by omega) rfl (fun H' e => SqL.of (e.get (ne_of_none hL3 hD2) hL3)) ?_ ?_
        · rintro j x H1 H1' acc M hj e q la a ⟨rfl, y⟩ k1 k2
          obtain ⟨o, t, ho, rfl, ht⟩ := rows_at (hR3.mono (e.tsn hD2)) y
          walk_at "rd"
          refine ⟨rfl, ?_⟩
          walk_at "rd"
          refine ite_dec (fun c => ?_) (fun c => ?_)
          · walk_at "rd"
            refine k1 _ _ e q ?_
            rw [take_snoc ho, List.filter_append, a]
            simp [c]
          · refine k2 _ e q ?_
            rw [take_snoc ho, List.filter_append, a]
            simp [c]
        · intro G4 acc e4 q4 la a
          rw [List.take_of_length_le (by omega)] at a
          subst a
          have P4 : Purse G4 p := by
            obtain ⟨x1, x2, x3, x4, x5⟩ := P3
            exact ⟨x1, x2, x3, e4.get hD2p.symm x4, x5⟩
          have T34 : TSt G3 G4 := e4.tsn hD2
          have hM4 : G4 m = some (.lst ws) := e4.get (ne_of_none hM3 hD2) hM3
          have E4 : Ext p H G4 := fun b o nb eb => e4.get (ne_of_none (E3 b o nb eb) hD2) (E3 b o nb eb)
          have hW4 : Rows G4 ws (bs.map t2) := hW3.mono T34
          walk_at "rd"
          refine rd_sum q4 ?_
          have hth := there_le os (wd + up) (fun o ho => (OK.bnd o ho).2.1)
          have eth : ((os.filter (fun o => decide (o.1 ≤ wd + up))).map fun o => o.2.1).sum = there os (wd + up) := rfl
          rw [eth]
          have hg0 : 0 ≤ gone := by
            rw [h1]
            refine sum_nn _ ?_
            intro x hx
            obtain ⟨b, hb, rfl⟩ := List.mem_map.mp hx
            have := (h3 b hb).2.1
            omega
          walk_at "rd"
          refine ite_dec (fun c => ?_) (fun c => ?_)
          · walk_at "rd"
            refine rd_take P4 (by omega) (by omega) (fun r3 G5 a3 b3 P5 C5 => ?_)
            walk_at "rd"
            intro q5 hq5
            have hq5p := P5.ne hq5
            walk_at "rd"
            refine rd_take (P5.upd hq5p) (by decide) (by decide) (fun r4 G6 a4 b4 P6 C6 => ?_)
            refine rd_ixI (ns := [1, there os (wd + up) - gone, 1 + r3]) (by walk_at "hp") a4 (by simpa using b4) (fun mu hmu => ?_)
            have hmu' : 1 ≤ mu ∧ mu ≤ there os (wd + up) - gone := by simp at hmu; omega
            walk_at "rd"
            obtain ⟨mm, hmm, hmb⟩ : ∃ mm, (if mu < 99999 then mu else 99999) = mm ∧ 1 ≤ mm ∧ mm ≤ 99999 ∧ mm ≤ there os (wd + up) - gone := ⟨_, rfl, by split <;> omega⟩
            rw [hmm]
            walk_at "rd"
            intro t ht
            have htp := P6.ne ht
            walk_at "rd"
            intro t1 ht1
            have ht1p := ((P6.upd htp).upd hmp).ne ht1
            walk_at "rd"
            obtain ⟨c1, c2, c3, c4, c5⟩ := backs_snoc (os := os) (w := wd + up) (m := mm) h1 h2 h3 h4 h5 (by omega) (by omega) ⟨hmb.1, hmb.2.1⟩ (by omega)
            refine ⟨bs ++ [(wd + up, mm)], ws ++ [.ref t], gone + mm, wd + up, _, _, _, _, _, rfl, fun b o nb eb => ?_, ((P6.upd htp).upd hmp).upd ht1p, by walk_at "hp", ?_, by simp; omega, c1, c2, c3, c4, c5, by omega, by omega⟩
            · have h0 := E4 b o nb eb
              have nm : b ≠ m := ne_of_none eb hm
              walk_at "hp"
            · rw [map_snoc]
              refine (hW4.mono fun t' xs h => ?_).snoc ⟨t, rfl, by walk_at "hp"⟩
              have n0 : t' ≠ p := P4.net h
              have n1 : t' ≠ m := ne_kind h hM4 ne_tl
              walk_at "hp"
          · walk_at "rd"
            exact ⟨bs, ws, gone, least, _, _, _, _, _, rfl, E4, P4, hM4, hW4, by omega, h1, h2, h3, h4, h5, h6, by omega⟩
    · rintro σ G ⟨bs, ws, gone, least, v6, v7, v8, v9, v10, rfl, eG, PG, hM, hW, hlen, h1, h2, h3, h4, h5, h6, h7⟩
      walk_at "rd"
      exact k G m ws bs eG PG hm hM hW ⟨h2, h3, h4, by omega⟩
end
end Sk
end

section
namespace Sk
open PySem L2
/-! The mathematics of dealings: found entries (BACK, OUT, MANY). -/
abbrev Ent := Int × Int × Int
/-- all that is dealt of an out -/
def tk (fs : List Ent) (k : Int) : Int := ((fs.filter fun d => decide (d.2.1 = k)).map fun d => d.2.2).sum
/-- all that is dealt to a back -/
def bk (fs : List Ent) (b : Int) : Int := ((fs.filter fun d => decide (d.1 = b)).map fun d => d.2.2).sum
def total (fs : List Ent) : Int := (fs.map fun d => d.2.2).sum
theorem tk_cons (d : Ent) (fs : List Ent) (k : Int) : tk (d :: fs) k = (if d.2.1 = k then d.2.2 else 0) + tk fs k := by
  unfold tk
  rw [List.filter_cons]
  by_cases h : d.2.1 = k <;> simp [h]
theorem bk_cons (d : Ent) (fs : List Ent) (b : Int) : bk (d :: fs) b = (if d.1 = b then d.2.2 else 0) + bk fs b := by
  unfold bk
  rw [List.filter_cons]
  by_cases h : d.1 = b <;> simp [h]
theorem tk_snoc (d : Ent) (fs : List Ent) (k : Int) : tk (fs ++ [d]) k = tk fs k + (if d.2.1 = k then d.2.2 else 0) := by
  unfold tk
  rw [List.filter_append]
  by_cases h : d.2.1 = k <;> simp [h]
theorem bk_snoc (d : Ent) (fs : List Ent) (b : Int) : bk (fs ++ [d]) b = bk fs b + (if d.1 = b then d.2.2 else 0) := by
  unfold bk
  rw [List.filter_append]
  by_cases h : d.1 = b <;> simp [h]
theorem total_snoc (d : Ent) (fs : List Ent) : total (fs ++ [d]) = total fs + d.2.2 := by
  unfold total
  simp
theorem sum_add {α : Type} (l : List α) (f g : α → Int) : (l.map fun x => f x + g x).sum = (l.map f).sum + (l.map g).sum := by
  induction l with
  | nil => rfl
  | cons a l ih => simp only [List.map_cons, List.sum_cons, ih]; omega
theorem sum_le_of {α : Type} (l : List α) (f g : α → Int) (h : ∀ x ∈ l, f x ≤ g x) : (l.map f).sum ≤ (l.map g).sum := by
  induction l with
  | nil => exact Int.le_refl _
  | cons a l ih =>
    have h1 := h a (by simp)
    have h2 := ih fun x hx => h x (by simp [hx])
    simp only [List.map_cons, List.sum_cons]
    omega
theorem sum_eq_of {α : Type} (l : List α) (f g : α → Int) (h : ∀ x ∈ l, f x = g x) : (l.map f).sum = (l.map g).sum := by
  rw [List.map_congr_left h]
theorem sum_zero {α : Type} (l : List α) : (l.map fun _ => (0 : Int)).sum = 0 := by
  induction l with
  | nil => rfl
  | cons a l ih => simp only [List.map_cons, List.sum_cons, ih]; rfl
/-- one of them at most is k -/
theorem one_le (S : List Int) (nd : S.Nodup) (k m : Int) (hm : 0 ≤ m) : (S.map fun x => if k = x then m else 0).sum ≤ m := by
  induction S with
  | nil => simpa using hm
  | cons a S ih =>
    have h1 := List.nodup_cons.mp nd
    have h2 := ih h1.2
    simp only [List.map_cons, List.sum_cons]
    by_cases e : k = a
    · subst e
      have : (S.map fun x => if k = x then m else 0).sum = 0 := by
        have z : (S.map fun x => if k = x then m else (0 : Int)) = S.map fun _ => (0 : Int) := List.map_congr_left fun x hx => by
          rw [if_neg]
          rintro rfl
          exact h1.1 hx
        rw [z]
        exact sum_zero S
      simp [this]
    · simp [e]; exact h2
theorem one_eq (S : List Int) (nd : S.Nodup) (k m : Int) (hk : k ∈ S) : (S.map fun x => if k = x then m else 0).sum = m := by
  induction S with
  | nil => cases hk
  | cons a S ih =>
    have h1 := List.nodup_cons.mp nd
    simp only [List.map_cons, List.sum_cons]
    by_cases e : k = a
    · subst e
      have : (S.map fun x => if k = x then m else 0).sum = 0 := by
        have z : (S.map fun x => if k = x then m else (0 : Int)) = S.map fun _ => (0 : Int) := List.map_congr_left fun x hx => by
          rw [if_neg]
          rintro rfl
          exact h1.1 hx
        rw [z]
        exact sum_zero S
      simp [this]
    · have hk' : k ∈ S := by
        rcases List.mem_cons.mp hk with h | h
        · exact (e h).elim
        · exact h
      rw [ih h1.2 hk']
      simp [e]
theorem tk_le (fs : List Ent) (hp : ∀ d ∈ fs, 0 ≤ d.2.2) (S : List Int) (nd : S.Nodup) : (S.map (tk fs)).sum ≤ total fs := by
  induction fs with
  | nil =>
    have : (S.map (tk [])).sum = 0 := by
      have z : S.map (tk []) = S.map fun _ => (0 : Int) := List.map_congr_left fun x _ => rfl
      rw [z]
      exact sum_zero S
    rw [this]
    exact Int.le_refl _
  | cons d fs ih =>
    have h1 := ih fun d hd => hp d (by simp [hd])
    have h2 : (S.map (tk (d :: fs))).sum = (S.map fun x => if d.2.1 = x then d.2.2 else 0).sum + (S.map (tk fs)).sum := by
      rw [← sum_add]
      exact sum_eq_of _ _ _ fun x _ => tk_cons d fs x
    have h3 := one_le S nd d.2.1 d.2.2 (hp d (by simp))
    have h4 : total (d :: fs) = d.2.2 + total fs := by simp [total]
    omega
theorem bk_all (fs : List Ent) (S : List Int) (nd : S.Nodup) (hS : ∀ d ∈ fs, d.1 ∈ S) : (S.map (bk fs)).sum = total fs := by
  induction fs with
  | nil =>
    have z : S.map (bk []) = S.map fun _ => (0 : Int) := List.map_congr_left fun x _ => rfl
    rw [z]
    exact sum_zero S
  | cons d fs ih =>
    have h1 := ih fun d hd => hS d (by simp [hd])
    have h2 : (S.map (bk (d :: fs))).sum = (S.map fun x => if d.1 = x then d.2.2 else 0).sum + (S.map (bk fs)).sum := by
      rw [← sum_add]
      exact sum_eq_of _ _ _ fun x _ => bk_cons d fs x
    have h3 := one_eq S nd d.1 d.2.2 (hS d (by simp))
    have h4 : total (d :: fs) = d.2.2 + total fs := by simp [total]
    omega
def oAt (os : List (Int × Int × Int)) (k : Nat) : Int × Int × Int := os.getD k (0, 0, 0)
theorem oAt_some {os : List (Int × Int × Int)} {k : Nat} (h : k < os.length) : os[k]? = some (oAt os k) := by
  unfold oAt
  rw [List.getD_eq_getElem?_getD, List.getElem?_eq_getElem h]
  rfl
theorem oAt_eq {os : List (Int × Int × Int)} {k : Nat} {o : Int × Int × Int} (h : os[k]? = some o) : oAt os k = o := by
  unfold oAt
  rw [List.getD_eq_getElem?_getD, h]
  rfl
/-- the numbers of the outs that are there by a day -/
def ksOf (os : List (Int × Int × Int)) (D : Int) : List Nat := (List.range os.length).filter fun k => decide ((oAt os k).1 ≤ D)
theorem ks_there (os : List (Int × Int × Int)) (D : Int) : ((ksOf os D).map fun k => (oAt os k).2.1).sum = there os D := by
  unfold ksOf there
  suffices h : ∀ n, n ≤ os.length → (((List.range n).filter fun k => decide ((oAt os k).1 ≤ D)).map fun k => (oAt os k).2.1).sum = (((os.take n).filter fun o => decide (o.1 ≤ D)).map fun o => o.2.1).sum by
    have := h os.length (Nat.le_refl _)
    rwa [List.take_length] at this
  intro n
  induction n with
  | zero => intro _; simp
  | succ n ih =>
    intro hn
    have e : os[n]? = some (oAt os n) := oAt_some (by omega)
    rw [List.range_succ, take_snoc e, List.filter_append, List.filter_append, List.map_append, List.map_append, List.sum_append, List.sum_append, ih (by omega)]
    congr 1
    by_cases c : (oAt os n).1 ≤ D <;> simp [c]
theorem ks_nodup (os : List (Int × Int × Int)) (D : Int) : ((ksOf os D).map fun (k : Nat) => (k : Int)).Nodup := by
  unfold ksOf List.Nodup
  rw [List.pairwise_map]
  refine List.Pairwise.filter _ (List.Pairwise.imp ?_ List.nodup_range)
  intro a b h e
  exact h (Int.ofNat.inj e)
theorem ks_mem {os : List (Int × Int × Int)} {D : Int} {k : Nat} : k ∈ ksOf os D ↔ k < os.length ∧ (oAt os k).1 ≤ D := by
  unfold ksOf
  simp [List.mem_filter, List.mem_range]
/-- how many outs are dealt whole -/
def done (os : List (Int × Int × Int)) (fs : List Ent) : Nat := ((List.range os.length).filter fun (k : Nat) => decide (tk fs (k : Int) = (oAt os k).2.1)).length
theorem done_le (os : List (Int × Int × Int)) (fs : List Ent) : done os fs ≤ os.length := by
  unfold done
  exact Nat.le_trans (List.length_filter_le _ _) (by simp)
theorem filter_le {α : Type} (l : List α) (p q : α → Bool) (h : ∀ x ∈ l, p x = true → q x = true) : (l.filter p).length ≤ (l.filter q).length := by
  induction l with
  | nil => simp
  | cons a l ih =>
    have h2 := ih fun x hx => h x (by simp [hx])
    have h1 := h a (by simp)
    rw [List.filter_cons, List.filter_cons]
    by_cases c : p a = true
    · simp [c, h1 c]; exact h2
    · by_cases c2 : q a = true
      · simp [c, c2]; omega
      · simp [c, c2]; exact h2
theorem filter_lt {α : Type} (l : List α) (p q : α → Bool) (h : ∀ x ∈ l, p x = true → q x = true) (z : α) (hz : z ∈ l) (h1 : p z = false) (h2 : q z = true) : (l.filter p).length + 1 ≤ (l.filter q).length := by
  induction l with
  | nil => cases hz
  | cons a l ih =>
    have h3 := h a (by simp)
    rw [List.filter_cons, List.filter_cons]
    by_cases e : z = a
    · subst e
      have := filter_le l p q fun x hx => h x (by simp [hx])
      simp [h1, h2]; omega
    · have hz' : z ∈ l := by
        rcases List.mem_cons.mp hz with h | h
        · exact (e h).elim
        · exact h
      have h4 := ih (fun x hx => h x (by simp [hx])) hz'
      by_cases c : p a = true
      · simp [c, h3 c]; omega
      · by_cases c2 : q a = true
        · simp [c, c2]; omega
        · simp [c, c2]; omega
/-- what holds of the entries while back b is dealt: all backs ahead of it are dealt, wanted are still w of its own -/
structure Deal (os : List (Int × Int × Int)) (bs : List (Int × Int)) (fs : List Ent) (b : Nat) : Prop where
  ent : ∀ d ∈ fs, (0 ≤ d.1 ∧ d.1 ≤ b) ∧ 1 ≤ d.2.2 ∧ ∃ k : Nat, d.2.1 = k ∧ k < os.length ∧ ∃ x, bs[d.1.toNat]? = some x ∧ (oAt os k).1 ≤ x.1
  cap : ∀ k < os.length, tk fs k ≤ (oAt os k).2.1
  all : ∀ j x, j < b → bs[j]? = some x → bk fs j = x.2
  apart : fs.Pairwise fun d e => ¬ (d.1 = e.1 ∧ d.2.1 = e.2.1)
theorem Deal.nn {os bs fs b} (h : Deal os bs fs b) : ∀ d ∈ fs, 0 ≤ d.2.2 := fun d hd => by
  have := (h.ent d hd).2.1
  omega
theorem tk_nn {fs : List Ent} (h : ∀ d ∈ fs, 0 ≤ d.2.2) (k : Int) : 0 ≤ tk fs k := by
  unfold tk
  refine sum_nn _ fun x hx => ?_
  obtain ⟨d, hd, rfl⟩ := List.mem_map.mp hx
  exact h d (List.mem_filter.mp hd).1
/-- where all that is there by its day is dealt a back lacks nothing -/
theorem Deal.enough {os bs fs b} (h : Deal os bs fs b) (B : BacksOk os bs) {x : Int × Int} (hx : bs[b]? = some x) (w : Int) (hw : w = x.2 - bk fs b) (full : ∀ k ∈ ksOf os x.1, tk fs k = (oAt os k).2.1) : w ≤ 0 := by
  have h1 := tk_le fs h.nn _ (ks_nodup os x.1)
  rw [List.map_map] at h1
  have h2 : ((ksOf os x.1).map (tk fs ∘ fun (k : Nat) => (k : Int))).sum = ((ksOf os x.1).map fun k => (oAt os k).2.1).sum := sum_eq_of _ _ _ fun k hk => full k hk
  rw [h2, ks_there] at h1
  have nd : ((List.range (b + 1)).map fun (k : Nat) => (k : Int)).Nodup := by
    unfold List.Nodup
    rw [List.pairwise_map]
    exact List.Pairwise.imp (fun {a b} h e => h (Int.ofNat.inj e)) List.nodup_range
  have h3 := bk_all fs _ nd fun d hd => by
    obtain ⟨⟨h1, h2⟩, _⟩ := h.ent d hd
    refine List.mem_map.mpr ⟨d.1.toNat, List.mem_range.mpr (by omega), by omega⟩
  rw [List.map_map, List.range_succ, List.map_append, List.sum_append] at h3
  have h4 : ((List.range b).map (bk fs ∘ fun (k : Nat) => (k : Int))).sum = ((bs.take b).map fun b => b.2).sum := by
    have hb : b < bs.length := (List.getElem?_eq_some_iff.mp hx).1
    have z : ∀ n, n ≤ b → ((List.range n).map (bk fs ∘ fun (k : Nat) => (k : Int))).sum = ((bs.take n).map fun b => b.2).sum := by
      intro n
      induction n with
      | zero => intro _; simp
      | succ n ih =>
        intro hn
        have hl : n < bs.length := by omega
        have e : bs[n]? = some bs[n] := List.getElem?_eq_getElem hl
        rw [List.range_succ, take_snoc e, List.map_append, List.map_append, List.sum_append, List.sum_append, ih (by omega)]
        have := h.all n bs[n] (by omega) e
        simp [this]
    exact z b (Nat.le_refl _)
  have h5 := B.fit b x hx
  rw [take_snoc hx, List.map_append, List.sum_append] at h5
  have h6 : (([b] : List Nat).map (bk fs ∘ fun (k : Nat) => (k : Int))).sum = bk fs b := by simp
  have h7 : (([x] : List (Int × Int)).map fun b => b.2).sum = x.2 := by simp
  rw [h6, h4] at h3
  rw [h7] at h5
  omega
/-- one more entry of back b -/
theorem Deal.snoc {os bs fs b} (h : Deal os bs fs b) {x : Int × Int} (hx : bs[b]? = some x) {k : Nat} (hk : k ∈ ksOf os x.1) (hn : ∀ d ∈ fs, ¬ (d.1 = b ∧ d.2.1 = k)) {m : Int} (hm : 1 ≤ m) (hc : m ≤ (oAt os k).2.1 - tk fs k) : Deal os bs (fs ++ [((b : Int), (k : Int), m)]) b := by
  obtain ⟨k1, k2⟩ := ks_mem.mp hk
  refine ⟨fun d hd => ?_, fun j hj => ?_, fun j y hj hy => ?_, ?_⟩
  · rcases List.mem_append.mp hd with hd | hd
    · exact h.ent d hd
    · simp at hd
      subst hd
      exact ⟨⟨by simp, Int.le_refl _⟩, hm, k, rfl, k1, x, by simpa using hx, k2⟩
  · rw [tk_snoc]
    have := h.cap j hj
    by_cases e : (k : Int) = j
    · have : k = j := by omega
      subst this
      simp
      omega
    · simp [e]
      omega
  · rw [bk_snoc]
    have e : ¬ ((b : Int) = j) := by omega
    simp [e]
    exact h.all j y hj hy
  · rw [List.pairwise_append]
    refine ⟨h.apart, by simp, fun d hd e he => ?_⟩
    simp at he
    subst he
    exact hn d hd
/-- back b is dealt -/
theorem Deal.next {os bs fs b} (h : Deal os bs fs b) {x : Int × Int} (hx : bs[b]? = some x) (e : bk fs b = x.2) : Deal os bs fs (b + 1) := by
  refine ⟨fun d hd => ?_, h.cap, fun j y hj hy => ?_, h.apart⟩
  · obtain ⟨⟨h1, h2⟩, r⟩ := h.ent d hd
    exact ⟨⟨h1, by omega⟩, r⟩
  · by_cases q : j < b
    · exact h.all j y q hy
    · have : j = b := by omega
      subst this
      rw [hx] at hy
      cases hy
      exact e
theorem bk_new {os bs fs b} (h : Deal os bs fs b) (n : Nat) (hn : b < n) : bk fs n = 0 := by
  unfold bk
  have : fs.filter (fun d => decide (d.1 = (n : Int))) = [] := by
    rw [List.filter_eq_nil_iff]
    intro d hd
    have := (h.ent d hd).1.2
    simp
    omega
  rw [this]
  rfl
end Sk
end

section
namespace Sk
open PySem L2
local macro_rules | `(tactic| walk_at "kb") => `(tactic| first | exact kb_int_int | exact kb_int_bool | exact kb_int_str | exact kb_int_tuple | exact kb_int_list | exact kb_tuple_int | exact kb_tuple_bool | exact kb_tuple_str | exact kb_tuple_tuple | exact kb_tuple_list | exact kb_list_int | exact kb_list_bool | exact kb_list_str | exact kb_list_tuple | exact kb_list_list | exact kb_bool_int | exact kb_bool_bool | exact kb_bool_str | exact kb_bool_tuple | exact kb_bool_list | exact kb_str_int | exact kb_str_bool | exact kb_str_str | exact kb_str_tuple | exact kb_str_list | exact kb_dict_int | exact kb_dict_bool | exact kb_dict_str | exact kb_dict_tuple | exact kb_dict_list | exact kb_NoneType_int | exact kb_NoneType_bool | exact kb_NoneType_str | exact kb_NoneType_tuple | exact kb_NoneType_list)
local macro_rules | `(tactic| walk_at "hp") => `(tactic| first
  | assumption
  | exact upd_same
  | (refine' upd_get ?n ?e; (case n => walk_at "ne"); (case e => walk_at "hp"))
  | (refine' But.get (by assumption) ?n ?e; (case n => walk_at "ne"); (case e => walk_at "hp"))
  | (refine' Ext.get (by assumption) ?n ?e; (case n => walk_at "ne"); (case e => walk_at "hp"))
  | (refine' same_get (by assumption) ?e; (case e => walk_at "hp")))
local macro_rules | `(tactic| walk_at "ne") => `(tactic| first
  | assumption
  | (apply Ne.symm; assumption)
  | (refine' ne_of_none ?h (by assumption); (case h => walk_at "hp"))
  | (apply Ne.symm; refine' ne_of_none ?h (by assumption); (case h => walk_at "hp")))
local macro_rules | `(tactic| walk_at "sd") => `(tactic| first
  | (show (0 : Int) < _; omega)
  | (simp only [CMul, CDiv]; omega)
  | exact ⟨by omega, by omega⟩)
local macro_rules | `(tactic| walk_at "rd1") => `(tactic| first
  | with_reducible refine' rd_c ?_
  | ((with_reducible refine' rd_var ?h ?_); (case h => exact rfl))
  | with_reducible refine' rd_op ?_
  | with_reducible refine' rd_seq ?_
  | with_reducible refine' rd_asg ?_
  | with_reducible refine' rd_gName ?_
  | with_reducible refine' rd_I0 ?_
  | ((with_reducible refine' rd_I ?c ?_); (case c => walk_at "sd"))
  | with_reducible refine' rd_eqI ?_
  | with_reducible refine' rd_neI ?_
  | with_reducible refine' rd_U ?_
  | with_reducible refine' rd_un ?_
  | with_reducible refine' rd_ret ?_
  | with_reducible refine' rd_drop ?_
  | with_reducible refine' rd_next ?_
  | with_reducible refine' rd_ifS ?_
  | with_reducible refine' rd_test ?_
  | with_reducible refine' rd_bl ?_
  | with_reducible refine' rd_nil ?_
  | with_reducible refine' rd_cons ?_
  | with_reducible refine' rd_tup ?_
  | with_reducible refine' rd_lst ?_
  | with_reducible refine' rd_call ?_
  | with_reducible refine' rd_cb ?_
  | with_reducible refine' rd_par ?_
  | with_reducible refine' rd_par2 ?_
  | with_reducible refine' rd_and ?_
  | with_reducible refine' rd_or ?_
  | with_reducible refine' rd_not ?_
  | with_reducible refine' rd_andV ?_
  | with_reducible refine' rd_orV ?_
  | with_reducible refine' rd_notV ?_
  | with_reducible refine' rd_if ?_
  | with_reducible refine' rd_gSub ?_
  | ((with_reducible refine' rd_ixL ?h ?e ?_); (case h => walk_at "hp"); (case e => exact rfl))
  | ((with_reducible refine' rd_ixT ?h ?e ?_); (case h => walk_at "hp"); (case e => exact rfl))
  | ((with_reducible refine' rd_setL ?h ?e ?_); (case h => walk_at "hp"); (case e => exact rfl))
  | ((with_reducible refine' rd_append ?h ?e ?_); (case h => walk_at "hp"); (case e => assumption))
  | (with_reducible refine' rd_bmL ?_)
  | ((with_reducible refine' And.intro (tyL ?h) ?_); (case h => walk_at "hp"))
  | ((with_reducible refine' And.intro (len_ok ?h) ?_); (case h => exact rfl))
  | with_reducible refine' rd_ex1 ?_
  | with_reducible refine' rd_ex2 ?_
  | with_reducible refine' rd_int1b ?_
  | ((with_reducible refine' rd_isiI ?e ?_); (case e => walk_at "kb"))
  | ((with_reducible refine' rd_isiB ?e ?_); (case e => walk_at "kb"))
  | ((with_reducible refine' rd_isiT ?h ?e ?_); (case h => walk_at "hp"); (case e => walk_at "kb"))
  | ((with_reducible refine' rd_isiL ?h ?e ?_); (case h => walk_at "hp"); (case e => walk_at "kb"))
  | ((with_reducible refine' rd_lenL ?h ?_); (case h => walk_at "hp"))
  | ((with_reducible refine' rd_lenT ?h ?_); (case h => walk_at "hp"))
  | ((with_reducible refine' rd_gTup ?h ?e ?_); (case h => walk_at "hp"); (case e => exact rfl))
  | with_reducible refine' rd_gCons ?_
  | with_reducible refine' rd_gNil ?_
  | with_reducible refine' rd_yes ?_
  | with_reducible refine' rd_for ?_
  | with_reducible refine' rd_lc ?_
  | with_reducible refine' rd_rng1 ?_
  | with_reducible refine' rd_iL ?_
  | with_reducible refine' rd_iT ?_
  | with_reducible refine' rd_iE ?_
  | with_reducible refine' rd_iZ ?_
  | ((with_reducible refine' rd_iL' ?h ?_); (case h => walk_at "hp"))
  | ((with_reducible refine' rd_iT' ?h ?_); (case h => walk_at "hp"))
  | ((with_reducible refine' rd_iE' ?h ?_); (case h => walk_at "hp"))
  | ((with_reducible refine' rd_iZ' ?h1 ?h2 ?_); (case h1 => walk_at "hp"); (case h2 => walk_at "hp"))
  | with_reducible refine' iteT ?_
  | with_reducible refine' iteF ?_)
local macro_rules | `(tactic| walk_at "rd") => `(tactic| repeat walk_at "rd1")

theorem Rows.perm {H : Hp} {α : Type} (f : α → List Int) {xs ys : List V} (p : ys.Perm xs) : ∀ {ks : List α}, Rows H xs (ks.map f) → ∃ ks' : List α, ks'.Perm ks ∧ Rows H ys (ks'.map f) := by
  have key : ∀ {xs ys : List V}, xs.Perm ys → ∀ {ks : List α}, Rows H xs (ks.map f) → ∃ ks' : List α, ks.Perm ks' ∧ Rows H ys (ks'.map f) := by
    intro xs ys p
    induction p with
    | nil => intro ks h; exact ⟨ks, List.Perm.refl _, h⟩
    | cons v p ih =>
      intro ks h
      cases ks with
      | nil => exact h.elim
      | cons k ks =>
        obtain ⟨h1, h2⟩ := h
        obtain ⟨ks', p', r⟩ := ih h2
        exact ⟨k :: ks', p'.cons k, h1, r⟩
    | swap v u l =>
      intro ks h
      match ks, h with
      | k1 :: k2 :: ks, ⟨h1, h2, h3⟩ => exact ⟨k2 :: k1 :: ks, List.Perm.swap _ _ _, h2, h1, h3⟩
      | [k1], ⟨_, h2⟩ => exact h2.elim
      | [], h => exact h.elim
    | trans p q ih1 ih2 =>
      intro ks h
      obtain ⟨k1, p1, r1⟩ := ih1 h
      obtain ⟨k2, p2, r2⟩ := ih2 r1
      exact ⟨k2, p1.trans p2, r2⟩
  intro ks h
  obtain ⟨ks', q, r⟩ := key p.symm h
  exact ⟨ks', q.symm, r⟩
theorem perm_sum {α : Type} (f : α → Int) {xs ys : List α} (p : xs.Perm ys) : (xs.map f).sum = (ys.map f).sum := by
  induction p with
  | nil => rfl
  | cons a _ ih => simp only [List.map_cons, List.sum_cons, ih]
  | swap a b l => simp only [List.map_cons, List.sum_cons]; omega
  | trans _ _ h1 h2 => exact h1.trans h2
theorem Rows.pw {H : Hp} {α : Type} (f : α → List Int) {R : V → V → Prop} {S : α → α → Prop} (hRS : ∀ x y a b, Tup H x (f a) → Tup H y (f b) → R x y → S a b) : ∀ {ys : List V} {ds : List α}, Rows H ys (ds.map f) → ys.Pairwise R → ds.Pairwise S
  | [], [], _, _ => List.Pairwise.nil
  | y :: ys, d :: ds, ⟨h1, h2⟩, p => by
    obtain ⟨p1, p2⟩ := List.pairwise_cons.mp p
    refine List.pairwise_cons.mpr ⟨fun e he => ?_, Rows.pw f hRS h2 p2⟩
    obtain ⟨i, hi⟩ := List.getElem?_of_mem he
    have hl : i < ys.length := by
      have := rows_len h2
      have := (List.getElem?_eq_some_iff.mp hi).1
      omega
    obtain ⟨e', t, h3, h4, h5⟩ := rows_at h2 (List.getElem?_eq_getElem hl)
    rw [hi] at h3
    cases h3
    exact hRS _ _ _ _ h1 ⟨t, h4, h5⟩ (p1 _ (List.getElem_mem hl))
  | [], _ :: _, h, _ => h.elim
  | _ :: _, [], h, _ => h.elim
theorem code3 (d : Ent) : _root_.TS.code 100000 (t3 d) = d.1 * 10000000000 + d.2.1 * 100000 + d.2.2 := by
  simp [t3, _root_.TS.code]
  omega
theorem mem_le_sum : ∀ (l : List Int), (∀ x ∈ l, 0 ≤ x) → ∀ z ∈ l, z ≤ l.sum
  | [], _, z, hz => by cases hz
  | a :: l, h, z, hz => by
    have h1 := h a (by simp)
    have h2 := sum_nn l fun x hx => h x (by simp [hx])
    rw [List.sum_cons]
    rcases List.mem_cons.mp hz with e | hz
    · omega
    · have := mem_le_sum l (fun x hx => h x (by simp [hx])) z hz
      omega
theorem tk_perm {xs ys : List Ent} (p : xs.Perm ys) (k : Int) : tk xs k = tk ys k := perm_sum _ (p.filter _)
theorem bk_perm {xs ys : List Ent} (p : xs.Perm ys) (k : Int) : bk xs k = bk ys k := perm_sum _ (p.filter _)
/-- what is left of each out -/
def freeOf (os : List (Int × Int × Int)) (fs : List Ent) : List Int := (List.range os.length).map fun k => (oAt os k).2.1 - tk fs k
theorem free_len (os : List (Int × Int × Int)) (fs : List Ent) : (freeOf os fs).length = os.length := by simp [freeOf]
theorem free_at {os : List (Int × Int × Int)} {fs : List Ent} {k : Nat} (h : k < os.length) : (freeOf os fs)[k]? = some ((oAt os k).2.1 - tk fs k) := by
  simp [freeOf, h]
theorem free_nil (os : List (Int × Int × Int)) : freeOf os [] = os.map fun o => o.2.1 := by
  apply List.ext_getElem?
  intro i
  by_cases h : i < os.length
  · rw [free_at h, List.getElem?_map, oAt_some h]
    simp [tk]
  · rw [List.getElem?_eq_none (by simp [freeOf]; omega), List.getElem?_eq_none (by simp; omega)]
theorem free_set {os : List (Int × Int × Int)} {fs : List Ent} {k : Nat} {b m : Int} (h : k < os.length) : (freeOf os fs).set k ((oAt os k).2.1 - tk fs k - m) = freeOf os (fs ++ [(b, (k : Int), m)]) := by
  apply List.ext_getElem?
  intro i
  by_cases hi : i < os.length
  · rw [free_at hi, List.getElem?_set]
    by_cases e : k = i
    · subst e
      rw [if_pos rfl, if_pos (by rw [free_len]; exact h), tk_snoc]
      simp
      omega
    · rw [if_neg e, free_at hi, tk_snoc]
      have : ¬ ((k : Int) = i) := by omega
      simp [this]
  · rw [List.getElem?_eq_none (by simp [freeOf]; omega), List.getElem?_eq_none (by simp [freeOf]; omega)]
theorem done_snoc {os : List (Int × Int × Int)} {fs : List Ent} {k : Nat} {b m : Int} (h : k < os.length) (hm : 1 ≤ m) (hc : m ≤ (oAt os k).2.1 - tk fs k) :
    done os fs ≤ done os (fs ++ [(b, (k : Int), m)]) ∧ (m = (oAt os k).2.1 - tk fs k → done os fs + 1 ≤ done os (fs ++ [(b, (k : Int), m)])) := by
  have key : ∀ j ∈ List.range os.length, decide (tk fs ((j : Nat) : Int) = (oAt os j).2.1) = true → decide (tk (fs ++ [(b, (k : Int), m)]) (j : Int) = (oAt os j).2.1) = true := by
    intro j _ hj
    have hj := of_decide_eq_true hj
    refine decide_eq_true ?_
    rw [tk_snoc]
    by_cases e : (k : Int) = j
    · have : k = j := by omega
      subst this
      omega
    · simp [e, hj]
  refine ⟨filter_le _ _ _ key, fun e => ?_⟩
  refine filter_lt _ _ _ key k (List.mem_range.mpr h) (decide_eq_false (by omega)) (decide_eq_true ?_)
  rw [tk_snoc]
  simp
  omega
structure DealOk (os : List (Int × Int × Int)) (bs : List (Int × Int)) (ds : List Ent) : Prop where
  ent : ∀ d ∈ ds, 0 ≤ d.1 ∧ 1 ≤ d.2.2 ∧ ∃ k : Nat, d.2.1 = k ∧ k < os.length ∧ ∃ x, bs[d.1.toNat]? = some x ∧ (oAt os k).1 ≤ x.1
  cap : ∀ k < os.length, tk ds k ≤ (oAt os k).2.1
  all : ∀ (j : Nat) x, bs[j]? = some x → bk ds j = x.2
  rise : ds.Pairwise fun d e => d.1 < e.1 ∨ (d.1 = e.1 ∧ d.2.1 < e.2.1)
  len : ds.length ≤ 36
def spDealt : Sp := fun vs H Q _ => ∃ (l m r : Addr) (us ws : List V) (os : List (Int × Int × Int)) (bs : List (Int × Int)) (rk : List Int), vs = [.ref l, .ref m, .ref r] ∧
  H l = some (.lst us) ∧ Rows H us (os.map t3) ∧ OutsOk os ∧ H m = some (.lst ws) ∧ Rows H ws (bs.map t2) ∧ BacksOk os bs ∧ H r = some (.lst (rk.map V.int)) ∧ rk.length = os.length ∧
  ∀ (H' : Hp) (t : Addr) (ts : List V) (ds : List Ent), Same H H' → H t = none → H' t = some (.tup ts) → Rows H' ts (ds.map t3) → DealOk os bs ds → Q (.ref t) H'
abbrev sDealt : Stmt := top 28
theorem scDealt : FnScope ["_law_sent", "_law_came", "_law_ranks", "_law_row", "_law_free", "_law_found", "_law_b", "_law_wanted", "_law_k", "_law_rank", "_law_much"] ["_law_sent", "_law_came", "_law_ranks"] (defScope sDealt) := ⟨rfl, rfl, rfl, by decide +kernel, rfl, by decide +kernel, by decide +kernel⟩
section
variable {P : Program} {w : World} {K : PySem.W.Frag} {mg : Str → Option Value} {base : Heap}
theorem ok_dealt {f : Addr} {fd : FuncData} (F : Fun K "_law_dealt" "_law_dealt" sDealt f fd) (T : Free mg) :
    FnOk P w K mg base CX0 1 f fd ["_law_sent", "_law_came", "_law_ranks"] spDealt := by
  refine F.ok scDealt (fun vs H Q E h => ?_) (fun cdv A outer s H vs Q E hr h => ?_)
  · obtain ⟨l, m, r, us, ws, os, bs, rk, rfl, _⟩ := h
    rfl
  · obtain ⟨l, m, r, us, ws, os, bs, rk, rfl, hL, hR, OK, hM, hW, BK, hK, hrk, k⟩ := h
    refine ⟨_, (pss_cons (ps_par (i := 4) (j := 5) (by rfl) scDealt.nd rfl rfl (by decide) rfl rfl (pa_cons (pe_lc (own := [("_law_row", 3)]) (tt := tYes) rfl scDealt.nd (pi_list (pv 0)) (blkOk_by (N := ["_law_sent", "_law_came", "_law_ranks", "_law_row", "_law_free", "_law_found", "_law_b", "_law_wanted", "_law_k", "_law_rank", "_law_much"]) (sc := defScope sDealt) (by decide +kernel)) (fun _ _ _ _ _ => (pg_name (i := 3) scDealt.nd rfl (by first | exact Or.inl rfl | exact Or.inr rfl))) (fun _ _ _ _ _ => pts_nil) (fun _ _ _ _ _ => (pe_ix (ix_tupK (K := K) rfl) (pv 3) pe_int (fun _ _ => rfl)))) (pa_cons (pe_lst pa_nil) pa_nil)) (by rfl)) 
      (pss_cons (ps_for PassesOwn.never rfl (pi_enum (by rfl) T.enumerate (pa_cons (pv 1) pa_nil)) (pg_tup (by rfl) (pgs_cons (pg_name (i := 6) scDealt.nd rfl (by first | exact Or.inl rfl | exact Or.inr rfl)) (pgs_cons (pg_name (i := 3) scDealt.nd rfl (by first | exact Or.inl rfl | exact Or.inr rfl)) pgs_nil))) 
        (pss_cons (ps_set (i := 7) scDealt.nd rfl (by first | exact Or.inl rfl | exact Or.inr rfl) (pe_ix (ix_tupK (K := K) rfl) (pv 3) pe_int (fun _ _ => rfl))) 
        (pss_one (ps_for PassesOwn.never rfl (pi_list (pe_callB cr_sortedP (by rfl) T.sorted (by decide +kernel) (pa_cons (pe_lc (own := [("_law_k", 8)]) rfl scDealt.nd (pi_range1 (by rfl) T.range (pa_cons (pe_callB (call_lenK (K := K) rfl) (by rfl) T.len (by decide +kernel) (pa_cons (pv 0) pa_nil)) pa_nil)) (blkOk_by (N := ["_law_sent", "_law_came", "_law_ranks", "_law_row", "_law_free", "_law_found", "_law_b", "_law_wanted", "_law_k", "_law_rank", "_law_much"]) (sc := defScope sDealt) (by decide +kernel)) (fun _ _ _ _ _ => (pg_name (i := 8) scDealt.nd rfl (by first | exact Or.inl rfl | exact Or.inr rfl))) (fun _ _ _ _ _ => (pts_one (pt_cmpR op_le (pe_ix (ix_tupK (K := K) rfl) (pe_ix (ix_listK (K := K) rfl) (pv 0) (pv 8) (fun _ _ => rfl)) pe_int (fun _ _ => rfl)) (pe_ix (ix_tupK (K := K) rfl) (pv 3) pe_int (fun _ _ => rfl)) (nomark _)))) (fun _ _ _ _ _ => (pe_tup (pa_cons (pe_ix (ix_listK (K := K) rfl) (pv 2) (pv 8) (fun _ _ => rfl)) (pa_cons (pv 8) pa_nil))))) pa_nil))) (pg_tup (by rfl) (pgs_cons (pg_name (i := 9) scDealt.nd rfl (by first | exact Or.inl rfl | exact Or.inr rfl)) (pgs_cons (pg_name (i := 8) scDealt.nd rfl (by first | exact Or.inl rfl | exact Or.inr rfl)) pgs_nil))) 
          (pss_cons (ps_set (i := 10) scDealt.nd rfl (by first | exact Or.inl rfl | exact Or.inr rfl) (pe_callB (call_min2 rfl) (by rfl) T.min (by decide +kernel) (pa_cons (pv 7) (pa_cons (pe_ix (ix_listK (K := K) rfl) (pv 4) (pv 8) (fun _ _ => rfl)) pa_nil)))) 
          (pss_one (ps_if (pt_cmpR op_gt (pv 10) pe_int (nomark _)) 
            (pss_cons (ps_expr (pe_bm PySem.F.plainAttrs_list PySem.F.slot_list_append PySem.F.type_list_append mt_append (pv 5) (pa_cons (pe_tup (pa_cons (pv 6) (pa_cons (pv 8) (pa_cons (pv 10) pa_nil)))) pa_nil))) 
            (pss_one (ps_asg (pe_tup (pa_cons (pe_op op_sub (pe_ix (ix_listK (K := K) rfl) (pv 4) (pv 8) (fun _ _ => rfl)) (pv 10)) (pa_cons (pe_op op_sub (pv 7) (pv 10)) pa_nil))) (pg_tup (by rfl) (pgs_cons (pg_sub (pv 4) (pv 8) set_list) (pgs_cons (pg_name (i := 7) scDealt.nd rfl (by first | exact Or.inl rfl | exact Or.inr rfl)) pgs_nil)))))) pss_nil))))))) 
      (pss_one (ps_ret (pe_callTy call_tuple_of (by rfl) T.tuple (by decide +kernel) (pa_cons (pe_callB (cr_sortT (d := 3) (B := 100000) (by decide)) (by rfl) T.sorted (by decide +kernel) (pa_cons (pv 5) pa_nil)) pa_nil)))))), ?_⟩
    have hul := rows_len hR
    have hol := OK.len
    have hwl := rows_len hW
    have hbl := BK.len
    walk_at "rd"
    intro D hD
    refine lcA (p := D) (walk_list (xs := us)) (fun i acc _ => acc = ((os.take i).map fun o => o.2.1).map V.int) hD (by omega) rfl (fun H' e => SqL.of (e.get (ne_of_none hL hD) hL)) ?_ ?_
    · rintro j x H1 H1' acc M hj e q la a ⟨rfl, y⟩ k1 k2
      obtain ⟨o, t, ho, rfl, ht⟩ := rows_at (hR.mono (e.tsn hD)) y
      walk_at "rd"
      refine ⟨rfl, ?_⟩
      walk_at "rd"
      refine k1 _ _ e q ?_
      rw [take_snoc ho, a]
      simp
    · intro H1 acc e1 q1 la a
      rw [List.take_of_length_le (by omega), ← free_nil os] at a
      subst a
      have S1 : Same H H1 := fun b o h => e1.get (ne_of_none h hD) h
      walk_at "rd"
      intro g hg
      have hgD : g ≠ D := (ne_of_none q1 hg).symm
      have hg0 : H g = none := S1.free hg
      walk_at "rd"
      refine loopW (walk_enum (xs := ws)) (fun b σ G => ∃ (fs : List Ent) (gs : List V) (v3 v6 v7 v8 v9 v10 : Option V),
        σ = [some (.ref l), some (.ref m), some (.ref r), v3, some (.ref D), some (.ref g), v6, v7, v8, v9, v10] ∧ Same H G ∧ G D = some (.lst ((freeOf os fs).map V.int)) ∧ G g = some (.lst gs) ∧ Rows G gs (fs.map t3) ∧
        Deal os bs fs b ∧ (∀ d ∈ fs, d.1 < b) ∧ fs.length ≤ b + done os fs)
        ⟨[], [], none, none, none, none, none, none, rfl, same_new S1 hg, by walk_at "hp", upd_same, True.intro, ⟨by simp, fun k hk => ?_, by simp, List.Pairwise.nil⟩, by simp, by simp⟩
        (fun i σ G _ ⟨_, _, _, _, _, _, _, _, _, sG, _⟩ => SqL.of (sG m _ hM)) ?_ ?_
      · have := (OK.bnd _ (List.mem_of_getElem? (oAt_some hk))).2.1.1
        simp [tk]
        omega
      · rintro b x0 σ G G' hb ⟨fs, gs, v3, v6, v7, v8, v9, v10, rfl, sG, hF, hg', hGs, dl, hlt, hln⟩ ⟨T0, x1, x2, rfl, hT0, rfl, e1', e2'⟩
        cases e1'
        obtain ⟨bb, tb, hbb, rfl, htb⟩ := rows_at (hW.mono (Same.ts sG)) e2'
        have nTD : D ≠ T0 := ne_of_none hF hT0
        have nTg : g ≠ T0 := ne_of_none hg' hT0
        have htb' : (upd G T0 (.tup [.int b, .ref tb])) tb = some (.tup ((t2 bb).map V.int)) := by walk_at "hp"
        have sG' : Same H (upd G T0 (.tup [.int b, .ref tb])) := same_new sG hT0
        have hLG : (upd G T0 (.tup [.int b, .ref tb])) l = some (.lst us) := sG' _ _ hL
        have hKG : (upd G T0 (.tup [.int b, .ref tb])) r = some (.lst (rk.map V.int)) := sG' _ _ hK
        have hRG : Rows (upd G T0 (.tup [.int b, .ref tb])) us (os.map t3) := hR.mono (Same.ts sG')
        have hFG : (upd G T0 (.tup [.int b, .ref tb])) D = some (.lst ((freeOf os fs).map V.int)) := by walk_at "hp"
        have hgG : (upd G T0 (.tup [.int b, .ref tb])) g = some (.lst gs) := by walk_at "hp"
        have hGs' : Rows (upd G T0 (.tup [.int b, .ref tb])) gs (fs.map t3) := hGs.mono (TSt.new hT0)
        have hTT : (upd G T0 (.tup [.int b, .ref tb])) T0 = some (.tup [.int b, .ref tb]) := upd_same
        generalize upd G T0 (.tup [.int b, .ref tb]) = G1 at *
        walk_at "rd"
        refine ⟨by omega, by omega, ?_⟩
        intro D2 hD2
        refine lcA (p := D2) walk_range (fun i acc J => Rows J acc (((List.range i).filter fun k => decide ((oAt os k).1 ≤ bb.1)).map fun k => [rk.getD k 0, (k : Int)])) hD2 (by simp; omega) True.intro (fun _ _ => True.intro) ?_ ?_
        · rintro j x H2 H2' acc M hj e q la a ⟨rfl, rfl⟩ k1 k2
          have hj' : j < os.length := by simp at hj; omega
          have hL2 : H2' l = some (.lst us) := e.get (ne_of_none hLG hD2) hLG
          have hK2 : H2' r = some (.lst (rk.map V.int)) := e.get (ne_of_none hKG hD2) hKG
          have htb2 : H2' tb = some (.tup ((t2 bb).map V.int)) := e.get (ne_of_none htb' hD2) htb'
          obtain ⟨o, t, ho, hut, ht⟩ := rows_at (hRG.mono (e.tsn hD2)) (List.getElem?_eq_getElem (show j < us.length by omega))
          have hoo := oAt_eq ho
          walk_at "rd"
          refine ⟨rfl, ?_⟩
          walk_at "rd"
          have hix : ∀ {α : Type} {xs : List α} {v : α}, xs[j]? = some v → atI xs (0 + (j : Int)) = some v := fun h => by rw [Int.zero_add]; exact atI_nat h
          refine rd_ixL hL2 (hix (by rw [List.getElem?_eq_getElem (show j < us.length by omega), hut])) ?_
          walk_at "rd"
          refine ite_dec (fun c => ?_) (fun c => ?_)
          · have hrj : rk[j]? = some (rk.getD j 0) := by rw [List.getD_eq_getElem?_getD, List.getElem?_eq_getElem (by omega)]; rfl
            walk_at "rd"
            refine rd_ixL hK2 (hix (v := V.int (rk.getD j 0)) (by rw [List.getElem?_map, hrj]; rfl)) ?_
            walk_at "rd"
            intro tn htn
            have hq2 : tn ≠ D2 := (ne_of_none q htn).symm
            refine k1 _ _ (e.new htn) (by walk_at "hp") ?_
            have : (oAt os j).1 ≤ bb.1 := by rw [hoo]; exact c
            rw [List.range_succ, List.filter_append, List.map_append]
            have ef : ([j].filter fun k => decide ((oAt os k).1 ≤ bb.1)).map (fun k => [rk.getD k 0, (k : Int)]) = [[rk.getD j 0, (j : Int)]] := by simp [this]
            rw [ef]
            refine (a.mono fun t' xs h => ?_).snoc ⟨tn, rfl, ?_⟩
            · have n1 : t' ≠ D2 := ne_kind h q ne_tl
              walk_at "hp"
            · simp only [Int.zero_add]
              exact upd_get hq2 upd_same
          · refine k2 _ e q ?_
            have : ¬ (oAt os j).1 ≤ bb.1 := by rw [hoo]; exact c
            rw [List.range_succ, List.filter_append, List.map_append]
            have ef : ([j].filter fun k => decide ((oAt os k).1 ≤ bb.1)).map (fun k => [rk.getD k 0, (k : Int)]) = [] := by simp [this]
            rw [ef, List.append_nil]
            exact a
        · intro G2 acc e2 q2 la a
          have eks : ((List.range ((us.length : Int)).toNat).filter fun k => decide ((oAt os k).1 ≤ bb.1)) = ksOf os bb.1 := by
            unfold ksOf
            rw [Int.toNat_natCast, hul]
          rw [eks] at a
          have S2 : Same G1 G2 := fun b o h => e2.get (ne_of_none h hD2) h
          walk_at "rd"
          refine ⟨D2, acc, rfl, SqL.of q2, fun x hx => ?_, fun ys Y pm hY => ?_⟩
          · obtain ⟨i, hi⟩ := List.getElem?_of_mem hx
            obtain ⟨kk, t, _, h1, h2⟩ := rows_at a hi
            exact ⟨t, _, _, h1, h2⟩
          obtain ⟨kq, pk, hY2⟩ := Rows.perm (fun k : Nat => [rk.getD k 0, (k : Int)]) pm a
          have ndk : kq.Nodup := (pk.nodup_iff).mpr (by
            have := ks_nodup os bb.1
            unfold List.Nodup at this
            rw [List.pairwise_map] at this
            exact List.Pairwise.imp (fun {a b} h e => h (by rw [e])) this)
          walk_at "rd"
          have hbv := (BK.bnd bb (List.mem_of_getElem? hbb)).2
          have bk0 : bk fs b = 0 := by
            unfold bk
            have : fs.filter (fun d => decide (d.1 = (b : Int))) = [] := by
              rw [List.filter_eq_nil_iff]
              intro d hd
              have := hlt d hd
              simp
              omega
            rw [this]
            rfl
          have sH2 : Same H (upd G2 Y (.lst ys)) := fun c o h => by
            have := S2 _ _ (sG' _ _ h)
            rw [upd_ne (ne_of_none this hY)]; exact this
          refine loopW (walk_list (xs := ys)) (fun j σ J => ∃ (fs' : List Ent) (gs' : List V) (wn : Int) (v8 v9 v10 : Option V),
            σ = [some (.ref l), some (.ref m), some (.ref r), some (.ref tb), some (.ref D), some (.ref g), some (.int b), some (.int wn), v8, v9, v10] ∧ Same H J ∧ J D = some (.lst ((freeOf os fs').map V.int)) ∧ J g = some (.lst gs') ∧
            Rows J gs' (fs'.map t3) ∧ J Y = some (.lst ys) ∧ Rows J ys (kq.map fun k => [rk.getD k 0, (k : Int)]) ∧ Deal os bs fs' b ∧ wn = bb.2 - bk fs' b ∧ 0 ≤ wn ∧ (∀ d ∈ fs', d.1 = b → ∃ k ∈ kq.take j, d.2.1 = ((k : Nat) : Int)) ∧
            (wn = 0 ∨ ∀ k ∈ kq.take j, tk fs' ((k : Nat) : Int) = (oAt os k).2.1) ∧ fs'.length ≤ b + done os fs' + (if wn = 0 then 1 else 0))
            ⟨fs, gs, bb.2, _, _, _, rfl, sH2, by walk_at "hp", by walk_at "hp", ?_, upd_same, hY2.mono (TSt.new hY), dl, by omega, by omega, fun d hd e => ?_, .inr (by simp), by omega⟩
            (fun i σ G _ ⟨_, _, _, _, _, _, _, _, _, _, _, h, _⟩ => SqL.of h) ?_ ?_
          · exact hGs'.mono ((Same.ts S2).trans (TSt.new hY))
          · have := hlt d hd
            omega
          · rintro j x σ J J' hj ⟨fs', gs', wn, v8', v9', v10', rfl, sJ, jD, jg, jR, jY, jYR, dl', hwn, hw0, hnew, hfull, hln'⟩ ⟨rfl, y⟩
            obtain ⟨kk, t, hkk, rfl, ht⟩ := rows_at jYR y
            replace ht : J' t = some (.tup [V.int (rk.getD kk 0), V.int kk]) := ht
            have hkm : kk ∈ ksOf os bb.1 := pk.mem_iff.mp (List.mem_of_getElem? hkk)
            obtain ⟨hk1, hk2⟩ := ks_mem.mp hkm
            have hcap := dl'.cap kk hk1
            have hknew : kk ∉ kq.take j := fun hm => by
              obtain ⟨i, hi⟩ := List.getElem?_of_mem hm
              rw [List.getElem?_take] at hi
              split at hi
              · have := nd_ix ndk hi hkk
                omega
              · cases hi
            walk_at "rd"
            refine rd_ixL jD (atI_nat (j := kk) (v := V.int ((oAt os kk).2.1 - tk fs' kk)) (by rw [List.getElem?_map, free_at hk1]; rfl)) ?_
            walk_at "rd"
            obtain ⟨mm, hmm, hmb⟩ : ∃ mm, (if (oAt os kk).2.1 - tk fs' kk < wn then (oAt os kk).2.1 - tk fs' kk else wn) = mm ∧ mm ≤ wn ∧ mm ≤ (oAt os kk).2.1 - tk fs' kk ∧ (mm = wn ∨ mm = (oAt os kk).2.1 - tk fs' kk) ∧ 0 ≤ mm := ⟨_, rfl, by split <;> omega⟩
            rw [hmm]
            have hfl : gs'.length < sizeLine := by
              have h1 := rows_len jR
              have h2 := done_le os fs'
              have h3 : (List.range ws.length).length = ws.length := by simp
              exact small1000 (by rw [h1]; split at hln' <;> omega)
            walk_at "rd"
            refine ite_dec (fun c => ?_) (fun c => ?_)
            · walk_at "rd"
              intro t1 ht1
              walk_at "rd"
              refine rd_ixL (xs := (freeOf os fs').map V.int) (by walk_at "hp") (atI_nat (j := kk) (v := V.int ((oAt os kk).2.1 - tk fs' kk)) (by rw [List.getElem?_map, free_at hk1]; rfl)) ?_
              walk_at "rd"
              intro t2 ht2
              have nt1D : t1 ≠ D := (ne_of_none jD ht1).symm
              have nt1g : t1 ≠ g := (ne_of_none jg ht1).symm
              have nDg : D ≠ g := hgD.symm
              walk_at "rd"
              refine rd_setL (xs := (freeOf os fs').map V.int) (j := kk) (by walk_at "hp") (by simp [ixN, free_len, hk1]) ?_
              walk_at "rd"
              have hset : ((freeOf os fs').map V.int).set kk (V.int ((oAt os kk).2.1 - tk fs' kk - mm)) = (freeOf os (fs' ++ [((b : Int), (kk : Int), mm)])).map V.int := by
                rw [← free_set hk1, List.map_set]
              rw [hset]
              have hno : ∀ d ∈ fs', ¬ (d.1 = b ∧ d.2.1 = kk) := fun d hd ⟨h1, h2⟩ => by
                obtain ⟨k', h3, h4⟩ := hnew d hd h1
                have : k' = kk := by omega
                subst this
                exact hknew h3
              have dl2 := dl'.snoc hbb hkm hno (m := mm) (by omega) (by omega)
              obtain ⟨dn1, dn2⟩ := done_snoc (os := os) (fs := fs') (k := kk) (b := (b : Int)) (m := mm) hk1 (by omega) (by omega)
              have tsj : TSt J' (upd (upd (upd (upd J' t1 (.tup [.int b, .int kk, .int mm])) g (.lst (gs' ++ [.ref t1]))) t2 (.tup [.int ((oAt os kk).2.1 - tk fs' kk - mm), .int (wn - mm)])) D (.lst ((freeOf os (fs' ++ [((b : Int), (kk : Int), mm)])).map V.int))) := fun t' xs h => by
                have n1 : t' ≠ D := ne_kind h jD ne_tl
                have n2 : t' ≠ g := ne_kind h jg ne_tl
                walk_at "hp"
              have nYD : Y ≠ D := fun e => by
                have z := jY
                rw [e, jD] at z
                exact (ne_of_none (S2 _ _ hFG) hY) e.symm
              have nYg : Y ≠ g := fun e => (ne_of_none (S2 _ _ hgG) hY) e.symm
              refine ⟨fs' ++ [((b : Int), (kk : Int), mm)], gs' ++ [.ref t1], wn - mm, _, _, _, rfl, fun c o h => ?_, upd_same, by walk_at "hp", ?_, by walk_at "hp", jYR.mono tsj, dl2, ?_, by omega, fun d hd e => ?_, ?_, ?_⟩
              · have h1 := sJ c o h
                have n1 : c ≠ D := ne_of_none h hD
                have n2 : c ≠ g := ne_of_none h hg0
                walk_at "hp"
              · rw [map_snoc]
                exact (jR.mono tsj).snoc ⟨t1, rfl, by walk_at "hp"⟩
              · rw [bk_snoc]
                simp
                omega
              · rw [take_snoc hkk]
                rcases List.mem_append.mp hd with h | h
                · obtain ⟨k', h3, h4⟩ := hnew d h e
                  exact ⟨k', List.mem_append_left _ h3, h4⟩
                · simp at h
                  subst h
                  exact ⟨kk, List.mem_append_right _ (by simp), rfl⟩
              · rcases hfull with h | h
                · omega
                · rcases hmb.2.2.1 with h1 | h1
                  · exact .inl (by omega)
                  · refine .inr fun k' hk' => ?_
                    rw [tk_snoc]
                    rw [take_snoc hkk] at hk'
                    rcases List.mem_append.mp hk' with h' | h'
                    · have hne : ¬ ((kk : Int) = k') := fun e => hknew (by
                        have : kk = k' := by omega
                        rw [this]; exact h')
                      simp [hne]
                      exact h k' h'
                    · simp at h'
                      subst h'
                      simp
                      omega
              · rw [List.length_append, List.length_singleton]
                have hwz : ¬ wn = 0 := by omega
                rw [if_neg hwz] at hln'
                rcases hmb.2.2.1 with h1 | h1
                · rw [if_pos (by omega)]
                  omega
                · have := dn2 h1
                  split <;> omega
            · have z : wn = 0 ∨ tk fs' kk = (oAt os kk).2.1 := by omega
              refine ⟨fs', gs', wn, _, _, _, rfl, sJ, jD, jg, jR, jY, jYR, dl', hwn, hw0, fun d hd e => ?_, ?_, hln'⟩
              · obtain ⟨k', h1, h2⟩ := hnew d hd e
                exact ⟨k', by rw [take_snoc hkk]; exact List.mem_append_left _ h1, h2⟩
              · rcases hfull with h | h
                · exact .inl h
                · rcases z with z | z
                  · exact .inl z
                  · refine .inr fun k' hk' => ?_
                    rw [take_snoc hkk] at hk'
                    rcases List.mem_append.mp hk' with h' | h'
                    · exact h k' h'
                    · simp at h'
                      rw [h']
                      exact z
          · rintro σ J ⟨fs', gs', wn, v8', v9', v10', rfl, sJ, jD, jg, jR, jY, jYR, dl', hwn, hw0, hnew, hfull, hln'⟩
            have hz : wn = 0 := by
              rcases hfull with h | h
              · exact h
              · have := dl'.enough BK hbb wn hwn fun k hk => h k (by
                  rw [List.take_of_length_le (by have := rows_len jYR; omega)]
                  exact pk.mem_iff.mpr hk)
                omega
            refine ⟨fs', gs', _, _, _, _, _, _, rfl, sJ, jD, jg, jR, dl'.next hbb (by omega), fun d hd => ?_, ?_⟩
            · have := (dl'.ent d hd).1.2
              omega
            · rw [if_pos hz] at hln'
              omega
      · rintro σ G ⟨fs, gs, v3, v6, v7, v8, v9, v10, rfl, sG, hF, hg', hGs, dl, hlt, hln⟩
        have hdn := done_le os fs
        have hgl := rows_len hGs
        walk_at "rd"
        refine ⟨g, gs, rfl, SqL.of hg', by omega, fun x hx => ?_, fun ys Y pm pw hY => ?_⟩
        · obtain ⟨i, hi⟩ := List.getElem?_of_mem hx
          obtain ⟨d, t, hd, h1, h2⟩ := rows_at hGs hi
          have hdm := List.mem_of_getElem? hd
          obtain ⟨⟨d0, d1⟩, d2, k', d3, d4, x', d5, d6⟩ := dl.ent d hdm
          have hcap := dl.cap k' d4
          have htk : d.2.2 ≤ tk fs k' := by
            have : d.2.2 ≤ tk fs d.2.1 := by
              unfold tk
              refine mem_le_sum _ (fun z hz => ?_) _ (List.mem_map.mpr ⟨d, List.mem_filter.mpr ⟨hdm, by simp⟩, rfl⟩)
              obtain ⟨e, he, rfl⟩ := List.mem_map.mp hz
              exact dl.nn e (List.mem_filter.mp he).1
            rwa [d3] at this
          have hbn := (OK.bnd _ (List.mem_of_getElem? (oAt_some d4))).2.1.2
          refine ⟨t3 d, ⟨t, h1, SqT.of h2⟩, rfl, fun z hz => ?_⟩
          simp [t3] at hz
          rcases hz with rfl | rfl | rfl <;> omega
        obtain ⟨ds, pd, hYs⟩ := Rows.perm t3 pm hGs
        have htl : SqL K (upd G Y (.lst ys)) Y ys := SqL.of upd_same
        walk_at "rd"
        refine ⟨Y, ys, rfl, .inl ⟨htl, fun tt htt => ?_⟩⟩
        have htt0 : H tt = none := by
          obtain ⟨_, h⟩ := upd_none htt
          exact sG.free h
        refine k _ tt ys ds (fun c o h => ?_) htt0 upd_same (hYs.mono ((TSt.new hY).trans (TSt.new htt))) ⟨fun d hd => ?_, fun k' hk' => ?_, fun j x hx => ?_, ?_, ?_⟩
        · have h1 := sG c o h
          walk_at "hp"
        · obtain ⟨⟨h1, _⟩, h2⟩ := dl.ent d (pd.mem_iff.mp hd)
          exact ⟨h1, h2⟩
        · rw [tk_perm pd]
          exact dl.cap k' hk'
        · rw [bk_perm pd]
          exact dl.all j x (by rw [hwl]; exact (List.getElem?_eq_some_iff.mp hx).1) hx
        · have h1 : ds.Pairwise fun d e => _root_.TS.code 100000 (t3 d) ≤ _root_.TS.code 100000 (t3 e) := Rows.pw t3 (fun x y a b ⟨t, e1, e2⟩ ⟨t', e3, e4⟩ h => h _ _ ⟨t, e1, SqT.of e2⟩ ⟨t', e3, SqT.of e4⟩) hYs pw
          have h2 : ds.Pairwise fun d e => ¬ (d.1 = e.1 ∧ d.2.1 = e.2.1) := (pd.pairwise_iff fun {x y} h ⟨e1, e2⟩ => h ⟨e1.symm, e2.symm⟩).mpr dl.apart
          have hbd : ∀ d ∈ ds, 0 ≤ d.2.1 ∧ d.2.1 < 100000 ∧ 0 ≤ d.2.2 ∧ d.2.2 < 100000 := by
            intro d hd
            have hdm := pd.mem_iff.mp hd
            obtain ⟨⟨d0, d1⟩, d2, k', d3, d4, x', d5, d6⟩ := dl.ent d hdm
            have hcap := dl.cap k' d4
            have htk : d.2.2 ≤ tk fs k' := by
              have : d.2.2 ≤ tk fs d.2.1 := by
                unfold tk
                refine mem_le_sum _ (fun z hz => ?_) _ (List.mem_map.mpr ⟨d, List.mem_filter.mpr ⟨hdm, by simp⟩, rfl⟩)
                obtain ⟨e, he, rfl⟩ := List.mem_map.mp hz
                exact dl.nn e (List.mem_filter.mp he).1
              rwa [d3] at this
            have hbn := (OK.bnd _ (List.mem_of_getElem? (oAt_some d4))).2.1.2
            omega
          refine (List.Pairwise.and h1 h2).imp_of_mem fun {d e} hd he ⟨h3, h4⟩ => ?_
          rw [code3, code3] at h3
          have b1 := hbd d hd
          have b2 := hbd e he
          omega
        · rw [pd.length_eq]
          omega
end
end Sk
end

section
namespace Sk
open PySem L2
/-- a list or a tuple of these things -/
def Seq (H : Hp) (a : Addr) (us : List V) : Prop := H a = some (.lst us) ∨ H a = some (.tup us)
theorem Seq.mono {H H' : Hp} {a : Addr} {us : List V} (h : Seq H a us) (s : Same H H') : Seq H' a us := h.imp (s _ _) (s _ _)
def sumBack (os : List (Int × Int × Int)) (ds : List Ent) : Int := (ds.map fun d => d.2.2 * (oAt os d.2.1.toNat).2.2).sum
/-- what sum_back and left ask for -/
def DealtAt (H : Hp) (l m t : Addr) (os : List (Int × Int × Int)) (bs : List (Int × Int)) (ds : List Ent) : Prop :=
  ∃ us ws ts : List V, Seq H l us ∧ Rows H us (os.map t3) ∧ OutsOk os ∧ Seq H m ws ∧ Rows H ws (bs.map t2) ∧ BacksOk os bs ∧ H t = some (.tup ts) ∧ Rows H ts (ds.map t3) ∧ DealOk os bs ds
def spSum : Sp := fun vs H Q _ => ∃ (l m t : Addr) (os : List (Int × Int × Int)) (bs : List (Int × Int)) (ds : List Ent), vs = [.ref l, .ref m, .ref t] ∧ DealtAt H l m t os bs ds ∧ ∀ H', Same H H' → Q (.int (sumBack os ds)) H'
def spLeft : Sp := fun vs H Q _ => ∃ (l m t : Addr) (os : List (Int × Int × Int)) (bs : List (Int × Int)) (ds : List Ent), vs = [.ref l, .ref m, .ref t] ∧ DealtAt H l m t os bs ds ∧
  ∀ H' a, Same H H' → H a = none → H' a = some (.tup ((freeOf os ds).map V.int)) → Q (.ref a) H'
/-! ### data -/
theorem dp_ints {K : PySem.W.Frag} {H : Hp} : ∀ ns : List Int, DpAll K H (ns.map V.int) (ns.map PyData.int)
  | [] => .nil
  | n :: ns => .cons (.int n) (dp_ints ns)
theorem dp_rows {K : PySem.W.Frag} {H : Hp} : ∀ {us : List V} {rs : List (List Int)}, Rows H us rs → DpAll K H us (rs.map fun r => PyData.tuple (r.map PyData.int))
  | [], [], _ => .nil
  | _ :: _, r :: _, ⟨⟨t, e, h⟩, b⟩ => by
    subst e
    exact .cons (.tup (SqT.of h) (dp_ints r)) (dp_rows b)
  | [], _ :: _, h => h.elim
  | _ :: _, [], h => h.elim
theorem lay_ints : ∀ ns : List Int, PyData.canLayAll0 (ns.map PyData.int) = true
  | [] => rfl
  | n :: ns => by simp [PyData.canLayAll0, PyData.canLay0, lay_ints ns]
theorem lay_rows : ∀ rs : List (List Int), PyData.canLayAll0 (rs.map fun r => PyData.tuple (r.map PyData.int)) = true
  | [] => rfl
  | r :: rs => by simp [PyData.canLayAll0, PyData.canLay0, lay_ints r, lay_rows rs]
theorem deep_ints : ∀ ns : List Int, PyData.depthAll (ns.map PyData.int) = 0
  | [] => rfl
  | n :: ns => by simp [PyData.depthAll, PyData.depth, deep_ints ns]
theorem deep_rows : ∀ rs : List (List Int), PyData.depthAll (rs.map fun r => PyData.tuple (r.map PyData.int)) ≤ 1
  | [] => by simp [PyData.depthAll]
  | r :: rs => by
    have := deep_rows rs
    simp only [List.map_cons, PyData.depthAll, PyData.depth, deep_ints r]
    omega
theorem shaped_ints (ns : List Int) : SeqAt.shaped (.list (ns.map PyData.int)) = true := by
  simp [SeqAt.shaped, PyData.canLay0, lay_ints, PyData.depth, deep_ints]
theorem shaped_rows (rs : List (List Int)) : SeqAt.shaped (.list (rs.map fun r => PyData.tuple (r.map PyData.int))) = true := by
  have := deep_rows rs
  simp [SeqAt.shaped, PyData.canLay0, lay_rows, PyData.depth]
  omega
theorem rd_neSame {K : PySem.W.Frag} {H : Hp} {Q : VK} {x y : V} {d : PyData} (h1 : Dp K H x d) (h2 : Dp K H y d) (s : SeqAt.shaped d = true) (k : Q (.bl false) H) : rNeD K x y H Q := by
  refine ⟨d, d, h1, h2, s, s, ?_⟩
  rw [SeqAt.eqv_refl d (SeqAt.canLay_of_shaped s)]
  exact k
/-! ### sums -/
theorem sum_by_outs (os : List (Int × Int × Int)) (ds : List Ent) (h : ∀ d ∈ ds, ∃ k : Nat, d.2.1 = k ∧ k < os.length) : sumBack os ds = ((List.range os.length).map fun (k : Nat) => tk ds (k : Int) * (oAt os k).2.2).sum := by
  unfold sumBack
  induction ds with
  | nil =>
    have : ((List.range os.length).map fun (k : Nat) => tk [] (k : Int) * (oAt os k).2.2) = (List.range os.length).map fun _ => (0 : Int) := List.map_congr_left fun k _ => by simp [tk]
    rw [this, sum_zero]
    rfl
  | cons d ds ih =>
    obtain ⟨k0, e0, l0⟩ := h d (by simp)
    have h1 := ih fun d hd => h d (by simp [hd])
    rw [List.map_cons, List.sum_cons, h1]
    have h2 : ((List.range os.length).map fun (k : Nat) => tk (d :: ds) (k : Int) * (oAt os k).2.2).sum = ((List.range os.length).map fun (k : Nat) => if k0 = k then d.2.2 * (oAt os k0).2.2 else 0).sum + ((List.range os.length).map fun (k : Nat) => tk ds (k : Int) * (oAt os k).2.2).sum := by
      rw [← sum_add]
      refine sum_eq_of _ _ _ fun k _ => ?_
      rw [tk_cons, e0, Int.add_mul]
      by_cases e : k0 = k
      · subst e
        simp
      · have : ¬ ((k0 : Int) = k) := by omega
        simp [e, this]
    rw [h2, e0]
    have h3 : ((List.range os.length).map fun (k : Nat) => if k0 = k then d.2.2 * (oAt os k0).2.2 else 0).sum = d.2.2 * (oAt os k0).2.2 := by
      have g : ∀ n, k0 < n → ((List.range n).map fun (k : Nat) => if k0 = k then d.2.2 * (oAt os k0).2.2 else 0).sum = d.2.2 * (oAt os k0).2.2 := by
        intro n
        induction n with
        | zero => intro h; omega
        | succ n ih =>
          intro hn
          rw [List.range_succ, List.map_append, List.sum_append]
          by_cases e : k0 = n
          · subst e
            have z : ((List.range k0).map fun (k : Nat) => if k0 = k then d.2.2 * (oAt os k0).2.2 else 0) = (List.range k0).map fun _ => (0 : Int) := List.map_congr_left fun k hk => by
              rw [if_neg]
              have := List.mem_range.mp hk
              omega
            rw [z, sum_zero]
            simp
          · rw [ih (by omega)]
            simp [e]
      exact g _ l0
    rw [h3]
    simp
theorem range_map {β : Type} (os : List (Int × Int × Int)) (g : Int × Int × Int → β) : (List.range os.length).map (fun k => g (oAt os k)) = os.map g := by
  apply List.ext_getElem?
  intro i
  by_cases h : i < os.length
  · rw [List.getElem?_map, List.getElem?_map, List.getElem?_range h, oAt_some h]
    rfl
  · rw [List.getElem?_eq_none (by simp; omega), List.getElem?_eq_none (by simp; omega)]
theorem paid_all (os : List (Int × Int × Int)) (ds : List Ent) (h : ∀ d ∈ ds, ∃ k : Nat, d.2.1 = k ∧ k < os.length) :
    sumBack os ds + ((List.range os.length).map fun (k : Nat) => ((oAt os k).2.1 - tk ds (k : Int)) * (oAt os k).2.2).sum = (os.map fun o => o.2.1 * o.2.2).sum := by
  rw [sum_by_outs os ds h, ← sum_add, ← range_map os fun o => o.2.1 * o.2.2]
  refine sum_eq_of _ _ _ fun k _ => ?_
  rw [← Int.add_mul]
  congr 1
  omega
end Sk
end

section
namespace Sk
open PySem L2
/-- what stands while the law looks at one purse -/
structure Bun (H : Hp) (p l m : Addr) (us ws : List V) (os : List (Int × Int × Int)) (bs : List (Int × Int)) (G : Hp) : Prop where
  ext : Ext p H G
  pur : Purse G p
  hl : G l = some (.lst us)
  rl : Rows G us (os.map t3)
  hm : G m = some (.lst ws)
  rm : Rows G ws (bs.map t2)
theorem Bun.same {H G G' : Hp} {p l m : Addr} {us ws : List V} {os : List (Int × Int × Int)} {bs : List (Int × Int)} (b : Bun H p l m us ws os bs G) (s : Same G G') : Bun H p l m us ws os bs G' := by
  obtain ⟨x1, x2, x3, x4, x5⟩ := b.pur
  exact ⟨b.ext.trans (Same.ext s), ⟨x1, x2, x3, s _ _ x4, x5⟩, s _ _ b.hl, b.rl.mono (Same.ts s), s _ _ b.hm, b.rm.mono (Same.ts s)⟩
theorem Bun.ext2 {H G G' : Hp} {p l m : Addr} {us ws : List V} {os : List (Int × Int × Int)} {bs : List (Int × Int)} (b : Bun H p l m us ws os bs G) (lp : l ≠ p) (mp : m ≠ p) (e : Ext p G G') (pu : Purse G' p) : Bun H p l m us ws os bs G' :=
  ⟨b.ext.trans e, pu, e.get lp b.hl, b.rl.mono (b.pur.ts e), e.get mp b.hm, b.rm.mono (b.pur.ts e)⟩
theorem rd_tupOf {K : PySem.W.Frag} {H : Hp} {Q : VK} {a : Addr} {us : List V} (h : H a = some (.lst us)) (k : ∀ q, H q = none → Q (.ref q) (upd H q (.tup us))) :
    ∃ p ys, [V.ref a] = [.ref p] ∧ ((SqL K H p ys ∧ ∀ l, H l = none → Q (.ref l) (upd H l (.tup ys))) ∨ (SqT K H p ys ∧ Q (.ref p) H)) := ⟨a, us, rfl, .inl ⟨SqL.of h, k⟩⟩
theorem rd_listOf {K : PySem.W.Frag} {H : Hp} {Q : VK} {a : Addr} {us : List V} (h : Seq H a us) (k : ∀ q, H q = none → Q (.ref q) (upd H q (.lst us))) :
    ∃ p ys, [V.ref a] = [.ref p] ∧ (SqL K H p ys ∨ SqT K H p ys) ∧ ∀ l, H l = none → Q (.ref l) (upd H l (.lst ys)) := ⟨a, us, rfl, h.imp SqL.of SqT.of, k⟩
theorem rd_callN {n m : Nat} {sp : Sp} {gV : List V → List V → List V} {E : XK} {t tk : TA} {σ : St} {H : Hp} {Q : VK} (k : t σ H fun vs H1 => tk σ H1 fun zs H2 => vs.length = n ∧ zs.length = m ∧ sp (gV vs zs) H2 Q E) : tCallN n m sp gV E t tk σ H Q := k
theorem rd_tB {t : TE} {σ : St} {H : Hp} {R : Bool → Hp → Prop} (k : t σ H fun x H1 => ∃ c, x = .bl c ∧ R c H1) : tB t σ H R := k
theorem iteNT {A B : Prop} (h : B) : if (!true) = true then A else B := iteF h
theorem iteNF {A B : Prop} (h : A) : if (!false) = true then A else B := iteT h
theorem rd_allT {K : PySem.W.Frag} {H : Hp} {Q : VK} {a : Addr} {n : Nat} (h : H a = some (.lst (List.replicate n (V.bl true)))) (k : Q (.bl true) H) : rAll K [V.ref a] H Q := by
  refine rd_all (bs := List.replicate n true) (by rw [h, List.map_replicate]) ?_
  have : (List.replicate n true).all id = true := by simp
  rw [this]
  exact k
theorem rd_rep2 {H : Hp} {Q : VK} {a : Addr} {v : V} (h : H a = some (.lst [v])) (k : ∀ q, H q = none → Q (.ref q) (upd H q (.lst [v, v]))) : rRep (.ref a) (.int 2) H Q :=
  ⟨a, 2, [v], rfl, rfl, h, by decide, by decide, (by show 2 ≤ sizeLine; decide), k⟩
theorem rd_iZK {K : PySem.W.Frag} {ta : TA} {σ : St} {H : Hp} {R : It → Hp → Prop} (k : ta σ H fun vs H1 => ∃ t u a b ys zs, vs = [V.ref a, V.ref b] ∧ SqK K t H1 a ys ∧ SqK K u H1 b zs ∧ R (ItzK K t u a b) H1) : iZipK K ta σ H R := k
theorem rd_anyF {K : PySem.W.Frag} {H : Hp} {Q : VK} {a : Addr} {n : Nat} (h : H a = some (.lst (List.replicate n (V.bl false)))) (k : Q (.bl false) H) : rAny K [V.ref a] H Q := by
  refine rd_any (bs := List.replicate n false) (by rw [h, List.map_replicate]) ?_
  have : (List.replicate n false).any id = false := by simp
  rw [this]
  exact k

end Sk
end

section
namespace Sk
open PySem L2
local macro_rules | `(tactic| walk_at "kb") => `(tactic| first | exact kb_int_int | exact kb_int_bool | exact kb_int_str | exact kb_int_tuple | exact kb_int_list | exact kb_tuple_int | exact kb_tuple_bool | exact kb_tuple_str | exact kb_tuple_tuple | exact kb_tuple_list | exact kb_list_int | exact kb_list_bool | exact kb_list_str | exact kb_list_tuple | exact kb_list_list | exact kb_bool_int | exact kb_bool_bool | exact kb_bool_str | exact kb_bool_tuple | exact kb_bool_list | exact kb_str_int | exact kb_str_bool | exact kb_str_str | exact kb_str_tuple | exact kb_str_list | exact kb_dict_int | exact kb_dict_bool | exact kb_dict_str | exact kb_dict_tuple | exact kb_dict_list | exact kb_NoneType_int | exact kb_NoneType_bool | exact kb_NoneType_str | exact kb_NoneType_tuple | exact kb_NoneType_list)
local macro_rules | `(tactic| walk_at "hp") => `(tactic| first
  | assumption
  | exact upd_same
  | (refine' upd_get ?n ?e; (case n => walk_at "ne"); (case e => walk_at "hp"))
  | (refine' But.get (by assumption) ?n ?e; (case n => walk_at "ne"); (case e => walk_at "hp"))
  | (refine' Ext.get (by assumption) ?n ?e; (case n => walk_at "ne"); (case e => walk_at "hp"))
  | (refine' same_get (by assumption) ?e; (case e => walk_at "hp")))
local macro_rules | `(tactic| walk_at "ne") => `(tactic| first
  | assumption
  | (apply Ne.symm; assumption)
  | (refine' ne_of_none ?h (by assumption); (case h => walk_at "hp"))
  | (apply Ne.symm; refine' ne_of_none ?h (by assumption); (case h => walk_at "hp")))
local macro_rules | `(tactic| walk_at "sd") => `(tactic| first
  | (show (0 : Int) < _; omega)
  | (simp only [CMul, CDiv]; omega)
  | exact ⟨by omega, by omega⟩)
local macro_rules | `(tactic| walk_at "rd1") => `(tactic| first
  | with_reducible refine' rd_c ?_
  | ((with_reducible refine' rd_var ?h ?_); (case h => exact rfl))
  | with_reducible refine' rd_op ?_
  | with_reducible refine' rd_seq ?_
  | with_reducible refine' rd_asg ?_
  | with_reducible refine' rd_gName ?_
  | with_reducible refine' rd_I0 ?_
  | ((with_reducible refine' rd_I ?c ?_); (case c => walk_at "sd"))
  | with_reducible refine' rd_eqI ?_
  | with_reducible refine' rd_neI ?_
  | with_reducible refine' rd_U ?_
  | with_reducible refine' rd_un ?_
  | with_reducible refine' rd_ret ?_
  | with_reducible refine' rd_drop ?_
  | with_reducible refine' rd_next ?_
  | with_reducible refine' rd_ifS ?_
  | with_reducible refine' rd_test ?_
  | with_reducible refine' rd_bl ?_
  | with_reducible refine' rd_nil ?_
  | with_reducible refine' rd_cons ?_
  | with_reducible refine' rd_tup ?_
  | with_reducible refine' rd_lst ?_
  | with_reducible refine' rd_call ?_
  | with_reducible refine' rd_cb ?_
  | with_reducible refine' rd_par ?_
  | with_reducible refine' rd_par2 ?_
  | with_reducible refine' rd_and ?_
  | with_reducible refine' rd_or ?_
  | with_reducible refine' rd_not ?_
  | with_reducible refine' rd_andV ?_
  | with_reducible refine' rd_orV ?_
  | with_reducible refine' rd_notV ?_
  | with_reducible refine' rd_if ?_
  | with_reducible refine' rd_gSub ?_
  | ((with_reducible refine' rd_ixL ?h ?e ?_); (case h => walk_at "hp"); (case e => exact rfl))
  | ((with_reducible refine' rd_ixT ?h ?e ?_); (case h => walk_at "hp"); (case e => exact rfl))
  | ((with_reducible refine' rd_setL ?h ?e ?_); (case h => walk_at "hp"); (case e => exact rfl))
  | ((with_reducible refine' rd_append ?h ?e ?_); (case h => walk_at "hp"); (case e => assumption))
  | (with_reducible refine' rd_bmL ?_)
  | ((with_reducible refine' And.intro (tyL ?h) ?_); (case h => walk_at "hp"))
  | ((with_reducible refine' And.intro (len_ok ?h) ?_); (case h => exact rfl))
  | with_reducible refine' rd_ex1 ?_
  | with_reducible refine' rd_ex2 ?_
  | with_reducible refine' rd_int1b ?_
  | ((with_reducible refine' rd_isiI ?e ?_); (case e => walk_at "kb"))
  | ((with_reducible refine' rd_isiB ?e ?_); (case e => walk_at "kb"))
  | ((with_reducible refine' rd_isiT ?h ?e ?_); (case h => walk_at "hp"); (case e => walk_at "kb"))
  | ((with_reducible refine' rd_isiL ?h ?e ?_); (case h => walk_at "hp"); (case e => walk_at "kb"))
  | ((with_reducible refine' rd_lenL ?h ?_); (case h => walk_at "hp"))
  | ((with_reducible refine' rd_lenT ?h ?_); (case h => walk_at "hp"))
  | ((with_reducible refine' rd_gTup ?h ?e ?_); (case h => walk_at "hp"); (case e => exact rfl))
  | with_reducible refine' rd_gCons ?_
  | with_reducible refine' rd_gNil ?_
  | with_reducible refine' rd_yes ?_
  | with_reducible refine' rd_for ?_
  | with_reducible refine' rd_lc ?_
  | with_reducible refine' rd_rng1 ?_
  | with_reducible refine' rd_iL ?_
  | with_reducible refine' rd_iT ?_
  | with_reducible refine' rd_iE ?_
  | with_reducible refine' rd_iZ ?_
  | ((with_reducible refine' rd_iL' ?h ?_); (case h => walk_at "hp"))
  | ((with_reducible refine' rd_iT' ?h ?_); (case h => walk_at "hp"))
  | ((with_reducible refine' rd_iE' ?h ?_); (case h => walk_at "hp"))
  | ((with_reducible refine' rd_iZ' ?h1 ?h2 ?_); (case h1 => walk_at "hp"); (case h2 => walk_at "hp"))
  | with_reducible refine' iteT ?_
  | with_reducible refine' iteF ?_)
local macro_rules | `(tactic| walk_at "rd") => `(tactic| repeat walk_at "rd1")
section
variable {K : PySem.W.Frag} {σ : St} {H : Hp} {Q : VK} {R : It → Hp → Prop}
/-- kept as it stood -/
def Kept (H : Hp) (a : Addr) (H' : Hp) : Prop := ∀ o, H a = some o → H' a = some o
theorem Seq.sq {a : Addr} {us : List V} (h : Seq H a us) : ∃ t, ∀ H', Kept H a H' → SqK K t H' a us := by
  rcases h with h | h
  · exact ⟨false, fun H' k => SqL.of (k _ h)⟩
  · exact ⟨true, fun H' k => SqT.of (k _ h)⟩
theorem Seq.kept {a : Addr} {us : List V} {H' : Hp} (h : Seq H a us) (k : Kept H a H') : Seq H' a us := h.imp (k _) (k _)
theorem Seq.ne {a D : Addr} {us : List V} (h : Seq H a us) (n : H D = none) : a ≠ D := by
  rintro rfl
  rcases h with h | h <;> rw [h] at n <;> cases n
theorem Seq.ext {p a : Addr} {us : List V} {H' : Hp} (h : Seq H a us) (e : Ext p H H') (n : a ≠ p) : Seq H' a us := h.imp (e _ _ n) (e _ _ n)
def rIxA (K : PySem.W.Frag) : R2 := fun x y H Q => rIxL K x y H Q ∨ rIxT K x y H Q
theorem rd_ixA {a : Addr} {us : List V} {i : Int} {v : V} (h : Seq H a us) (e : atI us i = some v) (k : Q v H) : rIxA K (.ref a) (.int i) H Q := by
  rcases h with h | h
  · exact .inl (rd_ixL h e k)
  · exact .inr (rd_ixT h e k)
theorem rd_lenS {a : Addr} {us : List V} {R : Nat → Prop} (h : Seq H a us) (k : R us.length) : ∃ x n, [V.ref a] = [x] ∧ LenV K x H n ∧ R n := by
  rcases h with h | h
  · exact rd_lenL h k
  · exact rd_lenT h k
/-- what is asked of enumerate, of a row, of zip behind their arguments -/
def EnumS (R : It → Hp → Prop) (vs : List V) (H : Hp) : Prop := ∃ (a : Addr) (us : List V), vs = [V.ref a] ∧ Seq H a us ∧ ∀ (J : It) (G : Hp → Prop), (∀ H', Kept H a H' → G H') → Walk J us.length G (YPair (fun n => some (V.int (n : Nat))) (fun n => us[n]?)) → R J H
def ForS (R : It → Hp → Prop) (x : V) (H : Hp) : Prop := ∃ (a : Addr) (us : List V), x = V.ref a ∧ Seq H a us ∧ ∀ (J : It) (G : Hp → Prop), (∀ H', Kept H a H' → G H') → Walk J us.length G (YAt us) → R J H
def ZipS (R : It → Hp → Prop) (vs : List V) (H : Hp) : Prop := ∃ (a b : Addr) (us ws : List V), vs = [V.ref a, V.ref b] ∧ Seq H a us ∧ Seq H b ws ∧ ∀ (J : It) (G : Hp → Prop), (∀ H', Kept H a H' → Kept H b H' → G H') → Walk J (min us.length ws.length) G (YPair (fun n => us[n]?) (fun n => ws[n]?)) → R J H
end
/-- steps through what an argument row asks -/
def TAm (ta : TA) : Prop := ∀ (σ : St) (H : Hp) (R R' : List V → Hp → Prop), (∀ vs H, R vs H → R' vs H) → ta σ H R → ta σ H R'
def TEm (t : TE) : Prop := ∀ (σ : St) (H : Hp) (R R' : VK), (∀ v H, R v H → R' v H) → t σ H R → t σ H R'
section
variable {K : PySem.W.Frag} {σ : St} {H : Hp} {Q : VK} {R : It → Hp → Prop}
theorem tem_var {i : Nat} : TEm (tVar i) := fun σ H R R' h ⟨v, e, k⟩ => ⟨v, e, h _ _ k⟩
theorem tam_nil : TAm tNil := fun σ H R R' h k => h _ _ k
theorem tam_cons {t : TE} {ts : TA} (a : TEm t) (b : TAm ts) : TAm (tCons t ts) := fun σ H R R' h k => a σ H _ _ (fun v H1 k1 => b σ H1 _ _ (fun vs H2 k2 => h _ _ k2) k1) k
theorem rd_iEA {ta : TA} (m : TAm ta) (k : ta σ H (EnumS R)) : iEnumA K ta σ H R := m σ H _ _ (fun vs H1 ⟨a, us, e, hs, kk⟩ => by
  subst e
  rcases hs with h | h
  · exact ⟨a, us, rfl, .inl ⟨SqL.of h, kk _ _ (fun H' c => SqL.of (c _ h)) walk_enum⟩⟩
  · exact ⟨a, us, rfl, .inr ⟨SqT.of h, kk _ _ (fun H' c => SqT.of (c _ h)) walk_enumT⟩⟩) k
theorem rd_iSA {t : TE} (m : TEm t) (k : t σ H (ForS R)) : iSeqA K t σ H R := m σ H _ _ (fun x H1 ⟨a, us, e, hs, kk⟩ => by
  subst e
  rcases hs with h | h
  · exact ⟨a, rfl, .inl ⟨⟨us, SqL.of h⟩, kk _ _ (fun H' c => SqL.of (c _ h)) walk_list⟩⟩
  · exact ⟨a, rfl, .inr ⟨⟨us, SqT.of h⟩, kk _ _ (fun H' c => SqT.of (c _ h)) walk_tup⟩⟩) k
theorem rd_iZA {ta : TA} (m : TAm ta) (k : ta σ H (ZipS R)) : iZipK K ta σ H R := m σ H _ _ (fun vs H1 ⟨a, b, us, ws, e, ha, hb, kk⟩ => by
  subst e
  obtain ⟨t, ht⟩ := ha.sq (K := K)
  obtain ⟨u, hu⟩ := hb.sq (K := K)
  exact ⟨t, u, a, b, us, ws, rfl, ht H1 (fun _ e => e), hu H1 (fun _ e => e), kk _ _ (fun H' c d => ⟨ht H' c, hu H' d⟩) (walk_zipK rfl)⟩) k
end
section
variable {X : Cx} {K : PySem.W.Frag}
theorem ix_seqK (h : X.K = K) : IxR X (rIxA K) := by
  subst h
  intro value slice pins s σ H x y v u Q I rx ry hh hs
  rcases hh with hh | hh
  · exact ix_list value slice pins s σ H x y v u Q I rx ry hh hs
  · exact ix_tup value slice pins s σ H x y v u Q I rx ry hh hs
theorem pi_enumK {e : Expr} {ta : TA} {p pos tpos : Pos} {elts : List Expr} {kk : Nat} (h : X.K = K) (hg : Gl X "enumerate") (hm : X.mg "enumerate" = none) (ha : PA X [e] ta) (hs : starEach [e] X.env = [(false, eval e X.env)] := by rfl) :
    PI X (.Tuple elts kk tpos) (.Call (.Name "enumerate" p) [e] [] pos) (iEnumA K ta) := by subst h; exact pi_enumA hg hm ha hs
theorem pi_seqK {tg l : Expr} {tl : TE} (h : X.K = K) (hl : PE X l tl) : PI X tg l (iSeqA K tl) := by subst h; exact pi_seqA hl
end
end Sk
end

section
namespace Sk
open PySem L2
local macro_rules | `(tactic| walk_at "kb") => `(tactic| first | exact kb_int_int | exact kb_int_bool | exact kb_int_str | exact kb_int_tuple | exact kb_int_list | exact kb_tuple_int | exact kb_tuple_bool | exact kb_tuple_str | exact kb_tuple_tuple | exact kb_tuple_list | exact kb_list_int | exact kb_list_bool | exact kb_list_str | exact kb_list_tuple | exact kb_list_list | exact kb_bool_int | exact kb_bool_bool | exact kb_bool_str | exact kb_bool_tuple | exact kb_bool_list | exact kb_str_int | exact kb_str_bool | exact kb_str_str | exact kb_str_tuple | exact kb_str_list | exact kb_dict_int | exact kb_dict_bool | exact kb_dict_str | exact kb_dict_tuple | exact kb_dict_list | exact kb_NoneType_int | exact kb_NoneType_bool | exact kb_NoneType_str | exact kb_NoneType_tuple | exact kb_NoneType_list)
local macro_rules | `(tactic| walk_at "hp") => `(tactic| first
  | assumption
  | exact upd_same
  | (refine' upd_get ?n ?e; (case n => walk_at "ne"); (case e => walk_at "hp"))
  | (refine' But.get (by assumption) ?n ?e; (case n => walk_at "ne"); (case e => walk_at "hp"))
  | (refine' Ext.get (by assumption) ?n ?e; (case n => walk_at "ne"); (case e => walk_at "hp"))
  | (refine' same_get (by assumption) ?e; (case e => walk_at "hp")))
local macro_rules | `(tactic| walk_at "ne") => `(tactic| first
  | assumption
  | (apply Ne.symm; assumption)
  | (refine' ne_of_none ?h (by assumption); (case h => walk_at "hp"))
  | (apply Ne.symm; refine' ne_of_none ?h (by assumption); (case h => walk_at "hp")))
local macro_rules | `(tactic| walk_at "sd") => `(tactic| first
  | (show (0 : Int) < _; omega)
  | (simp only [CMul, CDiv]; omega)
  | exact ⟨by omega, by omega⟩)
local macro_rules | `(tactic| walk_at "rd1") => `(tactic| first
  | with_reducible refine' rd_c ?_
  | ((with_reducible refine' rd_var ?h ?_); (case h => exact rfl))
  | with_reducible refine' rd_op ?_
  | with_reducible refine' rd_seq ?_
  | with_reducible refine' rd_asg ?_
  | with_reducible refine' rd_gName ?_
  | with_reducible refine' rd_I0 ?_
  | ((with_reducible refine' rd_I ?c ?_); (case c => walk_at "sd"))
  | with_reducible refine' rd_eqI ?_
  | with_reducible refine' rd_neI ?_
  | with_reducible refine' rd_U ?_
  | with_reducible refine' rd_un ?_
  | with_reducible refine' rd_ret ?_
  | with_reducible refine' rd_drop ?_
  | with_reducible refine' rd_next ?_
  | with_reducible refine' rd_ifS ?_
  | with_reducible refine' rd_test ?_
  | with_reducible refine' rd_bl ?_
  | with_reducible refine' rd_nil ?_
  | with_reducible refine' rd_cons ?_
  | with_reducible refine' rd_tup ?_
  | with_reducible refine' rd_lst ?_
  | with_reducible refine' rd_call ?_
  | with_reducible refine' rd_cb ?_
  | with_reducible refine' rd_par ?_
  | with_reducible refine' rd_par2 ?_
  | with_reducible refine' rd_and ?_
  | with_reducible refine' rd_or ?_
  | with_reducible refine' rd_not ?_
  | with_reducible refine' rd_andV ?_
  | with_reducible refine' rd_orV ?_
  | with_reducible refine' rd_notV ?_
  | with_reducible refine' rd_if ?_
  | with_reducible refine' rd_gSub ?_
  | ((with_reducible refine' rd_ixL ?h ?e ?_); (case h => walk_at "hp"); (case e => exact rfl))
  | ((with_reducible refine' rd_ixT ?h ?e ?_); (case h => walk_at "hp"); (case e => exact rfl))
  | ((with_reducible refine' rd_setL ?h ?e ?_); (case h => walk_at "hp"); (case e => exact rfl))
  | ((with_reducible refine' rd_append ?h ?e ?_); (case h => walk_at "hp"); (case e => assumption))
  | (with_reducible refine' rd_bmL ?_)
  | ((with_reducible refine' And.intro (tyL ?h) ?_); (case h => walk_at "hp"))
  | ((with_reducible refine' And.intro (len_ok ?h) ?_); (case h => exact rfl))
  | with_reducible refine' rd_ex1 ?_
  | with_reducible refine' rd_ex2 ?_
  | with_reducible refine' rd_int1b ?_
  | ((with_reducible refine' rd_isiI ?e ?_); (case e => walk_at "kb"))
  | ((with_reducible refine' rd_isiB ?e ?_); (case e => walk_at "kb"))
  | ((with_reducible refine' rd_isiT ?h ?e ?_); (case h => walk_at "hp"); (case e => walk_at "kb"))
  | ((with_reducible refine' rd_isiL ?h ?e ?_); (case h => walk_at "hp"); (case e => walk_at "kb"))
  | ((with_reducible refine' rd_lenL ?h ?_); (case h => walk_at "hp"))
  | ((with_reducible refine' rd_lenT ?h ?_); (case h => walk_at "hp"))
  | ((with_reducible refine' rd_gTup ?h ?e ?_); (case h => walk_at "hp"); (case e => exact rfl))
  | with_reducible refine' rd_gCons ?_
  | with_reducible refine' rd_gNil ?_
  | with_reducible refine' rd_yes ?_
  | with_reducible refine' rd_for ?_
  | with_reducible refine' rd_lc ?_
  | with_reducible refine' rd_rng1 ?_
  | with_reducible refine' rd_iL ?_
  | with_reducible refine' rd_iT ?_
  | with_reducible refine' rd_iE ?_
  | with_reducible refine' rd_iZ ?_
  | ((with_reducible refine' rd_iL' ?h ?_); (case h => walk_at "hp"))
  | ((with_reducible refine' rd_iT' ?h ?_); (case h => walk_at "hp"))
  | ((with_reducible refine' rd_iE' ?h ?_); (case h => walk_at "hp"))
  | ((with_reducible refine' rd_iZ' ?h1 ?h2 ?_); (case h1 => walk_at "hp"); (case h2 => walk_at "hp"))
  | with_reducible refine' iteT ?_
  | with_reducible refine' iteF ?_)
local macro_rules | `(tactic| walk_at "rd") => `(tactic| repeat walk_at "rd1")
local macro_rules | `(tactic| walk_at "rd1") => `(tactic| first | with_reducible refine' rd_tB ?_ | with_reducible refine' iteNT ?_ | with_reducible refine' iteNF ?_)
/-- whether n lies within -/
def inB (n a b : Int) : Bool := decide (a ≤ n) && decide (n ≤ b)
theorem inB_yes {n a b : Int} (h : a ≤ n) (h' : n ≤ b) : inB n a b = true := by simp [inB, h, h']
theorem rd_inB {σ : St} {H : Hp} {Q : VK} {ta tb tc : TE} {n a b : Int} (h1 : ∀ R : VK, R (.int a) H → ta σ H R) (h2 : ∀ R : VK, R (.int n) H → tb σ H R) (h3 : ∀ R : VK, R (.int b) H → tc σ H R) (k : Q (.bl (inB n a b)) H) :
    tChain (rI0 fun i j => V.bl (decide (i ≤ j))) (rI0 fun i j => V.bl (decide (i ≤ j))) ta tb tc σ H Q := by
  refine h1 _ (h2 _ (rd_I0 ⟨decide (a ≤ n), rfl, ?_⟩))
  by_cases c : a ≤ n
  · rw [decide_eq_true c]
    refine iteT (h3 _ (rd_I0 ?_))
    have : inB n a b = decide (n ≤ b) := by simp [inB, c]
    rw [← this]; exact k
  · rw [decide_eq_false c]
    refine iteF ?_
    have : inB n a b = false := by simp [inB, c]
    rw [← this]; exact k
/-- a list or a tuple -/
theorem seq_isRow {K : PySem.W.Frag} {H : Hp} {Q : VK} {a tp : Addr} {us : List V} (h : Seq H a us) (ht : H tp = some (.tup [.ty "list", .ty "tuple"])) (k : Q (.bl true) H) : rIsiT K [.ref a, .ref tp] H Q := by
  rcases h with h | h
  · exact ⟨_, tp, _, _, [.type "list", .type "tuple"], true, rfl, ht, .cons (.ty _) (.cons (.ty _) .nil), .base (.lst h), by rfl, k⟩
  · exact ⟨_, tp, _, _, [.type "list", .type "tuple"], true, rfl, ht, .cons (.ty _) (.cons (.ty _) .nil), .base (.tup h), by rfl, k⟩

abbrev s_is_whole : Stmt := top 5
theorem sc_is_whole : FnScope ["thing", "least", "greatest"] ["thing", "least", "greatest"] (defScope s_is_whole) := ⟨rfl, rfl, rfl, by decide +kernel, rfl, by decide +kernel, by decide +kernel⟩
def spWhole : Sp := fun vs H Q _ => ∃ n a b : Int, vs = [.int n, .int a, .int b] ∧ Q (.bl (inB n a b)) H
section
variable {P : Program} {w : World} {K : PySem.W.Frag} {mg : Str → Option Value} {base : Heap}
theorem ok_whole {f : Addr} {fd : FuncData} (F : Fun K "is_whole" "is_whole" s_is_whole f fd) (T : Free mg) : FnOk P w K mg base CX0 1 f fd ["thing", "least", "greatest"] spWhole := by
  refine F.ok sc_is_whole (fun vs H Q E h => ?_) (fun cdv A outer s H vs Q E hr h => ?_)
  · obtain ⟨n, a, b, rfl, _⟩ := h
    rfl
  · obtain ⟨n, a, b, rfl, k⟩ := h
    refine ⟨_, (pss_one (ps_ret (pe_and (pe_callB (call_isi1 (K := K) rfl) (by rfl) T.isinstance (by decide +kernel) (pa_cons (pv 0) (pa_cons (pe_bltn (v := .ty "int") (by rfl) T.int_ (by decide +kernel) rfl) pa_nil))) (pe_and (pe_not (pe_callB (call_isi1 (K := K) rfl) (by rfl) T.isinstance (by decide +kernel) (pa_cons (pv 0) (pa_cons (pe_bltn (v := .ty "bool") (by rfl) T.bool_ (by decide +kernel) rfl) pa_nil)))) (pe_one (pe_chain op_le op_le (pv 1) (pv 0) (pv 2))))))), ?_⟩
    walk_at "rd"
    exact rd_inB (fun R h => rd_var rfl h) (fun R h => rd_var rfl h) (fun R h => rd_var rfl h) k

abbrev s_is_day : Stmt := top 6
theorem sc_is_day : FnScope ["thing"] ["thing"] (defScope s_is_day) := ⟨rfl, rfl, rfl, by decide +kernel, rfl, by decide +kernel, by decide +kernel⟩
def spDay : Sp := fun vs H Q _ => ∃ n : Int, vs = [.int n] ∧ Q (.bl (inB n 0 9999)) H
theorem ok_Day {f fW : Addr} {fd fdW : FuncData} (F : Fun K "is_day" "is_day" s_is_day f fd) (dWhole : Def P w K mg base "is_whole" 1 fW fdW ["thing", "least", "greatest"] spWhole) : FnOk P w K mg base CX0 2 f fd ["thing"] spDay := by
  refine F.ok sc_is_day (fun vs H Q E h => ?_) (fun cdv A outer s H vs Q E hr h => ?_)
  · obtain ⟨n, rfl, _⟩ := h
    rfl
  · obtain ⟨n, rfl, k⟩ := h
    refine ⟨_, (pss_one (ps_ret (pe_call dWhole.ok (hr.mono (by decide)) (by rfl) dWhole.mg dWhole.kp dWhole.bd .nil pass0 (pa_cons (pv 0) (pa_cons pe_int (pa_cons pe_int pa_nil)))))), ?_⟩
    walk_at "rd"
    exact ⟨n, 0, 9999, rfl, k⟩

abbrev s_is_amount : Stmt := top 7
theorem sc_is_amount : FnScope ["thing"] ["thing"] (defScope s_is_amount) := ⟨rfl, rfl, rfl, by decide +kernel, rfl, by decide +kernel, by decide +kernel⟩
theorem ok_Amount {f fW : Addr} {fd fdW : FuncData} (F : Fun K "is_amount" "is_amount" s_is_amount f fd) (dWhole : Def P w K mg base "is_whole" 1 fW fdW ["thing", "least", "greatest"] spWhole) : FnOk P w K mg base CX0 2 f fd ["thing"] spDay := by
  refine F.ok sc_is_amount (fun vs H Q E h => ?_) (fun cdv A outer s H vs Q E hr h => ?_)
  · obtain ⟨n, rfl, _⟩ := h
    rfl
  · obtain ⟨n, rfl, k⟩ := h
    refine ⟨_, (pss_one (ps_ret (pe_call dWhole.ok (hr.mono (by decide)) (by rfl) dWhole.mg dWhole.kp dWhole.bd .nil pass0 (pa_cons (pv 0) (pa_cons pe_int (pa_cons pe_int pa_nil)))))), ?_⟩
    walk_at "rd"
    exact ⟨n, 0, 9999, rfl, k⟩

abbrev s_is_row : Stmt := top 8
theorem sc_is_row : FnScope ["thing"] ["thing"] (defScope s_is_row) := ⟨rfl, rfl, rfl, by decide +kernel, rfl, by decide +kernel, by decide +kernel⟩
def spIsRow : Sp := fun vs H Q _ => ∃ (a : Addr) (us : List V), vs = [.ref a] ∧ Seq H a us ∧ ∀ H', Same H H' → Q (.bl true) H'
theorem ok_isRow {f : Addr} {fd : FuncData} (F : Fun K "is_row" "is_row" s_is_row f fd) (T : Free mg) : FnOk P w K mg base CX0 1 f fd ["thing"] spIsRow := by
  refine F.ok sc_is_row (fun vs H Q E h => ?_) (fun cdv A outer s H vs Q E hr h => ?_)
  · obtain ⟨a, us, rfl, _⟩ := h
    rfl
  · obtain ⟨a, us, rfl, hs, k⟩ := h
    refine ⟨_, (pss_one (ps_ret (pe_callB (call_isiTK (K := K) rfl) (by rfl) T.isinstance (by decide +kernel) (pa_cons (pv 0) (pa_cons (pe_tup (pa_cons (pe_bltn (v := .ty "list") (by rfl) T.list (by decide +kernel) rfl) (pa_cons (pe_bltn (v := .ty "tuple") (by rfl) T.tuple (by decide +kernel) rfl) pa_nil))) pa_nil))))), ?_⟩
    walk_at "rd"
    intro p hp
    walk_at "rd"
    exact seq_isRow (hs.mono (same_new (Same.refl _) hp)) upd_same (k _ (same_new (Same.refl _) hp))

abbrev s_is_out : Stmt := top 11
theorem sc_is_out : FnScope ["thing"] ["thing"] (defScope s_is_out) := ⟨rfl, rfl, rfl, by decide +kernel, rfl, by decide +kernel, by decide +kernel⟩
def spOut : Sp := fun vs H Q _ => ∃ (t : Addr) (d m a : Int), vs = [.ref t] ∧ H t = some (.tup [.int d, .int m, .int a]) ∧ 0 ≤ d ∧ d ≤ 9999 ∧ 1 ≤ m ∧ m ≤ 99999 ∧ 0 ≤ a ∧ a ≤ 9999 ∧ Q (.bl true) H
theorem ok_isOut {f fW fD fA : Addr} {fd fdW fdD fdA : FuncData} {uMo : Value} (F : Fun K "is_out" "is_out" s_is_out f fd) (T : Free mg) (hMo : mg "MOST_IN_ROW" = some uMo) (rMo : RelV (.int 99999) uMo) (dWhole : Def P w K mg base "is_whole" 1 fW fdW ["thing", "least", "greatest"] spWhole)
    (dDay : Def P w K mg base "is_day" 2 fD fdD ["thing"] spDay) (dAmount : Def P w K mg base "is_amount" 2 fA fdA ["thing"] spDay) : FnOk P w K mg base CX0 3 f fd ["thing"] spOut := by
  refine F.ok sc_is_out (fun vs H Q E h => ?_) (fun cdv A outer s H vs Q E hr h => ?_)
  · obtain ⟨t, d, m, a, rfl, _⟩ := h
    rfl
  · obtain ⟨t, d, m, a, rfl, ht, h1, h2, h3, h4, h5, h6, k⟩ := h
    refine ⟨_, (pss_one (ps_ret (pe_and (pe_callB (call_isi1 (K := K) rfl) (by rfl) T.isinstance (by decide +kernel) (pa_cons (pv 0) (pa_cons (pe_bltn (v := .ty "tuple") (by rfl) T.tuple (by decide +kernel) rfl) pa_nil))) (pe_and (pe_cmpR op_eq (pe_callB (call_lenK (K := K) rfl) (by rfl) T.len (by decide +kernel) (pa_cons (pv 0) pa_nil)) pe_int (nomark _)) (pe_and (pe_call dDay.ok (hr.mono (by decide)) (by rfl) dDay.mg dDay.kp dDay.bd .nil pass0 (pa_cons (pe_ix (ix_tupK (K := K) rfl) (pv 0) pe_int (fun _ _ => rfl)) pa_nil)) (pe_and (pe_call dWhole.ok (hr.mono (by decide)) (by rfl) dWhole.mg dWhole.kp dWhole.bd .nil pass0 (pa_cons (pe_ix (ix_tupK (K := K) rfl) (pv 0) pe_int (fun _ _ => rfl)) (pa_cons pe_int (pa_cons (pe_glob (by rfl) hMo rMo) pa_nil)))) (pe_one (pe_call dAmount.ok (hr.mono (by decide)) (by rfl) dAmount.mg dAmount.kp dAmount.bd .nil pass0 (pa_cons (pe_ix (ix_tupK (K := K) rfl) (pv 0) pe_int (fun _ _ => rfl)) pa_nil))))))))), ?_⟩
    walk_at "rd"
    refine ite_dec (fun h => ?_) (fun h => (h rfl).elim)
    walk_at "rd"
    refine ⟨d, rfl, true, by rw [inB_yes h1 h2], ?_⟩
    walk_at "rd"
    refine ⟨m, 1, 99999, rfl, true, by rw [inB_yes h3 h4], ?_⟩
    walk_at "rd"
    refine ⟨a, rfl, ?_⟩
    rw [inB_yes h5 h6]
    exact k

abbrev s_is_back : Stmt := top 12
theorem sc_is_back : FnScope ["thing"] ["thing"] (defScope s_is_back) := ⟨rfl, rfl, rfl, by decide +kernel, rfl, by decide +kernel, by decide +kernel⟩
def spBack : Sp := fun vs H Q _ => ∃ (t : Addr) (d m : Int), vs = [.ref t] ∧ H t = some (.tup [.int d, .int m]) ∧ 0 ≤ d ∧ d ≤ 9999 ∧ 1 ≤ m ∧ m ≤ 99999 ∧ Q (.bl true) H
theorem ok_isBack {f fW fD : Addr} {fd fdW fdD : FuncData} {uMo : Value} (F : Fun K "is_back" "is_back" s_is_back f fd) (T : Free mg) (hMo : mg "MOST_IN_ROW" = some uMo) (rMo : RelV (.int 99999) uMo) (dWhole : Def P w K mg base "is_whole" 1 fW fdW ["thing", "least", "greatest"] spWhole)
    (dDay : Def P w K mg base "is_day" 2 fD fdD ["thing"] spDay) : FnOk P w K mg base CX0 3 f fd ["thing"] spBack := by
  refine F.ok sc_is_back (fun vs H Q E h => ?_) (fun cdv A outer s H vs Q E hr h => ?_)
  · obtain ⟨t, d, m, rfl, _⟩ := h
    rfl
  · obtain ⟨t, d, m, rfl, ht, h1, h2, h3, h4, k⟩ := h
    refine ⟨_, (pss_one (ps_ret (pe_and (pe_callB (call_isi1 (K := K) rfl) (by rfl) T.isinstance (by decide +kernel) (pa_cons (pv 0) (pa_cons (pe_bltn (v := .ty "tuple") (by rfl) T.tuple (by decide +kernel) rfl) pa_nil))) (pe_and (pe_cmpR op_eq (pe_callB (call_lenK (K := K) rfl) (by rfl) T.len (by decide +kernel) (pa_cons (pv 0) pa_nil)) pe_int (nomark _)) (pe_and (pe_call dDay.ok (hr.mono (by decide)) (by rfl) dDay.mg dDay.kp dDay.bd .nil pass0 (pa_cons (pe_ix (ix_tupK (K := K) rfl) (pv 0) pe_int (fun _ _ => rfl)) pa_nil)) (pe_one (pe_call dWhole.ok (hr.mono (by decide)) (by rfl) dWhole.mg dWhole.kp dWhole.bd .nil pass0 (pa_cons (pe_ix (ix_tupK (K := K) rfl) (pv 0) pe_int (fun _ _ => rfl)) (pa_cons pe_int (pa_cons (pe_glob (by rfl) hMo rMo) pa_nil)))))))))), ?_⟩
    walk_at "rd"
    refine ite_dec (fun h => ?_) (fun h => (h rfl).elim)
    walk_at "rd"
    refine ⟨d, rfl, true, by rw [inB_yes h1 h2], ?_⟩
    walk_at "rd"
    refine ⟨m, 1, 99999, rfl, ?_⟩
    rw [inB_yes h3 h4]
    exact k
end
end Sk
end

section
namespace Sk
open PySem L2
local macro_rules | `(tactic| walk_at "kb") => `(tactic| first | exact kb_int_int | exact kb_int_bool | exact kb_int_str | exact kb_int_tuple | exact kb_int_list | exact kb_tuple_int | exact kb_tuple_bool | exact kb_tuple_str | exact kb_tuple_tuple | exact kb_tuple_list | exact kb_list_int | exact kb_list_bool | exact kb_list_str | exact kb_list_tuple | exact kb_list_list | exact kb_bool_int | exact kb_bool_bool | exact kb_bool_str | exact kb_bool_tuple | exact kb_bool_list | exact kb_str_int | exact kb_str_bool | exact kb_str_str | exact kb_str_tuple | exact kb_str_list | exact kb_dict_int | exact kb_dict_bool | exact kb_dict_str | exact kb_dict_tuple | exact kb_dict_list | exact kb_NoneType_int | exact kb_NoneType_bool | exact kb_NoneType_str | exact kb_NoneType_tuple | exact kb_NoneType_list)
local macro_rules | `(tactic| walk_at "hp") => `(tactic| first
  | assumption
  | exact upd_same
  | (refine' upd_get ?n ?e; (case n => walk_at "ne"); (case e => walk_at "hp"))
  | (refine' But.get (by assumption) ?n ?e; (case n => walk_at "ne"); (case e => walk_at "hp"))
  | (refine' Ext.get (by assumption) ?n ?e; (case n => walk_at "ne"); (case e => walk_at "hp"))
  | (refine' same_get (by assumption) ?e; (case e => walk_at "hp")))
local macro_rules | `(tactic| walk_at "ne") => `(tactic| first
  | assumption
  | (apply Ne.symm; assumption)
  | (refine' ne_of_none ?h (by assumption); (case h => walk_at "hp"))
  | (apply Ne.symm; refine' ne_of_none ?h (by assumption); (case h => walk_at "hp")))
local macro_rules | `(tactic| walk_at "sd") => `(tactic| first
  | (show (0 : Int) < _; omega)
  | (simp only [CMul, CDiv]; omega)
  | exact ⟨by omega, by omega⟩)
local macro_rules | `(tactic| walk_at "rd1") => `(tactic| first
  | with_reducible refine' rd_c ?_
  | ((with_reducible refine' rd_var ?h ?_); (case h => exact rfl))
  | with_reducible refine' rd_op ?_
  | with_reducible refine' rd_seq ?_
  | with_reducible refine' rd_asg ?_
  | with_reducible refine' rd_gName ?_
  | with_reducible refine' rd_I0 ?_
  | ((with_reducible refine' rd_I ?c ?_); (case c => walk_at "sd"))
  | with_reducible refine' rd_eqI ?_
  | with_reducible refine' rd_neI ?_
  | with_reducible refine' rd_U ?_
  | with_reducible refine' rd_un ?_
  | with_reducible refine' rd_ret ?_
  | with_reducible refine' rd_drop ?_
  | with_reducible refine' rd_next ?_
  | with_reducible refine' rd_ifS ?_
  | with_reducible refine' rd_test ?_
  | with_reducible refine' rd_bl ?_
  | with_reducible refine' rd_nil ?_
  | with_reducible refine' rd_cons ?_
  | with_reducible refine' rd_tup ?_
  | with_reducible refine' rd_lst ?_
  | with_reducible refine' rd_call ?_
  | with_reducible refine' rd_cb ?_
  | with_reducible refine' rd_par ?_
  | with_reducible refine' rd_par2 ?_
  | with_reducible refine' rd_and ?_
  | with_reducible refine' rd_or ?_
  | with_reducible refine' rd_not ?_
  | with_reducible refine' rd_andV ?_
  | with_reducible refine' rd_orV ?_
  | with_reducible refine' rd_notV ?_
  | with_reducible refine' rd_if ?_
  | with_reducible refine' rd_gSub ?_
  | ((with_reducible refine' rd_ixL ?h ?e ?_); (case h => walk_at "hp"); (case e => exact rfl))
  | ((with_reducible refine' rd_ixT ?h ?e ?_); (case h => walk_at "hp"); (case e => exact rfl))
  | ((with_reducible refine' rd_setL ?h ?e ?_); (case h => walk_at "hp"); (case e => exact rfl))
  | ((with_reducible refine' rd_append ?h ?e ?_); (case h => walk_at "hp"); (case e => assumption))
  | (with_reducible refine' rd_bmL ?_)
  | ((with_reducible refine' And.intro (tyL ?h) ?_); (case h => walk_at "hp"))
  | ((with_reducible refine' And.intro (len_ok ?h) ?_); (case h => exact rfl))
  | with_reducible refine' rd_ex1 ?_
  | with_reducible refine' rd_ex2 ?_
  | with_reducible refine' rd_int1b ?_
  | ((with_reducible refine' rd_isiI ?e ?_); (case e => walk_at "kb"))
  | ((with_reducible refine' rd_isiB ?e ?_); (case e => walk_at "kb"))
  | ((with_reducible refine' rd_isiT ?h ?e ?_); (case h => walk_at "hp"); (case e => walk_at "kb"))
  | ((with_reducible refine' rd_isiL ?h ?e ?_); (case h => walk_at "hp"); (case e => walk_at "kb"))
  | ((with_reducible refine' rd_lenL ?h ?_); (case h => walk_at "hp"))
  | ((with_reducible refine' rd_lenT ?h ?_); (case h => walk_at "hp"))
  | ((with_reducible refine' rd_gTup ?h ?e ?_); (case h => walk_at "hp"); (case e => exact rfl))
  | with_reducible refine' rd_gCons ?_
  | with_reducible refine' rd_gNil ?_
  | with_reducible refine' rd_yes ?_
  | with_reducible refine' rd_for ?_
  | with_reducible refine' rd_lc ?_
  | with_reducible refine' rd_rng1 ?_
  | with_reducible refine' rd_iL ?_
  | with_reducible refine' rd_iT ?_
  | with_reducible refine' rd_iE ?_
  | with_reducible refine' rd_iZ ?_
  | ((with_reducible refine' rd_iL' ?h ?_); (case h => walk_at "hp"))
  | ((with_reducible refine' rd_iT' ?h ?_); (case h => walk_at "hp"))
  | ((with_reducible refine' rd_iE' ?h ?_); (case h => walk_at "hp"))
  | ((with_reducible refine' rd_iZ' ?h1 ?h2 ?_); (case h1 => walk_at "hp"); (case h2 => walk_at "hp"))
  | with_reducible refine' iteT ?_
  | with_reducible refine' iteF ?_)
local macro_rules | `(tactic| walk_at "rd") => `(tactic| repeat walk_at "rd1")
local macro_rules | `(tactic| walk_at "rd1") => `(tactic| first | with_reducible refine' rd_tB ?_ | with_reducible refine' iteNT ?_ | with_reducible refine' iteNF ?_ | with_reducible refine' rd_iEA (tam_cons tem_var tam_nil) ?_ | with_reducible refine' rd_iSA tem_var ?_ | with_reducible refine' rd_iZA (tam_cons tem_var (tam_cons tem_var tam_nil)) ?_)
theorem kept_same {H G : Hp} {a : Addr} (s : Same H G) : Kept H a G := fun o e => s _ _ e
theorem t3_map (o : Int × Int × Int) : (t3 o).map V.int = [.int o.1, .int o.2.1, .int o.2.2] := rfl
theorem t2_map (o : Int × Int) : (t2 o).map V.int = [.int o.1, .int o.2] := rfl
theorem Rows.same {H G : Hp} {us : List V} {rs : List (List Int)} (h : Rows H us rs) (s : Same H G) : Rows G us rs := h.mono (Same.ts s)
/-- rows of outs, as they must be -/
def OutsAt (H : Hp) (l : Addr) (us : List V) (os : List (Int × Int × Int)) : Prop := Seq H l us ∧ Rows H us (os.map t3)
theorem pair_next {α : Type} {R : α → α → Prop} {l : List α} (h : l.Pairwise R) {i : Nat} {x y : α} (hx : l[i]? = some x) (hy : l[i + 1]? = some y) : R x y := by
  obtain ⟨h1, rfl⟩ := List.getElem?_eq_some_iff.mp hx
  obtain ⟨h2, rfl⟩ := List.getElem?_eq_some_iff.mp hy
  exact List.pairwise_iff_getElem.mp h i (i + 1) h1 h2 (Nat.lt_succ_self _)

abbrev s_check_outs : Stmt := top 13
theorem sc_check_outs : FnScope ["outs", "number", "out"] ["outs"] (defScope s_check_outs) := ⟨rfl, rfl, rfl, by decide +kernel, rfl, by decide +kernel, by decide +kernel⟩
def spCOuts : Sp := fun vs H Q _ => ∃ (l : Addr) (us : List V) (os : List (Int × Int × Int)), vs = [.ref l] ∧ OutsAt H l us os ∧ OutsOk os ∧ ∀ H', Same H H' → Q .non H'
section
variable {P : Program} {w : World} {K : PySem.W.Frag} {mg : Str → Option Value} {base : Heap}
theorem ok_cOuts {f fR fO : Addr} {fd fdR fdO : FuncData} (F : Fun K "check_outs" "check_outs" s_check_outs f fd) (T : Free mg) (dIsRow : Def P w K mg base "is_row" 1 fR fdR ["thing"] spIsRow)
    (dOut : Def P w K mg base "is_out" 3 fO fdO ["thing"] spOut) : FnOk P w K mg base CX0 4 f fd ["outs"] spCOuts := by
  refine F.ok sc_check_outs (fun vs H Q E h => ?_) (fun cdv A outer s H vs Q E hr h => ?_)
  · obtain ⟨l, us, os, rfl, _⟩ := h
    rfl
  · obtain ⟨l, us, os, rfl, ⟨hs, hR⟩, ok, k⟩ := h
    refine ⟨_, (pss_cons (ps_if (pt_not (pt_val (pe_call dIsRow.ok (hr.mono (by decide)) (by rfl) dIsRow.mg dIsRow.kp dIsRow.bd .nil pass0 (pa_cons (pv 0) pa_nil)))) 
        (pss_one ps_never) pss_nil) 
      (pss_one (ps_for PassesOwn.never rfl (pi_enumK (K := K) rfl (by rfl) T.enumerate (pa_cons (pv 0) pa_nil)) (pg_tupK (K := K) (n := 2) rfl (by rfl) (pgs_cons (pg_name (i := 1) sc_check_outs.nd rfl (by first | exact Or.inl rfl | exact Or.inr rfl)) (pgs_cons (pg_name (i := 2) sc_check_outs.nd rfl (by first | exact Or.inl rfl | exact Or.inr rfl)) pgs_nil))) 
        (pss_one (ps_if (PW.pt (pw_or (pt_not (pt_val (pe_call dOut.ok (hr.mono (by decide)) (by rfl) dOut.mg dOut.kp dOut.bd .nil pass0 (pa_cons (pv 2) pa_nil)))) (pw_or1 (PW.pt (pw_and (pt_cmpR op_gt (pv 1) pe_int (nomark _)) (pw_and1 (pt_cmpR op_ge (pe_ix (ix_tupK (K := K) rfl) (pe_ix (ix_seqK (K := K) rfl) (pv 0) (pe_op op_sub (pv 1) pe_int) (fun _ _ => rfl)) pe_int (fun _ _ => rfl)) (pe_ix (ix_tupK (K := K) rfl) (pv 2) pe_int (fun _ _ => rfl)) (nomark _)))))))) 
          (pss_one ps_never) pss_nil))))), ?_⟩
    walk_at "rd"
    refine ⟨l, us, rfl, hs, fun H1 s1 => ⟨true, rfl, ?_⟩⟩
    walk_at "rd"
    refine ⟨l, us, rfl, hs.mono s1, fun J G hG W => ?_⟩
    refine loopW W (fun i σ G => ∃ (v1 v2 : Option V), σ = [some (.ref l), v1, v2] ∧ Same H1 G) ⟨none, none, rfl, Same.refl _⟩ (fun i σ G _ ⟨_, _, _, sG⟩ => hG _ (kept_same sG)) ?_ ?_
    · rintro i x σ G G' hi ⟨v1, v2, rfl, sG⟩ ⟨T', x', y, rfl, hT, rfl, e1, e2⟩
      cases e1
      have hRG := (hR.same s1).same sG
      obtain ⟨o, t, ho, rfl, ht⟩ := rows_at hRG e2
      replace ht : G t = some (.tup [.int o.1, .int o.2.1, .int o.2.2]) := ht
      have hb := ok.bnd o (List.mem_of_getElem? ho)
      walk_at "rd"
      refine ⟨t, _, _, _, rfl, by walk_at "hp", hb.1.1, by omega, hb.2.1.1, hb.2.1.2, hb.2.2.1, hb.2.2.2, true, rfl, ?_⟩
      walk_at "rd"
      refine ite_dec (fun h => ?_) (fun h => ?_)
      · walk_at "rd"
        obtain ⟨i', rfl⟩ : ∃ i' : Nat, i = i' + 1 := ⟨i - 1, by omega⟩
        obtain ⟨v, hv⟩ : ∃ v, us[i']? = some v := ⟨us[i']'(by omega), List.getElem?_eq_getElem _⟩
        obtain ⟨o', t', ho', rfl, ht'⟩ := rows_at hRG hv
        replace ht' : G t' = some (.tup [.int o'.1, .int o'.2.1, .int o'.2.2]) := ht'
        refine rd_ixA ((hs.mono s1).mono (same_new sG hT)) (by rw [show (((i' + 1 : Nat) : Int) - 1) = (i' : Int) by omega]; exact atI_nat hv) ?_
        walk_at "rd"
        have := pair_next ok.rise ho' ho
        refine ite_dec (fun h => by omega) (fun h => ?_)
        walk_at "rd"
        exact ⟨_, _, rfl, same_new sG hT⟩
      · walk_at "rd"
        exact ⟨_, _, rfl, same_new sG hT⟩
    · rintro σ G ⟨_, _, _, sG⟩
      exact k G (s1.trans sG)

abbrev s_check_backs : Stmt := top 14
theorem sc_check_backs : FnScope ["backs", "number", "back"] ["backs"] (defScope s_check_backs) := ⟨rfl, rfl, rfl, by decide +kernel, rfl, by decide +kernel, by decide +kernel⟩
def BacksAt (H : Hp) (l : Addr) (us : List V) (bs : List (Int × Int)) : Prop := Seq H l us ∧ Rows H us (bs.map t2)
def spCBacks : Sp := fun vs H Q _ => ∃ (l : Addr) (us : List V) (os : List (Int × Int × Int)) (bs : List (Int × Int)), vs = [.ref l] ∧ BacksAt H l us bs ∧ BacksOk os bs ∧ ∀ H', Same H H' → Q .non H'
theorem ok_cBacks {f fR fO : Addr} {fd fdR fdO : FuncData} (F : Fun K "check_backs" "check_backs" s_check_backs f fd) (T : Free mg) (dIsRow : Def P w K mg base "is_row" 1 fR fdR ["thing"] spIsRow)
    (dBack : Def P w K mg base "is_back" 3 fO fdO ["thing"] spBack) : FnOk P w K mg base CX0 4 f fd ["backs"] spCBacks := by
  refine F.ok sc_check_backs (fun vs H Q E h => ?_) (fun cdv A outer s H vs Q E hr h => ?_)
  · obtain ⟨l, us, os, bs, rfl, _⟩ := h
    rfl
  · obtain ⟨l, us, os, bs, rfl, ⟨hs, hR⟩, ok, k⟩ := h
    refine ⟨_, (pss_cons (ps_if (pt_not (pt_val (pe_call dIsRow.ok (hr.mono (by decide)) (by rfl) dIsRow.mg dIsRow.kp dIsRow.bd .nil pass0 (pa_cons (pv 0) pa_nil)))) 
        (pss_one ps_never) pss_nil) 
      (pss_one (ps_for PassesOwn.never rfl (pi_enumK (K := K) rfl (by rfl) T.enumerate (pa_cons (pv 0) pa_nil)) (pg_tupK (K := K) (n := 2) rfl (by rfl) (pgs_cons (pg_name (i := 1) sc_check_backs.nd rfl (by first | exact Or.inl rfl | exact Or.inr rfl)) (pgs_cons (pg_name (i := 2) sc_check_backs.nd rfl (by first | exact Or.inl rfl | exact Or.inr rfl)) pgs_nil))) 
        (pss_one (ps_if (PW.pt (pw_or (pt_not (pt_val (pe_call dBack.ok (hr.mono (by decide)) (by rfl) dBack.mg dBack.kp dBack.bd .nil pass0 (pa_cons (pv 2) pa_nil)))) (pw_or1 (PW.pt (pw_and (pt_cmpR op_gt (pv 1) pe_int (nomark _)) (pw_and1 (pt_cmpR op_gt (pe_ix (ix_tupK (K := K) rfl) (pe_ix (ix_seqK (K := K) rfl) (pv 0) (pe_op op_sub (pv 1) pe_int) (fun _ _ => rfl)) pe_int (fun _ _ => rfl)) (pe_ix (ix_tupK (K := K) rfl) (pv 2) pe_int (fun _ _ => rfl)) (nomark _)))))))) 
          (pss_one ps_never) pss_nil))))), ?_⟩
    walk_at "rd"
    refine ⟨l, us, rfl, hs, fun H1 s1 => ⟨true, rfl, ?_⟩⟩
    walk_at "rd"
    refine ⟨l, us, rfl, hs.mono s1, fun J G hG W => ?_⟩
    refine loopW W (fun i σ G => ∃ (v1 v2 : Option V), σ = [some (.ref l), v1, v2] ∧ Same H1 G) ⟨none, none, rfl, Same.refl _⟩ (fun i σ G _ ⟨_, _, _, sG⟩ => hG _ (kept_same sG)) ?_ ?_
    · rintro i x σ G G' hi ⟨v1, v2, rfl, sG⟩ ⟨T', x', y, rfl, hT, rfl, e1, e2⟩
      cases e1
      have hRG := (hR.same s1).same sG
      obtain ⟨o, t, ho, rfl, ht⟩ := rows_at hRG e2
      replace ht : G t = some (.tup [.int o.1, .int o.2]) := ht
      have hb := ok.bnd o (List.mem_of_getElem? ho)
      walk_at "rd"
      refine ⟨t, _, _, rfl, by walk_at "hp", hb.1.1, hb.1.2, hb.2.1, hb.2.2, true, rfl, ?_⟩
      walk_at "rd"
      refine ite_dec (fun h => ?_) (fun h => ?_)
      · walk_at "rd"
        obtain ⟨i', rfl⟩ : ∃ i' : Nat, i = i' + 1 := ⟨i - 1, by omega⟩
        obtain ⟨v, hv⟩ : ∃ v, us[i']? = some v := ⟨us[i']'(by omega), List.getElem?_eq_getElem _⟩
        obtain ⟨o', t', ho', rfl, ht'⟩ := rows_at hRG hv
        replace ht' : G t' = some (.tup [.int o'.1, .int o'.2]) := ht'
        refine rd_ixA ((hs.mono s1).mono (same_new sG hT)) (by rw [show (((i' + 1 : Nat) : Int) - 1) = (i' : Int) by omega]; exact atI_nat hv) ?_
        walk_at "rd"
        have := pair_next ok.rise ho' ho
        refine ite_dec (fun h => by omega) (fun h => ?_)
        walk_at "rd"
        exact ⟨_, _, rfl, same_new sG hT⟩
      · walk_at "rd"
        exact ⟨_, _, rfl, same_new sG hT⟩
    · rintro σ G ⟨_, _, _, sG⟩
      exact k G (s1.trans sG)
end
end Sk
end

section
namespace Sk
open PySem L2
local macro_rules | `(tactic| walk_at "kb") => `(tactic| first | exact kb_int_int | exact kb_int_bool | exact kb_int_str | exact kb_int_tuple | exact kb_int_list | exact kb_tuple_int | exact kb_tuple_bool | exact kb_tuple_str | exact kb_tuple_tuple | exact kb_tuple_list | exact kb_list_int | exact kb_list_bool | exact kb_list_str | exact kb_list_tuple | exact kb_list_list | exact kb_bool_int | exact kb_bool_bool | exact kb_bool_str | exact kb_bool_tuple | exact kb_bool_list | exact kb_str_int | exact kb_str_bool | exact kb_str_str | exact kb_str_tuple | exact kb_str_list | exact kb_dict_int | exact kb_dict_bool | exact kb_dict_str | exact kb_dict_tuple | exact kb_dict_list | exact kb_NoneType_int | exact kb_NoneType_bool | exact kb_NoneType_str | exact kb_NoneType_tuple | exact kb_NoneType_list)
local macro_rules | `(tactic| walk_at "hp") => `(tactic| first
  | assumption
  | exact upd_same
  | (refine' upd_get ?n ?e; (case n => walk_at "ne"); (case e => walk_at "hp"))
  | (refine' But.get (by assumption) ?n ?e; (case n => walk_at "ne"); (case e => walk_at "hp"))
  | (refine' Ext.get (by assumption) ?n ?e; (case n => walk_at "ne"); (case e => walk_at "hp"))
  | (refine' same_get (by assumption) ?e; (case e => walk_at "hp")))
local macro_rules | `(tactic| walk_at "ne") => `(tactic| first
  | assumption
  | (apply Ne.symm; assumption)
  | (refine' ne_of_none ?h (by assumption); (case h => walk_at "hp"))
  | (apply Ne.symm; refine' ne_of_none ?h (by assumption); (case h => walk_at "hp")))
local macro_rules | `(tactic| walk_at "sd") => `(tactic| first
  | (show (0 : Int) < _; omega)
  | (simp only [CMul, CDiv]; omega)
  | exact ⟨by omega, by omega⟩)
local macro_rules | `(tactic| walk_at "rd1") => `(tactic| first
  | with_reducible refine' rd_c ?_
  | ((with_reducible refine' rd_var ?h ?_); (case h => exact rfl))
  | with_reducible refine' rd_op ?_
  | with_reducible refine' rd_seq ?_
  | with_reducible refine' rd_asg ?_
  | with_reducible refine' rd_gName ?_
  | with_reducible refine' rd_I0 ?_
  | ((with_reducible refine' rd_I ?c ?_); (case c => walk_at "sd"))
  | with_reducible refine' rd_eqI ?_
  | with_reducible refine' rd_neI ?_
  | with_reducible refine' rd_U ?_
  | with_reducible refine' rd_un ?_
  | with_reducible refine' rd_ret ?_
  | with_reducible refine' rd_drop ?_
  | with_reducible refine' rd_next ?_
  | with_reducible refine' rd_ifS ?_
  | with_reducible refine' rd_test ?_
  | with_reducible refine' rd_bl ?_
  | with_reducible refine' rd_nil ?_
  | with_reducible refine' rd_cons ?_
  | with_reducible refine' rd_tup ?_
  | with_reducible refine' rd_lst ?_
  | with_reducible refine' rd_call ?_
  | with_reducible refine' rd_cb ?_
  | with_reducible refine' rd_par ?_
  | with_reducible refine' rd_par2 ?_
  | with_reducible refine' rd_and ?_
  | with_reducible refine' rd_or ?_
  | with_reducible refine' rd_not ?_
  | with_reducible refine' rd_andV ?_
  | with_reducible refine' rd_orV ?_
  | with_reducible refine' rd_notV ?_
  | with_reducible refine' rd_if ?_
  | with_reducible refine' rd_gSub ?_
  | ((with_reducible refine' rd_ixL ?h ?e ?_); (case h => walk_at "hp"); (case e => exact rfl))
  | ((with_reducible refine' rd_ixT ?h ?e ?_); (case h => walk_at "hp"); (case e => exact rfl))
  | ((with_reducible refine' rd_setL ?h ?e ?_); (case h => walk_at "hp"); (case e => exact rfl))
  | ((with_reducible refine' rd_append ?h ?e ?_); (case h => walk_at "hp"); (case e => assumption))
  | (with_reducible refine' rd_bmL ?_)
  | ((with_reducible refine' And.intro (tyL ?h) ?_); (case h => walk_at "hp"))
  | ((with_reducible refine' And.intro (len_ok ?h) ?_); (case h => exact rfl))
  | with_reducible refine' rd_ex1 ?_
  | with_reducible refine' rd_ex2 ?_
  | with_reducible refine' rd_int1b ?_
  | ((with_reducible refine' rd_isiI ?e ?_); (case e => walk_at "kb"))
  | ((with_reducible refine' rd_isiB ?e ?_); (case e => walk_at "kb"))
  | ((with_reducible refine' rd_isiT ?h ?e ?_); (case h => walk_at "hp"); (case e => walk_at "kb"))
  | ((with_reducible refine' rd_isiL ?h ?e ?_); (case h => walk_at "hp"); (case e => walk_at "kb"))
  | ((with_reducible refine' rd_lenL ?h ?_); (case h => walk_at "hp"))
  | ((with_reducible refine' rd_lenT ?h ?_); (case h => walk_at "hp"))
  | ((with_reducible refine' rd_gTup ?h ?e ?_); (case h => walk_at "hp"); (case e => exact rfl))
  | with_reducible refine' rd_gCons ?_
  | with_reducible refine' rd_gNil ?_
  | with_reducible refine' rd_yes ?_
  | with_reducible refine' rd_for ?_
  | with_reducible refine' rd_lc ?_
  | with_reducible refine' rd_rng1 ?_
  | with_reducible refine' rd_iL ?_
  | with_reducible refine' rd_iT ?_
  | with_reducible refine' rd_iE ?_
  | with_reducible refine' rd_iZ ?_
  | ((with_reducible refine' rd_iL' ?h ?_); (case h => walk_at "hp"))
  | ((with_reducible refine' rd_iT' ?h ?_); (case h => walk_at "hp"))
  | ((with_reducible refine' rd_iE' ?h ?_); (case h => walk_at "hp"))
  | ((with_reducible refine' rd_iZ' ?h1 ?h2 ?_); (case h1 => walk_at "hp"); (case h2 => walk_at "hp"))
  | with_reducible refine' iteT ?_
  | with_reducible refine' iteF ?_)
local macro_rules | `(tactic| walk_at "rd") => `(tactic| repeat walk_at "rd1")
/-! ### what things look like -/
inductive Sh where
  | oth | int (n : Int) | tup (xs : List Sh)
mutual
inductive ShR (H : Hp) : V → Sh → Prop
  | non : ShR H .non .oth
  | bl (b : Bool) : ShR H (.bl b) .oth
  | str (x : Str) : ShR H (.str x) .oth
  | int (n : Int) : ShR H (.int n) (.int n)
  | lst {a : Addr} {xs : List V} : H a = some (.lst xs) → ShR H (.ref a) .oth
  | dk {a : Addr} {kvs : List (Key × V)} : H a = some (.dK kvs) → ShR H (.ref a) .oth
  | tup {a : Addr} {xs : List V} {ss : List Sh} : H a = some (.tup xs) → ShAll H xs ss → ShR H (.ref a) (.tup ss)
inductive ShAll (H : Hp) : List V → List Sh → Prop
  | nil : ShAll H [] []
  | cons {v : V} {vs : List V} {s : Sh} {ss : List Sh} : ShR H v s → ShAll H vs ss → ShAll H (v :: vs) (s :: ss)
end
/-- tuples stay, lists and dicts stay such -/
structure Kin (H H' : Hp) : Prop where
  tup : ∀ a xs, H a = some (.tup xs) → H' a = some (.tup xs)
  lst : ∀ a xs, H a = some (.lst xs) → ∃ ys, H' a = some (.lst ys)
  dk : ∀ a kvs, H a = some (.dK kvs) → ∃ k', H' a = some (.dK k')
theorem Kin.refl {H : Hp} : Kin H H := ⟨fun _ _ h => h, fun _ _ h => ⟨_, h⟩, fun _ _ h => ⟨_, h⟩⟩
theorem Kin.same {H G : Hp} (s : Same H G) : Kin H G := ⟨fun _ _ h => s _ _ h, fun _ _ h => ⟨_, s _ _ h⟩, fun _ _ h => ⟨_, s _ _ h⟩⟩
theorem Kin.trans {H G J : Hp} (a : Kin H G) (b : Kin G J) : Kin H J :=
  ⟨fun _ _ h => b.tup _ _ (a.tup _ _ h), fun _ _ h => let ⟨_, q⟩ := a.lst _ _ h; b.lst _ _ q, fun _ _ h => let ⟨_, q⟩ := a.dk _ _ h; b.dk _ _ q⟩
theorem Kin.ext {H G : Hp} {p : Addr} (P : Purse H p) (e : Ext p H G) (P' : Purse G p) : Kin H G := by
  obtain ⟨x1, x2, x3, x4, x5⟩ := P
  obtain ⟨y1, y2, y3, y4, y5⟩ := P'
  refine ⟨fun a xs h => e a _ ?_ h, fun a xs h => ?_, fun a kvs h => e a _ ?_ h |> fun q => ⟨_, q⟩⟩
  · rintro rfl
    rw [x4] at h
    cases h
  · by_cases q : a = p
    · subst q
      exact ⟨_, y4⟩
    · exact ⟨_, e a _ q h⟩
  · rintro rfl
    rw [x4] at h
    cases h
mutual
theorem ShR.kin {H G : Hp} (k : Kin H G) : ∀ {v : V} {s : Sh}, ShR H v s → ShR G v s
  | _, _, .non => .non
  | _, _, .bl b => .bl b
  | _, _, .str x => .str x
  | _, _, .int n => .int n
  | _, _, .lst h => let ⟨_, q⟩ := k.lst _ _ h; .lst q
  | _, _, .dk h => let ⟨_, q⟩ := k.dk _ _ h; .dk q
  | _, _, .tup h a => .tup (k.tup _ _ h) (ShAll.kin k a)
theorem ShAll.kin {H G : Hp} (k : Kin H G) : ∀ {vs : List V} {ss : List Sh}, ShAll H vs ss → ShAll G vs ss
  | _, _, .nil => .nil
  | _, _, .cons a b => .cons (ShR.kin k a) (ShAll.kin k b)
end
theorem ShAll.length {H : Hp} : ∀ {vs : List V} {ss : List Sh}, ShAll H vs ss → vs.length = ss.length
  | _, _, .nil => rfl
  | _, _, .cons _ b => by rw [List.length_cons, List.length_cons, b.length]
theorem ShAll.at {H : Hp} : ∀ {vs : List V} {ss : List Sh} {i : Nat} {v : V}, ShAll H vs ss → vs[i]? = some v → ∃ s, ss[i]? = some s ∧ ShR H v s
  | _, _, _, _, .nil, h => by simp at h
  | _, _, 0, _, .cons a _, h => by
    simp at h
    subst h
    exact ⟨_, rfl, a⟩
  | _, _, i + 1, _, .cons _ b, h => by
    simp at h
    simpa using b.at h
theorem ShAll.append {H : Hp} : ∀ {vs ws : List V} {ss ts : List Sh}, ShAll H vs ss → ShAll H ws ts → ShAll H (vs ++ ws) (ss ++ ts)
  | _, _, _, _, .nil, h => h
  | _, _, _, _, .cons a b, h => .cons a (b.append h)
theorem ShAll.take {H : Hp} : ∀ {vs : List V} {ss : List Sh} (n : Nat), ShAll H vs ss → ShAll H (vs.take n) (ss.take n)
  | _, _, 0, _ => by simp; exact .nil
  | _, _, n + 1, .nil => by simp; exact .nil
  | _, _, n + 1, .cons a b => by simp; exact .cons a (b.take n)
theorem ShAll.drop {H : Hp} : ∀ {vs : List V} {ss : List Sh} (n : Nat), ShAll H vs ss → ShAll H (vs.drop n) (ss.drop n)
  | _, _, 0, h => by simpa using h
  | _, _, n + 1, .nil => by simp; exact .nil
  | _, _, n + 1, .cons a b => by simp; exact b.drop n
theorem ShAll.reverse {H : Hp} : ∀ {vs : List V} {ss : List Sh}, ShAll H vs ss → ShAll H vs.reverse ss.reverse
  | _, _, .nil => .nil
  | _, _, .cons a b => by rw [List.reverse_cons, List.reverse_cons]; exact b.reverse.append (.cons a .nil)
theorem ShAll.ints {H : Hp} : ∀ ns : List Int, ShAll H (ns.map V.int) (ns.map Sh.int)
  | [] => .nil
  | n :: ns => .cons (.int n) (ShAll.ints ns)
theorem ShAll.rows {H : Hp} : ∀ {us : List V} {rs : List (List Int)}, Rows H us rs → ShAll H us (rs.map fun r => Sh.tup (r.map Sh.int))
  | [], [], _ => .nil
  | _ :: _, r :: _, ⟨⟨t, e, h⟩, b⟩ => by
    subst e
    exact .cons (.tup h (ShAll.ints r)) (ShAll.rows b)
  | [], _ :: _, h => h.elim
  | _ :: _, [], h => h.elim
/-! ### their kinds -/
def Sh.isT : Sh → Bool
  | .tup _ => true
  | _ => false
def Sh.isI : Sh → Bool
  | .int _ => true
  | _ => false
def Sh.inW : Sh → Int → Int → Bool
  | .int n, a, b => inB n a b
  | _, _, _ => false
def Sh.num : Sh → Int
  | .int n => n
  | _ => 0
section
variable {K : PySem.W.Frag} {H : Hp} {Q : VK}
theorem rd_isiN {c : String} {b : Bool} (e : kitB "NoneType" c = some b) (k : Q (.bl b) H) : rIsi K [.non, .ty c] H Q := ⟨_, _, _, _, b, rfl, .ty c, .base .non, kit_ty e, k⟩
theorem rd_isiX {x : Str} {c : String} {b : Bool} (e : kitB "str" c = some b) (k : Q (.bl b) H) : rIsi K [.str x, .ty c] H Q := ⟨_, _, _, _, b, rfl, .ty c, .base (.str x), kit_ty e, k⟩
theorem rd_isiD {a : Addr} {kvs : List (Key × V)} {c : String} {b : Bool} (h : H a = some (.dK kvs)) (e : kitB "dict" c = some b) (k : Q (.bl b) H) : rIsi K [.ref a, .ty c] H Q := ⟨_, _, _, _, b, rfl, .ty c, .base (.dK h), kit_ty e, k⟩
theorem rd_isT {x : V} {s : Sh} (h : ShR H x s) (k : Q (.bl s.isT) H) : rIsi K [x, .ty "tuple"] H Q := by
  cases h with
  | non => exact rd_isiN kb_NoneType_tuple k
  | bl b => exact rd_isiB kb_bool_tuple k
  | str x => exact rd_isiX kb_str_tuple k
  | int n => exact rd_isiI kb_int_tuple k
  | lst h => exact rd_isiL h kb_list_tuple k
  | dk h => exact rd_isiD h kb_dict_tuple k
  | tup h _ => exact rd_isiT h kb_tuple_tuple k
end

local macro_rules | `(tactic| walk_at "rd1") => `(tactic| first | with_reducible refine' rd_tB ?_ | with_reducible refine' iteNT ?_ | with_reducible refine' iteNF ?_ | with_reducible refine' rd_iEA (tam_cons tem_var tam_nil) ?_ | with_reducible refine' rd_iSA tem_var ?_ | with_reducible refine' rd_iZA (tam_cons tem_var (tam_cons tem_var tam_nil)) ?_ | with_reducible refine' rd_augS ?_ | with_reducible refine' rd_ip ?_ | with_reducible refine' rd_slTx ?_ | with_reducible refine' rd_slAx ?_ | with_reducible refine' rd_noP ?_ | with_reducible refine' rd_aP ?_)
local macro_rules | `(tactic| walk_at "rd1") => `(tactic| first | ((with_reducible refine' rd_isiN ?e ?_); (case e => walk_at "kb")) | ((with_reducible refine' rd_isiX ?e ?_); (case e => walk_at "kb")) | ((with_reducible refine' rd_isiD ?h ?e ?_); (case h => walk_at "hp"); (case e => walk_at "kb")))
def spWholeA : Sp := fun vs H Q _ => ∃ (x : V) (s : Sh) (a b : Int), vs = [x, .int a, .int b] ∧ ShR H x s ∧ Q (.bl (s.inW a b)) H
section
variable {P : Program} {w : World} {K : PySem.W.Frag} {mg : Str → Option Value} {base : Heap}

theorem ok_wholeA {f : Addr} {fd : FuncData} (F : Fun K "is_whole" "is_whole" s_is_whole f fd) (T : Free mg) : FnOk P w K mg base CX0 1 f fd ["thing", "least", "greatest"] spWholeA := by
  refine F.ok sc_is_whole (fun vs H Q E h => ?_) (fun cdv A outer s H vs Q E hr h => ?_)
  · obtain ⟨x, sh, a, b, rfl, _⟩ := h
    rfl
  · obtain ⟨x, sh, a, b, rfl, hx, k⟩ := h
    refine ⟨_, (pss_one (ps_ret (pe_and (pe_callB (call_isi1 (K := K) rfl) (by rfl) T.isinstance (by decide +kernel) (pa_cons (pv 0) (pa_cons (pe_bltn (v := .ty "int") (by rfl) T.int_ (by decide +kernel) rfl) pa_nil))) (pe_and (pe_not (pe_callB (call_isi1 (K := K) rfl) (by rfl) T.isinstance (by decide +kernel) (pa_cons (pv 0) (pa_cons (pe_bltn (v := .ty "bool") (by rfl) T.bool_ (by decide +kernel) rfl) pa_nil)))) (pe_one (pe_chain op_le op_le (pv 1) (pv 0) (pv 2))))))), ?_⟩
    cases hx with
    | int n =>
      walk_at "rd"
      exact rd_inB (fun R h => rd_var rfl h) (fun R h => rd_var rfl h) (fun R h => rd_var rfl h) k
    | non => walk_at "rd"; exact k
    | bl b => walk_at "rd"; exact k
    | str x => walk_at "rd"; exact k
    | lst h => walk_at "rd"; exact k
    | dk h => walk_at "rd"; exact k
    | tup h _ => walk_at "rd"; exact k
def spNumA : Sp := fun vs H Q _ => ∃ (x : V) (s : Sh), vs = [x] ∧ ShR H x s ∧ Q (.bl s.isI) H

theorem ok_numA {f : Addr} {fd : FuncData} (F : Fun K "_law_number" "_law_number" sNum f fd) (T : Free mg) : FnOk P w K mg base CX0 1 f fd ["_law_it"] spNumA := by
  refine F.ok scNum (fun vs H Q E h => ?_) (fun cdv A outer s H vs Q E hr h => ?_)
  · obtain ⟨x, sh, rfl, _⟩ := h
    rfl
  · obtain ⟨x, sh, rfl, hx, k⟩ := h
    refine ⟨_, (pss_one (ps_ret (pe_and (pe_callB (call_isi1 (K := K) rfl) (by rfl) T.isinstance (by decide +kernel) (pa_cons (pv 0) (pa_cons (pe_bltn (v := .ty "int") (by rfl) T.int_ (by decide +kernel) rfl) pa_nil))) (pe_one (pe_not (pe_callB (call_isi1 (K := K) rfl) (by rfl) T.isinstance (by decide +kernel) (pa_cons (pv 0) (pa_cons (pe_bltn (v := .ty "bool") (by rfl) T.bool_ (by decide +kernel) rfl) pa_nil)))))))), ?_⟩
    cases hx with
    | int n => walk_at "rd"; exact k
    | non => walk_at "rd"; exact k
    | bl b => walk_at "rd"; exact k
    | str x => walk_at "rd"; exact k
    | lst h => walk_at "rd"; exact k
    | dk h => walk_at "rd"; exact k
    | tup h _ => walk_at "rd"; exact k

def Sh.tri : Sh → Bool
  | .tup ss => decide (ss.length = 3) && ss.all Sh.isI
  | _ => false
def spNumsA : Sp := fun vs H Q _ => ∃ (x : V) (s : Sh), vs = [x, .int 3] ∧ ShR H x s ∧ ∀ H', Same H H' → Q (.bl s.tri) H'
theorem ok_numsA {f fN : Addr} {fd fdN : FuncData} (F : Fun K "_law_numbers" "_law_numbers" sNums f fd) (T : Free mg) (dNum : Def P w K mg base "_law_number" 1 fN fdN ["_law_it"] spNumA) : FnOk P w K mg base CX0 2 f fd ["_law_it", "_law_many"] spNumsA := by
  refine F.ok scNums (fun vs H Q E h => ?_) (fun cdv A outer s H vs Q E hr h => ?_)
  · obtain ⟨x, sh, rfl, _⟩ := h
    rfl
  · obtain ⟨x, sh, rfl, hx, k⟩ := h
    refine ⟨_, (pss_one (ps_ret (pe_and (pe_callB (call_isi1 (K := K) rfl) (by rfl) T.isinstance (by decide +kernel) (pa_cons (pv 0) (pa_cons (pe_bltn (v := .ty "tuple") (by rfl) T.tuple (by decide +kernel) rfl) pa_nil))) (pe_and (pe_cmpR op_eq (pe_callB (call_lenK (K := K) rfl) (by rfl) T.len (by decide +kernel) (pa_cons (pv 0) pa_nil)) (pv 1) (nomark _)) (pe_one (pe_callB (cr_allK (K := K) rfl rfl) (by rfl) T.all (by decide +kernel) (pa_cons (pe_lc (own := [("_law_one", 2)]) (tt := tYes) rfl scNums.nd (pi_tupK (K := K) rfl (pv 0)) (blkOk_by (N := ["_law_it", "_law_many", "_law_one"]) (sc := defScope sNums) (by decide +kernel)) (fun _ _ _ _ _ => (pg_name (i := 2) scNums.nd rfl (by first | exact Or.inl rfl | exact Or.inr rfl))) (fun _ _ _ _ _ => pts_nil) (fun _ _ _ _ _ => (pe_call dNum.ok (hr.mono (by decide)) (by rfl) dNum.mg dNum.kp dNum.bd .nil pass0 (pa_cons (pv 2) pa_nil)))) pa_nil))))))), ?_⟩
    cases hx with
    | non => walk_at "rd"; exact k _ (Same.refl _)
    | bl b => walk_at "rd"; exact k _ (Same.refl _)
    | str x => walk_at "rd"; exact k _ (Same.refl _)
    | int n => walk_at "rd"; exact k _ (Same.refl _)
    | lst h => walk_at "rd"; exact k _ (Same.refl _)
    | dk h => walk_at "rd"; exact k _ (Same.refl _)
    | @tup a xs ss h hA =>
      have hl := hA.length
      walk_at "rd"
      refine ite_dec (fun c => ?_) (fun c => ?_)
      · have c3 : xs.length = 3 := by omega
        walk_at "rd"
        intro D hD
        refine lcA (p := D) (walk_tup (xs := xs)) (fun i acc _ => acc = ((ss.take i).map Sh.isI).map V.bl) hD (by omega) rfl (fun H' e => SqT.of (e.get (ne_of_none h hD) h)) ?_ ?_
        · rintro i x G G' acc M hi e q la a ⟨rfl, y⟩ k1 k2
          obtain ⟨s1, e1, r1⟩ := hA.at y
          have kn : Kin H G' := Kin.same fun b o hb => e b o (ne_of_none hb hD) hb
          walk_at "rd"
          refine ⟨rfl, ?_⟩
          walk_at "rd"
          refine ⟨x, s1, rfl, r1.kin kn, ?_⟩
          refine k1 _ _ e q ?_
          rw [take_snoc e1, List.map_append, List.map_append, a]
          rfl
        · intro G acc e q la a
          rw [List.take_of_length_le (by omega)] at a
          subst a
          walk_at "rd"
          refine rd_all q ?_
          have : (ss.map Sh.isI).all id = Sh.tri (.tup ss) := by
            rw [Sh.tri, decide_eq_true (by omega), List.all_map]
            rfl
          rw [this]
          exact k G fun b o hb => e b o (ne_of_none hb hD) hb
      · have : Sh.tri (.tup ss) = false := by
          have c3 : ¬ ss.length = 3 := by
            intro z
            apply c
            simp [hl, z]
          simp [Sh.tri, c3]
        rw [← this]
        walk_at "rd"
        exact k _ (Same.refl _)
end
end Sk
end

section
namespace Sk
open PySem L2
local macro_rules | `(tactic| walk_at "kb") => `(tactic| first | exact kb_int_int | exact kb_int_bool | exact kb_int_str | exact kb_int_tuple | exact kb_int_list | exact kb_tuple_int | exact kb_tuple_bool | exact kb_tuple_str | exact kb_tuple_tuple | exact kb_tuple_list | exact kb_list_int | exact kb_list_bool | exact kb_list_str | exact kb_list_tuple | exact kb_list_list | exact kb_bool_int | exact kb_bool_bool | exact kb_bool_str | exact kb_bool_tuple | exact kb_bool_list | exact kb_str_int | exact kb_str_bool | exact kb_str_str | exact kb_str_tuple | exact kb_str_list | exact kb_dict_int | exact kb_dict_bool | exact kb_dict_str | exact kb_dict_tuple | exact kb_dict_list | exact kb_NoneType_int | exact kb_NoneType_bool | exact kb_NoneType_str | exact kb_NoneType_tuple | exact kb_NoneType_list)
local macro_rules | `(tactic| walk_at "hp") => `(tactic| first
  | assumption
  | exact upd_same
  | (refine' upd_get ?n ?e; (case n => walk_at "ne"); (case e => walk_at "hp"))
  | (refine' But.get (by assumption) ?n ?e; (case n => walk_at "ne"); (case e => walk_at "hp"))
  | (refine' Ext.get (by assumption) ?n ?e; (case n => walk_at "ne"); (case e => walk_at "hp"))
  | (refine' same_get (by assumption) ?e; (case e => walk_at "hp")))
local macro_rules | `(tactic| walk_at "ne") => `(tactic| first
  | assumption
  | (apply Ne.symm; assumption)
  | (refine' ne_of_none ?h (by assumption); (case h => walk_at "hp"))
  | (apply Ne.symm; refine' ne_of_none ?h (by assumption); (case h => walk_at "hp")))
local macro_rules | `(tactic| walk_at "sd") => `(tactic| first
  | (show (0 : Int) < _; omega)
  | (simp only [CMul, CDiv]; omega)
  | exact ⟨by omega, by omega⟩)
local macro_rules | `(tactic| walk_at "rd1") => `(tactic| first
  | with_reducible refine' rd_c ?_
  | ((with_reducible refine' rd_var ?h ?_); (case h => exact rfl))
  | with_reducible refine' rd_op ?_
  | with_reducible refine' rd_seq ?_
  | with_reducible refine' rd_asg ?_
  | with_reducible refine' rd_gName ?_
  | with_reducible refine' rd_I0 ?_
  | ((with_reducible refine' rd_I ?c ?_); (case c => walk_at "sd"))
  | with_reducible refine' rd_eqI ?_
  | with_reducible refine' rd_neI ?_
  | with_reducible refine' rd_U ?_
  | with_reducible refine' rd_un ?_
  | with_reducible refine' rd_ret ?_
  | with_reducible refine' rd_drop ?_
  | with_reducible refine' rd_next ?_
  | with_reducible refine' rd_ifS ?_
  | with_reducible refine' rd_test ?_
  | with_reducible refine' rd_bl ?_
  | with_reducible refine' rd_nil ?_
  | with_reducible refine' rd_cons ?_
  | with_reducible refine' rd_tup ?_
  | with_reducible refine' rd_lst ?_
  | with_reducible refine' rd_call ?_
  | with_reducible refine' rd_cb ?_
  | with_reducible refine' rd_par ?_
  | with_reducible refine' rd_par2 ?_
  | with_reducible refine' rd_and ?_
  | with_reducible refine' rd_or ?_
  | with_reducible refine' rd_not ?_
  | with_reducible refine' rd_andV ?_
  | with_reducible refine' rd_orV ?_
  | with_reducible refine' rd_notV ?_
  | with_reducible refine' rd_if ?_
  | with_reducible refine' rd_gSub ?_
  | ((with_reducible refine' rd_ixL ?h ?e ?_); (case h => walk_at "hp"); (case e => exact rfl))
  | ((with_reducible refine' rd_ixT ?h ?e ?_); (case h => walk_at "hp"); (case e => exact rfl))
  | ((with_reducible refine' rd_setL ?h ?e ?_); (case h => walk_at "hp"); (case e => exact rfl))
  | ((with_reducible refine' rd_append ?h ?e ?_); (case h => walk_at "hp"); (case e => assumption))
  | (with_reducible refine' rd_bmL ?_)
  | ((with_reducible refine' And.intro (tyL ?h) ?_); (case h => walk_at "hp"))
  | ((with_reducible refine' And.intro (len_ok ?h) ?_); (case h => exact rfl))
  | with_reducible refine' rd_ex1 ?_
  | with_reducible refine' rd_ex2 ?_
  | with_reducible refine' rd_int1b ?_
  | ((with_reducible refine' rd_isiI ?e ?_); (case e => walk_at "kb"))
  | ((with_reducible refine' rd_isiB ?e ?_); (case e => walk_at "kb"))
  | ((with_reducible refine' rd_isiT ?h ?e ?_); (case h => walk_at "hp"); (case e => walk_at "kb"))
  | ((with_reducible refine' rd_isiL ?h ?e ?_); (case h => walk_at "hp"); (case e => walk_at "kb"))
  | ((with_reducible refine' rd_lenL ?h ?_); (case h => walk_at "hp"))
  | ((with_reducible refine' rd_lenT ?h ?_); (case h => walk_at "hp"))
  | ((with_reducible refine' rd_gTup ?h ?e ?_); (case h => walk_at "hp"); (case e => exact rfl))
  | with_reducible refine' rd_gCons ?_
  | with_reducible refine' rd_gNil ?_
  | with_reducible refine' rd_yes ?_
  | with_reducible refine' rd_for ?_
  | with_reducible refine' rd_lc ?_
  | with_reducible refine' rd_rng1 ?_
  | with_reducible refine' rd_iL ?_
  | with_reducible refine' rd_iT ?_
  | with_reducible refine' rd_iE ?_
  | with_reducible refine' rd_iZ ?_
  | ((with_reducible refine' rd_iL' ?h ?_); (case h => walk_at "hp"))
  | ((with_reducible refine' rd_iT' ?h ?_); (case h => walk_at "hp"))
  | ((with_reducible refine' rd_iE' ?h ?_); (case h => walk_at "hp"))
  | ((with_reducible refine' rd_iZ' ?h1 ?h2 ?_); (case h1 => walk_at "hp"); (case h2 => walk_at "hp"))
  | with_reducible refine' iteT ?_
  | with_reducible refine' iteF ?_)
local macro_rules | `(tactic| walk_at "rd") => `(tactic| repeat walk_at "rd1")
local macro_rules | `(tactic| walk_at "rd1") => `(tactic| first | with_reducible refine' rd_tB ?_ | with_reducible refine' iteNT ?_ | with_reducible refine' iteNF ?_ | with_reducible refine' rd_iEA (tam_cons tem_var tam_nil) ?_ | with_reducible refine' rd_iSA tem_var ?_ | with_reducible refine' rd_iZA (tam_cons tem_var (tam_cons tem_var tam_nil)) ?_ | with_reducible refine' rd_augS ?_ | with_reducible refine' rd_ip ?_ | with_reducible refine' rd_slTx ?_ | with_reducible refine' rd_slAx ?_ | with_reducible refine' rd_noP ?_ | with_reducible refine' rd_aP ?_)

theorem le_tk {d : Ent} : ∀ {ds : List Ent}, (∀ e ∈ ds, 0 ≤ e.2.2) → d ∈ ds → d.2.2 ≤ tk ds d.2.1
  | [], _, h => by cases h
  | e :: ds, hp, h => by
    rw [tk_cons]
    have h1 := hp e (by simp)
    have h2 := tk_nn (fs := ds) (fun e he => hp e (by simp [he])) d.2.1
    rcases List.mem_cons.mp h with rfl | h
    · simp; omega
    · have := le_tk (fun e he => hp e (by simp [he])) h
      split <;> omega
def bAt (bs : List (Int × Int)) (k : Nat) : Int × Int := bs.getD k (0, 0)
theorem bAt_some {bs : List (Int × Int)} {k : Nat} (h : k < bs.length) : bs[k]? = some (bAt bs k) := by
  unfold bAt
  rw [List.getD_eq_getElem?_getD, List.getElem?_eq_getElem h]
  rfl
theorem bAt_eq {bs : List (Int × Int)} {k : Nat} {o : Int × Int} (h : bs[k]? = some o) : bAt bs k = o := by
  unfold bAt
  rw [List.getD_eq_getElem?_getD, h]
  rfl
/-- what is left of each back -/
def brest (bs : List (Int × Int)) (fs : List Ent) : List Int := (List.range bs.length).map fun (k : Nat) => (bAt bs k).2 - bk fs k
theorem brest_len (bs : List (Int × Int)) (fs : List Ent) : (brest bs fs).length = bs.length := by simp [brest]
theorem brest_at {bs : List (Int × Int)} {fs : List Ent} {k : Nat} (h : k < bs.length) : (brest bs fs)[k]? = some ((bAt bs k).2 - bk fs k) := by
  simp [brest, h]
theorem brest_nil (bs : List (Int × Int)) : brest bs [] = bs.map fun o => o.2 := by
  apply List.ext_getElem?
  intro i
  by_cases h : i < bs.length
  · rw [brest_at h, List.getElem?_map, bAt_some h]
    simp [bk]
  · rw [List.getElem?_eq_none (by simp [brest]; omega), List.getElem?_eq_none (by simp; omega)]
theorem brest_set {bs : List (Int × Int)} {fs : List Ent} {d : Ent} {k : Nat} (h : k < bs.length) (ek : d.1 = k) : (brest bs fs).set k ((bAt bs k).2 - bk fs k - d.2.2) = brest bs (fs ++ [d]) := by
  apply List.ext_getElem?
  intro i
  by_cases hi : i < bs.length
  · rw [brest_at hi, List.getElem?_set]
    by_cases e : k = i
    · subst e
      rw [if_pos rfl, if_pos (by rw [brest_len]; exact h), bk_snoc, if_pos ek]
      congr 1
      omega
    · rw [if_neg e, brest_at hi, bk_snoc, if_neg (by omega)]
      simp
  · rw [List.getElem?_eq_none (by simp [brest]; omega), List.getElem?_eq_none (by simp [brest]; omega)]
theorem free_set' {os : List (Int × Int × Int)} {fs : List Ent} {d : Ent} {k : Nat} (h : k < os.length) (ek : d.2.1 = k) : (freeOf os fs).set k ((oAt os k).2.1 - tk fs k - d.2.2) = freeOf os (fs ++ [d]) := by
  have := free_set (os := os) (fs := fs) (b := d.1) (m := d.2.2) h
  rw [this, ← ek]
theorem map_setV {xs : List Int} {k : Nat} {n : Int} : (xs.map V.int).set k (.int n) = (xs.set k n).map V.int := by rw [List.map_set]
/-- a part that may stand in a dealing -/
def partB (os : List (Int × Int × Int)) (bs : List (Int × Int)) : Sh → Bool
  | .tup [a, b, c] => a.inW 0 ((bs.length : Int) - 1) && (b.inW 0 ((os.length : Int) - 1) && (c.inW 1 (oAt os b.num.toNat).2.1 && decide ((oAt os b.num.toNat).1 ≤ (bAt bs a.num.toNat).1)))
  | _ => false
theorem inW_at {s : Sh} {n : Nat} (h : s.inW 0 ((n : Int) - 1) = true) : ∃ k : Nat, s = .int k ∧ k < n ∧ s.num = k ∧ s.num.toNat = k := by
  cases s with
  | int i =>
    simp [Sh.inW, inB] at h
    refine ⟨i.toNat, by congr 1; omega, by omega, ?_, rfl⟩
    show i = _
    omega
  | oth => simp [Sh.inW] at h
  | tup xs => simp [Sh.inW] at h
def spPartA : Sp := fun vs H Q _ => ∃ (l m : Addr) (x : V) (us ws : List V) (os : List (Int × Int × Int)) (bs : List (Int × Int)) (s : Sh), vs = [.ref l, .ref m, x] ∧ OutsAt H l us os ∧ BacksAt H m ws bs ∧ ShR H x s ∧ Q (.bl (partB os bs s)) H
section
variable {P : Program} {w : World} {K : PySem.W.Frag} {mg : Str → Option Value} {base : Heap}
local macro_rules | `(tactic| walk_at "rd1") => `(tactic| first | ((with_reducible refine' rd_isiN ?e ?_); (case e => walk_at "kb")) | ((with_reducible refine' rd_isiX ?e ?_); (case e => walk_at "kb")) | ((with_reducible refine' rd_isiD ?h ?e ?_); (case h => walk_at "hp"); (case e => walk_at "kb")))

abbrev s_is_part : Stmt := top 15
theorem sc_is_part : FnScope ["outs", "backs", "thing"] ["outs", "backs", "thing"] (defScope s_is_part) := ⟨rfl, rfl, rfl, by decide +kernel, rfl, by decide +kernel, by decide +kernel⟩
theorem ok_partA {f fW : Addr} {fd fdW : FuncData} (F : Fun K "is_part" "is_part" s_is_part f fd) (T : Free mg) (dWhole : Def P w K mg base "is_whole" 1 fW fdW ["thing", "least", "greatest"] spWholeA) : FnOk P w K mg base CX0 2 f fd ["outs", "backs", "thing"] spPartA := by
  refine F.ok sc_is_part (fun vs H Q E h => ?_) (fun cdv A outer s H vs Q E hr h => ?_)
  · obtain ⟨l, m, x, us, ws, os, bs, sh, rfl, _⟩ := h
    rfl
  · obtain ⟨l, m, x, us, ws, os, bs, sh, rfl, ⟨hs, hR⟩, ⟨hs2, hR2⟩, hx, k⟩ := h
    have lu : us.length = os.length := by rw [hR.length, List.length_map]
    have lw : ws.length = bs.length := by rw [hR2.length, List.length_map]
    refine ⟨_, (pss_one (ps_ret (pe_and (pe_callB (call_isi1 (K := K) rfl) (by rfl) T.isinstance (by decide +kernel) (pa_cons (pv 2) (pa_cons (pe_bltn (v := .ty "tuple") (by rfl) T.tuple (by decide +kernel) rfl) pa_nil))) (pe_and (pe_cmpR op_eq (pe_callB (call_lenK (K := K) rfl) (by rfl) T.len (by decide +kernel) (pa_cons (pv 2) pa_nil)) pe_int (nomark _)) (pe_and (pe_call dWhole.ok (hr.mono (by decide)) (by rfl) dWhole.mg dWhole.kp dWhole.bd .nil pass0 (pa_cons (pe_ix (ix_tupK (K := K) rfl) (pv 2) pe_int (fun _ _ => rfl)) (pa_cons pe_int (pa_cons (pe_op op_sub (pe_callB (call_lenK (K := K) rfl) (by rfl) T.len (by decide +kernel) (pa_cons (pv 1) pa_nil)) pe_int) pa_nil)))) (pe_and (pe_call dWhole.ok (hr.mono (by decide)) (by rfl) dWhole.mg dWhole.kp dWhole.bd .nil pass0 (pa_cons (pe_ix (ix_tupK (K := K) rfl) (pv 2) pe_int (fun _ _ => rfl)) (pa_cons pe_int (pa_cons (pe_op op_sub (pe_callB (call_lenK (K := K) rfl) (by rfl) T.len (by decide +kernel) (pa_cons (pv 0) pa_nil)) pe_int) pa_nil)))) (pe_and (pe_call dWhole.ok (hr.mono (by decide)) (by rfl) dWhole.mg dWhole.kp dWhole.bd .nil pass0 (pa_cons (pe_ix (ix_tupK (K := K) rfl) (pv 2) pe_int (fun _ _ => rfl)) (pa_cons pe_int (pa_cons (pe_ix (ix_tupK (K := K) rfl) (pe_ix (ix_seqK (K := K) rfl) (pv 0) (pe_ix (ix_tupK (K := K) rfl) (pv 2) pe_int (fun _ _ => rfl)) (fun _ _ => rfl)) pe_int (fun _ _ => rfl)) pa_nil)))) (pe_one (pe_cmpR op_le (pe_ix (ix_tupK (K := K) rfl) (pe_ix (ix_seqK (K := K) rfl) (pv 0) (pe_ix (ix_tupK (K := K) rfl) (pv 2) pe_int (fun _ _ => rfl)) (fun _ _ => rfl)) pe_int (fun _ _ => rfl)) (pe_ix (ix_tupK (K := K) rfl) (pe_ix (ix_seqK (K := K) rfl) (pv 1) (pe_ix (ix_tupK (K := K) rfl) (pv 2) pe_int (fun _ _ => rfl)) (fun _ _ => rfl)) pe_int (fun _ _ => rfl)) (nomark _)))))))))), ?_⟩
    cases hx with
    | non => walk_at "rd"; exact k
    | bl b => walk_at "rd"; exact k
    | str x => walk_at "rd"; exact k
    | int n => walk_at "rd"; exact k
    | lst h => walk_at "rd"; exact k
    | dk h => walk_at "rd"; exact k
    | @tup t xs ss ht hA =>
      have hl := hA.length
      walk_at "rd"
      refine ite_dec (fun c => ?_) (fun c => ?_)
      · have c3 : xs.length = 3 := by omega
        match xs, ss, hA, c3, hl with
        | [x0, x1, x2], [s0, s1, s2], .cons h0 (.cons h1 (.cons h2 .nil)), _, _ =>
        have hkk : partB os bs (.tup [s0, s1, s2]) = (s0.inW 0 ((bs.length : Int) - 1) && (s1.inW 0 ((os.length : Int) - 1) && (s2.inW 1 (oAt os s1.num.toNat).2.1 && decide ((oAt os s1.num.toNat).1 ≤ (bAt bs s0.num.toNat).1)))) := rfl
        rw [hkk] at k
        walk_at "rd"
        refine rd_lenS hs2 ?_
        walk_at "rd"
        rw [lw]
        refine ⟨x0, s0, 0, _, rfl, h0, s0.inW 0 ((bs.length : Int) - 1), rfl, ?_⟩
        cases b0 : s0.inW 0 ((bs.length : Int) - 1) with
        | false =>
          rw [b0] at k
          walk_at "rd"
          exact k
        | true =>
          rw [b0] at k
          obtain ⟨j, rfl, hj, ej, ej2⟩ := inW_at b0
          cases h0
          rw [ej2] at k
          walk_at "rd"
          refine rd_lenS hs ?_
          walk_at "rd"
          rw [lu]
          refine ⟨x1, s1, 0, _, rfl, h1, s1.inW 0 ((os.length : Int) - 1), rfl, ?_⟩
          cases b1 : s1.inW 0 ((os.length : Int) - 1) with
          | false =>
            rw [b1] at k
            walk_at "rd"
            exact k
          | true =>
            rw [b1] at k
            obtain ⟨kk, rfl, hk, ek, ek2⟩ := inW_at b1
            cases h1
            rw [ek2] at k
            obtain ⟨v, hv⟩ : ∃ v, us[kk]? = some v := ⟨us[kk]'(by omega), List.getElem?_eq_getElem _⟩
            obtain ⟨v2, hv2⟩ : ∃ v, ws[j]? = some v := ⟨ws[j]'(by omega), List.getElem?_eq_getElem _⟩
            obtain ⟨o, to, ho, rfl, hto⟩ := rows_at hR hv
            obtain ⟨x', tx, hx', rfl, htx⟩ := rows_at hR2 hv2
            rw [oAt_eq ho, bAt_eq hx'] at k
            replace hto : H to = some (.tup [.int o.1, .int o.2.1, .int o.2.2]) := hto
            replace htx : H tx = some (.tup [.int x'.1, .int x'.2]) := htx
            walk_at "rd"
            refine rd_ixA hs (atI_nat hv) ?_
            walk_at "rd"
            refine ⟨x2, s2, 1, _, rfl, h2, s2.inW 1 o.2.1, rfl, ?_⟩
            cases b2 : s2.inW 1 o.2.1 with
            | false =>
              rw [b2] at k
              walk_at "rd"
              exact k
            | true =>
              rw [b2] at k
              walk_at "rd"
              refine rd_ixA hs (atI_nat hv) ?_
              walk_at "rd"
              refine rd_ixA hs2 (atI_nat hv2) ?_
              walk_at "rd"
              exact k
      · have : partB os bs (.tup ss) = false := by
          have c3 : ¬ ss.length = 3 := by omega
          match ss, c3 with
          | [], _ => rfl
          | [_], _ => rfl
          | [_, _], _ => rfl
          | _ :: _ :: _ :: _ :: _, _ => rfl
        rw [this] at k
        walk_at "rd"
        exact k


/-! ### parts that all may stand -/
def entOf : Sh → Ent
  | .tup [a, b, c] => (a.num, b.num, c.num)
  | _ => (0, 0, 0)
/-- numbers of rows that are there -/
def InR (os : List (Int × Int × Int)) (bs : List (Int × Int)) (d : Ent) : Prop := ∃ j kk : Nat, d.1 = j ∧ j < bs.length ∧ d.2.1 = kk ∧ kk < os.length
theorem part_of {os : List (Int × Int × Int)} {bs : List (Int × Int)} {s : Sh} (h : partB os bs s = true) : s = .tup [.int (entOf s).1, .int (entOf s).2.1, .int (entOf s).2.2] ∧
    ∃ j kk : Nat, (entOf s).1 = j ∧ j < bs.length ∧ (entOf s).2.1 = kk ∧ kk < os.length ∧ 1 ≤ (entOf s).2.2 ∧ (entOf s).2.2 ≤ (oAt os kk).2.1 ∧ (oAt os kk).1 ≤ (bAt bs j).1 := by
  match s, h with
  | .tup [a, b, c], h =>
    simp only [partB, Bool.and_eq_true, decide_eq_true_eq] at h
    obtain ⟨h0, h1, h2, h3⟩ := h
    obtain ⟨j, rfl, hj, ej, ej2⟩ := inW_at h0
    obtain ⟨kk, rfl, hk, ek, ek2⟩ := inW_at h1
    rw [ek2] at h2
    rw [ek2, ej2] at h3
    cases c with
    | int n =>
      simp [Sh.inW, inB] at h2
      exact ⟨rfl, j, kk, rfl, hj, rfl, hk, h2.1, h2.2, h3⟩
    | oth => simp [Sh.inW] at h2
    | tup xs => simp [Sh.inW] at h2
theorem rows_of {H : Hp} {os : List (Int × Int × Int)} {bs : List (Int × Int)} : ∀ {ts : List V} {ss : List Sh}, ShAll H ts ss → (∀ s ∈ ss, partB os bs s = true) → Rows H ts ((ss.map entOf).map t3)
  | _, _, .nil, _ => True.intro
  | _, _, .cons (v := v) (s := s) a b, h => by
    obtain ⟨e, _⟩ := part_of (h s (by simp))
    refine ⟨?_, rows_of b fun s hs => h s (by simp [hs])⟩
    rw [e] at a
    cases a with
    | tup ha hb =>
      match hb with
      | .cons (.int _) (.cons (.int _) (.cons (.int _) .nil)) => exact ⟨_, rfl, ha⟩
def riseB (es : List Ent) : List Bool := (es.zip (es.drop 1)).map fun x => HT.lexLt [x.1.1, x.1.2.1] [x.2.1, x.2.2.1]
theorem riseB_len (es : List Ent) : (riseB es).length = es.length - 1 := by simp [riseB]
theorem riseB_at {es : List Ent} {i : Nat} {d d' : Ent} (h : es[i]? = some d) (h' : es[i + 1]? = some d') : (riseB es)[i]? = some (HT.lexLt [d.1, d.2.1] [d'.1, d'.2.1]) := by
  unfold riseB
  have e2 : (es.drop 1)[i]? = some d' := by rw [List.getElem?_drop, Nat.add_comm]; exact h'
  rw [List.getElem?_map, List.getElem?_zip_eq_some.mpr (show es[i]? = some (d, d').1 ∧ (es.drop 1)[i]? = some (d, d').2 from ⟨h, e2⟩)]
  rfl

abbrev s_rises : Stmt := top 16
theorem sc_rises : FnScope ["dealing", "one", "other"] ["dealing"] (defScope s_rises) := ⟨rfl, rfl, rfl, by decide +kernel, rfl, by decide +kernel, by decide +kernel⟩
def spRisesB : Sp := fun vs H Q _ => ∃ (t : Addr) (ts : List V) (ds : List Ent), vs = [.ref t] ∧ H t = some (.tup ts) ∧ Rows H ts (ds.map t3) ∧ ds.length ≤ 1000 ∧ ∀ H', Same H H' → Q (.bl ((riseB ds).all id)) H'
theorem rd_ltTB {H : Hp} {Q : VK} {p q : Addr} {a b c d : Int} (hp : H p = some (.tup [.int a, .int b])) (hq : H q = some (.tup [.int c, .int d])) (k : Q (.bl (HT.lexLt [a, b] [c, d])) H) : rLtT K (.ref p) (.ref q) H Q :=
  ⟨p, q, [a, b], [c, d], rfl, rfl, SqT.of hp, SqT.of hq, k⟩
theorem ok_risesB {f : Addr} {fd : FuncData} (F : Fun K "rises" "rises" s_rises f fd) (T : Free mg) : FnOk P w K mg base CX0 1 f fd ["dealing"] spRisesB := by
  refine F.ok sc_rises (fun vs H Q E h => ?_) (fun cdv A outer s H vs Q E hr h => ?_)
  · obtain ⟨t, ts, ds, rfl, _⟩ := h
    rfl
  · obtain ⟨t, ts, ds, rfl, ht, hR, hl, k⟩ := h
    have lt : ts.length = ds.length := by rw [hR.length, List.length_map]
    refine ⟨_, (pss_one (ps_ret (pe_callB (cr_allK (K := K) rfl rfl) (by rfl) T.all (by decide +kernel) (pa_cons (pe_lc (own := [("one", 1), ("other", 2)]) (tt := tYes) rfl sc_rises.nd (pi_zipK (by rfl) T.zip (pa_cons (pv 0) (pa_cons (pe_slice (sl_tupAK (K := K) rfl) (pv 0) (po_some pe_int) po_none) pa_nil))) (blkOk_by (N := ["dealing", "one", "other"]) (sc := defScope s_rises) (by decide +kernel)) (fun _ _ _ _ _ => (pg_tupK (K := K) (n := 2) rfl (by rfl) (pgs_cons (pg_name (i := 1) sc_rises.nd rfl (by first | exact Or.inl rfl | exact Or.inr rfl)) (pgs_cons (pg_name (i := 2) sc_rises.nd rfl (by first | exact Or.inl rfl | exact Or.inr rfl)) pgs_nil)))) (fun _ _ _ _ _ => pts_nil) (fun _ _ _ _ _ => (pe_cmpR (op_ltTK (K := K) rfl hr.units) (pe_slice (sl_tupK (K := K) rfl) (pv 1) po_none (po_some pe_int)) (pe_slice (sl_tupK (K := K) rfl) (pv 2) po_none (po_some pe_int)) (nomark _)))) pa_nil)))), ?_⟩
    walk_at "rd"
    refine rd_iZA (tam_cons tem_var (tam_cons (tem_slA tem_var) tam_nil)) ?_
    walk_at "rd"
    refine rd_tail ht (fun u H1 s1 hu => ?_)
    walk_at "rd"
    refine ⟨t, u, ts, ts.drop 1, rfl, .inr (s1 _ _ ht), .inr hu, fun J GG hGG W => ?_⟩
    intro D hD
    have len1 : min ts.length (ts.drop 1).length = ds.length - 1 := by rw [List.length_drop]; omega
    rw [len1] at W
    refine lcA (p := D) W (fun i acc _ => acc = ((riseB ds).take i).map V.bl) hD (by omega) rfl (fun H' e => hGG H' (fun o h => e _ _ (ne_of_none h hD) h) (fun o h => e _ _ (ne_of_none h hD) h)) ?_ ?_
    · rintro i x H2 H2' acc M hi e q' l' a' ⟨T', x', y', rfl, hT, rfl, h1, h2⟩ k1 k2
      have h2' : ts[i + 1]? = some y' := by rw [← h2]; show _ = (ts.drop 1)[i]?; rw [List.getElem?_drop, Nat.add_comm]
      have hR2 := (hR.same s1).mono (e.tsn hD)
      obtain ⟨d, to, hd, rfl, hto⟩ := rows_at hR2 h1
      obtain ⟨d', to', hd', rfl, hto'⟩ := rows_at hR2 h2'
      replace hto : H2 to = some (.tup [.int d.1, .int d.2.1, .int d.2.2]) := hto
      replace hto' : H2 to' = some (.tup [.int d'.1, .int d'.2.1, .int d'.2.2]) := hto'
      walk_at "rd"
      refine ⟨rfl, ?_⟩
      walk_at "rd"
      refine rd_head2 (by walk_at "hp") (fun p1 hp1 => ?_)
      walk_at "rd"
      refine rd_head2 (by walk_at "hp") (fun p2 hp2 => ?_)
      walk_at "rd"
      refine rd_ltTB (by walk_at "hp") (by walk_at "hp") ?_
      refine k1 _ _ (((e.new hT).new hp1).new hp2) (by walk_at "hp") ?_
      rw [take_snoc (riseB_at hd hd'), List.map_append, a']
      rfl
    · intro H2 acc e q' l' a'
      rw [List.take_of_length_le (by rw [riseB_len]; omega)] at a'
      subst a'
      walk_at "rd"
      refine rd_all q' ?_
      exact k H2 fun b o hb => e b o (ne_of_none (s1 _ _ hb) hD) (s1 _ _ hb)

abbrev s_back_rests : Stmt := top 17
theorem sc_back_rests : FnScope ["backs", "dealing", "back", "rest", "out", "many"] ["backs", "dealing"] (defScope s_back_rests) := ⟨rfl, rfl, rfl, by decide +kernel, rfl, by decide +kernel, by decide +kernel⟩
def spBRestsB : Sp := fun vs H Q _ => ∃ (l m t : Addr) (us ws ts : List V) (os : List (Int × Int × Int)) (bs : List (Int × Int)) (ds : List Ent), vs = [.ref m, .ref t] ∧ OutsAt H l us os ∧ BacksAt H m ws bs ∧ os.length ≤ 1000 ∧ bs.length ≤ 1000 ∧ H t = some (.tup ts) ∧ Rows H ts (ds.map t3) ∧
  (∀ d ∈ ds, InR os bs d) ∧ ∀ H' p, Same H H' → H p = none → H' p = some (.lst ((brest bs ds).map V.int)) → Q (.ref p) H'
theorem ok_bRestsB {f : Addr} {fd : FuncData} (F : Fun K "back_rests" "back_rests" s_back_rests f fd) (T : Free mg) : FnOk P w K mg base CX0 1 f fd ["backs", "dealing"] spBRestsB := by
  refine F.ok sc_back_rests (fun vs H Q E h => ?_) (fun cdv A outer s H vs Q E hr h => ?_)
  · obtain ⟨l, m, t, us, ws, ts, os, bs, ds, rfl, _⟩ := h
    rfl
  · obtain ⟨l, m, t, us, ws, ts, os, bs, ds, rfl, ⟨hs, hR⟩, ⟨hs2, hR2⟩, bo, bb, ht, hR3, okd, k⟩ := h
    have lu : us.length = os.length := by rw [hR.length, List.length_map]
    have lw : ws.length = bs.length := by rw [hR2.length, List.length_map]
    have lt : ts.length = ds.length := by rw [hR3.length, List.length_map]
    refine ⟨_, (pss_cons (ps_setLc (i := 3) (own := [("back", 2)]) (tt := tYes) rfl sc_back_rests.nd rfl rfl (sw_true rfl rfl rfl (by decide +kernel)) (pi_seqK (K := K) rfl (pv 0)) (blkOk_by (N := ["backs", "dealing", "back", "rest", "out", "many"]) (sc := defScope s_back_rests) (by decide +kernel)) (fun _ _ _ _ _ => (pg_name (i := 2) sc_back_rests.nd rfl (by first | exact Or.inl rfl | exact Or.inr rfl))) (fun _ _ _ _ _ => pts_nil) (fun _ _ _ _ _ => (pe_ix (ix_tupK (K := K) rfl) (pv 2) pe_int (fun _ _ => rfl)))) 
      (pss_cons (ps_for PassesOwn.never rfl (pi_tupK (K := K) rfl (pv 1)) (pg_tupK (K := K) (n := 3) rfl (by rfl) (pgs_cons (pg_name (i := 2) sc_back_rests.nd rfl (by first | exact Or.inl rfl | exact Or.inr rfl)) (pgs_cons (pg_name (i := 4) sc_back_rests.nd rfl (by first | exact Or.inl rfl | exact Or.inr rfl)) (pgs_cons (pg_name (i := 5) sc_back_rests.nd rfl (by first | exact Or.inl rfl | exact Or.inr rfl)) pgs_nil)))) 
        (pss_one (ps_augS (pv 3) (pv 2) (get_listK (K := K) rfl) (pv 5) ip_sub set_list))) 
      (pss_one (ps_ret (pv 3))))), ?_⟩
    walk_at "rd"
    refine ⟨m, ws, rfl, hs2, fun J GG hGG W => ?_⟩
    intro D hD
    refine lcA (p := D) W (fun i acc _ => acc = ((bs.take i).map fun o => o.2).map V.int) hD (by omega) rfl (fun H' e => hGG H' (fun o h => e _ _ (ne_of_none h hD) h)) ?_ ?_
    · rintro i x H1 H1' acc M hi e q la a ⟨rfl, y⟩ k1 k2
      obtain ⟨o, to, ho, rfl, hto⟩ := rows_at (hR2.mono (e.tsn hD)) y
      replace hto : H1' to = some (.tup [.int o.1, .int o.2]) := hto
      walk_at "rd"
      refine ⟨rfl, ?_⟩
      walk_at "rd"
      refine k1 _ _ e q ?_
      rw [take_snoc ho, List.map_append, List.map_append, a]
      rfl
    · intro H1 acc e q la a
      rw [List.take_of_length_le (by omega)] at a
      have ea : acc = (brest bs []).map V.int := by rw [a, brest_nil]
      subst ea
      walk_at "rd"
      have s1 : Same H H1 := fun b o hb => e b o (ne_of_none hb hD) hb
      refine loopW (walk_tup (xs := ts)) (fun i σ G => ∃ (v2 v4 v5 : Option V), σ = [some (.ref m), some (.ref t), v2, some (.ref D), v4, v5] ∧ Same H G ∧ G D = some (.lst ((brest bs (ds.take i)).map V.int))) ⟨none, none, none, rfl, s1, q⟩
        (fun i σ G _ ⟨_, _, _, _, sG, _⟩ => SqT.of (sG _ _ ht)) ?_ ?_
      · rintro i x σ G G' hi ⟨v2, v4, v5, rfl, sG, hgG⟩ ⟨rfl, y⟩
        obtain ⟨d, tt, hd, rfl, htt⟩ := rows_at (hR3.same sG) y
        replace htt : G' tt = some (.tup [.int d.1, .int d.2.1, .int d.2.2]) := htt
        obtain ⟨j, kk, ej, hj, ek, hk⟩ := okd d (List.mem_of_getElem? hd)
        walk_at "rd"
        refine rd_gtL hgG (by omega) (by rw [ej]; exact atI_nat (by rw [List.getElem?_map, brest_at hj]; rfl)) ?_
        walk_at "rd"
        refine rd_setL (j := j) hgG (by rw [ej]; simp [ixN, brest_len, hj]) ?_
        rw [map_setV, brest_set hj ej, ← take_snoc hd]
        refine ⟨_, _, _, rfl, fun b o hb => ?_, upd_same⟩
        have h1 := sG b o hb
        have n1 : b ≠ D := ne_of_none hb hD
        walk_at "hp"
      · rintro σ G ⟨v2, v4, v5, rfl, sG, hgG⟩
        rw [lt, List.take_length] at hgG
        walk_at "rd"
        exact k G D sG hD hgG

abbrev s_out_rests : Stmt := top 18
theorem sc_out_rests : FnScope ["outs", "dealing", "out", "rest", "back", "many"] ["outs", "dealing"] (defScope s_out_rests) := ⟨rfl, rfl, rfl, by decide +kernel, rfl, by decide +kernel, by decide +kernel⟩
def spORestsB : Sp := fun vs H Q _ => ∃ (l m t : Addr) (us ws ts : List V) (os : List (Int × Int × Int)) (bs : List (Int × Int)) (ds : List Ent), vs = [.ref l, .ref t] ∧ OutsAt H l us os ∧ BacksAt H m ws bs ∧ os.length ≤ 1000 ∧ bs.length ≤ 1000 ∧ H t = some (.tup ts) ∧ Rows H ts (ds.map t3) ∧
  (∀ d ∈ ds, InR os bs d) ∧ ∀ H' p, Same H H' → H p = none → H' p = some (.lst ((freeOf os ds).map V.int)) → Q (.ref p) H'
theorem ok_oRestsB {f : Addr} {fd : FuncData} (F : Fun K "out_rests" "out_rests" s_out_rests f fd) (T : Free mg) : FnOk P w K mg base CX0 1 f fd ["outs", "dealing"] spORestsB := by
  refine F.ok sc_out_rests (fun vs H Q E h => ?_) (fun cdv A outer s H vs Q E hr h => ?_)
  · obtain ⟨l, m, t, us, ws, ts, os, bs, ds, rfl, _⟩ := h
    rfl
  · obtain ⟨l, m, t, us, ws, ts, os, bs, ds, rfl, ⟨hs, hR⟩, ⟨hs2, hR2⟩, bo, bb, ht, hR3, okd, k⟩ := h
    have lu : us.length = os.length := by rw [hR.length, List.length_map]
    have lw : ws.length = bs.length := by rw [hR2.length, List.length_map]
    have lt : ts.length = ds.length := by rw [hR3.length, List.length_map]
    refine ⟨_, (pss_cons (ps_setLc (i := 3) (own := [("out", 2)]) (tt := tYes) rfl sc_out_rests.nd rfl rfl (sw_true rfl rfl rfl (by decide +kernel)) (pi_seqK (K := K) rfl (pv 0)) (blkOk_by (N := ["outs", "dealing", "out", "rest", "back", "many"]) (sc := defScope s_out_rests) (by decide +kernel)) (fun _ _ _ _ _ => (pg_name (i := 2) sc_out_rests.nd rfl (by first | exact Or.inl rfl | exact Or.inr rfl))) (fun _ _ _ _ _ => pts_nil) (fun _ _ _ _ _ => (pe_ix (ix_tupK (K := K) rfl) (pv 2) pe_int (fun _ _ => rfl)))) 
      (pss_cons (ps_for PassesOwn.never rfl (pi_tupK (K := K) rfl (pv 1)) (pg_tupK (K := K) (n := 3) rfl (by rfl) (pgs_cons (pg_name (i := 4) sc_out_rests.nd rfl (by first | exact Or.inl rfl | exact Or.inr rfl)) (pgs_cons (pg_name (i := 2) sc_out_rests.nd rfl (by first | exact Or.inl rfl | exact Or.inr rfl)) (pgs_cons (pg_name (i := 5) sc_out_rests.nd rfl (by first | exact Or.inl rfl | exact Or.inr rfl)) pgs_nil)))) 
        (pss_one (ps_augS (pv 3) (pv 2) (get_listK (K := K) rfl) (pv 5) ip_sub set_list))) 
      (pss_one (ps_ret (pv 3))))), ?_⟩
    walk_at "rd"
    refine ⟨l, us, rfl, hs, fun J GG hGG W => ?_⟩
    intro D hD
    refine lcA (p := D) W (fun i acc _ => acc = ((os.take i).map fun o => o.2.1).map V.int) hD (by omega) rfl (fun H' e => hGG H' (fun o h => e _ _ (ne_of_none h hD) h)) ?_ ?_
    · rintro i x H1 H1' acc M hi e q la a ⟨rfl, y⟩ k1 k2
      obtain ⟨o, to, ho, rfl, hto⟩ := rows_at (hR.mono (e.tsn hD)) y
      replace hto : H1' to = some (.tup [.int o.1, .int o.2.1, .int o.2.2]) := hto
      walk_at "rd"
      refine ⟨rfl, ?_⟩
      walk_at "rd"
      refine k1 _ _ e q ?_
      rw [take_snoc ho, List.map_append, List.map_append, a]
      rfl
    · intro H1 acc e q la a
      rw [List.take_of_length_le (by omega)] at a
      have ea : acc = (freeOf os []).map V.int := by rw [a, free_nil]
      subst ea
      walk_at "rd"
      have s1 : Same H H1 := fun b o hb => e b o (ne_of_none hb hD) hb
      refine loopW (walk_tup (xs := ts)) (fun i σ G => ∃ (v2 v4 v5 : Option V), σ = [some (.ref l), some (.ref t), v2, some (.ref D), v4, v5] ∧ Same H G ∧ G D = some (.lst ((freeOf os (ds.take i)).map V.int))) ⟨none, none, none, rfl, s1, q⟩
        (fun i σ G _ ⟨_, _, _, _, sG, _⟩ => SqT.of (sG _ _ ht)) ?_ ?_
      · rintro i x σ G G' hi ⟨v2, v4, v5, rfl, sG, hgG⟩ ⟨rfl, y⟩
        obtain ⟨d, tt, hd, rfl, htt⟩ := rows_at (hR3.same sG) y
        replace htt : G' tt = some (.tup [.int d.1, .int d.2.1, .int d.2.2]) := htt
        obtain ⟨j, kk, ej, hj, ek, hk⟩ := okd d (List.mem_of_getElem? hd)
        walk_at "rd"
        refine rd_gtL hgG (by omega) (by rw [ek]; exact atI_nat (by rw [List.getElem?_map, free_at hk]; rfl)) ?_
        walk_at "rd"
        refine rd_setL (j := kk) hgG (by rw [ek]; simp [ixN, free_len, hk]) ?_
        rw [map_setV, free_set' hk ek, ← take_snoc hd]
        refine ⟨_, _, _, rfl, fun b o hb => ?_, upd_same⟩
        have h1 := sG b o hb
        have n1 : b ≠ D := ne_of_none hb hD
        walk_at "hp"
      · rintro σ G ⟨v2, v4, v5, rfl, sG, hgG⟩
        rw [lt, List.take_length] at hgG
        walk_at "rd"
        exact k G D sG hD hgG
end
end Sk
end

section
namespace Sk
open PySem L2
local macro_rules | `(tactic| walk_at "kb") => `(tactic| first | exact kb_int_int | exact kb_int_bool | exact kb_int_str | exact kb_int_tuple | exact kb_int_list | exact kb_tuple_int | exact kb_tuple_bool | exact kb_tuple_str | exact kb_tuple_tuple | exact kb_tuple_list | exact kb_list_int | exact kb_list_bool | exact kb_list_str | exact kb_list_tuple | exact kb_list_list | exact kb_bool_int | exact kb_bool_bool | exact kb_bool_str | exact kb_bool_tuple | exact kb_bool_list | exact kb_str_int | exact kb_str_bool | exact kb_str_str | exact kb_str_tuple | exact kb_str_list | exact kb_dict_int | exact kb_dict_bool | exact kb_dict_str | exact kb_dict_tuple | exact kb_dict_list | exact kb_NoneType_int | exact kb_NoneType_bool | exact kb_NoneType_str | exact kb_NoneType_tuple | exact kb_NoneType_list)
local macro_rules | `(tactic| walk_at "hp") => `(tactic| first
  | assumption
  | exact upd_same
  | (refine' upd_get ?n ?e; (case n => walk_at "ne"); (case e => walk_at "hp"))
  | (refine' But.get (by assumption) ?n ?e; (case n => walk_at "ne"); (case e => walk_at "hp"))
  | (refine' Ext.get (by assumption) ?n ?e; (case n => walk_at "ne"); (case e => walk_at "hp"))
  | (refine' same_get (by assumption) ?e; (case e => walk_at "hp")))
local macro_rules | `(tactic| walk_at "ne") => `(tactic| first
  | assumption
  | (apply Ne.symm; assumption)
  | (refine' ne_of_none ?h (by assumption); (case h => walk_at "hp"))
  | (apply Ne.symm; refine' ne_of_none ?h (by assumption); (case h => walk_at "hp")))
local macro_rules | `(tactic| walk_at "sd") => `(tactic| first
  | (show (0 : Int) < _; omega)
  | (simp only [CMul, CDiv]; omega)
  | exact ⟨by omega, by omega⟩)
local macro_rules | `(tactic| walk_at "rd1") => `(tactic| first
  | with_reducible refine' rd_c ?_
  | ((with_reducible refine' rd_var ?h ?_); (case h => exact rfl))
  | with_reducible refine' rd_op ?_
  | with_reducible refine' rd_seq ?_
  | with_reducible refine' rd_asg ?_
  | with_reducible refine' rd_gName ?_
  | with_reducible refine' rd_I0 ?_
  | ((with_reducible refine' rd_I ?c ?_); (case c => walk_at "sd"))
  | with_reducible refine' rd_eqI ?_
  | with_reducible refine' rd_neI ?_
  | with_reducible refine' rd_U ?_
  | with_reducible refine' rd_un ?_
  | with_reducible refine' rd_ret ?_
  | with_reducible refine' rd_drop ?_
  | with_reducible refine' rd_next ?_
  | with_reducible refine' rd_ifS ?_
  | with_reducible refine' rd_test ?_
  | with_reducible refine' rd_bl ?_
  | with_reducible refine' rd_nil ?_
  | with_reducible refine' rd_cons ?_
  | with_reducible refine' rd_tup ?_
  | with_reducible refine' rd_lst ?_
  | with_reducible refine' rd_call ?_
  | with_reducible refine' rd_cb ?_
  | with_reducible refine' rd_par ?_
  | with_reducible refine' rd_par2 ?_
  | with_reducible refine' rd_and ?_
  | with_reducible refine' rd_or ?_
  | with_reducible refine' rd_not ?_
  | with_reducible refine' rd_andV ?_
  | with_reducible refine' rd_orV ?_
  | with_reducible refine' rd_notV ?_
  | with_reducible refine' rd_if ?_
  | with_reducible refine' rd_gSub ?_
  | ((with_reducible refine' rd_ixL ?h ?e ?_); (case h => walk_at "hp"); (case e => exact rfl))
  | ((with_reducible refine' rd_ixT ?h ?e ?_); (case h => walk_at "hp"); (case e => exact rfl))
  | ((with_reducible refine' rd_setL ?h ?e ?_); (case h => walk_at "hp"); (case e => exact rfl))
  | ((with_reducible refine' rd_append ?h ?e ?_); (case h => walk_at "hp"); (case e => assumption))
  | (with_reducible refine' rd_bmL ?_)
  | ((with_reducible refine' And.intro (tyL ?h) ?_); (case h => walk_at "hp"))
  | ((with_reducible refine' And.intro (len_ok ?h) ?_); (case h => exact rfl))
  | with_reducible refine' rd_ex1 ?_
  | with_reducible refine' rd_ex2 ?_
  | with_reducible refine' rd_int1b ?_
  | ((with_reducible refine' rd_isiI ?e ?_); (case e => walk_at "kb"))
  | ((with_reducible refine' rd_isiB ?e ?_); (case e => walk_at "kb"))
  | ((with_reducible refine' rd_isiT ?h ?e ?_); (case h => walk_at "hp"); (case e => walk_at "kb"))
  | ((with_reducible refine' rd_isiL ?h ?e ?_); (case h => walk_at "hp"); (case e => walk_at "kb"))
  | ((with_reducible refine' rd_lenL ?h ?_); (case h => walk_at "hp"))
  | ((with_reducible refine' rd_lenT ?h ?_); (case h => walk_at "hp"))
  | ((with_reducible refine' rd_gTup ?h ?e ?_); (case h => walk_at "hp"); (case e => exact rfl))
  | with_reducible refine' rd_gCons ?_
  | with_reducible refine' rd_gNil ?_
  | with_reducible refine' rd_yes ?_
  | with_reducible refine' rd_for ?_
  | with_reducible refine' rd_lc ?_
  | with_reducible refine' rd_rng1 ?_
  | with_reducible refine' rd_iL ?_
  | with_reducible refine' rd_iT ?_
  | with_reducible refine' rd_iE ?_
  | with_reducible refine' rd_iZ ?_
  | ((with_reducible refine' rd_iL' ?h ?_); (case h => walk_at "hp"))
  | ((with_reducible refine' rd_iT' ?h ?_); (case h => walk_at "hp"))
  | ((with_reducible refine' rd_iE' ?h ?_); (case h => walk_at "hp"))
  | ((with_reducible refine' rd_iZ' ?h1 ?h2 ?_); (case h1 => walk_at "hp"); (case h2 => walk_at "hp"))
  | with_reducible refine' iteT ?_
  | with_reducible refine' iteF ?_)
local macro_rules | `(tactic| walk_at "rd") => `(tactic| repeat walk_at "rd1")
local macro_rules | `(tactic| walk_at "rd1") => `(tactic| first | with_reducible refine' rd_tB ?_ | with_reducible refine' iteNT ?_ | with_reducible refine' iteNF ?_ | with_reducible refine' rd_iEA (tam_cons tem_var tam_nil) ?_ | with_reducible refine' rd_iSA tem_var ?_ | with_reducible refine' rd_iZA (tam_cons tem_var (tam_cons tem_var tam_nil)) ?_ | with_reducible refine' rd_augS ?_ | with_reducible refine' rd_ip ?_ | with_reducible refine' rd_slTx ?_ | with_reducible refine' rd_slAx ?_ | with_reducible refine' rd_noP ?_ | with_reducible refine' rd_aP ?_)
structure BRow (bs : List (Int × Int)) : Prop where
  rise : bs.Pairwise fun a b => a.1 ≤ b.1
  bnd : ∀ b ∈ bs, (0 ≤ b.1 ∧ b.1 ≤ 9999) ∧ (1 ≤ b.2 ∧ b.2 ≤ 99999)
theorem BacksOk.row {os bs} (h : BacksOk os bs) : BRow bs := ⟨h.rise, h.bnd⟩
section
variable {P : Program} {w : World} {K : PySem.W.Frag} {mg : Str → Option Value} {base : Heap}
def spCBacksR : Sp := fun vs H Q _ => ∃ (l : Addr) (us : List V) (bs : List (Int × Int)), vs = [.ref l] ∧ BacksAt H l us bs ∧ BRow bs ∧ ∀ H', Same H H' → Q .non H'
theorem ok_cBacksR {f fR fO : Addr} {fd fdR fdO : FuncData} (F : Fun K "check_backs" "check_backs" s_check_backs f fd) (T : Free mg) (dIsRow : Def P w K mg base "is_row" 1 fR fdR ["thing"] spIsRow)
    (dBack : Def P w K mg base "is_back" 3 fO fdO ["thing"] spBack) : FnOk P w K mg base CX0 4 f fd ["backs"] spCBacksR := by
  refine F.ok sc_check_backs (fun vs H Q E h => ?_) (fun cdv A outer s H vs Q E hr h => ?_)
  · obtain ⟨l, us, bs, rfl, _⟩ := h
    rfl
  · obtain ⟨l, us, bs, rfl, ⟨hs, hR⟩, ok, k⟩ := h
    refine ⟨_, (pss_cons (ps_if (pt_not (pt_val (pe_call dIsRow.ok (hr.mono (by decide)) (by rfl) dIsRow.mg dIsRow.kp dIsRow.bd .nil pass0 (pa_cons (pv 0) pa_nil)))) 
        (pss_one ps_never) pss_nil) 
      (pss_one (ps_for PassesOwn.never rfl (pi_enumK (K := K) rfl (by rfl) T.enumerate (pa_cons (pv 0) pa_nil)) (pg_tupK (K := K) (n := 2) rfl (by rfl) (pgs_cons (pg_name (i := 1) sc_check_backs.nd rfl (by first | exact Or.inl rfl | exact Or.inr rfl)) (pgs_cons (pg_name (i := 2) sc_check_backs.nd rfl (by first | exact Or.inl rfl | exact Or.inr rfl)) pgs_nil))) 
        (pss_one (ps_if (PW.pt (pw_or (pt_not (pt_val (pe_call dBack.ok (hr.mono (by decide)) (by rfl) dBack.mg dBack.kp dBack.bd .nil pass0 (pa_cons (pv 2) pa_nil)))) (pw_or1 (PW.pt (pw_and (pt_cmpR op_gt (pv 1) pe_int (nomark _)) (pw_and1 (pt_cmpR op_gt (pe_ix (ix_tupK (K := K) rfl) (pe_ix (ix_seqK (K := K) rfl) (pv 0) (pe_op op_sub (pv 1) pe_int) (fun _ _ => rfl)) pe_int (fun _ _ => rfl)) (pe_ix (ix_tupK (K := K) rfl) (pv 2) pe_int (fun _ _ => rfl)) (nomark _)))))))) 
          (pss_one ps_never) pss_nil))))), ?_⟩
    walk_at "rd"
    refine ⟨l, us, rfl, hs, fun H1 s1 => ⟨true, rfl, ?_⟩⟩
    walk_at "rd"
    refine ⟨l, us, rfl, hs.mono s1, fun J G hG W => ?_⟩
    refine loopW W (fun i σ G => ∃ (v1 v2 : Option V), σ = [some (.ref l), v1, v2] ∧ Same H1 G) ⟨none, none, rfl, Same.refl _⟩ (fun i σ G _ ⟨_, _, _, sG⟩ => hG _ (kept_same sG)) ?_ ?_
    · rintro i x σ G G' hi ⟨v1, v2, rfl, sG⟩ ⟨T', x', y, rfl, hT, rfl, e1, e2⟩
      cases e1
      have hRG := (hR.same s1).same sG
      obtain ⟨o, t, ho, rfl, ht⟩ := rows_at hRG e2
      replace ht : G t = some (.tup [.int o.1, .int o.2]) := ht
      have hb := ok.bnd o (List.mem_of_getElem? ho)
      walk_at "rd"
      refine ⟨t, _, _, rfl, by walk_at "hp", hb.1.1, hb.1.2, hb.2.1, hb.2.2, true, rfl, ?_⟩
      walk_at "rd"
      refine ite_dec (fun h => ?_) (fun h => ?_)
      · walk_at "rd"
        obtain ⟨i', rfl⟩ : ∃ i' : Nat, i = i' + 1 := ⟨i - 1, by omega⟩
        obtain ⟨v, hv⟩ : ∃ v, us[i']? = some v := ⟨us[i']'(by omega), List.getElem?_eq_getElem _⟩
        obtain ⟨o', t', ho', rfl, ht'⟩ := rows_at hRG hv
        replace ht' : G t' = some (.tup [.int o'.1, .int o'.2]) := ht'
        refine rd_ixA ((hs.mono s1).mono (same_new sG hT)) (by rw [show (((i' + 1 : Nat) : Int) - 1) = (i' : Int) by omega]; exact atI_nat hv) ?_
        walk_at "rd"
        have := pair_next ok.rise ho' ho
        refine ite_dec (fun h => by omega) (fun h => ?_)
        walk_at "rd"
        exact ⟨_, _, rfl, same_new sG hT⟩
      · walk_at "rd"
        exact ⟨_, _, rfl, same_new sG hT⟩
    · rintro σ G ⟨_, _, _, sG⟩
      exact k G (s1.trans sG)

/-- a dealing, by what it looks like -/
def dealB (os : List (Int × Int × Int)) (bs : List (Int × Int)) : Sh → Bool
  | .tup ss => ss.all (partB os bs) && ((riseB (ss.map entOf)).all id && ((brest bs (ss.map entOf)).all (fun n => decide (n = 0)) && (freeOf os (ss.map entOf)).all fun n => decide (0 ≤ n)))
  | _ => false
def Sh.few : Sh → Prop
  | .tup ss => ss.length ≤ 900
  | _ => True
def spIsDB : Sp := fun vs H Q _ => ∃ (l m : Addr) (x : V) (us ws : List V) (os : List (Int × Int × Int)) (bs : List (Int × Int)) (s : Sh), vs = [.ref l, .ref m, x] ∧ OutsAt H l us os ∧ OutsOk os ∧ BacksAt H m ws bs ∧ BRow bs ∧ bs.length ≤ 1000 ∧ ShR H x s ∧ s.few ∧
  ∀ H', Same H H' → Q (.bl (dealB os bs s)) H'
local macro_rules | `(tactic| walk_at "rd1") => `(tactic| first | ((with_reducible refine' rd_isiN ?e ?_); (case e => walk_at "kb")) | ((with_reducible refine' rd_isiX ?e ?_); (case e => walk_at "kb")) | ((with_reducible refine' rd_isiD ?h ?e ?_); (case h => walk_at "hp"); (case e => walk_at "kb")))

abbrev s_is_dealing : Stmt := top 19
theorem sc_is_dealing : FnScope ["outs", "backs", "thing", "many", "part"] ["outs", "backs", "thing"] (defScope s_is_dealing) := ⟨rfl, rfl, rfl, by decide +kernel, rfl, by decide +kernel, by decide +kernel⟩
theorem ok_isDB {f fA fB fC fD fE fG : Addr} {fd fdA fdB fdC fdD fdE fdG : FuncData} (F : Fun K "is_dealing" "is_dealing" s_is_dealing f fd) (T : Free mg)
    (dCOuts : Def P w K mg base "check_outs" 4 fA fdA ["outs"] spCOuts) (dCBacks : Def P w K mg base "check_backs" 4 fB fdB ["backs"] spCBacksR) (dPart : Def P w K mg base "is_part" 2 fC fdC ["outs", "backs", "thing"] spPartA)
    (dRises : Def P w K mg base "rises" 1 fD fdD ["dealing"] spRisesB) (dBRests : Def P w K mg base "back_rests" 1 fE fdE ["backs", "dealing"] spBRestsB) (dORests : Def P w K mg base "out_rests" 1 fG fdG ["outs", "dealing"] spORestsB) :
    FnOk P w K mg base CX0 5 f fd ["outs", "backs", "thing"] spIsDB := by
  refine F.ok sc_is_dealing (fun vs H Q E h => ?_) (fun cdv A outer s H vs Q E hr h => ?_)
  · obtain ⟨l, m, x, us, ws, os, bs, sh, rfl, _⟩ := h
    rfl
  · obtain ⟨l, m, x, us, ws, os, bs, sh, rfl, ⟨hs, hR⟩, oko, ⟨hs2, hR2⟩, okb, bb, hx, few, k⟩ := h
    have lu : us.length = os.length := by rw [hR.length, List.length_map]
    have lw : ws.length = bs.length := by rw [hR2.length, List.length_map]
    have bo := oko.len
    refine ⟨_, (pss_cons (ps_expr (pe_call dCOuts.ok (hr.mono (by decide)) (by rfl) dCOuts.mg dCOuts.kp dCOuts.bd .nil pass0 (pa_cons (pv 0) pa_nil))) 
      (pss_cons (ps_expr (pe_call dCBacks.ok (hr.mono (by decide)) (by rfl) dCBacks.mg dCBacks.kp dCBacks.bd .nil pass0 (pa_cons (pv 1) pa_nil))) 
      (pss_cons (ps_if (PW.pt (pw_or (pt_not (pt_val (pe_callB (call_isi1 (K := K) rfl) (by rfl) T.isinstance (by decide +kernel) (pa_cons (pv 2) (pa_cons (pe_bltn (v := .ty "tuple") (by rfl) T.tuple (by decide +kernel) rfl) pa_nil))))) (pw_or (pt_not (pt_val (pe_callB (cr_allK (K := K) rfl rfl) (by rfl) T.all (by decide +kernel) (pa_cons (pe_lc (own := [("part", 4)]) (tt := tYes) rfl sc_is_dealing.nd (pi_tupK (K := K) rfl (pv 2)) (blkOk_by (N := ["outs", "backs", "thing", "many", "part"]) (sc := defScope s_is_dealing) (by decide +kernel)) (fun _ _ _ _ _ => (pg_name (i := 4) sc_is_dealing.nd rfl (by first | exact Or.inl rfl | exact Or.inr rfl))) (fun _ _ _ _ _ => pts_nil) (fun _ _ _ _ _ => (pe_call dPart.ok (hr.mono (by decide)) (by rfl) dPart.mg dPart.kp dPart.bd .nil pass0 (pa_cons (pv 0) (pa_cons (pv 1) (pa_cons (pv 4) pa_nil)))))) pa_nil)))) (pw_or1 (pt_not (pt_val (pe_call dRises.ok (hr.mono (by decide)) (by rfl) dRises.mg dRises.kp dRises.bd .nil pass0 (pa_cons (pv 2) pa_nil)))))))) 
        (pss_one (ps_ret pe_bl)) pss_nil) 
      (pss_one (ps_ret (pe_and (pe_callB (cr_allK (K := K) rfl rfl) (by rfl) T.all (by decide +kernel) (pa_cons (pe_lc (own := [("many", 3)]) (tt := tYes) rfl sc_is_dealing.nd (pi_listK (K := K) rfl (pe_call dBRests.ok (hr.mono (by decide)) (by rfl) dBRests.mg dBRests.kp dBRests.bd .nil pass0 (pa_cons (pv 1) (pa_cons (pv 2) pa_nil)))) (blkOk_by (N := ["outs", "backs", "thing", "many", "part"]) (sc := defScope s_is_dealing) (by decide +kernel)) (fun _ _ _ _ _ => (pg_name (i := 3) sc_is_dealing.nd rfl (by first | exact Or.inl rfl | exact Or.inr rfl))) (fun _ _ _ _ _ => pts_nil) (fun _ _ _ _ _ => (pe_cmpR op_eq (pv 3) pe_int (nomark _)))) pa_nil)) (pe_one (pe_callB (cr_allK (K := K) rfl rfl) (by rfl) T.all (by decide +kernel) (pa_cons (pe_lc (own := [("many", 3)]) (tt := tYes) rfl sc_is_dealing.nd (pi_listK (K := K) rfl (pe_call dORests.ok (hr.mono (by decide)) (by rfl) dORests.mg dORests.kp dORests.bd .nil pass0 (pa_cons (pv 0) (pa_cons (pv 2) pa_nil)))) (blkOk_by (N := ["outs", "backs", "thing", "many", "part"]) (sc := defScope s_is_dealing) (by decide +kernel)) (fun _ _ _ _ _ => (pg_name (i := 3) sc_is_dealing.nd rfl (by first | exact Or.inl rfl | exact Or.inr rfl))) (fun _ _ _ _ _ => pts_nil) (fun _ _ _ _ _ => (pe_cmpR op_ge (pv 3) pe_int (nomark _)))) pa_nil))))))))), ?_⟩
    walk_at "rd"
    refine ⟨l, us, os, rfl, ⟨hs, hR⟩, oko, fun H1 s1 => ?_⟩
    walk_at "rd"
    refine ⟨m, ws, bs, rfl, ⟨hs2.mono s1, hR2.same s1⟩, okb, fun H2 s2' => ?_⟩
    have s2 := s1.trans s2'
    replace hx := hx.kin (Kin.same s2)
    cases hx with
    | non => walk_at "rd"; exact k _ s2
    | bl b => walk_at "rd"; exact k _ s2
    | str x => walk_at "rd"; exact k _ s2
    | int n => walk_at "rd"; exact k _ s2
    | lst h => walk_at "rd"; exact k _ s2
    | dk h => walk_at "rd"; exact k _ s2
    | @tup t ts ss ht2 hA =>
    have lt := hA.length
    replace few : ss.length ≤ 900 := few
    walk_at "rd"
    intro D hD
    refine lcA (p := D) (walk_tup (xs := ts)) (fun i acc _ => acc = ((ss.take i).map (partB os bs)).map V.bl) hD (by omega) rfl (fun H' e => SqT.of (e.get (ne_of_none ht2 hD) ht2)) ?_ ?_
    · rintro i x G G' acc M hi e q la a ⟨rfl, y⟩ k1 k2
      have sG : Same H G' := fun b o hb => e b o (ne_of_none (s2 _ _ hb) hD) (s2 _ _ hb)
      have sG2 : Same H2 G' := fun b o hb => e b o (ne_of_none hb hD) hb
      obtain ⟨s1, e1, r1⟩ := hA.at y
      walk_at "rd"
      refine ⟨rfl, ?_⟩
      walk_at "rd"
      refine ⟨l, m, x, us, ws, os, bs, s1, rfl, ⟨hs.mono sG, hR.same sG⟩, ⟨hs2.mono sG, hR2.same sG⟩, r1.kin (Kin.same sG2), ?_⟩
      refine k1 _ _ e q ?_
      rw [take_snoc e1, List.map_append, List.map_append, a]
      rfl
    · intro G acc e q la a
      have s3 : Same H G := fun b o hb => e b o (ne_of_none (s2 _ _ hb) hD) (s2 _ _ hb)
      have s32 : Same H2 G := fun b o hb => e b o (ne_of_none hb hD) hb
      rw [List.take_of_length_le (by omega)] at a
      subst a
      walk_at "rd"
      refine rd_all q ?_
      have kk : dealB os bs (.tup ss) = (((ss.map (partB os bs)).all id) && ((riseB (ss.map entOf)).all id && ((brest bs (ss.map entOf)).all (fun n => decide (n = 0)) && (freeOf os (ss.map entOf)).all fun n => decide (0 ≤ n)))) := by
        rw [dealB, List.all_map]
        rfl
      rw [kk] at k
      generalize ee : ss.map entOf = es at *
      have lee : es.length = ss.length := by rw [← ee, List.length_map]
      cases b0 : (ss.map (partB os bs)).all id with
      | false =>
        rw [b0] at k
        walk_at "rd"
        exact k _ s3
      | true =>
        rw [b0] at k
        have hall : ∀ s ∈ ss, partB os bs s = true := by
          intro s hs'
          rw [List.all_map, List.all_eq_true] at b0
          exact b0 s hs'
        have hR3 := rows_of hA hall
        rw [ee] at hR3
        have inr : ∀ d ∈ es, InR os bs d := by
          intro d hd
          rw [← ee] at hd
          obtain ⟨s, hs', rfl⟩ := List.mem_map.mp hd
          obtain ⟨_, j, kk, h1, h2, h3, h4, _⟩ := part_of (hall s hs')
          exact ⟨j, kk, h1, h2, h3, h4⟩
        walk_at "rd"
        refine ⟨t, ts, es, rfl, s32 _ _ ht2, hR3.same s32, by omega, fun H4 s4' => ⟨(riseB es).all id, rfl, ?_⟩⟩
        have s4 := s3.trans s4'
        have s42 := s32.trans s4'
        cases b1 : (riseB es).all id with
        | false =>
          rw [b1] at k
          walk_at "rd"
          exact k _ s4
        | true =>
        rw [b1] at k
        walk_at "rd"
        refine ⟨l, m, t, us, ws, ts, os, bs, es, rfl, ⟨hs.mono s4, hR.same s4⟩, ⟨hs2.mono s4, hR2.same s4⟩, by omega, by omega, s42 _ _ ht2, hR3.same s42, inr, fun H5 p s5' hp hp5 => ?_⟩
        have s5 := s4.trans s5'
        have s52 := s42.trans s5'
        walk_at "rd"
        intro D2 hD2
        have len2 : ((brest bs es).map V.int).length = bs.length := by rw [List.length_map, brest_len]
        refine lcA (p := D2) (walk_list (xs := (brest bs es).map V.int)) (fun i acc _ => acc = (((brest bs es).take i).map fun n => decide (n = 0)).map V.bl) hD2 (by omega) rfl (fun H' e => SqL.of (e.get (ne_of_none hp5 hD2) hp5)) ?_ ?_
        · rintro i x G1 G1' acc M hi e' q2 l2 a2 ⟨rfl, y⟩ k1 k2
          obtain ⟨n, hn, rfl⟩ : ∃ n, (brest bs es)[i]? = some n ∧ x = V.int n := by
            rw [List.getElem?_map] at y
            cases hh : (brest bs es)[i]? with
            | none => rw [hh] at y; cases y
            | some n => rw [hh] at y; cases y; exact ⟨n, rfl, rfl⟩
          walk_at "rd"
          refine ⟨rfl, ?_⟩
          walk_at "rd"
          refine k1 _ _ e' q2 ?_
          rw [take_snoc hn, List.map_append, List.map_append, a2]
          rfl
        · intro G1 acc e' q2 l2 a2
          have s6 : Same H G1 := fun b o hb => e' b o (ne_of_none (s5 _ _ hb) hD2) (s5 _ _ hb)
          have s62 : Same H2 G1 := fun b o hb => e' b o (ne_of_none (s52 _ _ hb) hD2) (s52 _ _ hb)
          rw [List.take_of_length_le (by rw [List.length_map]; exact Nat.le_refl _)] at a2
          subst a2
          walk_at "rd"
          refine rd_all q2 ?_
          have e2 : ((brest bs es).map fun n => decide (n = 0)).all id = (brest bs es).all fun n => decide (n = 0) := by rw [List.all_map]; rfl
          rw [e2]
          cases b2 : (brest bs es).all fun n => decide (n = 0) with
          | false =>
            rw [b2] at k
            walk_at "rd"
            exact k _ s6
          | true =>
          rw [b2] at k
          walk_at "rd"
          refine ⟨l, m, t, us, ws, ts, os, bs, es, rfl, ⟨hs.mono s6, hR.same s6⟩, ⟨hs2.mono s6, hR2.same s6⟩, by omega, by omega, s62 _ _ ht2, hR3.same s62, inr, fun H7 p7 s7' hp7' hp7 => ?_⟩
          have s7 := s6.trans s7'
          walk_at "rd"
          intro D3 hD3
          have len3 : ((freeOf os es).map V.int).length = os.length := by rw [List.length_map, free_len]
          refine lcA (p := D3) (walk_list (xs := (freeOf os es).map V.int)) (fun i acc _ => acc = (((freeOf os es).take i).map fun n => decide (0 ≤ n)).map V.bl) hD3 (by omega) rfl (fun H' e => SqL.of (e.get (ne_of_none hp7 hD3) hp7)) ?_ ?_
          · rintro i x G2 G2' acc M hi e'' q3 l3 a3 ⟨rfl, y⟩ k1 k2
            obtain ⟨n, hn, rfl⟩ : ∃ n, (freeOf os es)[i]? = some n ∧ x = V.int n := by
              rw [List.getElem?_map] at y
              cases hh : (freeOf os es)[i]? with
              | none => rw [hh] at y; cases y
              | some n => rw [hh] at y; cases y; exact ⟨n, rfl, rfl⟩
            walk_at "rd"
            refine ⟨rfl, ?_⟩
            walk_at "rd"
            refine k1 _ _ e'' q3 ?_
            rw [take_snoc hn, List.map_append, List.map_append, a3]
            rfl
          · intro G2 acc e'' q3 l3 a3
            rw [List.take_of_length_le (by rw [List.length_map]; exact Nat.le_refl _)] at a3
            subst a3
            walk_at "rd"
            refine rd_all q3 ?_
            have e3 : ((freeOf os es).map fun n => decide (0 ≤ n)).all id = (freeOf os es).all fun n => decide (0 ≤ n) := by rw [List.all_map]; rfl
            rw [e3]
            exact k G2 fun b o hb => e'' b o (ne_of_none (s7 _ _ hb) hD3) (s7 _ _ hb)
end
end Sk
end

section
namespace Sk
open PySem L2
local macro_rules | `(tactic| walk_at "kb") => `(tactic| first | exact kb_int_int | exact kb_int_bool | exact kb_int_str | exact kb_int_tuple | exact kb_int_list | exact kb_tuple_int | exact kb_tuple_bool | exact kb_tuple_str | exact kb_tuple_tuple | exact kb_tuple_list | exact kb_list_int | exact kb_list_bool | exact kb_list_str | exact kb_list_tuple | exact kb_list_list | exact kb_bool_int | exact kb_bool_bool | exact kb_bool_str | exact kb_bool_tuple | exact kb_bool_list | exact kb_str_int | exact kb_str_bool | exact kb_str_str | exact kb_str_tuple | exact kb_str_list | exact kb_dict_int | exact kb_dict_bool | exact kb_dict_str | exact kb_dict_tuple | exact kb_dict_list | exact kb_NoneType_int | exact kb_NoneType_bool | exact kb_NoneType_str | exact kb_NoneType_tuple | exact kb_NoneType_list)
local macro_rules | `(tactic| walk_at "hp") => `(tactic| first
  | assumption
  | exact upd_same
  | (refine' upd_get ?n ?e; (case n => walk_at "ne"); (case e => walk_at "hp"))
  | (refine' But.get (by assumption) ?n ?e; (case n => walk_at "ne"); (case e => walk_at "hp"))
  | (refine' Ext.get (by assumption) ?n ?e; (case n => walk_at "ne"); (case e => walk_at "hp"))
  | (refine' same_get (by assumption) ?e; (case e => walk_at "hp")))
local macro_rules | `(tactic| walk_at "ne") => `(tactic| first
  | assumption
  | (apply Ne.symm; assumption)
  | (refine' ne_of_none ?h (by assumption); (case h => walk_at "hp"))
  | (apply Ne.symm; refine' ne_of_none ?h (by assumption); (case h => walk_at "hp")))
local macro_rules | `(tactic| walk_at "sd") => `(tactic| first
  | (show (0 : Int) < _; omega)
  | (simp only [CMul, CDiv]; omega)
  | exact ⟨by omega, by omega⟩)
local macro_rules | `(tactic| walk_at "rd1") => `(tactic| first
  | with_reducible refine' rd_c ?_
  | ((with_reducible refine' rd_var ?h ?_); (case h => exact rfl))
  | with_reducible refine' rd_op ?_
  | with_reducible refine' rd_seq ?_
  | with_reducible refine' rd_asg ?_
  | with_reducible refine' rd_gName ?_
  | with_reducible refine' rd_I0 ?_
  | ((with_reducible refine' rd_I ?c ?_); (case c => walk_at "sd"))
  | with_reducible refine' rd_eqI ?_
  | with_reducible refine' rd_neI ?_
  | with_reducible refine' rd_U ?_
  | with_reducible refine' rd_un ?_
  | with_reducible refine' rd_ret ?_
  | with_reducible refine' rd_drop ?_
  | with_reducible refine' rd_next ?_
  | with_reducible refine' rd_ifS ?_
  | with_reducible refine' rd_test ?_
  | with_reducible refine' rd_bl ?_
  | with_reducible refine' rd_nil ?_
  | with_reducible refine' rd_cons ?_
  | with_reducible refine' rd_tup ?_
  | with_reducible refine' rd_lst ?_
  | with_reducible refine' rd_call ?_
  | with_reducible refine' rd_cb ?_
  | with_reducible refine' rd_par ?_
  | with_reducible refine' rd_par2 ?_
  | with_reducible refine' rd_and ?_
  | with_reducible refine' rd_or ?_
  | with_reducible refine' rd_not ?_
  | with_reducible refine' rd_andV ?_
  | with_reducible refine' rd_orV ?_
  | with_reducible refine' rd_notV ?_
  | with_reducible refine' rd_if ?_
  | with_reducible refine' rd_gSub ?_
  | ((with_reducible refine' rd_ixL ?h ?e ?_); (case h => walk_at "hp"); (case e => exact rfl))
  | ((with_reducible refine' rd_ixT ?h ?e ?_); (case h => walk_at "hp"); (case e => exact rfl))
  | ((with_reducible refine' rd_setL ?h ?e ?_); (case h => walk_at "hp"); (case e => exact rfl))
  | ((with_reducible refine' rd_append ?h ?e ?_); (case h => walk_at "hp"); (case e => assumption))
  | (with_reducible refine' rd_bmL ?_)
  | ((with_reducible refine' And.intro (tyL ?h) ?_); (case h => walk_at "hp"))
  | ((with_reducible refine' And.intro (len_ok ?h) ?_); (case h => exact rfl))
  | with_reducible refine' rd_ex1 ?_
  | with_reducible refine' rd_ex2 ?_
  | with_reducible refine' rd_int1b ?_
  | ((with_reducible refine' rd_isiI ?e ?_); (case e => walk_at "kb"))
  | ((with_reducible refine' rd_isiB ?e ?_); (case e => walk_at "kb"))
  | ((with_reducible refine' rd_isiT ?h ?e ?_); (case h => walk_at "hp"); (case e => walk_at "kb"))
  | ((with_reducible refine' rd_isiL ?h ?e ?_); (case h => walk_at "hp"); (case e => walk_at "kb"))
  | ((with_reducible refine' rd_lenL ?h ?_); (case h => walk_at "hp"))
  | ((with_reducible refine' rd_lenT ?h ?_); (case h => walk_at "hp"))
  | ((with_reducible refine' rd_gTup ?h ?e ?_); (case h => walk_at "hp"); (case e => exact rfl))
  | with_reducible refine' rd_gCons ?_
  | with_reducible refine' rd_gNil ?_
  | with_reducible refine' rd_yes ?_
  | with_reducible refine' rd_for ?_
  | with_reducible refine' rd_lc ?_
  | with_reducible refine' rd_rng1 ?_
  | with_reducible refine' rd_iL ?_
  | with_reducible refine' rd_iT ?_
  | with_reducible refine' rd_iE ?_
  | with_reducible refine' rd_iZ ?_
  | ((with_reducible refine' rd_iL' ?h ?_); (case h => walk_at "hp"))
  | ((with_reducible refine' rd_iT' ?h ?_); (case h => walk_at "hp"))
  | ((with_reducible refine' rd_iE' ?h ?_); (case h => walk_at "hp"))
  | ((with_reducible refine' rd_iZ' ?h1 ?h2 ?_); (case h1 => walk_at "hp"); (case h2 => walk_at "hp"))
  | with_reducible refine' iteT ?_
  | with_reducible refine' iteF ?_)
local macro_rules | `(tactic| walk_at "rd") => `(tactic| repeat walk_at "rd1")
local macro_rules | `(tactic| walk_at "rd1") => `(tactic| first | with_reducible refine' rd_tB ?_ | with_reducible refine' iteNT ?_ | with_reducible refine' iteNF ?_ | with_reducible refine' rd_iEA (tam_cons tem_var tam_nil) ?_ | with_reducible refine' rd_iSA tem_var ?_ | with_reducible refine' rd_iZA (tam_cons tem_var (tam_cons tem_var tam_nil)) ?_ | with_reducible refine' rd_augS ?_ | with_reducible refine' rd_ip ?_ | with_reducible refine' rd_slTx ?_ | with_reducible refine' rd_slAx ?_ | with_reducible refine' rd_noP ?_ | with_reducible refine' rd_aP ?_)
local macro_rules | `(tactic| walk_at "rd1") => `(tactic| first | ((with_reducible refine' rd_isiN ?e ?_); (case e => walk_at "kb")) | ((with_reducible refine' rd_isiX ?e ?_); (case e => walk_at "kb")) | ((with_reducible refine' rd_isiD ?h ?e ?_); (case h => walk_at "hp"); (case e => walk_at "kb")))

/-- what the law asks of one row -/
def Cnd (os : List (Int × Int × Int)) (bs : List (Int × Int)) (e : Ent) : Prop := ∃ j kk : Nat, e.1 = j ∧ j < bs.length ∧ e.2.1 = kk ∧ kk < os.length ∧ 1 ≤ e.2.2 ∧ (oAt os kk).1 ≤ (bAt bs j).1
theorem tri_ent {s : Sh} (h : s.tri = true) : s = .tup [.int (entOf s).1, .int (entOf s).2.1, .int (entOf s).2.2] := by
  match s, h with
  | .tup [.int a, .int b, .int c], _ => rfl
  | .tup [], h => simp [Sh.tri] at h
  | .tup [_], h => simp [Sh.tri] at h
  | .tup [_, _], h => simp [Sh.tri] at h
  | .tup (_ :: _ :: _ :: _ :: _), h => simp [Sh.tri] at h
  | .tup [.oth, _, _], h => simp [Sh.tri, Sh.isI] at h
  | .tup [.tup _, _, _], h => simp [Sh.tri, Sh.isI] at h
  | .tup [_, .oth, _], h => simp [Sh.tri, Sh.isI] at h
  | .tup [_, .tup _, _], h => simp [Sh.tri, Sh.isI] at h
  | .tup [_, _, .oth], h => simp [Sh.tri, Sh.isI] at h
  | .tup [_, _, .tup _], h => simp [Sh.tri, Sh.isI] at h
theorem rows_tri {H : Hp} : ∀ {ts : List V} {ss : List Sh}, ShAll H ts ss → (∀ s ∈ ss, s.tri = true) → Rows H ts ((ss.map entOf).map t3)
  | _, _, .nil, _ => True.intro
  | _, _, .cons (v := v) (s := s) a b, h => by
    have e := tri_ent (h s (by simp))
    refine ⟨?_, rows_tri b fun s hs => h s (by simp [hs])⟩
    rw [e] at a
    cases a with
    | tup ha hb =>
      match hb with
      | .cons (.int _) (.cons (.int _) (.cons (.int _) .nil)) => exact ⟨_, rfl, ha⟩
theorem part_tri {os : List (Int × Int × Int)} {bs : List (Int × Int)} {s : Sh} (h : partB os bs s = true) : s.tri = true := by
  rw [(part_of h).1]
  rfl
theorem part_cnd {os : List (Int × Int × Int)} {bs : List (Int × Int)} {s : Sh} (h : partB os bs s = true) : Cnd os bs (entOf s) := by
  obtain ⟨_, j, kk, h1, h2, h3, h4, h5, h6, h7⟩ := part_of h
  exact ⟨j, kk, h1, h2, h3, h4, h5, h7⟩
theorem cnd_part {os : List (Int × Int × Int)} {bs : List (Int × Int)} {s : Sh} (ht : s.tri = true) (h : Cnd os bs (entOf s)) (hc : ∀ kk : Nat, (entOf s).2.1 = kk → (entOf s).2.2 ≤ (oAt os kk).2.1) : partB os bs s = true := by
  obtain ⟨j, kk, h1, h2, h3, h4, h5, h6⟩ := h
  have h7 := hc kk h3
  have e := tri_ent ht
  rw [e, h1, h3]
  have e1 : (Sh.int (j : Int)).num.toNat = j := rfl
  have e2 : (Sh.int (kk : Int)).num.toNat = kk := rfl
  show ((Sh.int j).inW 0 ((bs.length : Int) - 1) && ((Sh.int kk).inW 0 ((os.length : Int) - 1) && ((Sh.int (entOf s).2.2).inW 1 (oAt os (Sh.int (kk : Int)).num.toNat).2.1 && decide ((oAt os (Sh.int (kk : Int)).num.toNat).1 ≤ (bAt bs (Sh.int (j : Int)).num.toNat).1)))) = true
  rw [e1, e2]
  have i1 : (Sh.int (j : Int)).inW 0 ((bs.length : Int) - 1) = true := inB_yes (by omega) (by omega)
  have i2 : (Sh.int (kk : Int)).inW 0 ((os.length : Int) - 1) = true := inB_yes (by omega) (by omega)
  have i3 : (Sh.int (entOf s).2.2).inW 1 (oAt os kk).2.1 = true := inB_yes h5 h7
  rw [i1, i2, i3, decide_eq_true h6]
  rfl
/-- one row that isn't so: no dealing -/
theorem deal_no {os : List (Int × Int × Int)} {bs : List (Int × Int)} {ss : List Sh} {s : Sh} (hs : s ∈ ss) (h : ¬ partB os bs s = true) : dealB os bs (.tup ss) = false := by
  have : ss.all (partB os bs) = false := by
    rw [List.all_eq_false]
    exact ⟨s, hs, h⟩
  simp only [dealB, this, Bool.false_and]
theorem deal_fall {os : List (Int × Int × Int)} {bs : List (Int × Int)} {ss : List Sh} {i : Nat} {d d' : Ent} (h : (ss.map entOf)[i]? = some d) (h' : (ss.map entOf)[i + 1]? = some d') (hl : HT.lexLt [d.1, d.2.1] [d'.1, d'.2.1] = false) : dealB os bs (.tup ss) = false := by
  have : (riseB (ss.map entOf)).all id = false := by
    rw [List.all_eq_false]
    exact ⟨_, List.mem_of_getElem? (riseB_at h h'), by simp [hl]⟩
  simp only [dealB, this, Bool.false_and, Bool.and_false]
theorem deal_end {os : List (Int × Int × Int)} {bs : List (Int × Int)} {ss : List Sh} (ht : ∀ s ∈ ss, s.tri = true) (hc : ∀ s ∈ ss, Cnd os bs (entOf s)) (hr : ∀ i d d', (ss.map entOf)[i]? = some d → (ss.map entOf)[i + 1]? = some d' → HT.lexLt [d.1, d.2.1] [d'.1, d'.2.1] = true) :
    (((freeOf os (ss.map entOf)).all fun n => decide (0 ≤ n)) && (brest bs (ss.map entOf)).all (fun n => decide (n = 0))) = dealB os bs (.tup ss) := by
  have r : (riseB (ss.map entOf)).all id = true := by
    rw [List.all_eq_true]
    intro x hx
    obtain ⟨i, hi⟩ := List.getElem?_of_mem hx
    have hl : i < (riseB (ss.map entOf)).length := (List.getElem?_eq_some_iff.mp hi).1
    rw [riseB_len] at hl
    obtain ⟨d, hd⟩ : ∃ d, (ss.map entOf)[i]? = some d := ⟨(ss.map entOf)[i]'(by omega), List.getElem?_eq_getElem _⟩
    obtain ⟨d', hd'⟩ : ∃ d, (ss.map entOf)[i + 1]? = some d := ⟨(ss.map entOf)[i + 1]'(by omega), List.getElem?_eq_getElem _⟩
    rw [riseB_at hd hd', hr i d d' hd hd'] at hi
    cases hi
    rfl
  have q : ((freeOf os (ss.map entOf)).all fun n => decide (0 ≤ n)) = true → ss.all (partB os bs) = true := by
    intro hf
    rw [List.all_eq_true] at hf ⊢
    intro s hs
    refine cnd_part (ht s hs) (hc s hs) fun kk ek => ?_
    obtain ⟨j, k2, _, _, h3, h4, h5, _⟩ := hc s hs
    have : k2 = kk := by omega
    subst this
    have h1 := hf _ (List.mem_of_getElem? (free_at (fs := ss.map entOf) h4))
    have h2 := le_tk (ds := ss.map entOf) (d := entOf s) (fun e he => by
      obtain ⟨s', hs', rfl⟩ := List.mem_map.mp he
      obtain ⟨_, _, _, _, _, _, h, _⟩ := hc s' hs'
      omega) (List.mem_map_of_mem hs)
    rw [h3] at h2
    simp only [decide_eq_true_eq] at h1
    omega
  simp only [dealB, r, Bool.true_and]
  cases hf : (freeOf os (ss.map entOf)).all fun n => decide (0 ≤ n) with
  | false => simp
  | true => simp [q hf]

abbrev sLD : Stmt := top 29
theorem scLD : FnScope ["_law_sent", "_law_came", "_law_it", "_law_row", "_law_free", "_law_wanted", "_law_k", "_law_one"] ["_law_sent", "_law_came", "_law_it"] (defScope sLD) := ⟨rfl, rfl, rfl, by decide +kernel, rfl, by decide +kernel, by decide +kernel⟩
def spLD : Sp := fun vs H Q _ => ∃ (l m : Addr) (x : V) (us ws : List V) (os : List (Int × Int × Int)) (bs : List (Int × Int)) (s : Sh), vs = [.ref l, .ref m, x] ∧ H l = some (.lst us) ∧ Rows H us (os.map t3) ∧ H m = some (.lst ws) ∧ Rows H ws (bs.map t2) ∧ os.length ≤ 1000 ∧ bs.length ≤ 1000 ∧ ShR H x s ∧ s.few ∧
  ∀ H', Same H H' → Q (.bl (dealB os bs s)) H'
theorem rd_ge2 {K : PySem.W.Frag} {H : Hp} {Q : VK} {p q : Addr} {a b c d : Int} (hp : H p = some (.tup [.int a, .int b])) (hq : H q = some (.tup [.int c, .int d])) (k : Q (.bl (!HT.lexLt [a, b] [c, d])) H) : rGe2 K (.ref p) (.ref q) H Q :=
  ⟨p, q, a, b, c, d, rfl, rfl, SqT.of hp, SqT.of hq, k⟩
theorem rd_inBl {σ : St} {H : Hp} {Q : VK} {ta tb tc : TE} {n a b : Int} (h1 : ∀ R : VK, R (.int a) H → ta σ H R) (h2 : ∀ R : VK, R (.int n) H → tb σ H R) (h3 : ∀ R : VK, R (.int b) H → tc σ H R) (k : Q (.bl (decide (a ≤ n) && decide (n < b))) H) :
    tChain (rI0 fun i j => V.bl (decide (i ≤ j))) (rI0 fun i j => V.bl (decide (i < j))) ta tb tc σ H Q := by
  refine h1 _ (h2 _ (rd_I0 ⟨decide (a ≤ n), rfl, ?_⟩))
  by_cases c : a ≤ n
  · rw [decide_eq_true c] at k ⊢
    exact iteT (h3 _ (rd_I0 (by simpa using k)))
  · rw [decide_eq_false c] at k ⊢
    exact iteF (by simpa using k)
section
variable {P : Program} {w : World} {K : PySem.W.Frag} {mg : Str → Option Value} {base : Heap}
theorem ok_LD {f fN : Addr} {fd fdN : FuncData} (F : Fun K "_law_is_dealing" "_law_is_dealing" sLD f fd) (T : Free mg) (dNums : Def P w K mg base "_law_numbers" 2 fN fdN ["_law_it", "_law_many"] spNumsA) : FnOk P w K mg base CX0 3 f fd ["_law_sent", "_law_came", "_law_it"] spLD := by
  refine F.ok scLD (fun vs H Q E h => ?_) (fun cdv A outer s H vs Q E hr h => ?_)
  · obtain ⟨l, m, x, us, ws, os, bs, sh, rfl, _⟩ := h
    rfl
  · obtain ⟨l, m, x, us, ws, os, bs, sh, rfl, hL, hR, hM, hR2, bo, bb, hx, few, k⟩ := h
    have lu : us.length = os.length := by rw [hR.length, List.length_map]
    have lw : ws.length = bs.length := by rw [hR2.length, List.length_map]
    refine ⟨_, (pss_cons (ps_if (PW.pt (pw_or (pt_not (pt_val (pe_callB (call_isi1 (K := K) rfl) (by rfl) T.isinstance (by decide +kernel) (pa_cons (pv 2) (pa_cons (pe_bltn (v := .ty "tuple") (by rfl) T.tuple (by decide +kernel) rfl) pa_nil))))) (pw_or1 (pt_not (pt_val (pe_callB (cr_allK (K := K) rfl rfl) (by rfl) T.all (by decide +kernel) (pa_cons (pe_lc (own := [("_law_row", 3)]) (tt := tYes) rfl scLD.nd (pi_tupK (K := K) rfl (pv 2)) (blkOk_by (N := ["_law_sent", "_law_came", "_law_it", "_law_row", "_law_free", "_law_wanted", "_law_k", "_law_one"]) (sc := defScope sLD) (by decide +kernel)) (fun _ _ _ _ _ => (pg_name (i := 3) scLD.nd rfl (by first | exact Or.inl rfl | exact Or.inr rfl))) (fun _ _ _ _ _ => pts_nil) (fun _ _ _ _ _ => (pe_call dNums.ok (hr.mono (by decide)) (by rfl) dNums.mg dNums.kp dNums.bd .nil pass0 (pa_cons (pv 3) (pa_cons pe_int pa_nil))))) pa_nil))))))) 
        (pss_one (ps_ret pe_bl)) pss_nil) 
      (pss_cons (ps_par (i := 4) (j := 5) (by rfl) scLD.nd rfl rfl (by decide) rfl rfl (pa_cons (pe_lc (own := [("_law_row", 3)]) (tt := tYes) rfl scLD.nd (pi_listK (K := K) rfl (pv 0)) (blkOk_by (N := ["_law_sent", "_law_came", "_law_it", "_law_row", "_law_free", "_law_wanted", "_law_k", "_law_one"]) (sc := defScope sLD) (by decide +kernel)) (fun _ _ _ _ _ => (pg_name (i := 3) scLD.nd rfl (by first | exact Or.inl rfl | exact Or.inr rfl))) (fun _ _ _ _ _ => pts_nil) (fun _ _ _ _ _ => (pe_ix (ix_tupK (K := K) rfl) (pv 3) pe_int (fun _ _ => rfl)))) (pa_cons (pe_lc (own := [("_law_row", 3)]) (tt := tYes) rfl scLD.nd (pi_listK (K := K) rfl (pv 1)) (blkOk_by (N := ["_law_sent", "_law_came", "_law_it", "_law_row", "_law_free", "_law_wanted", "_law_k", "_law_one"]) (sc := defScope sLD) (by decide +kernel)) (fun _ _ _ _ _ => (pg_name (i := 3) scLD.nd rfl (by first | exact Or.inl rfl | exact Or.inr rfl))) (fun _ _ _ _ _ => pts_nil) (fun _ _ _ _ _ => (pe_ix (ix_tupK (K := K) rfl) (pv 3) pe_int (fun _ _ => rfl)))) pa_nil)) (by rfl)) 
      (pss_cons (ps_for PassesOwn.never rfl (pi_enumK (K := K) rfl (by rfl) T.enumerate (pa_cons (pv 2) pa_nil)) (pg_tupK (K := K) (n := 2) rfl (by rfl) (pgs_cons (pg_name (i := 6) scLD.nd rfl (by first | exact Or.inl rfl | exact Or.inr rfl)) (pgs_cons (pg_name (i := 3) scLD.nd rfl (by first | exact Or.inl rfl | exact Or.inr rfl)) pgs_nil))) 
        (pss_cons (ps_if (PW.pt (pw_or (pt_not (pt_chain op_le op_lt pe_int (pe_ix (ix_tupK (K := K) rfl) (pv 3) pe_int (fun _ _ => rfl)) (pe_callB (call_lenK (K := K) rfl) (by rfl) T.len (by decide +kernel) (pa_cons (pv 1) pa_nil)))) (pw_or (pt_not (pt_chain op_le op_lt pe_int (pe_ix (ix_tupK (K := K) rfl) (pv 3) pe_int (fun _ _ => rfl)) (pe_callB (call_lenK (K := K) rfl) (by rfl) T.len (by decide +kernel) (pa_cons (pv 0) pa_nil)))) (pw_or1 (pt_cmpR op_lt (pe_ix (ix_tupK (K := K) rfl) (pv 3) pe_int (fun _ _ => rfl)) pe_int (nomark _)))))) 
          (pss_one (ps_ret pe_bl)) pss_nil) 
        (pss_cons (ps_if (PW.pt (pw_or (pt_cmpR op_gt (pe_ix (ix_tupK (K := K) rfl) (pe_ix (ix_listK (K := K) rfl) (pv 0) (pe_ix (ix_tupK (K := K) rfl) (pv 3) pe_int (fun _ _ => rfl)) (fun _ _ => rfl)) pe_int (fun _ _ => rfl)) (pe_ix (ix_tupK (K := K) rfl) (pe_ix (ix_listK (K := K) rfl) (pv 1) (pe_ix (ix_tupK (K := K) rfl) (pv 3) pe_int (fun _ _ => rfl)) (fun _ _ => rfl)) pe_int (fun _ _ => rfl)) (nomark _)) (pw_or1 (PW.pt (pw_and (pt_cmpR op_gt (pv 6) pe_int (nomark _)) (pw_and1 (pt_cmpR (op_ge2K (K := K) rfl hr.units) (pe_slice (sl_tupK (K := K) rfl) (pe_ix (ix_tupK (K := K) rfl) (pv 2) (pe_op op_sub (pv 6) pe_int) (fun _ _ => rfl)) po_none (po_some pe_int)) (pe_slice (sl_tupK (K := K) rfl) (pv 3) po_none (po_some pe_int)) (nomark _)))))))) 
          (pss_one (ps_ret pe_bl)) pss_nil) 
        (pss_cons (ps_asg (pe_op op_sub (pe_ix (ix_listK (K := K) rfl) (pv 4) (pe_ix (ix_tupK (K := K) rfl) (pv 3) pe_int (fun _ _ => rfl)) (fun _ _ => rfl)) (pe_ix (ix_tupK (K := K) rfl) (pv 3) pe_int (fun _ _ => rfl))) (pg_sub (pv 4) (pe_ix (ix_tupK (K := K) rfl) (pv 3) pe_int (fun _ _ => rfl)) set_list)) 
        (pss_one (ps_asg (pe_op op_sub (pe_ix (ix_listK (K := K) rfl) (pv 5) (pe_ix (ix_tupK (K := K) rfl) (pv 3) pe_int (fun _ _ => rfl)) (fun _ _ => rfl)) (pe_ix (ix_tupK (K := K) rfl) (pv 3) pe_int (fun _ _ => rfl))) (pg_sub (pv 5) (pe_ix (ix_tupK (K := K) rfl) (pv 3) pe_int (fun _ _ => rfl)) set_list))))))) 
      (pss_one (ps_ret (pe_and (pe_callB (cr_allK (K := K) rfl rfl) (by rfl) T.all (by decide +kernel) (pa_cons (pe_lc (own := [("_law_one", 7)]) (tt := tYes) rfl scLD.nd (pi_listK (K := K) rfl (pv 4)) (blkOk_by (N := ["_law_sent", "_law_came", "_law_it", "_law_row", "_law_free", "_law_wanted", "_law_k", "_law_one"]) (sc := defScope sLD) (by decide +kernel)) (fun _ _ _ _ _ => (pg_name (i := 7) scLD.nd rfl (by first | exact Or.inl rfl | exact Or.inr rfl))) (fun _ _ _ _ _ => pts_nil) (fun _ _ _ _ _ => (pe_cmpR op_ge (pv 7) pe_int (nomark _)))) pa_nil)) (pe_one (pe_callB (cr_allK (K := K) rfl rfl) (by rfl) T.all (by decide +kernel) (pa_cons (pe_lc (own := [("_law_one", 7)]) (tt := tYes) rfl scLD.nd (pi_listK (K := K) rfl (pv 5)) (blkOk_by (N := ["_law_sent", "_law_came", "_law_it", "_law_row", "_law_free", "_law_wanted", "_law_k", "_law_one"]) (sc := defScope sLD) (by decide +kernel)) (fun _ _ _ _ _ => (pg_name (i := 7) scLD.nd rfl (by first | exact Or.inl rfl | exact Or.inr rfl))) (fun _ _ _ _ _ => pts_nil) (fun _ _ _ _ _ => (pe_cmpR op_eq (pv 7) pe_int (nomark _)))) pa_nil))))))))), ?_⟩
    cases hx with
    | non => walk_at "rd"; exact k _ (Same.refl _)
    | bl b => walk_at "rd"; exact k _ (Same.refl _)
    | str x => walk_at "rd"; exact k _ (Same.refl _)
    | int n => walk_at "rd"; exact k _ (Same.refl _)
    | lst h => walk_at "rd"; exact k _ (Same.refl _)
    | dk h => walk_at "rd"; exact k _ (Same.refl _)
    | @tup t ts ss ht hA =>
    have lt := hA.length
    replace few : ss.length ≤ 900 := few
    walk_at "rd"
    intro D hD
    refine lcA (p := D) (walk_tup (xs := ts)) (fun i acc _ => acc = ((ss.take i).map Sh.tri).map V.bl) hD (by omega) rfl (fun H' e => SqT.of (e.get (ne_of_none ht hD) ht)) ?_ ?_
    · rintro i x G G' acc M hi e q la a ⟨rfl, y⟩ k1 k2
      have sG : Same H G' := fun b o hb => e b o (ne_of_none hb hD) hb
      obtain ⟨s1, e1, r1⟩ := hA.at y
      walk_at "rd"
      refine ⟨rfl, ?_⟩
      walk_at "rd"
      refine ⟨x, s1, rfl, r1.kin (Kin.same sG), fun G2 sG2 => ?_⟩
      refine k1 _ _ (e.trans (Same.ext sG2)) (sG2 _ _ q) ?_
      rw [take_snoc e1, List.map_append, List.map_append, a]
      rfl
    · intro G acc e q la a
      have s1 : Same H G := fun b o hb => e b o (ne_of_none hb hD) hb
      rw [List.take_of_length_le (by omega)] at a
      subst a
      walk_at "rd"
      refine rd_all q ?_
      cases b0 : (ss.map Sh.tri).all id with
      | false =>
        walk_at "rd"
        have : dealB os bs (.tup ss) = false := by
          rw [List.all_map, List.all_eq_false] at b0
          obtain ⟨s, hs, hn⟩ := b0
          exact deal_no hs fun z => hn (part_tri z)
        rw [this] at k
        exact k _ s1
      | true =>
      have tri : ∀ s ∈ ss, s.tri = true := by
        rw [List.all_map, List.all_eq_true] at b0
        exact b0
      have hR3 := rows_tri hA tri
      generalize ee : ss.map entOf = es at *
      have lee : es.length = ss.length := by rw [← ee, List.length_map]
      have hL1 := s1 _ _ hL
      have hM1 := s1 _ _ hM
      walk_at "rd"
      intro D1 hD1
      refine lcA (p := D1) (walk_list (xs := us)) (fun i acc _ => acc = ((os.take i).map fun o => o.2.1).map V.int) hD1 (by omega) rfl (fun H' e => SqL.of (e.get (ne_of_none hL1 hD1) hL1)) ?_ ?_
      · rintro i x H2 H2' acc M hi e q la a ⟨rfl, y⟩ k1 k2
        obtain ⟨o, to, ho, rfl, hto⟩ := rows_at ((hR.same s1).mono (e.tsn hD1)) y
        replace hto : H2' to = some (.tup [.int o.1, .int o.2.1, .int o.2.2]) := hto
        walk_at "rd"
        refine ⟨rfl, ?_⟩
        walk_at "rd"
        refine k1 _ _ e q ?_
        rw [take_snoc ho, List.map_append, List.map_append, a]
        rfl
      · intro H2 acc e2 q2 la a
        rw [List.take_of_length_le (by omega)] at a
        have ea : acc = (freeOf os []).map V.int := by rw [a, free_nil]
        subst ea
        have s2 : Same H H2 := fun b o hb => e2 b o (ne_of_none (s1 _ _ hb) hD1) (s1 _ _ hb)
        have hM2 := s2 _ _ hM
        walk_at "rd"
        intro D2 hD2
        refine lcA (p := D2) (walk_list (xs := ws)) (fun i acc _ => acc = ((bs.take i).map fun o => o.2).map V.int) hD2 (by omega) rfl (fun H' e => SqL.of (e.get (ne_of_none hM2 hD2) hM2)) ?_ ?_
        · rintro i x H3 H3' acc M hi e q la a ⟨rfl, y⟩ k1 k2
          obtain ⟨o, to, ho, rfl, hto⟩ := rows_at ((hR2.same s2).mono (e.tsn hD2)) y
          replace hto : H3' to = some (.tup [.int o.1, .int o.2]) := hto
          walk_at "rd"
          refine ⟨rfl, ?_⟩
          walk_at "rd"
          refine k1 _ _ e q ?_
          rw [take_snoc ho, List.map_append, List.map_append, a]
          rfl
        · intro H3 acc e3 q3 la a
          rw [List.take_of_length_le (by omega)] at a
          have ea : acc = (brest bs []).map V.int := by rw [a, brest_nil]
          subst ea
          have s3' : Same H2 H3 := fun b o hb => e3 b o (ne_of_none hb hD2) hb
          have s3 := s2.trans s3'
          have q13 := s3' _ _ q2
          have nD1 : H D1 = none := same_free s1 hD1
          have nD2 : H D2 = none := same_free s2 hD2
          have nDD : D1 ≠ D2 := ne_of_none q2 hD2
          walk_at "rd"
          refine ⟨t, ts, rfl, .inr (s3 _ _ ht), fun J GG hGG W => ?_⟩
          refine loopW W (fun i σ G => ∃ (v3 v6 : Option V), σ = [some (.ref l), some (.ref m), some (.ref t), v3, some (.ref D1), some (.ref D2), v6, none] ∧ Same H G ∧ G D1 = some (.lst ((freeOf os (es.take i)).map V.int)) ∧ G D2 = some (.lst ((brest bs (es.take i)).map V.int)) ∧
            (∀ j d, j < i → es[j]? = some d → Cnd os bs d) ∧ ∀ j d d', j + 1 < i → es[j]? = some d → es[j + 1]? = some d' → HT.lexLt [d.1, d.2.1] [d'.1, d'.2.1] = true)
            ⟨none, none, rfl, s3, q13, q3, fun j d hj => by omega, fun j d d' hj => by omega⟩ (fun i σ G _ ⟨_, _, _, sG, _⟩ => hGG _ (fun o h => by rw [s3 _ _ ht] at h; cases h; exact sG _ _ ht)) ?_ ?_
          · rintro i x σ G G' hi ⟨v3, v6, rfl, sG, g1, g2, hc, hr'⟩ ⟨T', x', y, rfl, hT, rfl, e1, e2⟩
            cases e1
            obtain ⟨d, tt, hd, rfl, htt⟩ := rows_at (hR3.same sG) e2
            replace htt : G tt = some (.tup [.int d.1, .int d.2.1, .int d.2.2]) := htt
            have hMG := sG _ _ hM
            have hLG := sG _ _ hL
            have htG := sG _ _ ht
            have sT := same_new (o := .tup [.int (i : Nat), .ref tt]) sG hT
            obtain ⟨sx, hsx, esx⟩ : ∃ sx, ss[i]? = some sx ∧ entOf sx = d := by
              rw [← ee, List.getElem?_map] at hd
              cases hh : ss[i]? with
              | none => rw [hh] at hd; cases hd
              | some sx => rw [hh] at hd; cases hd; exact ⟨sx, rfl, rfl⟩
            have sm := List.mem_of_getElem? hsx
            walk_at "rd"
            refine rd_inBl (fun R h => rd_c h) (fun R h => by walk_at "rd"; exact h) (fun R h => by walk_at "rd"; exact h) ⟨_, rfl, ?_⟩
            by_cases c1 : 0 ≤ d.1 ∧ d.1 < ws.length
            · rw [show (decide (0 ≤ d.1) && decide (d.1 < ws.length)) = true by rw [decide_eq_true c1.1, decide_eq_true c1.2]; rfl]
              walk_at "rd"
              refine rd_inBl (fun R h => rd_c h) (fun R h => by walk_at "rd"; exact h) (fun R h => by walk_at "rd"; exact h) ⟨_, rfl, ?_⟩
              by_cases c2 : 0 ≤ d.2.1 ∧ d.2.1 < us.length
              · rw [show (decide (0 ≤ d.2.1) && decide (d.2.1 < us.length)) = true by rw [decide_eq_true c2.1, decide_eq_true c2.2]; rfl]
                obtain ⟨j, ej⟩ : ∃ j : Nat, d.1 = j := ⟨d.1.toNat, by omega⟩
                obtain ⟨kk, ek⟩ : ∃ j : Nat, d.2.1 = j := ⟨d.2.1.toNat, by omega⟩
                have hj : j < bs.length := by omega
                have hk : kk < os.length := by omega
                walk_at "rd"
                refine ite_dec (fun c3 => ?_) (fun c3 => ?_)
                · walk_at "rd"
                  have kn := deal_no (os := os) (bs := bs) sm fun z => by
                    obtain ⟨j', kk', h1, h2, h3, h4, h5, h6⟩ := part_cnd z
                    rw [esx] at h1 h3 h5
                    omega
                  rw [kn] at k
                  exact k _ sT
                · walk_at "rd"
                  obtain ⟨v, hv⟩ : ∃ v, us[kk]? = some v := ⟨us[kk]'(by omega), List.getElem?_eq_getElem _⟩
                  obtain ⟨v2, hv2⟩ : ∃ v, ws[j]? = some v := ⟨ws[j]'(by omega), List.getElem?_eq_getElem _⟩
                  obtain ⟨o, to, ho, rfl, hto⟩ := rows_at (hR.same sG) hv
                  obtain ⟨bx, tx, hbx, rfl, htx⟩ := rows_at (hR2.same sG) hv2
                  replace hto : G to = some (.tup [.int o.1, .int o.2.1, .int o.2.2]) := hto
                  replace htx : G tx = some (.tup [.int bx.1, .int bx.2]) := htx
                  refine rd_ixL (xs := us) (by walk_at "hp") (by rw [ek]; exact atI_nat hv) ?_
                  walk_at "rd"
                  refine rd_ixL (xs := ws) (by walk_at "hp") (by rw [ej]; exact atI_nat hv2) ?_
                  walk_at "rd"
                  refine ite_dec (fun c4 => ?_) (fun c4 => ?_)
                  · walk_at "rd"
                    have kn := deal_no (os := os) (bs := bs) sm fun z => by
                      obtain ⟨j', kk', h1, h2, h3, h4, h5, h6⟩ := part_cnd z
                      rw [esx] at h1 h3 h5
                      have e1 : j' = j := by omega
                      have e2 : kk' = kk := by omega
                      rw [e1, e2, oAt_eq ho, bAt_eq hbx] at h6
                      omega
                    rw [kn] at k
                    exact k _ sT
                  · have cnd : Cnd os bs d := ⟨j, kk, ej, hj, ek, hk, by omega, by rw [oAt_eq ho, bAt_eq hbx]; omega⟩
                    have nt1 : tt ≠ D1 := ne_kind htt g1 ne_tl
                    have nt2 : tt ≠ D2 := ne_kind htt g2 ne_tl
                    walk_at "rd"
                    refine ite_dec (fun c5 => ?_) (fun c5 => ?_)
                    · walk_at "rd"
                      obtain ⟨i', rfl⟩ : ∃ i' : Nat, i = i' + 1 := ⟨i - 1, by omega⟩
                      obtain ⟨u0, hu0⟩ : ∃ v, ts[i']? = some v := ⟨ts[i']'(by omega), List.getElem?_eq_getElem _⟩
                      obtain ⟨d0, t0, hd0, rfl, ht0⟩ := rows_at (hR3.same sG) hu0
                      replace ht0 : G t0 = some (.tup [.int d0.1, .int d0.2.1, .int d0.2.2]) := ht0
                      refine rd_ixT (xs := ts) (by walk_at "hp") (by rw [show (((i' + 1 : Nat) : Int) - 1) = (i' : Int) by omega]; exact atI_nat hu0) ?_
                      walk_at "rd"
                      refine rd_head2 (by walk_at "hp") (fun p1 hp1 => ?_)
                      walk_at "rd"
                      refine rd_head2 (by walk_at "hp") (fun p2 hp2 => ?_)
                      walk_at "rd"
                      refine rd_ge2 (by walk_at "hp") (by walk_at "hp") ⟨_, rfl, ?_⟩
                      cases lx : HT.lexLt [d0.1, d0.2.1] [d.1, d.2.1] with
                      | false =>
                        walk_at "rd"
                        have kn := deal_fall (os := os) (bs := bs) (ss := ss) (i := i') (by rw [ee]; exact hd0) (by rw [ee]; exact hd) lx
                        rw [kn] at k
                        exact k _ (same_new (same_new sT hp1) hp2)
                      | true =>
                        walk_at "rd"
                        refine rd_ixL (xs := (freeOf os (es.take (i' + 1))).map V.int) (by walk_at "hp") (v := V.int ((oAt os kk).2.1 - tk (es.take (i' + 1)) kk)) (by rw [ek]; exact atI_nat (by rw [List.getElem?_map, free_at hk]; rfl)) ?_
                        walk_at "rd"
                        refine rd_setL (xs := (freeOf os (es.take (i' + 1))).map V.int) (j := kk) (by walk_at "hp") (by rw [ek]; simp [ixN, free_len, hk]) ?_
                        rw [map_setV, free_set' hk ek, ← take_snoc hd]
                        walk_at "rd"
                        refine rd_ixL (xs := (brest bs (es.take (i' + 1))).map V.int) (by walk_at "hp") (v := V.int ((bAt bs j).2 - bk (es.take (i' + 1)) j)) (by rw [ej]; exact atI_nat (by rw [List.getElem?_map, brest_at hj]; rfl)) ?_
                        walk_at "rd"
                        refine rd_setL (xs := (brest bs (es.take (i' + 1))).map V.int) (j := j) (by walk_at "hp") (by rw [ej]; simp [ixN, brest_len, hj]) ?_
                        rw [map_setV, brest_set hj ej, ← take_snoc hd]
                        refine ⟨_, _, rfl, fun b o hb => ?_, by walk_at "hp", by walk_at "hp", ?_, ?_⟩
                        · have hb1 := sG b o hb
                          have n1 : b ≠ D1 := ne_of_none hb nD1
                          have n2 : b ≠ D2 := ne_of_none hb nD2
                          walk_at "hp"
                        · intro j' d' hj' hd'
                          by_cases z : j' < i' + 1
                          · exact hc j' d' z hd'
                          · have : j' = i' + 1 := by omega
                            subst this
                            rw [hd] at hd'
                            cases hd'
                            exact cnd
                        · intro j' d1 d2 hj' hd1 hd2
                          by_cases z : j' + 1 < i' + 1
                          · exact hr' j' d1 d2 z hd1 hd2
                          · have z' : j' = i' := by omega
                            subst z'
                            rw [hd] at hd2
                            cases hd2
                            rw [hd0] at hd1
                            cases hd1
                            exact lx
                    · have ei : i = 0 := by omega
                      walk_at "rd"
                      refine rd_ixL (xs := (freeOf os (es.take i)).map V.int) (by walk_at "hp") (v := V.int ((oAt os kk).2.1 - tk (es.take i) kk)) (by rw [ek]; exact atI_nat (by rw [List.getElem?_map, free_at hk]; rfl)) ?_
                      walk_at "rd"
                      refine rd_setL (xs := (freeOf os (es.take i)).map V.int) (j := kk) (by walk_at "hp") (by rw [ek]; simp [ixN, free_len, hk]) ?_
                      rw [map_setV, free_set' hk ek, ← take_snoc hd]
                      walk_at "rd"
                      refine rd_ixL (xs := (brest bs (es.take i)).map V.int) (by walk_at "hp") (v := V.int ((bAt bs j).2 - bk (es.take i) j)) (by rw [ej]; exact atI_nat (by rw [List.getElem?_map, brest_at hj]; rfl)) ?_
                      walk_at "rd"
                      refine rd_setL (xs := (brest bs (es.take i)).map V.int) (j := j) (by walk_at "hp") (by rw [ej]; simp [ixN, brest_len, hj]) ?_
                      rw [map_setV, brest_set hj ej, ← take_snoc hd]
                      refine ⟨_, _, rfl, fun b o hb => ?_, by walk_at "hp", by walk_at "hp", ?_, ?_⟩
                      · have hb1 := sG b o hb
                        have n1 : b ≠ D1 := ne_of_none hb nD1
                        have n2 : b ≠ D2 := ne_of_none hb nD2
                        walk_at "hp"
                      · intro j' d' hj' hd'
                        by_cases z : j' < i
                        · exact hc j' d' z hd'
                        · have : j' = i := by omega
                          subst this
                          rw [hd] at hd'
                          cases hd'
                          exact cnd
                      · intro j' d1 d2 hj' hd1 hd2
                        by_cases z : j' + 1 < i
                        · exact hr' j' d1 d2 z hd1 hd2
                        · have z' : j' + 1 = i := by omega
                          subst z'
                          rw [hd] at hd2
                          cases hd2
                          omega
              · have : (decide (0 ≤ d.2.1) && decide (d.2.1 < us.length)) = false := by
                  by_cases z : 0 ≤ d.2.1
                  · rw [decide_eq_false (fun z2 => c2 ⟨z, z2⟩), Bool.and_false]
                  · rw [decide_eq_false z, Bool.false_and]
                rw [this]
                walk_at "rd"
                have kn := deal_no (os := os) (bs := bs) sm fun z => by
                  obtain ⟨j', kk', h1, h2, h3, h4, h5, h6⟩ := part_cnd z
                  rw [esx] at h1 h3 h5
                  exact c2 ⟨by omega, by omega⟩
                rw [kn] at k
                exact k _ sT
            · have : (decide (0 ≤ d.1) && decide (d.1 < ws.length)) = false := by
                by_cases z : 0 ≤ d.1
                · rw [decide_eq_false (fun z2 => c1 ⟨z, z2⟩), Bool.and_false]
                · rw [decide_eq_false z, Bool.false_and]
              rw [this]
              walk_at "rd"
              have kn := deal_no (os := os) (bs := bs) sm fun z => by
                obtain ⟨j, kk, h1, h2, h3, h4, h5, h6⟩ := part_cnd z
                rw [esx] at h1
                exact c1 ⟨by omega, by omega⟩
              rw [kn] at k
              exact k _ sT
          · rintro σ G ⟨v3, v6, rfl, sG, g1, g2, hc, hr'⟩
            rw [lt, ← lee, List.take_length] at g1 g2
            have cAll : ∀ s ∈ ss, Cnd os bs (entOf s) := by
              intro s hs
              obtain ⟨n, hn⟩ := List.getElem?_of_mem hs
              have hn' : n < ss.length := (List.getElem?_eq_some_iff.mp hn).1
              exact hc n _ (by omega) (by rw [← ee, List.getElem?_map, hn]; rfl)
            have rAll' : ∀ i d d', (ss.map entOf)[i]? = some d → (ss.map entOf)[i + 1]? = some d' → HT.lexLt [d.1, d.2.1] [d'.1, d'.2.1] = true := by
              intro i d d' h1 h2
              have : i + 1 < (ss.map entOf).length := (List.getElem?_eq_some_iff.mp h2).1
              rw [List.length_map] at this
              rw [ee] at h1 h2
              exact hr' i d d' (by omega) h1 h2
            have fin := deal_end tri cAll rAll'
            rw [ee] at fin
            rw [← fin] at k
            walk_at "rd"
            intro D3 hD3
            refine lcA (p := D3) (walk_list (xs := (freeOf os es).map V.int)) (fun i acc _ => acc = (((freeOf os es).take i).map fun n => decide (0 ≤ n)).map V.bl) hD3 (by rw [List.length_map, free_len]; omega) rfl (fun H' e => SqL.of (e.get (ne_of_none g1 hD3) g1)) ?_ ?_
            · rintro i x G2 G2' acc M hi e'' q3 l3 a3 ⟨rfl, y⟩ k1 k2
              obtain ⟨n, hn, rfl⟩ : ∃ n, (freeOf os es)[i]? = some n ∧ x = V.int n := by
                rw [List.getElem?_map] at y
                cases hh : (freeOf os es)[i]? with
                | none => rw [hh] at y; cases y
                | some n => rw [hh] at y; cases y; exact ⟨n, rfl, rfl⟩
              walk_at "rd"
              refine ⟨rfl, ?_⟩
              walk_at "rd"
              refine k1 _ _ e'' q3 ?_
              rw [take_snoc hn, List.map_append, List.map_append, a3]
              rfl
            · intro G2 acc e'' q3 l3 a3
              rw [List.take_of_length_le (by rw [List.length_map]; exact Nat.le_refl _)] at a3
              subst a3
              have s5 : Same H G2 := fun b o hb => e'' b o (ne_of_none (sG _ _ hb) hD3) (sG _ _ hb)
              have g2' : G2 D2 = some (.lst ((brest bs es).map V.int)) := e''.get (ne_of_none g2 hD3) g2
              walk_at "rd"
              refine rd_all q3 ?_
              have e3 : ((freeOf os es).map fun n => decide (0 ≤ n)).all id = (freeOf os es).all fun n => decide (0 ≤ n) := by rw [List.all_map]; rfl
              rw [e3]
              cases b2 : (freeOf os es).all fun n => decide (0 ≤ n) with
              | false =>
                rw [b2] at k
                walk_at "rd"
                exact k _ s5
              | true =>
              rw [b2] at k
              walk_at "rd"
              intro D4 hD4
              refine lcA (p := D4) (walk_list (xs := (brest bs es).map V.int)) (fun i acc _ => acc = (((brest bs es).take i).map fun n => decide (n = 0)).map V.bl) hD4 (by rw [List.length_map, brest_len]; omega) rfl (fun H' e => SqL.of (e.get (ne_of_none g2' hD4) g2')) ?_ ?_
              · rintro i x G3 G3' acc M hi e' q2 l2 a2 ⟨rfl, y⟩ k1 k2
                obtain ⟨n, hn, rfl⟩ : ∃ n, (brest bs es)[i]? = some n ∧ x = V.int n := by
                  rw [List.getElem?_map] at y
                  cases hh : (brest bs es)[i]? with
                  | none => rw [hh] at y; cases y
                  | some n => rw [hh] at y; cases y; exact ⟨n, rfl, rfl⟩
                walk_at "rd"
                refine ⟨rfl, ?_⟩
                walk_at "rd"
                refine k1 _ _ e' q2 ?_
                rw [take_snoc hn, List.map_append, List.map_append, a2]
                rfl
              · intro G3 acc e' q2 l2 a2
                rw [List.take_of_length_le (by rw [List.length_map]; exact Nat.le_refl _)] at a2
                subst a2
                walk_at "rd"
                refine rd_all q2 ?_
                have e2 : ((brest bs es).map fun n => decide (n = 0)).all id = (brest bs es).all fun n => decide (n = 0) := by rw [List.all_map]; rfl
                rw [e2]
                exact k G3 fun b o hb => e' b o (ne_of_none (s5 _ _ hb) hD4) (s5 _ _ hb)
end
end Sk
end

section
namespace Sk
open PySem L2
local macro_rules | `(tactic| walk_at "kb") => `(tactic| first | exact kb_int_int | exact kb_int_bool | exact kb_int_str | exact kb_int_tuple | exact kb_int_list | exact kb_tuple_int | exact kb_tuple_bool | exact kb_tuple_str | exact kb_tuple_tuple | exact kb_tuple_list | exact kb_list_int | exact kb_list_bool | exact kb_list_str | exact kb_list_tuple | exact kb_list_list | exact kb_bool_int | exact kb_bool_bool | exact kb_bool_str | exact kb_bool_tuple | exact kb_bool_list | exact kb_str_int | exact kb_str_bool | exact kb_str_str | exact kb_str_tuple | exact kb_str_list | exact kb_dict_int | exact kb_dict_bool | exact kb_dict_str | exact kb_dict_tuple | exact kb_dict_list | exact kb_NoneType_int | exact kb_NoneType_bool | exact kb_NoneType_str | exact kb_NoneType_tuple | exact kb_NoneType_list)
local macro_rules | `(tactic| walk_at "hp") => `(tactic| first
  | assumption
  | exact upd_same
  | (refine' upd_get ?n ?e; (case n => walk_at "ne"); (case e => walk_at "hp"))
  | (refine' But.get (by assumption) ?n ?e; (case n => walk_at "ne"); (case e => walk_at "hp"))
  | (refine' Ext.get (by assumption) ?n ?e; (case n => walk_at "ne"); (case e => walk_at "hp"))
  | (refine' same_get (by assumption) ?e; (case e => walk_at "hp")))
local macro_rules | `(tactic| walk_at "ne") => `(tactic| first
  | assumption
  | (apply Ne.symm; assumption)
  | (refine' ne_of_none ?h (by assumption); (case h => walk_at "hp"))
  | (apply Ne.symm; refine' ne_of_none ?h (by assumption); (case h => walk_at "hp")))
local macro_rules | `(tactic| walk_at "sd") => `(tactic| first
  | (show (0 : Int) < _; omega)
  | (simp only [CMul, CDiv]; omega)
  | exact ⟨by omega, by omega⟩)
local macro_rules | `(tactic| walk_at "rd1") => `(tactic| first
  | with_reducible refine' rd_c ?_
  | ((with_reducible refine' rd_var ?h ?_); (case h => exact rfl))
  | with_reducible refine' rd_op ?_
  | with_reducible refine' rd_seq ?_
  | with_reducible refine' rd_asg ?_
  | with_reducible refine' rd_gName ?_
  | with_reducible refine' rd_I0 ?_
  | ((with_reducible refine' rd_I ?c ?_); (case c => walk_at "sd"))
  | with_reducible refine' rd_eqI ?_
  | with_reducible refine' rd_neI ?_
  | with_reducible refine' rd_U ?_
  | with_reducible refine' rd_un ?_
  | with_reducible refine' rd_ret ?_
  | with_reducible refine' rd_drop ?_
  | with_reducible refine' rd_next ?_
  | with_reducible refine' rd_ifS ?_
  | with_reducible refine' rd_test ?_
  | with_reducible refine' rd_bl ?_
  | with_reducible refine' rd_nil ?_
  | with_reducible refine' rd_cons ?_
  | with_reducible refine' rd_tup ?_
  | with_reducible refine' rd_lst ?_
  | with_reducible refine' rd_call ?_
  | with_reducible refine' rd_cb ?_
  | with_reducible refine' rd_par ?_
  | with_reducible refine' rd_par2 ?_
  | with_reducible refine' rd_and ?_
  | with_reducible refine' rd_or ?_
  | with_reducible refine' rd_not ?_
  | with_reducible refine' rd_andV ?_
  | with_reducible refine' rd_orV ?_
  | with_reducible refine' rd_notV ?_
  | with_reducible refine' rd_if ?_
  | with_reducible refine' rd_gSub ?_
  | ((with_reducible refine' rd_ixL ?h ?e ?_); (case h => walk_at "hp"); (case e => exact rfl))
  | ((with_reducible refine' rd_ixT ?h ?e ?_); (case h => walk_at "hp"); (case e => exact rfl))
  | ((with_reducible refine' rd_setL ?h ?e ?_); (case h => walk_at "hp"); (case e => exact rfl))
  | ((with_reducible refine' rd_append ?h ?e ?_); (case h => walk_at "hp"); (case e => assumption))
  | (with_reducible refine' rd_bmL ?_)
  | ((with_reducible refine' And.intro (tyL ?h) ?_); (case h => walk_at "hp"))
  | ((with_reducible refine' And.intro (len_ok ?h) ?_); (case h => exact rfl))
  | with_reducible refine' rd_ex1 ?_
  | with_reducible refine' rd_ex2 ?_
  | with_reducible refine' rd_int1b ?_
  | ((with_reducible refine' rd_isiI ?e ?_); (case e => walk_at "kb"))
  | ((with_reducible refine' rd_isiB ?e ?_); (case e => walk_at "kb"))
  | ((with_reducible refine' rd_isiT ?h ?e ?_); (case h => walk_at "hp"); (case e => walk_at "kb"))
  | ((with_reducible refine' rd_isiL ?h ?e ?_); (case h => walk_at "hp"); (case e => walk_at "kb"))
  | ((with_reducible refine' rd_lenL ?h ?_); (case h => walk_at "hp"))
  | ((with_reducible refine' rd_lenT ?h ?_); (case h => walk_at "hp"))
  | ((with_reducible refine' rd_gTup ?h ?e ?_); (case h => walk_at "hp"); (case e => exact rfl))
  | with_reducible refine' rd_gCons ?_
  | with_reducible refine' rd_gNil ?_
  | with_reducible refine' rd_yes ?_
  | with_reducible refine' rd_for ?_
  | with_reducible refine' rd_lc ?_
  | with_reducible refine' rd_rng1 ?_
  | with_reducible refine' rd_iL ?_
  | with_reducible refine' rd_iT ?_
  | with_reducible refine' rd_iE ?_
  | with_reducible refine' rd_iZ ?_
  | ((with_reducible refine' rd_iL' ?h ?_); (case h => walk_at "hp"))
  | ((with_reducible refine' rd_iT' ?h ?_); (case h => walk_at "hp"))
  | ((with_reducible refine' rd_iE' ?h ?_); (case h => walk_at "hp"))
  | ((with_reducible refine' rd_iZ' ?h1 ?h2 ?_); (case h1 => walk_at "hp"); (case h2 => walk_at "hp"))
  | with_reducible refine' iteT ?_
  | with_reducible refine' iteF ?_)
local macro_rules | `(tactic| walk_at "rd") => `(tactic| repeat walk_at "rd1")
local macro_rules | `(tactic| walk_at "rd1") => `(tactic| first | with_reducible refine' rd_tB ?_ | with_reducible refine' iteNT ?_ | with_reducible refine' iteNF ?_ | with_reducible refine' rd_iEA (tam_cons tem_var tam_nil) ?_ | with_reducible refine' rd_iSA tem_var ?_ | with_reducible refine' rd_iZA (tam_cons tem_var (tam_cons tem_var tam_nil)) ?_ | with_reducible refine' rd_augS ?_ | with_reducible refine' rd_ip ?_ | with_reducible refine' rd_slTx ?_ | with_reducible refine' rd_slAx ?_ | with_reducible refine' rd_noP ?_ | with_reducible refine' rd_aP ?_)
local macro_rules | `(tactic| walk_at "rd1") => `(tactic| first | ((with_reducible refine' rd_isiN ?e ?_); (case e => walk_at "kb")) | ((with_reducible refine' rd_isiX ?e ?_); (case e => walk_at "kb")) | ((with_reducible refine' rd_isiD ?h ?e ?_); (case h => walk_at "hp"); (case e => walk_at "kb")))
theorem Purse.kept {H G : Hp} {p : Addr} (P : Purse H p) (s : Same H G) : Purse G p := by
  obtain ⟨x1, x2, x3, x4, x5⟩ := P
  exact ⟨x1, x2, x3, s _ _ x4, x5⟩
theorem Same.new {H : Hp} {p : Addr} {o : HO} (h : H p = none) : Same H (upd H p o) := same_new (Same.refl _) h
theorem rd_aPx {t : TE} {σ : St} {H : Hp} {R : Option Int → Hp → Prop} (k : t σ H fun x H1 => ∃ i, x = .int i ∧ R (some i) H1) : tPart t σ H R := k
theorem rd_exI {R : Int → Prop} {n : Int} (k : R n) : ∃ i, V.int n = .int i ∧ R i := ⟨n, rfl, k⟩
theorem rd_dnew {σ : St} {H : Hp} {Q : VK} (k : ∀ p, H p = none → Q (.ref p) (upd H p (.dK []))) : tDNewK σ H Q := k
local macro_rules | `(tactic| walk_at "rd1") => `(tactic| first | with_reducible refine' rd_aPx ?_ | with_reducible refine' rd_exI ?_ | with_reducible refine' rd_revT ?_ | with_reducible refine' rd_dnew ?_)
section
variable {X : Cx} {K : PySem.W.Frag} {H : Hp} {Q : VK}
theorem op_catAK (h : X.K = K) : OpR X (binaryOp .Add) (rCatA K) := by subst h; exact op_catA
/-- a tuple of at most n things -/
def TupS (H : Hp) (a : Addr) (n : Nat) : Prop := ∃ xs ss, H a = some (.tup xs) ∧ ShAll H xs ss ∧ xs.length ≤ n
theorem TupS.kin {G : Hp} {a : Addr} {n : Nat} (h : TupS H a n) (k : Kin H G) : TupS G a n := by
  obtain ⟨xs, ss, h1, h2, h3⟩ := h
  exact ⟨xs, ss, k.tup _ _ h1, h2.kin k, h3⟩
theorem TupS.same {G : Hp} {a : Addr} {n : Nat} (h : TupS H a n) (s : Same H G) : TupS G a n := h.kin (Kin.same s)
/-- some thing, not too long -/
def Thg (H : Hp) (v : V) : Prop := ∃ s, ShR H v s ∧ s.few
theorem Thg.kin {G : Hp} {v : V} (h : Thg H v) (k : Kin H G) : Thg G v := let ⟨s, h1, h2⟩ := h; ⟨s, h1.kin k, h2⟩
theorem Thg.same {G : Hp} {v : V} (h : Thg H v) (s : Same H G) : Thg G v := h.kin (Kin.same s)
theorem TupS.thg {a : Addr} {n : Nat} (h : TupS H a n) (hn : n ≤ 900) : Thg H (.ref a) := by
  obtain ⟨xs, ss, h1, h2, h3⟩ := h
  refine ⟨.tup ss, .tup h1 h2, ?_⟩
  show ss.length ≤ 900
  have := h2.length
  omega
theorem ShAll.of {H : Hp} : ∀ {xs : List V}, (∀ x ∈ xs, Thg H x) → ∃ ss, ShAll H xs ss
  | [], _ => ⟨[], .nil⟩
  | x :: xs, h => by
    obtain ⟨s, h1, _⟩ := h x (by simp)
    obtain ⟨ss, h2⟩ := ShAll.of fun y hy => h y (List.mem_cons_of_mem _ hy)
    exact ⟨s :: ss, .cons h1 h2⟩
theorem Thg.tup {a : Addr} {xs : List V} (h : H a = some (.tup xs)) (hx : ∀ x ∈ xs, Thg H x) (hl : xs.length ≤ 900) : Thg H (.ref a) := by
  obtain ⟨ss, h2⟩ := ShAll.of hx
  exact TupS.thg ⟨xs, ss, h, h2, hl⟩ (Nat.le_refl _)
theorem Thg.lst {a : Addr} {xs : List V} (h : H a = some (.lst xs)) : Thg H (.ref a) := ⟨.oth, .lst h, True.intro⟩
theorem Thg.dk {a : Addr} {kvs : List (Key × V)} (h : H a = some (.dK kvs)) : Thg H (.ref a) := ⟨.oth, .dk h, True.intro⟩
theorem Thg.int (n : Int) : Thg H (.int n) := ⟨_, .int n, True.intro⟩
theorem Thg.bl (b : Bool) : Thg H (.bl b) := ⟨_, .bl b, True.intro⟩
theorem Thg.str (x : Str) : Thg H (.str x) := ⟨_, .str x, True.intro⟩
theorem Thg.non : Thg H .non := ⟨_, .non, True.intro⟩
theorem TupS.one {a : Addr} {v : V} (h : H a = some (.tup [v])) (hv : Thg H v) : TupS H a 1 := by
  obtain ⟨s, h1, _⟩ := hv
  exact ⟨_, _, h, .cons h1 .nil, by simp⟩
theorem rd_cutS {a : Addr} {n : Nat} {lo hi : Option Int} (h : TupS H a n) (k : ∀ b H', Same H H' → TupS H' b n → Q (.ref b) H') : rSlA K (.ref a) lo hi H Q := by
  obtain ⟨xs, ss, h1, h2, h3⟩ := id h
  refine ⟨a, xs, rfl, SqT.of h1, fun _ => k a H (Same.refl _) h, fun _ p hp => ?_⟩
  have s := Same.new (o := .tup (cutV xs lo hi)) hp
  refine k p _ s ⟨_, _, upd_same, ((h2.drop (HT.sIx xs.length 0 lo)).take (HT.sIx xs.length xs.length hi - HT.sIx xs.length 0 lo)).kin (Kin.same s), ?_⟩
  have := cutV_length xs lo hi
  exact Nat.le_trans this h3
theorem rd_catS {a b : Addr} {n m : Nat} (h : TupS H a n) (h' : TupS H b m) (hn : n + m ≤ 900) (k : ∀ c H', Same H H' → TupS H' c (n + m) → Q (.ref c) H') : rCatA K (.ref a) (.ref b) H Q := by
  obtain ⟨xs, ss, h1, h2, h3⟩ := id h
  obtain ⟨ys, ts, g1, g2, g3⟩ := id h'
  refine ⟨a, b, xs, ys, rfl, rfl, SqT.of h1, SqT.of g1, small1000 (by omega) |> Nat.le_of_lt, fun _ => k b H (Same.refl _) ⟨ys, ts, g1, g2, by omega⟩, fun _ _ => k a H (Same.refl _) ⟨xs, ss, h1, h2, by omega⟩, fun _ _ p hp => ?_⟩
  have s := Same.new (o := .tup (xs ++ ys)) hp
  exact k p _ s ⟨_, _, upd_same, (h2.append g2).kin (Kin.same s), by rw [List.length_append]; omega⟩
theorem rd_turnS {a : Addr} {n : Nat} (h : TupS H a n) (k : ∀ b H', Same H H' → TupS H' b n → Q (.ref b) H') : ∃ p xs, V.ref a = .ref p ∧ SqT K H p xs ∧ ∀ q, H q = none → Q (.ref q) (upd H q (.tup xs.reverse)) := by
  obtain ⟨xs, ss, h1, h2, h3⟩ := id h
  refine ⟨a, xs, rfl, SqT.of h1, fun p hp => ?_⟩
  have s := Same.new (o := .tup xs.reverse) hp
  exact k p _ s ⟨_, _, upd_same, h2.reverse.kin (Kin.same s), by rw [List.length_reverse]; exact h3⟩
/-- one of a list's things -/
theorem rd_pick {l : Addr} {xs : List V} {i : Int} (h : H l = some (.lst xs)) (h0 : 0 ≤ i) (h1 : i < xs.length) (hx : ∀ v ∈ xs, Q v H) : rIxL K (.ref l) (.int i) H Q := by
  obtain ⟨j, rfl⟩ : ∃ j : Nat, i = j := ⟨i.toNat, by omega⟩
  have hj : j < xs.length := by omega
  exact rd_ixL h (atI_nat (List.getElem?_eq_getElem hj)) (hx _ (List.getElem_mem hj))
end

abbrev sRk : Stmt := top 30
theorem scRk : FnScope ["_law_purse_here", "_law_sent", "_law_row"] ["_law_purse_here", "_law_sent"] (defScope sRk) := ⟨rfl, rfl, rfl, by decide +kernel, rfl, by decide +kernel, by decide +kernel⟩
def spRk : Sp := fun vs H Q _ => ∃ (p l : Addr) (us : List V), vs = [.ref p, .ref l] ∧ Purse H p ∧ H l = some (.lst us) ∧ l ≠ p ∧ us.length ≤ 1000 ∧
  ∀ (H' : Hp) (q : Addr) (rk : List Int), Ext p H H' → Purse H' p → H q = none → H' q = some (.lst (rk.map V.int)) → rk.length = us.length → Q (.ref q) H'
section
variable {P : Program} {w : World} {K : PySem.W.Frag} {mg : Str → Option Value} {base : Heap}
theorem ok_rk {f fT : Addr} {fd fdT : FuncData} (F : Fun K "_law_any_ranks" "_law_any_ranks" sRk f fd) (T : Free mg) (dT : Def P w K mg base "_law_take" 1 fT fdT ["_law_purse_here", "_law_many"] spTake) : FnOk P w K mg base CX0 2 f fd ["_law_purse_here", "_law_sent"] spRk := by
  refine F.ok scRk (fun vs H Q E h => ?_) (fun cdv A outer s H vs Q E hr h => ?_)
  · obtain ⟨p, l, us, rfl, _⟩ := h
    rfl
  · obtain ⟨p, l, us, rfl, P0, hL, hlp, bl, k⟩ := h
    refine ⟨_, (pss_one (ps_ret (pe_lc (own := [("_law_row", 2)]) (tt := tYes) rfl scRk.nd (pi_listK (K := K) rfl (pv 1)) (blkOk_by (N := ["_law_purse_here", "_law_sent", "_law_row"]) (sc := defScope sRk) (by decide +kernel)) (fun _ _ _ _ _ => (pg_name (i := 2) scRk.nd rfl (by first | exact Or.inl rfl | exact Or.inr rfl))) (fun _ _ _ _ _ => pts_nil) (fun _ _ _ _ _ => (pe_call dT.ok (hr.mono (by decide)) (by rfl) dT.mg dT.kp dT.bd .nil pass0 (pa_cons (pv 0) (pa_cons pe_int pa_nil))))))), ?_⟩
    walk_at "rd"
    intro D hD
    have hDp := P0.ne hD
    refine lcA (p := p) (walk_list (xs := us)) (fun i acc J => Purse J p ∧ ∃ rk : List Int, acc = rk.map V.int ∧ rk.length = i) hD (by omega) ⟨P0.upd hDp, [], rfl, rfl⟩ (fun H' e => SqL.of (e.get hlp hL)) ?_ ?_
    · rintro j x J J' acc M hj e q la ⟨PJ, rk, rfl, hrk⟩ ⟨rfl, y⟩ k1 k2
      walk_at "rd"
      refine ⟨rfl, ?_⟩
      walk_at "rd"
      refine rd_take PJ (by decide) (by decide) (fun r J1 a b PJ1 C => ?_)
      exact k1 _ _ (e.trans C.ext) (C.get hDp q) ⟨PJ1.upd hDp, rk ++ [r], by simp, by simp [hrk]⟩
    · rintro G1 acc e1 q1' la ⟨PG1, rk, rfl, hrk⟩
      exact k G1 D rk e1 PG1 hD q1' hrk

abbrev sBent : Stmt := top 31
theorem scBent : FnScope ["_law_purse_here", "_law_old", "_law_at", "_law_part", "_law_pick", "_law_rows", "_law_some"] ["_law_purse_here", "_law_old"] (defScope sBent) := ⟨rfl, rfl, rfl, by decide +kernel, rfl, by decide +kernel, by decide +kernel⟩
/-- numbers, and tuples of such, n deep -/
inductive Pu : Nat → Sh → Prop
  | int (n : Nat) (i : Int) : Pu n (.int i)
  | tup {n : Nat} {ss : List Sh} : (∀ s ∈ ss, Pu n s) → ss.length ≤ 100 → Pu (n + 1) (.tup ss)
def spBent (n : Nat) : Sp := fun vs H Q _ => ∃ (p : Addr) (x : V) (s : Sh), vs = [.ref p, x] ∧ Purse H p ∧ ShR H x s ∧ Pu n s ∧ ∀ (H' : Hp) (y : V), Ext p H H' → Purse H' p → Thg H' y → Q y H'
local macro_rules | `(tactic| walk_at "rd1") => `(tactic| ((with_reducible refine' rd_var ?h ?_); (case h => assumption)))
/-- some things that are none -/
theorem some_ok {σ : St} {D : Ends} {p : Addr} {x : V} {G0 : Hp} (z0 : σ[0]? = some (some (.ref p))) (z1 : σ[1]? = some (some x)) (PG : Purse G0 p) (hT : Thg G0 x) (k : ∀ (H' : Hp) (y : V), Ext p G0 H' → Purse H' p → Thg H' y → D.rt y H') (z6 : 6 < σ.length) :
    tSeq (tAsg (tLst (tCons (tC .non) (tCons (tC (.bl true)) (tCons (tC (.bl false)) (tCons (tC (.int 0)) (tCons (tOp (rI0 fun i j => V.int (i - j)) (tC (.int 0)) (tC (.int 1))) (tCons (tC (.str "1")) (tCons (tTup tNil) (tCons (tLst tNil) (tCons tDNewK
      (tCons (tTup (tCons (tC (.int 0)) (tCons (tC (.int 0)) (tCons (tC (.int 1)) tNil)))) (tCons (tLst (tCons (tVar 1) tNil)) (tCons (tTup (tCons (tVar 1) tNil)) (tCons (tTup (tCons (tLst tNil) tNil)) (tCons (tTup (tCons (tVar 1) (tCons tDNewK tNil))) tNil))))))))))))))) (gName 6))
      (tRet (tOp (rIxL K) (tVar 6) (tCall spTake [] E0 (tCons (tVar 0) (tCons (tC (.int 14)) tNil))))) D σ G0 := by
  have z0' : ∀ v : Option V, (σ.set 6 v)[0]? = some (some (.ref p)) := fun v => by rw [List.getElem?_set_ne (by decide)]; exact z0
  have z6' : ∀ v : V, (σ.set 6 (some v))[6]? = some (some v) := fun v => by rw [List.getElem?_set_self z6]
  walk_at "rd"
  intro q1 h1
  walk_at "rd"
  intro q2 h2
  walk_at "rd"
  intro q3 h3
  walk_at "rd"
  intro q4 h4
  walk_at "rd"
  intro q5 h5
  walk_at "rd"
  intro q6 h6
  walk_at "rd"
  intro q7 h7
  walk_at "rd"
  intro q8 h8
  walk_at "rd"
  intro q9 h9
  walk_at "rd"
  intro q10 h10
  walk_at "rd"
  intro q11 h11
  have z0q := z0' (some (.ref q11))
  have z6q := z6' (.ref q11)
  walk_at "rd"
  have sZ := same_new (o := .lst [.non, .bl true, .bl false, .int 0, .int (0 - 1), .str "1", .ref q1, .ref q2, .ref q3, .ref q4, .ref q5, .ref q6, .ref q8, .ref q10]) (same_new (o := .tup [x, .ref q9]) (same_new (o := .dK []) (same_new (o := .tup [.ref q7]) (same_new (o := .lst []) (same_new (o := .tup [x]) (same_new (o := .lst [x]) (same_new (o := .tup [.int 0, .int 0, .int 1]) (same_new (o := .dK []) (same_new (o := .lst []) (same_new (o := .tup []) (Same.refl G0) h1) h2) h3) h4) h5) h6) h7) h8) h9) h10) h11
  have PZ := PG.kept sZ
  refine rd_take PZ (by decide) (by decide) (fun r H3 a3 b3 P3 C3 => ?_)
  have kz := Kin.ext PZ C3.ext P3
  walk_at "rd"
  have np := (PG.kept (same_new (o := .tup [x, .ref q9]) (same_new (o := .dK []) (same_new (o := .tup [.ref q7]) (same_new (o := .lst []) (same_new (o := .tup [x]) (same_new (o := .lst [x]) (same_new (o := .tup [.int 0, .int 0, .int 1]) (same_new (o := .dK []) (same_new (o := .lst []) (same_new (o := .tup []) (Same.refl G0) h1) h2) h3) h4) h5) h6) h7) h8) h9) h10)).ne h11
  refine rd_pick (C3.get np upd_same) a3 (by simpa using b3) (fun v hv => ?_)
  refine k _ v ((Same.ext sZ).trans C3.ext) P3 (Thg.kin ?_ kz)
  have hX := hT.same sZ
  simp at hv
  rcases hv with rfl | rfl | rfl | rfl | rfl | rfl | rfl | rfl | rfl | rfl | rfl | rfl | rfl | rfl
  · exact .non
  · exact .bl _
  · exact .bl _
  · exact .int _
  · exact .int _
  · exact .str _
  · exact .tup (xs := []) (by walk_at "hp") (by simp) (by simp)
  · exact .lst (xs := []) (by walk_at "hp")
  · exact .dk (kvs := []) (by walk_at "hp")
  · refine .tup (xs := [.int 0, .int 0, .int 1]) (by walk_at "hp") (fun x' hx => ?_) (by simp)
    simp at hx
    rcases hx with rfl | rfl <;> exact .int _
  · exact .lst (xs := [x]) (by walk_at "hp")
  · refine .tup (xs := [x]) (by walk_at "hp") (fun x' hx => ?_) (by simp)
    simp at hx
    subst hx
    exact hX
  · refine .tup (xs := [.ref q7]) (by walk_at "hp") (fun x' hx => ?_) (by simp)
    simp at hx
    subst hx
    exact .lst (xs := []) (by walk_at "hp")
  · refine .tup (xs := [x, .ref q9]) (by walk_at "hp") (fun x' hx => ?_) (by simp)
    simp at hx
    rcases hx with rfl | rfl
    · exact hX
    · exact .dk (kvs := []) (by walk_at "hp")
end
end Sk
end

section
namespace Sk
open PySem L2
local macro_rules | `(tactic| walk_at "kb") => `(tactic| first | exact kb_int_int | exact kb_int_bool | exact kb_int_str | exact kb_int_tuple | exact kb_int_list | exact kb_tuple_int | exact kb_tuple_bool | exact kb_tuple_str | exact kb_tuple_tuple | exact kb_tuple_list | exact kb_list_int | exact kb_list_bool | exact kb_list_str | exact kb_list_tuple | exact kb_list_list | exact kb_bool_int | exact kb_bool_bool | exact kb_bool_str | exact kb_bool_tuple | exact kb_bool_list | exact kb_str_int | exact kb_str_bool | exact kb_str_str | exact kb_str_tuple | exact kb_str_list | exact kb_dict_int | exact kb_dict_bool | exact kb_dict_str | exact kb_dict_tuple | exact kb_dict_list | exact kb_NoneType_int | exact kb_NoneType_bool | exact kb_NoneType_str | exact kb_NoneType_tuple | exact kb_NoneType_list)
local macro_rules | `(tactic| walk_at "hp") => `(tactic| first
  | assumption
  | exact upd_same
  | (refine' upd_get ?n ?e; (case n => walk_at "ne"); (case e => walk_at "hp"))
  | (refine' But.get (by assumption) ?n ?e; (case n => walk_at "ne"); (case e => walk_at "hp"))
  | (refine' Ext.get (by assumption) ?n ?e; (case n => walk_at "ne"); (case e => walk_at "hp"))
  | (refine' same_get (by assumption) ?e; (case e => walk_at "hp")))
local macro_rules | `(tactic| walk_at "ne") => `(tactic| first
  | assumption
  | (apply Ne.symm; assumption)
  | (refine' ne_of_none ?h (by assumption); (case h => walk_at "hp"))
  | (apply Ne.symm; refine' ne_of_none ?h (by assumption); (case h => walk_at "hp")))
local macro_rules | `(tactic| walk_at "sd") => `(tactic| first
  | (show (0 : Int) < _; omega)
  | (simp only [CMul, CDiv]; omega)
  | exact ⟨by omega, by omega⟩)
local macro_rules | `(tactic| walk_at "rd1") => `(tactic| first
  | with_reducible refine' rd_c ?_
  | ((with_reducible refine' rd_var ?h ?_); (case h => exact rfl))
  | with_reducible refine' rd_op ?_
  | with_reducible refine' rd_seq ?_
  | with_reducible refine' rd_asg ?_
  | with_reducible refine' rd_gName ?_
  | with_reducible refine' rd_I0 ?_
  | ((with_reducible refine' rd_I ?c ?_); (case c => walk_at "sd"))
  | with_reducible refine' rd_eqI ?_
  | with_reducible refine' rd_neI ?_
  | with_reducible refine' rd_U ?_
  | with_reducible refine' rd_un ?_
  | with_reducible refine' rd_ret ?_
  | with_reducible refine' rd_drop ?_
  | with_reducible refine' rd_next ?_
  | with_reducible refine' rd_ifS ?_
  | with_reducible refine' rd_test ?_
  | with_reducible refine' rd_bl ?_
  | with_reducible refine' rd_nil ?_
  | with_reducible refine' rd_cons ?_
  | with_reducible refine' rd_tup ?_
  | with_reducible refine' rd_lst ?_
  | with_reducible refine' rd_call ?_
  | with_reducible refine' rd_cb ?_
  | with_reducible refine' rd_par ?_
  | with_reducible refine' rd_par2 ?_
  | with_reducible refine' rd_and ?_
  | with_reducible refine' rd_or ?_
  | with_reducible refine' rd_not ?_
  | with_reducible refine' rd_andV ?_
  | with_reducible refine' rd_orV ?_
  | with_reducible refine' rd_notV ?_
  | with_reducible refine' rd_if ?_
  | with_reducible refine' rd_gSub ?_
  | ((with_reducible refine' rd_ixL ?h ?e ?_); (case h => walk_at "hp"); (case e => exact rfl))
  | ((with_reducible refine' rd_ixT ?h ?e ?_); (case h => walk_at "hp"); (case e => exact rfl))
  | ((with_reducible refine' rd_setL ?h ?e ?_); (case h => walk_at "hp"); (case e => exact rfl))
  | ((with_reducible refine' rd_append ?h ?e ?_); (case h => walk_at "hp"); (case e => assumption))
  | (with_reducible refine' rd_bmL ?_)
  | ((with_reducible refine' And.intro (tyL ?h) ?_); (case h => walk_at "hp"))
  | ((with_reducible refine' And.intro (len_ok ?h) ?_); (case h => exact rfl))
  | with_reducible refine' rd_ex1 ?_
  | with_reducible refine' rd_ex2 ?_
  | with_reducible refine' rd_int1b ?_
  | ((with_reducible refine' rd_isiI ?e ?_); (case e => walk_at "kb"))
  | ((with_reducible refine' rd_isiB ?e ?_); (case e => walk_at "kb"))
  | ((with_reducible refine' rd_isiT ?h ?e ?_); (case h => walk_at "hp"); (case e => walk_at "kb"))
  | ((with_reducible refine' rd_isiL ?h ?e ?_); (case h => walk_at "hp"); (case e => walk_at "kb"))
  | ((with_reducible refine' rd_lenL ?h ?_); (case h => walk_at "hp"))
  | ((with_reducible refine' rd_lenT ?h ?_); (case h => walk_at "hp"))
  | ((with_reducible refine' rd_gTup ?h ?e ?_); (case h => walk_at "hp"); (case e => exact rfl))
  | with_reducible refine' rd_gCons ?_
  | with_reducible refine' rd_gNil ?_
  | with_reducible refine' rd_yes ?_
  | with_reducible refine' rd_for ?_
  | with_reducible refine' rd_lc ?_
  | with_reducible refine' rd_rng1 ?_
  | with_reducible refine' rd_iL ?_
  | with_reducible refine' rd_iT ?_
  | with_reducible refine' rd_iE ?_
  | with_reducible refine' rd_iZ ?_
  | ((with_reducible refine' rd_iL' ?h ?_); (case h => walk_at "hp"))
  | ((with_reducible refine' rd_iT' ?h ?_); (case h => walk_at "hp"))
  | ((with_reducible refine' rd_iE' ?h ?_); (case h => walk_at "hp"))
  | ((with_reducible refine' rd_iZ' ?h1 ?h2 ?_); (case h1 => walk_at "hp"); (case h2 => walk_at "hp"))
  | with_reducible refine' iteT ?_
  | with_reducible refine' iteF ?_)
local macro_rules | `(tactic| walk_at "rd") => `(tactic| repeat walk_at "rd1")
local macro_rules | `(tactic| walk_at "rd1") => `(tactic| first | with_reducible refine' rd_tB ?_ | with_reducible refine' iteNT ?_ | with_reducible refine' iteNF ?_ | with_reducible refine' rd_iEA (tam_cons tem_var tam_nil) ?_ | with_reducible refine' rd_iSA tem_var ?_ | with_reducible refine' rd_iZA (tam_cons tem_var (tam_cons tem_var tam_nil)) ?_ | with_reducible refine' rd_augS ?_ | with_reducible refine' rd_ip ?_ | with_reducible refine' rd_slTx ?_ | with_reducible refine' rd_slAx ?_ | with_reducible refine' rd_noP ?_ | with_reducible refine' rd_aP ?_)
local macro_rules | `(tactic| walk_at "rd1") => `(tactic| first | ((with_reducible refine' rd_isiN ?e ?_); (case e => walk_at "kb")) | ((with_reducible refine' rd_isiX ?e ?_); (case e => walk_at "kb")) | ((with_reducible refine' rd_isiD ?h ?e ?_); (case h => walk_at "hp"); (case e => walk_at "kb")))
local macro_rules | `(tactic| walk_at "rd1") => `(tactic| first | with_reducible refine' rd_aPx ?_ | with_reducible refine' rd_exI ?_ | with_reducible refine' rd_revT ?_ | with_reducible refine' rd_dnew ?_)
section
variable {P : Program} {w : World} {K : PySem.W.Frag} {mg : Str → Option Value} {base : Heap}
local macro_rules | `(tactic| walk_at "rd1") => `(tactic| with_reducible refine' some_ok ?_ ?_ ?_ ?_ ?_ ?_)
theorem ok_bentN {f fT : Addr} {fd fdT : FuncData} {n m : Nat} {spR : Sp} (hm : 1 ≤ m) (F : Fun K "_law_bent" "_law_bent" sBent f fd) (T : Free mg) (dT : Def P w K mg base "_law_take" 1 fT fdT ["_law_purse_here", "_law_many"] spTake)
    (dBent : Def P w K mg base "_law_bent" m f fd ["_law_purse_here", "_law_old"] spR)
    (hrec : ∀ {ss : List Sh} {s : Sh} {p : Addr} {x : V} {H : Hp} {Q : VK} {E : XK}, Pu n (.tup ss) → s ∈ ss → Purse H p → ShR H x s → (∀ (H' : Hp) (y : V), Ext p H H' → Purse H' p → Thg H' y → Q y H') → spR [.ref p, x] H Q E) :
    FnOk P w K mg base CX0 (m + 1) f fd ["_law_purse_here", "_law_old"] (spBent n) := by
  refine F.ok scBent (fun vs H Q E h => ?_) (fun cdv A outer s H vs Q E hr h => ?_)
  · obtain ⟨p, x, sh, rfl, _⟩ := h
    rfl
  · obtain ⟨p, x, sh, rfl, P0, hx, pu, k⟩ := h
    refine ⟨_, (pss_cons (ps_if (PW.pt (pw_and (pt_val (pe_callB (call_isi1 (K := K) rfl) (by rfl) T.isinstance (by decide +kernel) (pa_cons (pv 1) (pa_cons (pe_bltn (v := .ty "tuple") (by rfl) T.tuple (by decide +kernel) rfl) pa_nil)))) (pw_and (pt_cmpR op_gt (pe_callB (call_lenK (K := K) rfl) (by rfl) T.len (by decide +kernel) (pa_cons (pv 1) pa_nil)) pe_int (nomark _)) (pw_and1 (pt_cmpR op_gt (pe_call dT.ok (hr.mono hm) (by rfl) dT.mg dT.kp dT.bd .nil pass0 (pa_cons (pv 0) (pa_cons pe_int pa_nil))) pe_int (nomark _)))))) 
        (pss_cons (ps_set (i := 2) scBent.nd rfl (by first | exact Or.inl rfl | exact Or.inr rfl) (pe_call dT.ok (hr.mono hm) (by rfl) dT.mg dT.kp dT.bd .nil pass0 (pa_cons (pv 0) (pa_cons (pe_callB (call_lenK (K := K) rfl) (by rfl) T.len (by decide +kernel) (pa_cons (pv 1) pa_nil)) pa_nil)))) 
        (pss_cons (ps_set (i := 3) scBent.nd rfl (by first | exact Or.inl rfl | exact Or.inr rfl) (pe_call dBent.ok (hr.mono (Nat.le_refl _)) (by rfl) dBent.mg dBent.kp dBent.bd .nil pass0 (pa_cons (pv 0) (pa_cons (pe_ix (ix_tupK (K := K) rfl) (pv 1) (pv 2) (fun _ _ => rfl)) pa_nil)))) 
        (pss_one (ps_ret (pe_op (op_catAK (K := K) rfl) (pe_op (op_catAK (K := K) rfl) (pe_slice (sl_tupAK (K := K) rfl) (pv 1) po_none (po_some (pv 2))) (pe_tup (pa_cons (pv 3) pa_nil))) (pe_slice (sl_tupAK (K := K) rfl) (pv 1) (po_some (pe_op op_add (pv 2) pe_int)) po_none)))))) pss_nil) 
      (pss_cons (ps_set (i := 4) scBent.nd rfl (by first | exact Or.inl rfl | exact Or.inr rfl) (pe_call dT.ok (hr.mono hm) (by rfl) dT.mg dT.kp dT.bd .nil pass0 (pa_cons (pv 0) (pa_cons pe_int pa_nil)))) 
      (pss_cons (ps_if (PW.pt (pw_and (pt_val (pe_callB (call_isi1 (K := K) rfl) (by rfl) T.isinstance (by decide +kernel) (pa_cons (pv 1) (pa_cons (pe_bltn (v := .ty "tuple") (by rfl) T.tuple (by decide +kernel) rfl) pa_nil)))) (pw_and (pt_cmpR op_gt (pe_callB (call_lenK (K := K) rfl) (by rfl) T.len (by decide +kernel) (pa_cons (pv 1) pa_nil)) pe_int (nomark _)) (pw_and1 (pt_cmpR op_lt (pv 4) pe_int (nomark _)))))) 
        (pss_cons (ps_set (i := 2) scBent.nd rfl (by first | exact Or.inl rfl | exact Or.inr rfl) (pe_call dT.ok (hr.mono hm) (by rfl) dT.mg dT.kp dT.bd .nil pass0 (pa_cons (pv 0) (pa_cons (pe_callB (call_lenK (K := K) rfl) (by rfl) T.len (by decide +kernel) (pa_cons (pv 1) pa_nil)) pa_nil)))) 
        (pss_cons (ps_set (i := 5) scBent.nd rfl (by first | exact Or.inl rfl | exact Or.inr rfl) (pe_lst (pa_cons (pe_op (op_catAK (K := K) rfl) (pe_slice (sl_tupAK (K := K) rfl) (pv 1) po_none (po_some (pv 2))) (pe_slice (sl_tupAK (K := K) rfl) (pv 1) (po_some (pe_op op_add (pv 2) pe_int)) po_none)) (pa_cons (pe_op (op_catAK (K := K) rfl) (pe_op (op_catAK (K := K) rfl) (pe_slice (sl_tupAK (K := K) rfl) (pv 1) po_none (po_some (pv 2))) (pe_tup (pa_cons (pe_ix (ix_tupK (K := K) rfl) (pv 1) (pv 2) (fun _ _ => rfl)) pa_nil))) (pe_slice (sl_tupAK (K := K) rfl) (pv 1) (po_some (pv 2)) po_none)) (pa_cons (pe_revTK (K := K) rfl (pv 1)) (pa_cons (pe_op (op_catAK (K := K) rfl) (pe_slice (sl_tupAK (K := K) rfl) (pv 1) (po_some pe_int) po_none) (pe_slice (sl_tupAK (K := K) rfl) (pv 1) po_none (po_some pe_int))) (pa_cons (pe_callTy call_list_of (by rfl) T.list (by decide +kernel) (pa_cons (pv 1) pa_nil)) pa_nil))))))) 
        (pss_one (ps_ret (pe_ix (ix_listK (K := K) rfl) (pv 5) (pv 4) (fun _ _ => rfl)))))) pss_nil) 
      (pss_cons (ps_if (PW.pt (pw_and (pt_val (pe_callB (call_isi1 (K := K) rfl) (by rfl) T.isinstance (by decide +kernel) (pa_cons (pv 1) (pa_cons (pe_bltn (v := .ty "int") (by rfl) T.int_ (by decide +kernel) rfl) pa_nil)))) (pw_and1 (pt_cmpR op_lt (pv 4) pe_int (nomark _))))) 
        (pss_one (ps_ret (pe_ix (ix_listK (K := K) rfl) (pe_lst (pa_cons (pe_op op_add (pv 1) pe_int) (pa_cons (pe_op op_sub (pv 1) pe_int) (pa_cons (pe_op op_sub pe_int (pv 1)) (pa_cons (pe_cmpR op_eq (pv 1) pe_int (nomark _)) (pa_cons (pe_op op_add (pv 1) pe_int) pa_nil)))))) (pv 4) (fun _ _ => rfl)))) pss_nil) 
      (pss_cons (ps_set (i := 6) scBent.nd rfl (by first | exact Or.inl rfl | exact Or.inr rfl) (pe_lst (pa_cons pe_non (pa_cons pe_bl (pa_cons pe_bl (pa_cons pe_int (pa_cons (pe_op op_sub pe_int pe_int) (pa_cons pe_str (pa_cons (pe_tup pa_nil) (pa_cons (pe_lst pa_nil) (pa_cons pe_dnewK (pa_cons (pe_tup (pa_cons pe_int (pa_cons pe_int (pa_cons pe_int pa_nil)))) (pa_cons (pe_lst (pa_cons (pv 1) pa_nil)) (pa_cons (pe_tup (pa_cons (pv 1) pa_nil)) (pa_cons (pe_tup (pa_cons (pe_lst pa_nil) pa_nil)) (pa_cons (pe_tup (pa_cons (pv 1) (pa_cons pe_dnewK pa_nil))) pa_nil)))))))))))))))) 
      (pss_one (ps_ret (pe_ix (ix_listK (K := K) rfl) (pv 6) (pe_call dT.ok (hr.mono hm) (by rfl) dT.mg dT.kp dT.bd .nil pass0 (pa_cons (pv 0) (pa_cons pe_int pa_nil))) (fun _ _ => rfl))))))))), ?_⟩
    cases hx with
    | non => cases pu
    | bl b => cases pu
    | str x => cases pu
    | lst h => cases pu
    | dk h => cases pu
    | int i =>
      walk_at "rd"
      refine rd_take P0 (by decide) (by decide) (fun pick H1 a1 b1 P1 C1 => ?_)
      walk_at "rd"
      refine ite_dec (fun c => ?_) (fun c => ?_)
      · walk_at "rd"
        intro q hq
        walk_at "rd"
        refine rd_pick upd_same a1 (by simpa using c) (fun v hv => ?_)
        refine k _ v (C1.ext.trans (Same.ext (Same.new hq))) (P1.kept (Same.new hq)) ?_
        simp at hv
        rcases hv with rfl | rfl | rfl | rfl | rfl
        · exact .int _
        · exact .int _
        · exact .int _
        · exact .bl _
        · exact .int _
      · walk_at "rd"
        exact p
        exact .int i
        exact rfl
        exact rfl
        exact P1
        exact .int i
        exact fun H' y e P' h => k H' y (C1.ext.trans e) P' h
        exact (by decide : 6 < 7)
    | @tup t xs ss ht hA =>
      have hl := hA.length
      obtain ⟨n', rfl, hss, hl100⟩ : ∃ n', n = n' + 1 ∧ (∀ s ∈ ss, Pu n' s) ∧ ss.length ≤ 100 := by
        cases pu with
        | tup h1 h2 => exact ⟨_, rfl, h1, h2⟩
      have tp : t ≠ p := P0.net ht
      have T0 : TupS H t 100 := ⟨xs, ss, ht, hA, by omega⟩
      by_cases ne : xs.length = 0
      · walk_at "rd"
        refine ite_dec (fun c => by omega) (fun c => ?_)
        walk_at "rd"
        refine rd_take P0 (by decide) (by decide) (fun pick H1 a1 b1 P1 C1 => ?_)
        have k1 := Kin.ext P0 C1.ext P1
        have ht1 := k1.tup _ _ ht
        walk_at "rd"
        refine ite_dec (fun c => by omega) (fun c => ?_)
        walk_at "rd"
        exact p
        exact .ref t
        exact rfl
        exact rfl
        exact P1
        exact (T0.kin k1).thg (by decide)
        exact fun H' y e P' h => k H' y (C1.ext.trans e) P' h
        exact (by decide : 6 < 7)
      · walk_at "rd"
        refine ite_dec (fun c => ?_) (fun c => by omega)
        walk_at "rd"
        refine rd_take P0 (by decide) (by decide) (fun go H1 a1 b1 P1 C1 => ?_)
        have k1 := Kin.ext P0 C1.ext P1
        have ht1 := k1.tup _ _ ht
        have T1 := T0.kin k1
        have A1 := hA.kin k1
        walk_at "rd"
        refine ite_dec (fun c2 => ?_) (fun c2 => ?_)
        · walk_at "rd"
          refine rd_take P1 (by omega) (by omega) (fun at' H2 a2 b2 P2 C2 => ?_)
          have k2 := Kin.ext P1 C2.ext P2
          have ht2 := k2.tup _ _ ht1
          have A2 := A1.kin k2
          obtain ⟨j, rfl⟩ : ∃ j : Nat, at' = j := ⟨at'.toNat, by omega⟩
          obtain ⟨v, hv⟩ : ∃ v, xs[j]? = some v := ⟨xs[j]'(by omega), List.getElem?_eq_getElem _⟩
          obtain ⟨sv, hsv, rv⟩ := A2.at hv
          walk_at "rd"
          refine rd_ixT ht2 (atI_nat hv) ?_
          walk_at "rd"
          refine hrec (.tup hss hl100) (List.mem_of_getElem? hsv) P2 rv (fun H3 y e3 P3 hy => ?_)
          have k3 := Kin.ext P2 e3 P3
          have T3 := (T1.kin k2).kin k3
          walk_at "rd"
          refine rd_cutS T3 (fun b1 H4 s4 B1 => ?_)
          walk_at "rd"
          intro o1 ho1
          walk_at "rd"
          have sO := Same.new (o := .tup [y]) ho1
          refine rd_catS (B1.same sO) (TupS.one upd_same ((hy.same s4).same sO)) (by decide) (fun b2 H5 s5 B2 => ?_)
          walk_at "rd"
          refine rd_cutS (((T3.same s4).same sO).same s5) (fun b3 H6 s6 B3 => ?_)
          walk_at "rd"
          refine rd_catS (B2.same s6) B3 (by decide) (fun b4 H7 s7 B4 => ?_)
          have sAll := (((s4.trans sO).trans s5).trans s6).trans s7
          exact k _ _ (((C1.ext.trans C2.ext).trans e3).trans (Same.ext sAll)) (P3.kept sAll) (B4.thg (by decide))
        · walk_at "rd"
          refine rd_take P1 (by decide) (by decide) (fun pick H2 a2 b2 P2 C2 => ?_)
          have k2 := Kin.ext P1 C2.ext P2
          have ht2 := k2.tup _ _ ht1
          have T2 := T1.kin k2
          walk_at "rd"
          refine ite_dec (fun c3 => ?_) (fun c3 => by omega)
          walk_at "rd"
          refine ite_dec (fun cp => ?_) (fun cp => ?_)
          · walk_at "rd"
            refine rd_take P2 (by omega) (by omega) (fun at' H3 a3 b3 P3 C3 => ?_)
            have k3 := Kin.ext P2 C3.ext P3
            have T3 := T2.kin k3
            have ht3 := k3.tup _ _ ht2
            have A3 := (A1.kin k2).kin k3
            obtain ⟨j, rfl⟩ : ∃ j : Nat, at' = j := ⟨at'.toNat, by omega⟩
            obtain ⟨v, hv⟩ : ∃ v, xs[j]? = some v := ⟨xs[j]'(by omega), List.getElem?_eq_getElem _⟩
            obtain ⟨sv, hsv, rv⟩ := A3.at hv
            have hvT : Thg H3 v := by
              refine ⟨sv, rv, ?_⟩
              have := hss sv (List.mem_of_getElem? hsv)
              cases this with
              | int => exact True.intro
              | tup h1 h2 => exact Nat.le_trans h2 (by decide)
            walk_at "rd"
            refine rd_cutS T3 (fun c1 G1 s1 B1 => ?_)
            walk_at "rd"
            refine rd_cutS (T3.same s1) (fun c2 G2 s2 B2 => ?_)
            have e2 := s1.trans s2
            walk_at "rd"
            refine rd_catS (B1.same s2) B2 (by decide) (fun c3 G3 s3 B3 => ?_)
            have e3 := e2.trans s3
            walk_at "rd"
            refine rd_cutS (T3.same e3) (fun c4 G4 s4 B4 => ?_)
            have e4 := e3.trans s4
            have ht4 := e4 _ _ ht3
            walk_at "rd"
            refine rd_ixT ht4 (atI_nat hv) ?_
            walk_at "rd"
            intro o1 ho1
            have s5 := Same.new (o := .tup [v]) ho1
            have e5 := e4.trans s5
            walk_at "rd"
            refine rd_catS (B4.same s5) (TupS.one upd_same (hvT.same e5)) (by decide) (fun c6 G6 s6 B6 => ?_)
            have e6 := e5.trans s6
            walk_at "rd"
            refine rd_cutS (T3.same e6) (fun c7 G7 s7 B7 => ?_)
            have e7 := e6.trans s7
            walk_at "rd"
            refine rd_catS (B6.same s7) B7 (by decide) (fun c8 G8 s8 B8 => ?_)
            have e8 := e7.trans s8
            walk_at "rd"
            obtain ⟨ys, zs, hy1, hy2, hy3⟩ := T3.same e8
            refine ⟨t, ys, rfl, SqT.of hy1, fun c9 hc9 => ?_⟩
            have s9 := Same.new (o := .tup ys.reverse) hc9
            have B9 : TupS (upd G8 c9 (.tup ys.reverse)) c9 100 := ⟨_, _, upd_same, hy2.reverse.kin (Kin.same s9), by rw [List.length_reverse]; exact hy3⟩
            have e9 := e8.trans s9
            walk_at "rd"
            refine rd_cutS (T3.same e9) (fun c10 G10 s10 B10 => ?_)
            have e10 := e9.trans s10
            walk_at "rd"
            refine rd_cutS (T3.same e10) (fun c11 G11 s11 B11 => ?_)
            have e11 := e10.trans s11
            walk_at "rd"
            refine rd_catS (B10.same s11) B11 (by decide) (fun c12 G12 s12 B12 => ?_)
            have e12 := e11.trans s12
            walk_at "rd"
            refine ⟨t, xs, rfl, .inr (SqT.of (e12 _ _ ht3)), fun c13 hc13 => ?_⟩
            have s13 := Same.new (o := .lst xs) hc13
            walk_at "rd"
            intro L hL
            have s14 := s13.trans (Same.new (o := .lst [.ref c3, .ref c8, .ref c9, .ref c12, .ref c13]) hL)
            have e14 := e12.trans s14
            walk_at "rd"
            refine rd_pick upd_same a2 (by simpa using cp) (fun y hy => ?_)
            refine k _ y (((C1.ext.trans C2.ext).trans C3.ext).trans (Same.ext e14)) (P3.kept e14) ?_
            simp at hy
            rcases hy with rfl | rfl | rfl | rfl | rfl
            · exact ((B3.same ((((((((((s4.trans s5).trans s6).trans s7).trans s8).trans s9).trans s10).trans s11).trans s12)).trans s14)).thg (by decide))
            · exact (B8.same ((((s9.trans s10).trans s11).trans s12).trans s14)).thg (by decide)
            · exact (B9.same (((s10.trans s11).trans s12).trans s14)).thg (by decide)
            · exact (B12.same s14).thg (by decide)
            · exact .lst (xs := xs) (by walk_at "hp")
          · walk_at "rd"
            exact p
            exact .ref t
            exact rfl
            exact rfl
            exact P2
            exact T2.thg (by decide)
            exact fun H' y e P' h => k H' y ((C1.ext.trans C2.ext).trans e) P' h
            exact (by decide : 6 < 7)
theorem ok_bent0 {f : Addr} {fd : FuncData} (F : Fun K "_law_bent" "_law_bent" sBent f fd) : FnOk P w K mg base CX0 1 f fd ["_law_purse_here", "_law_old"] (fun _ _ _ _ => False) := by
  refine F.ok scBent (fun vs H Q E h => h.elim) (fun cdv A outer s H vs Q E hr h => h.elim)
theorem ok_bent {f fT : Addr} {fd fdT : FuncData} (F : Fun K "_law_bent" "_law_bent" sBent f fd) (T : Free mg) (dT : Def P w K mg base "_law_take" 1 fT fdT ["_law_purse_here", "_law_many"] spTake)
    (dB : ∀ {m : Nat} {spR : Sp}, FnOk P w K mg base CX0 m f fd ["_law_purse_here", "_law_old"] spR → Def P w K mg base "_law_bent" m f fd ["_law_purse_here", "_law_old"] spR) :
    FnOk P w K mg base CX0 4 f fd ["_law_purse_here", "_law_old"] (spBent 2) := by
  have h0 : FnOk P w K mg base CX0 2 f fd ["_law_purse_here", "_law_old"] (spBent 0) := ok_bentN (by decide) F T dT (dB (ok_bent0 F)) (fun pu => by cases pu)
  have st : ∀ {n : Nat} {ss : List Sh} {s : Sh} {p : Addr} {x : V} {H : Hp} {Q : VK} {E : XK}, Pu (n + 1) (.tup ss) → s ∈ ss → Purse H p → ShR H x s → (∀ (H' : Hp) (y : V), Ext p H H' → Purse H' p → Thg H' y → Q y H') → spBent n [.ref p, x] H Q E := by
    intro n ss s p x H Q E pu hs P hx k
    cases pu with
    | tup h1 h2 => exact ⟨p, x, s, rfl, P, hx, h1 s hs, k⟩
  have h1 : FnOk P w K mg base CX0 3 f fd ["_law_purse_here", "_law_old"] (spBent 1) := ok_bentN (by decide) F T dT (dB h0) st
  exact ok_bentN (by decide) F T dT (dB h1) st
end
end Sk
end

section
namespace Sk
open PySem L2
local macro_rules | `(tactic| walk_at "kb") => `(tactic| first | exact kb_int_int | exact kb_int_bool | exact kb_int_str | exact kb_int_tuple | exact kb_int_list | exact kb_tuple_int | exact kb_tuple_bool | exact kb_tuple_str | exact kb_tuple_tuple | exact kb_tuple_list | exact kb_list_int | exact kb_list_bool | exact kb_list_str | exact kb_list_tuple | exact kb_list_list | exact kb_bool_int | exact kb_bool_bool | exact kb_bool_str | exact kb_bool_tuple | exact kb_bool_list | exact kb_str_int | exact kb_str_bool | exact kb_str_str | exact kb_str_tuple | exact kb_str_list | exact kb_dict_int | exact kb_dict_bool | exact kb_dict_str | exact kb_dict_tuple | exact kb_dict_list | exact kb_NoneType_int | exact kb_NoneType_bool | exact kb_NoneType_str | exact kb_NoneType_tuple | exact kb_NoneType_list)
local macro_rules | `(tactic| walk_at "hp") => `(tactic| first
  | assumption
  | exact upd_same
  | (refine' upd_get ?n ?e; (case n => walk_at "ne"); (case e => walk_at "hp"))
  | (refine' But.get (by assumption) ?n ?e; (case n => walk_at "ne"); (case e => walk_at "hp"))
  | (refine' Ext.get (by assumption) ?n ?e; (case n => walk_at "ne"); (case e => walk_at "hp"))
  | (refine' same_get (by assumption) ?e; (case e => walk_at "hp")))
local macro_rules | `(tactic| walk_at "ne") => `(tactic| first
  | assumption
  | (apply Ne.symm; assumption)
  | (refine' ne_of_none ?h (by assumption); (case h => walk_at "hp"))
  | (apply Ne.symm; refine' ne_of_none ?h (by assumption); (case h => walk_at "hp")))
local macro_rules | `(tactic| walk_at "sd") => `(tactic| first
  | (show (0 : Int) < _; omega)
  | (simp only [CMul, CDiv]; omega)
  | exact ⟨by omega, by omega⟩)
local macro_rules | `(tactic| walk_at "rd1") => `(tactic| first
  | with_reducible refine' rd_c ?_
  | ((with_reducible refine' rd_var ?h ?_); (case h => exact rfl))
  | with_reducible refine' rd_op ?_
  | with_reducible refine' rd_seq ?_
  | with_reducible refine' rd_asg ?_
  | with_reducible refine' rd_gName ?_
  | with_reducible refine' rd_I0 ?_
  | ((with_reducible refine' rd_I ?c ?_); (case c => walk_at "sd"))
  | with_reducible refine' rd_eqI ?_
  | with_reducible refine' rd_neI ?_
  | with_reducible refine' rd_U ?_
  | with_reducible refine' rd_un ?_
  | with_reducible refine' rd_ret ?_
  | with_reducible refine' rd_drop ?_
  | with_reducible refine' rd_next ?_
  | with_reducible refine' rd_ifS ?_
  | with_reducible refine' rd_test ?_
  | with_reducible refine' rd_bl ?_
  | with_reducible refine' rd_nil ?_
  | with_reducible refine' rd_cons ?_
  | with_reducible refine' rd_tup ?_
  | with_reducible refine' rd_lst ?_
  | with_reducible refine' rd_call ?_
  | with_reducible refine' rd_cb ?_
  | with_reducible refine' rd_par ?_
  | with_reducible refine' rd_par2 ?_
  | with_reducible refine' rd_and ?_
  | with_reducible refine' rd_or ?_
  | with_reducible refine' rd_not ?_
  | with_reducible refine' rd_andV ?_
  | with_reducible refine' rd_orV ?_
  | with_reducible refine' rd_notV ?_
  | with_reducible refine' rd_if ?_
  | with_reducible refine' rd_gSub ?_
  | ((with_reducible refine' rd_ixL ?h ?e ?_); (case h => walk_at "hp"); (case e => exact rfl))
  | ((with_reducible refine' rd_ixT ?h ?e ?_); (case h => walk_at "hp"); (case e => exact rfl))
  | ((with_reducible refine' rd_setL ?h ?e ?_); (case h => walk_at "hp"); (case e => exact rfl))
  | ((with_reducible refine' rd_append ?h ?e ?_); (case h => walk_at "hp"); (case e => assumption))
  | (with_reducible refine' rd_bmL ?_)
  | ((with_reducible refine' And.intro (tyL ?h) ?_); (case h => walk_at "hp"))
  | ((with_reducible refine' And.intro (len_ok ?h) ?_); (case h => exact rfl))
  | with_reducible refine' rd_ex1 ?_
  | with_reducible refine' rd_ex2 ?_
  | with_reducible refine' rd_int1b ?_
  | ((with_reducible refine' rd_isiI ?e ?_); (case e => walk_at "kb"))
  | ((with_reducible refine' rd_isiB ?e ?_); (case e => walk_at "kb"))
  | ((with_reducible refine' rd_isiT ?h ?e ?_); (case h => walk_at "hp"); (case e => walk_at "kb"))
  | ((with_reducible refine' rd_isiL ?h ?e ?_); (case h => walk_at "hp"); (case e => walk_at "kb"))
  | ((with_reducible refine' rd_lenL ?h ?_); (case h => walk_at "hp"))
  | ((with_reducible refine' rd_lenT ?h ?_); (case h => walk_at "hp"))
  | ((with_reducible refine' rd_gTup ?h ?e ?_); (case h => walk_at "hp"); (case e => exact rfl))
  | with_reducible refine' rd_gCons ?_
  | with_reducible refine' rd_gNil ?_
  | with_reducible refine' rd_yes ?_
  | with_reducible refine' rd_for ?_
  | with_reducible refine' rd_lc ?_
  | with_reducible refine' rd_rng1 ?_
  | with_reducible refine' rd_iL ?_
  | with_reducible refine' rd_iT ?_
  | with_reducible refine' rd_iE ?_
  | with_reducible refine' rd_iZ ?_
  | ((with_reducible refine' rd_iL' ?h ?_); (case h => walk_at "hp"))
  | ((with_reducible refine' rd_iT' ?h ?_); (case h => walk_at "hp"))
  | ((with_reducible refine' rd_iE' ?h ?_); (case h => walk_at "hp"))
  | ((with_reducible refine' rd_iZ' ?h1 ?h2 ?_); (case h1 => walk_at "hp"); (case h2 => walk_at "hp"))
  | with_reducible refine' iteT ?_
  | with_reducible refine' iteF ?_)
local macro_rules | `(tactic| walk_at "rd") => `(tactic| repeat walk_at "rd1")
local macro_rules | `(tactic| walk_at "rd1") => `(tactic| first | with_reducible refine' rd_tB ?_ | with_reducible refine' iteNT ?_ | with_reducible refine' iteNF ?_ | with_reducible refine' rd_iEA (tam_cons tem_var tam_nil) ?_ | with_reducible refine' rd_iSA tem_var ?_ | with_reducible refine' rd_iZA (tam_cons tem_var (tam_cons tem_var tam_nil)) ?_ | with_reducible refine' rd_augS ?_ | with_reducible refine' rd_ip ?_ | with_reducible refine' rd_slTx ?_ | with_reducible refine' rd_slAx ?_ | with_reducible refine' rd_noP ?_ | with_reducible refine' rd_aP ?_)
local macro_rules | `(tactic| walk_at "rd1") => `(tactic| first | ((with_reducible refine' rd_isiN ?e ?_); (case e => walk_at "kb")) | ((with_reducible refine' rd_isiX ?e ?_); (case e => walk_at "kb")) | ((with_reducible refine' rd_isiD ?h ?e ?_); (case h => walk_at "hp"); (case e => walk_at "kb")))
local macro_rules | `(tactic| walk_at "rd1") => `(tactic| first | with_reducible refine' rd_aPx ?_ | with_reducible refine' rd_exI ?_ | with_reducible refine' rd_revT ?_ | with_reducible refine' rd_dnew ?_)
section
variable {K : PySem.W.Frag} {σ : St} {H : Hp} {Q : VK} {D : Ends}
theorem rd_dput {td ty tv : TE} (k : tv σ H fun v H1 => td σ H1 fun x H2 => ty σ H2 fun y H3 => ∃ a H4, x = .ref a ∧ DPut H3 a y v H4 ∧ D.nx σ H4) : sDPut td ty tv D σ H := k
theorem rd_dget {td ty : TE} (k : td σ H fun x H1 => ty σ H1 fun y H2 => ∃ a v, x = .ref a ∧ DGet H2 a y (some v) ∧ Q v H2) : tDGet td ty σ H Q := k
theorem rd_dget2 {td ty tx : TE} (k : td σ H fun x H1 => ∃ a, x = .ref a ∧ IsD H1 a ∧ ty σ H1 fun y H2 => tx σ H2 fun z H3 => ∃ o, DGet H3 a y o ∧ Q (o.getD z) H3) : tDGet2 td ty tx σ H Q := k
theorem rd_dnT (k : ∀ p, H p = none → Q (.ref p) (upd H p (.dT []))) : tDNewT σ H Q := k
/-- two things of data: alike where they are the same -/
theorem rd_eqAny {x y : V} {d e : PyData} (h1 : Dp K H x d) (h2 : Dp K H y e) (s1 : SeqAt.shaped d = true) (s2 : SeqAt.shaped e = true) (k : ∀ b, (d = e → b = true) → Q (.bl b) H) : rEqD K x y H Q := by
  refine ⟨d, e, h1, h2, s1, s2, k _ fun z => ?_⟩
  subst z
  exact SeqAt.eqv_refl d (SeqAt.canLay_of_shaped s1)
end
local macro_rules | `(tactic| walk_at "rd1") => `(tactic| first | with_reducible refine' rd_dput ?_ | with_reducible refine' rd_dget ?_ | with_reducible refine' rd_dget2 ?_ | with_reducible refine' rd_dnT ?_)
theorem shaped_tup (rs : List (List Int)) : SeqAt.shaped (.tuple (rs.map fun r => PyData.tuple (r.map PyData.int))) = true := by
  have := deep_rows rs
  simp [SeqAt.shaped, PyData.canLay0, lay_rows, PyData.depth]
  omega
theorem Kin.updL {H : Hp} {D : Addr} {xs ys : List V} (h : H D = some (.lst xs)) : Kin H (upd H D (.lst ys)) := by
  refine ⟨fun a zs e => ?_, fun a zs e => ?_, fun a zs e => ?_⟩
  · rw [upd_ne (fun z => by rw [z, h] at e; cases e)]; exact e
  · by_cases z : a = D
    · subst z; exact ⟨_, upd_same⟩
    · exact ⟨_, (upd_ne z).trans e⟩
  · exact ⟨_, (upd_ne (fun z => by rw [z, h] at e; cases e)).trans e⟩
/-- a row of three numbers -/
def R3 (H : Hp) (v : V) : Prop := ∃ (t : Addr) (a b c : Int), v = .ref t ∧ H t = some (.tup [.int a, .int b, .int c])
theorem R3.ts {H G : Hp} {v : V} (h : R3 H v) (s : TSt H G) : R3 G v := by
  obtain ⟨t, a, b, c, e, h⟩ := h
  exact ⟨t, a, b, c, e, s _ _ h⟩
theorem R3.rows {H : Hp} {us : List V} {es : List Ent} (h : Rows H us (es.map t3)) : ∀ v ∈ us, R3 H v := by
  intro v hv
  obtain ⟨i, hi⟩ := List.getElem?_of_mem hv
  obtain ⟨o, t, ho, e, ht⟩ := rows_at h hi
  exact ⟨t, o.1, o.2.1, o.2.2, e, ht⟩
/-- pairs of numbers, a number for each -/
def D2 (kvs : List (List Key × V)) : Prop := ∀ x ∈ kvs, ∃ a b n : Int, x = ([.inl a, .inl b], .int n)
theorem D2.put {kvs : List (List Key × V)} (h : D2 kvs) (a b n : Int) : D2 (putK kvs [.inl a, .inl b] (.int n)) := by
  intro x hx
  unfold putK at hx
  split at hx
  · obtain ⟨y, hy, rfl⟩ := List.mem_map.mp hx
    obtain ⟨a', b', n', rfl⟩ := h y hy
    split
    · exact ⟨a', b', n, rfl⟩
    · exact ⟨a', b', n', rfl⟩
  · rcases List.mem_append.mp hx with hx | hx
    · exact h x hx
    · simp at hx
      exact ⟨a, b, n, hx⟩
theorem put_len (kvs : List (List Key × V)) (k : List Key) (v : V) : (putK kvs k v).length ≤ kvs.length + 1 := by
  unfold putK
  split <;> simp
theorem D2.get {kvs : List (List Key × V)} (h : D2 kvs) (k : List Key) : ∃ n : Int, (valV kvs k).getD (.int 0) = .int n := by
  cases hv : valV kvs k with
  | none => exact ⟨0, rfl⟩
  | some v =>
    unfold valV at hv
    cases hf : kvs.find? fun kv => decide (kv.1 = k) with
    | none => rw [hf] at hv; cases hv
    | some x =>
      rw [hf] at hv
      obtain ⟨a, b, n, rfl⟩ := h x (List.mem_of_find?_eq_some hf)
      cases hv
      exact ⟨n, rfl⟩
theorem D2.has {kvs : List (List Key × V)} (h : D2 kvs) {x : List Key × V} (hx : x ∈ kvs) : ∃ n : Int, valV kvs x.1 = some (.int n) := by
  cases hv : valV kvs x.1 with
  | none =>
    have := valV_any x.1 kvs
    rw [hv] at this
    have z : (kvs.any fun kv => decide (kv.1 = x.1)) = true := List.any_eq_true.mpr ⟨x, hx, by simp⟩
    rw [z] at this
    cases this
  | some v =>
    obtain ⟨n, e⟩ := h.get x.1
    rw [hv] at e
    exact ⟨n, by rw [show v = .int n from e]⟩
theorem D2.alike {kvs : List (List Key × V)} (h : D2 kvs) : PySem.W.AllAlike (kvs.map fun x => tupD x.1) := by
  intro d hd e he
  obtain ⟨x, hx, rfl⟩ := List.mem_map.mp hd
  obtain ⟨y, hy, rfl⟩ := List.mem_map.mp he
  obtain ⟨a, b, n, rfl⟩ := h x hx
  obtain ⟨a', b', n', rfl⟩ := h y hy
  rfl
theorem sortZ_mem {zs : List (V × PyData)} {v : V} (h : v ∈ sortZ zs) : ∃ z ∈ zs, v = z.1 := by
  unfold sortZ at h
  obtain ⟨z, hz, rfl⟩ := List.mem_map.mp h
  exact ⟨z, (List.mergeSort_perm zs _).mem_iff.mp hz, rfl⟩
theorem sortZ_len (zs : List (V × PyData)) : (sortZ zs).length = zs.length := by
  rw [sortZ, List.length_map, List.length_mergeSort]

abbrev sMv : Stmt := top 32
theorem scMv : FnScope ["_law_purse_here", "_law_deal_of", "_law_sent", "_law_at", "_law_out", "_law_back", "_law_old", "_law_many", "_law_much", "_law_rest", "_law_found", "_law_one", "_law_other", "_law_more", "_law_key"] ["_law_purse_here", "_law_deal_of", "_law_sent"] (defScope sMv) := ⟨rfl, rfl, rfl, by decide +kernel, rfl, by decide +kernel, by decide +kernel⟩
theorem rd_rep01 {H : Hp} {Q : VK} {a : Addr} {v : V} {b : Bool} (h : H a = some (.lst [v])) (k : ∀ q xs, H q = none → (∀ x ∈ xs, x = v) → xs.length ≤ 1 → Q (.ref q) (upd H q (.lst xs))) : rRep (.ref a) (.int (if b = true then 1 else 0)) H Q := by
  cases b
  · exact ⟨a, 0, [v], rfl, rfl, h, by decide, by decide, (by show 1 * 0 ≤ sizeLine; decide), fun p hp => k p [] hp (by simp) (by simp)⟩
  · exact ⟨a, 1, [v], rfl, rfl, h, by decide, by decide, (by show 1 * 1 ≤ sizeLine; decide), fun p hp => k p [v] hp (by simp) (by simp)⟩
theorem rd_cutR {K : PySem.W.Frag} {H : Hp} {Q : VK} {a : Addr} {xs : List V} {lo hi : Option Int} (h : H a = some (.tup xs)) (k : ∀ b H' ys, Same H H' → H' b = some (.tup ys) → (∀ y ∈ ys, y ∈ xs) → ys.length ≤ xs.length → Q (.ref b) H') : rSlA K (.ref a) lo hi H Q := by
  refine ⟨a, xs, rfl, SqT.of h, fun _ => k a H xs (Same.refl _) h (fun y hy => hy) (Nat.le_refl _), fun _ p hp => ?_⟩
  exact k p _ (cutV xs lo hi) (Same.new hp) upd_same (fun y hy => List.mem_of_mem_drop (List.mem_of_mem_take hy)) (cutV_length xs lo hi)
def spMv : Sp := fun vs H Q _ => ∃ (p t l : Addr) (ts us : List V) (ds : List Ent) (os : List (Int × Int × Int)), vs = [.ref p, .ref t, .ref l] ∧ Purse H p ∧ H t = some (.tup ts) ∧ Rows H ts (ds.map t3) ∧ ds.length ≤ 100 ∧ (∀ d ∈ ds, 1 ≤ d.2.2 ∧ d.2.2 ≤ 99999) ∧ H l = some (.lst us) ∧ Rows H us (os.map t3) ∧ os.length ≤ 100 ∧ l ≠ p ∧
  ∀ (H' : Hp) (y : V), Ext p H H' → Purse H' p → Thg H' y → Q y H'
section
variable {P : Program} {w : World} {K : PySem.W.Frag} {mg : Str → Option Value} {base : Heap}
theorem ok_mv {f fT : Addr} {fd fdT : FuncData} (F : Fun K "_law_moved" "_law_moved" sMv f fd) (T : Free mg) (dT : Def P w K mg base "_law_take" 1 fT fdT ["_law_purse_here", "_law_many"] spTake) : FnOk P w K mg base CX0 2 f fd ["_law_purse_here", "_law_deal_of", "_law_sent"] spMv := by
  refine F.ok scMv (fun vs H Q E h => ?_) (fun cdv A outer s H vs Q E hr h => ?_)
  · obtain ⟨p, t, l, ts, us, ds, os, rfl, _⟩ := h
    rfl
  · obtain ⟨p, t, l, ts, us, ds, os, rfl, P0, ht, hR, bd, hd1, hL, hR2, bo, hlp, k⟩ := h
    have lt : ts.length = ds.length := by rw [hR.length, List.length_map]
    have lu : us.length = os.length := by rw [hR2.length, List.length_map]
    have T0 : TupS H t 100 := ⟨ts, _, ht, ShAll.rows hR, by omega⟩
    refine ⟨_, (pss_cons (ps_if (PW.pt (pw_or (pt_cmpR (op_eqDK (K := K) rfl hr.units) (pv 1) (pe_tup pa_nil) (nomark _)) (pw_or1 (pt_cmpR (op_eqDK (K := K) rfl hr.units) (pv 2) (pe_lst pa_nil) (nomark _))))) 
        (pss_one (ps_ret (pv 1))) pss_nil) 
      (pss_cons (ps_par (i := 3) (j := 4) (by rfl) scMv.nd rfl rfl (by decide) rfl rfl (pa_cons (pe_call dT.ok (hr.mono (by decide)) (by rfl) dT.mg dT.kp dT.bd .nil pass0 (pa_cons (pv 0) (pa_cons (pe_callB (call_lenK (K := K) rfl) (by rfl) T.len (by decide +kernel) (pa_cons (pv 1) pa_nil)) pa_nil))) (pa_cons (pe_call dT.ok (hr.mono (by decide)) (by rfl) dT.mg dT.kp dT.bd .nil pass0 (pa_cons (pv 0) (pa_cons (pe_callB (call_lenK (K := K) rfl) (by rfl) T.len (by decide +kernel) (pa_cons (pv 2) pa_nil)) pa_nil))) pa_nil)) (by rfl)) 
      (pss_cons (ps_asg (pe_ix (ix_tupK (K := K) rfl) (pv 1) (pv 3) (fun _ _ => rfl)) (pg_tupK (K := K) (n := 3) rfl (by rfl) (pgs_cons (pg_name (i := 5) scMv.nd rfl (by first | exact Or.inl rfl | exact Or.inr rfl)) (pgs_cons (pg_name (i := 6) scMv.nd rfl (by first | exact Or.inl rfl | exact Or.inr rfl)) (pgs_cons (pg_name (i := 7) scMv.nd rfl (by first | exact Or.inl rfl | exact Or.inr rfl)) pgs_nil))))) 
      (pss_cons (ps_set (i := 8) scMv.nd rfl (by first | exact Or.inl rfl | exact Or.inr rfl) (pe_op op_add pe_int (pe_call dT.ok (hr.mono (by decide)) (by rfl) dT.mg dT.kp dT.bd .nil pass0 (pa_cons (pv 0) (pa_cons (pv 7) pa_nil))))) 
      (pss_cons (ps_set (i := 9) scMv.nd rfl (by first | exact Or.inl rfl | exact Or.inr rfl) (pe_op op_rep (pe_lst (pa_cons (pe_tup (pa_cons (pv 5) (pa_cons (pv 6) (pa_cons (pe_op op_sub (pv 7) (pv 8)) pa_nil)))) pa_nil)) (pe_callTy call_int1 (by rfl) T.int_ (by decide +kernel) (pa_cons (pe_cmpR op_gt (pv 7) (pv 8) (nomark _)) pa_nil)))) 
      (pss_cons (ps_set (i := 10) scMv.nd rfl (by first | exact Or.inl rfl | exact Or.inr rfl) pe_dnewT) 
      (pss_cons (ps_for PassesOwn.never rfl (pi_listK (K := K) rfl (pe_op op_cat (pe_op op_cat (pe_op op_cat (pe_callTy call_list_of (by rfl) T.list (by decide +kernel) (pa_cons (pe_slice (sl_tupAK (K := K) rfl) (pv 1) po_none (po_some (pv 3))) pa_nil)) (pv 9)) (pe_lst (pa_cons (pe_tup (pa_cons (pv 5) (pa_cons (pv 4) (pa_cons (pv 8) pa_nil)))) pa_nil))) (pe_callTy call_list_of (by rfl) T.list (by decide +kernel) (pa_cons (pe_slice (sl_tupAK (K := K) rfl) (pv 1) (po_some (pe_op op_add (pv 3) pe_int)) po_none) pa_nil)))) (pg_tupK (K := K) (n := 3) rfl (by rfl) (pgs_cons (pg_name (i := 11) scMv.nd rfl (by first | exact Or.inl rfl | exact Or.inr rfl)) (pgs_cons (pg_name (i := 12) scMv.nd rfl (by first | exact Or.inl rfl | exact Or.inr rfl)) (pgs_cons (pg_name (i := 13) scMv.nd rfl (by first | exact Or.inl rfl | exact Or.inr rfl)) pgs_nil)))) 
        (pss_one (ps_dput (hu_of hr) (pv 10) (pe_tup (pa_cons (pv 11) (pa_cons (pv 12) pa_nil))) (pe_op op_add (pe_dget2 (hu_of hr) (pv 10) (pe_tup (pa_cons (pv 11) (pa_cons (pv 12) pa_nil))) pe_int ⟨rfl, rfl, rfl, rfl⟩) (pv 13)) rfl))) 
      (pss_one (ps_ret (pe_callTy call_tuple_of (by rfl) T.tuple (by decide +kernel) (pa_cons (pe_lc (own := [("_law_key", 14)]) (tt := tYes) rfl scMv.nd (pi_listK (K := K) rfl (pe_callB (cr_sortedDT rfl hr.units) (by rfl) T.sorted (by decide +kernel) (pa_cons (pv 10) pa_nil))) (blkOk_by (N := ["_law_purse_here", "_law_deal_of", "_law_sent", "_law_at", "_law_out", "_law_back", "_law_old", "_law_many", "_law_much", "_law_rest", "_law_found", "_law_one", "_law_other", "_law_more", "_law_key"]) (sc := defScope sMv) (by decide +kernel)) (fun _ _ _ _ _ => (pg_name (i := 14) scMv.nd rfl (by first | exact Or.inl rfl | exact Or.inr rfl))) (fun _ _ _ _ _ => pts_nil) (fun _ _ _ _ _ => (pe_op (op_catAK (K := K) rfl) (pv 14) (pe_tup (pa_cons (pe_dget (hu_of hr) (pv 10) (pv 14) (fun _ _ => rfl)) pa_nil))))) pa_nil))))))))))), ?_⟩
    walk_at "rd"
    intro q1 h1
    walk_at "rd"
    have s1 := Same.new (o := .tup []) h1
    refine rd_eqAny (d := .tuple ((ds.map t3).map fun r => PyData.tuple (r.map PyData.int))) (e := .tuple []) (.tup (SqT.of (s1 _ _ ht)) (dp_rows (hR.same s1))) (.tup (SqT.of upd_same) .nil) (shaped_tup _) rfl (fun b hb => ?_)
    walk_at "rd"
    cases b with
    | true =>
      walk_at "rd"
      exact k _ _ (Same.ext s1) (P0.kept s1) ((T0.same s1).thg (by decide))
    | false =>
    have dne : 0 < ds.length := by
      cases ds with
      | nil => exact absurd (hb rfl) (by decide)
      | cons a ds => simp
    walk_at "rd"
    intro q2 h2
    walk_at "rd"
    have s2' := Same.new (o := .lst []) h2
    have s2 := s1.trans s2'
    refine rd_eqAny (d := .list ((os.map t3).map fun r => PyData.tuple (r.map PyData.int))) (e := .list []) (.lst (SqL.of (s2 _ _ hL)) (dp_rows (hR2.same s2))) (.lst (SqL.of upd_same) .nil) (shaped_rows _) rfl (fun b2 hb2 => ?_)
    walk_at "rd"
    cases b2 with
    | true =>
      walk_at "rd"
      exact k _ _ (Same.ext s2) (P0.kept s2) ((T0.same s2).thg (by decide))
    | false =>
    have one : 0 < os.length := by
      cases os with
      | nil => exact absurd (hb2 rfl) (by decide)
      | cons a ds => simp
    have P2 := P0.kept s2
    have ht2 := s2 _ _ ht
    have hL2 := s2 _ _ hL
    have hRs := hR.same s2
    generalize upd (upd H q1 (.tup [])) q2 (.lst []) = H2 at *
    walk_at "rd"
    refine rd_take P2 (by omega) (by omega) (fun at' H3 a3 b3 P3 C3 => ?_)
    have ht3 := C3.get (P2.net ht2) ht2
    have hL3 := C3.get hlp hL2
    walk_at "rd"
    refine rd_take P3 (by omega) (by omega) (fun out H4 a4 b4 P4 C4 => ?_)
    have ht4 := C4.get (P3.net ht3) ht3
    have hR4 : Rows H4 ts (ds.map t3) := (hRs.mono (P2.ts C3.ext)).mono (P3.ts C4.ext)
    obtain ⟨j, rfl⟩ : ∃ j : Nat, at' = j := ⟨at'.toNat, by omega⟩
    obtain ⟨v, hv⟩ : ∃ v, ts[j]? = some v := ⟨ts[j]'(by omega), List.getElem?_eq_getElem _⟩
    obtain ⟨d, tt, hd, rfl, htt⟩ := rows_at hR4 hv
    replace htt : H4 tt = some (.tup [.int d.1, .int d.2.1, .int d.2.2]) := htt
    have hd' := hd1 d (List.mem_of_getElem? hd)
    walk_at "rd"
    refine rd_ixT ht4 (atI_nat hv) ?_
    walk_at "rd"
    refine rd_take P4 (by omega) (by omega) (fun much H5 a5 b5 P5 C5 => ?_)
    have e5 : Ext p H H5 := ((Same.ext s2).trans C3.ext).trans (C4.ext.trans C5.ext)
    have ht5 := C5.get (P4.net ht4) ht4
    have hR5 : Rows H5 ts (ds.map t3) := hR4.mono (P4.ts C5.ext)
    walk_at "rd"
    intro r1 hr1
    have u1 := Same.new (o := .tup [.int d.1, .int d.2.1, .int (d.2.2 - (1 + much))]) hr1
    walk_at "rd"
    intro r2 hr2
    have u2 := u1.trans (Same.new (o := .lst [.ref r1]) hr2)
    have hr1' : upd (upd H5 r1 (.tup [.int d.1, .int d.2.1, .int (d.2.2 - (1 + much))])) r2 (.lst [.ref r1]) r1 = some (.tup [.int d.1, .int d.2.1, .int (d.2.2 - (1 + much))]) := by walk_at "hp"
    have hr2' : upd (upd H5 r1 (.tup [.int d.1, .int d.2.1, .int (d.2.2 - (1 + much))])) r2 (.lst [.ref r1]) r2 = some (.lst [.ref r1]) := upd_same
    generalize upd (upd H5 r1 (.tup [.int d.1, .int d.2.1, .int (d.2.2 - (1 + much))])) r2 (.lst [.ref r1]) = J2 at *
    walk_at "rd"
    refine rd_rep01 hr2' (fun r3 x3 hr3 hx3 hl3 => ?_)
    have w3 := Same.new (o := .lst x3) hr3
    have u3 := u2.trans w3
    have hr1'' := w3 _ _ hr1'
    have hr3' : upd J2 r3 (.lst x3) r3 = some (.lst x3) := upd_same
    generalize upd J2 r3 (.lst x3) = J3 at *
    walk_at "rd"
    intro dd hdd
    have w4 := Same.new (o := .dT []) hdd
    have u4 := u3.trans w4
    have hd4 : upd J3 dd (.dT []) dd = some (.dT []) := upd_same
    have hr14 := w4 _ _ hr1''
    have hr34 := w4 _ _ hr3'
    generalize upd J3 dd (.dT []) = J4 at *
    walk_at "rd"
    refine rd_cutR (u4 _ _ ht5) (fun c1 J5 y1 w5 hc1 hy1 ly1 => ?_)
    walk_at "rd"
    refine ⟨c1, y1, rfl, .inr (SqT.of hc1), fun l1 hl1 => ?_⟩
    have w6 := w5.trans (Same.new (o := .lst y1) hl1)
    have hl1' : upd J5 l1 (.lst y1) l1 = some (.lst y1) := upd_same
    generalize upd J5 l1 (.lst y1) = J6 at *
    walk_at "rd"
    refine rd_cat hl1' (w6 _ _ hr34) (Nat.le_of_lt (small1000 (by omega))) (fun l2 hl2 => ?_)
    have w7 := w6.trans (Same.new (o := .lst (y1 ++ x3)) hl2)
    have hl2' : upd J6 l2 (.lst (y1 ++ x3)) l2 = some (.lst (y1 ++ x3)) := upd_same
    generalize upd J6 l2 (.lst (y1 ++ x3)) = J7 at *
    walk_at "rd"
    intro o1 ho1
    have w8 := Same.new (o := .tup [.int d.1, .int out, .int (1 + much)]) ho1
    have ho1' : upd J7 o1 (.tup [.int d.1, .int out, .int (1 + much)]) o1 = some (.tup [.int d.1, .int out, .int (1 + much)]) := upd_same
    have hl28 := w8 _ _ hl2'
    replace w8 := w7.trans w8
    generalize upd J7 o1 (.tup [.int d.1, .int out, .int (1 + much)]) = J8 at *
    walk_at "rd"
    intro o2 ho2
    have w9 := Same.new (o := .lst [.ref o1]) ho2
    have ho19 := w9 _ _ ho1'
    have hl29 := w9 _ _ hl28
    have ho2' : upd J8 o2 (.lst [.ref o1]) o2 = some (.lst [.ref o1]) := upd_same
    replace w9 := w8.trans w9
    generalize upd J8 o2 (.lst [.ref o1]) = J9 at *
    walk_at "rd"
    refine rd_cat hl29 ho2' (Nat.le_of_lt (small1000 (by simp; omega))) (fun l3 hl3 => ?_)
    have w10 := Same.new (o := .lst (y1 ++ x3 ++ [.ref o1])) hl3
    have ho110 := w10 _ _ ho19
    have hl3' : upd J9 l3 (.lst (y1 ++ x3 ++ [.ref o1])) l3 = some (.lst (y1 ++ x3 ++ [.ref o1])) := upd_same
    replace w10 := w9.trans w10
    generalize upd J9 l3 (.lst (y1 ++ x3 ++ [.ref o1])) = J10 at *
    walk_at "rd"
    refine rd_cutR (w10 _ _ (u4 _ _ ht5)) (fun c2 J11 y2 w11 hc2 hy2 ly2 => ?_)
    have ho111 := w11 _ _ ho110
    have hl311 := w11 _ _ hl3'
    replace w11 := w10.trans w11
    walk_at "rd"
    refine ⟨c2, y2, rfl, .inr (SqT.of hc2), fun l4 hl4 => ?_⟩
    have w12 := Same.new (o := .lst y2) hl4
    have ho112 := w12 _ _ ho111
    have hl312 := w12 _ _ hl311
    have hl4' : upd J11 l4 (.lst y2) l4 = some (.lst y2) := upd_same
    replace w12 := w11.trans w12
    generalize upd J11 l4 (.lst y2) = J12 at *
    walk_at "rd"
    refine rd_cat hl312 hl4' (Nat.le_of_lt (small1000 (by simp; omega))) (fun l5 hl5 => ?_)
    have w13 := Same.new (o := .lst (y1 ++ x3 ++ [.ref o1] ++ y2)) hl5
    have ho113 := w13 _ _ ho112
    have hl5' : upd J12 l5 (.lst (y1 ++ x3 ++ [.ref o1] ++ y2)) l5 = some (.lst (y1 ++ x3 ++ [.ref o1] ++ y2)) := upd_same
    replace w13 := w12.trans w13
    generalize upd J12 l5 (.lst (y1 ++ x3 ++ [.ref o1] ++ y2)) = J13 at *
    have u13 := u4.trans w13
    have hd13 := w13 _ _ hd4
    have all3 : ∀ v ∈ y1 ++ x3 ++ [.ref o1] ++ y2, R3 J13 v := by
      intro v hv
      have old : ∀ y ∈ ts, R3 J13 y := fun y hy => (R3.rows hR5 y hy).ts (Same.ts u13)
      rcases List.mem_append.mp hv with hv | hv
      · rcases List.mem_append.mp hv with hv | hv
        · rcases List.mem_append.mp hv with hv | hv
          · exact old v (hy1 v hv)
          · rw [hx3 v hv]
            exact ⟨r1, _, _, _, rfl, w13 _ _ hr14⟩
        · simp at hv
          exact ⟨o1, _, _, _, hv, ho113⟩
      · exact old v (hy2 v hv)
    have lbig : (y1 ++ x3 ++ [V.ref o1] ++ y2).length ≤ 202 := by simp; omega
    have nld : l5 ≠ dd := ne_kind hl5' hd13 (fun z => by cases z)
    generalize y1 ++ x3 ++ [.ref o1] ++ y2 = big at *
    walk_at "rd"
    refine loopW (walk_list (xs := big)) (fun i σ G => ∃ (kvs : List (List Key × V)) (v11 v12 v13 : Option V), σ = [some (.ref p), some (.ref t), some (.ref l), some (.int (j : Nat)), some (.int out), some (.int d.1), some (.int d.2.1), some (.int d.2.2), some (.int (1 + much)), some (.ref r3), some (.ref dd), v11, v12, v13, none] ∧
      Ext dd J13 G ∧ G dd = some (.dT kvs) ∧ D2 kvs ∧ kvs.length ≤ i) ⟨[], none, none, none, rfl, Ext.refl, hd13, (fun x hx => by cases hx), Nat.le_refl _⟩ (fun i σ G _ ⟨_, _, _, _, _, eG, _⟩ => SqL.of (eG.get nld hl5')) ?_ ?_
    · rintro i x σ G G' hi ⟨kvs, v11, v12, v13, rfl, eG, hdG, d2, lk⟩ ⟨rfl, y⟩
      obtain ⟨tx, a, b, c, rfl, htx⟩ := all3 x (List.mem_of_getElem? y)
      have ndx : tx ≠ dd := ne_kind htx hd13 (fun z => by cases z)
      have htG := eG.get ndx htx
      walk_at "rd"
      refine ⟨dd, rfl, .inr ⟨kvs, .inl hdG⟩, ?_⟩
      walk_at "rd"
      intro q1 hq1
      have nd1 : dd ≠ q1 := ne_of_none hdG hq1
      walk_at "rd"
      obtain ⟨n, hn⟩ := d2.get [.inl a, .inl b]
      refine ⟨_, DGet.t (k := [.inl a, .inl b]) (by walk_at "hp") upd_same, ?_⟩
      rw [hn]
      walk_at "rd"
      intro q2 hq2
      have nd2 : dd ≠ q2 := ne_of_none (upd_get nd1 hdG) hq2
      walk_at "rd"
      refine ⟨dd, _, rfl, DPut.t (kvs := kvs) (k := [.inl a, .inl b]) (by walk_at "hp") upd_same (small1000 (by omega)), ?_⟩
      refine ⟨_, _, _, _, rfl, ?_, upd_same, d2.put a b _, ?_⟩
      · have e2 := (eG.new (o := .tup [.int a, .int b]) hq1).new (o := .tup [.int a, .int b]) hq2
        exact fun b' o n' h' => (upd_ne n').trans (e2 b' o n' h')
      · have := put_len kvs [.inl a, .inl b] (.int (n + c))
        omega
    · rintro σ G ⟨kvs, v11, v12, v13, rfl, eG, hdG, d2, lk⟩
      have PG : Purse G p := by
        have P13 := P5.kept u13
        obtain ⟨x1, x2, x3, x4, x5⟩ := P13
        exact ⟨x1, x2, x3, eG p _ (ne_kind x4 hd13 (fun z => by cases z)) x4, x5⟩
      have eAll : Ext p H G := by
        intro b o nb hb
        have h1 := u13 _ _ (e5 b o nb hb)
        have nb2 : b ≠ dd := fun z => by
          have h2 := u3 _ _ (e5 b o nb hb)
          rw [z, hdd] at h2
          cases h2
        exact eG b o nb2 h1
      walk_at "rd"
      refine ⟨dd, kvs, rfl, .inl hdG, d2.alike, fun x hx => ?_, fun bs p' isk hp' => ?_⟩
      · obtain ⟨a, b, n, rfl⟩ := d2 x hx
        exact fun z => by cases z
      have s14 := Same.new (o := .lst (sortZ ((kvs.zip bs).map fun x => (V.ref x.2, tupD x.1.1)))) hp'
      have lenS : (sortZ ((kvs.zip bs).map fun x => (V.ref x.2, tupD x.1.1))).length ≤ 202 := by
        rw [sortZ_len, List.length_map, List.length_zip]
        omega
      have keyAt : ∀ v ∈ sortZ ((kvs.zip bs).map fun x => (V.ref x.2, tupD x.1.1)), ∃ (bk : Addr) (a b n : Int), v = .ref bk ∧ G bk = some (.tup [.int a, .int b]) ∧ valV kvs [.inl a, .inl b] = some (.int n) := by
        intro v hv
        obtain ⟨z, hz, rfl⟩ := sortZ_mem hv
        obtain ⟨x, hx, rfl⟩ := List.mem_map.mp hz
        have h1 := paired_zip isk x hx
        have hm : x.1 ∈ kvs := (List.of_mem_zip hx).1
        obtain ⟨n, hn⟩ := d2.has hm
        obtain ⟨a, b, n', e⟩ := d2 x.1 hm
        rw [e] at h1 hn
        exact ⟨x.2, a, b, n, rfl, h1, hn⟩
      have hps : upd G p' (.lst (sortZ ((kvs.zip bs).map fun x => (V.ref x.2, tupD x.1.1)))) p' = some (.lst (sortZ ((kvs.zip bs).map fun x => (V.ref x.2, tupD x.1.1)))) := upd_same
      have hd14 := s14 _ _ hdG
      generalize upd G p' (.lst (sortZ ((kvs.zip bs).map fun x => (V.ref x.2, tupD x.1.1)))) = G2 at *
      generalize sortZ ((kvs.zip bs).map fun x => (V.ref x.2, tupD x.1.1)) = keys at *
      walk_at "rd"
      intro D hD
      refine lcA (p := D) (walk_list (xs := keys)) (fun i acc J => ∀ v ∈ acc, Thg J v) hD (by omega) (fun v hv => by cases hv) (fun H' e => SqL.of (e.get (ne_of_none hps hD) hps)) ?_ ?_
      · rintro i x J J' acc M hi e q la a ⟨rfl, y⟩ k1 k2
        obtain ⟨bk, ka, kb, n, rfl, hbk, hvn⟩ := keyAt x (List.mem_of_getElem? y)
        have hbk2 := s14 _ _ hbk
        have hbJ := e.get (ne_of_none hbk2 hD) hbk2
        have hdJ := e.get (ne_of_none hd14 hD) hd14
        walk_at "rd"
        refine ⟨rfl, ?_⟩
        walk_at "rd"
        refine ⟨dd, .int n, rfl, by have := DGet.t (k := [.inl ka, .inl kb]) hdJ hbJ; rw [hvn] at this; exact this, ?_⟩
        walk_at "rd"
        intro q1 hq1
        have sq := Same.new (o := .tup [.int n]) hq1
        walk_at "rd"
        refine rd_catS (n := 2) (m := 1) ⟨_, [.int ka, .int kb], sq _ _ hbJ, .cons (.int _) (.cons (.int _) .nil), by simp⟩ (TupS.one upd_same (.int n)) (by decide) (fun c J2 sc hc => ?_)
        have sJ := sq.trans sc
        have qJ := sJ _ _ q
        refine k1 _ _ (e.trans (Same.ext sJ)) qJ ?_
        intro v hv
        rcases List.mem_append.mp hv with hv | hv
        · exact ((a v hv).same sJ).kin (Kin.updL qJ)
        · simp at hv
          subst hv
          exact (hc.thg (by decide)).kin (Kin.updL qJ)
      · intro J acc e q la a
        walk_at "rd"
        refine rd_tupOf q (fun r hr' => ?_)
        have sr := Same.new (o := .tup acc) hr'
        have s15 : Same G J := fun b o hb => e b o (ne_of_none (s14 _ _ hb) hD) (s14 _ _ hb)
        have s16 := s15.trans sr
        exact k _ _ (eAll.trans (Same.ext s16)) (PG.kept s16) (.tup upd_same (fun x hx => (a x hx).same sr) (by omega))
end
end Sk
end

section
namespace Sk
open PySem L2
/-! what dealings come to -/
def entSh (d : Ent) : Sh := .tup [.int d.1, .int d.2.1, .int d.2.2]
theorem entOf_sh (ds : List Ent) : (ds.map entSh).map entOf = ds := by
  rw [List.map_map]
  have : (entOf ∘ entSh) = id := by funext d; rfl
  rw [this, List.map_id]
theorem lex_true {a b c d : Int} (h : a < c ∨ (a = c ∧ b < d)) : HT.lexLt [a, b] [c, d] = true := by
  rw [HT.lexLt_cons, HT.lexLt_cons, HT.lexLt_nil_nil]
  rcases h with h | ⟨h, h'⟩
  · rw [if_neg (by omega)]; exact decide_eq_true h
  · rw [if_pos h, if_neg (by omega)]; exact decide_eq_true h'
/-- what the law deals is a dealing -/
theorem deal_good {os : List (Int × Int × Int)} {bs : List (Int × Int)} {ds : List Ent} (h : DealOk os bs ds) : dealB os bs (.tup (ds.map entSh)) = true := by
  rw [← deal_end, entOf_sh, Bool.and_eq_true, List.all_eq_true, List.all_eq_true]
  · refine ⟨fun n hn => ?_, fun n hn => ?_⟩
    · unfold freeOf at hn
      obtain ⟨k, hk, rfl⟩ := List.mem_map.mp hn
      have := h.cap k (List.mem_range.mp hk)
      simp
      omega
    · unfold brest at hn
      obtain ⟨k, hk, rfl⟩ := List.mem_map.mp hn
      have := h.all k _ (bAt_some (List.mem_range.mp hk))
      simp
      omega
  · intro s hs
    obtain ⟨d, hd, rfl⟩ := List.mem_map.mp hs
    rfl
  · intro s hs
    obtain ⟨d, hd, rfl⟩ := List.mem_map.mp hs
    obtain ⟨e1, e2, kk, ek, hk, x, hx, hday⟩ := h.ent d hd
    have hj : d.1.toNat < bs.length := (List.getElem?_eq_some_iff.mp hx).1
    refine ⟨d.1.toNat, kk, ?_, hj, ek, hk, e2, ?_⟩
    · show d.1 = _
      omega
    · rw [bAt_eq hx]
      exact hday
  · intro i d d' h1 h2
    rw [entOf_sh] at h1 h2
    obtain ⟨l1, rfl⟩ := List.getElem?_eq_some_iff.mp h1
    obtain ⟨l2, rfl⟩ := List.getElem?_eq_some_iff.mp h2
    exact lex_true (List.pairwise_iff_getElem.mp h.rise i (i + 1) l1 l2 (Nat.lt_succ_self _))
theorem tk_swap (fs : List Ent) (k : Int) : bk (fs.map fun d => (d.2.1, d.1, d.2.2)) k = tk fs k := by
  induction fs with
  | nil => rfl
  | cons d fs ih => rw [List.map_cons, bk_cons, tk_cons, ih]
theorem total_swap (fs : List Ent) : total (fs.map fun d => (d.2.1, d.1, d.2.2)) = total fs := by
  unfold total
  rw [List.map_map]
  rfl
theorem range_nodup (n : Nat) : ((List.range n).map fun (k : Nat) => (k : Int)).Nodup := by
  unfold List.Nodup
  rw [List.pairwise_map]
  exact List.Pairwise.imp (fun {a b} h e => h (Int.ofNat.inj e)) List.nodup_range
theorem range_bs (bs : List (Int × Int)) : (List.range bs.length).map (fun k => (bAt bs k).2) = bs.map fun b => b.2 := by
  apply List.ext_getElem?
  intro i
  by_cases h : i < bs.length
  · rw [List.getElem?_map, List.getElem?_map, List.getElem?_range h, bAt_some h]
    rfl
  · rw [List.getElem?_eq_none (by simp; omega), List.getElem?_eq_none (by simp; omega)]
theorem range_os (os : List (Int × Int × Int)) : (List.range os.length).map (fun k => (oAt os k).2.1) = os.map fun b => b.2.1 := by
  apply List.ext_getElem?
  intro i
  by_cases h : i < os.length
  · rw [List.getElem?_map, List.getElem?_map, List.getElem?_range h, oAt_some h]
    rfl
  · rw [List.getElem?_eq_none (by simp; omega), List.getElem?_eq_none (by simp; omega)]
/-- no more comes back than went out -/
theorem deal_total {os : List (Int × Int × Int)} {bs : List (Int × Int)} {s : Sh} (h : dealB os bs s = true) : (bs.map fun b => b.2).sum ≤ (os.map fun o => o.2.1).sum := by
  match s, h with
  | .tup ss, h =>
    simp only [dealB, Bool.and_eq_true, List.all_eq_true] at h
    obtain ⟨h1, _, h3, h4⟩ := h
    have inr : ∀ d ∈ ss.map entOf, InR os bs d := by
      intro d hd
      obtain ⟨s, hs, rfl⟩ := List.mem_map.mp hd
      obtain ⟨_, j, kk, e1, e2, e3, e4, _⟩ := part_of (h1 s hs)
      exact ⟨j, kk, e1, e2, e3, e4⟩
    generalize ss.map entOf = es at *
    have a1 := bk_all es _ (range_nodup bs.length) fun d hd => by
      obtain ⟨j, kk, e1, e2, _⟩ := inr d hd
      exact List.mem_map.mpr ⟨j, List.mem_range.mpr e2, e1.symm⟩
    have a2 := bk_all (es.map fun d => (d.2.1, d.1, d.2.2)) _ (range_nodup os.length) fun d hd => by
      obtain ⟨d0, hd0, rfl⟩ := List.mem_map.mp hd
      obtain ⟨j, kk, _, _, e3, e4⟩ := inr d0 hd0
      exact List.mem_map.mpr ⟨kk, List.mem_range.mpr e4, e3.symm⟩
    rw [total_swap, List.map_map] at a2
    rw [List.map_map] at a1
    have b1 : ((List.range bs.length).map (bk es ∘ fun (k : Nat) => (k : Int))).sum = (bs.map fun b => b.2).sum := by
      rw [← range_bs]
      refine sum_eq_of _ _ _ fun k hk => ?_
      have := h3 _ (List.mem_of_getElem? (brest_at (fs := es) (List.mem_range.mp hk)))
      simp at this
      show bk es k = _
      omega
    have b2 : ((List.range os.length).map (bk (es.map fun d => (d.2.1, d.1, d.2.2)) ∘ fun (k : Nat) => (k : Int))).sum ≤ (os.map fun o => o.2.1).sum := by
      rw [← range_os]
      refine sum_le_of _ _ _ fun k hk => ?_
      have := h4 _ (List.mem_of_getElem? (free_at (fs := es) (List.mem_range.mp hk)))
      simp at this
      show bk (es.map fun d => (d.2.1, d.1, d.2.2)) k ≤ _
      rw [tk_swap]
      omega
    omega
theorem sum_most (os : List (Int × Int × Int)) (m : Int) (hm : 0 ≤ m) (h : ∀ o ∈ os, o.2.1 ≤ m) : (os.map fun o => o.2.1).sum ≤ m * os.length := by
  induction os with
  | nil => simp
  | cons o os ih =>
    have h1 := h o (by simp)
    have h2 := ih fun o ho => h o (by simp [ho])
    simp only [List.map_cons, List.sum_cons, List.length_cons]
    rw [Int.natCast_add, Int.mul_add]
    omega
theorem there_all (os : List (Int × Int × Int)) (D : Int) (h : ∀ o ∈ os, 0 ≤ o.2.1) : there os D ≤ (os.map fun o => o.2.1).sum := by
  unfold there
  induction os with
  | nil => simp
  | cons o os ih =>
    have h1 := h o (by simp)
    have h2 := ih fun o ho => h o (by simp [ho])
    rw [List.filter_cons]
    split
    · simp only [List.map_cons, List.sum_cons]
      omega
    · simp only [List.map_cons, List.sum_cons]
      omega
theorem backs_le {os : List (Int × Int × Int)} {bs : List (Int × Int)} (O : OutsOk os) (B : BacksOk os bs) : (bs.map fun b => b.2).sum ≤ (os.map fun o => o.2.1).sum := by
  have nn : ∀ o ∈ os, 0 ≤ o.2.1 := fun o ho => by have := (O.bnd o ho).2.1.1; omega
  by_cases h : bs.length = 0
  · have : bs = [] := List.eq_nil_of_length_eq_zero h
    subst this
    have := there_all os 0 nn
    have z : 0 ≤ there os 0 := by
      unfold there
      refine sum_nn _ fun x hx => ?_
      obtain ⟨o, ho, rfl⟩ := List.mem_map.mp hx
      exact nn o (List.mem_filter.mp ho).1
    simp
    omega
  · obtain ⟨b, hb⟩ : ∃ b, bs[bs.length - 1]? = some b := ⟨bs[bs.length - 1]'(by omega), List.getElem?_eq_getElem _⟩
    have h1 := B.fit _ b hb
    rw [List.take_of_length_le (by omega)] at h1
    exact Int.le_trans h1 (there_all os b.1 nn)
end Sk
end

section
namespace Sk
open PySem L2
local macro_rules | `(tactic| walk_at "kb") => `(tactic| first | exact kb_int_int | exact kb_int_bool | exact kb_int_str | exact kb_int_tuple | exact kb_int_list | exact kb_tuple_int | exact kb_tuple_bool | exact kb_tuple_str | exact kb_tuple_tuple | exact kb_tuple_list | exact kb_list_int | exact kb_list_bool | exact kb_list_str | exact kb_list_tuple | exact kb_list_list | exact kb_bool_int | exact kb_bool_bool | exact kb_bool_str | exact kb_bool_tuple | exact kb_bool_list | exact kb_str_int | exact kb_str_bool | exact kb_str_str | exact kb_str_tuple | exact kb_str_list | exact kb_dict_int | exact kb_dict_bool | exact kb_dict_str | exact kb_dict_tuple | exact kb_dict_list | exact kb_NoneType_int | exact kb_NoneType_bool | exact kb_NoneType_str | exact kb_NoneType_tuple | exact kb_NoneType_list)
local macro_rules | `(tactic| walk_at "hp") => `(tactic| first
  | assumption
  | exact upd_same
  | (refine' upd_get ?n ?e; (case n => walk_at "ne"); (case e => walk_at "hp"))
  | (refine' But.get (by assumption) ?n ?e; (case n => walk_at "ne"); (case e => walk_at "hp"))
  | (refine' Ext.get (by assumption) ?n ?e; (case n => walk_at "ne"); (case e => walk_at "hp"))
  | (refine' same_get (by assumption) ?e; (case e => walk_at "hp")))
local macro_rules | `(tactic| walk_at "ne") => `(tactic| first
  | assumption
  | (apply Ne.symm; assumption)
  | (refine' ne_of_none ?h (by assumption); (case h => walk_at "hp"))
  | (apply Ne.symm; refine' ne_of_none ?h (by assumption); (case h => walk_at "hp")))
local macro_rules | `(tactic| walk_at "sd") => `(tactic| first
  | (show (0 : Int) < _; omega)
  | (simp only [CMul, CDiv]; omega)
  | exact ⟨by omega, by omega⟩)
local macro_rules | `(tactic| walk_at "rd1") => `(tactic| first
  | with_reducible refine' rd_c ?_
  | ((with_reducible refine' rd_var ?h ?_); (case h => exact rfl))
  | with_reducible refine' rd_op ?_
  | with_reducible refine' rd_seq ?_
  | with_reducible refine' rd_asg ?_
  | with_reducible refine' rd_gName ?_
  | with_reducible refine' rd_I0 ?_
  | ((with_reducible refine' rd_I ?c ?_); (case c => walk_at "sd"))
  | with_reducible refine' rd_eqI ?_
  | with_reducible refine' rd_neI ?_
  | with_reducible refine' rd_U ?_
  | with_reducible refine' rd_un ?_
  | with_reducible refine' rd_ret ?_
  | with_reducible refine' rd_drop ?_
  | with_reducible refine' rd_next ?_
  | with_reducible refine' rd_ifS ?_
  | with_reducible refine' rd_test ?_
  | with_reducible refine' rd_bl ?_
  | with_reducible refine' rd_nil ?_
  | with_reducible refine' rd_cons ?_
  | with_reducible refine' rd_tup ?_
  | with_reducible refine' rd_lst ?_
  | with_reducible refine' rd_call ?_
  | with_reducible refine' rd_cb ?_
  | with_reducible refine' rd_par ?_
  | with_reducible refine' rd_par2 ?_
  | with_reducible refine' rd_and ?_
  | with_reducible refine' rd_or ?_
  | with_reducible refine' rd_not ?_
  | with_reducible refine' rd_andV ?_
  | with_reducible refine' rd_orV ?_
  | with_reducible refine' rd_notV ?_
  | with_reducible refine' rd_if ?_
  | with_reducible refine' rd_gSub ?_
  | ((with_reducible refine' rd_ixL ?h ?e ?_); (case h => walk_at "hp"); (case e => exact rfl))
  | ((with_reducible refine' rd_ixT ?h ?e ?_); (case h => walk_at "hp"); (case e => exact rfl))
  | ((with_reducible refine' rd_setL ?h ?e ?_); (case h => walk_at "hp"); (case e => exact rfl))
  | ((with_reducible refine' rd_append ?h ?e ?_); (case h => walk_at "hp"); (case e => assumption))
  | (with_reducible refine' rd_bmL ?_)
  | ((with_reducible refine' And.intro (tyL ?h) ?_); (case h => walk_at "hp"))
  | ((with_reducible refine' And.intro (len_ok ?h) ?_); (case h => exact rfl))
  | with_reducible refine' rd_ex1 ?_
  | with_reducible refine' rd_ex2 ?_
  | with_reducible refine' rd_int1b ?_
  | ((with_reducible refine' rd_isiI ?e ?_); (case e => walk_at "kb"))
  | ((with_reducible refine' rd_isiB ?e ?_); (case e => walk_at "kb"))
  | ((with_reducible refine' rd_isiT ?h ?e ?_); (case h => walk_at "hp"); (case e => walk_at "kb"))
  | ((with_reducible refine' rd_isiL ?h ?e ?_); (case h => walk_at "hp"); (case e => walk_at "kb"))
  | ((with_reducible refine' rd_lenL ?h ?_); (case h => walk_at "hp"))
  | ((with_reducible refine' rd_lenT ?h ?_); (case h => walk_at "hp"))
  | ((with_reducible refine' rd_gTup ?h ?e ?_); (case h => walk_at "hp"); (case e => exact rfl))
  | with_reducible refine' rd_gCons ?_
  | with_reducible refine' rd_gNil ?_
  | with_reducible refine' rd_yes ?_
  | with_reducible refine' rd_for ?_
  | with_reducible refine' rd_lc ?_
  | with_reducible refine' rd_rng1 ?_
  | with_reducible refine' rd_iL ?_
  | with_reducible refine' rd_iT ?_
  | with_reducible refine' rd_iE ?_
  | with_reducible refine' rd_iZ ?_
  | ((with_reducible refine' rd_iL' ?h ?_); (case h => walk_at "hp"))
  | ((with_reducible refine' rd_iT' ?h ?_); (case h => walk_at "hp"))
  | ((with_reducible refine' rd_iE' ?h ?_); (case h => walk_at "hp"))
  | ((with_reducible refine' rd_iZ' ?h1 ?h2 ?_); (case h1 => walk_at "hp"); (case h2 => walk_at "hp"))
  | with_reducible refine' iteT ?_
  | with_reducible refine' iteF ?_)
local macro_rules | `(tactic| walk_at "rd") => `(tactic| repeat walk_at "rd1")
local macro_rules | `(tactic| walk_at "rd1") => `(tactic| first | with_reducible refine' rd_tB ?_ | with_reducible refine' iteNT ?_ | with_reducible refine' iteNF ?_ | with_reducible refine' rd_iEA (tam_cons tem_var tam_nil) ?_ | with_reducible refine' rd_iSA tem_var ?_ | with_reducible refine' rd_iZA (tam_cons tem_var (tam_cons tem_var tam_nil)) ?_ | with_reducible refine' rd_augS ?_ | with_reducible refine' rd_ip ?_ | with_reducible refine' rd_slTx ?_ | with_reducible refine' rd_slAx ?_ | with_reducible refine' rd_noP ?_ | with_reducible refine' rd_aP ?_)
local macro_rules | `(tactic| walk_at "rd1") => `(tactic| first | ((with_reducible refine' rd_isiN ?e ?_); (case e => walk_at "kb")) | ((with_reducible refine' rd_isiX ?e ?_); (case e => walk_at "kb")) | ((with_reducible refine' rd_isiD ?h ?e ?_); (case h => walk_at "hp"); (case e => walk_at "kb")))
local macro_rules | `(tactic| walk_at "rd1") => `(tactic| first | with_reducible refine' rd_aPx ?_ | with_reducible refine' rd_exI ?_ | with_reducible refine' rd_revT ?_ | with_reducible refine' rd_dnew ?_)
local macro_rules | `(tactic| walk_at "rd1") => `(tactic| first | with_reducible refine' rd_callN ?_ | with_reducible refine' rd_neB ?_ | with_reducible refine' rd_isnB ?_)
def byDBO {α : Type} : List α → List α
  | [d, b, o] => [o, b, d]
  | _ => []
theorem rd_neB {b c : Bool} {H : Hp} {Q : VK} (k : Q (.bl (!decide (b = c))) H) : rNe (.bl b) (.bl c) H Q := by
  refine ⟨rfl, ?_⟩
  have : decide (V.bl b = V.bl c) = decide (b = c) := by
    cases b <;> cases c <;> rfl
  rw [this]
  exact k
theorem rd_isnB {b c : Bool} {H : Hp} {Q : VK} (k : Q (.bl (!decide (b = c))) H) : ∃ x y, V.bl b = .bl x ∧ V.bl c = .bl y ∧ Q (.bl (!decide (x = y))) H := ⟨b, c, rfl, rfl, k⟩
theorem rd_eqSame {K : PySem.W.Frag} {H : Hp} {Q : VK} {x y : V} {d : PyData} (h1 : Dp K H x d) (h2 : Dp K H y d) (s : SeqAt.shaped d = true) (k : Q (.bl true) H) : rEqD K x y H Q := by
  refine ⟨d, d, h1, h2, s, s, ?_⟩
  rw [SeqAt.eqv_refl d (SeqAt.canLay_of_shaped s)]
  exact k
local macro_rules | `(tactic| walk_at "rd1") => `(tactic| first | with_reducible refine' rd_neB ?_ | with_reducible refine' rd_isnB ?_)
theorem rd_par3 {i j l : Nat} {ta : TA} {D : Ends} {σ : St} {H : Hp} (k : ta σ H fun vs H1 => ∃ u v w, vs = [u, v, w] ∧ D.nx (((σ.set i (some u)).set j (some v)).set l (some w)) H1) : tPar3 i j l ta D σ H := k
local macro_rules | `(tactic| walk_at "rd1") => `(tactic| with_reducible refine' rd_par3 ?_)
theorem day_at {H : Hp} {us ws : List V} {os : List (Int × Int × Int)} {bs : List (Int × Int)} (h1 : Rows H us (os.map t3)) (h2 : Rows H ws (bs.map t2)) {i : Nat} {x : V} (h : (us ++ ws)[i]? = some x) :
    ∃ (tt : Addr) (n : Int) (rest : List V), x = .ref tt ∧ H tt = some (.tup (.int n :: rest)) ∧ ((os.map fun o => o.1) ++ (bs.map fun b => b.1))[i]? = some n := by
  have l1 : us.length = os.length := by rw [h1.length, List.length_map]
  by_cases c : i < us.length
  · rw [List.getElem?_append_left c] at h
    obtain ⟨o, tt, ho, e, ht⟩ := rows_at h1 h
    refine ⟨tt, o.1, _, e, ht, ?_⟩
    rw [List.getElem?_append_left (by rw [List.length_map]; omega), List.getElem?_map, ho]
    rfl
  · rw [List.getElem?_append_right (by omega)] at h
    obtain ⟨o, tt, ho, e, ht⟩ := rows_at h2 h
    refine ⟨tt, o.1, _, e, ht, ?_⟩
    rw [List.getElem?_append_right (by rw [List.length_map]; omega), List.length_map, ← l1, List.getElem?_map, ho]
    rfl
def spRight : Sp := fun vs H Q _ => ∃ p : Addr, vs = [.ref p] ∧ Purse H p ∧ ∀ H', Ext p H H' → Q (.bl true) H'
abbrev NR : List Str := ["_law_purse_here", "_law_most", "_law_much", "_law_way", "_law_sent", "_law_came", "_law_good", "_law_some", "_law_lines", "_law_it", "_law_told", "_law_far", "_law_beyond", "_law_turn", "_law_row"]
abbrev sRight : Stmt := top 33
theorem scRight : FnScope NR ["_law_purse_here"] (defScope sRight) := ⟨rfl, rfl, rfl, by decide +kernel, rfl, by decide +kernel, by decide +kernel⟩
section
variable {P : Program} {w : World} {K : PySem.W.Frag} {mg : Str → Option Value} {base : Heap}
theorem ok_right {f fT fO fB fD fR fV fE fI fL : Addr} {fd fdT fdO fdB fdD fdR fdV fdE fdI fdL : FuncData} (F : Fun K "_law_right" "_law_right" sRight f fd) (T : Free mg)
    (dT : Def P w K mg base "_law_take" 1 fT fdT ["_law_purse_here", "_law_many"] spTake) (dOuts : Def P w K mg base "_law_outs" 2 fO fdO ["_law_purse_here", "_law_many", "_law_most"] spOuts)
    (dBacks : Def P w K mg base "_law_backs" 2 fB fdB ["_law_purse_here", "_law_sent", "_law_many"] spBacks) (dDealt : Def P w K mg base "_law_dealt" 1 fD fdD ["_law_sent", "_law_came", "_law_ranks"] spDealt)
    (dRanks : Def P w K mg base "_law_any_ranks" 2 fR fdR ["_law_purse_here", "_law_sent"] spRk) (dMoved : Def P w K mg base "_law_moved" 2 fV fdV ["_law_purse_here", "_law_deal_of", "_law_sent"] spMv)
    (dBent : Def P w K mg base "_law_bent" 4 fE fdE ["_law_purse_here", "_law_old"] (spBent 2)) (dIsD : Def P w K mg base "is_dealing" 5 fI fdI ["outs", "backs", "thing"] spIsDB)
    (kIsD : KBn K fdI ["outs", "backs", "thing"] 0 ["thing", "backs", "outs"] (fun _ => byDBO) (fun _ => byDBO)) (dLD : Def P w K mg base "_law_is_dealing" 3 fL fdL ["_law_sent", "_law_came", "_law_it"] spLD) :
    FnOk P w K mg base CX0 9 f fd ["_law_purse_here"] spRight := by
  refine F.ok scRight (fun vs H Q E h => ?_) (fun cdv A outer s H vs Q E hr h => ?_)
  · obtain ⟨p, rfl, _⟩ := h
    rfl
  · obtain ⟨p, rfl, P0, k⟩ := h
    refine ⟨_, (pss_cons (ps_par3 (i := 1) (j := 2) (l := 3) (by rfl) scRight.nd rfl rfl rfl (by decide) (by decide) (by decide) rfl rfl rfl (pa_cons (pe_ix (ix_listK (K := K) rfl) (pe_lst (pa_cons pe_int (pa_cons pe_int pa_nil))) (pe_callTy call_int1 (by rfl) T.int_ (by decide +kernel) (pa_cons (pe_cmpR op_eq (pe_call dT.ok (hr.mono (by decide)) (by rfl) dT.mg dT.kp dT.bd .nil pass0 (pa_cons (pv 0) (pa_cons pe_int pa_nil))) pe_int (nomark _)) pa_nil)) (fun _ _ => rfl)) (pa_cons (pe_ix (ix_listK (K := K) rfl) (pe_lst (pa_cons pe_int (pa_cons pe_int (pa_cons pe_int pa_nil)))) (pe_call dT.ok (hr.mono (by decide)) (by rfl) dT.mg dT.kp dT.bd .nil pass0 (pa_cons (pv 0) (pa_cons pe_int pa_nil))) (fun _ _ => rfl)) (pa_cons (pe_call dT.ok (hr.mono (by decide)) (by rfl) dT.mg dT.kp dT.bd .nil pass0 (pa_cons (pv 0) (pa_cons pe_int pa_nil))) pa_nil))) (by rfl)) 
      (pss_cons (ps_set (i := 4) scRight.nd rfl (by first | exact Or.inl rfl | exact Or.inr rfl) (pe_call dOuts.ok (hr.mono (by decide)) (by rfl) dOuts.mg dOuts.kp dOuts.bd .nil pass0 (pa_cons (pv 0) (pa_cons (pe_call dT.ok (hr.mono (by decide)) (by rfl) dT.mg dT.kp dT.bd .nil pass0 (pa_cons (pv 0) (pa_cons (pv 1) pa_nil))) (pa_cons (pv 2) pa_nil))))) 
      (pss_cons (ps_set (i := 5) scRight.nd rfl (by first | exact Or.inl rfl | exact Or.inr rfl) (pe_call dBacks.ok (hr.mono (by decide)) (by rfl) dBacks.mg dBacks.kp dBacks.bd .nil pass0 (pa_cons (pv 0) (pa_cons (pv 4) (pa_cons (pe_call dT.ok (hr.mono (by decide)) (by rfl) dT.mg dT.kp dT.bd .nil pass0 (pa_cons (pv 0) (pa_cons (pv 1) pa_nil))) pa_nil))))) 
      (pss_cons (ps_set (i := 6) scRight.nd rfl (by first | exact Or.inl rfl | exact Or.inr rfl) (pe_call dDealt.ok (hr.mono (by decide)) (by rfl) dDealt.mg dDealt.kp dDealt.bd .nil pass0 (pa_cons (pv 4) (pa_cons (pv 5) (pa_cons (pe_call dRanks.ok (hr.mono (by decide)) (by rfl) dRanks.mg dRanks.kp dRanks.bd .nil pass0 (pa_cons (pv 0) (pa_cons (pv 4) pa_nil))) pa_nil))))) 
      (pss_cons (ps_set (i := 7) scRight.nd rfl (by first | exact Or.inl rfl | exact Or.inr rfl) (pe_op op_cat (pe_lst (pa_cons (pv 6) (pa_cons (pe_call dMoved.ok (hr.mono (by decide)) (by rfl) dMoved.mg dMoved.kp dMoved.bd .nil pass0 (pa_cons (pv 0) (pa_cons (pv 6) (pa_cons (pv 4) pa_nil)))) pa_nil))) (pe_lc (own := [("_law_turn", 13)]) (tt := tYes) rfl scRight.nd (pi_range1 (by rfl) T.range (pa_cons pe_int pa_nil)) (blkOk_by (N := NR) (sc := defScope sRight) (by decide +kernel)) (fun _ _ _ _ _ => (pg_name (i := 13) scRight.nd rfl (by first | exact Or.inl rfl | exact Or.inr rfl))) (fun _ _ _ _ _ => pts_nil) (fun _ _ _ _ _ => (pe_call dBent.ok (hr.mono (by decide)) (by rfl) dBent.mg dBent.kp dBent.bd .nil pass0 (pa_cons (pv 0) (pa_cons (pv 6) pa_nil))))))) 
      (pss_cons (ps_set (i := 8) scRight.nd rfl (by first | exact Or.inl rfl | exact Or.inr rfl) (pe_ix (ix_listK (K := K) rfl) (pe_lst (pa_cons (pv 4) (pa_cons (pe_callTy call_tuple_of (by rfl) T.tuple (by decide +kernel) (pa_cons (pv 4) pa_nil)) pa_nil))) (pe_op op_mod (pv 3) pe_int) (fun _ _ => rfl))) 
      (pss_cons (ps_for PassesOwn.never rfl (pi_listK (K := K) rfl (pe_op op_cat (pv 7) (pe_lst (pa_cons (pe_tup pa_nil) (pa_cons pe_non (pa_cons (pe_op (op_catAK (K := K) rfl) (pv 6) (pe_slice (sl_tupAK (K := K) rfl) (pv 6) po_none (po_some pe_int))) pa_nil)))))) (pg_name (i := 9) scRight.nd rfl (by first | exact Or.inl rfl | exact Or.inr rfl)) 
        (pss_cons (ps_if (pt_cmpR op_lt (pv 3) pe_int (nomark _)) 
          (pss_one (ps_set (i := 10) scRight.nd rfl (by first | exact Or.inl rfl | exact Or.inr rfl) (pe_call dIsD.ok (hr.mono (by decide)) (by rfl) dIsD.mg dIsD.kp dIsD.bd .nil pass0 (pa_cons (pv 8) (pa_cons (pe_callTy call_tuple_of (by rfl) T.tuple (by decide +kernel) (pa_cons (pv 5) pa_nil)) (pa_cons (pv 9) pa_nil)))))) 
          (pss_one (ps_set (i := 10) scRight.nd rfl (by first | exact Or.inl rfl | exact Or.inr rfl) (pe_callN0 dIsD.ok (hr.mono (by decide)) (by rfl) dIsD.mg dIsD.kp kIsD pass0 (pk_cons (pv 9) (pk_cons (pv 5) (pk_cons (pv 8) pk_nil))))))) 
        (pss_one (ps_if (PW.pt (pw_or (pt_not (pt_val (pe_callB (call_isi1 (K := K) rfl) (by rfl) T.isinstance (by decide +kernel) (pa_cons (pv 10) (pa_cons (pe_bltn (v := .ty "bool") (by rfl) T.bool_ (by decide +kernel) rfl) pa_nil))))) (pw_or1 (pt_cmpR op_ne (pv 10) (pe_call dLD.ok (hr.mono (by decide)) (by rfl) dLD.mg dLD.kp dLD.bd .nil pass0 (pa_cons (pv 4) (pa_cons (pv 5) (pa_cons (pv 9) pa_nil)))) (nomark _))))) 
          (pss_one (ps_ret pe_bl)) pss_nil)))) 
      (pss_cons (ps_set (i := 11) scRight.nd rfl (by first | exact Or.inl rfl | exact Or.inr rfl) (pe_callB (cr_max rfl) (by rfl) T.max (by decide +kernel) (pa_cons (pe_op op_cat (pe_lc (own := [("_law_row", 14)]) (tt := tYes) rfl scRight.nd (pi_listK (K := K) rfl (pe_op op_cat (pv 4) (pv 5))) (blkOk_by (N := NR) (sc := defScope sRight) (by decide +kernel)) (fun _ _ _ _ _ => (pg_name (i := 14) scRight.nd rfl (by first | exact Or.inl rfl | exact Or.inr rfl))) (fun _ _ _ _ _ => pts_nil) (fun _ _ _ _ _ => (pe_ix (ix_tupK (K := K) rfl) (pv 14) pe_int (fun _ _ => rfl)))) (pe_lst (pa_cons pe_int pa_nil))) pa_nil))) 
      (pss_cons (ps_set (i := 12) scRight.nd rfl (by first | exact Or.inl rfl | exact Or.inr rfl) (pe_op op_cat (pv 5) (pe_lst (pa_cons (pe_tup (pa_cons (pv 11) (pa_cons (pe_op op_sub (pe_op op_add (pe_callB (cr_sumK (K := K) rfl rfl) (by rfl) T.sum (by decide +kernel) (pa_cons (pe_lc (own := [("_law_row", 14)]) (tt := tYes) rfl scRight.nd (pi_listK (K := K) rfl (pv 4)) (blkOk_by (N := NR) (sc := defScope sRight) (by decide +kernel)) (fun _ _ _ _ _ => (pg_name (i := 14) scRight.nd rfl (by first | exact Or.inl rfl | exact Or.inr rfl))) (fun _ _ _ _ _ => pts_nil) (fun _ _ _ _ _ => (pe_ix (ix_tupK (K := K) rfl) (pv 14) pe_int (fun _ _ => rfl)))) pa_nil)) pe_int) (pe_callB (cr_sumK (K := K) rfl rfl) (by rfl) T.sum (by decide +kernel) (pa_cons (pe_lc (own := [("_law_row", 14)]) (tt := tYes) rfl scRight.nd (pi_listK (K := K) rfl (pv 5)) (blkOk_by (N := NR) (sc := defScope sRight) (by decide +kernel)) (fun _ _ _ _ _ => (pg_name (i := 14) scRight.nd rfl (by first | exact Or.inl rfl | exact Or.inr rfl))) (fun _ _ _ _ _ => pts_nil) (fun _ _ _ _ _ => (pe_ix (ix_tupK (K := K) rfl) (pv 14) pe_int (fun _ _ => rfl)))) pa_nil))) pa_nil))) pa_nil)))) 
      (pss_cons (ps_if (pt_val (pe_callB (cr_anyK (K := K) rfl rfl) (by rfl) T.any (by decide +kernel) (pa_cons (pe_lc (own := [("_law_it", 9)]) (tt := tYes) rfl scRight.nd (pi_listK (K := K) rfl (pv 7)) (blkOk_by (N := NR) (sc := defScope sRight) (by decide +kernel)) (fun _ _ _ _ _ => (pg_name (i := 9) scRight.nd rfl (by first | exact Or.inl rfl | exact Or.inr rfl))) (fun _ _ _ _ _ => pts_nil) (fun _ _ _ _ _ => (pe_cmpR op_isnot_bl (pe_call dIsD.ok (hr.mono (by decide)) (by rfl) dIsD.mg dIsD.kp dIsD.bd .nil pass0 (pa_cons (pv 4) (pa_cons (pv 12) (pa_cons (pv 9) pa_nil)))) pe_bl (nomark _)))) pa_nil))) 
        (pss_one (ps_ret pe_bl)) pss_nil) 
      (pss_one (ps_ret (pe_and (pe_call dLD.ok (hr.mono (by decide)) (by rfl) dLD.mg dLD.kp dLD.bd .nil pass0 (pa_cons (pv 4) (pa_cons (pv 5) (pa_cons (pv 6) pa_nil)))) (pe_one (pe_cmpR (op_eqDK (K := K) rfl hr.units) (pe_callTy call_list_of (by rfl) T.list (by decide +kernel) (pa_cons (pv 8) pa_nil)) (pv 4) (nomark _)))))))))))))))), ?_⟩
    walk_at "rd"
    intro q1 hq1
    have hq1p := P0.ne hq1
    walk_at "rd"
    refine rd_take (P0.upd hq1p) (by decide) (by decide) (fun r1 H1 a1 b1 P1 B1 => ?_)
    walk_at "rd"
    refine rd_ixI (ns := [7, 19]) (by walk_at "hp") (by split <;> omega) (by split <;> decide) (fun most hmost => ?_)
    have hmost' : most = 7 ∨ most = 19 := by simpa using hmost
    walk_at "rd"
    intro q2 hq2
    have hq2p := P1.ne hq2
    walk_at "rd"
    refine rd_take (P1.upd hq2p) (by decide) (by decide) (fun r2 H2 a2 b2 P2 B2 => ?_)
    refine rd_ixI (ns := [4, 40, 999]) (by walk_at "hp") a2 (by simpa using b2) (fun much hmuch => ?_)
    have hmuch' : 1 ≤ much ∧ much ≤ 999 := by simp at hmuch; omega
    walk_at "rd"
    refine rd_take P2 (by decide) (by decide) (fun way H2b a2b b2b P2b B2b => ?_)
    walk_at "rd"
    refine ⟨_, _, _, rfl, ?_⟩
    walk_at "rd"
    refine rd_take P2b (by omega) (by omega) (fun r3 H3 a3 b3 P3 B3 => ?_)
    walk_at "rd"
    refine ⟨p, r3, much, rfl, P3, ⟨a3, by omega⟩, ⟨by omega, by omega⟩, fun H4 l us os E4 P4 hl hL hR OK OM => ?_⟩
    have hlp : l ≠ p := P3.ne hl
    have E03 : Ext p H H3 := (((Ext.new Ext.refl hq1).trans B1.ext).new hq2).trans (B2.ext.trans (B2b.ext.trans B3.ext))
    walk_at "rd"
    refine rd_take P4 (by omega) (by omega) (fun r4 H5 a4 b4 P5 B5 => ?_)
    walk_at "rd"
    refine ⟨p, l, us, os, r4, rfl, P5, B5.get hlp hL, hlp, hR.mono (P4.ts B5.ext), OK, ⟨a4, by omega⟩, fun H6 m ws bs E6 P6 hm hM hW BK => ?_⟩
    have hmp : m ≠ p := P5.ne hm
    have B0 : Bun H p l m us ws os bs H6 := ⟨(E03.trans E4).trans (B5.ext.trans E6), P6, E6.get hlp (B5.get hlp hL), (hR.mono (P4.ts B5.ext)).mono (P5.ts E6), hM, hW⟩
    have hul := rows_len hR
    have hol := OK.len
    have hwl := rows_len hW
    have hbl := BK.len
    walk_at "rd"
    refine ⟨p, l, us, rfl, B0.pur, B0.hl, hlp, by omega, fun H7 q rk E7 P7 hq hQ hrk => ?_⟩
    have B7 := B0.ext2 hlp hmp E7 P7
    walk_at "rd"
    refine ⟨l, m, q, us, ws, os, bs, rk, rfl, B7.hl, B7.rl, OK, B7.hm, B7.rm, BK, hQ, by omega, fun H8 t ts ds s8 ht0 ht hT DK => ?_⟩
    have B8 := B7.same s8
    have lds := DK.len
    have lts : ts.length = ds.length := by rw [hT.length, List.length_map]
    have tp : t ≠ p := B8.pur.net ht
    have dmany : ∀ d ∈ ds, 1 ≤ d.2.2 ∧ d.2.2 ≤ 99999 := by
      intro d hd
      obtain ⟨e1, e2, kk, ek, hk, _⟩ := DK.ent d hd
      have h1 := le_tk (ds := ds) (d := d) (fun e he => by have := (DK.ent e he).2.1; omega) hd
      have h2 := DK.cap kk hk
      have h3 := (OK.bnd _ (List.mem_of_getElem? (oAt_some hk))).2.1.2
      rw [ek] at h1
      exact ⟨e2, by omega⟩
    walk_at "rd"
    refine ⟨p, t, l, ts, us, ds, os, rfl, B8.pur, ht, hT, by omega, dmany, B8.hl, B8.rl, by omega, hlp, fun H9 mv E9 P9 hmv => ?_⟩
    have B9 := B8.ext2 hlp hmp E9 P9
    have ht9 := E9.get tp ht
    have hT9 : Rows H9 ts (ds.map t3) := hT.mono (B8.pur.ts E9)
    walk_at "rd"
    intro q9 hq9
    have hq9p := P9.ne hq9
    have s9 := Same.new (o := .lst [V.ref t, mv]) hq9
    have B10 := B9.same s9
    have ht10 := s9 _ _ ht9
    have hT10 := hT9.same s9
    have hmv10 := hmv.same s9
    have hq9' : upd H9 q9 (.lst [V.ref t, mv]) q9 = some (.lst [V.ref t, mv]) := upd_same
    generalize upd H9 q9 (.lst [V.ref t, mv]) = H10 at *
    walk_at "rd"
    refine ⟨by decide, by decide, ?_⟩
    intro D hD
    have hDp := B10.pur.ne hD
    have puG : Pu 2 (.tup ((ds.map t3).map fun r => Sh.tup (r.map Sh.int))) := by
      refine .tup (fun s hs => ?_) (by simp; omega)
      obtain ⟨r, hr', rfl⟩ := List.mem_map.mp hs
      obtain ⟨d, hd, rfl⟩ := List.mem_map.mp hr'
      refine .tup (fun s hs => ?_) (by simp [t3])
      obtain ⟨n, hn, rfl⟩ := List.mem_map.mp hs
      exact .int _ _
    refine lcA (p := p) walk_range (fun i acc J => Purse J p ∧ ∀ v ∈ acc, Thg J v) hD (by decide) ⟨B10.pur.upd hDp, fun v hv => by cases hv⟩ (fun _ _ => True.intro) ?_ ?_
    · rintro j x J J' acc M hj e qJ la ⟨PJ, aJ⟩ ⟨rfl, rfl⟩ k1 k2
      have htJ := e.get tp ht10
      have hTJ : Rows J' ts (ds.map t3) := hT10.mono (B10.pur.ts e)
      walk_at "rd"
      refine ⟨rfl, ?_⟩
      walk_at "rd"
      refine ⟨p, .ref t, _, rfl, PJ, .tup htJ (ShAll.rows hTJ), puG, fun J1 y E1 PJ1 hy => ?_⟩
      have kn := Kin.ext PJ E1 PJ1
      have qJ1 := E1.get hDp qJ
      refine k1 _ _ (e.trans E1) qJ1 ⟨PJ1.upd hDp, fun v hv => ?_⟩
      rcases List.mem_append.mp hv with hv | hv
      · exact ((aJ v hv).kin kn).kin (Kin.updL qJ1)
      · simp at hv
        subst hv
        exact hy.kin (Kin.updL qJ1)
    · rintro G1 acc e1 qG1 la ⟨PG1, aG1⟩
      have B11 := B10.ext2 hlp hmp e1 PG1
      have ht11 := e1.get tp ht10
      have hT11 : Rows G1 ts (ds.map t3) := hT10.mono (B10.pur.ts e1)
      have nq9 : q9 ≠ p := hq9p
      have hq911 := e1.get nq9 hq9'
      have hmv11 := hmv10.kin (Kin.ext B10.pur e1 PG1)
      replace la : acc.length ≤ 6 := la
      walk_at "rd"
      refine rd_cat hq911 qG1 (Nat.le_of_lt (small1000 (by simp; omega))) (fun S hS => ?_)
      have s12 := Same.new (o := .lst ([V.ref t, mv] ++ acc)) hS
      have B12 := B11.same s12
      have ht12 := s12 _ _ ht11
      have hT12 := hT11.same s12
      have hS12 : upd G1 S (.lst ([V.ref t, mv] ++ acc)) S = some (.lst ([V.ref t, mv] ++ acc)) := upd_same
      have thg12 : ∀ v ∈ [V.ref t, mv] ++ acc, Thg (upd G1 S (.lst ([V.ref t, mv] ++ acc))) v := by
        intro v hv
        simp at hv
        rcases hv with rfl | rfl | hv
        · exact TupS.thg (n := 36) ⟨ts, _, ht12, ShAll.rows hT12, by omega⟩ (by decide)
        · exact hmv11.same s12
        · exact (aG1 v hv).same s12
      have lS : ([V.ref t, mv] ++ acc).length ≤ 8 := by simp; omega
      generalize upd G1 S (.lst ([V.ref t, mv] ++ acc)) = H12 at *
      generalize [V.ref t, mv] ++ acc = some' at *
      have hl12 := B12.hl
      have hm12 := B12.hm
      walk_at "rd"
      refine ⟨l, us, rfl, .inl ⟨SqL.of hl12, fun q3 hq3 => ?_⟩⟩
      walk_at "rd"
      intro q4 hq4
      walk_at "rd"
      have S24 : Same H12 (upd (upd H12 q3 (.tup us)) q4 (.lst [V.ref l, V.ref q3])) := same_new (same_new (Same.refl _) hq3) hq4
      obtain ⟨ln, hln, hlns⟩ : ∃ ln, atI [V.ref l, V.ref q3] (way % 2) = some (.ref ln) ∧ Seq (upd (upd H12 q3 (.tup us)) q4 (.lst [V.ref l, V.ref q3])) ln us := by
        have h2 : way % 2 = 0 ∨ way % 2 = 1 := by omega
        rcases h2 with e | e
        · exact ⟨l, by rw [e]; rfl, .inl (S24 _ _ hl12)⟩
        · exact ⟨q3, by rw [e]; rfl, .inr (by walk_at "hp")⟩
      refine rd_ixL upd_same hln ?_
      have B13 := B12.same S24
      have ht13 := S24 _ _ ht12
      have hT13 := hT12.same S24
      have hS13 := S24 _ _ hS12
      have thg13 : ∀ v ∈ some', Thg (upd (upd H12 q3 (.tup us)) q4 (.lst [V.ref l, V.ref q3])) v := fun v hv => (thg12 v hv).same S24
      generalize upd (upd H12 q3 (.tup us)) q4 (.lst [V.ref l, V.ref q3]) = H13 at *
      walk_at "rd"
      intro e1' he1
      have s14 := Same.new (o := .tup []) he1
      walk_at "rd"
      have T14 : TupS (upd H13 e1' (.tup [])) t 36 := TupS.same (H := H13) ⟨ts, _, ht13, ShAll.rows hT13, by omega⟩ s14
      have he14 : upd H13 e1' (.tup []) e1' = some (.tup []) := upd_same
      generalize upd H13 e1' (.tup []) = H14 at *
      refine rd_cutS T14 (fun c1 H15 s15 C1 => ?_)
      walk_at "rd"
      refine rd_catS (T14.same s15) C1 (by decide) (fun c2 H16 s16 C2 => ?_)
      have s136 := (s14.trans s15).trans s16
      have he16 := (s15.trans s16) _ _ he14
      walk_at "rd"
      intro q5 hq5
      have s17 := Same.new (o := .lst [V.ref e1', V.non, V.ref c2]) hq5
      have hq5' : upd H16 q5 (.lst [V.ref e1', V.non, V.ref c2]) q5 = some (.lst [V.ref e1', V.non, V.ref c2]) := upd_same
      have he17 := s17 _ _ he16
      have C2' := C2.same s17
      have s137 := s136.trans s17
      generalize upd H16 q5 (.lst [V.ref e1', V.non, V.ref c2]) = H17 at *
      walk_at "rd"
      refine rd_cat (s137 _ _ hS13) hq5' (Nat.le_of_lt (small1000 (by simp; omega))) (fun L hL' => ?_)
      have s18 := Same.new (o := .lst (some' ++ [V.ref e1', V.non, V.ref c2])) hL'
      have sAll := s137.trans s18
      have B18 := B13.same sAll
      have ht18 := sAll _ _ ht13
      have hT18 := hT13.same sAll
      have hS18 := sAll _ _ hS13
      have hln18 := hlns.mono sAll
      have hL18 : upd H17 L (.lst (some' ++ [V.ref e1', V.non, V.ref c2])) L = some (.lst (some' ++ [V.ref e1', V.non, V.ref c2])) := upd_same
      have thg18 : ∀ v ∈ some' ++ [V.ref e1', V.non, V.ref c2], Thg (upd H17 L (.lst (some' ++ [V.ref e1', V.non, V.ref c2]))) v := by
        intro v hv
        rcases List.mem_append.mp hv with hv | hv
        · exact (thg13 v hv).same sAll
        · simp at hv
          rcases hv with rfl | rfl | rfl
          · exact .tup (xs := []) (s18 _ _ he17) (by simp) (by simp)
          · exact .non
          · exact (C2'.same s18).thg (by decide)
      have lbig : (some' ++ [V.ref e1', V.non, V.ref c2]).length ≤ 11 := by simp; omega
      have thgS : ∀ v ∈ some', Thg (upd H17 L (.lst (some' ++ [V.ref e1', V.non, V.ref c2]))) v := fun v hv => (thg13 v hv).same sAll
      generalize upd H17 L (.lst (some' ++ [V.ref e1', V.non, V.ref c2])) = H18 at *
      generalize some' ++ [V.ref e1', V.non, V.ref c2] = big at *
      have shG : ∀ {G : Hp}, Same H18 G → ShR G (.ref t) (.tup (ds.map entSh)) := by
        intro G sG
        have h1 := ShAll.rows (hT18.same sG)
        rw [List.map_map] at h1
        exact .tup (sG _ _ ht18) h1
      walk_at "rd"
      refine loopW (walk_list (xs := big)) (fun i σ G => ∃ (v9 v10 : Option V), σ = [some (.ref p), some (.int most), some (.int much), some (.int way), some (.ref l), some (.ref m), some (.ref t), some (.ref S), some (.ref ln), v9, v10, none, none, none, none] ∧ Same H18 G)
        ⟨none, none, rfl, Same.refl _⟩ (fun i σ G _ ⟨_, _, _, sG⟩ => SqL.of (sG _ _ hL18)) ?_ ?_
      · rintro i x σ G G' hi ⟨v9, v10, rfl, sG⟩ ⟨rfl, y⟩
        obtain ⟨sh, hsh, hfew⟩ := (thg18 x (List.mem_of_getElem? y)).same sG
        have BG := B18.same sG
        have hlG := BG.hl
        have hmG := BG.hm
        have fin : ∀ (G2 : Hp), Same G' G2 → ∃ (v9 v10 : Option V), [some (.ref p), some (.int most), some (.int much), some (.int way), some (.ref l), some (.ref m), some (.ref t), some (.ref S), some (.ref ln), some x, some (.bl (dealB os bs sh)), none, none, none, none] = [some (.ref p), some (.int most), some (.int much), some (.int way), some (.ref l), some (.ref m), some (.ref t), some (.ref S), some (.ref ln), v9, v10, none, none, none, none] ∧ Same H18 G2 :=
          fun G2 s2 => ⟨_, _, rfl, sG.trans s2⟩
        walk_at "rd"
        refine ite_dec (fun c => ?_) (fun c => ?_)
        · walk_at "rd"
          refine ⟨m, ws, rfl, .inl ⟨SqL.of hmG, fun q6 hq6 => ?_⟩⟩
          have s6 := Same.new (o := .tup ws) hq6
          walk_at "rd"
          refine ⟨ln, q6, x, us, ws, os, bs, sh, rfl, ⟨(hln18.mono sG).mono s6, BG.rl.same s6⟩, OK, ⟨.inr upd_same, BG.rm.same s6⟩, BK.row, by omega, hsh.kin (Kin.same s6), hfew, fun G2 s7 => ?_⟩
          have s67 := s6.trans s7
          walk_at "rd"
          refine ⟨l, m, x, us, ws, os, bs, sh, rfl, s67 _ _ hlG, BG.rl.same s67, s67 _ _ hmG, BG.rm.same s67, by omega, by omega, hsh.kin (Kin.same s67), hfew, fun G3 s8 => ?_⟩
          walk_at "rd"
          rw [decide_eq_true rfl]
          walk_at "rd"
          exact fin _ (s67.trans s8)
        · walk_at "rd"
          refine ⟨rfl, rfl, ln, m, x, us, ws, os, bs, sh, rfl, ⟨hln18.mono sG, BG.rl⟩, OK, ⟨.inl hmG, BG.rm⟩, BK.row, by omega, hsh, hfew, fun G2 s67 => ?_⟩
          walk_at "rd"
          refine ⟨l, m, x, us, ws, os, bs, sh, rfl, s67 _ _ hlG, BG.rl.same s67, s67 _ _ hmG, BG.rm.same s67, by omega, by omega, hsh.kin (Kin.same s67), hfew, fun G3 s8 => ?_⟩
          walk_at "rd"
          rw [decide_eq_true rfl]
          walk_at "rd"
          exact fin _ (s67.trans s8)
      · rintro σ G ⟨v9, v10, rfl, sG⟩
        have BG := B18.same sG
        have hlG := BG.hl
        have hmG := BG.hm
        walk_at "rd"
        obtain ⟨days, ed⟩ : ∃ days : List Int, (os.map fun o => o.1) ++ (bs.map fun b => b.1) = days := ⟨_, rfl⟩
        have led : days.length = os.length + bs.length := by rw [← ed]; simp
        refine rd_cat hlG hmG (Nat.le_of_lt (small1000 (by omega))) (fun Z hZ => ?_)
        have sZ := Same.new (o := .lst (us ++ ws)) hZ
        have hZ' : upd G Z (.lst (us ++ ws)) Z = some (.lst (us ++ ws)) := upd_same
        generalize upd G Z (.lst (us ++ ws)) = G20 at *
        walk_at "rd"
        intro D1 hD1
        refine lcA (p := D1) (walk_list (xs := us ++ ws)) (fun i acc _ => acc = (days.take i).map V.int) hD1 (by rw [List.length_append]; omega) rfl (fun H' e => SqL.of (e.get (ne_of_none hZ' hD1) hZ')) ?_ ?_
        · rintro i x J J' acc M hi e q la a ⟨rfl, y⟩ k1 k2
          obtain ⟨tt, n, rest, rfl, htt, hn⟩ := day_at ((BG.rl.same sZ).mono (e.tsn hD1)) ((BG.rm.same sZ).mono (e.tsn hD1)) y
          rw [ed] at hn
          walk_at "rd"
          refine ⟨rfl, ?_⟩
          walk_at "rd"
          refine rd_ixT htt (atI_nat (j := 0) rfl) ?_
          refine k1 _ _ e q ?_
          rw [take_snoc hn, List.map_append, a]
          rfl
        · intro G21 acc e21 q21 la a
          rw [List.take_of_length_le (by rw [led, List.length_append]; omega)] at a
          subst a
          have s21 : Same G G21 := sZ.trans fun b o hb => e21 b o (ne_of_none hb hD1) hb
          walk_at "rd"
          intro f5 hf5
          have s22 := Same.new (o := .lst [.int 5]) hf5
          have hD22 := s22 _ _ q21
          have hf22 : upd G21 f5 (.lst [.int 5]) f5 = some (.lst [.int 5]) := upd_same
          replace s22 := s21.trans s22
          generalize upd G21 f5 (.lst [.int 5]) = G22 at *
          walk_at "rd"
          refine rd_cat hD22 hf22 (Nat.le_of_lt (small1000 (by simp; omega))) (fun X hX => ?_)
          have s23 := s22.trans (Same.new (o := .lst ((days.map V.int) ++ [.int 5])) hX)
          have hX' : upd G22 X (.lst ((days.map V.int) ++ [.int 5])) X = some (.lst ((days ++ [5]).map V.int)) := by
            rw [upd_same, List.map_append]
            rfl
          generalize upd G22 X (.lst ((days.map V.int) ++ [.int 5])) = G23 at *
          walk_at "rd"
          refine ⟨X, _, rfl, SqL.of hX', by simp, fun far hfar hmax => ?_⟩
          have farB : ∀ b ∈ bs, b.1 ≤ far := fun b hb => hmax b.1 (by rw [← ed]; exact List.mem_append.mpr (.inl (List.mem_append.mpr (.inr (List.mem_map.mpr ⟨b, hb, rfl⟩)))))
          have far0 : 0 ≤ far ∧ far ≤ 9999 := by
            rw [← ed] at hfar
            simp only [List.mem_append, List.mem_map] at hfar
            rcases hfar with (⟨o, ho, rfl⟩ | ⟨o, ho, rfl⟩) | hf
            · have := (OK.bnd o ho).1
              omega
            · have := (BK.bnd o ho).1
              omega
            · simp at hf
              omega
          have hl23 := s23 _ _ hlG
          have hm23 := s23 _ _ hmG
          walk_at "rd"
          intro D2 hD2
          refine lcA (p := D2) (walk_list (xs := us)) (fun i acc _ => acc = ((os.take i).map fun o => o.2.1).map V.int) hD2 (by omega) rfl (fun H' e => SqL.of (e.get (ne_of_none hl23 hD2) hl23)) ?_ ?_
          · rintro i x J J' acc M hi e q la a ⟨rfl, y⟩ k1 k2
            obtain ⟨o, to, ho, rfl, hto⟩ := rows_at ((BG.rl.same s23).mono (e.tsn hD2)) y
            replace hto : J' to = some (.tup [.int o.1, .int o.2.1, .int o.2.2]) := hto
            walk_at "rd"
            refine ⟨rfl, ?_⟩
            walk_at "rd"
            refine k1 _ _ e q ?_
            rw [take_snoc ho, List.map_append, List.map_append, a]
            rfl
          · intro G24 acc e24 q24 la a
            rw [List.take_of_length_le (by omega)] at a
            subst a
            have s24 : Same G G24 := s23.trans fun b o hb => e24 b o (ne_of_none hb hD2) hb
            have hm24 := s24 _ _ hmG
            walk_at "rd"
            refine rd_sum q24 ?_
            walk_at "rd"
            intro D3 hD3
            refine lcA (p := D3) (walk_list (xs := ws)) (fun i acc _ => acc = ((bs.take i).map fun o => o.2).map V.int) hD3 (by omega) rfl (fun H' e => SqL.of (e.get (ne_of_none hm24 hD3) hm24)) ?_ ?_
            · rintro i x J J' acc M hi e q la a ⟨rfl, y⟩ k1 k2
              obtain ⟨o, to, ho, rfl, hto⟩ := rows_at ((BG.rm.same s24).mono (e.tsn hD3)) y
              replace hto : J' to = some (.tup [.int o.1, .int o.2]) := hto
              walk_at "rd"
              refine ⟨rfl, ?_⟩
              walk_at "rd"
              refine k1 _ _ e q ?_
              rw [take_snoc ho, List.map_append, List.map_append, a]
              rfl
            · intro G25 acc e25 q25 la a
              rw [List.take_of_length_le (by omega)] at a
              subst a
              have s25 : Same G G25 := s24.trans fun b o hb => e25 b o (ne_of_none hb hD3) hb
              walk_at "rd"
              refine rd_sum q25 ?_
              obtain ⟨so, eso⟩ : ∃ so, (os.map fun o => o.2.1).sum = so := ⟨_, rfl⟩
              obtain ⟨sb, esb⟩ : ∃ sb, (bs.map fun o => o.2).sum = sb := ⟨_, rfl⟩
              have hle := backs_le OK BK
              have hso := sum_most os much (by omega) OM
              have hso2 : so ≤ 999 * 18 := by
                rw [eso] at hso
                have h1 : much * (os.length : Int) ≤ 999 * (os.length : Int) := Int.mul_le_mul_of_nonneg_right (by omega) (by omega)
                omega
              have hsb : 0 ≤ sb := by
                rw [← esb]
                refine sum_nn _ fun x hx => ?_
                obtain ⟨o, ho, rfl⟩ := List.mem_map.mp hx
                have := (BK.bnd o ho).2.1
                omega
              rw [eso, esb] at hle
              rw [eso, esb]
              walk_at "rd"
              intro tb htb
              have s26 := Same.new (o := .tup [.int far, .int (so + 1 - sb)]) htb
              have htb26 : upd G25 tb (.tup [.int far, .int (so + 1 - sb)]) tb = some (.tup [.int far, .int (so + 1 - sb)]) := upd_same
              replace s26 := s25.trans s26
              generalize upd G25 tb (.tup [.int far, .int (so + 1 - sb)]) = G26 at *
              walk_at "rd"
              intro lb hlb
              have s27 := Same.new (o := .lst [.ref tb]) hlb
              have htb27 := s27 _ _ htb26
              have hlb27 : upd G26 lb (.lst [.ref tb]) lb = some (.lst [.ref tb]) := upd_same
              replace s27 := s26.trans s27
              generalize upd G26 lb (.lst [.ref tb]) = G27 at *
              walk_at "rd"
              refine rd_cat (s27 _ _ hmG) hlb27 (Nat.le_of_lt (small1000 (by simp; omega))) (fun Bd hBd => ?_)
              have s28 := Same.new (o := .lst (ws ++ [.ref tb])) hBd
              have htb28 := s28 _ _ htb27
              have hBd28 : upd G27 Bd (.lst (ws ++ [.ref tb])) Bd = some (.lst (ws ++ [.ref tb])) := upd_same
              replace s28 := s27.trans s28
              generalize upd G27 Bd (.lst (ws ++ [.ref tb])) = G28 at *
              have rBd : Rows G28 (ws ++ [.ref tb]) ((bs ++ [(far, so + 1 - sb)]).map t2) := by
                rw [map_snoc]
                exact (BG.rm.same s28).snoc ⟨tb, rfl, htb28⟩
              have brow : BRow (bs ++ [(far, so + 1 - sb)]) := by
                refine ⟨?_, ?_⟩
                · rw [List.pairwise_append]
                  refine ⟨BK.rise, by simp, fun a ha b hb => ?_⟩
                  simp at hb
                  subst hb
                  exact farB a ha
                · intro b hb
                  rcases List.mem_append.mp hb with hb | hb
                  · exact BK.bnd b hb
                  · simp at hb
                    subst hb
                    exact ⟨far0, by show 1 ≤ so + 1 - sb; omega, by show so + 1 - sb ≤ 99999; omega⟩
              have none' : ∀ sh, dealB os (bs ++ [(far, so + 1 - sb)]) sh = false := by
                intro sh
                cases hh : dealB os (bs ++ [(far, so + 1 - sb)]) sh with
                | false => rfl
                | true =>
                  have := deal_total hh
                  rw [List.map_append, List.sum_append, eso, esb] at this
                  simp at this
                  omega
              have hS28 := (sG.trans s28) _ _ hS18
              walk_at "rd"
              intro D4 hD4
              refine lcA (p := D4) (walk_list (xs := some')) (fun i acc _ => acc = List.replicate i (V.bl false)) hD4 (by omega) rfl (fun H' e => SqL.of (e.get (ne_of_none hS28 hD4) hS28)) ?_ ?_
              · rintro i x J J' acc M hi e q la a ⟨rfl, y⟩ k1 k2
                have sJ : Same G28 J' := fun b o hb => e b o (ne_of_none hb hD4) hb
                have sJ2 := s28.trans sJ
                obtain ⟨sh, hsh, hfew⟩ := (thgS x (List.mem_of_getElem? y)).same (sG.trans sJ2)
                walk_at "rd"
                refine ⟨rfl, ?_⟩
                walk_at "rd"
                refine ⟨l, Bd, x, us, ws ++ [.ref tb], os, bs ++ [(far, so + 1 - sb)], sh, rfl, ⟨.inl (sJ2 _ _ hlG), BG.rl.same sJ2⟩, OK, ⟨.inl (sJ _ _ hBd28), rBd.same sJ⟩, brow, by simp; omega, hsh, hfew, fun J2 s2 => ?_⟩
                rw [none' sh]
                walk_at "rd"
                refine ⟨false, false, rfl, rfl, ?_⟩
                refine k1 _ _ (e.trans (Same.ext s2)) (s2 _ _ q) ?_
                subst a
                rw [List.replicate_succ']
                rfl
              · intro G29 acc e29 q29 la a
                have s29 : Same G28 G29 := fun b o hb => e29 b o (ne_of_none hb hD4) hb
                have sG29 := s28.trans s29
                subst a
                walk_at "rd"
                refine rd_anyF q29 ?_
                walk_at "rd"
                refine ⟨l, m, .ref t, us, ws, os, bs, .tup (ds.map entSh), rfl, sG29 _ _ hlG, BG.rl.same sG29, sG29 _ _ hmG, BG.rm.same sG29, by omega, by omega, shG (sG.trans sG29), ?_, fun G30 s30 => ?_⟩
                · show (ds.map entSh).length ≤ 900
                  rw [List.length_map]
                  omega
                rw [deal_good DK]
                have sG30 := sG29.trans s30
                walk_at "rd"
                refine ⟨ln, us, rfl, ((hln18.mono sG).mono sG30).imp SqL.of SqT.of, fun qq hqq => ?_⟩
                have s31 := sG30.trans (Same.new (o := .lst us) hqq)
                walk_at "rd"
                refine rd_eqSame (d := .list ((os.map t3).map fun r => PyData.tuple (r.map PyData.int))) (.lst (SqL.of upd_same) (dp_rows (BG.rl.same s31))) (.lst (SqL.of (s31 _ _ hlG)) (dp_rows (BG.rl.same s31))) (shaped_rows _) ?_
                exact k _ (BG.same s31).ext
end
end Sk
end

section
namespace Sk
open PySem L2
local macro_rules | `(tactic| walk_at "kb") => `(tactic| first | exact kb_int_int | exact kb_int_bool | exact kb_int_str | exact kb_int_tuple | exact kb_int_list | exact kb_tuple_int | exact kb_tuple_bool | exact kb_tuple_str | exact kb_tuple_tuple | exact kb_tuple_list | exact kb_list_int | exact kb_list_bool | exact kb_list_str | exact kb_list_tuple | exact kb_list_list | exact kb_bool_int | exact kb_bool_bool | exact kb_bool_str | exact kb_bool_tuple | exact kb_bool_list | exact kb_str_int | exact kb_str_bool | exact kb_str_str | exact kb_str_tuple | exact kb_str_list | exact kb_dict_int | exact kb_dict_bool | exact kb_dict_str | exact kb_dict_tuple | exact kb_dict_list | exact kb_NoneType_int | exact kb_NoneType_bool | exact kb_NoneType_str | exact kb_NoneType_tuple | exact kb_NoneType_list)
local macro_rules | `(tactic| walk_at "hp") => `(tactic| first
  | assumption
  | exact upd_same
  | (refine' upd_get ?n ?e; (case n => walk_at "ne"); (case e => walk_at "hp"))
  | (refine' But.get (by assumption) ?n ?e; (case n => walk_at "ne"); (case e => walk_at "hp"))
  | (refine' Ext.get (by assumption) ?n ?e; (case n => walk_at "ne"); (case e => walk_at "hp"))
  | (refine' same_get (by assumption) ?e; (case e => walk_at "hp")))
local macro_rules | `(tactic| walk_at "ne") => `(tactic| first
  | assumption
  | (apply Ne.symm; assumption)
  | (refine' ne_of_none ?h (by assumption); (case h => walk_at "hp"))
  | (apply Ne.symm; refine' ne_of_none ?h (by assumption); (case h => walk_at "hp")))
local macro_rules | `(tactic| walk_at "sd") => `(tactic| first
  | (show (0 : Int) < _; omega)
  | (simp only [CMul, CDiv]; omega)
  | exact ⟨by omega, by omega⟩)
local macro_rules | `(tactic| walk_at "rd1") => `(tactic| first
  | with_reducible refine' rd_c ?_
  | ((with_reducible refine' rd_var ?h ?_); (case h => exact rfl))
  | with_reducible refine' rd_op ?_
  | with_reducible refine' rd_seq ?_
  | with_reducible refine' rd_asg ?_
  | with_reducible refine' rd_gName ?_
  | with_reducible refine' rd_I0 ?_
  | ((with_reducible refine' rd_I ?c ?_); (case c => walk_at "sd"))
  | with_reducible refine' rd_eqI ?_
  | with_reducible refine' rd_neI ?_
  | with_reducible refine' rd_U ?_
  | with_reducible refine' rd_un ?_
  | with_reducible refine' rd_ret ?_
  | with_reducible refine' rd_drop ?_
  | with_reducible refine' rd_next ?_
  | with_reducible refine' rd_ifS ?_
  | with_reducible refine' rd_test ?_
  | with_reducible refine' rd_bl ?_
  | with_reducible refine' rd_nil ?_
  | with_reducible refine' rd_cons ?_
  | with_reducible refine' rd_tup ?_
  | with_reducible refine' rd_lst ?_
  | with_reducible refine' rd_call ?_
  | with_reducible refine' rd_cb ?_
  | with_reducible refine' rd_par ?_
  | with_reducible refine' rd_par2 ?_
  | with_reducible refine' rd_and ?_
  | with_reducible refine' rd_or ?_
  | with_reducible refine' rd_not ?_
  | with_reducible refine' rd_andV ?_
  | with_reducible refine' rd_orV ?_
  | with_reducible refine' rd_notV ?_
  | with_reducible refine' rd_if ?_
  | with_reducible refine' rd_gSub ?_
  | ((with_reducible refine' rd_ixL ?h ?e ?_); (case h => walk_at "hp"); (case e => exact rfl))
  | ((with_reducible refine' rd_ixT ?h ?e ?_); (case h => walk_at "hp"); (case e => exact rfl))
  | ((with_reducible refine' rd_setL ?h ?e ?_); (case h => walk_at "hp"); (case e => exact rfl))
  | ((with_reducible refine' rd_append ?h ?e ?_); (case h => walk_at "hp"); (case e => assumption))
  | (with_reducible refine' rd_bmL ?_)
  | ((with_reducible refine' And.intro (tyL ?h) ?_); (case h => walk_at "hp"))
  | ((with_reducible refine' And.intro (len_ok ?h) ?_); (case h => exact rfl))
  | with_reducible refine' rd_ex1 ?_
  | with_reducible refine' rd_ex2 ?_
  | with_reducible refine' rd_int1b ?_
  | ((with_reducible refine' rd_isiI ?e ?_); (case e => walk_at "kb"))
  | ((with_reducible refine' rd_isiB ?e ?_); (case e => walk_at "kb"))
  | ((with_reducible refine' rd_isiT ?h ?e ?_); (case h => walk_at "hp"); (case e => walk_at "kb"))
  | ((with_reducible refine' rd_isiL ?h ?e ?_); (case h => walk_at "hp"); (case e => walk_at "kb"))
  | ((with_reducible refine' rd_lenL ?h ?_); (case h => walk_at "hp"))
  | ((with_reducible refine' rd_lenT ?h ?_); (case h => walk_at "hp"))
  | ((with_reducible refine' rd_gTup ?h ?e ?_); (case h => walk_at "hp"); (case e => exact rfl))
  | with_reducible refine' rd_gCons ?_
  | with_reducible refine' rd_gNil ?_
  | with_reducible refine' rd_yes ?_
  | with_reducible refine' rd_for ?_
  | with_reducible refine' rd_lc ?_
  | with_reducible refine' rd_rng1 ?_
  | with_reducible refine' rd_iL ?_
  | with_reducible refine' rd_iT ?_
  | with_reducible refine' rd_iE ?_
  | with_reducible refine' rd_iZ ?_
  | ((with_reducible refine' rd_iL' ?h ?_); (case h => walk_at "hp"))
  | ((with_reducible refine' rd_iT' ?h ?_); (case h => walk_at "hp"))
  | ((with_reducible refine' rd_iE' ?h ?_); (case h => walk_at "hp"))
  | ((with_reducible refine' rd_iZ' ?h1 ?h2 ?_); (case h1 => walk_at "hp"); (case h2 => walk_at "hp"))
  | with_reducible refine' iteT ?_
  | with_reducible refine' iteF ?_)
local macro_rules | `(tactic| walk_at "rd") => `(tactic| repeat walk_at "rd1")

def spLaw (K : PySem.W.Frag) : Sp := fun vs H Q _ => ∃ (a : Addr) (ns : List Int), vs = [.ref a] ∧ SqL K H a (ns.map V.int) ∧ ns.length ≤ 63 ∧ ∀ H', Q (.bl true) H'
abbrev sLaw : Stmt := top 34
theorem scLaw : FnScope ["_law_script", "_law_k"] ["_law_script"] (defScope sLaw) := ⟨rfl, rfl, rfl, by decide +kernel, rfl, by decide +kernel, by decide +kernel⟩
section
variable {P : Program} {w : World} {K : PySem.W.Frag} {mg : Str → Option Value} {base : Heap}
theorem ok_law {f fC fP fR : Addr} {fd fdC fdP fdR : FuncData} (F : Fun K "law" "law" sLaw f fd) (T : Free mg) (dCell : Def P w K mg base "_law_cell" 1 fC fdC ["_law_script", "_law_k"] (spCell K))
    (dPurse : Def P w K mg base "_law_purse" 1 fP fdP ["_law_cell_here"] spPurse) (dRight : Def P w K mg base "_law_right" 9 fR fdR ["_law_purse_here"] spRight) : FnOk P w K mg base CX0 10 f fd ["_law_script"] (spLaw K) := by
  refine F.ok scLaw (fun vs H Q E h => ?_) (fun cdv A outer s H vs Q E hr h => ?_)
  · obtain ⟨a, ns, rfl, _⟩ := h
    rfl
  · obtain ⟨a, ns, rfl, hS, hln, k⟩ := h
    refine ⟨_, (pss_one (ps_ret (pe_callB (cr_allK (K := K) rfl rfl) (by rfl) T.all (by decide +kernel) (pa_cons (pe_lc (own := [("_law_k", 1)]) (tt := tYes) rfl scLaw.nd (pi_range1 (by rfl) T.range (pa_cons (pe_callB (call_max2 rfl) (by rfl) T.max (by decide +kernel) (pa_cons pe_int (pa_cons (pe_callB (call_min2 rfl) (by rfl) T.min (by decide +kernel) (pa_cons pe_int (pa_cons (pe_callB (call_lenK (K := K) rfl) (by rfl) T.len (by decide +kernel) (pa_cons (pv 0) pa_nil)) pa_nil))) pa_nil))) pa_nil)) (blkOk_by (N := ["_law_script", "_law_k"]) (sc := defScope sLaw) (by decide +kernel)) (fun _ _ _ _ _ => (pg_name (i := 1) scLaw.nd rfl (by first | exact Or.inl rfl | exact Or.inr rfl))) (fun _ _ _ _ _ => pts_nil) (fun _ _ _ _ _ => (pe_call dRight.ok (hr.mono (by decide)) (by rfl) dRight.mg dRight.kp dRight.bd .nil pass0 (pa_cons (pe_call dPurse.ok (hr.mono (by decide)) (by rfl) dPurse.mg dPurse.kp dPurse.bd .nil pass0 (pa_cons (pe_call dCell.ok (hr.mono (by decide)) (by rfl) dCell.mg dCell.kp dCell.bd .nil pass0 (pa_cons (pv 0) (pa_cons (pv 1) pa_nil))) pa_nil)) pa_nil)))) pa_nil)))), ?_⟩
    walk_at "rd"
    refine ⟨_, _, rfl, .inl ⟨_, hS, rfl⟩, ?_⟩
    walk_at "rd"
    obtain ⟨n, hn, hn1⟩ : ∃ n : Int, (if (if ((ns.map V.int).length : Int) < 4 then ((ns.map V.int).length : Int) else 4) > 1 then (if ((ns.map V.int).length : Int) < 4 then ((ns.map V.int).length : Int) else 4) else 1) = n ∧ 0 ≤ n ∧ n ≤ 4 := ⟨_, rfl, by split <;> split <;> omega⟩
    rw [hn]
    refine ⟨by omega, by omega, ?_⟩
    intro D hD
    refine lcA (p := D) walk_range (fun i acc _ => acc = List.replicate i (V.bl true)) hD (by omega) rfl (fun _ _ => True.intro) ?_ ?_
    · rintro j x J J' acc M hj e q la a' ⟨rfl, rfl⟩ k1 k2
      have sJ : Same H J' := fun b o h => e.get (ne_of_none h hD) h
      walk_at "rd"
      refine ⟨rfl, ?_⟩
      walk_at "rd"
      refine ⟨a, ns, j, by simp, sJ.seq hS, fun c J1 s1 => ?_⟩
      walk_at "rd"
      refine ⟨c, rfl, fun p J2 hp0 hp s2 => ?_⟩
      walk_at "rd"
      refine ⟨p, rfl, hp, fun J3 e3 => ?_⟩
      have hpD : D ≠ p := ne_of_none (s1 _ _ q) hp0
      refine k1 _ _ (fun b o nb h => ?_) (e3.get hpD (s2 _ _ (s1 _ _ q))) ?_
      · have h1 := s1 _ _ (e b o nb h)
        exact e3.get (ne_of_none h1 hp0) (s2 _ _ h1)
      · subst a'
        rw [List.replicate_succ']
    · intro H1 acc e1 q1 la a'
      subst a'
      walk_at "rd"
      exact rd_allT q1 (k H1)
end
end Sk
end

section
namespace Sk
open PySem L2
section
variable {P : Program} {w : World} {K : PySem.W.Frag} {mg : Str → Option Value} {base : Heap}
theorem vals_DBO : ∀ {zs : List V} {ws : List Value}, Vals zs ws → Vals (byDBO zs) (byDBO ws)
  | _, _, .nil => .nil
  | _, _, .cons _ .nil => .nil
  | _, _, .cons _ (.cons _ .nil) => .nil
  | _, _, .cons a (.cons b (.cons c .nil)) => .cons c (.cons b (.cons a .nil))
  | _, _, .cons _ (.cons _ (.cons _ (.cons _ _))) => .nil
theorem kbn_DBO {x qual : Str} {st : Stmt} {f : Addr} {fd : FuncData} (F : Fun K x qual st f fd)
    (h : ∀ (kV doc pm : Value) (an : Option Addr) (cdv ct : Value) (us ws : List Value), us.length = 0 → ws.length = 3 → bindArgs (PySem.W.fnOf x qual (defArgs st) (defBody st) (defScope st) .none kV doc pm an cdv ct) ⟨us, List.zip (["thing", "backs", "outs"] : List Str) ws⟩ = pure (List.zip (["outs", "backs", "thing"] : List Str) (byDBO ws))) :
    KBn K fd ["outs", "backs", "thing"] 0 ["thing", "backs", "outs"] (fun _ => byDBO) (fun _ => byDBO) := by
  obtain ⟨oc, od, kV, doc, pm, an, cdv, ct, osl, rfl, lk, hcd⟩ := F.ex
  exact ⟨fun s us ws _ h1 h2 => .of_eq (h kV doc pm an cdv ct us ws h1 h2), fun _ r => vals_DBO r⟩
end
theorem all_mk {l : PySem.W.OpenLaw} {w : World} {K : PySem.W.Frag} {h : Heap} {mg : Str → Option Value} {fa f1 f2 f3 f4 f5 f6 f7 f8 f9 f10 f11 f12 f13 f14 f15 f16 f17 f18 f19 f20 f21 f22 f23 f24 f25 f26 f27 : Addr} (X : K.In h) (G : h.Ns mainGlobals mg) (hfa : mg "law" = some (.ref fa))
    {od1 an1 : Option Addr} {sl1 : Array (Option Value)} {oc1 kV1 dc1 pm1 cd1 ct1 : Value} {od2 an2 : Option Addr} {sl2 : Array (Option Value)} {oc2 kV2 dc2 pm2 cd2 ct2 : Value} {od3 an3 : Option Addr} {sl3 : Array (Option Value)} {oc3 kV3 dc3 pm3 cd3 ct3 : Value} {od4 an4 : Option Addr} {sl4 : Array (Option Value)} {oc4 kV4 dc4 pm4 cd4 ct4 : Value} {od5 an5 : Option Addr} {sl5 : Array (Option Value)} {oc5 kV5 dc5 pm5 cd5 ct5 : Value} {od6 an6 : Option Addr} {sl6 : Array (Option Value)} {oc6 kV6 dc6 pm6 cd6 ct6 : Value} {od7 an7 : Option Addr} {sl7 : Array (Option Value)} {oc7 kV7 dc7 pm7 cd7 ct7 : Value} {od8 an8 : Option Addr} {sl8 : Array (Option Value)} {oc8 kV8 dc8 pm8 cd8 ct8 : Value} {od9 an9 : Option Addr} {sl9 : Array (Option Value)} {oc9 kV9 dc9 pm9 cd9 ct9 : Value} {od10 an10 : Option Addr} {sl10 : Array (Option Value)} {oc10 kV10 dc10 pm10 cd10 ct10 : Value} {od11 an11 : Option Addr} {sl11 : Array (Option Value)} {oc11 kV11 dc11 pm11 cd11 ct11 : Value} {od12 an12 : Option Addr} {sl12 : Array (Option Value)} {oc12 kV12 dc12 pm12 cd12 ct12 : Value} {od13 an13 : Option Addr} {sl13 : Array (Option Value)} {oc13 kV13 dc13 pm13 cd13 ct13 : Value} {od14 an14 : Option Addr} {sl14 : Array (Option Value)} {oc14 kV14 dc14 pm14 cd14 ct14 : Value} {od15 an15 : Option Addr} {sl15 : Array (Option Value)} {oc15 kV15 dc15 pm15 cd15 ct15 : Value} {od16 an16 : Option Addr} {sl16 : Array (Option Value)} {oc16 kV16 dc16 pm16 cd16 ct16 : Value} {od17 an17 : Option Addr} {sl17 : Array (Option Value)} {oc17 kV17 dc17 pm17 cd17 ct17 : Value} {od18 an18 : Option Addr} {sl18 : Array (Option Value)} {oc18 kV18 dc18 pm18 cd18 ct18 : Value} {od19 an19 : Option Addr} {sl19 : Array (Option Value)} {oc19 kV19 dc19 pm19 cd19 ct19 : Value} {od20 an20 : Option Addr} {sl20 : Array (Option Value)} {oc20 kV20 dc20 pm20 cd20 ct20 : Value} {od21 an21 : Option Addr} {sl21 : Array (Option Value)} {oc21 kV21 dc21 pm21 cd21 ct21 : Value} {od22 an22 : Option Addr} {sl22 : Array (Option Value)} {oc22 kV22 dc22 pm22 cd22 ct22 : Value} {od23 an23 : Option Addr} {sl23 : Array (Option Value)} {oc23 kV23 dc23 pm23 cd23 ct23 : Value} {od24 an24 : Option Addr} {sl24 : Array (Option Value)} {oc24 kV24 dc24 pm24 cd24 ct24 : Value} {od25 an25 : Option Addr} {sl25 : Array (Option Value)} {oc25 kV25 dc25 pm25 cd25 ct25 : Value} {od26 an26 : Option Addr} {sl26 : Array (Option Value)} {oc26 kV26 dc26 pm26 cd26 ct26 : Value} {od27 an27 : Option Addr} {sl27 : Array (Option Value)} {oc27 kV27 dc27 pm27 cd27 ct27 : Value}
    (a1 : PySem.W.nsIn K mainGlobals "_law_take" = some (some (.ref f1))) (l1 : K.lookup f1 = some ⟨oc1, od1, .func (PySem.W.fnOf "_law_take" "_law_take" (defArgs sTake) (defBody sTake) (defScope sTake) .none kV1 dc1 pm1 an1 cd1 ct1), sl1⟩) (c1 : PySem.W.codeIn K cd1 "_law_take" = true) (k1 : PySem.W.keepIn K (.ref f1) = true)
    (a2 : PySem.W.nsIn K mainGlobals "_law_cell" = some (some (.ref f2))) (l2 : K.lookup f2 = some ⟨oc2, od2, .func (PySem.W.fnOf "_law_cell" "_law_cell" (defArgs sCell) (defBody sCell) (defScope sCell) .none kV2 dc2 pm2 an2 cd2 ct2), sl2⟩) (c2 : PySem.W.codeIn K cd2 "_law_cell" = true) (k2 : PySem.W.keepIn K (.ref f2) = true)
    (a3 : PySem.W.nsIn K mainGlobals "_law_purse" = some (some (.ref f3))) (l3 : K.lookup f3 = some ⟨oc3, od3, .func (PySem.W.fnOf "_law_purse" "_law_purse" (defArgs sPurse) (defBody sPurse) (defScope sPurse) .none kV3 dc3 pm3 an3 cd3 ct3), sl3⟩) (c3 : PySem.W.codeIn K cd3 "_law_purse" = true) (k3 : PySem.W.keepIn K (.ref f3) = true)
    (a4 : PySem.W.nsIn K mainGlobals "_law_number" = some (some (.ref f4))) (l4 : K.lookup f4 = some ⟨oc4, od4, .func (PySem.W.fnOf "_law_number" "_law_number" (defArgs sNum) (defBody sNum) (defScope sNum) .none kV4 dc4 pm4 an4 cd4 ct4), sl4⟩) (c4 : PySem.W.codeIn K cd4 "_law_number" = true) (k4 : PySem.W.keepIn K (.ref f4) = true)
    (a5 : PySem.W.nsIn K mainGlobals "_law_numbers" = some (some (.ref f5))) (l5 : K.lookup f5 = some ⟨oc5, od5, .func (PySem.W.fnOf "_law_numbers" "_law_numbers" (defArgs sNums) (defBody sNums) (defScope sNums) .none kV5 dc5 pm5 an5 cd5 ct5), sl5⟩) (c5 : PySem.W.codeIn K cd5 "_law_numbers" = true) (k5 : PySem.W.keepIn K (.ref f5) = true)
    (a6 : PySem.W.nsIn K mainGlobals "_law_outs" = some (some (.ref f6))) (l6 : K.lookup f6 = some ⟨oc6, od6, .func (PySem.W.fnOf "_law_outs" "_law_outs" (defArgs sOuts) (defBody sOuts) (defScope sOuts) .none kV6 dc6 pm6 an6 cd6 ct6), sl6⟩) (c6 : PySem.W.codeIn K cd6 "_law_outs" = true) (k6 : PySem.W.keepIn K (.ref f6) = true)
    (a7 : PySem.W.nsIn K mainGlobals "_law_backs" = some (some (.ref f7))) (l7 : K.lookup f7 = some ⟨oc7, od7, .func (PySem.W.fnOf "_law_backs" "_law_backs" (defArgs sBacks) (defBody sBacks) (defScope sBacks) .none kV7 dc7 pm7 an7 cd7 ct7), sl7⟩) (c7 : PySem.W.codeIn K cd7 "_law_backs" = true) (k7 : PySem.W.keepIn K (.ref f7) = true)
    (a8 : PySem.W.nsIn K mainGlobals "_law_dealt" = some (some (.ref f8))) (l8 : K.lookup f8 = some ⟨oc8, od8, .func (PySem.W.fnOf "_law_dealt" "_law_dealt" (defArgs sDealt) (defBody sDealt) (defScope sDealt) .none kV8 dc8 pm8 an8 cd8 ct8), sl8⟩) (c8 : PySem.W.codeIn K cd8 "_law_dealt" = true) (k8 : PySem.W.keepIn K (.ref f8) = true)
    (a9 : PySem.W.nsIn K mainGlobals "is_whole" = some (some (.ref f9))) (l9 : K.lookup f9 = some ⟨oc9, od9, .func (PySem.W.fnOf "is_whole" "is_whole" (defArgs s_is_whole) (defBody s_is_whole) (defScope s_is_whole) .none kV9 dc9 pm9 an9 cd9 ct9), sl9⟩) (c9 : PySem.W.codeIn K cd9 "is_whole" = true) (k9 : PySem.W.keepIn K (.ref f9) = true)
    (a10 : PySem.W.nsIn K mainGlobals "is_day" = some (some (.ref f10))) (l10 : K.lookup f10 = some ⟨oc10, od10, .func (PySem.W.fnOf "is_day" "is_day" (defArgs s_is_day) (defBody s_is_day) (defScope s_is_day) .none kV10 dc10 pm10 an10 cd10 ct10), sl10⟩) (c10 : PySem.W.codeIn K cd10 "is_day" = true) (k10 : PySem.W.keepIn K (.ref f10) = true)
    (a11 : PySem.W.nsIn K mainGlobals "is_amount" = some (some (.ref f11))) (l11 : K.lookup f11 = some ⟨oc11, od11, .func (PySem.W.fnOf "is_amount" "is_amount" (defArgs s_is_amount) (defBody s_is_amount) (defScope s_is_amount) .none kV11 dc11 pm11 an11 cd11 ct11), sl11⟩) (c11 : PySem.W.codeIn K cd11 "is_amount" = true) (k11 : PySem.W.keepIn K (.ref f11) = true)
    (a12 : PySem.W.nsIn K mainGlobals "is_row" = some (some (.ref f12))) (l12 : K.lookup f12 = some ⟨oc12, od12, .func (PySem.W.fnOf "is_row" "is_row" (defArgs s_is_row) (defBody s_is_row) (defScope s_is_row) .none kV12 dc12 pm12 an12 cd12 ct12), sl12⟩) (c12 : PySem.W.codeIn K cd12 "is_row" = true) (k12 : PySem.W.keepIn K (.ref f12) = true)
    (a13 : PySem.W.nsIn K mainGlobals "is_out" = some (some (.ref f13))) (l13 : K.lookup f13 = some ⟨oc13, od13, .func (PySem.W.fnOf "is_out" "is_out" (defArgs s_is_out) (defBody s_is_out) (defScope s_is_out) .none kV13 dc13 pm13 an13 cd13 ct13), sl13⟩) (c13 : PySem.W.codeIn K cd13 "is_out" = true) (k13 : PySem.W.keepIn K (.ref f13) = true)
    (a14 : PySem.W.nsIn K mainGlobals "is_back" = some (some (.ref f14))) (l14 : K.lookup f14 = some ⟨oc14, od14, .func (PySem.W.fnOf "is_back" "is_back" (defArgs s_is_back) (defBody s_is_back) (defScope s_is_back) .none kV14 dc14 pm14 an14 cd14 ct14), sl14⟩) (c14 : PySem.W.codeIn K cd14 "is_back" = true) (k14 : PySem.W.keepIn K (.ref f14) = true)
    (a15 : PySem.W.nsIn K mainGlobals "check_outs" = some (some (.ref f15))) (l15 : K.lookup f15 = some ⟨oc15, od15, .func (PySem.W.fnOf "check_outs" "check_outs" (defArgs s_check_outs) (defBody s_check_outs) (defScope s_check_outs) .none kV15 dc15 pm15 an15 cd15 ct15), sl15⟩) (c15 : PySem.W.codeIn K cd15 "check_outs" = true) (k15 : PySem.W.keepIn K (.ref f15) = true)
    (a16 : PySem.W.nsIn K mainGlobals "check_backs" = some (some (.ref f16))) (l16 : K.lookup f16 = some ⟨oc16, od16, .func (PySem.W.fnOf "check_backs" "check_backs" (defArgs s_check_backs) (defBody s_check_backs) (defScope s_check_backs) .none kV16 dc16 pm16 an16 cd16 ct16), sl16⟩) (c16 : PySem.W.codeIn K cd16 "check_backs" = true) (k16 : PySem.W.keepIn K (.ref f16) = true)
    (a17 : PySem.W.nsIn K mainGlobals "is_part" = some (some (.ref f17))) (l17 : K.lookup f17 = some ⟨oc17, od17, .func (PySem.W.fnOf "is_part" "is_part" (defArgs s_is_part) (defBody s_is_part) (defScope s_is_part) .none kV17 dc17 pm17 an17 cd17 ct17), sl17⟩) (c17 : PySem.W.codeIn K cd17 "is_part" = true) (k17 : PySem.W.keepIn K (.ref f17) = true)
    (a18 : PySem.W.nsIn K mainGlobals "rises" = some (some (.ref f18))) (l18 : K.lookup f18 = some ⟨oc18, od18, .func (PySem.W.fnOf "rises" "rises" (defArgs s_rises) (defBody s_rises) (defScope s_rises) .none kV18 dc18 pm18 an18 cd18 ct18), sl18⟩) (c18 : PySem.W.codeIn K cd18 "rises" = true) (k18 : PySem.W.keepIn K (.ref f18) = true)
    (a19 : PySem.W.nsIn K mainGlobals "back_rests" = some (some (.ref f19))) (l19 : K.lookup f19 = some ⟨oc19, od19, .func (PySem.W.fnOf "back_rests" "back_rests" (defArgs s_back_rests) (defBody s_back_rests) (defScope s_back_rests) .none kV19 dc19 pm19 an19 cd19 ct19), sl19⟩) (c19 : PySem.W.codeIn K cd19 "back_rests" = true) (k19 : PySem.W.keepIn K (.ref f19) = true)
    (a20 : PySem.W.nsIn K mainGlobals "out_rests" = some (some (.ref f20))) (l20 : K.lookup f20 = some ⟨oc20, od20, .func (PySem.W.fnOf "out_rests" "out_rests" (defArgs s_out_rests) (defBody s_out_rests) (defScope s_out_rests) .none kV20 dc20 pm20 an20 cd20 ct20), sl20⟩) (c20 : PySem.W.codeIn K cd20 "out_rests" = true) (k20 : PySem.W.keepIn K (.ref f20) = true)
    (a21 : PySem.W.nsIn K mainGlobals "is_dealing" = some (some (.ref f21))) (l21 : K.lookup f21 = some ⟨oc21, od21, .func (PySem.W.fnOf "is_dealing" "is_dealing" (defArgs s_is_dealing) (defBody s_is_dealing) (defScope s_is_dealing) .none kV21 dc21 pm21 an21 cd21 ct21), sl21⟩) (c21 : PySem.W.codeIn K cd21 "is_dealing" = true) (k21 : PySem.W.keepIn K (.ref f21) = true)
    (a22 : PySem.W.nsIn K mainGlobals "_law_is_dealing" = some (some (.ref f22))) (l22 : K.lookup f22 = some ⟨oc22, od22, .func (PySem.W.fnOf "_law_is_dealing" "_law_is_dealing" (defArgs sLD) (defBody sLD) (defScope sLD) .none kV22 dc22 pm22 an22 cd22 ct22), sl22⟩) (c22 : PySem.W.codeIn K cd22 "_law_is_dealing" = true) (k22 : PySem.W.keepIn K (.ref f22) = true)
    (a23 : PySem.W.nsIn K mainGlobals "_law_any_ranks" = some (some (.ref f23))) (l23 : K.lookup f23 = some ⟨oc23, od23, .func (PySem.W.fnOf "_law_any_ranks" "_law_any_ranks" (defArgs sRk) (defBody sRk) (defScope sRk) .none kV23 dc23 pm23 an23 cd23 ct23), sl23⟩) (c23 : PySem.W.codeIn K cd23 "_law_any_ranks" = true) (k23 : PySem.W.keepIn K (.ref f23) = true)
    (a24 : PySem.W.nsIn K mainGlobals "_law_bent" = some (some (.ref f24))) (l24 : K.lookup f24 = some ⟨oc24, od24, .func (PySem.W.fnOf "_law_bent" "_law_bent" (defArgs sBent) (defBody sBent) (defScope sBent) .none kV24 dc24 pm24 an24 cd24 ct24), sl24⟩) (c24 : PySem.W.codeIn K cd24 "_law_bent" = true) (k24 : PySem.W.keepIn K (.ref f24) = true)
    (a25 : PySem.W.nsIn K mainGlobals "_law_moved" = some (some (.ref f25))) (l25 : K.lookup f25 = some ⟨oc25, od25, .func (PySem.W.fnOf "_law_moved" "_law_moved" (defArgs sMv) (defBody sMv) (defScope sMv) .none kV25 dc25 pm25 an25 cd25 ct25), sl25⟩) (c25 : PySem.W.codeIn K cd25 "_law_moved" = true) (k25 : PySem.W.keepIn K (.ref f25) = true)
    (a26 : PySem.W.nsIn K mainGlobals "_law_right" = some (some (.ref f26))) (l26 : K.lookup f26 = some ⟨oc26, od26, .func (PySem.W.fnOf "_law_right" "_law_right" (defArgs sRight) (defBody sRight) (defScope sRight) .none kV26 dc26 pm26 an26 cd26 ct26), sl26⟩) (c26 : PySem.W.codeIn K cd26 "_law_right" = true) (k26 : PySem.W.keepIn K (.ref f26) = true)
    (a27 : PySem.W.nsIn K mainGlobals "law" = some (some (.ref f27))) (l27 : K.lookup f27 = some ⟨oc27, od27, .func (PySem.W.fnOf "law" "law" (defArgs sLaw) (defBody sLaw) (defScope sLaw) .none kV27 dc27 pm27 an27 cd27 ct27), sl27⟩) (c27 : PySem.W.codeIn K cd27 "law" = true) (k27 : PySem.W.keepIn K (.ref f27) = true)
    (z1 : PySem.W.nsIn K mainGlobals "len" = some none) (z2 : PySem.W.nsIn K mainGlobals "sum" = some none) (z3 : PySem.W.nsIn K mainGlobals "abs" = some none) (z4 : PySem.W.nsIn K mainGlobals "all" = some none) (z5 : PySem.W.nsIn K mainGlobals "any" = some none) (z6 : PySem.W.nsIn K mainGlobals "min" = some none) (z7 : PySem.W.nsIn K mainGlobals "max" = some none) (z8 : PySem.W.nsIn K mainGlobals "sorted" = some none) (z9 : PySem.W.nsIn K mainGlobals "range" = some none) (z10 : PySem.W.nsIn K mainGlobals "enumerate" = some none) (z11 : PySem.W.nsIn K mainGlobals "zip" = some none) (z12 : PySem.W.nsIn K mainGlobals "isinstance" = some none) (z13 : PySem.W.nsIn K mainGlobals "tuple" = some none) (z14 : PySem.W.nsIn K mainGlobals "list" = some none) (z15 : PySem.W.nsIn K mainGlobals "int" = some none) (z16 : PySem.W.nsIn K mainGlobals "bool" = some none)
    {tMo : Tok} (zMo : PySem.W.nsIn K mainGlobals "MOST_IN_ROW" = some (some (.int 99999 tMo)))
    : ∃ fd : FuncData, (∀ (s : Shared) (v : Value), BindsTo s fd ⟨[v], []⟩ [("_law_script", v)]) ∧ ∀ base : Heap, K.In base → base.Ns mainGlobals mg → FnOk l.prog w K mg base CX0 10 fa fd ["_law_script"] (spLaw K) := by
  have e := hfa.symm.trans (PySem.W.mg_of X G a27)
  cases e
  have T : Free mg := ⟨PySem.W.mg_none_of X G z1, PySem.W.mg_none_of X G z2, PySem.W.mg_none_of X G z3, PySem.W.mg_none_of X G z4, PySem.W.mg_none_of X G z5, PySem.W.mg_none_of X G z6, PySem.W.mg_none_of X G z7, PySem.W.mg_none_of X G z8, PySem.W.mg_none_of X G z9, PySem.W.mg_none_of X G z10, PySem.W.mg_none_of X G z11, PySem.W.mg_none_of X G z12, PySem.W.mg_none_of X G z13, PySem.W.mg_none_of X G z14, PySem.W.mg_none_of X G z15, PySem.W.mg_none_of X G z16⟩
  have F1 := fun_mk (st := sTake) l1 c1 k1
  have b1 := F1.binds (ps := ["_law_purse_here", "_law_many"]) fun _ _ _ _ _ _ us hl => match us, hl with | [_, _], _ => rfl
  have F2 := fun_mk (st := sCell) l2 c2 k2
  have b2 := F2.binds (ps := ["_law_script", "_law_k"]) fun _ _ _ _ _ _ us hl => match us, hl with | [_, _], _ => rfl
  have F3 := fun_mk (st := sPurse) l3 c3 k3
  have b3 := F3.binds (ps := ["_law_cell_here"]) fun _ _ _ _ _ _ us hl => match us, hl with | [_], _ => rfl
  have F4 := fun_mk (st := sNum) l4 c4 k4
  have b4 := F4.binds (ps := ["_law_it"]) fun _ _ _ _ _ _ us hl => match us, hl with | [_], _ => rfl
  have F5 := fun_mk (st := sNums) l5 c5 k5
  have b5 := F5.binds (ps := ["_law_it", "_law_many"]) fun _ _ _ _ _ _ us hl => match us, hl with | [_, _], _ => rfl
  have F6 := fun_mk (st := sOuts) l6 c6 k6
  have b6 := F6.binds (ps := ["_law_purse_here", "_law_many", "_law_most"]) fun _ _ _ _ _ _ us hl => match us, hl with | [_, _, _], _ => rfl
  have F7 := fun_mk (st := sBacks) l7 c7 k7
  have b7 := F7.binds (ps := ["_law_purse_here", "_law_sent", "_law_many"]) fun _ _ _ _ _ _ us hl => match us, hl with | [_, _, _], _ => rfl
  have F8 := fun_mk (st := sDealt) l8 c8 k8
  have b8 := F8.binds (ps := ["_law_sent", "_law_came", "_law_ranks"]) fun _ _ _ _ _ _ us hl => match us, hl with | [_, _, _], _ => rfl
  have F9 := fun_mk (st := s_is_whole) l9 c9 k9
  have b9 := F9.binds (ps := ["thing", "least", "greatest"]) fun _ _ _ _ _ _ us hl => match us, hl with | [_, _, _], _ => rfl
  have F10 := fun_mk (st := s_is_day) l10 c10 k10
  have b10 := F10.binds (ps := ["thing"]) fun _ _ _ _ _ _ us hl => match us, hl with | [_], _ => rfl
  have F11 := fun_mk (st := s_is_amount) l11 c11 k11
  have b11 := F11.binds (ps := ["thing"]) fun _ _ _ _ _ _ us hl => match us, hl with | [_], _ => rfl
  have F12 := fun_mk (st := s_is_row) l12 c12 k12
  have b12 := F12.binds (ps := ["thing"]) fun _ _ _ _ _ _ us hl => match us, hl with | [_], _ => rfl
  have F13 := fun_mk (st := s_is_out) l13 c13 k13
  have b13 := F13.binds (ps := ["thing"]) fun _ _ _ _ _ _ us hl => match us, hl with | [_], _ => rfl
  have F14 := fun_mk (st := s_is_back) l14 c14 k14
  have b14 := F14.binds (ps := ["thing"]) fun _ _ _ _ _ _ us hl => match us, hl with | [_], _ => rfl
  have F15 := fun_mk (st := s_check_outs) l15 c15 k15
  have b15 := F15.binds (ps := ["outs"]) fun _ _ _ _ _ _ us hl => match us, hl with | [_], _ => rfl
  have F16 := fun_mk (st := s_check_backs) l16 c16 k16
  have b16 := F16.binds (ps := ["backs"]) fun _ _ _ _ _ _ us hl => match us, hl with | [_], _ => rfl
  have F17 := fun_mk (st := s_is_part) l17 c17 k17
  have b17 := F17.binds (ps := ["outs", "backs", "thing"]) fun _ _ _ _ _ _ us hl => match us, hl with | [_, _, _], _ => rfl
  have F18 := fun_mk (st := s_rises) l18 c18 k18
  have b18 := F18.binds (ps := ["dealing"]) fun _ _ _ _ _ _ us hl => match us, hl with | [_], _ => rfl
  have F19 := fun_mk (st := s_back_rests) l19 c19 k19
  have b19 := F19.binds (ps := ["backs", "dealing"]) fun _ _ _ _ _ _ us hl => match us, hl with | [_, _], _ => rfl
  have F20 := fun_mk (st := s_out_rests) l20 c20 k20
  have b20 := F20.binds (ps := ["outs", "dealing"]) fun _ _ _ _ _ _ us hl => match us, hl with | [_, _], _ => rfl
  have F21 := fun_mk (st := s_is_dealing) l21 c21 k21
  have b21 := F21.binds (ps := ["outs", "backs", "thing"]) fun _ _ _ _ _ _ us hl => match us, hl with | [_, _, _], _ => rfl
  have F22 := fun_mk (st := sLD) l22 c22 k22
  have b22 := F22.binds (ps := ["_law_sent", "_law_came", "_law_it"]) fun _ _ _ _ _ _ us hl => match us, hl with | [_, _, _], _ => rfl
  have F23 := fun_mk (st := sRk) l23 c23 k23
  have b23 := F23.binds (ps := ["_law_purse_here", "_law_sent"]) fun _ _ _ _ _ _ us hl => match us, hl with | [_, _], _ => rfl
  have F24 := fun_mk (st := sBent) l24 c24 k24
  have b24 := F24.binds (ps := ["_law_purse_here", "_law_old"]) fun _ _ _ _ _ _ us hl => match us, hl with | [_, _], _ => rfl
  have F25 := fun_mk (st := sMv) l25 c25 k25
  have b25 := F25.binds (ps := ["_law_purse_here", "_law_deal_of", "_law_sent"]) fun _ _ _ _ _ _ us hl => match us, hl with | [_, _, _], _ => rfl
  have F26 := fun_mk (st := sRight) l26 c26 k26
  have b26 := F26.binds (ps := ["_law_purse_here"]) fun _ _ _ _ _ _ us hl => match us, hl with | [_], _ => rfl
  have F27 := fun_mk (st := sLaw) l27 c27 k27
  have b27 := F27.binds (ps := ["_law_script"]) fun _ _ _ _ _ _ us hl => match us, hl with | [_], _ => rfl
  refine ⟨PySem.W.fnOf "law" "law" (defArgs sLaw) (defBody sLaw) (defScope sLaw) .none kV27 dc27 pm27 an27 cd27 ct27, fun s v => .of_eq rfl, fun base _ _ => ?_⟩
  have dT : Def l.prog w K mg base "_law_take" 1 f1 _ _ spTake := ⟨ok_take F1, PySem.W.mg_of X G a1, k1, b1⟩
  have dC : Def l.prog w K mg base "_law_cell" 1 f2 _ _ (spCell K) := ⟨ok_cell F2 T, PySem.W.mg_of X G a2, k2, b2⟩
  have dP : Def l.prog w K mg base "_law_purse" 1 f3 _ _ spPurse := ⟨ok_purse F3 T, PySem.W.mg_of X G a3, k3, b3⟩
  have dN : Def l.prog w K mg base "_law_number" 1 f4 _ _ spNumA := ⟨ok_numA F4 T, PySem.W.mg_of X G a4, k4, b4⟩
  have dM : Def l.prog w K mg base "_law_numbers" 2 f5 _ _ spNumsA := ⟨ok_numsA F5 T dN, PySem.W.mg_of X G a5, k5, b5⟩
  have dO : Def l.prog w K mg base "_law_outs" 2 f6 _ _ spOuts := ⟨ok_outs F6 T dT, PySem.W.mg_of X G a6, k6, b6⟩
  have dB : Def l.prog w K mg base "_law_backs" 2 f7 _ _ spBacks := ⟨ok_backs F7 T dT, PySem.W.mg_of X G a7, k7, b7⟩
  have dD : Def l.prog w K mg base "_law_dealt" 1 f8 _ _ spDealt := ⟨ok_dealt F8 T, PySem.W.mg_of X G a8, k8, b8⟩
  have d9 : Def l.prog w K mg base "is_whole" 1 f9 _ _ spWhole := ⟨ok_whole F9 T, PySem.W.mg_of X G a9, k9, b9⟩
  have d9A : Def l.prog w K mg base "is_whole" 1 f9 _ _ spWholeA := ⟨ok_wholeA F9 T, PySem.W.mg_of X G a9, k9, b9⟩
  have d10 : Def l.prog w K mg base "is_day" 2 f10 _ _ spDay := ⟨ok_Day F10 d9, PySem.W.mg_of X G a10, k10, b10⟩
  have d11 : Def l.prog w K mg base "is_amount" 2 f11 _ _ spDay := ⟨ok_Amount F11 d9, PySem.W.mg_of X G a11, k11, b11⟩
  have d12 : Def l.prog w K mg base "is_row" 1 f12 _ _ spIsRow := ⟨ok_isRow F12 T, PySem.W.mg_of X G a12, k12, b12⟩
  have hMo := PySem.W.mg_of X G zMo
  have rMo : RelV (.int 99999) (.int 99999 tMo) := ⟨_, rfl⟩
  have d13 : Def l.prog w K mg base "is_out" 3 f13 _ _ spOut := ⟨ok_isOut F13 T hMo rMo d9 d10 d11, PySem.W.mg_of X G a13, k13, b13⟩
  have d14 : Def l.prog w K mg base "is_back" 3 f14 _ _ spBack := ⟨ok_isBack F14 T hMo rMo d9 d10, PySem.W.mg_of X G a14, k14, b14⟩
  have d15 : Def l.prog w K mg base "check_outs" 4 f15 _ _ spCOuts := ⟨ok_cOuts F15 T d12 d13, PySem.W.mg_of X G a15, k15, b15⟩
  have d16 : Def l.prog w K mg base "check_backs" 4 f16 _ _ spCBacksR := ⟨ok_cBacksR F16 T d12 d14, PySem.W.mg_of X G a16, k16, b16⟩
  have d17 : Def l.prog w K mg base "is_part" 2 f17 _ _ spPartA := ⟨ok_partA F17 T d9A, PySem.W.mg_of X G a17, k17, b17⟩
  have d18 : Def l.prog w K mg base "rises" 1 f18 _ _ spRisesB := ⟨ok_risesB F18 T, PySem.W.mg_of X G a18, k18, b18⟩
  have d19 : Def l.prog w K mg base "back_rests" 1 f19 _ _ spBRestsB := ⟨ok_bRestsB F19 T, PySem.W.mg_of X G a19, k19, b19⟩
  have d20 : Def l.prog w K mg base "out_rests" 1 f20 _ _ spORestsB := ⟨ok_oRestsB F20 T, PySem.W.mg_of X G a20, k20, b20⟩
  have d21 : Def l.prog w K mg base "is_dealing" 5 f21 _ _ spIsDB := ⟨ok_isDB F21 T d15 d16 d17 d18 d19 d20, PySem.W.mg_of X G a21, k21, b21⟩
  have k21' := kbn_DBO F21 fun _ _ _ _ _ _ us ws h1 h2 => match us, ws, h1, h2 with | [], [_, _, _], _, _ => rfl
  have d22 : Def l.prog w K mg base "_law_is_dealing" 3 f22 _ _ spLD := ⟨ok_LD F22 T dM, PySem.W.mg_of X G a22, k22, b22⟩
  have d23 : Def l.prog w K mg base "_law_any_ranks" 2 f23 _ _ spRk := ⟨ok_rk F23 T dT, PySem.W.mg_of X G a23, k23, b23⟩
  have d24 : Def l.prog w K mg base "_law_bent" 4 f24 _ _ (spBent 2) := ⟨ok_bent F24 T dT (fun h => ⟨h, PySem.W.mg_of X G a24, k24, b24⟩), PySem.W.mg_of X G a24, k24, b24⟩
  have d25 : Def l.prog w K mg base "_law_moved" 2 f25 _ _ spMv := ⟨ok_mv F25 T dT, PySem.W.mg_of X G a25, k25, b25⟩
  have dR : Def l.prog w K mg base "_law_right" 9 f26 _ _ spRight := ⟨ok_right F26 T dT dO dB dD d23 d25 d24 d21 k21' d22, PySem.W.mg_of X G a26, k26, b26⟩
  exact ok_law F27 T dC dP dR
theorem walk {l : PySem.W.OpenLaw} {q : Program} {loose : List Str} {XP : (Str → Option Value) → Heap → Prop} {YP : World → Heap → Prop} {d : DefRec} {K : Params → PySem.W.Frag} (hn : l.most = some 63) (hdf : d.params.defaults = [])
    (hY : ∀ (w : World) (h : Heap), YP w h → (K w.params).In h)
    (F : ∀ (w : World) (mg : Str → Option Value) (fa : Addr) (h : Heap), (K w.params).In h → h.Ns mainGlobals mg → mg d.name = some (.ref fa) →
      ∃ fd : FuncData, (∀ (s : Shared) (u : Value), BindsTo s fd ⟨[u], []⟩ [("_law_script", u)]) ∧ ∀ base : Heap, (K w.params).In base → base.Ns mainGlobals mg → FnOk l.prog w (K w.params) mg base CX0 10 fa fd ["_law_script"] (spLaw (K w.params))) :
    PySem.W.WalkO q loose XP YP l.row.toRowW d [] (fun f vs => PySem.call f vs) :=
  L2.walk_of (n := 63) (k := 10) (x := "_law_script") (CX := fun _ => CX0) (sp := fun w => spLaw (K w.params)) hn (by decide) hdf ⟨rfl, by decide, by decide⟩ hY F (fun _ _ a ns hl _ hS => ⟨a, ns, rfl, hS, hl, fun _ => rfl⟩) fun _ _ _ _ _ z => z
end Sk
open PySem PySem.W PyProof.Rows
set_option maxRecDepth 100000 in
set_option maxHeartbeats 0 in
theorem PySem.Challenge.cw_stakecrates_k16_what_dealings_are_holds : PySem.Challenge.rw_stakecrates_k16_what_dealings_are.Holds := by
  w_on; o_law; k_head; (case hw => w_witness2)
  k_fill
  refine Sk.walk (l := PySem.Challenge.rw_stakecrates_k16_what_dealings_are) rfl rfl (fun w h Y => PySem.W.kIn_of Y) ?F
  case F =>
    intro w mg fa h KX G hmg
    refine' Sk.all_mk KX G hmg ?a1 ?l1 ?c1 ?k1 ?a2 ?l2 ?c2 ?k2 ?a3 ?l3 ?c3 ?k3 ?a4 ?l4 ?c4 ?k4 ?a5 ?l5 ?c5 ?k5 ?a6 ?l6 ?c6 ?k6 ?a7 ?l7 ?c7 ?k7 ?a8 ?l8 ?c8 ?k8 ?a9 ?l9 ?c9 ?k9 ?a10 ?l10 ?c10 ?k10 ?a11 ?l11 ?c11 ?k11 ?a12 ?l12 ?c12 ?k12 ?a13 ?l13 ?c13 ?k13 ?a14 ?l14 ?c14 ?k14 ?a15 ?l15 ?c15 ?k15 ?a16 ?l16 ?c16 ?k16 ?a17 ?l17 ?c17 ?k17 ?a18 ?l18 ?c18 ?k18 ?a19 ?l19 ?c19 ?k19 ?a20 ?l20 ?c20 ?k20 ?a21 ?l21 ?c21 ?k21 ?a22 ?l22 ?c22 ?k22 ?a23 ?l23 ?c23 ?k23 ?a24 ?l24 ?c24 ?k24 ?a25 ?l25 ?c25 ?k25 ?a26 ?l26 ?c26 ?k26 ?a27 ?l27 ?c27 ?k27 ?z1 ?z2 ?z3 ?z4 ?z5 ?z6 ?z7 ?z8 ?z9 ?z10 ?z11 ?z12 ?z13 ?z14 ?z15 ?z16 ?zMo
    (case a1 => k_is); (case l1 => k_is); (case c1 => k_is); (case k1 => k_is)
    (case a2 => k_is); (case l2 => k_is); (case c2 => k_is); (case k2 => k_is)
    (case a3 => k_is); (case l3 => k_is); (case c3 => k_is); (case k3 => k_is)
    (case a4 => k_is); (case l4 => k_is); (case c4 => k_is); (case k4 => k_is)
    (case a5 => k_is); (case l5 => k_is); (case c5 => k_is); (case k5 => k_is)
    (case a6 => k_is); (case l6 => k_is); (case c6 => k_is); (case k6 => k_is)
    (case a7 => k_is); (case l7 => k_is); (case c7 => k_is); (case k7 => k_is)
    (case a8 => k_is); (case l8 => k_is); (case c8 => k_is); (case k8 => k_is)
    (case a9 => k_is); (case l9 => k_is); (case c9 => k_is); (case k9 => k_is)
    (case a10 => k_is); (case l10 => k_is); (case c10 => k_is); (case k10 => k_is)
    (case a11 => k_is); (case l11 => k_is); (case c11 => k_is); (case k11 => k_is)
    (case a12 => k_is); (case l12 => k_is); (case c12 => k_is); (case k12 => k_is)
    (case a13 => k_is); (case l13 => k_is); (case c13 => k_is); (case k13 => k_is)
    (case a14 => k_is); (case l14 => k_is); (case c14 => k_is); (case k14 => k_is)
    (case a15 => k_is); (case l15 => k_is); (case c15 => k_is); (case k15 => k_is)
    (case a16 => k_is); (case l16 => k_is); (case c16 => k_is); (case k16 => k_is)
    (case a17 => k_is); (case l17 => k_is); (case c17 => k_is); (case k17 => k_is)
    (case a18 => k_is); (case l18 => k_is); (case c18 => k_is); (case k18 => k_is)
    (case a19 => k_is); (case l19 => k_is); (case c19 => k_is); (case k19 => k_is)
    (case a20 => k_is); (case l20 => k_is); (case c20 => k_is); (case k20 => k_is)
    (case a21 => k_is); (case l21 => k_is); (case c21 => k_is); (case k21 => k_is)
    (case a22 => k_is); (case l22 => k_is); (case c22 => k_is); (case k22 => k_is)
    (case a23 => k_is); (case l23 => k_is); (case c23 => k_is); (case k23 => k_is)
    (case a24 => k_is); (case l24 => k_is); (case c24 => k_is); (case k24 => k_is)
    (case a25 => k_is); (case l25 => k_is); (case c25 => k_is); (case k25 => k_is)
    (case a26 => k_is); (case l26 => k_is); (case c26 => k_is); (case k26 => k_is)
    (case a27 => k_is); (case l27 => k_is); (case c27 => k_is); (case k27 => k_is)
    (case z1 => k_is); (case z2 => k_is); (case z3 => k_is); (case z4 => k_is)
    (case z5 => k_is); (case z6 => k_is); (case z7 => k_is); (case z8 => k_is)
    (case z9 => k_is); (case z10 => k_is); (case z11 => k_is); (case z12 => k_is)
    (case z13 => k_is); (case z14 => k_is); (case z15 => k_is); (case z16 => k_is)
    (case zMo => k_is)
end
