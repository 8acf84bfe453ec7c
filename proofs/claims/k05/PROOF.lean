import PyProof.Rows.All
import Wide.All
import OpenK.AllK
import Wide.FinOn
import PySem.Challenge.RW_wrongshown_k05_truth_refusals
import HandS.ForMost
import HandS.IsInst
import HandS.Flow
import PyProof.EqAt
import PyProof.EqKinds
import PyProof.TupleCall
import HandS.Strs
import HandS.SetKeys
import HandS.Text
import HandS.TupAny
import HandS.TupMul
import PyProof.InstNe
import HandS.SlotsOwn
import HandS.ForExc
import HandS.ExcIs
import HandS.ExcInit
import HandS.ExcOwn
import HandS.ExcValue
import HandS.Deep
import HandS.TryMany
import HandS.ExcField
import HandS.NoneIn
import HandS.Defaults
import HandS.MakeKwOnly
import KE.DataCmp
set_option Elab.async false
set_option linter.all false
set_option maxRecDepth 100000
set_option maxHeartbeats 4000000
/-! Wn: rules whose reading is decided by what is tracked, and the steps that answer a reading from the left. -/
namespace Wn
open PySem PySem.Spec PyProof.Rows L2
/-! ### operations by what is tracked alone -/
def rIx' : R2 := fun x y H Q => ∃ p xs i v, x = .ref p ∧ y = .int i ∧ H p = some (.lst xs) ∧ atI xs i = some v ∧ Q v H
theorem ix_l {X : Cx} : IxR X rIx' := fun a b c d e f g h i j k l m o ⟨p, xs, n, v, h1, h2, h3, h4, q⟩ => ix_list a b c d e f g h i j k l m o ⟨p, xs, n, v, h1, h2, SqL.of h3, h4, q⟩
def rIxT' : R2 := fun x y H Q => ∃ p xs i v, x = .ref p ∧ y = .int i ∧ H p = some (.tup xs) ∧ atI xs i = some v ∧ Q v H
theorem ix_t {X : Cx} : IxR X rIxT' := fun a b c d e f g h i j k l m o ⟨p, xs, n, v, h1, h2, h3, h4, q⟩ => ix_tup a b c d e f g h i j k l m o ⟨p, xs, n, v, h1, h2, SqT.of h3, h4, q⟩
def rLenL : List V → Hp → VK → Prop := fun xs H Q => ∃ p ys, xs = [.ref p] ∧ H p = some (.lst ys) ∧ Q (.int ys.length) H
theorem call_lenL {X : Cx} : CallR X (.builtin "len") rLenL := fun a b c d e f g h i ⟨p, ys, h1, h2, q⟩ => call_len_seq a b c d e f g h i ⟨p, ys, h1, .inl (SqL.of h2), q⟩
def rLenT : List V → Hp → VK → Prop := fun xs H Q => ∃ p ys, xs = [.ref p] ∧ H p = some (.tup ys) ∧ Q (.int ys.length) H
theorem call_lenT {X : Cx} : CallR X (.builtin "len") rLenT := fun a b c d e f g h i ⟨p, ys, h1, h2, q⟩ => call_len_seq a b c d e f g h i ⟨p, ys, h1, .inr (SqT.of h2), q⟩
def rInt1 : List V → Hp → VK → Prop := fun xs H Q => ∃ i, xs = [.int i] ∧ Q (.int i) H
theorem call_intI {X : Cx} : CallR X (.type "int") rInt1 := fun a b c d e f g h i ⟨n, h1, q⟩ => call_int1 a b c d e f g h i (.inl ⟨n, h1, q⟩)
/-- an if whose ways meet again: where they do, the steps halt -/
def tJoin (p : L2.St → Hp → Prop) : L2.St → Hp → Prop := p
def tIfJ (c : TT) (t u : TS) : TS := fun D σ H => c σ H fun b H1 => if b = true then t { D with nx := tJoin D.nx } σ H1 else u { D with nx := tJoin D.nx } σ H1
theorem ps_ifj {X : Cx} {c : Expr} {a b : List Stmt} {pos : Pos} {tc : TT} {t u : TS} (hc : PT X c tc) (ha : PSs X a t) (hb : PSs X b u) : PS X (.If c a b pos) (tIfJ tc t u) := ps_if hc ha hb
/-! ### answers -/
section
variable {σ σ' : L2.St} {H : Hp} {Q : VK} {D : Ends} {ta tb te : TE} {tl : TA} {g : TG} {t u : TS} {c : TT}
theorem r_seq (h : t { D with nx := u D } σ H) : tSeq t u D σ H := h
theorem r_asg (h : te σ H fun x H1 => g x σ H1 D.nx) : tAsg te g D σ H := h
theorem r_op {r : R2} (h : ta σ H fun x H1 => tb σ H1 fun y H2 => r x y H2 Q) : tOp r ta tb σ H Q := h
theorem r_un {r : V → Hp → VK → Prop} (h : ta σ H fun x H1 => r x H1 Q) : tUn r ta σ H Q := h
theorem r_var {i : Nat} {v : V} (e : σ[i]? = some (some v)) (h : Q v H) : tVar i σ H Q := ⟨v, e, h⟩
theorem r_c {v : V} (h : Q v H) : tC v σ H Q := h
theorem r_test {Q : Bool → Hp → Prop} (h : te σ H fun x H' => ∃ k, x = .bl k ∧ Q k H') : tTest te σ H Q := h
theorem r_tb {Q : Bool → Hp → Prop} (h : te σ H fun x H' => ∃ k, x = .bl k ∧ Q k H') : tB te σ H Q := h
theorem r_bl {Q : Bool → Prop} {b : Bool} (h : Q b) : ∃ k, V.bl b = V.bl k ∧ Q k := ⟨b, rfl, h⟩
theorem r_ifs (h : c σ H fun b H1 => if b = true then t D σ H1 else u D σ H1) : tIfS c t u D σ H := h
theorem r_ifj (h : c σ H fun b H1 => if b = true then t { D with nx := tJoin D.nx } σ H1 else u { D with nx := tJoin D.nx } σ H1) : tIfJ c t u D σ H := h
theorem r_join {p : L2.St → Hp → Prop} (h : p σ H) : tJoin p σ H := h
theorem r_yes {Q : Bool → Hp → Prop} (h : Q true H) : tYes σ H Q := h
theorem r_wipe {s1 s2 : L2.St} {vs : List Nat} {P : Prop} (e : wipe s1 vs = wipe s2 vs) (h : P) : wipe s1 vs = wipe s2 vs ∧ P := ⟨e, h⟩
theorem r_lst (h : tl σ H fun xs H1 => xs.length ≤ sizeLine ∧ ∀ p, H1 p = none → Q (.ref p) (upd H1 p (.lst xs))) : tLst tl σ H Q := h
theorem r_tup (h : tl σ H fun xs H1 => xs.length ≤ sizeLine ∧ ∀ p, H1 p = none → Q (.ref p) (upd H1 p (.tup xs))) : tTup tl σ H Q := h
theorem r_sz {xs : List V} {P : Prop} (e : xs.length ≤ sizeLine) (h : P) : xs.length ≤ sizeLine ∧ P := ⟨e, h⟩
theorem r_ret (h : te σ H D.rt) : tRet te D σ H := h
theorem r_next (h : D.nx σ H) : tNext D σ H := h
theorem r_drop (h : te σ H fun _ H1 => D.nx σ H1) : tDrop te D σ H := h
theorem r_nil {Q : List V → Hp → Prop} (h : Q [] H) : tNil σ H Q := h
theorem r_cons {Q : List V → Hp → Prop} (h : te σ H fun x H1 => tl σ H1 fun xs H2 => Q (x :: xs) H2) : tCons te tl σ H Q := h
theorem r_cb {r : List V → Hp → VK → Prop} (h : tl σ H fun vs H1 => r vs H1 Q) : tCB r tl σ H Q := h
theorem r_call {sp : Sp} {dvs : List V} {E : XK} (h : tl σ H fun vs H1 => sp (vs ++ dvs) H1 Q E) : tCall sp dvs E tl σ H Q := h
theorem r_gname {i : Nat} {v : V} {Q : L2.St → Hp → Prop} (e : σ.set i (some v) = σ') (h : Q σ' H) : gName i v σ H Q := by subst e; exact h
theorem r_gsub {to ti : TE} {r : TSet} {v : V} {Q : L2.St → Hp → Prop} (h : to σ H fun o H1 => ti σ H1 fun i H2 => r o i v H2 fun H3 => Q σ H3) : gSub to ti r v σ H Q := h
theorem r_setl {p : Addr} {k : Int} {j : Nat} {xs ys : List V} {v : V} {Q : Hp → Prop} (e : H p = some (.lst xs)) (hi : ixN xs.length k = some j) (hs : xs.set j v = ys) (h : Q (upd H p (.lst ys))) : rSetL (.ref p) (.int k) v H Q :=
  ⟨p, xs, k, j, rfl, rfl, e, hi, by rw [hs]; exact h⟩
theorem r_I0 {f : Int → Int → V} {i j : Int} (h : Q (f i j) H) : rI0 f (.int i) (.int j) H Q := ⟨i, j, rfl, rfl, h⟩
theorem r_I {C : Int → Int → Prop} {f : Int → Int → V} {i j : Int} (hc : C i j) (h : Q (f i j) H) : rI C f (.int i) (.int j) H Q := ⟨i, j, rfl, rfl, hc, h⟩
theorem r_ix {p : Addr} {i : Int} {xs : List V} {v : V} (e : H p = some (.lst xs)) (hi : atI xs i = some v) (h : Q v H) : rIx' (.ref p) (.int i) H Q := ⟨p, xs, i, v, rfl, rfl, e, hi, h⟩
theorem r_ixt {p : Addr} {i : Int} {xs : List V} {v : V} (e : H p = some (.tup xs)) (hi : atI xs i = some v) (h : Q v H) : rIxT' (.ref p) (.int i) H Q := ⟨p, xs, i, v, rfl, rfl, e, hi, h⟩
theorem r_lenl {p : Addr} {xs : List V} (e : H p = some (.lst xs)) (h : Q (.int xs.length) H) : rLenL [.ref p] H Q := ⟨p, xs, rfl, e, h⟩
theorem r_lent {p : Addr} {xs : List V} (e : H p = some (.tup xs)) (h : Q (.int xs.length) H) : rLenT [.ref p] H Q := ⟨p, xs, rfl, e, h⟩
theorem r_int1 {i : Int} (h : Q (.int i) H) : rInt1 [.int i] H Q := ⟨i, rfl, h⟩
theorem r_eq {x y : V} (hs : scal x y = true) (h : Q (.bl (decide (x = y))) H) : rEq x y H Q := ⟨hs, h⟩
theorem r_ne {x y : V} (hs : scal x y = true) (h : Q (.bl (!decide (x = y))) H) : rNe x y H Q := ⟨hs, h⟩
theorem r_and {a b : TT} {Q : Bool → Hp → Prop} (h : a σ H fun c H1 => if c = true then b σ H1 Q else Q false H1) : tAnd a b σ H Q := h
theorem r_or {a b : TT} {Q : Bool → Hp → Prop} (h : a σ H fun c H1 => if c = true then Q true H1 else b σ H1 Q) : tOr a b σ H Q := h
theorem r_not {a : TT} {Q : Bool → Hp → Prop} (h : a σ H fun c H1 => Q (!c) H1) : tNot a σ H Q := h
theorem r_ife {a : TT} (h : a σ H fun c H1 => if c = true then ta σ H1 Q else tb σ H1 Q) : tIf a ta tb σ H Q := h
/-- an if over a decided test -/
theorem ifd {p A B : Prop} [Decidable p] (h1 : p → A) (h2 : ¬ p → B) : if decide p = true then A else B := by
  by_cases h : p
  · rw [if_pos (decide_eq_true h)]; exact h1 h
  · rw [if_neg (by rw [decide_eq_false h]; exact Bool.false_ne_true)]; exact h2 h
theorem ifd_int {i j : Int} {A B : Prop} (h1 : i = j → A) (h2 : i ≠ j → B) : if decide (V.int i = V.int j) = true then A else B :=
  ifd (fun e => h1 (V.int.inj e)) fun e => h2 fun z => e (by rw [z])
theorem map_at {ns : List Int} {i : Nat} {x : V} (h : (ns.map V.int)[i]? = some x) : ∃ z, ns[i]? = some z ∧ x = V.int z := by
  rw [List.getElem?_map] at h
  cases e : ns[i]? with
  | none => rw [e] at h; cases h
  | some z => rw [e] at h; exact ⟨z, rfl, (Option.some.inj h).symm⟩
theorem same_new {H : Hp} {p : Addr} {o : HO} (h : H p = none) : Same H (upd H p o) := fun b x e => (upd_ne (ne_of_none e h)).trans e
theorem take_at {α : Type} {l : List α} {i : Nat} {x : α} (h : l[i]? = some x) : l.take (i + 1) = l.take i ++ [x] := by
  rw [List.take_add_one, h]; rfl
theorem ite_t {c : Bool} {A B : Prop} (e : c = true) (h : A) : if c = true then A else B := by rw [if_pos e]; exact h
theorem ite_f {c : Bool} {A B : Prop} (e : c = false) (h : B) : if c = true then A else B := by rw [if_neg (by rw [e]; exact Bool.false_ne_true)]; exact h
def vk : V → Nat
  | .non => 0 | .bl _ => 1 | .int _ => 2 | .str _ => 3 | .byt _ => 4 | .flt _ => 5 | .ref _ => 6 | .ty _ => 7
theorem clash_ne {x y : V} (h : (vk x != vk y) = true) : ¬ x = y := fun e => by
  subst e
  simp at h
theorem qdec {Q : VK} {H : Hp} {p : Prop} [Decidable p] (h : p) (q : Q (.bl true) H) : Q (.bl (decide p)) H := by rw [decide_eq_true h]; exact q
theorem nd_t {p : Prop} [Decidable p] (h : ¬ p) : (!decide p) = true := by rw [decide_eq_false h]; rfl
theorem nd_f {p : Prop} [Decidable p] (h : p) : (!decide p) = false := by rw [decide_eq_true h]; rfl
theorem r_andr {α : Sort _} {a : α} {P : Prop} (h : P) : a = a ∧ P := ⟨rfl, h⟩
theorem r_andv (h : ta σ H fun x H1 => ∃ c, x = .bl c ∧ if c = true then tb σ H1 Q else Q (.bl false) H1) : tAndV ta tb σ H Q := h
theorem r_orv (h : ta σ H fun x H1 => ∃ c, x = .bl c ∧ if c = true then Q (.bl true) H1 else tb σ H1 Q) : tOrV ta tb σ H Q := h
theorem r_notv (h : ta σ H fun x H1 => ∃ c, x = .bl c ∧ Q (.bl (!c)) H1) : tNotV ta σ H Q := h
/-! ### look-ups -/
theorem ne_ex {H : Hp} {a b : Addr} (h : ∃ o, H a = some o) (h' : H b = none) : a ≠ b := let ⟨_, e⟩ := h; ne_of_none e h'
theorem lk_ne {a b : Addr} {o u : HO} (h : b ≠ a) (e : H b = some o) : upd H a u b = some o := (upd_ne h).trans e
theorem lkn_ne {a b : Addr} {u : HO} (h : b ≠ a) (e : H b = none) : upd H a u b = none := (upd_ne h).trans e
end
/-! ### data -/
mutual
theorem dp_mono {K : PySem.W.Frag} {H H' : Hp} (e : Same H H') : ∀ {x : V} {d : PyData}, Dp K H x d → Dp K H' x d
  | _, _, .non => .non
  | _, _, .bl b => .bl b
  | _, _, .int i => .int i
  | _, _, .str x => .str x
  | _, _, .lst h a => .lst (e.seq h) (dpAll_mono e a)
  | _, _, .tup h a => .tup (by
      rcases h with (h | ⟨o, h⟩) | h
      · exact .inl (.inl (e _ _ h))
      · exact .inl (.inr ⟨o, e _ _ h⟩)
      · exact .inr h) (dpAll_mono e a)
theorem dpAll_mono {K : PySem.W.Frag} {H H' : Hp} (e : Same H H') : ∀ {xs : List V} {ds : List PyData}, DpAll K H xs ds → DpAll K H' xs ds
  | _, _, .nil => .nil
  | _, _, .cons a b => .cons (dp_mono e a) (dpAll_mono e b)
end
theorem dpAll_len {K : PySem.W.Frag} {H : Hp} : ∀ {xs : List V} {ds : List PyData}, DpAll K H xs ds → xs.length = ds.length
  | _, _, .nil => rfl
  | _, _, .cons _ b => by rw [List.length_cons, List.length_cons, dpAll_len b]
theorem dpAll_at {K : PySem.W.Frag} {H : Hp} : ∀ {xs : List V} {ds : List PyData} {i : Nat} {x : V}, DpAll K H xs ds → xs[i]? = some x → ∃ d, ds[i]? = some d ∧ Dp K H x d
  | _, _, _, _, .nil, e => by simp at e
  | _, _, 0, _, .cons a _, e => by simp at e; subst e; exact ⟨_, rfl, a⟩
  | _, _, i + 1, x, .cons _ b, e => by
    obtain ⟨d, h1, h2⟩ := dpAll_at (i := i) (x := x) b (by simpa using e)
    exact ⟨d, by simpa using h1, h2⟩
def tyN : PyData → String
  | .none => "NoneType" | .bool _ => "bool" | .int _ => "int" | .str _ => "str" | .list _ => "list" | .tuple _ => "tuple" | .dict _ => "dict"
theorem ty_of {K : PySem.W.Frag} {H : Hp} {x : V} {d : PyData} (h : Dp K H x d) : TyX K H x (.type (tyN d)) := by
  cases h with
  | non => exact .base .non
  | bl b => exact .base (.bl b)
  | int i => exact .base (.int i)
  | str x => exact .base (.str x)
  | lst h a =>
    rcases h with (h | ⟨o, h⟩) | ⟨o, its, n, l, c, _⟩
    · exact .base (.lst h)
    · exact .base (.frz h)
    · exact .kList l c
  | tup h a =>
    rcases h with (h | ⟨o, h⟩) | ⟨o, its, n, l, c, _⟩
    · exact .base (.tup h)
    · exact .fTuple h
    · exact .kTuple l c
def isTup : PyData → Bool
  | .tuple _ => true
  | _ => false
theorem kit_isTup {K : PySem.W.Frag} {H : Hp} {x : V} {d : PyData} (h : Dp K H x d) : PySem.W.kitOne K (.type (tyN d)) (.type "tuple") = some (isTup d) := by
  cases h with
  | non => exact kit_ty (show kitB "NoneType" "tuple" = some false by decide +kernel)
  | bl => exact kit_ty (show kitB "bool" "tuple" = some false by decide +kernel)
  | int => exact kit_ty (show kitB "int" "tuple" = some false by decide +kernel)
  | str => exact kit_ty (show kitB "str" "tuple" = some false by decide +kernel)
  | lst => exact kit_ty (show kitB "list" "tuple" = some false by decide +kernel)
  | tup => exact kit_ty (show kitB "tuple" "tuple" = some true by decide +kernel)
theorem r_isTup {K : PySem.W.Frag} {H : Hp} {x : V} {d : PyData} {b : Bool} {Q : VK} (h : Dp K H x d) (e : isTup d = b) (q : Q (.bl b) H) : rIsi K [x, .ty "tuple"] H Q :=
  ⟨x, .ty "tuple", _, _, b, rfl, .ty _, ty_of h, by rw [← e]; exact kit_isTup h, q⟩
def isLst : PyData → Bool
  | .list _ => true
  | _ => false
theorem kit_isLst {K : PySem.W.Frag} {H : Hp} {x : V} {d : PyData} (h : Dp K H x d) : PySem.W.kitOne K (.type (tyN d)) (.type "list") = some (isLst d) := by
  cases h with
  | non => exact kit_ty (show kitB "NoneType" "list" = some false by decide +kernel)
  | bl => exact kit_ty (show kitB "bool" "list" = some false by decide +kernel)
  | int => exact kit_ty (show kitB "int" "list" = some false by decide +kernel)
  | str => exact kit_ty (show kitB "str" "list" = some false by decide +kernel)
  | lst => exact kit_ty (show kitB "list" "list" = some true by decide +kernel)
  | tup => exact kit_ty (show kitB "tuple" "list" = some false by decide +kernel)
theorem r_isLst {K : PySem.W.Frag} {H : Hp} {x : V} {d : PyData} {b : Bool} {Q : VK} (h : Dp K H x d) (e : isLst d = b) (q : Q (.bl b) H) : rIsi K [x, .ty "list"] H Q :=
  ⟨x, .ty "list", _, _, b, rfl, .ty _, ty_of h, by rw [← e]; exact kit_isLst h, q⟩
def isBl : PyData → Bool
  | .bool _ => true
  | _ => false
theorem kit_isBl {K : PySem.W.Frag} {H : Hp} {x : V} {d : PyData} (h : Dp K H x d) : PySem.W.kitOne K (.type (tyN d)) (.type "bool") = some (isBl d) := by
  cases h with
  | non => exact kit_ty (show kitB "NoneType" "bool" = some false by decide +kernel)
  | bl => exact kit_ty (show kitB "bool" "bool" = some true by decide +kernel)
  | int => exact kit_ty (show kitB "int" "bool" = some false by decide +kernel)
  | str => exact kit_ty (show kitB "str" "bool" = some false by decide +kernel)
  | lst => exact kit_ty (show kitB "list" "bool" = some false by decide +kernel)
  | tup => exact kit_ty (show kitB "tuple" "bool" = some false by decide +kernel)
theorem r_isBl {K : PySem.W.Frag} {H : Hp} {x : V} {d : PyData} {b : Bool} {Q : VK} (h : Dp K H x d) (e : isBl d = b) (q : Q (.bl b) H) : rIsi K [x, .ty "bool"] H Q :=
  ⟨x, .ty "bool", _, _, b, rfl, .ty _, ty_of h, by rw [← e]; exact kit_isBl h, q⟩
def isIn : PyData → Bool
  | .bool _ => true
  | .int _ => true
  | _ => false
theorem kit_isIn {K : PySem.W.Frag} {H : Hp} {x : V} {d : PyData} (h : Dp K H x d) : PySem.W.kitOne K (.type (tyN d)) (.type "int") = some (isIn d) := by
  cases h with
  | non => exact kit_ty (show kitB "NoneType" "int" = some false by decide +kernel)
  | bl => exact kit_ty (show kitB "bool" "int" = some true by decide +kernel)
  | int => exact kit_ty (show kitB "int" "int" = some true by decide +kernel)
  | str => exact kit_ty (show kitB "str" "int" = some false by decide +kernel)
  | lst => exact kit_ty (show kitB "list" "int" = some false by decide +kernel)
  | tup => exact kit_ty (show kitB "tuple" "int" = some false by decide +kernel)
theorem r_isIn {K : PySem.W.Frag} {H : Hp} {x : V} {d : PyData} {b : Bool} {Q : VK} (h : Dp K H x d) (e : isIn d = b) (q : Q (.bl b) H) : rIsi K [x, .ty "int"] H Q :=
  ⟨x, .ty "int", _, _, b, rfl, .ty _, ty_of h, by rw [← e]; exact kit_isIn h, q⟩
def isSt : PyData → Bool
  | .str _ => true
  | _ => false
theorem kit_isSt {K : PySem.W.Frag} {H : Hp} {x : V} {d : PyData} (h : Dp K H x d) : PySem.W.kitOne K (.type (tyN d)) (.type "str") = some (isSt d) := by
  cases h with
  | non => exact kit_ty (show kitB "NoneType" "str" = some false by decide +kernel)
  | bl => exact kit_ty (show kitB "bool" "str" = some false by decide +kernel)
  | int => exact kit_ty (show kitB "int" "str" = some false by decide +kernel)
  | str => exact kit_ty (show kitB "str" "str" = some true by decide +kernel)
  | lst => exact kit_ty (show kitB "list" "str" = some false by decide +kernel)
  | tup => exact kit_ty (show kitB "tuple" "str" = some false by decide +kernel)
theorem r_isSt {K : PySem.W.Frag} {H : Hp} {x : V} {d : PyData} {b : Bool} {Q : VK} (h : Dp K H x d) (e : isSt d = b) (q : Q (.bl b) H) : rIsi K [x, .ty "str"] H Q :=
  ⟨x, .ty "str", _, _, b, rfl, .ty _, ty_of h, by rw [← e]; exact kit_isSt h, q⟩
/-- an item of a list or a tuple -/
def rIxA (K : PySem.W.Frag) : R2 := fun x y H Q => ∃ p xs i v, x = .ref p ∧ y = .int i ∧ (SqL K H p xs ∨ SqT K H p xs) ∧ atI xs i = some v ∧ Q v H
theorem ix_a {X : Cx} : IxR X (rIxA X.K) := fun a b c d e f g h i j k l m o ⟨p, xs, n, v, h1, h2, h3, h4, q⟩ => by
  rcases h3 with h3 | h3
  · exact ix_list a b c d e f g h i j k l m o ⟨p, xs, n, v, h1, h2, h3, h4, q⟩
  · exact ix_tup a b c d e f g h i j k l m o ⟨p, xs, n, v, h1, h2, h3, h4, q⟩
theorem ix_aK {X : Cx} {K : PySem.W.Frag} (e : X.K = K) : IxR X (rIxA K) := by subst e; exact ix_a
def rLenS (K : PySem.W.Frag) : List V → Hp → VK → Prop := fun xs H Q => ∃ p ys, xs = [.ref p] ∧ (SqL K H p ys ∨ SqT K H p ys) ∧ Q (.int ys.length) H
theorem call_lenK {X : Cx} {K : PySem.W.Frag} (e : X.K = K) : CallR X (.builtin "len") (rLenS K) := by subst e; exact call_len_seq
theorem r_lens {K : PySem.W.Frag} {H : Hp} {p : Addr} {xs : List V} {Q : VK} (e : SqL K H p xs ∨ SqT K H p xs) (h : Q (.int xs.length) H) : rLenS K [.ref p] H Q := ⟨p, xs, rfl, e, h⟩
theorem cr_allK {X : Cx} {K : PySem.W.Frag} (e : X.K = K) (hc : X.calm = true) : CallR X (.builtin "all") (rAll K) := by subst e; exact cr_all hc
theorem call_isiK' {X : Cx} {K : PySem.W.Frag} (e : X.K = K) : CallR X (.builtin "isinstance") (rIsi K) := by subst e; exact call_isi
theorem r_ixa {K : PySem.W.Frag} {H : Hp} {p : Addr} {i : Int} {xs : List V} {v : V} {Q : VK} (e : SqL K H p xs ∨ SqT K H p xs) (hi : atI xs i = some v) (h : Q v H) : rIxA K (.ref p) (.int i) H Q := ⟨p, xs, i, v, rfl, rfl, e, hi, h⟩
/-- a list or a tuple of data -/
inductive DSeq (K : PySem.W.Frag) (H : Hp) : V → List PyData → Prop
  | mk {a : Addr} {xs : List V} {ds : List PyData} : (SqL K H a xs ∨ SqT K H a xs) → DpAll K H xs ds → DSeq K H (.ref a) ds
end Wn
namespace Wn
open PySem PySem.Spec PyProof.Rows L2
theorem has_ne {H : Hp} {a b : Addr} {u : HO} (h : b ≠ a) (e : ∃ o, H b = some o) : ∃ o, upd H a u b = some o := let ⟨o, z⟩ := e; ⟨o, (upd_ne h).trans z⟩
section
variable {σ σ' : L2.St} {H : Hp} {Q : VK} {D : Ends} {ta tb te to : TE} {tl : TA} {K : PySem.W.Frag}
theorem r_bm {T : String} {r : V → List V → Hp → VK → Prop} (h : to σ H fun x H1 => tyV K T x H1 ∧ tl σ H1 fun xs H2 => r x xs H2 Q) : tBM K T r to tl σ H Q := h
theorem r_tyl {p : Addr} {xs : List V} {P : Prop} (e : H p = some (.lst xs)) (h : P) : tyV K "list" (.ref p) H ∧ P := ⟨.inl ⟨rfl, xs, SqL.of e⟩, h⟩
theorem r_ext {l b : Addr} {xs zs : List V} (h1 : H l = some (.lst xs)) (h2 : H b = some (.lst zs)) (hz : xs.length + zs.length ≤ sizeLine) (q : Q .non (upd H l (.lst (xs ++ zs)))) : rExtend (.ref l) [.ref b] H Q :=
  ⟨l, b, xs, zs, rfl, rfl, h1, h2, hz, q⟩
theorem r_cat {l b : Addr} {xs zs : List V} (h1 : H l = some (.lst xs)) (h2 : H b = some (.lst zs)) (hz : xs.length + zs.length ≤ sizeLine) (q : ∀ p, H p = none → Q (.ref p) (upd H p (.lst (xs ++ zs)))) : rCat (.ref l) (.ref b) H Q :=
  ⟨l, b, xs, zs, rfl, rfl, h1, h2, hz, q⟩
theorem same_upd {H H' : Hp} {p : Addr} {o : HO} (s : Same H H') (n : H p = none) : Same H (upd H' p o) := fun b x e => (upd_ne (ne_of_none e n)).trans (s b x e)
end
end Wn
/-! Wn: set(xs) of a list or a tuple whose items have any kind of key. -/
namespace WnSet
open PySem PySem.Spec PyProof.Rows
section
variable {κ : Type} [DecidableEq κ] [BEq κ] [LawfulBEq κ]
/-- how many different ones are among the first i -/
def cnt (xs : List κ) : Nat → Nat
  | 0 => 0
  | i + 1 => match xs[i]? with
    | some x => if (xs.take i).any (· == x) then cnt xs i else cnt xs i + 1
    | none => cnt xs i
theorem cnt_le (xs : List κ) : ∀ i, cnt xs i ≤ i
  | 0 => Nat.le_refl _
  | i + 1 => by
    have ih := cnt_le xs i
    unfold cnt
    split
    · split <;> omega
    · omega
theorem cnt_nodup {xs : List κ} (h : xs.Nodup) : ∀ i, i ≤ xs.length → cnt xs i = i
  | 0, _ => rfl
  | i + 1, hi => by
    have ih := cnt_nodup h i (by omega)
    have e : xs[i]? = some xs[i] := List.getElem?_eq_getElem (by omega)
    unfold cnt
    rw [e]
    dsimp only
    rw [ih, if_neg]
    intro q
    obtain ⟨y, hy, z⟩ := List.any_eq_true.mp q
    have z' : y = xs[i] := beq_iff_eq.mp z
    rw [z'] at hy
    obtain ⟨j, hj, ej⟩ := List.mem_take_iff_getElem.mp hy
    have hj' : j < i := by omega
    exact (List.pairwise_iff_getElem.mp h) j i (by omega) (by omega) hj' ej
theorem take_any {xs : List κ} {i : Nat} {x : κ} (e : xs[i]? = some x) (y : κ) : (xs.take (i + 1)).any (· == y) = ((xs.take i).any (· == y) || decide (y = x)) := by
  rw [List.take_add_one, e, List.any_append]
  by_cases h : y = x
  · subst h
    simp
  · have hb : (x == y) = false := by simpa [beq_iff_eq] using fun q : x = y => h q.symm
    simp [hb, h]
end
section
variable {prog : Program} {w : World} {A : Around} {R : Result → Shared → Prop} {I : Addr} {fp wr : List Addr} {G : Array GenState → Array GenState → Prop} {n : Nat} {P : Nat → Value → Prop} {St : Nat → Shared → Prop}
  {κ : Type} [DecidableEq κ] [BEq κ] [LawfulBEq κ]
theorem turns (knd : KeyKind prog w κ) (W : WalksS prog w A.in1 I fp wr G n P St) (S : Addr) (away : S ∉ fp) (xs : List κ) (room : n + 1 < scanBound)
    (item : ∀ i v, P i v → ∃ k, xs[i]? = some k ∧ knd.is k v = true ∧ v.scannable = true) :
    ∀ (k i : Nat) (s : Shared), n - i = k → i ≤ n → St i s → s.heap.SetOf knd S (fun y => (xs.take i).any (· == y)) (cnt xs i) →
      (∀ s', Moved (S :: wr) G s s' → s'.heap.SetOf knd S (fun y => (xs.take n).any (· == y)) (cnt xs n) → R (.ok (.ret .none)) s') →
      codeAny (model prog w) A (.builtin "set.update.loop" ⟨[.ref S, .ref I], []⟩) R s := by
  have away2 : S ∉ wr := fun z => away (W.sub _ z)
  have more : ∀ b ∈ wr, b ∈ S :: wr := fun b z => List.mem_cons_of_mem _ z
  intro k
  induction k with
  | zero =>
    intro i s hk hi st hS fin
    obtain rfl : i = n := by omega
    refine codeAny_builtin PyProof.Rows.F.entry_set_update_loop ?_
    rw [Around.under_plainId
      PyProof.Rows.F.plain_set_update_loop _]
    show wpAny _ A.in1 (pyNext (.ref I) >>= _)
      _ _ s
    refine wpAny_bind (W.done s _ _ st fun s2 mv => ?_)
    show wpAny _ A.in1 (ret Value.none) _ _ s2
    obtain ⟨o, es, ep, t, ho, tail⟩ := hS
    exact wpAny_pure (fin s2 (mv.mono more) ⟨o, es, ep, t, mv.heap S _ away2 ho, tail⟩)
  | succ k ih =>
    intro i s hk hi st hS fin
    have lt : i < n := by omega
    refine codeAny_builtin PyProof.Rows.F.entry_set_update_loop ?_
    rw [Around.under_plainId
      PyProof.Rows.F.plain_set_update_loop _]
    show wpAny _ A.in1 (pyNext (.ref I) >>= _)
      _ _ s
    refine wpAny_bind (W.item i s _ _ lt st fun v s2 pv st2 mv => ?_)
    obtain ⟨x, ex, ix, sx⟩ := item i v pv
    have hS2 : s2.heap.SetOf knd S (fun y => (xs.take i).any (· == y)) (cnt xs i) := by
      obtain ⟨o, es, ep, t, ho, tail⟩ := hS
      exact ⟨o, es, ep, t, mv.heap S _ away2 ho, tail⟩
    show wpAny _ A.in1 (holding [v] (setAdd S v) >>= _) _ _ s2
    refine wpAny_bind (wpAny_holding ?_)
    unfold setAdd
    refine wpAny_holding ?_
    refine wpAny_bind (knd.pyHash (k := x) ix ?_)
    have few := cnt_le xs i
    refine wpAny_setAddHashed_of (knd := knd) (s := { s2 with toks := s2.toks + 1 }) ix sx hS2 (by omega) fun h2 sb hS3 => ?_
    have hS4 : h2.SetOf knd S (fun y => (xs.take (i + 1)).any (· == y)) (cnt xs (i + 1)) := by
      refine SetOf_congr hS3 (fun y => (take_any ex y).symm) ?_
      rw [show cnt xs (i + 1) = if (xs.take i).any (· == x) then cnt xs i else cnt xs i + 1 by
        rw [cnt, ex]]
    refine wpAny_pure ⟨plainId_quiet PyProof.Rows.F.plain_set_update_loop _, ih (i + 1) _ (by omega) lt (W.frame _ s2 _ _ st2 (Nat.le_succ _) fun b hb o e => ?_) hS4 fun s3 mv3 hS5 => ?_⟩
    · rw [sb.2 b fun z : b = S => away (by rw [← z]; exact hb)]
      exact e
    · refine fin s3 (Moved.trans W.gtrans ((mv.mono more).then_heap (Nat.le_succ _) fun b o hb e => ?_) mv3) hS5
      rw [sb.2 b fun z : b = S => hb (by rw [z]; exact List.mem_cons_self)]
      exact e
end
section
/-- the new set -/
def fresh (led : Bool) : Obj := { cls := .type "set", dict := none, data := .set #[] 0 (.fresh 0 0 led) }
variable {prog : Program} {w : World} {A : Around} {E : Value → Shared → Prop} {s : Shared} {κ : Type} [DecidableEq κ] [BEq κ] [LawfulBEq κ]
set_option maxHeartbeats 8000000 in
theorem call_set_list {l : Addr} {its : Array Value} (knd : KeyKind prog w κ) {xs : List κ} {Q : Value → Shared → Prop} (calm : A.handled = none) (hl : s.heap.IsList l its) (room : its.size + 1 < scanBound)
    (item : ∀ (i : Nat) (v : Value), its[i]? = some v → ∃ k, xs[i]? = some k ∧ knd.is k v = true ∧ v.scannable = true)
    (h : ∀ (h' : Heap) (tk : Nat), h'.SetOf knd s.heap.objs.size (fun y => (xs.take its.size).any (· == y)) (cnt xs its.size) →
      (∀ b o, b < s.heap.objs.size → s.heap.get? b = some o → h'.get? b = some o) → Q (.ref s.heap.objs.size) { s with heap := h', toks := tk }) :
    wpAny (model prog w) A (call (.type "set") [.ref l]) Q E s := by
  obtain ⟨c, tl, m1⟩ := PySem.F.called_set.mro
  have m2 := PySem.F.called_set.made
  have m3 := PySem.F.called_set.sub
  refine wpAny_call
    (codeAny_of_tree ?_)
  show wpAny _ _ (callAny (.type "set")
    _) _ _ _
  refine wpAny_pure ⟨Code.quiet_builtin _
    (by decide +kernel), codeAny_builtin PySem.F.entry_type_call ?_⟩
  rw [Around.under_plain (weight_type_call_type "set"
    [.ref l] []) rfl]
  have m4 := PySem.F.called_set.notType
  have m5 := PySem.F.called_set.canCreate
  have m6 := PySem.F.typeCall_set_1 (.ref l)
  repeat (any_goals
    (first | assumption | wp_step))
  refine codeAny_mono (code_set_new_1 (.ref l) (E := E) (Q₁ := fun ob s2 => ∃ led : Bool, ob = .ref s.heap.objs.size ∧
    s2 = { s with heap := s.heap.push (fresh led) }) fun led => ⟨led, rfl, rfl⟩) fun r s2 hr => ?_
  cases r with
  | error e => exact hr
  | ok fl =>
    cases fl with
    | ret ob =>
      obtain ⟨led, rfl, rfl⟩ := hr
      have eS : (s.heap.push (fresh led)).get? s.heap.objs.size = some (fresh led) := Heap.get?_push_size _ rfl
      have tS : Shared.TypeIs { s with heap := s.heap.push (fresh led) } (.ref s.heap.objs.size) "set" := ⟨_, eS, rfl⟩
      have m7 := PySem.F.called_set.init.lookup
      have m8 := PySem.F.called_set.init.bind
        (.ref s.heap.objs.size)
      repeat (any_goals
        (first | assumption | wp_step))
      refine codeAny_mono (codeAny_call_builtin (R := wants (fun r s3 => r = .none ∧ ∃ h' tk, s3 = { s with heap := h', toks := tk } ∧ h'.SetOf knd s.heap.objs.size (fun y => (xs.take its.size).any (· == y)) (cnt xs its.size) ∧
        (∀ b o, b < s.heap.objs.size → s.heap.get? b = some o → h'.get? b = some o)) E) PySem.F.called_set.init.plain
          PySem.F.entry_set_init (check_set_init_1 tS ?_)) fun r3 s3 hr3 => ?_
      · obtain ⟨ol, e1, e2, nl, e3⟩ := hl
        obtain ⟨oc, od, odt, osl⟩ := ol
        simp only at e2 e3
        subst e2
        subst e3
        have e4 : (s.heap.push (fresh led)).get? l = some { cls := .type "list", dict := od, data := .seq its nl, slots := osl } := Heap.get?_push_of_some _ e1
        have m9 := PySem.F.sub_list_set
        have m10 := PySem.F.sub_list_frozenset
        have m11 : (Value.type "list"
          == Value.type "dict") = false := by decide
        have hl1 : (s.heap.push (fresh led)).IsList l its := ⟨_, e4, rfl, nl, rfl⟩
        have m12 : (fresh led).cls = .type "set" := rfl
        unfold fresh at *
        unfold Builtin.«set.__init__» noKeywords
          Builtin.Frozenset.updateFrom
        generalize hPI : pyIter = PI
        wp_walk
        subst hPI
        refine wpAny_pyIter_list hl1 ?_
        refine wpAny_bind
          (wpAny_runValue ?_)
        have below : l < s.heap.objs.size := Heap.lt_size e1
        have calm3 : A.in1.in1.in1.handled = none := by
          simp [calm]
        have apart : l ≠ (s.heap.push { cls := .type "set", dict := none, data := .set #[] 0 (.fresh 0 0 led) } : Heap).objs.size := by
          rw [Heap.size_push]
          exact Nat.ne_of_lt (Nat.lt_succ_of_lt below)
        have away : s.heap.objs.size ∉ [(s.heap.push { cls := .type "set", dict := none, data := .set #[] 0 (.fresh 0 0 led) } : Heap).objs.size, l] := by
          rw [Heap.size_push]
          simp only [List.mem_cons, List.not_mem_nil, or_false, not_or]
          exact ⟨Nat.ne_of_lt (Nat.lt_succ_self _), Nat.ne_of_gt below⟩
        refine turns knd ((Walks.list calm3 _ l apart its).toS) s.heap.objs.size away xs room item
          (its.size - 0) 0 _ (by omega) (Nat.zero_le _) ⟨⟨_, Heap.get?_push_size _ rfl, rfl, rfl⟩, (hl1.push _)⟩ ?g1 ?g2
        case g1 =>
          have e5 := Heap.get?_push_of_some ({ cls := .type "list_iterator", data := .fields #[.ref l, .int 0 0] } : Obj) eS
          exact PyProof.Rows.SetOf_congr ((PyProof.Rows.setObjOf_fresh (knd := knd) led).setOf e5
            (by unfold scanBound; omega)) (fun _ => rfl) rfl
        case g2 =>
          intro s4 mv hS4
          obtain ⟨h4, g4, d4, t4, os4⟩ := s4
          obtain rfl : g4 = s.gens := mv.gens
          obtain rfl : d4 = s.drawn := mv.drawn
          obtain rfl : os4 = s.os := mv.os
          show wpAny _ _ _ _ _ _
          refine wpAny_pure ?_
          show wpAny _ _ (ret Value.none)
            _ _ _
          refine wpAny_pure ⟨rfl, h4, t4, rfl, hS4, fun b o hb e => ?_⟩
          have n1 : b ≠ s.heap.objs.size := Nat.ne_of_lt hb
          have n2 : b ≠ (s.heap.push { cls := .type "set", dict := none, data := .set #[] 0 (.fresh 0 0 led) } : Heap).objs.size := by
            rw [Heap.size_push]
            exact Nat.ne_of_lt (Nat.lt_succ_of_lt hb)
          refine mv.heap b o ?_ (Heap.get?_push_of_some _ (Heap.get?_push_of_some _ e))
          simp only [List.mem_cons, List.not_mem_nil, or_false, not_or]
          exact ⟨n1, n2⟩
      · cases r3 with
        | error e => exact hr3
        | ok f3 =>
          cases f3 with
          | ret r =>
            obtain ⟨rfl, h', tk, rfl, hS', keep⟩ := hr3
            repeat (any_goals
              (first | assumption | wp_step))
            exact h _ _ hS' keep
          | _ => exact hr3.elim
    | _ => exact hr.elim
set_option maxHeartbeats 8000000 in
theorem call_set_tuple {l : Addr} {its : Array Value} (knd : KeyKind prog w κ) {xs : List κ} {Q : Value → Shared → Prop} (calm : A.handled = none) (hl : s.heap.IsTuple l its) (room : its.size + 1 < scanBound)
    (item : ∀ (i : Nat) (v : Value), its[i]? = some v → ∃ k, xs[i]? = some k ∧ knd.is k v = true ∧ v.scannable = true)
    (h : ∀ (h' : Heap) (tk : Nat), h'.SetOf knd s.heap.objs.size (fun y => (xs.take its.size).any (· == y)) (cnt xs its.size) →
      (∀ b o, b < s.heap.objs.size → s.heap.get? b = some o → h'.get? b = some o) → Q (.ref s.heap.objs.size) { s with heap := h', toks := tk }) :
    wpAny (model prog w) A (call (.type "set") [.ref l]) Q E s := by
  obtain ⟨c, tl, m1⟩ := PySem.F.called_set.mro
  have m2 := PySem.F.called_set.made
  have m3 := PySem.F.called_set.sub
  refine wpAny_call
    (codeAny_of_tree ?_)
  show wpAny _ _ (callAny (.type "set")
    _) _ _ _
  refine wpAny_pure ⟨Code.quiet_builtin _
    (by decide +kernel), codeAny_builtin PySem.F.entry_type_call ?_⟩
  rw [Around.under_plain (weight_type_call_type "set"
    [.ref l] []) rfl]
  have m4 := PySem.F.called_set.notType
  have m5 := PySem.F.called_set.canCreate
  have m6 := PySem.F.typeCall_set_1 (.ref l)
  repeat (any_goals
    (first | assumption | wp_step))
  refine codeAny_mono (code_set_new_1 (.ref l) (E := E) (Q₁ := fun ob s2 => ∃ led : Bool, ob = .ref s.heap.objs.size ∧
    s2 = { s with heap := s.heap.push (fresh led) }) fun led => ⟨led, rfl, rfl⟩) fun r s2 hr => ?_
  cases r with
  | error e => exact hr
  | ok fl =>
    cases fl with
    | ret ob =>
      obtain ⟨led, rfl, rfl⟩ := hr
      have eS : (s.heap.push (fresh led)).get? s.heap.objs.size = some (fresh led) := Heap.get?_push_size _ rfl
      have tS : Shared.TypeIs { s with heap := s.heap.push (fresh led) } (.ref s.heap.objs.size) "set" := ⟨_, eS, rfl⟩
      have m7 := PySem.F.called_set.init.lookup
      have m8 := PySem.F.called_set.init.bind
        (.ref s.heap.objs.size)
      repeat (any_goals
        (first | assumption | wp_step))
      refine codeAny_mono (codeAny_call_builtin (R := wants (fun r s3 => r = .none ∧ ∃ h' tk, s3 = { s with heap := h', toks := tk } ∧ h'.SetOf knd s.heap.objs.size (fun y => (xs.take its.size).any (· == y)) (cnt xs its.size) ∧
        (∀ b o, b < s.heap.objs.size → s.heap.get? b = some o → h'.get? b = some o)) E) PySem.F.called_set.init.plain
          PySem.F.entry_set_init (check_set_init_1 tS ?_)) fun r3 s3 hr3 => ?_
      · obtain ⟨ol, e1, e2, nl, e3⟩ := hl
        obtain ⟨oc, od, odt, osl⟩ := ol
        simp only at e2 e3
        subst e2
        subst e3
        have e4 : (s.heap.push (fresh led)).get? l = some { cls := .type "tuple", dict := od, data := .seq its nl, slots := osl } := Heap.get?_push_of_some _ e1
        have m9 := PySem.F.sub_tuple_set
        have m10 := PySem.F.sub_tuple_frozenset
        have m11 : (Value.type "tuple"
          == Value.type "dict") = false := by decide
        have hl1 : (s.heap.push (fresh led)).IsTuple l its := ⟨_, e4, rfl, nl, rfl⟩
        have m12 : (fresh led).cls = .type "set" := rfl
        unfold fresh at *
        unfold Builtin.«set.__init__» noKeywords
          Builtin.Frozenset.updateFrom
        generalize hPI : pyIter = PI
        wp_walk
        subst hPI
        refine wpAny_pyIter_tuple hl1 ?_
        refine wpAny_bind
          (wpAny_runValue ?_)
        have below : l < s.heap.objs.size := Heap.lt_size e1
        have calm3 : A.in1.in1.in1.handled = none := by
          simp [calm]
        have apart : l ≠ (s.heap.push { cls := .type "set", dict := none, data := .set #[] 0 (.fresh 0 0 led) } : Heap).objs.size := by
          rw [Heap.size_push]
          exact Nat.ne_of_lt (Nat.lt_succ_of_lt below)
        have away : s.heap.objs.size ∉ [(s.heap.push { cls := .type "set", dict := none, data := .set #[] 0 (.fresh 0 0 led) } : Heap).objs.size, l] := by
          rw [Heap.size_push]
          simp only [List.mem_cons, List.not_mem_nil, or_false, not_or]
          exact ⟨Nat.ne_of_lt (Nat.lt_succ_self _), Nat.ne_of_gt below⟩
        refine turns knd ((Walks.tuple calm3 _ l apart its).toS) s.heap.objs.size away xs room item
          (its.size - 0) 0 _ (by omega) (Nat.zero_le _) ⟨⟨_, Heap.get?_push_size _ rfl, rfl, rfl⟩, (hl1.push _)⟩ ?g1 ?g2
        case g1 =>
          have e5 := Heap.get?_push_of_some ({ cls := .type "tuple_iterator", data := .fields #[.ref l, .int 0 0] } : Obj) eS
          exact PyProof.Rows.SetOf_congr ((PyProof.Rows.setObjOf_fresh (knd := knd) led).setOf e5
            (by unfold scanBound; omega)) (fun _ => rfl) rfl
        case g2 =>
          intro s4 mv hS4
          obtain ⟨h4, g4, d4, t4, os4⟩ := s4
          obtain rfl : g4 = s.gens := mv.gens
          obtain rfl : d4 = s.drawn := mv.drawn
          obtain rfl : os4 = s.os := mv.os
          show wpAny _ _ _ _ _ _
          refine wpAny_pure ?_
          show wpAny _ _ (ret Value.none)
            _ _ _
          refine wpAny_pure ⟨rfl, h4, t4, rfl, hS4, fun b o hb e => ?_⟩
          have n1 : b ≠ s.heap.objs.size := Nat.ne_of_lt hb
          have n2 : b ≠ (s.heap.push { cls := .type "set", dict := none, data := .set #[] 0 (.fresh 0 0 led) } : Heap).objs.size := by
            rw [Heap.size_push]
            exact Nat.ne_of_lt (Nat.lt_succ_of_lt hb)
          refine mv.heap b o ?_ (Heap.get?_push_of_some _ (Heap.get?_push_of_some _ e))
          simp only [List.mem_cons, List.not_mem_nil, or_false, not_or]
          exact ⟨n1, n2⟩
      · cases r3 with
        | error e => exact hr3
        | ok f3 =>
          cases f3 with
          | ret r =>
            obtain ⟨rfl, h', tk, rfl, hS', keep⟩ := hr3
            repeat (any_goals
              (first | assumption | wp_step))
            exact h _ _ hS' keep
          | _ => exact hr3.elim
    | _ => exact hr.elim
end
end WnSet
/-! Wn: len(set(xs)) of texts, any number of them. -/
namespace Wn
open PySem PySem.Spec PyProof.Rows L2
theorem boot_setT : bootBuiltins "set" = some (.type "set") := by decide +kernel
def tLenSetN (K : PySem.W.Frag) (ta : TE) : TE := fun σ H Q => ta σ H fun x H1 => ∃ (l : Addr) (xs : List Str), x = .ref l ∧ (SqL K H1 l (xs.map V.str) ∨ SqT K H1 l (xs.map V.str)) ∧ xs.length ≤ 1000 ∧ Q (.int (WnSet.cnt xs xs.length)) H1
theorem key_at : ∀ {xs : List Str} {us : List Value} {P : Program} {w : World} (i : Nat) (v : Value), Vals (xs.map V.str) us → us[i]? = some v → ∃ k, xs[i]? = some k ∧ (strKind P w).is k v = true ∧ v.scannable = true
  | [], _, _, _, i, v, .nil, h => by simp at h
  | x :: xs, _, P, w, 0, v, .cons r t, h => by
    obtain ⟨tk, rfl⟩ := r
    simp at h
    subst h
    exact ⟨x, rfl, strKind_is _ _ _ _, rfl⟩
  | x :: xs, _, P, w, i + 1, v, .cons r t, h => by
    obtain ⟨k, h1, h2⟩ := key_at (xs := xs) (P := P) (w := w) i v t (by simpa using h)
    exact ⟨k, by simpa using h1, h2⟩
section
variable {X : Cx} {a : Expr} {ta : TE} {p p2 q pos : Pos}
theorem pe_lenSetK {K : PySem.W.Frag} (eK : X.K = K) (hc : X.calm = true) (hg : Gl X "len") (hm : X.mg "len" = none) (hg2 : Gl X "set") (hm2 : X.mg "set" = none) (ha : PE X a ta)
    (na : starEach [a] X.env = (false, eval a X.env) :: starEach [] X.env := by rfl) : PE X (.Call (.Name "len" p) [.Call (.Name "set" p2) [a] [] q] [] pos) (tLenSetN K ta) := by
  subst eK
  refine ⟨fun pins s σ H Q I h => ?_⟩
  refine Call_ (ld_blt I hg hm PySem.boot_len ?_)
  refine PyProof.Rows.callWith_builtin1 (PyProof.Rows.args_cons ?_ rfl) rfl rfl
  refine Call_ (ld_blt I hg2 hm2 (boot_setT) ?_)
  refine PyProof.Rows.callWith_type1
    (PyProof.Rows.args_cons (thn (ha.run pins s σ H _ I h) fun v s1 ⟨x, H1, I1, r1, q1⟩ => PyProof.Rows.args_nil ?_) na) na rfl
  obtain ⟨l, xs, rfl, hq, few, q1⟩ := q1
  cases r1
  have last : ∀ (its : List Value), Vals (xs.map V.str) its → ∀ (h' : Heap) (tk : Nat), h'.SetOf (strKind X.prog X.w) s1.heap.objs.size (fun y => (xs.take its.toArray.size).any (· == y)) (WnSet.cnt xs its.toArray.size) →
      (∀ b o, b < s1.heap.objs.size → s1.heap.get? b = some o → h'.get? b = some o) →
      wpAny (model X.prog X.w) X.A (spliced (backTo pos (starEach [] X.env)))
        (fun vs s2 => wpAny (model X.prog X.w) X.A (call (.builtin "len") (Value.ref s1.heap.objs.size :: vs)) (EP X pins σ Q) X.xe s2) X.xe { s1 with heap := h', toks := tk } := fun its r h' tk hS keep => by
    refine PyProof.Rows.args_nil ?_
    have e1 : its.toArray.size = xs.length := by
      rw [List.size_toArray, ← r.length, List.length_map]
    rw [e1] at hS
    obtain ⟨o, es, ep, t, ho, hex, hd, _, _, _, hf, hn⟩ := hS
    have I2 : Inv X pins σ H1 { s1 with heap := h', toks := tk } := I1.kept fun b o e => keep b o (Heap.lt_size e) e
    have c1 := WnSet.cnt_le xs xs.length
    refine call_len_set ho hex hd hf (by rw [hn] <;> omega) ⟨.int (WnSet.cnt xs xs.length), H1, I2.tok _, ⟨_, by rw [hn]⟩, q1⟩
  have room : ∀ its : List Value, Vals (xs.map V.str) its → its.toArray.size + 1 < scanBound := fun its r => by
    rw [List.size_toArray, ← r.length, List.length_map]
    unfold scanBound
    omega
  rcases hq with hq | hq
  · obtain ⟨its, r, pl, hz⟩ := I1.list hq
    exact WnSet.call_set_list (strKind X.prog X.w) (I1.ok.hd hc) pl.isList (room its r) (fun i v e => key_at i v r (by simpa using e)) fun h' tk hS k => last its r h' tk hS k
  · obtain ⟨its, r, pl, hz⟩ := I1.tuple hq
    exact WnSet.call_set_tuple (strKind X.prog X.w) (I1.ok.hd hc) pl (room its r) (fun i v e => key_at i v r (by simpa using e)) fun h' tk hS k => last its r h' tk hS k
end
end Wn
/-! Wn: rules with the written part named (so that a block of a comprehension may use them), and their answers. -/
namespace Wn
open PySem PySem.Spec PyProof.Rows L2
section
variable {X : Cx} {K : PySem.W.Frag} {tg l : Expr} {tl : TE}
theorem pi_listK (e : X.K = K) (h : PE X l tl) : PI X tg l (iList K tl) := by subst e; exact pi_list h
theorem pi_tupK (e : X.K = K) (h : PE X l tl) : PI X tg l (iTup K tl) := by subst e; exact pi_tup h
theorem pg_tupK {es : List Expr} {k n : Nat} {t : TGs} {pos : Pos} (e : X.K = K) (hc : X.calm = true) (h : PGs X es t)
    (hn : (assignEach es X.env).length = n := by rfl) (hst : (assignEach es X.env).findIdx? (·.1) = none := by rfl) : PG X (.Tuple es k pos) (gTup K n t) := by subst e; exact pg_tup hc h hn hst
def rTupL (K : PySem.W.Frag) : List V → Hp → VK → Prop := fun xs H Q => ∃ p ys, xs = [.ref p] ∧ SqL K H p ys ∧ ∀ q, H q = none → Q (.ref q) (upd H q (.tup ys))
theorem call_tupleK (e : X.K = K) : CallR X (.type "tuple") (rTupL K) := by
  subst e
  exact fun a b c d f g h i j ⟨p, ys, h1, h2, q⟩ => call_tuple_of a b c d f g h i j ⟨p, ys, h1, .inl ⟨h2, q⟩⟩
/-- a text in a list or tuple of texts -/
def rInS (K : PySem.W.Frag) (neg : Bool) : R2 := fun x y H Q => ∃ (p : Addr) (z : Str) (zs : List Str), x = .str z ∧ y = .ref p ∧ (SqL K H p (zs.map V.str) ∨ SqT K H p (zs.map V.str)) ∧ Q (.bl (if neg then !decide (z ∈ zs) else decide (z ∈ zs))) H
theorem inV_str (z : Str) : ∀ zs : List Str, inV (.str z) (zs.map V.str) = decide (z ∈ zs)
  | [] => rfl
  | y :: zs => by
    have ih := inV_str z zs
    unfold inV at ih ⊢
    rw [List.map_cons, List.any_cons, ih]
    by_cases h : y = z
    · subst h
      simp [eqV]
    · have h' : ¬ z = y := fun q => h q.symm
      simp [eqV, h, h']
theorem flat_strs : ∀ zs : List Str, (zs.map V.str).all flatV = true
  | [] => rfl
  | y :: zs => by rw [List.map_cons, List.all_cons, flat_strs zs]; rfl
theorem op_in_strsK (e : X.K = K) : OpR X (compareOp .In) (rInS K false) := by
  subst e
  exact fun a b c d f g h i j k m n ⟨p, z, zs, h1, h2, h3, q⟩ => op_in_seq a b c d f g h i j k m n ⟨p, _, h2, h3, by rw [h1]; rfl, flat_strs zs, by rw [h1]; simp only [inV_str]; exact q⟩
theorem op_notin_strsK (e : X.K = K) : OpR X (compareOp .NotIn) (rInS K true) := by
  subst e
  exact fun a b c d f g h i j k m n ⟨p, z, zs, h1, h2, h3, q⟩ => op_notIn_seq a b c d f g h i j k m n ⟨p, _, h2, h3, by rw [h1]; rfl, flat_strs zs, by rw [h1]; simp only [inV_str]; exact q⟩
end
section
variable {σ : L2.St} {H : Hp} {Q : VK} {K : PySem.W.Frag} {ta tb tc te : TE}
theorem r_chain {r r' : R2} (h : ta σ H fun x H1 => tb σ H1 fun y H2 => r x y H2 fun z H3 => ∃ k, z = .bl k ∧ (if k = true then tc σ H3 fun w' H4 => r' y w' H4 Q else Q (.bl false) H3)) : tChain r r' ta tb tc σ H Q := h
theorem r_ins {neg : Bool} {p : Addr} {z : Str} {zs : List Str} (e : SqL K H p (zs.map V.str) ∨ SqT K H p (zs.map V.str)) (q : Q (.bl (if neg then !decide (z ∈ zs) else decide (z ∈ zs))) H) : rInS K neg (.str z) (.ref p) H Q := ⟨p, z, zs, rfl, rfl, e, q⟩
end
/-! ### names -/
def nameB (z : Str) : Bool := decide (1 ≤ z.length) && decide (z.length ≤ 8) && z.cps.toList.all fun c => decide (97 ≤ c) && decide (c ≤ 122)
theorem nameB_len {z : Str} (h : nameB z = true) : 1 ≤ z.length ∧ z.length ≤ 8 := by
  unfold nameB at h
  simp only [Bool.and_eq_true, decide_eq_true_eq] at h
  exact h.1
theorem nameB_at {z : Str} (h : nameB z = true) {i : Nat} {c : Nat} (e : z.cps[i]? = some c) : 97 ≤ c ∧ c ≤ 122 := by
  unfold nameB at h
  simp only [Bool.and_eq_true, decide_eq_true_eq, List.all_eq_true] at h
  refine h.2 c ?_
  rw [Array.mem_toList_iff]
  exact Array.mem_of_getElem? e
end Wn
namespace Wn
open PySem PySem.Spec PyProof.Rows L2
/-- a comprehension over a text's signs -/
theorem lc_text {z : Str} {g : TG} {tt : TT} {te : TE} {vs : List Nat} {σ : L2.St} {H1 : Hp} {D : Addr} {Qd : Hp → Prop} (Pv : Nat → Hp → Prop) (h0 : Pv 0 (upd H1 D (.lst [])))
    (turn : ∀ i c H, z.cps[i]? = some c → Pv i H → g (.str ⟨#[c]⟩) (wipe σ vs) H fun σ2 H2 => wipe σ2 vs = wipe σ vs ∧ tt σ2 H2 fun b H3 =>
      if b = true then te σ2 H3 fun y H4 => ∃ acc, H4 D = some (.lst acc) ∧ acc.length < sizeLine ∧ Pv (i + 1) (upd H4 D (.lst (acc ++ [y]))) else Pv (i + 1) H3)
    (last : ∀ H, Pv z.cps.size H → Qd H) :
    ∃ W : Nat → Nat → Hp → Prop, (∃ m, W 0 m (upd H1 D (.lst []))) ∧ ∀ i m H, W i m H →
      ((Its z).stop i H ∧ Qd H) ∨ ((Its z).go i H ∧ ∃ Nx : Hp → Prop, (∀ H', Nx H' → ∃ m', m' < m ∧ W (i + 1) m' H') ∧ ∀ x H', (Its z).yld i H x H' → g x (wipe σ vs) H' fun σ2 H2 => wipe σ2 vs = wipe σ vs ∧
        tt σ2 H2 fun b H3 => if b = true then te σ2 H3 fun y H4 => ∃ acc, H4 D = some (.lst acc) ∧ acc.length < sizeLine ∧ Nx (upd H4 D (.lst (acc ++ [y]))) else Nx H3) := by
  refine ⟨fun i m H => m = z.cps.size - i ∧ i ≤ z.cps.size ∧ Pv i H, ⟨z.cps.size, by simp, Nat.zero_le _, h0⟩, ?_⟩
  intro i m H hW
  obtain ⟨e, hi, p⟩ := hW
  subst e
  by_cases lt : i < z.cps.size
  · refine .inr ⟨lt, Pv (i + 1), fun H' p' => ⟨z.cps.size - (i + 1), by omega, rfl, lt, p'⟩, fun x H' y => ?_⟩
    obtain ⟨e1, c, ec, e2⟩ := y
    subst e1 e2
    exact turn i c _ ec p
  · have e : i = z.cps.size := by omega
    subst e
    exact .inl ⟨Nat.le_refl _, last H p⟩
def rLenStr : List V → Hp → VK → Prop := fun xs H Q => ∃ z, xs = [.str z] ∧ z.length ≤ sizeLine ∧ Q (.int z.length) H
theorem call_lenStr {X : Cx} : CallR X (.builtin "len") rLenStr := fun a b c d e f g h i ⟨z, h1, h2, q⟩ => call_len_str a b c d e f g h i ⟨z, h1, h2, q⟩
theorem r_lenstr {H : Hp} {Q : VK} {z : Str} (e : z.length ≤ sizeLine) (q : Q (.int z.length) H) : rLenStr [.str z] H Q := ⟨z, rfl, e, q⟩
end Wn
/-! Wn: tuples known to the object (no dict of their own), so that their methods may be called. -/
namespace Wn
open PySem PySem.Spec PyProof.Rows L2
/-- a plain tuple stands at p -/
def PTup (H : Hp) (p : Addr) (xs : List V) : Prop := ∃ o, H p = some (.frz o (.tup xs)) ∧ o.dict = none ∧ o.cls = .type "tuple"
theorem PTup.sq {K : PySem.W.Frag} {H : Hp} {p : Addr} {xs : List V} (h : PTup H p xs) : SqT K H p xs := let ⟨o, e, _⟩ := h; .inl (.inr ⟨o, e⟩)
theorem PTup.mono {H H' : Hp} {p : Addr} {xs : List V} (s : Same H H') (h : PTup H p xs) : PTup H' p xs := let ⟨o, e, r⟩ := h; ⟨o, s _ _ e, r⟩
section
variable {X : Cx} {K : PySem.W.Frag}
def rTupF (K : PySem.W.Frag) : List V → Hp → VK → Prop := fun xs H Q => ∃ p ys, xs = [.ref p] ∧ SqL K H p ys ∧ ∀ (q : Addr) (o : Obj), H q = none → o.dict = none → o.cls = .type "tuple" → Q (.ref q) (upd H q (.frz o (.tup ys)))
theorem call_tupleFK (e : X.K = K) : CallR X (.type "tuple") (rTupF K) := by
  subst e
  intro pins s σ H xs us Q I r h
  obtain ⟨p, ys, rfl, hq, q⟩ := h
  obtain ⟨u, rfl, rx⟩ := vals1 r
  cases rx
  obtain ⟨its, rv, pl, hz⟩ := I.list hq
  have hlen := rv.length
  refine call_tuple_list pl.isList (fun h2 kp => ?_)
    (by simp only [List.size_toArray] <;> omega)
  have I1 : Inv X pins σ H { s with heap := h2 } := I.kept (t' := s.toks) kp
  let ob : Obj := { cls := .type "tuple", data := .seq its.toArray }
  have at' : (h2.push ob).get? h2.objs.size = some ob := Heap.get?_push_size _ rfl
  have I2 : Inv X pins σ (upd H h2.objs.size (.frz ob (.tup ys))) { s with heap := h2.push ob } :=
    I1.laid (t' := s.toks) (fun b o e => Heap.get?_push_of_some _ e) (Nat.le_refl _) ⟨at', hz, its, rv, IsTup.new _ _⟩
  exact ⟨.ref h2.objs.size, _, I2, rfl, q _ ob (I1.hok.fresh (Nat.le_refl _)) rfl rfl⟩
def tBT (r : V → List V → Hp → VK → Prop) (to : TE) (t : TA) : TE := fun σ H Q => to σ H fun x H1 => (∃ p xs, x = .ref p ∧ PTup H1 p xs) ∧ t σ H1 fun vs H2 => r x vs H2 Q
variable {o e : Expr} {es : List Expr} {to : TE} {t : TA} {name : Str} {apos cpos : Pos} {id : String} {r : V → List V → Hp → VK → Prop}
/-- t.m(e, ..), t a plain tuple -/
theorem pe_bt (slot : Slot "tuple" name id) (hty : typeOf (.builtin id) = pure (.type "method_descriptor")) (hm : MtR X id r) (ho : PE X o to) (ha : PA X (e :: es) t)
    (hbase : attributeBase o name X.env (eval o X.env) = eval o X.env := by rfl)
    (hfew : ((backTo cpos (starEach (e :: es) X.env)).all (fun x => !x.1) && (backToKw cpos (keywordEach [] X.env)).all (fun x => x.1.isSome) && decide ((e :: es).length + ([] : List Keyword).length + (if ([] : List Keyword).isEmpty then 0 else 1) < 30)) = true := by rfl)
    (hline : (apos.endLine == cpos.line) = true := by rfl) (hs : starEach (e :: es) X.env = (false, eval e X.env) :: starEach es X.env := by rfl)
    (hplain : (backTo cpos (starEach es X.env)).any (·.1) = false := by rfl) : PE X (.Call (.Attribute o name apos) (e :: es) [] cpos) (tBT r to t) := by
  refine ⟨fun pins s σ H Q I h => ?_⟩
  refine wpAny_Call_method_late hbase hfew hline rfl
    (thn (ho.run pins s σ H _ I h) fun v s1 ⟨x, H1, I1, r1, ty, q1⟩ => ?_)
  obtain ⟨p, xs, rfl, ob, ep, hd, hcl⟩ := ty
  obtain rfl : v = Value.ref p := r1
  have hat := (I1.hok p _ ep).1
  refine ⟨"tuple", id, PySem.F.plainAttrs_tuple, slot, hty, ⟨ob, hat, hcl⟩, fun a e2 => ?_, ?_⟩
  · cases e2
    exact ⟨ob, hat, hd⟩
  · have hA := ha.run cpos pins s1 σ H1 _ I1 q1
    rw [hs] at hA ⊢
    refine Calls.callWith_builtin (by
      show (false || (backTo cpos (starEach es X.env)).any (·.1)) = false
      rw [hplain]
      rfl) (Calls.evalArgs_plain ?_)
    exact thn hA fun us s2 ⟨vs, H2, I2, r2, q2⟩ => hm pins s2 σ H2 (.ref p) vs (.ref p) us Q I2 rfl r2 q2
/-- the first place of a text -/
def idx : List Str → Str → Nat
  | [], _ => 0
  | y :: ys, z => if y = z then 0 else idx ys z + 1
theorem idx_at : ∀ {ys : List Str} {z : Str}, z ∈ ys → ys[idx ys z]? = some z
  | y :: ys, z, h => by
    unfold idx
    by_cases e : y = z
    · rw [if_pos e, e]; rfl
    · rw [if_neg e]
      have h2 : z ∈ ys := by
        rcases List.mem_cons.mp h with q | q
        · exact absurd q.symm e
        · exact q
      simpa using idx_at h2
theorem idx_min : ∀ {ys : List Str} {z : Str} {m : Nat}, m < idx ys z → ys[m]? ≠ some z
  | [], z, m, h => by simp
  | y :: ys, z, m, h => by
    unfold idx at h
    by_cases e : y = z
    · rw [if_pos e] at h
      exact absurd h (Nat.not_lt_zero _)
    · rw [if_neg e] at h
      cases m with
      | zero => simpa using e
      | succ m => simpa using idx_min (ys := ys) (z := z) (m := m) (by omega)
theorem idx_of {ys : List Str} {z : Str} {i : Nat} (n : ys.Nodup) (h : ys[i]? = some z) : idx ys z = i := by
  have m : z ∈ ys := List.mem_of_getElem? h
  have h2 := idx_at m
  have hi : i < ys.length := (List.getElem?_eq_some_iff.mp h).1
  have hj : idx ys z < ys.length := (List.getElem?_eq_some_iff.mp h2).1
  exact (List.getElem?_inj hj n).mp (by rw [h2, h])
def rTI (K : PySem.W.Frag) : V → List V → Hp → VK → Prop := fun x xs H Q => ∃ (p : Addr) (ys : List Str) (z : Str), x = .ref p ∧ xs = [.str z] ∧ SqT K H p (ys.map V.str) ∧ z ∈ ys ∧ Q (.int (idx ys z : Nat)) H
theorem mt_tiK (eK : X.K = K) : MtR X "tuple.index" (rTI K) := by
  subst eK
  exact fun a b c d f g h i j k l n ⟨p, ys, z, h1, h2, h3, h4, q⟩ => mt_tup_index a b c d f g h i j k l n ⟨p, ys, z, idx ys z, h1, h2, h3, idx_at h4, fun m hm => idx_min hm, q⟩
def rLI (K : PySem.W.Frag) : V → List V → Hp → VK → Prop := fun x xs H Q => ∃ (p : Addr) (ys : List Str) (z : Str), x = .ref p ∧ xs = [.str z] ∧ SqL K H p (ys.map V.str) ∧ z ∈ ys ∧ Q (.int (idx ys z : Nat)) H
theorem eqV_str {y z : Str} : eqV (.str y) (.str z) = decide (y = z) := by
  by_cases h : y = z
  · subst h; simp [eqV]
  · simp [eqV, h]
theorem mt_liK (eK : X.K = K) : MtR X "list.index" (rLI K) := by
  subst eK
  exact fun a b c d f g h i j k l n ⟨p, ys, z, h1, h2, h3, h4, q⟩ => mt_index a b c d f g h i j k l n ⟨p, _, .str z, idx ys z, .str z, h1, h2, h3, rfl, flat_strs ys, by rw [List.getElem?_map, idx_at h4]; rfl, by rw [eqV_str]; exact decide_eq_true rfl, fun m z' hm e => by
    rw [List.getElem?_map] at e
    cases e2 : ys[m]? with
    | none => rw [e2] at e; cases e
    | some y =>
      rw [e2] at e
      have e3 : V.str y = z' := Option.some.inj e
      subst e3
      rw [eqV_str]
      exact decide_eq_false fun e4 => idx_min hm (by rw [e2, e4]), q⟩
theorem pe_fldK {f : Str} {pos : Pos} {e : Expr} {ta : TE} (eK : X.K = K) (he : PE X e ta) (hb : attributeBase e f X.env (eval e X.env) = eval e X.env) : PE X (.Attribute e f pos) (tFld K ta f) := by
  subst eK
  exact pe_fld he hb
end
section
variable {K : PySem.W.Frag} {H : Hp} {Q : VK} {σ : L2.St} {to : TE} {t : TA}
theorem r_bt {r : V → List V → Hp → VK → Prop} (h : to σ H fun x H1 => (∃ p xs, x = .ref p ∧ PTup H1 p xs) ∧ t σ H1 fun vs H2 => r x vs H2 Q) : tBT r to t σ H Q := h
theorem r_pt {p : Addr} {xs : List V} {A : Prop} (e : PTup H p xs) (h : A) : (∃ q ys, V.ref p = .ref q ∧ PTup H q ys) ∧ A := ⟨⟨p, xs, rfl, e⟩, h⟩
theorem r_ti {p : Addr} {ys : List Str} {z : Str} (e : SqT K H p (ys.map V.str)) (m : z ∈ ys) (q : Q (.int (idx ys z : Nat)) H) : rTI K (.ref p) [.str z] H Q := ⟨p, ys, z, rfl, rfl, e, m, q⟩
theorem r_li {p : Addr} {ys : List Str} {z : Str} (e : SqL K H p (ys.map V.str)) (m : z ∈ ys) (q : Q (.int (idx ys z : Nat)) H) : rLI K (.ref p) [.str z] H Q := ⟨p, ys, z, rfl, rfl, e, m, q⟩
def FldW (K : PySem.W.Frag) (f : Str) (x : V) (H1 : Hp) (Q : VK) : Prop := ∃ a C dx fs v, x = .ref a ∧ H1 a = some (.ins C dx fs) ∧ Cls K C ∧ NoAttr K C f ∧ fs.lookup f = some v ∧ Q v H1
theorem r_fld {f : Str} (h : to σ H fun x H1 => FldW K f x H1 Q) : tFld K to f σ H Q := h
def MthW (C : Addr) (m : Str) (x : V) (H1 : Hp) (A : Prop) : Prop := ∃ a dx fs, x = .ref a ∧ H1 a = some (.ins C dx fs) ∧ fs.lookup m = none ∧ A
theorem r_meth {C : Addr} {m : Str} {sp : Sp} {dvs : List V} {E : XK} (h : to σ H fun x H1 => MthW C m x H1 (t σ H1 fun vs H2 => sp (x :: (vs ++ dvs)) H2 Q E)) : tMeth C m sp dvs E to t σ H Q := h
end
end Wn
/-! Wn: an if whose ways meet again in one place. -/
namespace Wn
open PySem PySem.Spec PyProof.Rows L2
/-- as tIfJ, but no step goes into it before the meeting place is named -/
def tIfK (c : TT) (t u : TS) : TS := tIfJ c t u
theorem ps_ifk {X : Cx} {c : Expr} {a b : List Stmt} {pos : Pos} {tc : TT} {t u : TS} (hc : PT X c tc) (ha : PSs X a t) (hb : PSs X b u) : PS X (.If c a b pos) (tIfK tc t u) := ps_if hc ha hb
theorem if_cut {c : TT} {t u : TS} {D : Ends} {σ : L2.St} {H : Hp} (P : L2.St → Hp → Prop) (h1 : ∀ σ' H', P σ' H' → D.nx σ' H') (h2 : (∀ σ' H', P σ' H' → tJoin D.nx σ' H') → tIfJ c t u D σ H) : tIfK c t u D σ H := h2 h1
section
variable {σ : L2.St} {H : Hp} {K : PySem.W.Frag} {tl : TA} {te : TE} {R : It → Hp → Prop}
theorem r_rng1 (h : tl σ H fun vs H1 => ∃ j : Int, vs = [.int j] ∧ -(2 ^ 62) ≤ j ∧ j < 2 ^ 62 ∧ R (Itr 0 j.toNat) H1) : iRng1 tl σ H R := h
theorem r_ilist (h : te σ H fun x H1 => ∃ a, x = .ref a ∧ (∃ xs, SqL K H1 a xs) ∧ R (Itl K a) H1) : iList K te σ H R := h
theorem r_itup (h : te σ H fun x H1 => ∃ a, x = .ref a ∧ (∃ xs, SqT K H1 a xs) ∧ R (Itt K a) H1) : iTup K te σ H R := h
theorem r_istr (h : te σ H fun v H1 => ∃ x, v = .str x ∧ R (Its x) H1) : iStr te σ H R := h
end
def ForW (J : It) (g : TG) (tb : TS) (D : Ends) (σ : L2.St) (H1 : Hp) : Prop := ∃ W : Nat → Nat → L2.St → Hp → Prop, (∃ m, W 0 m σ H1) ∧ ∀ i m σ H, W i m σ H →
  (J.stop i H ∧ D.nx σ H) ∨ (J.go i H ∧ ∃ N : L2.St → Hp → Prop, (∀ σ' H', N σ' H' → ∃ m', m' < m ∧ W (i + 1) m' σ' H') ∧ ∀ x H', J.yld i H x H' → g x σ H' fun σ2 H2 => tb { D with nx := N, ct := N, bk := D.nx } σ2 H2)
def LcW (J : It) (g : TG) (tt : TT) (te : TE) (vs : List Nat) (σ : L2.St) (H1 : Hp) (Q : VK) : Prop := ∀ D, H1 D = none → ∃ W : Nat → Nat → Hp → Prop, (∃ m, W 0 m (upd H1 D (.lst []))) ∧ ∀ i m H, W i m H →
  (J.stop i H ∧ Q (.ref D) H) ∨ (J.go i H ∧ ∃ Nx : Hp → Prop, (∀ H', Nx H' → ∃ m', m' < m ∧ W (i + 1) m' H') ∧ ∀ x H', J.yld i H x H' → g x (wipe σ vs) H' fun σ2 H2 => wipe σ2 vs = wipe σ vs ∧ tt σ2 H2 fun b H3 =>
    if b = true then te σ2 H3 fun y H4 => ∃ acc, H4 D = some (.lst acc) ∧ acc.length < sizeLine ∧ Nx (upd H4 D (.lst (acc ++ [y]))) else Nx H3)
section
variable {σ : L2.St} {H : Hp} {K : PySem.W.Frag} {Q : VK} {D : Ends} {wi : TI} {g : TG} {tb : TS} {tt : TT} {te : TE} {vs : List Nat}
theorem r_for (h : wi σ H fun J H1 => ForW J g tb D σ H1) : tFor wi g tb D σ H := h
theorem r_lc (h : wi σ H fun J H1 => LcW J g tt te vs σ H1 Q) : tLc wi g tt te vs σ H Q := h
theorem fl_list {a : Addr} {xs : List V} (hS : SqL K H a xs) (Pv : Nat → L2.St → Hp → Prop) (h0 : Pv 0 σ H) (hl : ∀ i σ H, i ≤ xs.length → Pv i σ H → SqL K H a xs) (hs : ∀ i x σ H, xs[i]? = some x → Pv i σ H → g x σ H fun σ2 H2 => tb { D with nx := Pv (i + 1), ct := Pv (i + 1), bk := D.nx } σ2 H2)
    (hd : ∀ σ H, Pv xs.length σ H → D.nx σ H) : ∃ a', V.ref a = .ref a' ∧ (∃ xs, SqL K H a' xs) ∧ ForW (Itl K a') g tb D σ H := ⟨a, rfl, ⟨_, hS⟩, for_list Pv h0 hl hs hd⟩
theorem fl_tup {a : Addr} {xs : List V} (hS : SqT K H a xs) (Pv : Nat → L2.St → Hp → Prop) (h0 : Pv 0 σ H) (hl : ∀ i σ H, i ≤ xs.length → Pv i σ H → SqT K H a xs) (hs : ∀ i x σ H, xs[i]? = some x → Pv i σ H → g x σ H fun σ2 H2 => tb { D with nx := Pv (i + 1), ct := Pv (i + 1), bk := D.nx } σ2 H2)
    (hd : ∀ σ H, Pv xs.length σ H → D.nx σ H) : ∃ a', V.ref a = .ref a' ∧ (∃ xs, SqT K H a' xs) ∧ ForW (Itt K a') g tb D σ H := ⟨a, rfl, ⟨_, hS⟩, for_tup Pv h0 hl hs hd⟩
theorem fl_rng {x : Int} {n : Nat} (hn : x.toNat = n) (h1 : -(2 ^ 62) ≤ x) (h2 : x < 2 ^ 62) (Pv : Nat → L2.St → Hp → Prop) (h0 : Pv 0 σ H) (hs : ∀ i σ H, i < n → Pv i σ H → g (.int (0 + i)) σ H fun σ2 H2 => tb { D with nx := Pv (i + 1), ct := Pv (i + 1), bk := D.nx } σ2 H2)
    (hd : ∀ σ H, Pv n σ H → D.nx σ H) : ∃ j : Int, [V.int x] = [.int j] ∧ -(2 ^ 62) ≤ j ∧ j < 2 ^ 62 ∧ ForW (Itr 0 j.toNat) g tb D σ H := ⟨x, rfl, h1, h2, by rw [hn]; exact for_range Pv h0 hs hd⟩
/-- what is a tuple stays one -/
def SmT (K : PySem.W.Frag) (H H' : Hp) : Prop := ∀ (a : Addr) (xs : List V), SqT K H a xs → SqT K H' a xs
theorem same_smT {K : PySem.W.Frag} {H H' : Hp} (s : Same H H') : SmT K H H' := fun a xs h => by
  rcases h with (h | ⟨o, h⟩) | h
  · exact .inl (.inl (s _ _ h))
  · exact .inl (.inr ⟨o, s _ _ h⟩)
  · exact .inr h
theorem smT_upd {H : Hp} {D : Addr} {ys zs : List V} (e : H D = some (.lst ys)) : SmT K H (upd H D (.lst zs)) := fun a xs h => by
  rcases h with (h | ⟨o, h⟩) | h
  · exact .inl (.inl (lk_ne (ne_of h e (by intro z; cases z)) h))
  · exact .inl (.inr ⟨o, lk_ne (ne_of h e (by intro z; cases z)) h⟩)
  · exact .inr h
theorem map_at_app {f : Nat → Hp → V → Prop} {H4 : Hp} {ys : List V} {y : V} {i : Nat} (hl : ys.length = i) (h1 : ∀ (j : Nat) (z : V), ys[j]? = some z → f j H4 z) (h2 : f i H4 y) : ∀ (j : Nat) (z : V), (ys ++ [y])[j]? = some z → f j H4 z := fun j z hz => by
  by_cases hj : j < i
  · rw [List.getElem?_append_left (by rw [hl]; exact hj)] at hz
    exact h1 j z hz
  · have hji : j = i := by
      have := (List.getElem?_eq_some_iff.mp hz).1
      rw [List.length_append, hl] at this
      have : j < i + 1 := this
      omega
    subst hji
    rw [List.getElem?_append_right (by rw [hl]; exact Nat.le_refl _), hl, Nat.sub_self] at hz
    cases hz
    exact h2
/-! comprehensions without a test whose items are made one by one, all else staying -/
theorem cl_turn {D : Addr} {H0 H' : Hp} {ys : List V} {i : Nat} (f : Nat → Hp → V → Prop) (mono : ∀ i y H H', SmT K H H' → f i H y → f i H' y) (hi : i < 1000) (nD : H0 D = none) (sm : Same H0 H') (hD : H' D = some (.lst ys)) (hl : ys.length = i) (hf : ∀ (j : Nat) (y : V), ys[j]? = some y → f j H' y)
    (y : V) (H4 : Hp) (s4 : Same H' H4) (fy : f i H4 y) : ∃ acc, H4 D = some (.lst acc) ∧ acc.length < sizeLine ∧ Same H0 (upd H4 D (.lst (acc ++ [y]))) ∧ ∃ ys, (upd H4 D (.lst (acc ++ [y]))) D = some (.lst ys) ∧ ys.length = i + 1 ∧ ∀ (j : Nat) (z : V), ys[j]? = some z → f j (upd H4 D (.lst (acc ++ [y]))) z := by
  have h4 := s4 _ _ hD
  refine ⟨ys, h4, by rw [hl]; exact Nat.lt_of_lt_of_le hi (by decide), fun b o e => (upd_ne (ne_of_none e nD)).trans (s4 _ _ (sm _ _ e)), ys ++ [y], upd_same, by rw [List.length_append, hl]; rfl, ?_⟩
  refine map_at_app (f := f) hl (fun j z hz => mono _ _ _ _ (smT_upd h4) (mono _ _ _ _ (same_smT s4) (hf j z hz))) (mono _ _ _ _ (smT_upd h4) fy)
theorem cl_list {a : Addr} {xs : List V} (hS : SqL K H a xs) (h3 : xs.length ≤ 1000) (f : Nat → Hp → V → Prop) (mono : ∀ i y H H', SmT K H H' → f i H y → f i H' y)
    (turn : ∀ i x, xs[i]? = some x → ∀ (H' : Hp) (N : VK), Same H H' → (∀ y H4, Same H' H4 → f i H4 y → N y H4) → g x (wipe σ vs) H' fun σ2 H2 => wipe σ2 vs = wipe σ vs ∧ te σ2 H2 N)
    (last : ∀ (H' : Hp) (D : Addr) (ys : List V), Same H H' → H D = none → H' D = some (.lst ys) → ys.length = xs.length → (∀ (j : Nat) (y : V), ys[j]? = some y → f j H' y) → Q (.ref D) H') :
    ∃ a', V.ref a = .ref a' ∧ (∃ xs, SqL K H a' xs) ∧ LcW (Itl K a') g tYes te vs σ H Q :=
  ⟨a, rfl, ⟨_, hS⟩, fun D nD => lc_list (fun i H' => Same H H' ∧ ∃ ys, H' D = some (.lst ys) ∧ ys.length = i ∧ ∀ (j : Nat) (y : V), ys[j]? = some y → f j H' y) ⟨same_new nD, [], upd_same, rfl, fun j y h => by simp at h⟩ (fun i H' _ h => h.1.seq hS)
    (fun i x H' hi ⟨sm, ys, hD, hl, hf⟩ => turn i x hi H' _ sm (fun y H4 s4 fy => cl_turn (K := K) f mono (Nat.lt_of_lt_of_le (List.getElem?_eq_some_iff.mp hi).1 h3) nD sm hD hl hf y H4 s4 fy))
    (fun H' ⟨sm, ys, hD, hl, hf⟩ => last H' D ys sm nD hD hl hf)⟩
theorem cl_tup {a : Addr} {xs : List V} (hS : SqT K H a xs) (h3 : xs.length ≤ 1000) (f : Nat → Hp → V → Prop) (mono : ∀ i y H H', SmT K H H' → f i H y → f i H' y)
    (turn : ∀ i x, xs[i]? = some x → ∀ (H' : Hp) (N : VK), Same H H' → (∀ y H4, Same H' H4 → f i H4 y → N y H4) → g x (wipe σ vs) H' fun σ2 H2 => wipe σ2 vs = wipe σ vs ∧ te σ2 H2 N)
    (last : ∀ (H' : Hp) (D : Addr) (ys : List V), Same H H' → H D = none → H' D = some (.lst ys) → ys.length = xs.length → (∀ (j : Nat) (y : V), ys[j]? = some y → f j H' y) → Q (.ref D) H') :
    ∃ a', V.ref a = .ref a' ∧ (∃ xs, SqT K H a' xs) ∧ LcW (Itt K a') g tYes te vs σ H Q :=
  ⟨a, rfl, ⟨_, hS⟩, fun D nD => lc_tup (fun i H' => Same H H' ∧ ∃ ys, H' D = some (.lst ys) ∧ ys.length = i ∧ ∀ (j : Nat) (y : V), ys[j]? = some y → f j H' y) ⟨same_new nD, [], upd_same, rfl, fun j y h => by simp at h⟩ (fun i H' _ h => same_smT h.1 _ _ hS)
    (fun i x H' hi ⟨sm, ys, hD, hl, hf⟩ => turn i x hi H' _ sm (fun y H4 s4 fy => cl_turn (K := K) f mono (Nat.lt_of_lt_of_le (List.getElem?_eq_some_iff.mp hi).1 h3) nD sm hD hl hf y H4 s4 fy))
    (fun H' ⟨sm, ys, hD, hl, hf⟩ => last H' D ys sm nD hD hl hf)⟩
theorem cl_rng {x : Int} {n : Nat} (hn : x.toNat = n) (h3 : n ≤ 1000) (h1 : -(2 ^ 62) ≤ x) (h2 : x < 2 ^ 62) (f : Nat → Hp → V → Prop) (mono : ∀ i y H H', SmT K H H' → f i H y → f i H' y)
    (turn : ∀ i, i < n → ∀ (H' : Hp) (N : VK), Same H H' → (∀ y H4, Same H' H4 → f i H4 y → N y H4) → g (.int (0 + i)) (wipe σ vs) H' fun σ2 H2 => wipe σ2 vs = wipe σ vs ∧ te σ2 H2 N)
    (last : ∀ (H' : Hp) (D : Addr) (ys : List V), Same H H' → H D = none → H' D = some (.lst ys) → ys.length = n → (∀ (j : Nat) (y : V), ys[j]? = some y → f j H' y) → Q (.ref D) H') :
    ∃ j : Int, [V.int x] = [.int j] ∧ -(2 ^ 62) ≤ j ∧ j < 2 ^ 62 ∧ LcW (Itr 0 j.toNat) g tYes te vs σ H Q :=
  ⟨x, rfl, h1, h2, by
    rw [hn]
    exact fun D nD => lc_range (fun i H' => Same H H' ∧ ∃ ys, H' D = some (.lst ys) ∧ ys.length = i ∧ ∀ (j : Nat) (y : V), ys[j]? = some y → f j H' y) ⟨same_new nD, [], upd_same, rfl, fun j y h => by simp at h⟩
      (fun i H' hi ⟨sm, ys, hD, hl, hf⟩ => turn i hi H' _ sm (fun y H4 s4 fy => cl_turn (K := K) f mono (Nat.lt_of_lt_of_le hi h3) nD sm hD hl hf y H4 s4 fy))
      (fun H' ⟨sm, ys, hD, hl, hf⟩ => last H' D ys sm nD hD hl hf)⟩
theorem upd_upd {H : Hp} {D : Addr} {o u : HO} (h : H D = some o) : H = upd H D o := by
  funext x
  by_cases e : x = D
  · rw [e, upd_same, h]
  · rw [upd_ne e]
end
end Wn
/-! Wn: texts put together, names drawn. -/
namespace Wn
open PySem PySem.Spec PyProof.Rows L2
section
variable {H : Hp} {Q : VK} {K : PySem.W.Frag}
theorem r_adds {i j : Str} (e : i.length + j.length ≤ sizeLine) (q : Q (.str (i ++ j)) H) : (fun (x y : V) (H : Hp) (Q : VK) => ∃ i j, x = .str i ∧ y = .str j ∧ i.length + j.length ≤ sizeLine ∧ Q (.str (i ++ j)) H) (.str i) (.str j) H Q := ⟨i, j, rfl, rfl, e, q⟩
theorem r_ixs {z : Str} {i : Int} {c : Nat} (hz : z.length ≤ sizeLine) (e : atI z.cps.toList i = some c) (q : Q (.str ⟨#[c]⟩) H) : rIxS (.str z) (.int i) H Q := ⟨z, i, c, rfl, rfl, hz, e, q⟩
theorem r_sls {z : Str} {lo hi : Option Int} (hz : z.length ≤ sizeLine) (q : Q (.str (cutS z lo hi)) H) : rSlS (.str z) lo hi H Q := ⟨z, rfl, hz, q⟩
end
section
variable {σ : L2.St} {H : Hp} {Q : VK} {te : TE} {tl th : TO} {QO : Option Int → Hp → Prop}
theorem r_tsl {r : V → Option Int → Option Int → Hp → VK → Prop} (h : te σ H fun x H1 => tl σ H1 fun l H2 => th σ H2 fun u H3 => r x l u H3 Q) : L2.tSl r te tl th σ H Q := h
theorem r_nopart (h : QO none H) : tNoPart σ H QO := h
theorem r_part (h : te σ H fun x H1 => ∃ i, x = .int i ∧ QO (some i) H1) : tPart te σ H QO := h
theorem r_exint {i : Int} {P : Int → Prop} (h : P i) : ∃ j, V.int i = .int j ∧ P j := ⟨i, rfl, h⟩
theorem r_app {l : Addr} {xs : List V} {y : V} (e : H l = some (.lst xs)) (hz : xs.length < sizeLine) (q : Q .non (upd H l (.lst (xs ++ [y])))) : rAppend (.ref l) [y] H Q := ⟨l, xs, y, rfl, rfl, e, hz, q⟩
end
def lowB (z : Str) : Bool := z.cps.toList.all fun c => decide (97 ≤ c) && decide (c ≤ 122)
theorem nameB_mk {z : Str} (h1 : 1 ≤ z.length) (h8 : z.length ≤ 8) (h : lowB z = true) : nameB z = true := by
  unfold nameB
  unfold lowB at h
  rw [h, decide_eq_true h1, decide_eq_true h8]
  rfl
theorem nameB_low {z : Str} (h : nameB z = true) : lowB z = true := by
  unfold nameB at h
  simp only [Bool.and_eq_true] at h
  exact h.2
theorem app_len (z : Str) (c : Nat) : (z ++ (⟨#[c]⟩ : Str)).length = z.length + 1 := by
  show (z.cps ++ #[c]).size = z.cps.size + 1
  simp
theorem app_list (z : Str) (c : Nat) : (z ++ (⟨#[c]⟩ : Str)).cps.toList = z.cps.toList ++ [c] := by
  show (z.cps ++ #[c]).toList = z.cps.toList ++ [c]
  simp
theorem app_low {z : Str} {c : Nat} (h : lowB z = true) (h1 : 97 ≤ c) (h2 : c ≤ 122) : lowB (z ++ (⟨#[c]⟩ : Str)) = true := by
  unfold lowB at h ⊢
  rw [app_list, List.all_append, h]
  simp [h1, h2]
theorem app_inj {z : Str} {c d : Nat} (h : z ++ (⟨#[c]⟩ : Str) = z ++ (⟨#[d]⟩ : Str)) : c = d := by
  have e := congrArg (fun s : Str => s.cps.toList) h
  simp only [app_list] at e
  simpa using e
theorem sIx_cut (n : Nat) : HT.sIx n n (some 7) ≤ 7 := by
  rw [show HT.sIx n n (some 7) = min 7 n from HT.sIx_nat _ _ 7]
  exact Nat.min_le_left _ _
theorem cut7_len (z : Str) : (cutS z none (some 7)).length ≤ 7 := by
  show (((z.cps.toList.drop (HT.sIx z.length 0 none)).take (HT.sIx z.length z.length (some 7) - HT.sIx z.length 0 none)).toArray).size ≤ 7
  rw [List.size_toArray, List.length_take]
  have := sIx_cut z.length
  omega
theorem cut7_low {z : Str} (h : lowB z = true) : lowB (cutS z none (some 7)) = true := by
  unfold lowB at h ⊢
  rw [List.all_eq_true] at h ⊢
  intro c hc
  refine h c ?_
  have hc' : c ∈ ((z.cps.toList.drop (HT.sIx z.length 0 none)).take (HT.sIx z.length z.length (some 7) - HT.sIx z.length 0 none)) := by
    unfold cutS at hc
    simpa using hc
  exact List.mem_of_mem_drop (List.mem_of_mem_take hc')
theorem abc_list : (PySem.Str.ofString "abcdefghijklmnopqrstuvwxyz").cps.toList = (List.range 26).map (97 + ·) := by decide +kernel
theorem abc_len : (PySem.Str.ofString "abcdefghijklmnopqrstuvwxyz").length ≤ sizeLine := by decide +kernel
theorem abc_at {i : Int} (h0 : 0 ≤ i) (h : i < 26) : atI (PySem.Str.ofString "abcdefghijklmnopqrstuvwxyz").cps.toList i = some (97 + i.toNat) := by
  obtain ⟨k, rfl⟩ : ∃ k : Nat, i = (k : Int) := ⟨i.toNat, by omega⟩
  rw [abc_list]
  refine atI_nat ?_
  have hk : k < 26 := by omega
  rw [List.getElem?_map, List.getElem?_range hk]
  rfl
theorem r_ixabc {H : Hp} {Q : VK} {i : Int} (h0 : 0 ≤ i) (h : i < 26) (q : Q (.str ⟨#[97 + i.toNat]⟩) H) : rIxS (.str (PySem.Str.ofString "abcdefghijklmnopqrstuvwxyz")) (.int i) H Q := r_ixs abc_len (abc_at h0 h) q
theorem pig : ∀ (l zs : List Str), l.Nodup → (∀ x ∈ l, x ∈ zs) → l.length ≤ zs.length
  | [], _, _, _ => Nat.zero_le _
  | x :: t, zs, nd, s => by
    have hx := s x (List.mem_cons_self)
    have h2 := pig t (zs.erase x) (List.nodup_cons.mp nd).2 fun y hy => by
      have hne : y ≠ x := fun e => (List.nodup_cons.mp nd).1 (e ▸ hy)
      exact (List.mem_erase_of_ne hne).mpr (s y (List.mem_cons_of_mem _ hy))
    have h3 := List.length_erase_of_mem hx
    have h4 : 0 < zs.length := List.length_pos_of_mem hx
    rw [List.length_cons]
    omega
/-- the free names: one of 26 is free where at most three are taken -/
def cand (z : Str) (i : Nat) : Str := z ++ (⟨#[97 + i]⟩ : Str)
def freeL (z : Str) (zs : List Str) (n : Nat) : List Str := ((List.range n).map (cand z)).filter fun x => !decide (x ∈ zs)
theorem freeL_succ (z : Str) (zs : List Str) (n : Nat) : freeL z zs (n + 1) = freeL z zs n ++ (if (!decide (cand z n ∈ zs)) = true then [cand z n] else []) := by
  unfold freeL
  rw [List.range_succ, List.map_append, List.filter_append]
  congr 1
  simp only [List.map_cons, List.map_nil, List.filter_cons, List.filter_nil]
theorem freeL_len (z : Str) (zs : List Str) (n : Nat) : (freeL z zs n).length ≤ n := by
  unfold freeL
  refine Nat.le_trans (List.length_filter_le _ _) ?_
  simp
theorem freeL_ne {z : Str} {zs : List Str} (h : zs.length ≤ 3) : ∃ x t, freeL z zs 26 = x :: t := by
  cases e : freeL z zs 26 with
  | cons x t => exact ⟨x, t, rfl⟩
  | nil =>
    exfalso
    have h2 : ∀ x ∈ (List.range 26).map (cand z), x ∈ zs := fun x hx => by
      unfold freeL at e
      rw [List.filter_eq_nil_iff] at e
      have := e x hx
      simpa using this
    have nd : ((List.range 26).map (cand z)).Nodup := by
      unfold List.Nodup
      rw [List.pairwise_map]
      refine List.Pairwise.imp ?_ (List.pairwise_lt_range (n := 26))
      intro a b lt hab
      have := app_inj hab
      omega
    have := pig _ _ nd h2
    rw [List.length_map, List.length_range] at this
    omega
theorem freeL_mem {z x : Str} {zs : List Str} (h : x ∈ freeL z zs 26) : x ∉ zs ∧ ∃ i, i < 26 ∧ x = cand z i := by
  unfold freeL at h
  rw [List.mem_filter, List.mem_map] at h
  obtain ⟨⟨i, hi, rfl⟩, h2⟩ := h
  exact ⟨by simpa using h2, i, List.mem_range.mp hi, rfl⟩
theorem cand_name {z : Str} {i : Nat} (hz : lowB z = true) (h : i < 26) : nameB (cand (cutS z none (some 7)) i) = true := by
  have h7 := cut7_len z
  refine nameB_mk ?_ ?_ (app_low (cut7_low hz) (by omega) (by omega))
  · rw [cand, app_len]; omega
  · rw [cand, app_len]; omega
end Wn
/-! Wn: tuples put together. -/
namespace Wn
open PySem PySem.Spec PyProof.Rows L2
section
variable {X : Cx} {K : PySem.W.Frag} {H : Hp} {Q : VK}
theorem op_catAK (e : X.K = K) : OpR X (binaryOp .Add) (rCatA K) := by subst e; exact op_catA
/-- t + u: a tuple of both, somewhere -/
theorem r_catU {a b : Addr} {xs ys : List V} (h1 : SqT K H a xs) (h2 : SqT K H b ys) (hz : xs.length + ys.length ≤ sizeLine) (q : ∀ p H', Same H H' → SqT K H' p (xs ++ ys) → Q (.ref p) H') : rCatA K (.ref a) (.ref b) H Q := by
  refine ⟨a, b, xs, ys, rfl, rfl, h1, h2, hz, fun e => ?_, fun e1 e2 => ?_, fun e1 e2 p np => q p _ (same_new np) (.inl (.inl upd_same))⟩
  · subst e
    exact q b H (Same.refl _) h2
  · subst e2
    exact q a H (Same.refl _) (by rw [List.append_nil]; exact h1)
end
section
variable {X : Cx} {K : PySem.W.Frag} {H : Hp} {Q : VK}
theorem sl_tupK (e : X.K = K) : SlR X (rSlT K) := by subst e; exact sl_tup
theorem cutV_to {xs : List V} {k : Nat} (hk : k ≤ xs.length) : cutV xs none (some (k : Int)) = xs.take k := by
  unfold cutV
  rw [show HT.sIx xs.length xs.length (some (k : Int)) = min k xs.length from HT.sIx_nat _ _ k, HT.sIx_none]
  rw [List.drop_zero, Nat.sub_zero, Nat.min_eq_left hk]
theorem cutV_from {xs : List V} {k : Nat} (hk : k ≤ xs.length) : cutV xs (some (k : Int)) none = xs.drop k := by
  unfold cutV
  rw [show HT.sIx xs.length 0 (some (k : Int)) = min k xs.length from HT.sIx_nat _ _ k, HT.sIx_none]
  rw [Nat.min_eq_left hk]
  exact List.take_of_length_le (by rw [List.length_drop]; exact Nat.le_refl _)
theorem r_slto {a : Addr} {xs : List V} {k : Nat} (h : SqT K H a xs) (hk : k < xs.length) (q : ∀ p, H p = none → Q (.ref p) (upd H p (.tup (xs.take k)))) : rSlT K (.ref a) none (some (k : Int)) H Q := by
  refine ⟨a, xs, rfl, h, fun z => ?_, fun p np => by rw [cutV_to (Nat.le_of_lt hk)]; exact q p np⟩
  have z2 := z.2
  rw [show HT.sIx xs.length xs.length (some (k : Int)) = min k xs.length from HT.sIx_nat _ _ k, Nat.min_eq_left (Nat.le_of_lt hk)] at z2
  omega
theorem r_slfrom {a : Addr} {xs : List V} {k : Nat} (h : SqT K H a xs) (h0 : 0 < k) (hk : k ≤ xs.length) (q : ∀ p, H p = none → Q (.ref p) (upd H p (.tup (xs.drop k)))) : rSlT K (.ref a) (some (k : Int)) none H Q := by
  refine ⟨a, xs, rfl, h, fun z => ?_, fun p np => by rw [cutV_from hk]; exact q p np⟩
  have z1 := z.1
  rw [show HT.sIx xs.length 0 (some (k : Int)) = min k xs.length from HT.sIx_nat _ _ k, Nat.min_eq_left hk] at z1
  omega
end
theorem op_repTK {X : Cx} {K : PySem.W.Frag} (e : X.K = K) : OpR X (binaryOp .Mult) (rRepT K) := by subst e; exact op_repT
end Wn
/-! Wn: == and != of instances of an own class with its own __eq__ and no __ne__. -/
namespace Wn
open PySem PySem.Spec PyProof.Rows L2
section
open PySem.W (Frag findIn InstAt isFn notFirst Looks looks_findIn mroIn looks_mroIn)
variable {prog : Program} {w : World} {A : Around} {E : Value → Shared → Prop} {s : Shared} {K : Frag} {x C f : Addr} {ox : Obj} {od : Option Obj} {h₀ : Heap} {L : Addr} {m : Str → Option Value} {b tb : Value}
theorem ifBound_ne {M : Model} {args : List Value} {Q : Option Value → Shared → Prop} (X : K.In s.heap) (I : InstAt s.heap x ox C od) (hs : findIn K (.ref C) "__ne__" = some (some (.builtin "object.__ne__")))
    (h : wpAny M A (call (.builtin "object.__ne__") (.ref x :: args)) (fun v => Q (some v)) E s) : wpAny M A (callSpecialIfBound? (.ref x) "__ne__" args) Q E s := by
  simp only [callSpecialIfBound?, bindSpecialIfBound?]
  refine wpAny_holding (wpAny_bind (wpAny_bind (wpAny_bind (I.type.here ((looks_findIn X hs).here ?_)))))
  simp only [PySem.F.cmp_object.ne.bind]
  refine wpAny_bind (wpAny_askSetting (wpAny_ite ?_))
  have fin : wpAny M A (call (.builtin "object.__ne__") ([.ref x] ++ args) >>= fun v => pure (some v)) Q E s := wpAny_bind (wpAny_mono h (fun v s' h' => wpAny_pure h') fun _ _ h' => h')
  split
  · exact wpAny_bind (wpAny_pure (wpAny_pure fin))
  · exact wpAny_tryCatch (wpAny_bind (wpAny_pure (wpAny_pure fin)))
theorem ne_entry (X : K.In s.heap) (I : InstAt s.heap x ox C od) (hs : findIn K (.ref C) "__eq__" = some (some (.ref f))) (hf : isFn K (.ref f) = true) (hu : A.units < cLine) {Q : Fin → Shared → Prop}
    (hcall : wpAny (model prog w) A (call (.ref f) [.ref x, b]) (fun v s' => ∃ r, v = .bool r ∧ Q (.done (.ret (.bool (!r)))) s') E s) :
    wpAny (model prog w) A (Builtin.«object.__ne__» ⟨[.ref x, b], []⟩) Q E s := by
  unfold Builtin.«object.__ne__»
  repeat (first
    | with_reducible refine wpAny_cRoomFor hu ?_
    | (refine wpAny_bind (m := callSpecialIfBound? (.ref x) (Str.ofString "__eq__") [b])
        (PySem.W.ifBound_K X I hs hf (wpAny_mono hcall (fun r s' hr => by
          obtain ⟨b, rfl, hq⟩ := hr
          repeat (first | exact hq | exact wpAny_pure hq | exact wpAny_truthy_bool hq | (refine wpAny_bind (m := truthy (.bool _)) (wpAny_truthy_bool ?_)) | wp_step)) fun _ _ e => e)))
    | wp_step)
theorem cmp_ne {Q : Value → Shared → Prop} (hu : A.units + 1 < cLine) (F : Fr h₀ L s.heap m) (X₀ : K.In h₀) (I : InstAt s.heap x ox C od) (hb : Looks (model prog w) s.heap (typeOf b) tb) (hn : notFirst K C tb = true)
    (he : findIn K (.ref C) "__eq__" = some (some (.ref f))) (hf : isFn K (.ref f) = true) (hs : findIn K (.ref C) "__ne__" = some (some (.builtin "object.__ne__"))) (hm : mroIn K C (.type "object") = some true)
    (h : wpAny (model prog w) A.in1 (call (.ref f) [.ref x, b]) (fun v s' => ∃ r, v = .bool r ∧ Q (.bool (!r)) s') E s) : wpAny (model prog w) A (richCompare .NotEq (.ref x) b) Q E s := by
  have X := X₀.keeps F.keep
  have sub : Looks (model prog w) s.heap (isInstance (.ref x) (.type "object")) true := I.type.andThen (looks_mroIn X hm)
  have one : wpAny (model prog w) A (tryCompare (.ref x) "__ne__" b) (fun r s' => ∃ v, r = some v ∧ Q v s') E s := by
    unfold tryCompare
    refine wpAny_bind (ifBound_ne X I hs (wpAny_call (codeAny_call_builtin PySem.F.cmp_object.ne.plain PySem.F.cmpEntry_ne
      (@PySem.W.check_slot (model prog w) _ _ s "object.__ne__" "object" "__ne__" (.ref x) [b] [] _ PySem.F.cmpKind_ne PySem.F.cmpSplit_ne sub (PySem.F.cmpArgs_ne _ _)
        (ne_entry (A := A.in1) X I he hf hu (wpAny_mono h (fun v s' hv => ?_) fun _ _ e => e))))))
    obtain ⟨r, rfl, hq⟩ := hv
    first | exact ⟨r, rfl, wpAny_pure ⟨_, rfl, hq⟩⟩ | exact ⟨r, rfl, wpAny_pure (wpAny_pure ⟨_, rfl, hq⟩)⟩ | exact ⟨r, rfl, _, rfl, hq⟩
  unfold richCompare
  simp only [oneThing_ref]
  refine wpAny_holding (wpAny_bind (wpAny_cRoomFor (Nat.lt_of_succ_lt hu) ?_))
  rw [cmpInfo_NotEq]
  dsimp only
  refine wpAny_bind (I.type.here (wpAny_bind (hb.here ?_)))
  split
  · rename_i q
    have e : PySem.W.subIn K tb (.ref C) = some false := by
      rcases Bool.or_eq_true_iff.mp hn with e | e
      · rw [beq_iff_eq.mp e] at q; simp at q
      · exact beq_iff_eq.mp e
    refine wpAny_bind ((PySem.W.looks_subIn X e).here ?_)
    simp only [Bool.false_eq_true, if_false]
    refine wpAny_bind (wpAny_mono one (fun r s' z => ?_) fun _ _ e => e)
    obtain ⟨v, rfl, hq⟩ := z
    exact wpAny_pure hq
  · refine wpAny_bind (wpAny_pure ?_)
    simp only [Bool.false_eq_true, if_false]
    refine wpAny_bind (wpAny_mono one (fun r s' z => ?_) fun _ _ e => e)
    obtain ⟨v, rfl, hq⟩ := z
    exact wpAny_pure hq
end
theorem op_eqDK {X : Cx} {K : PySem.W.Frag} (e : X.K = K) (hu : X.A.units + 64 < cLine) : OpR X (compareOp .Eq) (rEqD K) := by subst e; exact op_eqD hu
theorem pe_globR {X : Cx} {x : Str} {a : Addr} {pos : Pos} (hg : Gl X x) (hm : X.mg x = some (.ref a)) (hd : (x == ("__debug__" : Str)) = false := by decide) : PE X (.Name x pos) (tC (.ref a)) := pe_glob hg hm rfl hd
section
variable {X : Cx} {CX : CXT} {C g : Addr} {n : Nat} {sp : Sp} {E : XK} {fd : FuncData} {ps : List Str}
/-- x == y, both instances of the class at C whose __eq__ is at g -/
def rOwnI (C : Addr) (sp : Sp) (E : XK) (neg : Bool) : R2 := fun x y H Q => ∃ a dx fs b dy gs, x = .ref a ∧ y = .ref b ∧ H a = some (.ins C dx fs) ∧ H b = some (.ins C dy gs) ∧ sp [x, y] H (fun z H' => ∃ r, z = .bl r ∧ Q (.bl (if neg then !r else r)) H') E
/-- what == asks of the class -/
structure OwnEq (K : PySem.W.Frag) (C g : Addr) : Prop where
  eq : PySem.W.findIn K (.ref C) "__eq__" = some (some (.ref g))
  fn : PySem.W.isFn K (.ref g) = true
  ne : PySem.W.findIn K (.ref C) "__ne__" = some (some (.builtin "object.__ne__"))
  ob : PySem.W.mroIn K C (.type "object") = some true
theorem op_eqI {K : PySem.W.Frag} (eK : X.K = K) (T : OwnEq K C g) (F : FnOk X.prog X.w X.K X.mg X.base CX n g fd ps sp) (hb : Binds K fd ps []) (hr : Room n X.A) (hx : Passes CX X E) : OpR X (compareOp .Eq) (rOwnI C sp E false) := by
  subst eK
  intro pins s σ H x y v u Q I rx ry h
  obtain ⟨a, dx, fs, b, dy, gs, rfl, rfl, ha, hb2, q⟩ := h
  cases (show v = Value.ref a from rx)
  cases (show u = Value.ref b from ry)
  obtain ⟨mA, O, _⟩ := ins_get I.hok ha
  obtain ⟨mB, O', _⟩ := ins_get I.hok hb2
  obtain ⟨od, J, _⟩ := O.look
  obtain ⟨od', J', _⟩ := O'.look
  obtain ⟨m, hF⟩ := I.fr
  show wpAny _ _ (richCompare .Eq _ _) _ _ _
  refine PySem.W.cmp_K (op := .Eq) (tb := .ref C) hr.units0 hF I.ok.mod.kin J J'.type (by simp [PySem.W.notFirst]) T.eq T.fn ?_
  refine wpAny_mono (run_fn (us := [.ref a, .ref b]) (vs := [.ref a, .ref b]) (dvs := []) F hr hb .nil hx I (.cons rfl (.cons rfl .nil)) q) (fun w s' z => ?_) fun _ _ x => x
  obtain ⟨z', H', I', rz, r, er, qz⟩ := z
  subst er
  cases (show w = Value.bool r from rz)
  exact ⟨.bl r, H', I', rfl, qz⟩
theorem run_fn1 {pins : List (Addr × Obj)} {σ : L2.St} {H : Hp} {s : Shared} {Q : VK} {us : List Value} {vs : List V} (F : FnOk X.prog X.w X.K X.mg X.base CX n g fd ps sp) (hr : Room (n + 1) X.A) (hb : Binds X.K fd ps []) (hx : Passes CX X E)
    (I : Inv X pins σ H s) (r : Vals vs us) (h : sp vs H Q E) : wpAny (model X.prog X.w) X.A.in1 (call (.ref g) us) (EP X pins σ Q) X.xe s := by
  have hl : us.length = ps.length := by rw [← r.length]; exact F.len _ _ _ _ h
  refine wpAny_call (codeAny_mono (F.run X.A.in1 X.stack s H ⟨us, []⟩ us vs Q E hr.in1 I.env0.in1 (by have := hb s us I.kIn (by rw [List.append_nil]; exact hl); rw [List.append_nil] at this; exact this) r h) fun r s' hq => ?_)
  cases r with
  | error e => exact hx pins σ H s e s' I hq
  | ok fl =>
    cases fl with
    | ret u => exact I.after hq
    | next => exact False.elim hq
    | brk => exact False.elim hq
    | cont => exact False.elim hq
theorem op_neI {K : PySem.W.Frag} (eK : X.K = K) (T : OwnEq K C g) (F : FnOk X.prog X.w X.K X.mg X.base CX n g fd ps sp) (hb : Binds K fd ps []) (hr : Room (n + 1) X.A) (hx : Passes CX X E) : OpR X (compareOp .NotEq) (rOwnI C sp E true) := by
  subst eK
  intro pins s σ H x y v u Q I rx ry h
  obtain ⟨a, dx, fs, b, dy, gs, rfl, rfl, ha, hb2, q⟩ := h
  cases (show v = Value.ref a from rx)
  cases (show u = Value.ref b from ry)
  obtain ⟨mA, O, _⟩ := ins_get I.hok ha
  obtain ⟨mB, O', _⟩ := ins_get I.hok hb2
  obtain ⟨od, J, _⟩ := O.look
  obtain ⟨od', J', _⟩ := O'.look
  obtain ⟨m, hF⟩ := I.fr
  have hu : X.A.units + 1 < cLine := by have := hr.units; omega
  show wpAny _ _ (richCompare .NotEq _ _) _ _ _
  refine cmp_ne (tb := .ref C) hu hF I.ok.mod.kin J J'.type (by simp [PySem.W.notFirst]) T.eq T.fn T.ne T.ob ?_
  refine wpAny_mono (run_fn1 (us := [.ref a, .ref b]) (vs := [.ref a, .ref b]) F hr hb hx I (.cons rfl (.cons rfl .nil)) q) (fun w s' z => ?_) fun _ _ x => x
  · obtain ⟨z', H', I', rz, r, er, qz⟩ := z
    subst er
    cases (show w = Value.bool r from rz)
    exact ⟨r, rfl, .bl (!r), H', I', rfl, qz⟩
end
end Wn
/-! Wn: exceptions of own classes as values: made, asked for their kind, read. -/
namespace Wn
open PySem PySem.Spec PyProof.Rows L2
open PySem.W (Frag findIn subIn hasDictIn specialIn takesIn mroIn InstAt KitX)
/-- what the written part tells of an own exception class -/
structure XCls (K : Frag) (D : Addr) : Prop where
  o : OexC K D
  c : ExcC K D
section
variable {prog : Program} {w : World} {A : Around} {E : Value → Shared → Prop} {s : Shared} {K : Frag} {x D : Addr} {ox : Obj} {od : Option Obj}
theorem xclass (T : ExcC K D) {Q : Option Value → Shared → Prop} (KI : K.In s.heap) (J : InstAt s.heap x ox D od) (q : Q (some (.ref D)) { s with toks := s.toks + 1 }) :
    wpAny (model prog w) A (getAttr? (.ref x) "__class__") Q E s := by
  have fo : PySem.W.findObj K D od "__class__" = some (.bind (.builtin "getset_descriptor.__get__") (.builtin "object.__class__")) := by
    have cs : (PySem.W.clsIn K D).isSome = true := by
      obtain ⟨cd, e, _⟩ := PySem.W.any_some T.hd
      rw [e]
      rfl
    cases od with
    | none => exact PySem.W.findObj_dataN cs T.ha T.hn T.ht
    | some o => exact PySem.W.findObj_data cs T.ha T.hn T.ht
  obtain ⟨hh, gg, dd, tt, oo⟩ := s
  have l0 := J.type (M := model prog w)
  have l1 := PySem.W.looks_findIn (M := model prog w) KI T.hg
  have l2 := PySem.W.looks_findIn (M := model prog w) KI T.hk
  have l3 := PySem.W.looks_find (M := model prog w) KI J fo
  have lsub : PySem.W.Looks (model prog w) hh (isInstance (.ref x) (.type "BaseException")) true :=
    l0.andThen (PySem.W.looks_subIn KI T.hs)
  have b0 : (false && onTheHeap (Value.builtin "BaseException.__getattribute__")) = false := rfl
  have b2 : (Value.builtin "BaseException.__getattribute__"
      == Value.builtin "object.__getattribute__") = false := by decide +kernel
  have b1 : (onTheHeap (Value.ref D) && Value.builtin "BaseException.__getattribute__"
      == Value.builtin "object.__getattribute__") = false := by
    rw [b2]
    rfl
  unfold getAttr? getAttrBy? getAttrBy
  refine wpAny_bind (wpAny_mkText (wpAny_bind (wpAny_attempt
    (wpAny_holding (wpAny_bind (l0.at (wpAny_bind (l1.at ?_))))))))
  show wpAny _ _ (if (onTheHeap (Value.ref D) && Value.builtin "BaseException.__getattribute__"
    == Value.builtin "object.__getattribute__") = true then _ else _) _ _ _
  rw [b1, if_neg Bool.false_ne_true]
  unfold getAttrByItsOwn hookBefore
  refine wpAny_bind ?_
  have ht : onTheHeap (Value.ref D) = true := rfl
  rw [if_pos ht]
  refine l2.at ?_
  refine wpAny_bind (wpAny_attempt
    (wpAny_holding ?_))
  unfold callGetattribute
  rw [b0, if_neg Bool.false_ne_true]
  unfold boundAndCalled
  rw [PySem.F.excAttr_ValueError.ga.bind
    (.ref x)]
  refine wpAny_bind (wpAny_pure ?_)
  show wpAny _ _ (call (.builtin "BaseException.__getattribute__")
    [.ref x, .str "__class__" tt]) _ _ _
  refine wpAny_call (codeAny_call_builtin PySem.F.excAttr_ValueError.ga.plain
    PySem.F.entry_bexc_ga ?_)
  refine @PySem.W.check_slot (model prog w) _ _ ⟨hh, gg, dd, tt + 1, oo⟩ "BaseException.__getattribute__" "BaseException" "__getattribute__" (.ref x) [.str "__class__" tt] [] _ (by decide +kernel) (by decide +kernel) lsub (PySem.F.args_bexc_ga (.ref x) (.str "__class__" tt)) ?_
  unfold Builtin.«object.__getattribute__»
  refine wpAny_bind (wpAny_of_eq (a := ((Value.ref x : Value), [Value.str "__class__" tt]))
    (by first | rfl | (simp only [slotArgs]; rfl)) ?_)
  refine wpAny_bind (wpAny_pure (wpAny_bind
    (l0.at (wpAny_bind (l3.at ?_)))))
  show wpAny _ _ (holding [Value.builtin "object.__class__"] (call (.builtin "getset_descriptor.__get__")
    [.builtin "object.__class__", .ref x, .ref D]) >>= ret) _ _ _
  refine wpAny_bind (wpAny_holding (wpAny_call (PySem.W.class_get (s := ⟨hh, gg, dd, tt + 1, oo⟩) (ox := ox) (od := od) KI J T.hm ?_)))
  refine wpAny_pure ?_
  show wpAny _ _ (handedOut (.ref D)) _ _ _
  rw [PySem.W.handedOut_of (v := .ref D) rfl]
  first
    | exact wpAny_pure (wpAny_pure q)
    | exact wpAny_pure q
    | exact wpAny_pure (wpAny_bind
        (wpAny_pure (wpAny_pure q)))
theorem cls_there (T : ExcC K D) : ∃ d' cd' sl' c', K.lookup D = some ⟨c', d', .cls cd', sl'⟩ := by
  obtain ⟨cd, e, _⟩ := PySem.W.any_some T.hd
  unfold PySem.W.clsIn at e
  split at e
  · rename_i c1 d1 cd1 sl1 ho
    exact ⟨_, _, _, _, ho⟩
  · cases e
theorem xkit (T : ExcC K D) : KitX K (.ref x) (.ref D) (fun h => InstAt h x ox D od) where
  ty := fun _ _ _ J => J.type
  it := fun _ h KI _ => by
    obtain ⟨d', cd', sl', c', ho⟩ := cls_there T
    intro A1 Q1 E1 s1 kp q
    unfold isType loadHead
    refine wpAny_bind (wpAny_loadPart (kp _ _ (KI _ _ ho)) ?_)
    exact wpAny_pure q
  ne := fun h tp d1 its n sl KI e => by
    obtain ⟨d', cd', sl', c', ho⟩ := cls_there T
    cases hq : (Value.ref D == Value.ref tp) with
    | false => rfl
    | true =>
      have e2 : D = tp := Value.ref.inj (beq_iff_eq.mp hq)
      have z := KI _ _ ho
      rw [e2, e] at z
      cases z
  ca := fun KI J q => xclass T KI J q
end
/-! ### rules -/
/-- C(e, ..) as a value, C's own __init__ keeping sp -/
def tMkV (C : Addr) (sp : Sp) (dvs : List V) (ta : TA) : TE := fun σ H Q => ta σ H fun vs H1 => vs.length ≤ 1000 ∧ ∀ a, H1 a = none →
  sp (.ref a :: (vs ++ dvs)) (upd H1 a (exo a C none)) (fun v H2 => v = .non ∧ Q (.ref a) H2) (fun _ _ _ => False)
section
variable {X : Cx} {e : Expr} {es : List Expr} {ta : TA} {te : TE} {p pos : Pos}
theorem pe_mkV {CX : CXT} {x : Str} {C fI : Addr} {k : Nat} {fd : FuncData} {ps : List Str} {sp : Sp} {ds : List Value} {dvs : List V} (T : OexC X.K C)
    (iC : findIn X.K (.ref C) "__init__" = some (some (.ref fI))) (tI : PySem.W.typeIn X.K (.ref fI) = some (.type "function"))
    (G : FnOk X.prog X.w X.K X.mg X.base CX k fI fd ps sp) (hr : Room (k + 1) X.A) (hb : Binds X.K fd ps ds) (hd : Vals dvs ds) (hx : Passes CX X (fun _ _ _ => False))
    (hg : Gl X x) (hm : X.mg x = some (.ref C)) (ha : PA X (e :: es) ta) (hdb : (x == ("__debug__" : Str)) = false := by decide)
    (he : starEach (e :: es) X.env = (false, eval e X.env) :: starEach es X.env := by rfl) (hpl : (backTo pos (starEach es X.env)).any (·.1) = false := by rfl) :
    PE X (.Call (.Name x p) (e :: es) [] pos) (tMkV C sp dvs ta) := by
  refine ⟨fun pins s σ H Q I h => ?_⟩
  obtain ⟨nm, q, N, bs, bm, sn, sub, ab, col, dd, k0, k1, k2, k3, k5, lC, rbm⟩ := T.cls
  refine wpAny_Call_Name_kw (ld_glob I hg hm ?_ hdb)
  refine PySem.W.callWith_K (h₀ := X.base) I.ok.mod.kin T.kC
    (thn (ha.run pos pins s σ H _ I h) fun us s1 ⟨vs, H1, I1, rv, hz, q1⟩ => ⟨I1.kIn, ?_⟩) he hpl
  show wpAny _ _ (call (.ref C) us) _ _ _
  obtain ⟨hp, gg, dr, tk, os⟩ := s1
  have big : hp.objs.size ≤ hp.objs.size + 1 := Nat.le_succ _
  have fresh : H1 (hp.objs.size + 1) = none := I1.hok.fresh big
  have want := q1 (hp.objs.size + 1) fresh
  generalize hE : (hp.push (PySem.W.kdv_tup us)).push (PySem.HandSPX.excO C hp.objs.size) = hp2
  have keep2 : ∀ b o, hp.get? b = some o → hp2.get? b = some o := fun b o z => by
    rw [← hE]
    exact Heap.get?_push_of_some _ (Heap.get?_push_of_some _ z)
  have at2 : hp2.get? (hp.objs.size + 1) = some (PySem.HandSPX.excO C hp.objs.size) := by
    rw [← hE]
    heap_get
  have I2 : Inv X pins σ (upd H1 (hp.objs.size + 1) (exo (hp.objs.size + 1) C none)) ⟨hp2, gg, dr, tk, os⟩ :=
    I1.laid (t' := tk) (a := hp.objs.size + 1) (o := exo (hp.objs.size + 1) C none) (h' := hp2) keep2 big (exo_ok at2)
  have vals2 : Vals (V.ref (hp.objs.size + 1) :: (vs ++ dvs)) (Value.ref (hp.objs.size + 1) :: (us ++ ds)) := .cons rfl (rv.append hd)
  have len2 : (Value.ref (hp.objs.size + 1) :: us ++ ds).length = ps.length := by
    have z := vals2.length
    rw [G.len _ _ _ _ want] at z
    exact z.symm
  have few : us.length ≤ sizeLine := by
    rw [← Paired.length rv, sizeLine_eq]
    omega
  have run := G.run _ X.stack _ _ ⟨Value.ref (hp.objs.size + 1) :: us, []⟩ (Value.ref (hp.objs.size + 1) :: (us ++ ds)) _ _ (fun _ _ _ => False) (hr.make C us []) (I2.env0.make C us [])
    (hb _ (Value.ref (hp.objs.size + 1) :: us) I2.kIn len2) vals2 want
  refine wpAny_call (PySem.HandSPX.call_own F.excBase_ValueError (fun Y => PySem.HandSPX.refsVE_contains Y bm rbm) (I1.kIn _ _ lC)
    (PySem.W.looks_findIn I1.kIn iC) (fun self => PySem.W.bind_fn I1.kIn self tI) few (by
      rw [hE]
      refine codeAny_mono run fun r s' hq' => ?_
      cases r with
      | error er => exact hx pins σ _ _ er s' I2 hq'
      | ok fl =>
        cases fl with
        | ret u =>
          obtain ⟨v, H2, I3, rv', ev, q2⟩ := I2.after hq'
          subst ev
          exact ⟨rv', ⟨V.ref (hp.objs.size + 1), H2, I3, rfl, q2⟩⟩
        | next => exact False.elim hq'
        | brk => exact False.elim hq'
        | cont => exact False.elim hq'))
/-- C() as a value, C an own class without own __init__ -/
theorem pe_mkV0 {C : Addr} {bmB : List Value} {B newId initId : String} {x : Str} (F : ExcBaseFacts B newId initId bmB) (q : PySem.W.excIn X.K C bmB newId = true)
    (hg : Gl X x) (hm : X.mg x = some (.ref C)) (kC : PySem.W.keepIn X.K (.ref C) = true) (hdb : (x == ("__debug__" : Str)) = false := by decide) :
    PE X (.Call (.Name x p) [] [] pos) (fun _ H Q => ∀ a, H a = none → Q (.ref a) (upd H a (exo a C none))) := by
  refine ⟨fun pins s σ H Q I h => ?_⟩
  refine wpAny_Call_Name_kw (ld_glob I hg hm ?_ hdb)
  refine PySem.W.callWith_K0 I.kIn kC ?_
  obtain ⟨bm, N, nm, qn, bs, hdct, sn, sub, ab, col, dd, k0, k1, k2, k3, k5, mN, lC, nN, nI, T⟩ := exc_obj I.kIn q
  refine wpAny_call_exc_subT F T lC nN nI (fun h' a md => ?_) (by show 0 ≤ sizeLine; exact Nat.zero_le _)
  have fresh : H a = none := I.hok.gone md.new
  obtain ⟨t, at', _, _⟩ := md.there
  exact ⟨.ref a, upd H a (exo a C none), I.laidN md.keeps md.new fresh (exo_ok at'), rfl, h a fresh⟩
/-- isinstance(e, c), e an own exception that is tracked -/
def rIsX (K : Frag) : List V → Hp → VK → Prop := fun xs H Q => ∃ (a D : Addr) (od : Option Addr) (c : V) (cv : Value) (b : Bool), xs = [.ref a, c] ∧ H a = some (exo a D od) ∧ (∀ d, od = some d → ∃ fs, H d = some (exd d fs)) ∧ ExcC K D ∧
  ClsV c cv ∧ PySem.W.kitOne K (.ref D) cv = some b ∧ Q (.bl b) H
theorem inst_of {pins : List (Addr × Obj)} {σ : L2.St} {H : Hp} {s : Shared} {a D : Addr} {od : Option Addr} (I : Inv X pins σ H s) (ea : H a = some (exo a D od)) (ed : ∀ d, od = some d → ∃ fs, H d = some (exd d fs)) :
    ∃ ox oo, InstAt s.heap a ox D oo ∧ ∀ d, od = some d → ∃ o, oo = some o ∧ s.heap.get? d = some o := by
  obtain ⟨t1, ho⟩ := exo_at I.hok ea
  cases od with
  | none => exact ⟨_, none, ⟨ho, rfl, rfl, trivial⟩, fun d z => nomatch z⟩
  | some d =>
    obtain ⟨fs, e2⟩ := ed d rfl
    obtain ⟨mA, hns, rel⟩ := exd_at I.hok e2
    obtain ⟨oD, ho2, _⟩ := lookIn_ns hns
    exact ⟨_, some oD, ⟨ho, rfl, rfl, ho2⟩, fun d' z => by
      cases z
      exact ⟨oD, rfl, ho2⟩⟩
theorem call_isX : CallR X (.builtin "isinstance") (rIsX X.K) := by
  intro pins s σ H xs us Q I r h
  obtain ⟨a, D, od, c, cv, b, rfl, ea, ed, T, hc, e, q⟩ := h
  obtain ⟨u1, u2, rfl, r1, r2⟩ := vals2 r
  cases (show u1 = Value.ref a from r1)
  have e2 := hc.eq r2
  subst e2
  obtain ⟨ox, oo, J, _⟩ := inst_of I ea ed
  exact PySem.W.kia_one (xkit (x := a) (ox := ox) (od := oo) T) I.kIn J e (fun z => nomatch z) fun tk => ⟨.bl b, H, I.tok tk, rfl, q⟩
/-- e.f, e an own exception that is tracked -/
def tFldX (K : Frag) (f : Str) (te : TE) : TE := fun σ H Q => te σ H fun x H1 => ∃ (a D d : Addr) (fs : List (Str × V)) (v : V), x = .ref a ∧ H1 a = some (exo a D (some d)) ∧ H1 d = some (exd d fs) ∧ fs.lookup f = some v ∧
  ExcC K D ∧ findIn K (.ref D) f = some none ∧ Q v H1
theorem pe_fldX {f : Str} (he : PE X e te) (hb : attributeBase e f X.env (eval e X.env) = eval e X.env := by rfl) : PE X (.Attribute e f pos) (tFldX X.K f te) := by
  refine ⟨fun pins s σ H Q I h => ?_⟩
  refine attr_of hb (thn (he.run pins s σ H _ I h) fun u s1 hh => ?_)
  obtain ⟨x, H1, I1, rx, a, D, d, fs, v, ex, ea, ed, lk, T, nf, q⟩ := hh
  subst ex
  obtain rfl : u = Value.ref a := rx
  obtain ⟨mA, hns, rel⟩ := exd_at I1.hok ed
  obtain ⟨oD, ho2, hl⟩ := lookIn_ns hns
  obtain ⟨t1, ho⟩ := exo_at I1.hok ea
  obtain ⟨uv, hu, ru⟩ := RelO.some_of (v := v) (o := mA f) (by rw [← lk]; exact rel f)
  have J : InstAt s1.heap a ({ cls := .ref D, dict := some d, data := .fields #[.ref t1, .none, .none, .none, .bool false, .none] } : Obj) D (some oD) := ⟨ho, rfl, rfl, ho2⟩
  exact HandSPX.exc_get I1.kIn J T.hg T.hk T.hs (PySem.W.findObj_own T.hd nf rfl (by rw [hl, hu])) (handed_of ru) ⟨v, H1, I1.tok _, ru, q⟩
end
end Wn
/-! Wn: own errors with a field raised; x in a tuple of data. -/
namespace Wn
open PySem PySem.Spec PyProof.Rows L2
section
variable {X : Cx} {K : PySem.W.Frag}
def rInDT (K : PySem.W.Frag) (neg : Bool) : R2 := fun x y H Q => ∃ d ds, Dp K H x d ∧ Dp K H y (.tuple ds) ∧ SeqAt.shaped d = true ∧ SeqAt.shaped (.tuple ds) = true ∧ Q (.bl (if neg then !(ds.any fun z => PyData.eqv z d) else ds.any fun z => PyData.eqv z d)) H
theorem op_inDTK (eK : X.K = K) (hu : X.A.units + 65 < cLine) : OpR X (compareOp .In) (rInDT K false) := by
  subst eK
  intro pins s σ H x y v u Q I rx ry h
  obtain ⟨d, ds, hd, he, sd, se, q⟩ := h
  obtain ⟨as, r1⟩ := Dp.reads I d x v hd rx
  obtain ⟨bs, r2⟩ := Dp.reads I (.tuple ds) y u he ry
  exact SeqAt.in_tuple_reads r2 r1 (SeqAt.canLay_of_shaped se) (SeqAt.canLay_of_shaped sd) (room_in_shaped sd hu) ⟨.bl _, H, I, rfl, q⟩
theorem op_notinDTK (eK : X.K = K) (hu : X.A.units + 65 < cLine) : OpR X (compareOp .NotIn) (rInDT K true) := by
  subst eK
  intro pins s σ H x y v u Q I rx ry h
  obtain ⟨d, ds, hd, he, sd, se, q⟩ := h
  obtain ⟨as, r1⟩ := Dp.reads I d x v hd rx
  obtain ⟨bs, r2⟩ := Dp.reads I (.tuple ds) y u he ry
  exact SeqAt.notIn_tuple_reads r2 r1 (SeqAt.canLay_of_shaped se) (SeqAt.canLay_of_shaped sd) (room_in_shaped sd hu) ⟨.bl _, H, I, rfl, q⟩
end
/-- what __init__ of an error with one field does -/
def spE1 (C : Addr) (f : Str) : Sp := fun vs H Q _ => ∃ (a : Addr) (v : V), vs = [.ref a, v] ∧ H a = some (exo a C none) ∧ ∀ d, H d = none → d ≠ a → Q .non (upd (upd H d (exd d [(f, v)])) a (exo a C (some d)))
def spE2 (C : Addr) (f g : Str) : Sp := fun vs H Q _ => ∃ (a : Addr) (v w : V), vs = [.ref a, v, w] ∧ H a = some (exo a C none) ∧ ∀ d, H d = none → d ≠ a → Q .non (upd (upd (upd H d (exd d [(f, v)])) a (exo a C (some d))) d (exd d [(g, w), (f, v)]))
theorem mk_one {C : Addr} {f : Str} {v : V} {H : Hp} {Q : XK} {E : XK} (q : ∀ d H', Same H H' → H d = none → H' d = some (.xd [(f, v)]) → Q (.ref C) (some d) H') :
    [v].length ≤ 1000 ∧ ∀ a, H a = none → spE1 C f (.ref a :: ([v] ++ [])) (upd H a (exo a C none)) (fun v H2 => v = .non ∧ ∃ (d : Addr) (fs : List (Str × V)), H2 a = some (exo a C (some d)) ∧ H2 d = some (exd d fs) ∧ H d = none ∧ Q (.ref C) (some d) (upd (del H2 a) d (.xd fs))) E := by
  refine ⟨by show 1 ≤ 1000; decide, fun a na => ⟨a, v, rfl, upd_same, fun d nd ne => ?_⟩⟩
  have nd2 : H d = none := by rw [upd_ne ne] at nd; exact nd
  refine ⟨rfl, d, [(f, v)], upd_same, (upd_ne ne).trans upd_same, nd2, q d _ (fun b o e => ?_) nd2 upd_same⟩
  have hb : b ≠ a := ne_of_none e na
  have hd : b ≠ d := ne_of_none e nd2
  rw [upd_ne hd]
  show del _ a b = _
  unfold del
  rw [if_neg hb, upd_ne hb, upd_ne hd, upd_ne hb]
  exact e
theorem mk_two {C : Addr} {f g : Str} {v w : V} {H : Hp} {Q : XK} {E : XK} (q : ∀ d H', Same H H' → H d = none → H' d = some (.xd [(g, w), (f, v)]) → Q (.ref C) (some d) H') :
    [v, w].length ≤ 1000 ∧ ∀ a, H a = none → spE2 C f g (.ref a :: ([v, w] ++ [])) (upd H a (exo a C none)) (fun v H2 => v = .non ∧ ∃ (d : Addr) (fs : List (Str × V)), H2 a = some (exo a C (some d)) ∧ H2 d = some (exd d fs) ∧ H d = none ∧ Q (.ref C) (some d) (upd (del H2 a) d (.xd fs))) E := by
  refine ⟨by show 2 ≤ 1000; decide, fun a na => ⟨a, v, w, rfl, upd_same, fun d nd ne => ?_⟩⟩
  have nd2 : H d = none := by rw [upd_ne ne] at nd; exact nd
  refine ⟨rfl, d, [(g, w), (f, v)], (upd_ne ne.symm).trans upd_same, upd_same, nd2, q d _ (fun b o e => ?_) nd2 upd_same⟩
  have hb : b ≠ a := ne_of_none e na
  have hd : b ≠ d := ne_of_none e nd2
  rw [upd_ne hd]
  show del _ a b = _
  unfold del
  rw [if_neg hb, upd_ne hd, upd_ne hb, upd_ne hd, upd_ne hb]
  exact e
theorem room65 {k : Nat} {A : Around} (r : Room (k + 1) A) : A.units + 65 < cLine := by have := r.un; omega
end Wn
/-! Wn: try with several clauses «except C as n». -/
namespace Wn
open PySem PySem.Spec PyProof.Rows L2
abbrev Cl := Value × Nat × (Addr → Value → Option Addr → TS)
/-- clause by clause: the wish of one, and of those behind it where it does not name the class -/
def wMA (K : PySem.W.Frag) (Wout : WX) (D : Ends) : List Cl → WX
  | [] => Wout
  | (c, i, ts) :: r => wAs K c i ts (wMA K Wout D r) D
inductive HdsA (X : Cx) : List ExceptHandler → List Cl → Prop
  | nil : HdsA X [] []
  | cons {x n : Str} {c : Value} {i : Nat} {ts : Addr → Value → Option Addr → TS} {st : Stmt} {sts : List Stmt} {p1 p2 : Pos} {hs : List ExceptHandler} {l : List Cl} (hi : X.N[i]? = some n) (hl : X.env.kindOf n = some .local) (hc : Names X x c)
      (hsu : ∀ (a : Addr) (oe : Obj) (cls : Value) (d : Option Addr) (pn : List (Addr × Obj)), Zc cls d oe → (∃ vs, oe.data = .fields vs) → PSs (X.suite a ((a, oe) :: pn)) (st :: sts) (ts a cls d)) (r : HdsA X hs l) :
      HdsA X (.ExceptHandler (some (.Name x p1)) (some n) (st :: sts) p2 :: hs) ((c, i, ts) :: l)
section
variable {X : Cx} {pins : List (Addr × Obj)} {σ : L2.St} {H : Hp} {D : Ends} {a : Addr} {cls : Value} {d : Option Addr} {Wout : WX} {h3 : Heap} {s' sI : Shared} {B : Heap}
/-- an exception of the body at a: caught, landed -/
structure Got (X : Cx) (pins : List (Addr × Obj)) (σ : L2.St) (H : Hp) (sI s' : Shared) (B h3 : Heap) (a : Addr) (cls : Value) (d : Option Addr) : Prop where
  inv : Inv X pins σ H sI
  nb : ∀ b o, sI.heap.get? b = some o → b ∉ frs X.stack → B.get? b = some o
  up : sI.heap.UpToSlots h3
  fl : HandSPX.FlyingZ B (X.env :: X.outer) a (Zc cls d) h3
  na : H a = none
  os : s'.os = sI.os
  ag : AllBare s'.gens
theorem Got.here (g : Got X pins σ H sI s' B h3 a cls d) : Inv X pins σ H { s' with heap := h3 } := g.inv.landed g.nb g.fl.1 g.up g.os g.ag
/-- none of the frames' records is the exception -/
theorem Got.apart (g : Got X pins σ H sI s' B h3 a cls d) (hf : X.env.frame = some X.env.locals) : a ≠ X.env.locals ∧ a ∉ X.fs := by
  obtain ⟨oe, vs, he, _, hd⟩ := g.fl.there
  have key : a ∉ frs (X.env :: X.outer) := fun hm => by
    obtain ⟨_, o2, e2, bad⟩ := g.fl.2.2.1.mem hm
    cases he.symm.trans e2
    exact bad _ hd
  constructor
  · intro z
    exact key (List.mem_filterMap.mpr ⟨X.env, .head _, by rw [hf, z]⟩)
  · intro hm
    obtain ⟨e, he2, q⟩ := List.mem_filterMap.mp hm
    exact key (List.mem_filterMap.mpr ⟨e, .tail _ he2, q⟩)
theorem Got.suite (g : Got X pins σ H sI s' B h3 a cls d) (hf : X.env.frame = some X.env.locals) : ∃ oe, Zc cls d oe ∧ (∃ vs, oe.data = .fields vs) ∧ h3.get? a = some oe ∧ Inv (X.suite a ((a, oe) :: (X.pn ++ pins))) [] σ H { s' with heap := h3 } := by
  obtain ⟨oe, vs, he, hz, hd⟩ := g.fl.there
  obtain ⟨n1, n2⟩ := g.apart hf
  exact ⟨oe, hz, ⟨vs, hd⟩, he, g.here.suite he hd g.na n1 n2⟩
/-- no clause is left: it goes on outwards -/
theorem Got.out (g : Got X pins σ H sI s' B h3 a cls d) (hs : X.stack = X.env :: X.outer) (hf : X.env.frame = some X.env.locals) (tk : Takes X Wout) (w : Wout cls d σ H) :
    wpAny (model X.prog X.w) X.A (handleBy (.ref a) X.env []) (SP X pins D) X.xe { s' with heap := h3 } := by
  refine wpAny_handleBy_nil ?_
  obtain ⟨_, _, _, oe, vs, T, oT, _, he, _, hd, h1, _⟩ := id g.fl
  unfold PySem.passOn
  refine wpAny_bind (wpAny_field he hd h1 ?_)
  rw [if_neg (by simp : ¬ ((Value.ref T == Value.none) = true))]
  have last : wpAny (model X.prog X.w) X.A (setFlight (.ref a) X.env.frame) (fun _ s4 => wpAny (model X.prog X.w) X.A (throw (.ref a) : Sem Flow) (SP X pins D) X.xe s4) X.xe { s' with heap := h3 } := by
    rw [hf]
    exact HandSPX.setFlight_upZ g.fl fun h4 held u4 => wpAny_throw (tk _ _ ⟨a, B, sI, pins, σ, H, cls, d, rfl, g.inv, g.nb, g.up.trans u4, .inr (.inr (by rw [hs]; exact held)), g.na, g.os, g.ag, w⟩)
  first
    | exact wpAny_bind last
    | exact wpAny_bind (wpAny_pure (wpAny_bind last))
theorem Got.by (hs : X.stack = X.env :: X.outer) (hf : X.env.frame = some X.env.locals) (hN : X.N.Nodup) (ok : X.Ok) (tk : Takes X Wout) {hds : List ExceptHandler} {l : List Cl} (hh : HdsA X hds l) (g : Got X pins σ H sI s' B h3 a cls d) :
    wMA X.K Wout D l cls d σ H → wpAny (model X.prog X.w) X.A (handleBy (.ref a) X.env hds) (SP X pins D) X.xe { s' with heap := h3 } := by
  induction hh with
  | nil => exact fun w => g.out hs hf tk w
  | @cons x n c i ts st sts p1 p2 hs2 l2 hi hl hc hsu r ih =>
    rintro ⟨b, hb, yes, no⟩
    obtain ⟨oe3, hz3, _, he3, S3⟩ := g.suite hf
    refine wpAny_handleBy_cons (codeAny_handlers_test ?_) (by intro q; cases q)
    have looks := PySem.W.exm_one (M := model X.prog X.w) g.here.kIn (fun A Q E s k q => wpAny_typeOf_ref (k _ _ he3) (by rw [hz3.1]; exact q)) hb
    have named : ∀ {Q : Value → Shared → Prop} {E : Value → Shared → Prop}, Q c { s' with heap := h3 } → wpAny (model X.prog X.w) (X.A.mark (some (.ref a))) (eval (.Name x p1) X.env) Q E { s' with heap := h3 } := by
      intro Q E q
      rcases hc with ⟨h1, h2, h3' | ⟨h4, h5, h6⟩⟩
      · exact ld_glob (X := X.suite a ((a, oe3) :: (X.pn ++ pins))) S3 h1 h3' q h2
      · exact ld_blt (X := X.suite a ((a, oe3) :: (X.pn ++ pins))) S3 h1 h4 h5 q h6 h2
    refine named (looks.here ?_)
    cases b with
    | false => exact ih (no rfl)
    | true =>
      refine codeAny_handlers_suite_as ?_
      refine HandSPX.lands_againZ g.fl fun h4 fl4 up4 => ?_
      have g4 : Got X pins σ H sI s' B h4 a cls d := ⟨g.inv, g.nb, g.up.trans up4, fl4, g.na, g.os, g.ag⟩
      obtain ⟨oe4, hz4, hv4, _, S4⟩ := g4.suite hf
      refine store_ok (X := X.suite a ((a, oe4) :: (X.pn ++ pins))) (v := .ref a) S4 hN hi (.inl hl) rfl (fun s5 S5 => ?_) (.inr hl)
      refine wpAny_mono ((hsu a oe4 cls d (X.pn ++ pins) hz4 hv4).run [] s5 _ H _ S5 (yes rfl a g.na)) (fun f s6 hsp => ?_) (fun _ _ z => False.elim z)
      have gone : ∀ {σ6 : L2.St} {H6 : Hp} {Q : Shared → Prop}, Inv (X.suite a ((a, oe4) :: (X.pn ++ pins))) [] σ6 H6 s6 → (∀ s7, Inv X pins (σ6.set i none) H6 s7 → Q s7) →
          wpAny (model X.prog X.w) X.A (do bindName X.env n .none; unbindBehindTheSuite X.env n p2) (fun _ s7 => Q s7) X.xe s6 := fun S6 hq => gone_ok (S6.unsuite ok) hN hi hl hq
      cases f with
      | ret u => obtain ⟨v6, σ6, H6, S6, r6, q6⟩ := hsp; exact gone S6 fun s7 J7 => ⟨_, _, _, J7, r6, q6⟩
      | next => obtain ⟨σ6, H6, S6, q6⟩ := hsp; exact gone S6 fun s7 J7 => ⟨_, _, J7, q6⟩
      | brk => obtain ⟨σ6, H6, S6, q6⟩ := hsp; exact gone S6 fun s7 J7 => ⟨_, _, J7, q6⟩
      | cont => obtain ⟨σ6, H6, S6, q6⟩ := hsp; exact gone S6 fun s7 J7 => ⟨_, _, J7, q6⟩
theorem ps_try_manyA {body : List Stmt} {h₀ : ExceptHandler} {hds : List ExceptHandler} {l : List Cl} {pos : Pos} {tb : WX → TS} (hs : X.stack = X.env :: X.outer) (hf : X.env.frame = some X.env.locals) (hN : X.N.Nodup) (tk : Takes X Wout)
    (hb : ∀ (W : WX) (pn : List (Addr × Obj)) (xe : Value → Shared → Prop), Takes (X.tr pn xe) W → PassesOwn (model X.prog X.w) X.A X.env xe → PSs (X.tr pn xe) body (tb W)) (hh : HdsA X (h₀ :: hds) l) :
    PS X (.Try body (h₀ :: hds) [] [] pos) (fun D σ H => tb (wMA X.K Wout D l) D σ H) := by
  refine ⟨fun pins s σ H D I h => ?_⟩
  have ok := I.ok
  have hfr : X.A.frames = some (X.env :: X.outer) := by rw [ok.frames, hs]
  refine wpAny_Try_except ?_
  let xe' : Value → Shared → Prop := fun e s₁ => wpAny (model X.prog X.w) X.A (noteFrame e X.env) (fun _ s₂ => wpAny (model X.prog X.w) X.A (setFlight e none) (fun _ s₃ => wpAny (model X.prog X.w) X.A (handleBy e X.env (h₀ :: hds)) (SP X pins D) X.xe s₃) X.xe s₂) X.xe s₁
  have take : Takes (X.tr (X.pn ++ pins) xe') (wMA X.K Wout D l) := by
    rintro u s' ⟨a, B, sI, pins', σ', H', cls, d, rfl, J', nb, up, sky, na, os, ag, w⟩
    refine Sky.land Zc.steady hfr hf (show Sky B (X.env :: X.outer) a (Zc cls d) X.env.locals s'.heap by rw [← hs]; exact sky) fun h3 fl3 up3 => ?_
    exact Got.by hs hf hN ok tk hh (Got.mk (J'.ofTry ok) nb (up.trans up3) fl3 na os ag) w
  refine wpAny_mono ((hb _ (X.pn ++ pins) xe' take PassesOwn.looking).run [] s σ H D (I.toTry _) h) (fun f s1 hsp => ?_) (fun e s1 he => he)
  cases f with
  | ret u => obtain ⟨v, σ', H', J', r, q⟩ := hsp; exact ⟨v, σ', H', J'.ofTry ok, r, q⟩
  | next => obtain ⟨σ', H', J', q⟩ := hsp; exact wpAny_execs_nil ⟨σ', H', J'.ofTry ok, q⟩
  | brk => obtain ⟨σ', H', J', q⟩ := hsp; exact ⟨σ', H', J'.ofTry ok, q⟩
  | cont => obtain ⟨σ', H', J', q⟩ := hsp; exact ⟨σ', H', J'.ofTry ok, q⟩
end
end Wn
/-! Wn: isinstance of a caught error, in its suite. -/
namespace Wn
open PySem PySem.Spec PyProof.Rows L2
section
variable {X : Cx} {a : Addr} {oe : Obj} {cls : Value} {d : Option Addr} {pn : List (Addr × Obj)}
def rIsA (K : PySem.W.Frag) (a : Addr) (cls : Value) (d : Option Addr) : List V → Hp → VK → Prop := fun xs H Q => ∃ (D dd : Addr) (fs : List (Str × V)) (c : V) (cv : Value) (b : Bool), xs = [.ref a, c] ∧ cls = .ref D ∧ d = some dd ∧ H dd = some (.xd fs) ∧ ExcC K D ∧ ClsV c cv ∧ PySem.W.kitOne K (.ref D) cv = some b ∧ Q (.bl b) H
def rIsAT (K : PySem.W.Frag) (a : Addr) (cls : Value) (d : Option Addr) : List V → Hp → VK → Prop := fun xs H Q => ∃ (D dd : Addr) (fs : List (Str × V)) (tp : Addr) (cs : List V) (us : List Value) (b : Bool), xs = [.ref a, .ref tp] ∧ cls = .ref D ∧ d = some dd ∧ H dd = some (.xd fs) ∧ ExcC K D ∧
  H tp = some (.tup cs) ∧ Paired ClsV cs us ∧ PySem.W.kitAny K (.ref D) us = some b ∧ Q (.bl b) H
theorem caught_at {pins : List (Addr × Obj)} {σ : L2.St} {H : Hp} {s : Shared} {D dd : Addr} {fs : List (Str × V)} (hz : Zc (.ref D) (some dd) oe) (hf : ∃ vs, oe.data = .fields vs) (I : Inv (X.suite a ((a, oe) :: pn)) pins σ H s) (e : H dd = some (.xd fs)) :
    ∃ od, PySem.W.InstAt s.heap a oe D (some od) := by
  obtain ⟨ha, _⟩ := I.pin (a, oe) (List.mem_append_left _ List.mem_cons_self)
  obtain ⟨vs, hd⟩ := hf
  obtain ⟨mA, hns, hr⟩ := (I.hok dd _ e : ObjOk _ _ H s.heap dd (.xd fs))
  obtain ⟨od, ho, hl⟩ := lookIn_ns hns
  exact ⟨od, ha, hz.1, by unfold PySem.W.notCls; rw [hd] <;> rfl, by rw [hz.2]; exact ho⟩
theorem call_isA {K : PySem.W.Frag} (eK : X.K = K) (hz : Zc cls d oe) (hf : ∃ vs, oe.data = .fields vs) : CallR (X.suite a ((a, oe) :: pn)) (.builtin "isinstance") (rIsA K a cls d) := by
  subst eK
  intro pins s σ H xs us Q I r h
  obtain ⟨D, dd, fs, c, cv, b, rfl, rfl, rfl, ed, T, hc, e, q⟩ := h
  obtain ⟨u1, u2, rfl, r1, r2⟩ := vals2 r
  cases (show u1 = Value.ref a from r1)
  have e2 := hc.eq r2
  subst e2
  obtain ⟨od, J⟩ := caught_at hz hf I ed
  exact PySem.W.kia_one (xkit (x := a) (ox := oe) (od := some od) T) I.kIn J e (fun z => nomatch z) fun tk => ⟨.bl b, H, I.tok tk, rfl, q⟩
theorem call_isAT {K : PySem.W.Frag} (eK : X.K = K) (hz : Zc cls d oe) (hf : ∃ vs, oe.data = .fields vs) : CallR (X.suite a ((a, oe) :: pn)) (.builtin "isinstance") (rIsAT K a cls d) := by
  subst eK
  intro pins s σ H xs us Q I r h
  obtain ⟨D, dd, fs, tp, cs, ws, b, rfl, rfl, rfl, ed, T, hT, k, e, q⟩ := h
  obtain ⟨u1, u2, rfl, r1, r2⟩ := vals2 r
  cases (show u1 = Value.ref a from r1)
  cases (show u2 = Value.ref tp from r2)
  obtain ⟨od, J⟩ := caught_at hz hf I ed
  obtain ⟨_, its, rv, ⟨oc, od', dt, sl⟩, at', kind, n, body⟩ := (I.hok tp _ hT : ObjOk _ _ H s.heap tp (.tup cs))
  have same := ClsV.all k rv
  subst same
  dsimp only at kind body
  subst kind body
  exact PySem.W.kia_tup (xkit (x := a) (ox := oe) (od := some od) T) I.kIn J at' e (fun z => nomatch z) fun tk => ⟨.bl b, H, I.tok tk, rfl, q⟩
section
variable {σ : L2.St} {H : Hp} {Q : VK} {K : PySem.W.Frag}
theorem r_isA {D dd : Addr} {fs : List (Str × V)} {c : V} {cv : Value} {b : Bool} (ed : H dd = some (.xd fs)) (T : ExcC K D) (hc : ClsV c cv) (e : PySem.W.kitOne K (.ref D) cv = some b) (q : Q (.bl b) H) : rIsA K a (.ref D) (some dd) [.ref a, c] H Q := ⟨D, dd, fs, c, cv, b, rfl, rfl, rfl, ed, T, hc, e, q⟩
theorem r_isAT {D dd tp : Addr} {fs : List (Str × V)} {cs : List V} {us : List Value} {b : Bool} (ed : H dd = some (.xd fs)) (T : ExcC K D) (ht : H tp = some (.tup cs)) (k : Paired ClsV cs us) (e : PySem.W.kitAny K (.ref D) us = some b) (q : Q (.bl b) H) : rIsAT K a (.ref D) (some dd) [.ref a, .ref tp] H Q := ⟨D, dd, fs, tp, cs, us, b, rfl, rfl, rfl, ed, T, ht, k, e, q⟩
theorem r_xfv {C dd : Addr} {f : Str} {fs : List (Str × V)} {v : V} {i : Nat} (hσ : σ[i]? = some (some (.ref a))) (ed : H dd = some (.xd fs)) (l : fs.lookup f = some v) (q : Q v H) : tXf a (.ref C) (some dd) C f (tVar i) σ H Q := ⟨.ref a, hσ, rfl, rfl, dd, fs, v, rfl, ed, l, q⟩
theorem r_calls {sp : Sp} {E : L2.St → XK} {t : TA} (h : t σ H fun vs H1 => sp vs H1 Q (E σ)) : tCallS sp E t σ H Q := h
theorem look1 {f : Str} {v : V} : List.lookup f [(f, v)] = some v := by simp [List.lookup]
end
end
end Wn
/-! Wn: tuple * 1 is the tuple itself. -/
namespace Wn
open PySem PySem.Spec PyProof.Rows L2
theorem mul_one_tup (l : Addr) (items : Array Value) (n : Nat) (dd : Option Addr) (sl : Array (Option Value)) (u : Tok) (ne : items.isEmpty = false) :
    Meets (Builtin.«tuple.__mul__» ⟨[.ref l, .int 1 u], []⟩) (fun _ R s => s.heap.get? l = some { cls := .type "tuple", dict := dd, data := .seq items n, slots := sl } ∧ R (.ok (.ret (Value.ref l))) s) :=
  .of_wp fun prog w A R s h => by
    obtain ⟨hp, g, d, tk, os⟩ := s
    obtain ⟨hl, h⟩ := h
    have f1 := AutoSeq1.idx_int
    have c1 : (items.isEmpty || (1 : Int) == 1) = true := by rw [ne]; rfl
    wp_walk using wpAny_loadPart' hl
    repeat (first
      | (refine wpAny_ite_false (decide_eq_false (by decide)) ?_; wp_walk using wpAny_loadPart' hl)
      | (refine wpAny_ite_true (by rw [c1]; rfl) ?_; wp_walk using wpAny_loadPart' hl))
    exact ⟨_, rfl, h⟩
def rMul1 (K : PySem.W.Frag) : R2 := fun x y H Q => ∃ l xs, x = .ref l ∧ y = .int 1 ∧ SqT K H l xs ∧ xs ≠ [] ∧ Q (.ref l) H
theorem op_mul1 {X : Cx} : OpR X (binaryOp .Mult) (rMul1 X.K) := by
  intro pins s σ H x y v u Q I rx ry h
  obtain ⟨l, xs, rfl, rfl, hT, hne, q⟩ := h
  cases rx
  obtain ⟨t, rfl⟩ := ry
  obtain ⟨its, r, ⟨⟨cls, dd, data, sl⟩, ho, hc, n, hd⟩, _⟩ := I.tuple hT
  dsimp only at hc hd
  subst hc hd
  have filled : its.toArray.isEmpty = false := by
    cases its with
    | cons a b => rfl
    | nil => exact absurd (List.eq_nil_of_length_eq_zero r.length) hne
  exact wpAny_binaryOp_repeat_ref (T := "tuple") (U := "int") (by decide) ⟨_, ho, rfl⟩ (fun s' => typeIs_int s' 1 t) noFill_tuple_mul F.fills_int_mul F.slot_int_rmul repeat_tuple F.slot_int_index.lookup
    (call_meets F.slot_int_rmul (typeIs_int s 1 t) F.entry_int_rmul (F.args_int_rmul_2 _ _) (int_rmul_tuple 1 t l its.toArray n dd sl)
      ⟨ho, rfl, ⟨_, ho, rfl⟩, call_meets F.slot_tuple_mul ⟨_, ho, rfl⟩ F.entry_tuple_mul (F.args_tuple_mul_2 _ _) (mul_one_tup l its.toArray n dd sl t filled) ⟨ho, .ref l, H, I, rfl, q⟩⟩)
/-- tuple * int, the int 1 or more -/
def rMulT (K : PySem.W.Frag) : R2 := fun x y H Q => rMul1 K x y H Q ∨ rRepT K x y H Q
theorem op_mulTK {X : Cx} {K : PySem.W.Frag} (e : X.K = K) : OpR X (binaryOp .Mult) (rMulT K) := by
  subst e
  exact op_mul1.or op_repT
theorem r_mulT {K : PySem.W.Frag} {H : Hp} {Q : VK} {l : Addr} {v : V} {k : Nat} (h : SqT K H l [v]) (k1 : 1 ≤ k) (k2 : k ≤ 1000) (q : ∀ p H', Same H H' → SqT K H' p (List.replicate k v) → Q (.ref p) H') : rMulT K (.ref l) (.int (k : Int)) H Q := by
  by_cases e : k = 1
  · subst e
    exact .inl ⟨l, [v], rfl, rfl, h, by simp, q l H (Same.refl _) h⟩
  · refine .inr ⟨l, k, [v], rfl, rfl, h, by simp, by omega, by omega, by show 1 ≤ 1000; decide, fun p np => q p _ (same_new np) (.inl (.inl ?_))⟩
    rw [upd_same, Int.toNat_natCast, List.flatten_replicate_singleton]
theorem pg_unlK {X : Cx} {K : PySem.W.Frag} {es : List Expr} {k n : Nat} {t : TGs} {pos : Pos} (e : X.K = K) (hc : X.calm = true) (h : PGs X es t)
    (hn : (assignEach es X.env).length = n := by rfl) (hst : (assignEach es X.env).findIdx? (·.1) = none := by rfl) : PG X (.Tuple es k pos) (gUnl K n t) := by subst e; exact pg_unl hc h hn hst
theorem r_gunl {σ : L2.St} {H : Hp} {K : PySem.W.Frag} {Q : L2.St → Hp → Prop} {n : Nat} {t : TGs} {a : Addr} {xs : List V} (e : SqL K H a xs) (hl : xs.length = n) (h : t xs σ H Q) : gUnl K n t (.ref a) σ H Q := ⟨a, xs, rfl, e, hl, h⟩
def rListT (K : PySem.W.Frag) : List V → Hp → VK → Prop := fun xs H Q => ∃ p ys, xs = [.ref p] ∧ (SqL K H p ys ∨ SqT K H p ys) ∧ ∀ l, H l = none → Q (.ref l) (upd H l (.lst ys))
theorem call_listTK {X : Cx} {K : PySem.W.Frag} (e : X.K = K) : CallR X (.type "list") (rListT K) := by subst e; exact call_list_of
end Wn
local macro_rules | `(tactic| walk_at "hs") => `(tactic| (first | exact ⟨_, L2.upd_same⟩ | exact ⟨_, by assumption⟩ | (refine Wn.has_ne ?_ ?_; (focus (walk_at "ne")); walk_at "hs")))
local macro_rules | `(tactic| walk_at "ne") => `(tactic| (first | assumption | (refine Ne.symm ?_; assumption) | (refine Wn.ne_ex ?_ (by assumption); walk_at "hs") | (refine Ne.symm ?_; refine Wn.ne_ex ?_ (by assumption); walk_at "hs")))
local macro_rules | `(tactic| walk_at "lk") => `(tactic| with_unfolding_all (first | assumption | exact L2.upd_same | (refine Wn.lk_ne ?_ ?_; (focus (walk_at "ne")); walk_at "lk") ))
local macro_rules | `(tactic| walk_at "sm") => `(tactic| (first | exact L2.Same.refl _ | assumption | (refine Wn.same_upd ?_ ?_; (focus (walk_at "sm")); assumption)))
local macro_rules | `(tactic| walk_at "sc") => `(tactic| with_unfolding_all (first | exact .inl ⟨by decide, by decide⟩ | exact .inr ⟨by decide, by decide⟩ | (show (0:Int) < _; first | decide | omega) | (constructor <;> first | decide | omega) | (refine ⟨?_, ?_, ?_⟩ <;> decide) | exact .inl ⟨by omega, by omega⟩ | exact .inr ⟨by omega, by omega⟩))
local macro_rules | `(tactic| walk_at "go1") => `(tactic| (first
  | (with_reducible apply L2.iteT)
  | (with_reducible apply L2.iteF)
  | (with_reducible apply Wn.r_seq)
  | (with_reducible apply Wn.r_asg)
  | (with_reducible apply Wn.r_op)
  | (with_reducible apply Wn.r_un)
  | (with_reducible apply Wn.r_c)
  | (with_reducible apply Wn.r_test)
  | (with_reducible apply Wn.r_tb)
  | (with_reducible apply Wn.r_bl)
  | (with_reducible apply Wn.r_ifs)
  | (with_reducible apply Wn.r_ifj)
  | (with_reducible apply Wn.r_yes)
  | (with_reducible apply Wn.r_lst)
  | (with_reducible apply Wn.r_tup)
  | (with_reducible apply Wn.r_ret)
  | (with_reducible apply Wn.r_next)
  | (with_reducible apply Wn.r_drop)
  | (with_reducible apply Wn.r_nil)
  | (with_reducible apply Wn.r_cons)
  | (with_reducible apply Wn.r_cb)
  | (with_reducible apply Wn.r_gsub)
  | (with_reducible apply Wn.r_I0)
  | (with_reducible apply Wn.r_int1)
  | (with_reducible apply Wn.r_call)
  | (with_reducible apply Wn.r_andr)
  | (with_reducible apply Wn.r_andv)
  | (with_reducible apply Wn.r_orv)
  | (with_reducible apply Wn.r_notv)
  | (with_reducible apply Wn.r_and)
  | (with_reducible apply Wn.r_or)
  | (with_reducible apply Wn.r_not)
  | (with_reducible apply Wn.r_ife)
  | ((with_reducible apply Wn.r_wipe); (focus ((with_unfolding_all exact rfl); done)))
  | ((with_reducible apply Wn.ite_t); (focus ((with_unfolding_all first | decide | exact decide_eq_true rfl | exact Wn.nd_t (Wn.clash_ne rfl) | fail); done)))
  | ((with_reducible apply Wn.ite_f); (focus ((with_unfolding_all first | decide | exact decide_eq_false (Wn.clash_ne rfl) | exact Wn.nd_f rfl | fail); done)))
  | ((with_reducible apply Wn.r_lens); (focus ((first | exact Or.inl (by assumption) | exact Or.inr (by assumption) | exact Or.inl (L2.SqL.of (by walk_at "lk")) | exact Or.inr (L2.SqT.of (by walk_at "lk")) | fail); done)))
  | ((with_reducible apply (Wn.r_isTup (b := true))); (focus ((first | assumption | fail); done)); (focus ((with_unfolding_all first | exact rfl | fail); done)))
  | ((with_reducible apply (Wn.r_isTup (b := false))); (focus ((first | assumption | fail); done)); (focus ((with_unfolding_all first | exact rfl | fail); done)))
  | ((with_reducible apply (Wn.r_isLst (b := true))); (focus ((first | assumption | fail); done)); (focus ((with_unfolding_all first | exact rfl | fail); done)))
  | ((with_reducible apply (Wn.r_isLst (b := false))); (focus ((first | assumption | fail); done)); (focus ((with_unfolding_all first | exact rfl | fail); done)))
  | ((with_reducible apply (Wn.r_isBl (b := true))); (focus ((first | assumption | fail); done)); (focus ((with_unfolding_all first | exact rfl | fail); done)))
  | ((with_reducible apply (Wn.r_isBl (b := false))); (focus ((first | assumption | fail); done)); (focus ((with_unfolding_all first | exact rfl | fail); done)))
  | ((with_reducible apply (Wn.r_isIn (b := true))); (focus ((first | assumption | fail); done)); (focus ((with_unfolding_all first | exact rfl | fail); done)))
  | ((with_reducible apply (Wn.r_isIn (b := false))); (focus ((first | assumption | fail); done)); (focus ((with_unfolding_all first | exact rfl | fail); done)))
  | ((with_reducible apply (Wn.r_isSt (b := true))); (focus ((first | assumption | fail); done)); (focus ((with_unfolding_all first | exact rfl | fail); done)))
  | ((with_reducible apply (Wn.r_isSt (b := false))); (focus ((first | assumption | fail); done)); (focus ((with_unfolding_all first | exact rfl | fail); done)))
  | ((with_reducible apply Wn.r_sz); (focus ((with_unfolding_all first | (simp only [List.length_cons, List.length_nil]; decide) | fail); done)))
  | ((with_reducible apply Wn.r_var); (focus ((with_unfolding_all exact rfl); done)))
  | ((with_reducible apply Wn.r_gname); (focus ((with_unfolding_all exact rfl); done)))
  | ((with_reducible apply Wn.r_ix); (focus (walk_at "lk"; done)); (focus ((with_unfolding_all exact rfl); done)))
  | ((with_reducible apply Wn.r_ixt); (focus (walk_at "lk"; done)); (focus ((with_unfolding_all exact rfl); done)))
  | ((with_reducible apply Wn.r_lenl); (focus (walk_at "lk"; done)))
  | ((with_reducible apply Wn.r_lent); (focus (walk_at "lk"; done)))
  | ((with_reducible apply Wn.r_setl); (focus (walk_at "lk"; done)); (focus ((with_unfolding_all exact rfl); done)); (focus ((dsimp only [Int.reduceToNat, List.set]; try exact rfl); done)))
  | ((with_reducible apply Wn.r_eq); (focus ((with_unfolding_all exact rfl); done)))
  | ((with_reducible apply Wn.r_ne); (focus ((with_unfolding_all exact rfl); done)))
  | ((with_reducible apply Wn.r_I); (focus (walk_at "sc"; done)))))
local macro_rules | `(tactic| walk_at "go") => `(tactic| repeat (walk_at "go1"))


namespace Wn
open PySem PySem.Spec PyProof.Rows L2
def top (i : Nat) : Stmt := PySem.Challenge.pw_wrongshown_k05_truth_refusals.main.body.getD i (.Pass ⟨0, 0, 0, 0⟩)
abbrev sMix : Stmt := top 29
abbrev sBox : Stmt := top 30
abbrev sDraw : Stmt := top 31
abbrev sSame : Stmt := top 32
theorem scMix : FnScope ["_law_value", "_law_k", "_law_number"] ["_law_value", "_law_k"] (defScope sMix) := ⟨rfl, rfl, rfl, by decide +kernel, rfl, by decide +kernel, by decide +kernel⟩
theorem scBox : FnScope ["_law_script", "_law_cell", "_law_cells", "_law_seed"] ["_law_script"] (defScope sBox) := ⟨rfl, rfl, rfl, by decide +kernel, rfl, by decide +kernel, by decide +kernel⟩
theorem scDraw : FnScope ["_law_box_here", "_law_many", "_law_cell", "_law_digit"] ["_law_box_here", "_law_many"] (defScope sDraw) := ⟨rfl, rfl, rfl, by decide +kernel, rfl, by decide +kernel, by decide +kernel⟩
/-! ### promises -/
def spMix : Sp := fun vs H Q _ => ∃ v k : Int, vs = [.int v, .int k] ∧ ∀ r : Int, 0 ≤ r → Q (.int r) H
structure BoxAt (H : Hp) (b c : Addr) : Prop where
  ne : b ≠ c
  ex : ∃ (cs : List Int) (i d sd n : Int), H b = some (.lst [.ref c, .int i, .int d, .int sd, .int n]) ∧ H c = some (.lst (cs.map V.int)) ∧ 0 ≤ i ∧ 0 ≤ d
def spBox (K : PySem.W.Frag) : Sp := fun vs H Q _ => ∃ (a : Addr) (ns : List Int), vs = [.ref a] ∧ SqL K H a (ns.map V.int) ∧ ns.length ≤ 63 ∧
  ∀ H' b c, Same H H' → H b = none → H c = none → BoxAt H' b c → Q (.ref b) H'
def spDraw : Sp := fun vs H Q _ => ∃ (b c : Addr) (m : Int), vs = [.ref b, .int m] ∧ 0 < m ∧ m < 1073741824 ∧ BoxAt H b c ∧
  ∀ (r : Int) (H' : Hp), 0 ≤ r → r < m → (∀ x, x ≠ b → H' x = H x) → BoxAt H' b c → Q (.int r) H'
theorem boxAt_upd {H H0 : Hp} {b c : Addr} {cs : List Int} {i d sd n : Int} (ne : b ≠ c) (hc : H c = some (.lst (cs.map V.int))) (hb : H b = some (.lst [.ref c, .int i, .int d, .int sd, .int n])) (hi : 0 ≤ i) (hd : 0 ≤ d) : BoxAt H b c := ⟨ne, cs, i, d, sd, n, hb, hc, hi, hd⟩
section
variable {P : Program} {w : World} {K : PySem.W.Frag} {mg : Str → Option Value} {base : Heap}
theorem ok_mix {f : Addr} {fd : FuncData} {k : Nat} (F : Fun K "_law_mix" "_law_mix" sMix f fd) (mi : mg "int" = none) : FnOk P w K mg base CX0 (k + 1) f fd ["_law_value", "_law_k"] spMix := by
  refine F.ok scMix (fun vs H Q E h => ?_) (fun cdv A outer s H vs Q E hr h => ?_)
  · obtain ⟨v, k, rfl, _⟩ := h
    rfl
  · obtain ⟨v, k, rfl, q⟩ := h
    refine ⟨_, pss_cons (ps_set (i := 2) scMix.nd rfl (.inl rfl) (pe_op op_mod (pe_op op_mul (pe_op op_add (pe_op op_add (pe_callTy call_intI (by rfl) mi (by decide +kernel) (pa_cons (pv 0) pa_nil)) (pe_op op_mul pe_int (pv 1))) pe_int) pe_int) pe_int))
      (pss_cons (ps_set (i := 2) scMix.nd rfl (.inl rfl) (pe_op op_mod (pe_op op_mul (pv 2) (pe_op op_add (pe_op op_fdiv (pv 2) pe_int) pe_int)) pe_int))
      (pss_one (ps_ret (pe_op op_mod (pe_op op_mul (pv 2) (pe_op op_add (pe_op op_fdiv (pv 2) pe_int) pe_int)) pe_int)))), ?_⟩
    show tSeq _ _ _ [_, _, none] _
    walk_at "go"
    exact q _ (Int.emod_nonneg _ (by decide))
theorem ok_draw {f fM : Addr} {fd fdM : FuncData} (F : Fun K "_law_draw" "_law_draw" sDraw f fd) (FM : Fun K "_law_mix" "_law_mix" sMix fM fdM) (bM : Binds K fdM ["_law_value", "_law_k"] []) (gM : mg "_law_mix" = some (.ref fM))
    (mi : mg "int" = none) (ml : mg "len" = none) : FnOk P w K mg base CX0 2 f fd ["_law_box_here", "_law_many"] spDraw := by
  have GM : FnOk P w K mg base CX0 1 fM fdM ["_law_value", "_law_k"] spMix := ok_mix FM mi
  refine F.ok scDraw (fun vs H Q E h => ?_) (fun cdv A outer s H vs Q E hr h => ?_)
  · obtain ⟨b, c, m, rfl, _⟩ := h
    rfl
  · obtain ⟨b, c, m, rfl, hm, hm2, ⟨hbc, cs, i, d, sd, n, hb, hc, hi, hd⟩, q⟩ := h
    refine ⟨_, pss_cons (ps_asg (pe_op op_add (pe_ix ix_l (pv 0) pe_int (fun _ _ => rfl)) pe_int) (pg_sub (pv 0) pe_int set_list))
      (pss_cons (ps_ifj (PW.pt (pw_and (pt_cmpR op_eq (pe_ix ix_l (pv 0) pe_int (fun _ _ => rfl)) pe_int (nomark _)) (pw_and1 (pt_cmpR op_lt (pe_ix ix_l (pv 0) pe_int (fun _ _ => rfl)) (pe_callB call_lenL (by rfl) ml PySem.boot_len (pa_cons (pe_ix ix_l (pv 0) pe_int (fun _ _ => rfl)) pa_nil)) (nomark _)))))
        (pss_cons (ps_set (i := 2) scDraw.nd rfl (.inl rfl) (pe_ix ix_l (pe_ix ix_l (pv 0) pe_int (fun _ _ => rfl)) (pe_ix ix_l (pv 0) pe_int (fun _ _ => rfl)) (fun _ _ => rfl)))
        (pss_cons (ps_asg (pe_op op_add (pe_ix ix_l (pv 0) pe_int (fun _ _ => rfl)) pe_int) (pg_sub (pv 0) pe_int set_list))
        (pss_cons (ps_if (pt_cmpR op_lt (pv 2) (pe_op op_pow pe_int pe_int) (nomark _))
          (pss_one (ps_ret (pe_op op_mod (pe_callTy call_intI (by rfl) mi (by decide +kernel) (pa_cons (pe_call GM hr (by rfl) gM FM.kp bM .nil pass0 (pa_cons (pv 2) (pa_cons (pe_ix ix_l (pv 0) pe_int (fun _ _ => rfl)) pa_nil))) pa_nil)) (pv 1)))) pss_nil)
        (pss_one (ps_asg (pv 2) (pg_sub (pv 0) pe_int set_list)))))) pss_nil)
      (pss_cons (ps_if (pt_cmpR op_eq (pe_ix ix_l (pv 0) pe_int (fun _ _ => rfl)) pe_int (nomark _))
          (pss_one (ps_ret (pe_op op_mod (pe_callTy call_intI (by rfl) mi (by decide +kernel) (pa_cons (pe_call GM hr (by rfl) gM FM.kp bM .nil pass0 (pa_cons (pe_ix ix_l (pv 0) pe_int (fun _ _ => rfl)) (pa_cons (pe_ix ix_l (pv 0) pe_int (fun _ _ => rfl)) pa_nil))) pa_nil)) (pv 1)))) pss_nil)
      (pss_cons (ps_set (i := 3) scDraw.nd rfl (.inl rfl) (pe_op op_mod (pe_callTy call_intI (by rfl) mi (by decide +kernel) (pa_cons (pe_ix ix_l (pv 0) pe_int (fun _ _ => rfl)) pa_nil)) (pv 1)))
      (pss_cons (ps_asg (pe_op op_fdivN (pe_callTy call_intI (by rfl) mi (by decide +kernel) (pa_cons (pe_ix ix_l (pv 0) pe_int (fun _ _ => rfl)) pa_nil)) (pv 1)) (pg_sub (pv 0) pe_int set_list))
      (pss_one (ps_ret (pv 3))))))), ?_⟩
    show tSeq _ _ _ [_, _, none, none] _
    walk_at "go"
    have fin : ∀ (H' : Hp) (i' d' sd' n' r : Int), 0 ≤ r → (∀ x, x ≠ b → H' x = H x) → H' b = some (.lst [.ref c, .int i', .int d', .int sd', .int n']) → 0 ≤ i' → 0 ≤ d' → Q (.int (r % m)) H' := fun H' i' d' sd' n' r hr0 hx hb' hi' hd' =>
      q _ H' (Int.emod_nonneg _ (by omega)) (Int.emod_lt_of_pos _ hm) hx ⟨hbc, cs, i', d', sd', n', hb', (hx c hbc.symm).trans hc, hi', hd'⟩
    have tail : ∀ (H' : Hp) (i' d' sd' n' : Int) (D : Ends) (c2 : Option V), (∀ x, x ≠ b → H' x = H x) → H' b = some (.lst [.ref c, .int i', .int d', .int sd', .int n']) → 0 ≤ i' → 0 ≤ d' → D.rt = Q →
      tSeq (tIfS (tTest (tOp rEq (tOp rIx' (tVar 0) (tC (V.int 2))) (tC (V.int 0))))
              (tRet (tOp (rI (fun x j => 0 < j) fun i j => V.int (i % j)) (tCB rInt1 (tCons (tCall spMix [] E0 (tCons (tOp rIx' (tVar 0) (tC (V.int 3))) (tCons (tOp rIx' (tVar 0) (tC (V.int 4))) tNil))) tNil)) (tVar 1))) tNext)
        (tSeq (tAsg (tOp (rI (fun x j => 0 < j) fun i j => V.int (i % j)) (tCB rInt1 (tCons (tOp rIx' (tVar 0) (tC (V.int 2))) tNil)) (tVar 1)) (gName 3))
        (tSeq (tAsg (tOp (rI CDivN fun i j => V.int (i.fdiv j)) (tCB rInt1 (tCons (tOp rIx' (tVar 0) (tC (V.int 2))) tNil)) (tVar 1)) (gSub (tVar 0) (tC (V.int 2)) rSetL))
        (tRet (tVar 3)))) D [some (V.ref b), some (V.int m), c2, none] H' := by
      intro H' i' d' sd' n' D c2 hx hb' hi' hd' hD
      walk_at "go"
      first | refine Wn.ifd_int (fun e1 => ?_) (fun e1 => ?_) | refine Wn.ifd (fun e1 => ?_) (fun e1 => ?_)
      · walk_at "go"
        refine ⟨_, _, rfl, fun r hr0 => ?_⟩
        walk_at "go"
        rw [hD]
        exact fin H' i' d' sd' n' r hr0 hx hb' hi' hd'
      · walk_at "go"
        rw [hD]
        refine q _ _ (Int.emod_nonneg _ (by omega)) (Int.emod_lt_of_pos _ hm) (fun x hne => (upd_ne hne).trans (hx x hne)) ⟨hbc, cs, _, _, _, _, upd_same, (upd_ne hbc.symm).trans ((hx c hbc.symm).trans hc), hi', ?_⟩
        rw [Int.fdiv_eq_ediv_of_nonneg _ (by omega)]
        exact Int.ediv_nonneg hd' (by omega)
    first | refine Wn.ifd_int (fun e0 => ?_) (fun e0 => ?_) | refine Wn.ifd (fun e0 => ?_) (fun e0 => ?_)
    · walk_at "go"
      first | refine Wn.ifd_int (fun e1 => ?_) (fun e1 => ?_) | refine Wn.ifd (fun e1 => ?_) (fun e1 => ?_)
      · walk_at "go"
        have e2 : i < (cs.length : Int) := by rw [List.length_map] at e1; exact e1
        obtain ⟨j, rfl⟩ : ∃ j : Nat, i = (j : Int) := ⟨i.toNat, by omega⟩
        have hj : j < cs.length := by omega
        refine r_ix (xs := cs.map V.int) (v := .int cs[j]) (by walk_at "lk") (atI_nat (by rw [List.getElem?_map, List.getElem?_eq_getElem hj]; rfl)) ?_
        generalize cs[j] = z
        walk_at "go"
        first | refine Wn.ifd_int (fun e3 => ?_) (fun e3 => ?_) | refine Wn.ifd (fun e3 => ?_) (fun e3 => ?_)
        · walk_at "go"
          refine ⟨_, _, rfl, fun r hr0 => ?_⟩
          walk_at "go"
          exact fin _ _ _ _ _ _ hr0 (fun x hne => (upd_ne hne).trans (upd_ne hne)) upd_same (by omega) hd
        · walk_at "go"
          have e4 : (1000000000000000000 : Int) ≤ z := by
            have e5 : (10 : Int) ^ (Int.toNat 18) = 1000000000000000000 := by decide
            omega
          refine r_join ?_
          refine tail _ _ _ _ _ { nx := fun _ H' => Q .non H', rt := Q } _ ?_ (by exact upd_same) ?_ ?_ rfl
          · exact fun x hne => (upd_ne hne).trans ((upd_ne hne).trans (upd_ne hne))
          · omega
          · omega
      · walk_at "go"
        refine r_join ?_
        refine tail _ _ _ _ _ { nx := fun _ H' => Q .non H', rt := Q } _ ?_ (by exact upd_same) ?_ ?_ rfl
        · exact fun x hne => upd_ne hne
        · omega
        · omega
    · walk_at "go"
      refine r_join ?_
      refine tail _ _ _ _ _ { nx := fun _ H' => Q .non H', rt := Q } _ ?_ (by exact upd_same) ?_ ?_ rfl
      · exact fun x hne => upd_ne hne
      · omega
      · omega
end
end Wn


namespace Wn
open PySem PySem.Spec PyProof.Rows L2
theorem cut63 {ns : List Int} (h : ns.length ≤ 63) : cutV (ns.map V.int) none (some 63) = ns.map V.int := by
  unfold cutV
  rw [show HT.sIx (ns.map V.int).length (ns.map V.int).length (some 63) = min 63 (ns.map V.int).length from HT.sIx_nat _ _ 63, HT.sIx_none]
  rw [List.drop_zero, Nat.sub_zero, List.length_map, Nat.min_eq_right h]
  exact List.take_of_length_le (by rw [List.length_map]; exact Nat.le_refl _)
theorem small63 {n : Nat} (h : n ≤ 63) : n < sizeLine := Nat.lt_of_le_of_lt h (by decide)
section
variable {P : Program} {w : World} {K : PySem.W.Frag} {mg : Str → Option Value} {base : Heap}
theorem ok_box {f fM : Addr} {fd fdM : FuncData} (F : Fun K "_law_box" "_law_box" sBox f fd) (FM : Fun K "_law_mix" "_law_mix" sMix fM fdM) (bM : Binds K fdM ["_law_value", "_law_k"] []) (gM : mg "_law_mix" = some (.ref fM))
    (mi : mg "int" = none) : FnOk P w K mg base CX0 2 f fd ["_law_script"] (spBox K) := by
  have GM : FnOk P w K mg base CX0 1 fM fdM ["_law_value", "_law_k"] spMix := ok_mix FM mi
  refine F.ok scBox (fun vs H Q E h => ?_) (fun cdv A outer s H vs Q E hr h => ?_)
  · obtain ⟨a, ns, rfl, _⟩ := h
    rfl
  · obtain ⟨a, ns, rfl, hS, h63, q⟩ := h
    refine ⟨_, pss_cons (ps_setLc (i := 2) (own := [("_law_cell", 1)]) (g := gName 1) (tt := tYes) rfl scBox.nd rfl rfl (sw_true rfl rfl rfl (by decide +kernel)) (pi_list (pe_slice sl_list (pv 0) po_none (po_some pe_int))) (blkOk_by (N := ["_law_script", "_law_cell", "_law_cells", "_law_seed"]) (sc := defScope sBox) (by decide +kernel)) (fun _ _ _ _ _ => pg_name (i := 1) scBox.nd rfl (Or.inl rfl)) (fun _ _ _ _ _ => pts_nil) (fun _ _ _ _ _ => pe_callTy call_intI (by rfl) mi (by decide +kernel) (pa_cons (pv 1) pa_nil)))
      (pss_cons (ps_set (i := 3) scBox.nd rfl (.inl rfl) pe_int)
      (pss_cons (ps_for PassesOwn.never rfl (pi_list (pv 2)) (pg_name (i := 1) scBox.nd rfl (.inl rfl)) (pss_one (ps_set (i := 3) scBox.nd rfl (.inl rfl) (pe_call GM hr (by rfl) gM FM.kp bM .nil pass0 (pa_cons (pe_op op_add (pv 3) (pv 1)) (pa_cons pe_int pa_nil))))))
      (pss_one (ps_ret (pe_lst (pa_cons (pv 2) (pa_cons pe_int (pa_cons pe_int (pa_cons (pv 3) (pa_cons pe_int pa_nil)))))))))), ?_⟩
    show tSeq _ _ _ [_, none, none, none] _
    walk_at "go"
    refine ⟨.ref a, rfl, 63, rfl, a, ns.map V.int, rfl, hS, fun c0 n0 => ?_⟩
    rw [cut63 h63]
    have s0 : Same H (upd H c0 (.lst (ns.map V.int))) := fun b o e => (upd_ne (ne_of_none e n0)).trans e
    generalize hH1 : upd H c0 (.lst (ns.map V.int)) = H1
    rw [hH1] at s0
    have e0 : H1 c0 = some (.lst (ns.map V.int)) := by rw [← hH1]; exact upd_same
    refine ⟨c0, rfl, ⟨_, .inl (.inl e0)⟩, fun D nD => ?_⟩
    refine lc_list (K := K) (a := c0) (xs := ns.map V.int) (fun i H' => Same H1 H' ∧ H' D = some (.lst ((ns.take i).map V.int))) ⟨fun b o e => (upd_ne (ne_of_none e nD)).trans e, upd_same⟩ (fun i H' _ h => h.1.seq (.inl (.inl e0))) ?_ ?_
    · rintro i x H' hi ⟨sm, hD⟩
      obtain ⟨z, hz, rfl⟩ := map_at hi
      walk_at "go"
      refine ⟨_, hD, ?_, fun b o e => ?_, ?_⟩
      · rw [List.length_map, List.length_take]
        exact small63 (by omega)
      · exact (upd_ne (ne_of_none e nD)).trans (sm _ _ e)
      · rw [upd_same, take_at hz, List.map_append]
        rfl
    · rintro H2 ⟨sm, hD⟩
      rw [List.length_map, List.take_length] at hD
      walk_at "go"
      refine ⟨_, rfl, D, rfl, ⟨_, .inl (.inl hD)⟩, for_list (K := K) (a := D) (xs := ns.map V.int) (fun i σ H' => H' = H2 ∧ ∃ (c : Option V) (sd : Int), σ = [some (.ref a), c, some (.ref D), some (.int sd)]) ⟨rfl, _, _, rfl⟩ (fun i σ H' _ h => by rw [h.1]; exact .inl (.inl hD)) ?_ ?_⟩
      · rintro i x σ H' hi ⟨rfl, c, sd, rfl⟩
        obtain ⟨z, hz, rfl⟩ := map_at hi
        walk_at "go"
        refine ⟨_, _, rfl, fun r _ => ?_⟩
        walk_at "go"
        exact ⟨_, _, rfl⟩
      · rintro σ H' ⟨rfl, c, sd, rfl⟩
        walk_at "go"
        intro p np
        have hne : p ≠ D := fun e => by rw [e, hD] at np; cases np
        refine q _ p D (fun b o e => (upd_ne (ne_of_none (sm _ _ (s0 _ _ e)) np)).trans (sm _ _ (s0 _ _ e))) ((s0.trans sm).free np) (s0.free nD) ⟨hne, ns, 0, 0, sd, 0, upd_same, (upd_ne hne.symm).trans hD, by decide, by decide⟩
end
end Wn


namespace Wn
open PySem PySem.Spec PyProof.Rows L2
theorem scSame : FnScope ["_law_told_here", "_law_due", "_law_k"] ["_law_told_here", "_law_due"] (defScope sSame) := ⟨rfl, rfl, rfl, by decide +kernel, rfl, by decide +kernel, by decide +kernel⟩
mutual
/-- no list or tuple in it is long; no dict is in it -/
def dsz : PyData → Bool
  | .list xs => decide (xs.length ≤ 100000) && dszAll xs
  | .tuple xs => decide (xs.length ≤ 100000) && dszAll xs
  | .dict _ => false
  | _ => true
def dszAll : List PyData → Bool
  | [] => true
  | x :: xs => dsz x && dszAll xs
end
theorem dszAll_at : ∀ {ds : List PyData} {i : Nat} {d : PyData}, dszAll ds = true → ds[i]? = some d → dsz d = true
  | [], _, _, _, e => by simp at e
  | x :: xs, 0, d, h, e => by
    simp at e; subst e
    unfold dszAll at h
    exact (Bool.and_eq_true_iff.mp h).1
  | x :: xs, i + 1, d, h, e => by
    unfold dszAll at h
    exact dszAll_at (i := i) (Bool.and_eq_true_iff.mp h).2 (by simpa using e)
theorem depthAll_at : ∀ {ds : List PyData} {i : Nat} {d : PyData}, ds[i]? = some d → d.depth ≤ PyData.depthAll ds
  | [], _, _, e => by simp at e
  | x :: xs, 0, d, e => by
    simp at e; subst e
    unfold PyData.depthAll
    exact Nat.le_max_left _ _
  | x :: xs, i + 1, d, e => by
    unfold PyData.depthAll
    exact Nat.le_trans (depthAll_at (i := i) (by simpa using e)) (Nat.le_max_right _ _)
theorem same_sqT {K : PySem.W.Frag} {H H' : Hp} {a : Addr} {xs : List V} (e : Same H H') (h : SqT K H a xs) : SqT K H' a xs := by
  rcases h with (h | ⟨o, h⟩) | h
  · exact .inl (.inl (e _ _ h))
  · exact .inl (.inr ⟨o, e _ _ h⟩)
  · exact .inr h
/-- of depth below n -/
def spSame (K : PySem.W.Frag) (n : Nat) : Sp := fun vs H Q _ => ∃ (x y : V) (d : PyData), vs = [x, y] ∧ Dp K H x d ∧ Dp K H y d ∧ d.depth < n ∧ dsz d = true ∧ ∀ H', Same H H' → Q (.bl true) H'
structure Blt (mg : Str → Option Value) : Prop where
  isi : mg "isinstance" = none
  tuple : mg "tuple" = none
  list : mg "list" = none
  len : mg "len" = none
  all : mg "all" = none
  range : mg "range" = none
  bool : mg "bool" = none
  int : mg "int" = none
  str : mg "str" = none
section
variable {P : Program} {w : World} {K : PySem.W.Frag} {mg : Str → Option Value} {base : Heap}
theorem ok_same {f : Addr} {fd : FuncData} (F : Fun K "_law_same" "_law_same" sSame f fd) (bF : Binds K fd ["_law_told_here", "_law_due"] []) (gF : mg "_law_same" = some (.ref f)) (B : Blt mg) : ∀ n : Nat, FnOk P w K mg base CX0 (n + 1) f fd ["_law_told_here", "_law_due"] (spSame K n) := by
  intro n
  induction n with
  | zero =>
    refine F.ok scSame (fun vs H Q E h => ?_) (fun cdv A outer s H vs Q E hr h => ?_)
    · obtain ⟨x, y, d, rfl, _⟩ := h
      rfl
    · obtain ⟨x, y, d, _, _, _, hd, _⟩ := h
      exact absurd hd (Nat.not_lt_zero _)
  | succ n ih =>
    refine F.ok scSame (fun vs H Q E h => ?_) (fun cdv A outer s H vs Q E hr h => ?_)
    · obtain ⟨x, y, d, rfl, _⟩ := h
      rfl
    · obtain ⟨x, y, d, rfl, hx, hy, hd, hsh, q⟩ := h
      refine ⟨_, pss_cons (ps_if (PW.pt (pw_or (pt_val (pe_callB (call_isiK' (K := K) rfl) (by rfl) B.isi boot_isinstance (pa_cons (pv 1) (pa_cons (pe_bltn (v := .ty "tuple") (by rfl) B.tuple (by decide +kernel) rfl) pa_nil)))) (pw_or1 (pt_val (pe_callB (call_isiK' (K := K) rfl) (by rfl) B.isi boot_isinstance (pa_cons (pv 1) (pa_cons (pe_bltn (v := .ty "list") (by rfl) B.list (by decide +kernel) rfl) pa_nil)))))))
        (pss_cons (ps_if (PW.pt (pw_or (pt_cmpR op_ne (pe_callB (call_isiK' (K := K) rfl) (by rfl) B.isi boot_isinstance (pa_cons (pv 1) (pa_cons (pe_bltn (v := .ty "tuple") (by rfl) B.tuple (by decide +kernel) rfl) pa_nil))) (pe_callB (call_isiK' (K := K) rfl) (by rfl) B.isi boot_isinstance (pa_cons (pv 0) (pa_cons (pe_bltn (v := .ty "tuple") (by rfl) B.tuple (by decide +kernel) rfl) pa_nil))) (nomark _))
            (pw_or1 (pt_cmpR op_ne (pe_callB (call_isiK' (K := K) rfl) (by rfl) B.isi boot_isinstance (pa_cons (pv 1) (pa_cons (pe_bltn (v := .ty "list") (by rfl) B.list (by decide +kernel) rfl) pa_nil))) (pe_callB (call_isiK' (K := K) rfl) (by rfl) B.isi boot_isinstance (pa_cons (pv 0) (pa_cons (pe_bltn (v := .ty "list") (by rfl) B.list (by decide +kernel) rfl) pa_nil))) (nomark _)))))
          (pss_one (ps_ret pe_bl)) pss_nil)
        (pss_cons (ps_if (pt_cmpR op_ne (pe_callB (call_lenK (K := K) rfl) (by rfl) B.len PySem.boot_len (pa_cons (pv 0) pa_nil)) (pe_callB (call_lenK (K := K) rfl) (by rfl) B.len PySem.boot_len (pa_cons (pv 1) pa_nil)) (nomark _)) (pss_one (ps_ret pe_bl)) pss_nil)
        (pss_one (ps_ret (pe_callB (cr_allK (K := K) rfl rfl) (by rfl) B.all boot_all (pa_cons (pe_lc (own := [("_law_k", 2)]) (g := gName 2) (tt := tYes) rfl scSame.nd (pi_range1 (by rfl) B.range (pa_cons (pe_callB (call_lenK (K := K) rfl) (by rfl) B.len PySem.boot_len (pa_cons (pv 1) pa_nil)) pa_nil)) (blkOk_by (N := ["_law_told_here", "_law_due", "_law_k"]) (sc := defScope sSame) (by decide +kernel)) (fun _ _ _ _ _ => pg_name (i := 2) scSame.nd rfl (Or.inl rfl)) (fun _ _ _ _ _ => pts_nil)
          (fun _ _ _ _ _ => pe_call ih hr (by rfl) gF F.kp bF .nil pass0 (pa_cons (pe_ix (ix_aK (K := K) rfl) (pv 0) (pv 2) (fun _ _ => rfl)) (pa_cons (pe_ix (ix_aK (K := K) rfl) (pv 1) (pv 2) (fun _ _ => rfl)) pa_nil)))) pa_nil)))))) pss_nil)
        (pss_cons (ps_if (pt_cmpR op_isN (pv 1) pe_non (nomark _)) (pss_one (ps_ret (pe_cmpR op_isN (pv 0) pe_non (nomark _)))) pss_nil)
        (pss_cons (ps_if (PW.pt (pw_or (pt_val (pe_callB (call_isiK' (K := K) rfl) (by rfl) B.isi boot_isinstance (pa_cons (pv 1) (pa_cons (pe_bltn (v := .ty "bool") (by rfl) B.bool (by decide +kernel) rfl) pa_nil)))) (pw_or1 (pt_val (pe_callB (call_isiK' (K := K) rfl) (by rfl) B.isi boot_isinstance (pa_cons (pv 0) (pa_cons (pe_bltn (v := .ty "bool") (by rfl) B.bool (by decide +kernel) rfl) pa_nil)))))))
          (pss_one (ps_ret (pe_and (pe_callB (call_isiK' (K := K) rfl) (by rfl) B.isi boot_isinstance (pa_cons (pv 1) (pa_cons (pe_bltn (v := .ty "bool") (by rfl) B.bool (by decide +kernel) rfl) pa_nil))) (pe_and (pe_callB (call_isiK' (K := K) rfl) (by rfl) B.isi boot_isinstance (pa_cons (pv 0) (pa_cons (pe_bltn (v := .ty "bool") (by rfl) B.bool (by decide +kernel) rfl) pa_nil))) (pe_one (pe_cmpR op_eq (pv 1) (pv 0) (nomark _))))))) pss_nil)
        (pss_cons (ps_if (pt_val (pe_callB (call_isiK' (K := K) rfl) (by rfl) B.isi boot_isinstance (pa_cons (pv 1) (pa_cons (pe_bltn (v := .ty "int") (by rfl) B.int (by decide +kernel) rfl) pa_nil))))
          (pss_one (ps_ret (pe_and (pe_callB (call_isiK' (K := K) rfl) (by rfl) B.isi boot_isinstance (pa_cons (pv 0) (pa_cons (pe_bltn (v := .ty "int") (by rfl) B.int (by decide +kernel) rfl) pa_nil))) (pe_one (pe_cmpR op_eq (pv 0) (pv 1) (nomark _)))))) pss_nil)
        (pss_one (ps_ret (pe_and (pe_callB (call_isiK' (K := K) rfl) (by rfl) B.isi boot_isinstance (pa_cons (pv 0) (pa_cons (pe_bltn (v := .ty "str") (by rfl) B.str (by decide +kernel) rfl) pa_nil))) (pe_one (pe_cmpR op_eq (pv 0) (pv 1) (nomark _))))))))), ?_⟩
      show tSeq _ _ _ [_, _, none] _
      cases d with
      | none =>
        cases hx; cases hy
        have h1 : Dp K H .non .none := .non
        walk_at "go"
        exact qdec rfl (q _ (Same.refl _))
      | bool b =>
        cases hx; cases hy
        have h1 : Dp K H (.bl b) (.bool b) := .bl b
        walk_at "go"
        exact qdec rfl (q _ (Same.refl _))
      | int i =>
        cases hx; cases hy
        have h1 : Dp K H (.int i) (.int i) := .int i
        walk_at "go"
        exact qdec rfl (q _ (Same.refl _))
      | str x =>
        cases hx; cases hy
        have h1 : Dp K H (.str x) (.str x) := .str x
        walk_at "go"
        exact qdec rfl (q _ (Same.refl _))
      | list ds =>
        have h1 := hx
        have h2 := hy
        cases hx with
        | lst hs1 ha1 =>
        rename_i a1 xs1
        cases hy with
        | lst hs2 ha2 =>
        rename_i a2 xs2
        have l1 := dpAll_len ha1
        have l2 := dpAll_len ha2
        walk_at "go"
        refine ite_f (nd_f (by rw [l1, l2])) ?_
        walk_at "go"
        have hdd : PyData.depthAll ds < n := by
          have h3 : PyData.depthAll ds + 1 < n + 1 := by simpa [PyData.depth] using hd
          omega
        have hsz : ds.length ≤ 100000 ∧ dszAll ds = true := by
          have hsh : (decide (ds.length ≤ 100000) && dszAll ds) = true := by simpa [dsz] using hsh
          exact ⟨of_decide_eq_true (Bool.and_eq_true_iff.mp hsh).1, (Bool.and_eq_true_iff.mp hsh).2⟩
        obtain ⟨hsz, hsa⟩ := hsz
        have hsz2 : 100000 < sizeLine := by decide
        refine ⟨.ref a2, rfl, a2, xs2, rfl, .inl hs2, xs2.length, rfl, by omega, by omega, fun D nD => ?_⟩
        refine lc_range (lo := 0) (n := xs2.length) (fun i H' => Same H H' ∧ H' D = some (.lst ((List.replicate i true).map V.bl))) ⟨same_new nD, upd_same⟩ ?_ ?_
        · rintro i H' hi ⟨sm, hD⟩
          have hi1 : i < xs1.length := by omega
          obtain ⟨d1, e1, p1⟩ := dpAll_at ha1 (List.getElem?_eq_getElem hi1)
          obtain ⟨d2, e2, p2⟩ := dpAll_at ha2 (List.getElem?_eq_getElem hi)
          have e12 : d1 = d2 := Option.some.inj (e1.symm.trans e2)
          subst e12
          have k1 : SqL K H' a1 xs1 ∨ SqT K H' a1 xs1 := .inl (sm.seq hs1)
          have k2 : SqL K H' a2 xs2 ∨ SqT K H' a2 xs2 := .inl (sm.seq hs2)
          walk_at "go"
          refine r_ixa k1 (by rw [Int.zero_add]; exact atI_nat (List.getElem?_eq_getElem hi1)) ?_
          walk_at "go"
          refine r_ixa k2 (by rw [Int.zero_add]; exact atI_nat (List.getElem?_eq_getElem hi)) ?_
          walk_at "go"
          refine ⟨_, _, d1, rfl, dp_mono sm p1, dp_mono sm p2, Nat.lt_of_le_of_lt (depthAll_at e1) hdd, dszAll_at hsa e1, fun H2 s2 => ?_⟩
          refine ⟨_, s2 _ _ hD, ?_, fun b o e => (upd_ne (ne_of_none e nD)).trans (s2 _ _ (sm _ _ e)), ?_⟩
          · rw [List.length_map, List.length_replicate]; omega
          · rw [upd_same, List.replicate_succ', List.map_append]; rfl
        · rintro H' ⟨sm, hD⟩
          walk_at "go"
          refine ⟨D, _, rfl, .inl (.inl hD), ?_⟩
          rw [show (List.replicate xs2.length true).all id = true by simp]
          exact q _ sm
      | tuple ds =>
        have h1 := hx
        have h2 := hy
        cases hx with
        | tup hs1 ha1 =>
        rename_i a1 xs1
        cases hy with
        | tup hs2 ha2 =>
        rename_i a2 xs2
        have l1 := dpAll_len ha1
        have l2 := dpAll_len ha2
        walk_at "go"
        refine ite_f (nd_f (by rw [l1, l2])) ?_
        walk_at "go"
        have hdd : PyData.depthAll ds < n := by
          have h3 : PyData.depthAll ds + 1 < n + 1 := by simpa [PyData.depth] using hd
          omega
        have hsz : ds.length ≤ 100000 ∧ dszAll ds = true := by
          have hsh : (decide (ds.length ≤ 100000) && dszAll ds) = true := by simpa [dsz] using hsh
          exact ⟨of_decide_eq_true (Bool.and_eq_true_iff.mp hsh).1, (Bool.and_eq_true_iff.mp hsh).2⟩
        obtain ⟨hsz, hsa⟩ := hsz
        have hsz2 : 100000 < sizeLine := by decide
        refine ⟨.ref a2, rfl, a2, xs2, rfl, .inr hs2, xs2.length, rfl, by omega, by omega, fun D nD => ?_⟩
        refine lc_range (lo := 0) (n := xs2.length) (fun i H' => Same H H' ∧ H' D = some (.lst ((List.replicate i true).map V.bl))) ⟨same_new nD, upd_same⟩ ?_ ?_
        · rintro i H' hi ⟨sm, hD⟩
          have hi1 : i < xs1.length := by omega
          obtain ⟨d1, e1, p1⟩ := dpAll_at ha1 (List.getElem?_eq_getElem hi1)
          obtain ⟨d2, e2, p2⟩ := dpAll_at ha2 (List.getElem?_eq_getElem hi)
          have e12 : d1 = d2 := Option.some.inj (e1.symm.trans e2)
          subst e12
          have k1 : SqL K H' a1 xs1 ∨ SqT K H' a1 xs1 := .inr (same_sqT sm hs1)
          have k2 : SqL K H' a2 xs2 ∨ SqT K H' a2 xs2 := .inr (same_sqT sm hs2)
          walk_at "go"
          refine r_ixa k1 (by rw [Int.zero_add]; exact atI_nat (List.getElem?_eq_getElem hi1)) ?_
          walk_at "go"
          refine r_ixa k2 (by rw [Int.zero_add]; exact atI_nat (List.getElem?_eq_getElem hi)) ?_
          walk_at "go"
          refine ⟨_, _, d1, rfl, dp_mono sm p1, dp_mono sm p2, Nat.lt_of_le_of_lt (depthAll_at e1) hdd, dszAll_at hsa e1, fun H2 s2 => ?_⟩
          refine ⟨_, s2 _ _ hD, ?_, fun b o e => (upd_ne (ne_of_none e nD)).trans (s2 _ _ (sm _ _ e)), ?_⟩
          · rw [List.length_map, List.length_replicate]; omega
          · rw [upd_same, List.replicate_succ', List.map_append]; rfl
        · rintro H' ⟨sm, hD⟩
          walk_at "go"
          refine ⟨D, _, rfl, .inl (.inl hD), ?_⟩
          rw [show (List.replicate xs2.length true).all id = true by simp]
          exact q _ sm
      | dict ds => cases hx
end
end Wn


namespace Wn
open PySem PySem.Spec PyProof.Rows L2
/-- the heap without b -/
def hid (H : Hp) (b : Addr) : Hp := fun x => if x = b then none else H x
theorem hid_some {H : Hp} {b x : Addr} {o : HO} (e : H x = some o) (ne : x ≠ b) : hid H b x = some o := by unfold hid; rw [if_neg ne]; exact e
theorem hid_same {H : Hp} {b : Addr} : Same (hid H b) H := fun x o e => by
  unfold hid at e
  by_cases h : x = b
  · rw [if_pos h] at e; cases e
  · rw [if_neg h] at e; exact e
theorem hid_but {H H' H0 : Hp} {b : Addr} (s : Same (hid H0 b) H) (h : ∀ x, x ≠ b → H' x = H x) : Same (hid H0 b) H' := fun x o e => by
  have ne : x ≠ b := fun z => by
    unfold hid at e
    rw [if_pos z] at e
    cases e
  rw [h x ne]
  exact s x o e
theorem hid_up {H H' : Hp} {b : Addr} (s : Same H H') : Same (hid H b) H' := hid_same.trans s
theorem hid_hid {H H' H'' : Hp} {b : Addr} (s : Same (hid H b) H') (t : Same (hid H' b) H'') : Same (hid H b) H'' := fun x o e => by
  have ne : x ≠ b := fun z => by
    unfold hid at e
    rw [if_pos z] at e
    cases e
  exact t x o (hid_some (s x o e) ne)
theorem hid_free {H H' : Hp} {b x : Addr} (s : Same (hid H b) H') (n : H' x = none) (ne : x ≠ b) : H x = none := by
  cases e : H x with
  | none => rfl
  | some o =>
    have := s x o (hid_some e ne)
    rw [n] at this
    cases this
theorem hid_seqT {K : PySem.W.Frag} {H : Hp} {b a : Addr} {xs ys : List V} (hb : H b = some (.lst ys)) (h : SqT K H a xs) : SqT K (hid H b) a xs := by
  rcases h with (h | ⟨o, h⟩) | h
  · exact .inl (.inl (hid_some h (ne_of h hb (by intro z; cases z))))
  · exact .inl (.inr ⟨o, hid_some h (ne_of h hb (by intro z; cases z))⟩)
  · exact .inr h
theorem BoxAt.mono {H H' : Hp} {b c : Addr} (x : BoxAt H b c) (s : Same H H') : BoxAt H' b c :=
  let ⟨cs, i, d, sd, n, hb, hc, hi, hd⟩ := x.ex
  ⟨x.ne, cs, i, d, sd, n, s _ _ hb, s _ _ hc, hi, hd⟩
theorem BoxAt.lst {H : Hp} {b c : Addr} (x : BoxAt H b c) : ∃ xs, H b = some (.lst xs) := let ⟨_, _, _, _, _, hb, _⟩ := x.ex; ⟨_, hb⟩
theorem BoxAt.nb {H : Hp} {b c q : Addr} (x : BoxAt H b c) (h : H q = none) : b ≠ q := let ⟨_, e⟩ := x.lst; ne_of_none e h
theorem BoxAt.put {H H1 : Hp} {b c D : Addr} {o : HO} (x : BoxAt H b c) (y : BoxAt H1 b c) (n : H1 D = none) : BoxAt (upd H D o) b c := by
  obtain ⟨ne, cs, i, d, sd, k, hb, hc, hi, hd⟩ := x
  obtain ⟨_, cs', i', d', sd', k', hb', hc', _, _⟩ := y
  exact ⟨ne, cs, i, d, sd, k, (upd_ne (ne_of_none hb' n)).trans hb, (upd_ne (ne_of_none hc' n)).trans hc, hi, hd⟩
theorem hid_put {H H1 : Hp} {b D : Addr} {o : HO} (s : Same (hid H1 b) H) (n : H1 D = none) : Same (hid H1 b) (upd H D o) := fun x u e => (upd_ne (ne_of_none (hid_same _ _ e) n)).trans (s x u e)
end Wn


namespace Wn
open PySem PySem.Spec PyProof.Rows L2
abbrev s_is_name : Stmt := top 15
theorem sc_is_name : FnScope ["value", "letter"] ["value"] (defScope s_is_name) := ⟨rfl, rfl, rfl, by decide +kernel, rfl, by decide +kernel, by decide +kernel⟩
abbrev s_is_whole : Stmt := top 16
theorem sc_is_whole : FnScope ["value", "low", "high"] ["value", "low", "high"] (defScope s_is_whole) := ⟨rfl, rfl, rfl, by decide +kernel, rfl, by decide +kernel, by decide +kernel⟩
abbrev s_has_items : Stmt := top 17
theorem sc_has_items : FnScope ["value", "count"] ["value", "count"] (defScope s_has_items) := ⟨rfl, rfl, rfl, by decide +kernel, rfl, by decide +kernel, by decide +kernel⟩
abbrev s_are_names : Stmt := top 18
theorem sc_are_names : FnScope ["values", "value"] ["values"] (defScope s_are_names) := ⟨rfl, rfl, rfl, by decide +kernel, rfl, by decide +kernel, by decide +kernel⟩
abbrev s_names_of : Stmt := top 21
theorem sc_names_of : FnScope ["fields", "name", "field"] ["fields"] (defScope s_names_of) := ⟨rfl, rfl, rfl, by decide +kernel, rfl, by decide +kernel, by decide +kernel⟩
abbrev s_check_parts : Stmt := top 22
theorem sc_check_parts : FnScope ["words", "fields", "room", "name", "field", "part"] ["words", "fields", "room"] (defScope s_check_parts) := ⟨rfl, rfl, rfl, by decide +kernel, rfl, by decide +kernel, by decide +kernel⟩
abbrev s_are_form_words : Stmt := top 23
theorem sc_are_form_words : FnScope ["value"] ["value"] (defScope s_are_form_words) := ⟨rfl, rfl, rfl, by decide +kernel, rfl, by decide +kernel, by decide +kernel⟩
abbrev s_are_form_fields : Stmt := top 24
theorem sc_are_form_fields : FnScope ["value", "pair", "name", "field"] ["value"] (defScope s_are_form_fields) := ⟨rfl, rfl, rfl, by decide +kernel, rfl, by decide +kernel, by decide +kernel⟩
abbrev s_wrong_part : Stmt := top 25
theorem sc_wrong_part : FnScope ["words", "names", "name", "field", "first", "looks", "near", "far"] ["words", "names", "name", "field"] (defScope s_wrong_part) := ⟨rfl, rfl, rfl, by decide +kernel, rfl, by decide +kernel, by decide +kernel⟩
abbrev s_is_near : Stmt := top 26
theorem sc_is_near : FnScope ["value", "looks", "count", "row"] ["value", "looks", "count"] (defScope s_is_near) := ⟨rfl, rfl, rfl, by decide +kernel, rfl, by decide +kernel, by decide +kernel⟩
abbrev s_is_entry_row : Stmt := top 27
theorem sc_is_entry_row : FnScope ["value", "count", "entry"] ["value", "count"] (defScope s_is_entry_row) := ⟨rfl, rfl, rfl, by decide +kernel, rfl, by decide +kernel, by decide +kernel⟩
abbrev s_check_words : Stmt := top 12
theorem sc_check_words : FnScope ["form", "words", "word"] ["form", "words"] (defScope s_check_words) := ⟨rfl, rfl, rfl, by decide +kernel, rfl, by decide +kernel, by decide +kernel⟩
abbrev s_word_index : Stmt := top 13
theorem sc_word_index : FnScope ["form", "words", "name"] ["form", "words", "name"] (defScope s_word_index) := ⟨rfl, rfl, rfl, by decide +kernel, rfl, by decide +kernel, by decide +kernel⟩
abbrev s_near_entry : Stmt := top 8
theorem sc_near_entry : FnScope ["form", "words", "name", "first", "looks", "near", "far", "entry"] ["form", "words", "name"] (defScope s_near_entry) := ⟨rfl, rfl, rfl, by decide +kernel, rfl, by decide +kernel, by decide +kernel⟩
abbrev s_far_entry : Stmt := top 9
theorem sc_far_entry : FnScope ["form", "name", "word", "first", "looks", "near", "far"] ["form", "name", "word"] (defScope s_far_entry) := ⟨rfl, rfl, rfl, by decide +kernel, rfl, by decide +kernel, by decide +kernel⟩
abbrev s_true_error : Stmt := top 10
theorem sc_true_error : FnScope ["form", "words", "name", "entry"] ["form", "words", "name"] (defScope s_true_error) := ⟨rfl, rfl, rfl, by decide +kernel, rfl, by decide +kernel, by decide +kernel⟩
abbrev s_true_errors : Stmt := top 11
theorem sc_true_errors : FnScope ["form", "words", "name"] ["form", "words"] (defScope s_true_errors) := ⟨rfl, rfl, rfl, by decide +kernel, rfl, by decide +kernel, by decide +kernel⟩
abbrev s_Form_init : Stmt := inClass (top 20) 0
theorem sc_Form_init : FnScope ["self", "words", "fields", "room"] ["self", "words", "fields", "room"] (defScope s_Form_init) := ⟨rfl, rfl, rfl, by decide +kernel, rfl, by decide +kernel, by decide +kernel⟩
abbrev s_Form_field_names : Stmt := inClass (top 20) 2
theorem sc_Form_field_names : FnScope ["self"] ["self"] (defScope s_Form_field_names) := ⟨rfl, rfl, rfl, by decide +kernel, rfl, by decide +kernel, by decide +kernel⟩
abbrev s_Form_parts_of : Stmt := inClass (top 20) 3
theorem sc_Form_parts_of : FnScope ["self", "name", "own", "field"] ["self", "name"] (defScope s_Form_parts_of) := ⟨rfl, rfl, rfl, by decide +kernel, rfl, by decide +kernel, by decide +kernel⟩
abbrev s_InvalidWords_init : Stmt := inClass (top 4) 0
theorem sc_InvalidWords_init : FnScope ["self", "words"] ["self", "words"] (defScope s_InvalidWords_init) := ⟨rfl, rfl, rfl, by decide +kernel, rfl, by decide +kernel, by decide +kernel⟩
abbrev s_UnknownField_init : Stmt := inClass (top 5) 0
theorem sc_UnknownField_init : FnScope ["self", "field"] ["self", "field"] (defScope s_UnknownField_init) := ⟨rfl, rfl, rfl, by decide +kernel, rfl, by decide +kernel, by decide +kernel⟩
abbrev s_UnknownWord_init : Stmt := inClass (top 6) 0
theorem sc_UnknownWord_init : FnScope ["self", "word"] ["self", "word"] (defScope s_UnknownWord_init) := ⟨rfl, rfl, rfl, by decide +kernel, rfl, by decide +kernel, by decide +kernel⟩
abbrev s_L_names : Stmt := top 33
theorem sc_L_names : FnScope ["_law_box_here", "_law_many", "_law_names_here", "_law_k", "_law_word", "_law_at", "_law_free", "_law_sign"] ["_law_box_here", "_law_many"] (defScope s_L_names) := ⟨rfl, rfl, rfl, by decide +kernel, rfl, by decide +kernel, by decide +kernel⟩
abbrev s_L_entries : Stmt := top 34
theorem sc_L_entries : FnScope ["_law_box_here", "_law_notes", "_law_size", "_law_menu", "_law_k"] ["_law_box_here", "_law_notes", "_law_size"] (defScope s_L_entries) := ⟨rfl, rfl, rfl, by decide +kernel, rfl, by decide +kernel, by decide +kernel⟩
abbrev s_L_field : Stmt := top 35
theorem sc_L_field : FnScope ["_law_box_here", "_law_words", "_law_names_here", "_law_name", "_law_notes", "_law_first", "_law_others", "_law_other", "_law_looks", "_law_near", "_law_word", "_law_far"] ["_law_box_here", "_law_words", "_law_names_here", "_law_name", "_law_notes"] (defScope s_L_field) := ⟨rfl, rfl, rfl, by decide +kernel, rfl, by decide +kernel, by decide +kernel⟩
abbrev s_L_parts : Stmt := top 36
theorem sc_L_parts : FnScope ["_law_box_here", "_law_size", "_law_words", "_law_names_here", "_law_notes", "_law_fields", "_law_name"] ["_law_box_here"] (defScope s_L_parts) := ⟨rfl, rfl, rfl, by decide +kernel, rfl, by decide +kernel, by decide +kernel⟩
abbrev s_L_told : Stmt := top 37
theorem sc_L_told : FnScope ["_law_form", "_law_which", "_law_words", "_law_name", "_law_word", "error"] ["_law_form", "_law_which", "_law_words", "_law_name", "_law_word"] (defScope s_L_told) := ⟨rfl, rfl, rfl, by decide +kernel, rfl, by decide +kernel, by decide +kernel⟩
abbrev s_L_are_words : Stmt := top 38
theorem sc_L_are_words : FnScope ["_law_value", "_law_words", "_law_many", "_law_item"] ["_law_value", "_law_words", "_law_many"] (defScope s_L_are_words) := ⟨rfl, rfl, rfl, by decide +kernel, rfl, by decide +kernel, by decide +kernel⟩
abbrev s_law : Stmt := top 39
theorem sc_law : FnScope ["_law_script", "_law_box_here", "_law_picks", "_law_k", "_law_parts_here", "_law_form", "_law_names_here", "_law_pair", "_law_first", "_law_second", "_law_third", "_law_words", "_law_name", "_law_word", "_law_which", "_law_bad", "_law_due"] ["_law_script"] (defScope s_law) := ⟨rfl, rfl, rfl, by decide +kernel, rfl, by decide +kernel, by decide +kernel⟩
structure Txt (K : PySem.W.Frag) (mg : Str → Option Value) where
  B : Blt mg
  set : mg "set" = none
  f_is_name : Addr
  d_is_name : FuncData
  F_is_name : Fun K "is_name" "is_name" s_is_name f_is_name d_is_name
  b_is_name : Binds K d_is_name ["value"] []
  g_is_name : mg "is_name" = some (.ref f_is_name)
  f_is_whole : Addr
  d_is_whole : FuncData
  F_is_whole : Fun K "is_whole" "is_whole" s_is_whole f_is_whole d_is_whole
  b_is_whole : Binds K d_is_whole ["value", "low", "high"] []
  g_is_whole : mg "is_whole" = some (.ref f_is_whole)
  f_has_items : Addr
  d_has_items : FuncData
  F_has_items : Fun K "has_items" "has_items" s_has_items f_has_items d_has_items
  b_has_items : Binds K d_has_items ["value", "count"] []
  g_has_items : mg "has_items" = some (.ref f_has_items)
  f_are_names : Addr
  d_are_names : FuncData
  F_are_names : Fun K "are_names" "are_names" s_are_names f_are_names d_are_names
  b_are_names : Binds K d_are_names ["values"] []
  g_are_names : mg "are_names" = some (.ref f_are_names)
  f_names_of : Addr
  d_names_of : FuncData
  F_names_of : Fun K "names_of" "names_of" s_names_of f_names_of d_names_of
  b_names_of : Binds K d_names_of ["fields"] []
  g_names_of : mg "names_of" = some (.ref f_names_of)
  f_check_parts : Addr
  d_check_parts : FuncData
  F_check_parts : Fun K "check_parts" "check_parts" s_check_parts f_check_parts d_check_parts
  b_check_parts : Binds K d_check_parts ["words", "fields", "room"] []
  g_check_parts : mg "check_parts" = some (.ref f_check_parts)
  f_are_form_words : Addr
  d_are_form_words : FuncData
  F_are_form_words : Fun K "are_form_words" "are_form_words" s_are_form_words f_are_form_words d_are_form_words
  b_are_form_words : Binds K d_are_form_words ["value"] []
  g_are_form_words : mg "are_form_words" = some (.ref f_are_form_words)
  f_are_form_fields : Addr
  d_are_form_fields : FuncData
  F_are_form_fields : Fun K "are_form_fields" "are_form_fields" s_are_form_fields f_are_form_fields d_are_form_fields
  b_are_form_fields : Binds K d_are_form_fields ["value"] []
  g_are_form_fields : mg "are_form_fields" = some (.ref f_are_form_fields)
  f_wrong_part : Addr
  d_wrong_part : FuncData
  F_wrong_part : Fun K "wrong_part" "wrong_part" s_wrong_part f_wrong_part d_wrong_part
  b_wrong_part : Binds K d_wrong_part ["words", "names", "name", "field"] []
  g_wrong_part : mg "wrong_part" = some (.ref f_wrong_part)
  f_is_near : Addr
  d_is_near : FuncData
  F_is_near : Fun K "is_near" "is_near" s_is_near f_is_near d_is_near
  b_is_near : Binds K d_is_near ["value", "looks", "count"] []
  g_is_near : mg "is_near" = some (.ref f_is_near)
  f_is_entry_row : Addr
  d_is_entry_row : FuncData
  F_is_entry_row : Fun K "is_entry_row" "is_entry_row" s_is_entry_row f_is_entry_row d_is_entry_row
  b_is_entry_row : Binds K d_is_entry_row ["value", "count"] []
  g_is_entry_row : mg "is_entry_row" = some (.ref f_is_entry_row)
  f_check_words : Addr
  d_check_words : FuncData
  F_check_words : Fun K "check_words" "check_words" s_check_words f_check_words d_check_words
  b_check_words : Binds K d_check_words ["form", "words"] []
  g_check_words : mg "check_words" = some (.ref f_check_words)
  f_word_index : Addr
  d_word_index : FuncData
  F_word_index : Fun K "word_index" "word_index" s_word_index f_word_index d_word_index
  b_word_index : Binds K d_word_index ["form", "words", "name"] []
  g_word_index : mg "word_index" = some (.ref f_word_index)
  f_near_entry : Addr
  d_near_entry : FuncData
  F_near_entry : Fun K "near_entry" "near_entry" s_near_entry f_near_entry d_near_entry
  b_near_entry : Binds K d_near_entry ["form", "words", "name"] []
  g_near_entry : mg "near_entry" = some (.ref f_near_entry)
  f_far_entry : Addr
  d_far_entry : FuncData
  F_far_entry : Fun K "far_entry" "far_entry" s_far_entry f_far_entry d_far_entry
  b_far_entry : Binds K d_far_entry ["form", "name", "word"] []
  g_far_entry : mg "far_entry" = some (.ref f_far_entry)
  f_true_error : Addr
  d_true_error : FuncData
  F_true_error : Fun K "true_error" "true_error" s_true_error f_true_error d_true_error
  b_true_error : Binds K d_true_error ["form", "words", "name"] []
  g_true_error : mg "true_error" = some (.ref f_true_error)
  f_true_errors : Addr
  d_true_errors : FuncData
  F_true_errors : Fun K "true_errors" "true_errors" s_true_errors f_true_errors d_true_errors
  b_true_errors : Binds K d_true_errors ["form", "words"] []
  g_true_errors : mg "true_errors" = some (.ref f_true_errors)
  f_L_mix : Addr
  d_L_mix : FuncData
  F_L_mix : Fun K "_law_mix" "_law_mix" sMix f_L_mix d_L_mix
  b_L_mix : Binds K d_L_mix ["_law_value", "_law_k"] []
  g_L_mix : mg "_law_mix" = some (.ref f_L_mix)
  f_L_box : Addr
  d_L_box : FuncData
  F_L_box : Fun K "_law_box" "_law_box" sBox f_L_box d_L_box
  b_L_box : Binds K d_L_box ["_law_script"] []
  g_L_box : mg "_law_box" = some (.ref f_L_box)
  f_L_draw : Addr
  d_L_draw : FuncData
  F_L_draw : Fun K "_law_draw" "_law_draw" sDraw f_L_draw d_L_draw
  b_L_draw : Binds K d_L_draw ["_law_box_here", "_law_many"] []
  g_L_draw : mg "_law_draw" = some (.ref f_L_draw)
  f_L_same : Addr
  d_L_same : FuncData
  F_L_same : Fun K "_law_same" "_law_same" sSame f_L_same d_L_same
  b_L_same : Binds K d_L_same ["_law_told_here", "_law_due"] []
  g_L_same : mg "_law_same" = some (.ref f_L_same)
  f_L_names : Addr
  d_L_names : FuncData
  F_L_names : Fun K "_law_names" "_law_names" s_L_names f_L_names d_L_names
  b_L_names : Binds K d_L_names ["_law_box_here", "_law_many"] []
  g_L_names : mg "_law_names" = some (.ref f_L_names)
  f_L_entries : Addr
  d_L_entries : FuncData
  F_L_entries : Fun K "_law_entries" "_law_entries" s_L_entries f_L_entries d_L_entries
  b_L_entries : Binds K d_L_entries ["_law_box_here", "_law_notes", "_law_size"] []
  g_L_entries : mg "_law_entries" = some (.ref f_L_entries)
  f_L_field : Addr
  d_L_field : FuncData
  F_L_field : Fun K "_law_field" "_law_field" s_L_field f_L_field d_L_field
  b_L_field : Binds K d_L_field ["_law_box_here", "_law_words", "_law_names_here", "_law_name", "_law_notes"] []
  g_L_field : mg "_law_field" = some (.ref f_L_field)
  f_L_parts : Addr
  d_L_parts : FuncData
  F_L_parts : Fun K "_law_parts" "_law_parts" s_L_parts f_L_parts d_L_parts
  b_L_parts : Binds K d_L_parts ["_law_box_here"] []
  g_L_parts : mg "_law_parts" = some (.ref f_L_parts)
  f_L_told : Addr
  d_L_told : FuncData
  F_L_told : Fun K "_law_told" "_law_told" s_L_told f_L_told d_L_told
  b_L_told : Binds K d_L_told ["_law_form", "_law_which", "_law_words", "_law_name", "_law_word"] []
  g_L_told : mg "_law_told" = some (.ref f_L_told)
  f_L_are_words : Addr
  d_L_are_words : FuncData
  F_L_are_words : Fun K "_law_are_words" "_law_are_words" s_L_are_words f_L_are_words d_L_are_words
  b_L_are_words : Binds K d_L_are_words ["_law_value", "_law_words", "_law_many"] []
  g_L_are_words : mg "_law_are_words" = some (.ref f_L_are_words)
  C : Addr
  g_Form : mg "Form" = some (.ref C)
  cl : Cls K C
  na_words : NoAttr K C "words"
  na_fields : NoAttr K C "fields"
  na_room : NoAttr K C "room"
  f_Form_field_names : Addr
  d_Form_field_names : FuncData
  F_Form_field_names : Fun K "field_names" "Form.field_names" s_Form_field_names f_Form_field_names d_Form_field_names
  b_Form_field_names : Binds K d_Form_field_names ["self"] []
  m_Form_field_names : Meth K C "field_names" f_Form_field_names
  f_Form_parts_of : Addr
  d_Form_parts_of : FuncData
  F_Form_parts_of : Fun K "parts_of" "Form.parts_of" s_Form_parts_of f_Form_parts_of d_Form_parts_of
  b_Form_parts_of : Binds K d_Form_parts_of ["self", "name"] []
  m_Form_parts_of : Meth K C "parts_of" f_Form_parts_of
  f_init : Addr
  d_init : FuncData
  F_init : FunD K "__init__" "Form.__init__" (defArgs s_Form_init) (defBody s_Form_init) (defScope s_Form_init) [] [("room", .int 3)] f_init d_init
  M : Mk K C f_init
  C_InvalidWords : Addr
  g_InvalidWords : mg "InvalidWords" = some (.ref C_InvalidWords)
  x_InvalidWords : XCls K C_InvalidWords
  f_InvalidWords_init : Addr
  d_InvalidWords_init : FuncData
  F_InvalidWords_init : Fun K "__init__" "InvalidWords.__init__" s_InvalidWords_init f_InvalidWords_init d_InvalidWords_init
  b_InvalidWords_init : Binds K d_InvalidWords_init ["self", "words"] []
  i_InvalidWords : PySem.W.findIn K (.ref C_InvalidWords) "__init__" = some (some (.ref f_InvalidWords_init))
  t_InvalidWords : PySem.W.typeIn K (.ref f_InvalidWords_init) = some (.type "function")
  n_InvalidWords0 : PySem.W.findIn K (.ref C_InvalidWords) "words" = some none
  n_InvalidWords_words : PySem.W.findIn K (.ref C_InvalidWords) "words" = some none
  C_UnknownField : Addr
  g_UnknownField : mg "UnknownField" = some (.ref C_UnknownField)
  x_UnknownField : XCls K C_UnknownField
  f_UnknownField_init : Addr
  d_UnknownField_init : FuncData
  F_UnknownField_init : Fun K "__init__" "UnknownField.__init__" s_UnknownField_init f_UnknownField_init d_UnknownField_init
  b_UnknownField_init : Binds K d_UnknownField_init ["self", "field"] []
  i_UnknownField : PySem.W.findIn K (.ref C_UnknownField) "__init__" = some (some (.ref f_UnknownField_init))
  t_UnknownField : PySem.W.typeIn K (.ref f_UnknownField_init) = some (.type "function")
  n_UnknownField0 : PySem.W.findIn K (.ref C_UnknownField) "field" = some none
  n_UnknownField_field : PySem.W.findIn K (.ref C_UnknownField) "field" = some none
  C_UnknownWord : Addr
  g_UnknownWord : mg "UnknownWord" = some (.ref C_UnknownWord)
  x_UnknownWord : XCls K C_UnknownWord
  f_UnknownWord_init : Addr
  d_UnknownWord_init : FuncData
  F_UnknownWord_init : Fun K "__init__" "UnknownWord.__init__" s_UnknownWord_init f_UnknownWord_init d_UnknownWord_init
  b_UnknownWord_init : Binds K d_UnknownWord_init ["self", "word"] []
  i_UnknownWord : PySem.W.findIn K (.ref C_UnknownWord) "__init__" = some (some (.ref f_UnknownWord_init))
  t_UnknownWord : PySem.W.typeIn K (.ref f_UnknownWord_init) = some (.type "function")
  n_UnknownWord0 : PySem.W.findIn K (.ref C_UnknownWord) "word" = some none
  n_UnknownWord_word : PySem.W.findIn K (.ref C_UnknownWord) "word" = some none
  xm_InvalidWords_InvalidWords : PySem.W.exmOne K (.ref C_InvalidWords) (.ref C_InvalidWords) = some true
  km_InvalidWords_InvalidWords : PySem.W.kitOne K (.ref C_InvalidWords) (.ref C_InvalidWords) = some true
  xm_InvalidWords_UnknownField : PySem.W.exmOne K (.ref C_InvalidWords) (.ref C_UnknownField) = some false
  km_InvalidWords_UnknownField : PySem.W.kitOne K (.ref C_InvalidWords) (.ref C_UnknownField) = some false
  xm_InvalidWords_UnknownWord : PySem.W.exmOne K (.ref C_InvalidWords) (.ref C_UnknownWord) = some false
  km_InvalidWords_UnknownWord : PySem.W.kitOne K (.ref C_InvalidWords) (.ref C_UnknownWord) = some false
  xm_UnknownField_InvalidWords : PySem.W.exmOne K (.ref C_UnknownField) (.ref C_InvalidWords) = some false
  km_UnknownField_InvalidWords : PySem.W.kitOne K (.ref C_UnknownField) (.ref C_InvalidWords) = some false
  xm_UnknownField_UnknownField : PySem.W.exmOne K (.ref C_UnknownField) (.ref C_UnknownField) = some true
  km_UnknownField_UnknownField : PySem.W.kitOne K (.ref C_UnknownField) (.ref C_UnknownField) = some true
  xm_UnknownField_UnknownWord : PySem.W.exmOne K (.ref C_UnknownField) (.ref C_UnknownWord) = some false
  km_UnknownField_UnknownWord : PySem.W.kitOne K (.ref C_UnknownField) (.ref C_UnknownWord) = some false
  xm_UnknownWord_InvalidWords : PySem.W.exmOne K (.ref C_UnknownWord) (.ref C_InvalidWords) = some false
  km_UnknownWord_InvalidWords : PySem.W.kitOne K (.ref C_UnknownWord) (.ref C_InvalidWords) = some false
  xm_UnknownWord_UnknownField : PySem.W.exmOne K (.ref C_UnknownWord) (.ref C_UnknownField) = some false
  km_UnknownWord_UnknownField : PySem.W.kitOne K (.ref C_UnknownWord) (.ref C_UnknownField) = some false
  xm_UnknownWord_UnknownWord : PySem.W.exmOne K (.ref C_UnknownWord) (.ref C_UnknownWord) = some true
  km_UnknownWord_UnknownWord : PySem.W.kitOne K (.ref C_UnknownWord) (.ref C_UnknownWord) = some true
  ka : PySem.W.kitAny K (.ref C_InvalidWords) [.ref C_UnknownField, .ref C_UnknownWord] = some false
abbrev Txt.isinstance {K : PySem.W.Frag} {mg : Str → Option Value} (T : Txt K mg) : mg "isinstance" = none := T.B.isi
abbrev Txt.len {K : PySem.W.Frag} {mg : Str → Option Value} (T : Txt K mg) : mg "len" = none := T.B.len
abbrev Txt.range {K : PySem.W.Frag} {mg : Str → Option Value} (T : Txt K mg) : mg "range" = none := T.B.range
abbrev Txt.all {K : PySem.W.Frag} {mg : Str → Option Value} (T : Txt K mg) : mg "all" = none := T.B.all
abbrev Txt.str_ {K : PySem.W.Frag} {mg : Str → Option Value} (T : Txt K mg) : mg "str" = none := T.B.str
abbrev Txt.int_ {K : PySem.W.Frag} {mg : Str → Option Value} (T : Txt K mg) : mg "int" = none := T.B.int
abbrev Txt.bool_ {K : PySem.W.Frag} {mg : Str → Option Value} (T : Txt K mg) : mg "bool" = none := T.B.bool
abbrev Txt.tuple_ {K : PySem.W.Frag} {mg : Str → Option Value} (T : Txt K mg) : mg "tuple" = none := T.B.tuple
abbrev Txt.list_ {K : PySem.W.Frag} {mg : Str → Option Value} (T : Txt K mg) : mg "list" = none := T.B.list
end Wn


namespace Wn
open PySem PySem.Spec PyProof.Rows L2

local macro_rules | `(tactic| walk_at "gox1_20") => `(tactic| (first
  | walk_at "go1"
  | (with_reducible apply Wn.r_bm)
  | ((with_reducible apply Wn.r_tyl); (focus (walk_at "lk"; done)))
  | ((with_reducible apply Wn.r_ext); (focus (walk_at "lk"; done)); (focus (walk_at "lk"; done)); (focus ((with_unfolding_all first | (simp only [List.length_cons, List.length_nil, List.length_append]; decide) | fail); done)))
  | ((with_reducible apply Wn.r_cat); (focus (walk_at "lk"; done)); (focus (walk_at "lk"; done)); (focus ((with_unfolding_all first | (simp only [List.length_cons, List.length_nil, List.length_append]; decide) | fail); done)))
  | (with_reducible apply Wn.r_chain)))
local macro_rules | `(tactic| walk_at "gox_20") => `(tactic| repeat (walk_at "gox1_20"))
theorem one_lt (c d : Nat) : ([c] < [d]) ↔ c < d := by simp [List.cons_lt_cons_iff]
theorem a_list : (PySem.Str.ofString "a").cps.toList = [97] := by decide +kernel
theorem z_list : (PySem.Str.ofString "z").cps.toList = [122] := by decide +kernel
theorem le_a {c : Nat} (h : 97 ≤ c) : (!decide ((⟨#[c]⟩ : Str).cps.toList < (PySem.Str.ofString "a").cps.toList)) = true := by
  rw [a_list, decide_eq_false]
  · rfl
  · intro z
    have := (one_lt c 97).mp z
    omega
theorem le_z {c : Nat} (h : c ≤ 122) : (!decide ((PySem.Str.ofString "z").cps.toList < (⟨#[c]⟩ : Str).cps.toList)) = true := by
  rw [z_list, decide_eq_false]
  · rfl
  · intro z
    have := (one_lt 122 c).mp z
    omega
theorem sm_le (c : Nat) : ((⟨#[c]⟩ : Str)).cps.toList = [c] := rfl
def spIsName : Sp := fun vs H Q _ => ∃ z : Str, vs = [.str z] ∧ nameB z = true ∧ ∀ H', Same H H' → Q (.bl true) H'
section
variable {P : Program} {w : World} {K : PySem.W.Frag} {mg : Str → Option Value} {base : Heap}
theorem ok_is_name (T : Txt K mg) : FnOk P w K mg base CX0 1 T.f_is_name T.d_is_name ["value"] spIsName := by
  refine T.F_is_name.ok sc_is_name (fun vs H Q E h => ?_) (fun cdv A outer s H vs Q E hr h => ?_)
  · obtain ⟨z, rfl, _⟩ := h
    rfl
  · obtain ⟨z, rfl, hz, q⟩ := h
    refine ⟨_, (pss_cons (ps_if (PW.pt (pw_or (pt_not (pt_val (pe_callB (call_isiK' (K := K) rfl) (by rfl) T.isinstance boot_isinstance (pa_cons (pv 0) (pa_cons (pe_bltn (v := .ty "str") (by rfl) T.str_ (by decide +kernel) rfl) pa_nil))))) (pw_or1 (pt_not (pt_chain op_le op_le pe_int (pe_callB call_lenStr (by rfl) T.len PySem.boot_len (pa_cons (pv 0) pa_nil)) pe_int))))) (pss_one (ps_ret pe_bl)) pss_nil) (pss_one (ps_ret (pe_callB (cr_allK (K := K) rfl rfl) (by rfl) T.all boot_all (pa_cons (pe_lc (own := [("letter", 1)]) (g := gName 1) (tt := tYes) rfl sc_is_name.nd (pi_str (pv 0)) (blkOk_by (N := ["value", "letter"]) (sc := defScope s_is_name) (by decide +kernel)) (fun _ _ _ _ _ => pg_name (i := 1) sc_is_name.nd rfl (Or.inl rfl)) (fun _ _ _ _ _ => pts_nil) (fun _ _ _ _ _ => (pe_chain op_le_str op_le_str pe_str (pv 1) pe_str))) pa_nil))))), ?_⟩
    show tSeq _ _ _ [_, none] _
    have h1 : Dp K H (.str z) (.str z) := .str z
    have hl := nameB_len hz
    have hs : z.length ≤ sizeLine := Nat.le_trans hl.2 (by decide)
    walk_at "gox_20"
    refine r_lenstr hs ?_
    walk_at "gox_20"
    refine ite_t (decide_eq_true (by omega)) ?_
    walk_at "gox_20"
    refine ite_f (by rw [decide_eq_true (by omega)]; rfl) ?_
    walk_at "gox_20"
    refine ⟨.str z, rfl, z, rfl, fun D nD => lc_text (z := z) (fun i H' => Same H H' ∧ H' D = some (.lst ((List.replicate i true).map V.bl))) ⟨same_new nD, upd_same⟩ ?_ ?_⟩
    · rintro i c H' ec ⟨sm, hD⟩
      have hc := nameB_at hz ec
      have hi : i < z.cps.size := (Array.getElem?_eq_some_iff.mp ec).1
      walk_at "gox_20"
      refine ⟨_, _, rfl, rfl, true, congrArg V.bl (le_a hc.1), ?_⟩
      walk_at "gox_20"
      refine ⟨_, _, rfl, rfl, _, hD, ?_, fun b o e => (upd_ne (ne_of_none e nD)).trans (sm _ _ e), ?_⟩
      · rw [List.length_map, List.length_replicate]
        exact small63 (by have := hl.2; show i ≤ 63; have : z.length = z.cps.size := rfl; omega)
      · rw [upd_same, le_z hc.2, List.replicate_succ', List.map_append]
        rfl
    · rintro H' ⟨sm, hD⟩
      walk_at "gox_20"
      refine ⟨D, _, rfl, .inl (.inl hD), ?_⟩
      rw [show (List.replicate z.cps.size true).all id = true by simp]
      exact q _ sm
end
end Wn


namespace Wn
open PySem PySem.Spec PyProof.Rows L2
theorem ty_sqT {K : PySem.W.Frag} {H : Hp} {a : Addr} {xs : List V} (h : SqT K H a xs) : TyX K H (.ref a) (.type "tuple") := by
  rcases h with (h | ⟨o, h⟩) | ⟨o, its, n, l, c, _⟩
  · exact .base (.tup h)
  · exact .fTuple h
  · exact .kTuple l c
theorem r_tupT {K : PySem.W.Frag} {H : Hp} {a : Addr} {xs : List V} {Q : VK} (h : SqT K H a xs) (q : Q (.bl true) H) : rIsi K [.ref a, .ty "tuple"] H Q :=
  ⟨.ref a, .ty "tuple", _, _, true, rfl, .ty _, ty_sqT h, kit_ty (by decide +kernel), q⟩
theorem str_at {zs : List Str} {i : Nat} {x : V} (h : (zs.map V.str)[i]? = some x) : ∃ z, zs[i]? = some z ∧ x = V.str z := by
  rw [List.getElem?_map] at h
  cases e : zs[i]? with
  | none => rw [e] at h; cases h
  | some z => rw [e] at h; exact ⟨z, rfl, (Option.some.inj h).symm⟩
def spHasItems (K : PySem.W.Frag) : Sp := fun vs H Q _ => ∃ (a : Addr) (xs : List V) (n : Int), vs = [.ref a, .int n] ∧ SqT K H a xs ∧ (xs.length : Int) = n ∧ Q (.bl true) H
def spIsWhole : Sp := fun vs H Q _ => ∃ v lo hi : Int, vs = [.int v, .int lo, .int hi] ∧ lo ≤ v ∧ v ≤ hi ∧ Q (.bl true) H
def spNames (K : PySem.W.Frag) (S : PySem.W.Frag → Hp → Addr → List V → Prop) : Sp := fun vs H Q _ => ∃ (a : Addr) (zs : List Str), vs = [.ref a] ∧ S K H a (zs.map V.str) ∧ zs.Nodup ∧ (∀ z ∈ zs, nameB z = true) ∧ zs.length ≤ 1000 ∧ ∀ H', Same H H' → Q (.bl true) H'

local macro_rules | `(tactic| walk_at "gox1_21") => `(tactic| (first
  | walk_at "go1"
  | (with_reducible apply Wn.r_bm)
  | ((with_reducible apply Wn.r_tyl); (focus (walk_at "lk"; done)))
  | ((with_reducible apply Wn.r_ext); (focus (walk_at "lk"; done)); (focus (walk_at "lk"; done)); (focus ((with_unfolding_all first | (simp only [List.length_cons, List.length_nil, List.length_append]; decide) | fail); done)))
  | ((with_reducible apply Wn.r_cat); (focus (walk_at "lk"; done)); (focus (walk_at "lk"; done)); (focus ((with_unfolding_all first | (simp only [List.length_cons, List.length_nil, List.length_append]; decide) | fail); done)))
  | (with_reducible apply Wn.r_chain)))
local macro_rules | `(tactic| walk_at "gox_21") => `(tactic| repeat (walk_at "gox1_21"))
section
variable {P : Program} {w : World} {K : PySem.W.Frag} {mg : Str → Option Value} {base : Heap}
theorem ok_has_items (T : Txt K mg) : FnOk P w K mg base CX0 1 T.f_has_items T.d_has_items ["value", "count"] (spHasItems K) := by
  refine T.F_has_items.ok sc_has_items (fun vs H Q E h => ?_) (fun cdv A outer s H vs Q E hr h => ?_)
  · obtain ⟨a, xs, n, rfl, _⟩ := h
    rfl
  · obtain ⟨a, xs, n, rfl, hS, hn, q⟩ := h
    refine ⟨_, (pss_one (ps_ret (pe_and (pe_callB (call_isiK' (K := K) rfl) (by rfl) T.isinstance boot_isinstance (pa_cons (pv 0) (pa_cons (pe_bltn (v := .ty "tuple") (by rfl) T.tuple_ (by decide +kernel) rfl) pa_nil))) (pe_one (pe_cmpR op_eq (pe_callB (call_lenK (K := K) rfl) (by rfl) T.len PySem.boot_len (pa_cons (pv 0) pa_nil)) (pv 1) (nomark _)))))), ?_⟩
    show tRet _ _ [_, _] _
    walk_at "gox_21"
    refine r_tupT hS ?_
    walk_at "gox_21"
    exact qdec (congrArg V.int hn) q
theorem ok_is_whole (T : Txt K mg) : FnOk P w K mg base CX0 1 T.f_is_whole T.d_is_whole ["value", "low", "high"] spIsWhole := by
  refine T.F_is_whole.ok sc_is_whole (fun vs H Q E h => ?_) (fun cdv A outer s H vs Q E hr h => ?_)
  · obtain ⟨v, lo, hi, rfl, _⟩ := h
    rfl
  · obtain ⟨v, lo, hi, rfl, h1, h2, q⟩ := h
    have d1 : Dp K H (.int v) (.int v) := .int v
    refine ⟨_, (pss_one (ps_ret (pe_and (pe_callB (call_isiK' (K := K) rfl) (by rfl) T.isinstance boot_isinstance (pa_cons (pv 0) (pa_cons (pe_bltn (v := .ty "int") (by rfl) T.int_ (by decide +kernel) rfl) pa_nil))) (pe_and (pe_not (pe_callB (call_isiK' (K := K) rfl) (by rfl) T.isinstance boot_isinstance (pa_cons (pv 0) (pa_cons (pe_bltn (v := .ty "bool") (by rfl) T.bool_ (by decide +kernel) rfl) pa_nil)))) (pe_one (pe_chain op_le op_le (pv 1) (pv 0) (pv 2))))))), ?_⟩
    show tRet _ _ [_, _, _] _
    walk_at "gox_21"
    refine ite_t (decide_eq_true h1) ?_
    walk_at "gox_21"
    exact qdec h2 q
theorem ok_are_names_L (T : Txt K mg) : FnOk P w K mg base CX0 2 T.f_are_names T.d_are_names ["values"] (spNames K SqL) := by
  refine T.F_are_names.ok sc_are_names (fun vs H Q E h => ?_) (fun cdv A outer s H vs Q E hr h => ?_)
  · obtain ⟨a, zs, rfl, _⟩ := h
    rfl
  · obtain ⟨a, zs, rfl, hS, nd, hz, hl, q⟩ := h
    refine ⟨_, (pss_one (ps_ret (pe_and (pe_callB (cr_allK (K := K) rfl rfl) (by rfl) T.all boot_all (pa_cons (pe_lc (own := [("value", 1)]) (g := gName 1) (tt := tYes) rfl sc_are_names.nd (pi_listK (K := K) rfl (pv 0)) (blkOk_by (N := ["values", "value"]) (sc := defScope s_are_names) (by decide +kernel)) (fun _ _ _ _ _ => pg_name (i := 1) sc_are_names.nd rfl (Or.inl rfl)) (fun _ _ _ _ _ => pts_nil) (fun _ _ _ _ _ => (pe_call (ok_is_name T) (hr.mono (by decide)) (by rfl) T.g_is_name T.F_is_name.kp T.b_is_name .nil pass0 (pa_cons (pv 1) pa_nil)))) pa_nil)) (pe_one (pe_cmpR op_eq (pe_lenSetK (K := K) rfl rfl (by rfl) T.len (by rfl) T.set (pv 0)) (pe_callB (call_lenK (K := K) rfl) (by rfl) T.len PySem.boot_len (pa_cons (pv 0) pa_nil)) (nomark _)))))), ?_⟩
    show tRet _ _ [_, none] _
    walk_at "gox_21"
    refine ⟨.ref a, rfl, a, rfl, ⟨_, hS⟩, fun D nD => lc_list (K := K) (a := a) (xs := zs.map V.str) (fun i H' => Same H H' ∧ H' D = some (.lst ((List.replicate i true).map V.bl))) ⟨same_new nD, upd_same⟩ (fun i H' _ h => h.1.seq hS) ?_ ?_⟩
    · rintro i x H' hi ⟨sm, hD⟩
      obtain ⟨z, ez, rfl⟩ := str_at hi
      have hlt : i < zs.length := (List.getElem?_eq_some_iff.mp ez).1
      walk_at "gox_21"
      refine ⟨z, rfl, hz z (List.mem_of_getElem? ez), fun H2 s2 => ?_⟩
      refine ⟨_, s2 _ _ hD, ?_, fun b o e => (upd_ne (ne_of_none e nD)).trans (s2 _ _ (sm _ _ e)), ?_⟩
      · rw [List.length_map, List.length_replicate]
        exact small1000 (by omega)
      · rw [upd_same, List.replicate_succ', List.map_append]
        rfl
    · rintro H' ⟨sm, hD⟩
      have hS' := sm.seq hS
      walk_at "gox_21"
      refine ⟨D, _, rfl, .inl (.inl hD), ?_⟩
      rw [show (List.replicate (zs.map V.str).length true).all id = true by simp]
      walk_at "gox_21"
      refine ⟨.ref a, rfl, a, zs, rfl, .inl hS', hl, ?_⟩
      walk_at "gox_21"
      refine qdec ?_ (q _ sm)
      rw [List.length_map, WnSet.cnt_nodup nd _ (Nat.le_refl _)]
theorem ok_are_names_T (T : Txt K mg) : FnOk P w K mg base CX0 2 T.f_are_names T.d_are_names ["values"] (spNames K SqT) := by
  refine T.F_are_names.ok sc_are_names (fun vs H Q E h => ?_) (fun cdv A outer s H vs Q E hr h => ?_)
  · obtain ⟨a, zs, rfl, _⟩ := h
    rfl
  · obtain ⟨a, zs, rfl, hS, nd, hz, hl, q⟩ := h
    refine ⟨_, (pss_one (ps_ret (pe_and (pe_callB (cr_allK (K := K) rfl rfl) (by rfl) T.all boot_all (pa_cons (pe_lc (own := [("value", 1)]) (g := gName 1) (tt := tYes) rfl sc_are_names.nd (pi_tupK (K := K) rfl (pv 0)) (blkOk_by (N := ["values", "value"]) (sc := defScope s_are_names) (by decide +kernel)) (fun _ _ _ _ _ => pg_name (i := 1) sc_are_names.nd rfl (Or.inl rfl)) (fun _ _ _ _ _ => pts_nil) (fun _ _ _ _ _ => (pe_call (ok_is_name T) (hr.mono (by decide)) (by rfl) T.g_is_name T.F_is_name.kp T.b_is_name .nil pass0 (pa_cons (pv 1) pa_nil)))) pa_nil)) (pe_one (pe_cmpR op_eq (pe_lenSetK (K := K) rfl rfl (by rfl) T.len (by rfl) T.set (pv 0)) (pe_callB (call_lenK (K := K) rfl) (by rfl) T.len PySem.boot_len (pa_cons (pv 0) pa_nil)) (nomark _)))))), ?_⟩
    show tRet _ _ [_, none] _
    walk_at "gox_21"
    refine ⟨.ref a, rfl, a, rfl, ⟨_, hS⟩, fun D nD => lc_tup (K := K) (a := a) (xs := zs.map V.str) (fun i H' => Same H H' ∧ H' D = some (.lst ((List.replicate i true).map V.bl))) ⟨same_new nD, upd_same⟩ (fun i H' _ h => same_sqT h.1 hS) ?_ ?_⟩
    · rintro i x H' hi ⟨sm, hD⟩
      obtain ⟨z, ez, rfl⟩ := str_at hi
      have hlt : i < zs.length := (List.getElem?_eq_some_iff.mp ez).1
      walk_at "gox_21"
      refine ⟨z, rfl, hz z (List.mem_of_getElem? ez), fun H2 s2 => ?_⟩
      refine ⟨_, s2 _ _ hD, ?_, fun b o e => (upd_ne (ne_of_none e nD)).trans (s2 _ _ (sm _ _ e)), ?_⟩
      · rw [List.length_map, List.length_replicate]
        exact small1000 (by omega)
      · rw [upd_same, List.replicate_succ', List.map_append]
        rfl
    · rintro H' ⟨sm, hD⟩
      have hS' := same_sqT sm hS
      walk_at "gox_21"
      refine ⟨D, _, rfl, .inl (.inl hD), ?_⟩
      rw [show (List.replicate (zs.map V.str).length true).all id = true by simp]
      walk_at "gox_21"
      refine ⟨.ref a, rfl, a, zs, rfl, .inr hS', hl, ?_⟩
      walk_at "gox_21"
      refine qdec ?_ (q _ sm)
      rw [List.length_map, WnSet.cnt_nodup nd _ (Nat.le_refl _)]
end
end Wn


namespace Wn
open PySem PySem.Spec PyProof.Rows L2
/-! ### the data of a form -/
structure Fld where
  first : Str
  looks : Option Str
  nearA : List (Option Str)
  nearL : List (List (Option Str))
  far : Option (List (Option Str))
def entV : Option Str → V
  | none => .non
  | some z => .str z
def RowAt (K : PySem.W.Frag) (H : Hp) (v : V) (r : List (Option Str)) : Prop := ∃ a, v = .ref a ∧ SqT K H a (r.map entV)
def NearAt (K : PySem.W.Frag) (H : Hp) (v : V) (f : Fld) : Prop := match f.looks with
  | none => RowAt K H v f.nearA
  | some _ => ∃ (a : Addr) (vs : List V), v = .ref a ∧ SqT K H a vs ∧ vs.length = f.nearL.length ∧ ∀ (i : Nat) (x : V) (r : List (Option Str)), vs[i]? = some x → f.nearL[i]? = some r → RowAt K H x r
def FarAt (K : PySem.W.Frag) (H : Hp) (v : V) (f : Fld) : Prop := match f.far with
  | none => v = .non
  | some r => RowAt K H v r
def FldAt (K : PySem.W.Frag) (H : Hp) (v : V) (f : Fld) : Prop := ∃ (a : Addr) (nv fv : V), v = .ref a ∧ SqT K H a [.str f.first, entV f.looks, nv, fv] ∧ NearAt K H nv f ∧ FarAt K H fv f
/-- the tuple of the pairs of names and fields -/
structure FieldsAt (K : PySem.W.Frag) (H : Hp) (a : Addr) (fs : List (Str × Fld)) : Prop where
  ex : ∃ vs : List V, SqT K H a vs ∧ vs.length = fs.length ∧ ∀ (i : Nat) (x : V) (p : Str × Fld), vs[i]? = some x → fs[i]? = some p → ∃ (q : Addr) (fv : V), x = .ref q ∧ SqT K H q [.str p.1, fv] ∧ FldAt K H fv p.2
theorem RowAt.mono {K : PySem.W.Frag} {H H' : Hp} {v : V} {r : List (Option Str)} (s : Same H H') (h : RowAt K H v r) : RowAt K H' v r := let ⟨a, e, t⟩ := h; ⟨a, e, same_sqT s t⟩
theorem NearAt.mono {K : PySem.W.Frag} {H H' : Hp} {v : V} {f : Fld} (s : Same H H') (h : NearAt K H v f) : NearAt K H' v f := by
  unfold NearAt at h ⊢
  cases e : f.looks with
  | none => rw [e] at h; exact h.mono s
  | some l =>
    rw [e] at h
    obtain ⟨a, vs, e1, t, hl, hr⟩ := h
    exact ⟨a, vs, e1, same_sqT s t, hl, fun i x r h1 h2 => (hr i x r h1 h2).mono s⟩
theorem FarAt.mono {K : PySem.W.Frag} {H H' : Hp} {v : V} {f : Fld} (s : Same H H') (h : FarAt K H v f) : FarAt K H' v f := by
  unfold FarAt at h ⊢
  cases e : f.far with
  | none => rw [e] at h; exact h
  | some r => rw [e] at h; exact RowAt.mono s h
theorem FldAt.mono {K : PySem.W.Frag} {H H' : Hp} {v : V} {f : Fld} (s : Same H H') (h : FldAt K H v f) : FldAt K H' v f := let ⟨a, nv, fv, e, t, n, r⟩ := h; ⟨a, nv, fv, e, same_sqT s t, n.mono s, r.mono s⟩
theorem FieldsAt.mono {K : PySem.W.Frag} {H H' : Hp} {a : Addr} {fs : List (Str × Fld)} (s : Same H H') (h : FieldsAt K H a fs) : FieldsAt K H' a fs :=
  let ⟨vs, t, hl, hx⟩ := h.ex
  ⟨vs, same_sqT s t, hl, fun i x p h1 h2 => let ⟨q, fv, e, t2, f⟩ := hx i x p h1 h2; ⟨q, fv, e, same_sqT s t2, f.mono s⟩⟩
/-- every entry is None or a message -/
def rowOk (r : List (Option Str)) : Prop := ∀ z, some z ∈ r → nameB z = true
section
variable {σ : L2.St} {H : Hp} {K : PySem.W.Frag} {Q : L2.St → Hp → Prop}
theorem r_gtup {n : Nat} {t : TGs} {a : Addr} {xs : List V} (e : SqT K H a xs) (hl : xs.length = n) (h : t xs σ H Q) : gTup K n t (.ref a) σ H Q := ⟨a, xs, rfl, e, hl, h⟩
theorem r_gcons {t : TG} {u : TGs} {v : V} {r : List V} (h : t v σ H fun σ' H' => u r σ' H' Q) : gCons t u (v :: r) σ H Q := ⟨v, r, rfl, h⟩
theorem r_gnil (h : Q σ H) : gNil [] σ H Q := ⟨rfl, h⟩
end

local macro_rules | `(tactic| walk_at "gox1_22") => `(tactic| (first
  | walk_at "go1"
  | (with_reducible apply Wn.r_bm)
  | ((with_reducible apply Wn.r_tyl); (focus (walk_at "lk"; done)))
  | ((with_reducible apply Wn.r_ext); (focus (walk_at "lk"; done)); (focus (walk_at "lk"; done)); (focus ((with_unfolding_all first | (simp only [List.length_cons, List.length_nil, List.length_append]; decide) | fail); done)))
  | ((with_reducible apply Wn.r_cat); (focus (walk_at "lk"; done)); (focus (walk_at "lk"; done)); (focus ((with_unfolding_all first | (simp only [List.length_cons, List.length_nil, List.length_append]; decide) | fail); done)))
  | (with_reducible apply Wn.r_chain)
  | ((with_reducible apply Wn.r_gtup); (focus ((first | assumption | fail); done)); (focus ((with_unfolding_all first | exact rfl | fail); done)))
  | (with_reducible apply Wn.r_gcons)
  | (with_reducible apply Wn.r_gnil)))
local macro_rules | `(tactic| walk_at "gox_22") => `(tactic| repeat (walk_at "gox1_22"))
def spNamesOf (K : PySem.W.Frag) : Sp := fun vs H Q _ => ∃ (a : Addr) (fs : List (Str × Fld)), vs = [.ref a] ∧ FieldsAt K H a fs ∧ fs.length ≤ 1000 ∧
  ∀ H' q, Same H H' → H q = none → H' q = some (.lst ((fs.map (·.1)).map V.str)) → Q (.ref q) H'
def spRow (K : PySem.W.Frag) : Sp := fun vs H Q _ => ∃ (v : V) (r : List (Option Str)) (n : Int), vs = [v, .int n] ∧ RowAt K H v r ∧ (r.length : Int) = n ∧ rowOk r ∧ r.length ≤ 1000 ∧ ∀ H', Same H H' → Q (.bl true) H'
section
variable {P : Program} {w : World} {K : PySem.W.Frag} {mg : Str → Option Value} {base : Heap}
theorem ok_names_of (T : Txt K mg) : FnOk P w K mg base CX0 1 T.f_names_of T.d_names_of ["fields"] (spNamesOf K) := by
  refine T.F_names_of.ok sc_names_of (fun vs H Q E h => ?_) (fun cdv A outer s H vs Q E hr h => ?_)
  · obtain ⟨a, fs, rfl, _⟩ := h
    rfl
  · obtain ⟨a, fs, rfl, hF, hl, q⟩ := h
    refine ⟨_, (pss_one (ps_ret (pe_lc (own := [("name", 1), ("field", 2)])  (tt := tYes) rfl sc_names_of.nd (pi_tupK (K := K) rfl (pv 0)) (blkOk_by (N := ["fields", "name", "field"]) (sc := defScope s_names_of) (by decide +kernel)) (fun _ _ _ _ _ => pg_tupK (K := K) (n := 2) rfl rfl (pgs_cons (pg_name (i := 1) sc_names_of.nd rfl (Or.inl rfl)) (pgs_cons (pg_name (i := 2) sc_names_of.nd rfl (Or.inl rfl)) pgs_nil))) (fun _ _ _ _ _ => pts_nil) (fun _ _ _ _ _ => (pv 1))))), ?_⟩
    show tRet _ _ [_, none, none] _
    walk_at "gox_22"
    obtain ⟨vs, hS, hvl, hx⟩ := hF.ex
    refine ⟨.ref a, rfl, a, rfl, ⟨_, hS⟩, fun D nD => lc_tup (K := K) (a := a) (xs := vs) (fun i H' => Same H H' ∧ H' D = some (.lst (((fs.take i).map (·.1)).map V.str))) ⟨same_new nD, upd_same⟩ (fun i H' _ h => same_sqT h.1 hS) ?_ ?_⟩
    · rintro i x H' hi ⟨sm, hD⟩
      have hlt : i < fs.length := by rw [← hvl]; exact (List.getElem?_eq_some_iff.mp hi).1
      have ef : fs[i]? = some fs[i] := List.getElem?_eq_getElem hlt
      obtain ⟨p, fv, rfl, hp, _⟩ := hx i x _ hi ef
      have hp' := same_sqT sm hp
      walk_at "gox_22"
      refine ⟨_, hD, ?_, fun b o e => (upd_ne (ne_of_none e nD)).trans (sm _ _ e), ?_⟩
      · rw [List.length_map, List.length_map, List.length_take]
        exact small1000 (by omega)
      · rw [upd_same, take_at ef, List.map_append, List.map_append]
        rfl
    · rintro H' ⟨sm, hD⟩
      rw [hvl, List.take_length] at hD
      walk_at "gox_22"
      exact q _ D sm nD hD
theorem ok_is_entry_row (T : Txt K mg) : FnOk P w K mg base CX0 2 T.f_is_entry_row T.d_is_entry_row ["value", "count"] (spRow K) := by
  refine T.F_is_entry_row.ok sc_is_entry_row (fun vs H Q E h => ?_) (fun cdv A outer s H vs Q E hr h => ?_)
  · obtain ⟨v, r, n, rfl, _⟩ := h
    rfl
  · obtain ⟨v, r, n, rfl, ⟨a, rfl, hS⟩, hn, ok, hl, q⟩ := h
    refine ⟨_, (pss_one (ps_ret (pe_and (pe_call (ok_has_items T) (hr.mono (by decide)) (by rfl) T.g_has_items T.F_has_items.kp T.b_has_items .nil pass0 (pa_cons (pv 0) (pa_cons (pv 1) pa_nil))) (pe_one (pe_callB (cr_allK (K := K) rfl rfl) (by rfl) T.all boot_all (pa_cons (pe_lc (own := [("entry", 2)]) (g := gName 2) (tt := tYes) rfl sc_is_entry_row.nd (pi_tupK (K := K) rfl (pv 0)) (blkOk_by (N := ["value", "count", "entry"]) (sc := defScope s_is_entry_row) (by decide +kernel)) (fun _ _ _ _ _ => pg_name (i := 2) sc_is_entry_row.nd rfl (Or.inl rfl)) (fun _ _ _ _ _ => pts_nil) (fun _ _ _ _ _ => (pe_or (pe_cmpR op_isN (pv 2) pe_non (nomark _)) (pe_one (pe_call (ok_is_name T) (hr.mono (by decide)) (by rfl) T.g_is_name T.F_is_name.kp T.b_is_name .nil pass0 (pa_cons (pv 2) pa_nil)))))) pa_nil)))))), ?_⟩
    show tRet _ _ [_, _, none] _
    walk_at "gox_22"
    refine ⟨a, _, n, rfl, hS, by rw [List.length_map]; exact hn, ?_⟩
    walk_at "gox_22"
    refine ⟨.ref a, rfl, a, rfl, ⟨_, hS⟩, fun D nD => lc_tup (K := K) (a := a) (xs := r.map entV) (fun i H' => Same H H' ∧ H' D = some (.lst ((List.replicate i true).map V.bl))) ⟨same_new nD, upd_same⟩ (fun i H' _ h => same_sqT h.1 hS) ?_ ?_⟩
    · rintro i x H' hi ⟨sm, hD⟩
      have hlt : i < r.length := by have := (List.getElem?_eq_some_iff.mp hi).1; rw [List.length_map] at this; exact this
      have er : r[i]? = some r[i] := List.getElem?_eq_getElem hlt
      have ex : x = entV r[i] := by rw [List.getElem?_map, er] at hi; exact (Option.some.inj hi).symm
      have fin : ∀ H2, Same H' H2 → ∃ acc, H2 D = some (.lst acc) ∧ acc.length < sizeLine ∧ Same H (upd H2 D (.lst (acc ++ [V.bl true]))) ∧ (upd H2 D (.lst (acc ++ [V.bl true]))) D = some (.lst ((List.replicate (i + 1) true).map V.bl)) := fun H2 s2 => by
        refine ⟨_, s2 _ _ hD, ?_, fun b o e => (upd_ne (ne_of_none e nD)).trans (s2 _ _ (sm _ _ e)), ?_⟩
        · rw [List.length_map, List.length_replicate]
          exact small1000 (by omega)
        · rw [upd_same, List.replicate_succ', List.map_append]
          rfl
      cases e : r[i] with
      | none =>
        rw [e] at ex
        subst ex
        walk_at "gox_22"
        exact fin H' (Same.refl _)
      | some z =>
        rw [e] at ex
        subst ex
        walk_at "gox_22"
        exact ⟨z, rfl, ok z (by rw [← e]; exact List.getElem_mem hlt), fun H2 s2 => fin H2 s2⟩
    · rintro H' ⟨sm, hD⟩
      walk_at "gox_22"
      refine ⟨D, _, rfl, .inl (.inl hD), ?_⟩
      rw [show (List.replicate (r.map entV).length true).all id = true by simp]
      exact q _ sm
end
end Wn


namespace Wn
open PySem PySem.Spec PyProof.Rows L2
structure Fld.Ok (ws names : List Str) (name : Str) (f : Fld) : Prop where
  first : f.first ∈ ws
  looks : ∀ l, f.looks = some l → l ≠ name ∧ l ∈ names
  alone : f.looks = none → f.nearA.length = ws.length ∧ rowOk f.nearA
  pairs : ∀ l, f.looks = some l → f.nearL.length = ws.length ∧ ∀ r ∈ f.nearL, r.length = ws.length ∧ rowOk r
  far : ∀ r, f.far = some r → r.length = ws.length ∧ rowOk r
theorem r_inF {H : Hp} {K : PySem.W.Frag} {Q : VK} {p : Addr} {z : Str} {zs : List Str} (e : SqL K H p (zs.map V.str) ∨ SqT K H p (zs.map V.str)) (q : Q (.bl (decide (z ∈ zs))) H) : rInS K false (.str z) (.ref p) H Q := r_ins e (by rw [if_neg Bool.false_ne_true]; exact q)
theorem r_inT {H : Hp} {K : PySem.W.Frag} {Q : VK} {p : Addr} {z : Str} {zs : List Str} (e : SqL K H p (zs.map V.str) ∨ SqT K H p (zs.map V.str)) (q : Q (.bl (!decide (z ∈ zs))) H) : rInS K true (.str z) (.ref p) H Q := r_ins e (by rw [if_pos rfl]; exact q)

local macro_rules | `(tactic| walk_at "gox1_23") => `(tactic| (first
  | walk_at "go1"
  | (with_reducible apply Wn.r_bm)
  | ((with_reducible apply Wn.r_tyl); (focus (walk_at "lk"; done)))
  | ((with_reducible apply Wn.r_ext); (focus (walk_at "lk"; done)); (focus (walk_at "lk"; done)); (focus ((with_unfolding_all first | (simp only [List.length_cons, List.length_nil, List.length_append]; decide) | fail); done)))
  | ((with_reducible apply Wn.r_cat); (focus (walk_at "lk"; done)); (focus (walk_at "lk"; done)); (focus ((with_unfolding_all first | (simp only [List.length_cons, List.length_nil, List.length_append]; decide) | fail); done)))
  | (with_reducible apply Wn.r_chain)
  | ((with_reducible apply Wn.r_gtup); (focus ((first | assumption | fail); done)); (focus ((with_unfolding_all first | exact rfl | fail); done)))
  | (with_reducible apply Wn.r_gcons)
  | (with_reducible apply Wn.r_gnil)
  | ((with_reducible apply Wn.r_inF); (focus ((first | exact Or.inl (by assumption) | exact Or.inr (by assumption) | fail); done)))
  | ((with_reducible apply Wn.r_inT); (focus ((first | exact Or.inl (by assumption) | exact Or.inr (by assumption) | fail); done)))))
local macro_rules | `(tactic| walk_at "gox_23") => `(tactic| repeat (walk_at "gox1_23"))
def spNear (K : PySem.W.Frag) : Sp := fun vs H Q _ => ∃ (nv : V) (f : Fld) (n : Nat), vs = [nv, entV f.looks, .int n] ∧ NearAt K H nv f ∧ n ≤ 1000 ∧ (f.looks = none → f.nearA.length = n ∧ rowOk f.nearA) ∧
  (∀ l, f.looks = some l → f.nearL.length = n ∧ ∀ r ∈ f.nearL, r.length = n ∧ rowOk r) ∧ ∀ H', Same H H' → Q (.bl true) H'
def spWrong (K : PySem.W.Frag) : Sp := fun vs H Q _ => ∃ (wa na : Addr) (ws names : List Str) (name : Str) (fv : V) (f : Fld), vs = [.ref wa, .ref na, .str name, fv] ∧ SqT K H wa (ws.map V.str) ∧ SqL K H na (names.map V.str) ∧ FldAt K H fv f ∧
  f.Ok ws names name ∧ ws.length ≤ 1000 ∧ ∀ H', Same H H' → Q .non H'
section
variable {P : Program} {w : World} {K : PySem.W.Frag} {mg : Str → Option Value} {base : Heap}
theorem ok_is_near (T : Txt K mg) : FnOk P w K mg base CX0 3 T.f_is_near T.d_is_near ["value", "looks", "count"] (spNear K) := by
  refine T.F_is_near.ok sc_is_near (fun vs H Q E h => ?_) (fun cdv A outer s H vs Q E hr h => ?_)
  · obtain ⟨nv, f, n, rfl, _⟩ := h
    rfl
  · obtain ⟨nv, f, n, rfl, hN, hn, hA, hL, q⟩ := h
    refine ⟨_, (pss_cons (ps_if (pt_cmpR op_isN (pv 1) pe_non (nomark _)) (pss_one (ps_ret (pe_call (ok_is_entry_row T) (hr.mono (by decide)) (by rfl) T.g_is_entry_row T.F_is_entry_row.kp T.b_is_entry_row .nil pass0 (pa_cons (pv 0) (pa_cons (pv 2) pa_nil))))) pss_nil) (pss_one (ps_ret (pe_and (pe_call (ok_has_items T) (hr.mono (by decide)) (by rfl) T.g_has_items T.F_has_items.kp T.b_has_items .nil pass0 (pa_cons (pv 0) (pa_cons (pv 2) pa_nil))) (pe_one (pe_callB (cr_allK (K := K) rfl rfl) (by rfl) T.all boot_all (pa_cons (pe_lc (own := [("row", 3)]) (g := gName 3) (tt := tYes) rfl sc_is_near.nd (pi_tupK (K := K) rfl (pv 0)) (blkOk_by (N := ["value", "looks", "count", "row"]) (sc := defScope s_is_near) (by decide +kernel)) (fun _ _ _ _ _ => pg_name (i := 3) sc_is_near.nd rfl (Or.inl rfl)) (fun _ _ _ _ _ => pts_nil) (fun _ _ _ _ _ => (pe_call (ok_is_entry_row T) (hr.mono (by decide)) (by rfl) T.g_is_entry_row T.F_is_entry_row.kp T.b_is_entry_row .nil pass0 (pa_cons (pv 3) (pa_cons (pv 2) pa_nil))))) pa_nil))))))), ?_⟩
    show tSeq _ _ _ [_, _, _, none] _
    cases e : f.looks with
    | none =>
      unfold NearAt at hN
      rw [e] at hN
      obtain ⟨h1, h2⟩ := hA e
      walk_at "gox_23"
      exact ⟨nv, f.nearA, n, rfl, hN, by rw [h1], h2, by omega, q⟩
    | some l =>
      unfold NearAt at hN
      rw [e] at hN
      obtain ⟨a, vs, rfl, hS, hvl, hx⟩ := hN
      obtain ⟨h1, h2⟩ := hL l e
      walk_at "gox_23"
      refine ⟨a, vs, n, rfl, hS, by rw [hvl, h1], ?_⟩
      walk_at "gox_23"
      refine ⟨.ref a, rfl, a, rfl, ⟨_, hS⟩, fun D nD => lc_tup (K := K) (a := a) (xs := vs) (fun i H' => Same H H' ∧ H' D = some (.lst ((List.replicate i true).map V.bl))) ⟨same_new nD, upd_same⟩ (fun i H' _ h => same_sqT h.1 hS) ?_ ?_⟩
      · rintro i x H' hi ⟨sm, hD⟩
        have hlt : i < f.nearL.length := by rw [← hvl]; exact (List.getElem?_eq_some_iff.mp hi).1
        have er : f.nearL[i]? = some f.nearL[i] := List.getElem?_eq_getElem hlt
        have hr2 := (hx i x _ hi er).mono sm
        obtain ⟨k1, k2⟩ := h2 _ (List.getElem_mem hlt)
        walk_at "gox_23"
        refine ⟨x, f.nearL[i], n, rfl, hr2, by rw [k1], k2, by omega, fun H2 s2 => ?_⟩
        refine ⟨_, s2 _ _ hD, ?_, fun b o e => (upd_ne (ne_of_none e nD)).trans (s2 _ _ (sm _ _ e)), ?_⟩
        · rw [List.length_map, List.length_replicate]
          exact small1000 (by omega)
        · rw [upd_same, List.replicate_succ', List.map_append]
          rfl
      · rintro H' ⟨sm, hD⟩
        walk_at "gox_23"
        refine ⟨D, _, rfl, .inl (.inl hD), ?_⟩
        rw [show (List.replicate vs.length true).all id = true by simp]
        exact q _ sm
theorem ok_wrong_part (T : Txt K mg) : FnOk P w K mg base CX0 4 T.f_wrong_part T.d_wrong_part ["words", "names", "name", "field"] (spWrong K) := by
  refine T.F_wrong_part.ok sc_wrong_part (fun vs H Q E h => ?_) (fun cdv A outer s H vs Q E hr h => ?_)
  · obtain ⟨wa, na, ws, names, name, fv, f, rfl, _⟩ := h
    rfl
  · obtain ⟨wa, na, ws, names, name, fv, f, rfl, hW, hN, ⟨a, nv, rv, rfl, hF, hnear, hfar⟩, ok, hl, q⟩ := h
    refine ⟨_, (pss_cons (ps_asg (pv 3) (pg_tupK (K := K) (n := 4) rfl rfl (pgs_cons (pg_name (i := 4) sc_wrong_part.nd rfl (Or.inl rfl)) (pgs_cons (pg_name (i := 5) sc_wrong_part.nd rfl (Or.inl rfl)) (pgs_cons (pg_name (i := 6) sc_wrong_part.nd rfl (Or.inl rfl)) (pgs_cons (pg_name (i := 7) sc_wrong_part.nd rfl (Or.inl rfl)) pgs_nil)))))) (pss_cons (ps_if (pt_cmpR (op_notin_strsK (K := K) rfl) (pv 4) (pv 0) (by rfl)) (pss_one (ps_ret pe_str)) pss_nil) (pss_cons (ps_if (PW.pt (pw_and (pt_cmpR op_notN (pv 5) pe_non (nomark _)) (pw_and1 (PW.pt (pw_or (pt_cmpR op_eq (pv 5) (pv 2) (nomark _)) (pw_or1 (pt_cmpR (op_notin_strsK (K := K) rfl) (pv 5) (pv 1) (by rfl)))))))) (pss_one (ps_ret pe_str)) pss_nil) (pss_cons (ps_if (pt_not (pt_val (pe_call (ok_is_near T) (hr.mono (by decide)) (by rfl) T.g_is_near T.F_is_near.kp T.b_is_near .nil pass0 (pa_cons (pv 6) (pa_cons (pv 5) (pa_cons (pe_callB (call_lenK (K := K) rfl) (by rfl) T.len PySem.boot_len (pa_cons (pv 0) pa_nil)) pa_nil)))))) (pss_one (ps_ret pe_str)) pss_nil) (pss_cons (ps_if (PW.pt (pw_and (pt_cmpR op_notN (pv 7) pe_non (nomark _)) (pw_and1 (pt_not (pt_val (pe_call (ok_is_entry_row T) (hr.mono (by decide)) (by rfl) T.g_is_entry_row T.F_is_entry_row.kp T.b_is_entry_row .nil pass0 (pa_cons (pv 7) (pa_cons (pe_callB (call_lenK (K := K) rfl) (by rfl) T.len PySem.boot_len (pa_cons (pv 0) pa_nil)) pa_nil)))))))) (pss_one (ps_ret pe_str)) pss_nil) (pss_one (ps_ret pe_non))))))), ?_⟩
    show tSeq _ _ _ [_, _, _, _, none, none, none, none] _
    unfold FarAt at hfar
    cases er : f.far with
    | none =>
      rw [er] at hfar
      subst hfar
      cases el : f.looks with
      | none =>
        rw [el] at hF
        walk_at "gox_23"
        refine ite_f (nd_f ok.first) ?_
        walk_at "gox_23"
        refine ⟨nv, f, ws.length, by rw [el, List.length_map]; rfl, hnear, hl, fun _ => ok.alone el, fun l' z => ok.pairs l' z, fun H1 s1 => ?_⟩
        walk_at "gox_23"
        exact q _ s1
      | some l =>
        rw [el] at hF
        obtain ⟨l1, l2⟩ := ok.looks l el
        walk_at "gox_23"
        refine ite_f (nd_f ok.first) ?_
        walk_at "gox_23"
        refine ite_f (decide_eq_false fun z => l1 (V.str.inj z)) ?_
        walk_at "gox_23"
        refine r_inT (z := l) (.inl hN) ?_
        walk_at "gox_23"
        refine ite_f (nd_f l2) ?_
        walk_at "gox_23"
        refine ⟨nv, f, ws.length, by rw [el, List.length_map]; rfl, hnear, hl, fun z => absurd (el.symm.trans z) (by simp), fun l' z => ok.pairs l' z, fun H1 s1 => ?_⟩
        walk_at "gox_23"
        exact q _ s1
    | some r =>
      rw [er] at hfar
      obtain ⟨ra, rfl, hR⟩ := hfar
      cases el : f.looks with
      | none =>
        rw [el] at hF
        walk_at "gox_23"
        refine ite_f (nd_f ok.first) ?_
        walk_at "gox_23"
        refine ⟨nv, f, ws.length, by rw [el, List.length_map]; rfl, hnear, hl, fun _ => ok.alone el, fun l' z => ok.pairs l' z, fun H1 s1 => ?_⟩
        have hR1 := same_sqT s1 hR
        have hW1 := same_sqT s1 hW
        walk_at "gox_23"
        refine ⟨.ref ra, r, ws.length, by rw [List.length_map]; rfl, ⟨ra, rfl, hR1⟩, by rw [(ok.far r er).1], (ok.far r er).2, by have := (ok.far r er).1; omega, fun H2 s2 => ?_⟩
        walk_at "gox_23"
        exact q _ (s1.trans s2)
      | some l =>
        rw [el] at hF
        obtain ⟨l1, l2⟩ := ok.looks l el
        walk_at "gox_23"
        refine ite_f (nd_f ok.first) ?_
        walk_at "gox_23"
        refine ite_f (decide_eq_false fun z => l1 (V.str.inj z)) ?_
        walk_at "gox_23"
        refine r_inT (z := l) (.inl hN) ?_
        walk_at "gox_23"
        refine ite_f (nd_f l2) ?_
        walk_at "gox_23"
        refine ⟨nv, f, ws.length, by rw [el, List.length_map]; rfl, hnear, hl, fun z => absurd (el.symm.trans z) (by simp), fun l' z => ok.pairs l' z, fun H1 s1 => ?_⟩
        have hR1 := same_sqT s1 hR
        have hW1 := same_sqT s1 hW
        walk_at "gox_23"
        refine ⟨.ref ra, r, ws.length, by rw [List.length_map]; rfl, ⟨ra, rfl, hR1⟩, by rw [(ok.far r er).1], (ok.far r er).2, by have := (ok.far r er).1; omega, fun H2 s2 => ?_⟩
        walk_at "gox_23"
        exact q _ (s1.trans s2)
end
end Wn


namespace Wn
open PySem PySem.Spec PyProof.Rows L2
/-- a form's parts, all of them right -/
structure Parts where
  ws : List Str
  fs : List (Str × Fld)
  room : Int
structure Parts.Ok (F : Parts) : Prop where
  w2 : 2 ≤ F.ws.length
  w3 : F.ws.length ≤ 3
  wn : F.ws.Nodup
  wk : ∀ z ∈ F.ws, nameB z = true
  f1 : 1 ≤ F.fs.length
  f3 : F.fs.length ≤ 3
  fn : (F.fs.map (·.1)).Nodup
  fk : ∀ z ∈ F.fs.map (·.1), nameB z = true
  fld : ∀ p ∈ F.fs, p.2.Ok F.ws (F.fs.map (·.1)) p.1
  r1 : 1 ≤ F.room
  r3 : F.room ≤ 3

local macro_rules | `(tactic| walk_at "gox1_24") => `(tactic| (first
  | walk_at "go1"
  | (with_reducible apply Wn.r_bm)
  | ((with_reducible apply Wn.r_tyl); (focus (walk_at "lk"; done)))
  | ((with_reducible apply Wn.r_ext); (focus (walk_at "lk"; done)); (focus (walk_at "lk"; done)); (focus ((with_unfolding_all first | (simp only [List.length_cons, List.length_nil, List.length_append]; decide) | fail); done)))
  | ((with_reducible apply Wn.r_cat); (focus (walk_at "lk"; done)); (focus (walk_at "lk"; done)); (focus ((with_unfolding_all first | (simp only [List.length_cons, List.length_nil, List.length_append]; decide) | fail); done)))
  | (with_reducible apply Wn.r_chain)
  | ((with_reducible apply Wn.r_tupT); (focus ((assumption); done)))
  | ((with_reducible apply Wn.r_gtup); (focus ((first | assumption | fail); done)); (focus ((with_unfolding_all first | exact rfl | fail); done)))
  | (with_reducible apply Wn.r_gcons)
  | (with_reducible apply Wn.r_gnil)
  | ((with_reducible apply Wn.ite_t); (focus (exact decide_eq_true (by omega); done)))
  | ((with_reducible apply Wn.ite_f); (focus (exact Wn.nd_f (by omega); done)))))
local macro_rules | `(tactic| walk_at "gox_24") => `(tactic| repeat (walk_at "gox1_24"))
def spFormWords (K : PySem.W.Frag) : Sp := fun vs H Q _ => ∃ (a : Addr) (F : Parts), vs = [.ref a] ∧ F.Ok ∧ SqT K H a (F.ws.map V.str) ∧ ∀ H', Same H H' → Q (.bl true) H'
def spFormFields (K : PySem.W.Frag) : Sp := fun vs H Q _ => ∃ (a : Addr) (F : Parts), vs = [.ref a] ∧ F.Ok ∧ FieldsAt K H a F.fs ∧ ∀ H', Same H H' → Q (.bl true) H'
def spCheck (K : PySem.W.Frag) : Sp := fun vs H Q _ => ∃ (wa fa : Addr) (F : Parts), vs = [.ref wa, .ref fa, .int F.room] ∧ F.Ok ∧ SqT K H wa (F.ws.map V.str) ∧ FieldsAt K H fa F.fs ∧ ∀ H', Same H H' → Q .non H'
section
variable {P : Program} {w : World} {K : PySem.W.Frag} {mg : Str → Option Value} {base : Heap}
theorem ok_are_form_words (T : Txt K mg) : FnOk P w K mg base CX0 3 T.f_are_form_words T.d_are_form_words ["value"] (spFormWords K) := by
  refine T.F_are_form_words.ok sc_are_form_words (fun vs H Q E h => ?_) (fun cdv A outer s H vs Q E hr h => ?_)
  · obtain ⟨a, F, rfl, _⟩ := h
    rfl
  · obtain ⟨a, F, rfl, ok, hW, q⟩ := h
    have w2 := ok.w2
    have w3 := ok.w3
    have lW : (F.ws.map V.str).length = F.ws.length := List.length_map _
    refine ⟨_, (pss_one (ps_ret (pe_and (pe_callB (call_isiK' (K := K) rfl) (by rfl) T.isinstance boot_isinstance (pa_cons (pv 0) (pa_cons (pe_bltn (v := .ty "tuple") (by rfl) T.tuple_ (by decide +kernel) rfl) pa_nil))) (pe_and (pe_chain op_le op_le pe_int (pe_callB (call_lenK (K := K) rfl) (by rfl) T.len PySem.boot_len (pa_cons (pv 0) pa_nil)) pe_int) (pe_one (pe_call (ok_are_names_T T) (hr.mono (by decide)) (by rfl) T.g_are_names T.F_are_names.kp T.b_are_names .nil pass0 (pa_cons (pv 0) pa_nil))))))), ?_⟩
    show tRet _ _ [_] _
    walk_at "gox_24"
    refine ⟨a, F.ws, rfl, hW, ok.wn, ok.wk, by omega, fun H' s' => ?_⟩
    walk_at "gox_24"
    exact q _ s'
theorem ok_are_form_fields (T : Txt K mg) : FnOk P w K mg base CX0 3 T.f_are_form_fields T.d_are_form_fields ["value"] (spFormFields K) := by
  refine T.F_are_form_fields.ok sc_are_form_fields (fun vs H Q E h => ?_) (fun cdv A outer s H vs Q E hr h => ?_)
  · obtain ⟨a, F, rfl, _⟩ := h
    rfl
  · obtain ⟨a, F, rfl, ok, hF, q⟩ := h
    have f1 := ok.f1
    have f3 := ok.f3
    obtain ⟨vs, hS, hvl, hx⟩ := hF.ex
    refine ⟨_, (pss_cons (ps_if (PW.pt (pw_or (pt_not (pt_val (pe_callB (call_isiK' (K := K) rfl) (by rfl) T.isinstance boot_isinstance (pa_cons (pv 0) (pa_cons (pe_bltn (v := .ty "tuple") (by rfl) T.tuple_ (by decide +kernel) rfl) pa_nil))))) (pw_or1 (pt_not (pt_chain op_le op_le pe_int (pe_callB (call_lenK (K := K) rfl) (by rfl) T.len PySem.boot_len (pa_cons (pv 0) pa_nil)) pe_int))))) (pss_one (ps_ret pe_bl)) pss_nil) (pss_cons (ps_if (pt_not (pt_val (pe_callB (cr_allK (K := K) rfl rfl) (by rfl) T.all boot_all (pa_cons (pe_lc (own := [("pair", 1)]) (g := gName 1) (tt := tYes) rfl sc_are_form_fields.nd (pi_tupK (K := K) rfl (pv 0)) (blkOk_by (N := ["value", "pair", "name", "field"]) (sc := defScope s_are_form_fields) (by decide +kernel)) (fun _ _ _ _ _ => pg_name (i := 1) sc_are_form_fields.nd rfl (Or.inl rfl)) (fun _ _ _ _ _ => pts_nil) (fun _ _ _ _ _ => (pe_call (ok_has_items T) (hr.mono (by decide)) (by rfl) T.g_has_items T.F_has_items.kp T.b_has_items .nil pass0 (pa_cons (pv 1) (pa_cons pe_int pa_nil))))) pa_nil)))) (pss_one (ps_ret pe_bl)) pss_nil) (pss_one (ps_ret (pe_and (pe_call (ok_are_names_L T) (hr.mono (by decide)) (by rfl) T.g_are_names T.F_are_names.kp T.b_are_names .nil pass0 (pa_cons (pe_call (ok_names_of T) (hr.mono (by decide)) (by rfl) T.g_names_of T.F_names_of.kp T.b_names_of .nil pass0 (pa_cons (pv 0) pa_nil)) pa_nil)) (pe_one (pe_callB (cr_allK (K := K) rfl rfl) (by rfl) T.all boot_all (pa_cons (pe_lc (own := [("name", 2), ("field", 3)])  (tt := tYes) rfl sc_are_form_fields.nd (pi_tupK (K := K) rfl (pv 0)) (blkOk_by (N := ["value", "pair", "name", "field"]) (sc := defScope s_are_form_fields) (by decide +kernel)) (fun _ _ _ _ _ => pg_tupK (K := K) (n := 2) rfl rfl (pgs_cons (pg_name (i := 2) sc_are_form_fields.nd rfl (Or.inl rfl)) (pgs_cons (pg_name (i := 3) sc_are_form_fields.nd rfl (Or.inl rfl)) pgs_nil))) (fun _ _ _ _ _ => pts_nil) (fun _ _ _ _ _ => (pe_call (ok_has_items T) (hr.mono (by decide)) (by rfl) T.g_has_items T.F_has_items.kp T.b_has_items .nil pass0 (pa_cons (pv 3) (pa_cons pe_int pa_nil))))) pa_nil)))))))), ?_⟩
    show tSeq _ _ _ [_, none, none, none] _
    walk_at "gox_24"
    refine ⟨.ref a, rfl, a, rfl, ⟨_, hS⟩, fun D nD => lc_tup (K := K) (a := a) (xs := vs) (fun i H' => Same H H' ∧ H' D = some (.lst ((List.replicate i true).map V.bl))) ⟨same_new nD, upd_same⟩ (fun i H' _ h => same_sqT h.1 hS) ?_ ?_⟩
    · rintro i x H' hi ⟨sm, hD⟩
      have hlt : i < F.fs.length := by rw [← hvl]; exact (List.getElem?_eq_some_iff.mp hi).1
      have ef : F.fs[i]? = some F.fs[i] := List.getElem?_eq_getElem hlt
      obtain ⟨p, fv, rfl, hp, fa, nv, rv, rfl, hf4, _⟩ := hx i x _ hi ef
      have hp' := same_sqT (sm) hp
      have hf' := same_sqT (sm) hf4
      walk_at "gox_24"
      refine ⟨p, _, 2, rfl, hp', rfl, ?_⟩
      refine ⟨_, hD, ?_, fun b o e => (upd_ne (ne_of_none e nD)).trans (sm _ _ e), ?_⟩
      · rw [List.length_map, List.length_replicate]
        exact small1000 (by omega)
      · rw [upd_same, List.replicate_succ', List.map_append]
        rfl
    · rintro H1 ⟨s1, hD⟩
      walk_at "gox_24"
      refine ⟨D, _, rfl, .inl (.inl hD), ?_⟩
      rw [show (List.replicate vs.length true).all id = true by simp]
      walk_at "gox_24"
      refine ⟨a, F.fs, rfl, hF.mono s1, by omega, fun H2 na s2 nn en => ?_⟩
      walk_at "gox_24"
      refine ⟨na, F.fs.map (·.1), rfl, .inl (.inl en), ok.fn, ok.fk, by rw [List.length_map]; omega, fun H3 s3 => ?_⟩
      have s13 := s1.trans (s2.trans s3)
      have hS3 := same_sqT s13 hS
      walk_at "gox_24"
      refine ⟨.ref a, rfl, a, rfl, ⟨_, hS3⟩, fun D nD => lc_tup (K := K) (a := a) (xs := vs) (fun i H' => Same H3 H' ∧ H' D = some (.lst ((List.replicate i true).map V.bl))) ⟨same_new nD, upd_same⟩ (fun i H' _ h => same_sqT h.1 hS3) ?_ ?_⟩
      · rintro i x H' hi ⟨sm, hD⟩
        have hlt : i < F.fs.length := by rw [← hvl]; exact (List.getElem?_eq_some_iff.mp hi).1
        have ef : F.fs[i]? = some F.fs[i] := List.getElem?_eq_getElem hlt
        obtain ⟨p, fv, rfl, hp, fa, nv, rv, rfl, hf4, _⟩ := hx i x _ hi ef
        have hp' := same_sqT (s13.trans sm) hp
        have hf' := same_sqT (s13.trans sm) hf4
        walk_at "gox_24"
        refine ⟨fa, _, 4, rfl, hf', rfl, ?_⟩
        refine ⟨_, hD, ?_, fun b o e => (upd_ne (ne_of_none e nD)).trans (sm _ _ e), ?_⟩
        · rw [List.length_map, List.length_replicate]
          exact small1000 (by omega)
        · rw [upd_same, List.replicate_succ', List.map_append]
          rfl
      · rintro H4 ⟨s4, hD⟩
        walk_at "gox_24"
        refine ⟨D, _, rfl, .inl (.inl hD), ?_⟩
        rw [show (List.replicate vs.length true).all id = true by simp]
        exact q _ (s13.trans s4)
theorem ok_check_parts (T : Txt K mg) : FnOk P w K mg base CX0 5 T.f_check_parts T.d_check_parts ["words", "fields", "room"] (spCheck K) := by
  refine T.F_check_parts.ok sc_check_parts (fun vs H Q E h => ?_) (fun cdv A outer s H vs Q E hr h => ?_)
  · obtain ⟨wa, fa, F, rfl, _⟩ := h
    rfl
  · obtain ⟨wa, fa, F, rfl, ok, hW, hF, q⟩ := h
    have w3 := ok.w3
    have f3 := ok.f3
    refine ⟨_, (pss_cons (ps_if (pt_not (pt_val (pe_call (ok_are_form_words T) (hr.mono (by decide)) (by rfl) T.g_are_form_words T.F_are_form_words.kp T.b_are_form_words .nil pass0 (pa_cons (pv 0) pa_nil)))) (pss_one ps_never) pss_nil) (pss_cons (ps_if (pt_not (pt_val (pe_call (ok_are_form_fields T) (hr.mono (by decide)) (by rfl) T.g_are_form_fields T.F_are_form_fields.kp T.b_are_form_fields .nil pass0 (pa_cons (pv 1) pa_nil)))) (pss_one ps_never) pss_nil) (pss_cons (ps_for PassesOwn.never rfl (pi_tupK (K := K) rfl (pv 1)) (pg_tupK (K := K) (n := 2) rfl rfl (pgs_cons (pg_name (i := 3) sc_check_parts.nd rfl (Or.inl rfl)) (pgs_cons (pg_name (i := 4) sc_check_parts.nd rfl (Or.inl rfl)) pgs_nil))) (pss_cons (ps_set (i := 5) sc_check_parts.nd rfl (Or.inl rfl) (pe_call (ok_wrong_part T) (hr.mono (by decide)) (by rfl) T.g_wrong_part T.F_wrong_part.kp T.b_wrong_part .nil pass0 (pa_cons (pv 0) (pa_cons (pe_call (ok_names_of T) (hr.mono (by decide)) (by rfl) T.g_names_of T.F_names_of.kp T.b_names_of .nil pass0 (pa_cons (pv 1) pa_nil)) (pa_cons (pv 3) (pa_cons (pv 4) pa_nil)))))) (pss_one (ps_if (pt_cmpR op_notN (pv 5) pe_non (nomark _)) (pss_one ps_never) pss_nil)))) (pss_one (ps_if (pt_not (pt_val (pe_call (ok_is_whole T) (hr.mono (by decide)) (by rfl) T.g_is_whole T.F_is_whole.kp T.b_is_whole .nil pass0 (pa_cons (pv 2) (pa_cons pe_int (pa_cons pe_int pa_nil)))))) (pss_one ps_never) pss_nil))))), ?_⟩
    show tSeq _ _ _ [_, _, _, none, none, none] _
    walk_at "gox_24"
    refine ⟨wa, F, rfl, ok, hW, fun H1 s1 => ?_⟩
    walk_at "gox_24"
    refine ⟨fa, F, rfl, ok, hF.mono s1, fun H2 s2 => ?_⟩
    have s12 := s1.trans s2
    walk_at "gox_24"
    obtain ⟨vs, hS, hvl, hx⟩ := (hF.mono s12).ex
    refine ⟨.ref fa, rfl, fa, rfl, ⟨_, hS⟩, for_tup (K := K) (a := fa) (xs := vs) (fun i σ H' => Same H2 H' ∧ ∃ v3 v4 v5, σ = [some (.ref wa), some (.ref fa), some (.int F.room), v3, v4, v5]) ⟨Same.refl _, _, _, _, rfl⟩ (fun i σ H' _ h => same_sqT h.1 hS) ?_ ?_⟩
    · rintro i x σ H' hi ⟨sm, v3, v4, v5, rfl⟩
      have hlt : i < F.fs.length := by rw [← hvl]; exact (List.getElem?_eq_some_iff.mp hi).1
      have ef : F.fs[i]? = some F.fs[i] := List.getElem?_eq_getElem hlt
      obtain ⟨p, fv, rfl, hp, hfld⟩ := hx i x _ hi ef
      have hp' := same_sqT sm hp
      walk_at "gox_24"
      refine ⟨fa, F.fs, rfl, (hF.mono s12).mono sm, by omega, fun H3 na s3 nn en => ?_⟩
      walk_at "gox_24"
      refine ⟨wa, na, F.ws, F.fs.map (·.1), F.fs[i].1, fv, F.fs[i].2, rfl, same_sqT (s12.trans (sm.trans s3)) hW, .inl (.inl en), (hfld.mono sm).mono s3, ok.fld _ (List.getElem_mem hlt), by omega, fun H4 s4 => ?_⟩
      walk_at "gox_24"
      exact ⟨sm.trans (s3.trans s4), _, _, _, rfl⟩
    · rintro σ H' ⟨sm, v3, v4, v5, rfl⟩
      walk_at "gox_24"
      refine ⟨F.room, 1, 3, rfl, ok.r1, ok.r3, ?_⟩
      walk_at "gox_24"
      exact q _ (s12.trans sm)
end
end Wn


namespace Wn
open PySem PySem.Spec PyProof.Rows L2
/-! ### a form -/
def frm (wa fa : Addr) (r : Int) : List (Str × V) := putF "room" (.int r) (putF "fields" (.ref fa) (putF "words" (.ref wa) []))
theorem n1 : ¬ (("words" : Str) = "fields") := by decide +kernel
theorem n2 : ¬ (("words" : Str) = "room") := by decide +kernel
theorem n3 : ¬ (("fields" : Str) = "room") := by decide +kernel
theorem frm_words (wa fa : Addr) (r : Int) : (frm wa fa r).lookup ("words" : Str) = some (.ref wa) := by
  unfold frm
  rw [lookup_putF, if_neg n2, lookup_putF, if_neg n1, lookup_putF, if_pos rfl]
theorem frm_fields (wa fa : Addr) (r : Int) : (frm wa fa r).lookup ("fields" : Str) = some (.ref fa) := by
  unfold frm
  rw [lookup_putF, if_neg n3, lookup_putF, if_pos rfl]
theorem frm_room (wa fa : Addr) (r : Int) : (frm wa fa r).lookup ("room" : Str) = some (.int r) := by
  unfold frm
  rw [lookup_putF, if_pos rfl]
theorem frm_no (wa fa : Addr) (r : Int) {m : Str} (h1 : ¬ m = "room") (h2 : ¬ m = "fields") (h3 : ¬ m = "words") : (frm wa fa r).lookup m = none := by
  unfold frm
  rw [lookup_putF, if_neg h1, lookup_putF, if_neg h2, lookup_putF, if_neg h3]
  all_goals rfl
/-- a Form of these parts stands at p; the words any tuple -/
structure FormS {K : PySem.W.Frag} {mg : Str → Option Value} (T : Txt K mg) (H : Hp) (p wa fa : Addr) (F : Parts) : Prop where
  ok : F.Ok
  ob : ∃ dx, H p = some (.ins T.C dx (frm wa fa F.room))
  w : SqT K H wa (F.ws.map V.str)
  f : FieldsAt K H fa F.fs
theorem FormS.mono {K : PySem.W.Frag} {mg : Str → Option Value} {T : Txt K mg} {H H' : Hp} {p wa fa : Addr} {F : Parts} (s : Same H H') (x : FormS T H p wa fa F) : FormS T H' p wa fa F :=
  ⟨x.ok, let ⟨dx, e⟩ := x.ob; ⟨dx, s _ _ e⟩, same_sqT s x.w, x.f.mono s⟩
/-- a Form of these parts stands at p -/
structure FormAt {K : PySem.W.Frag} {mg : Str → Option Value} (T : Txt K mg) (H : Hp) (p wa fa : Addr) (F : Parts) : Prop where
  ok : F.Ok
  ob : ∃ dx, H p = some (.ins T.C dx (frm wa fa F.room))
  w : PTup H wa (F.ws.map V.str)
  f : FieldsAt K H fa F.fs
theorem FormAt.mono {K : PySem.W.Frag} {mg : Str → Option Value} {T : Txt K mg} {H H' : Hp} {p wa fa : Addr} {F : Parts} (s : Same H H') (x : FormAt T H p wa fa F) : FormAt T H' p wa fa F :=
  ⟨x.ok, let ⟨dx, e⟩ := x.ob; ⟨dx, s _ _ e⟩, x.w.mono s, x.f.mono s⟩
theorem FormAt.s {K : PySem.W.Frag} {mg : Str → Option Value} {T : Txt K mg} {H : Hp} {p wa fa : Addr} {F : Parts} (x : FormAt T H p wa fa F) : FormS T H p wa fa F := ⟨x.ok, x.ob, x.w.sq, x.f⟩

local macro_rules | `(tactic| walk_at "gox1_25") => `(tactic| (first
  | walk_at "go1"
  | (with_reducible apply Wn.r_bm)
  | ((with_reducible apply Wn.r_tyl); (focus (walk_at "lk"; done)))
  | ((with_reducible apply Wn.r_ext); (focus (walk_at "lk"; done)); (focus (walk_at "lk"; done)); (focus ((with_unfolding_all first | (simp only [List.length_cons, List.length_nil, List.length_append]; decide) | fail); done)))
  | ((with_reducible apply Wn.r_cat); (focus (walk_at "lk"; done)); (focus (walk_at "lk"; done)); (focus ((with_unfolding_all first | (simp only [List.length_cons, List.length_nil, List.length_append]; decide) | fail); done)))
  | ((with_reducible apply Wn.r_gtup); (focus ((first | assumption | fail); done)); (focus ((with_unfolding_all first | exact rfl | fail); done)))
  | (with_reducible apply Wn.r_gcons)
  | (with_reducible apply Wn.r_gnil)))
local macro_rules | `(tactic| walk_at "gox_25") => `(tactic| repeat (walk_at "gox1_25"))
def spInit {K : PySem.W.Frag} {mg : Str → Option Value} (T : Txt K mg) : Sp := fun vs H Q _ => ∃ (p dx wa fa : Addr) (F : Parts), vs = [.ref p, .ref wa, .ref fa, .int F.room] ∧ H p = some (.ins T.C dx []) ∧ F.Ok ∧ SqT K H wa (F.ws.map V.str) ∧ FieldsAt K H fa F.fs ∧
  ∀ H', (∀ b o, H b = some o → b ≠ p → H' b = some o) → H' p = some (.ins T.C dx (frm wa fa F.room)) → Q .non H'
def spFieldNames {K : PySem.W.Frag} {mg : Str → Option Value} (T : Txt K mg) : Sp := fun vs H Q _ => ∃ (p wa fa : Addr) (F : Parts), vs = [.ref p] ∧ FormS T H p wa fa F ∧
  ∀ H' q, Same H H' → H q = none → PTup H' q ((F.fs.map (·.1)).map V.str) → Q (.ref q) H'
def spPartsOf {K : PySem.W.Frag} {mg : Str → Option Value} (T : Txt K mg) : Sp := fun vs H Q _ => ∃ (p wa fa : Addr) (F : Parts) (name : Str), vs = [.ref p, .str name] ∧ FormS T H p wa fa F ∧ name ∈ F.fs.map (·.1) ∧
  ∀ (i : Nat) (f : Fld) (fv : V), F.fs[i]? = some (name, f) → FldAt K H fv f → Q fv H
section
variable {P : Program} {w : World} {K : PySem.W.Frag} {mg : Str → Option Value} {base : Heap}
theorem ok_Form_init (T : Txt K mg) : FnOk P w K mg base CX0 6 T.f_init T.d_init ["self", "words", "fields", "room"] (spInit T) := by
  refine T.F_init.ok (CX := CX0) sc_Form_init (fun vs H Q E h => ?_) (fun cdv A outer s H vs Q E hr h => ?_)
  · obtain ⟨p, dx, wa, fa, F, rfl, _⟩ := h
    rfl
  · obtain ⟨p, dx, wa, fa, F, rfl, hp, ok, hW, hF, q⟩ := h
    refine ⟨_, PSs.nox ((pss_cons (ps_expr (pe_call (ok_check_parts T) (hr.mono (by decide)) (by rfl) T.g_check_parts T.F_check_parts.kp T.b_check_parts .nil pass0 (pa_cons (pv 1) (pa_cons (pv 2) (pa_cons (pv 3) pa_nil))))) (pss_cons (ps_fld (pv 0) (pv 1) rfl) (pss_cons (ps_fld (pv 0) (pv 2) rfl) (pss_one (ps_fld (pv 0) (pv 3) rfl)))))), ?_⟩
    show tSeq _ _ _ [_, _, _, _] _
    walk_at "gox_25"
    refine ⟨wa, fa, F, rfl, ok, hW, hF, fun H1 s1 => ?_⟩
    walk_at "gox_25"
    refine ⟨_, rfl, _, rfl, p, T.C, dx, _, rfl, s1 _ _ hp, T.cl, T.na_words, (by show 0 < 1000; decide), ?_⟩
    walk_at "gox_25"
    refine ⟨_, rfl, _, rfl, p, T.C, dx, _, rfl, upd_same, T.cl, T.na_fields, (by show 1 < 1000; decide), ?_⟩
    walk_at "gox_25"
    refine ⟨_, rfl, _, rfl, p, T.C, dx, _, rfl, upd_same, T.cl, T.na_room, ?_, ?_⟩
    · have h1 := length_putF "fields" (V.ref fa) (putF "words" (V.ref wa) [])
      have h2 := length_putF "words" (V.ref wa) []
      have h0 : ([] : List (Str × V)).length = 0 := rfl
      omega
    · refine q _ (fun b o e hb => ?_) upd_same
      rw [upd_ne hb, upd_ne hb, upd_ne hb]
      exact s1 _ _ e
theorem ok_Form_field_names (T : Txt K mg) : FnOk P w K mg base CX0 3 T.f_Form_field_names T.d_Form_field_names ["self"] (spFieldNames T) := by
  refine T.F_Form_field_names.ok sc_Form_field_names (fun vs H Q E h => ?_) (fun cdv A outer s H vs Q E hr h => ?_)
  · obtain ⟨p, wa, fa, F, rfl, _⟩ := h
    rfl
  · obtain ⟨p, wa, fa, F, rfl, hP, q⟩ := h
    have f3 := hP.ok.f3
    obtain ⟨dx, hp⟩ := hP.ob
    refine ⟨_, (pss_one (ps_ret (pe_callTy (call_tupleFK (K := K) rfl) (by rfl) T.tuple_ (by decide +kernel) (pa_cons (pe_call (ok_names_of T) (hr.mono (by decide)) (by rfl) T.g_names_of T.F_names_of.kp T.b_names_of .nil pass0 (pa_cons (pe_fldK (K := K) rfl (pv 0) rfl) pa_nil)) pa_nil)))), ?_⟩
    show tRet _ _ [_] _
    walk_at "gox_25"
    refine ⟨_, rfl, p, T.C, dx, _, _, rfl, hp, T.cl, T.na_fields, frm_fields _ _ _, ?_⟩
    walk_at "gox_25"
    refine ⟨fa, F.fs, rfl, hP.f, by omega, fun H1 na s1 nn en => ?_⟩
    walk_at "gox_25"
    refine ⟨na, _, rfl, .inl (.inl en), fun t ob nt hd hc => ?_⟩
    exact q _ t (s1.trans (same_new nt)) (s1.free nt) ⟨ob, upd_same, hd, hc⟩
theorem ok_Form_parts_of (T : Txt K mg) : FnOk P w K mg base CX0 1 T.f_Form_parts_of T.d_Form_parts_of ["self", "name"] (spPartsOf T) := by
  refine T.F_Form_parts_of.ok sc_Form_parts_of (fun vs H Q E h => ?_) (fun cdv A outer s H vs Q E hr h => ?_)
  · obtain ⟨p, wa, fa, F, name, rfl, _⟩ := h
    rfl
  · obtain ⟨p, wa, fa, F, name, rfl, hP, hn, q⟩ := h
    obtain ⟨dx, hp⟩ := hP.ob
    obtain ⟨vs, hS, hvl, hx⟩ := hP.f.ex
    refine ⟨_, (pss_cons (ps_for PassesOwn.never rfl (pi_tupK (K := K) rfl (pe_fldK (K := K) rfl (pv 0) rfl)) (pg_tupK (K := K) (n := 2) rfl rfl (pgs_cons (pg_name (i := 2) sc_Form_parts_of.nd rfl (Or.inl rfl)) (pgs_cons (pg_name (i := 3) sc_Form_parts_of.nd rfl (Or.inl rfl)) pgs_nil))) (pss_one (ps_if (pt_cmpR op_eq (pv 2) (pv 1) (nomark _)) (pss_one (ps_ret (pv 3))) pss_nil))) (pss_one ps_never)), ?_⟩
    show tSeq _ _ _ [_, _, none, none] _
    walk_at "gox_25"
    refine ⟨_, rfl, p, T.C, dx, _, _, rfl, hp, T.cl, T.na_fields, frm_fields _ _ _, fa, rfl, ⟨_, hS⟩, for_tup (K := K) (a := fa) (xs := vs) (fun i σ H' => H' = H ∧ (∀ j, j < i → ∀ pr, F.fs[j]? = some pr → pr.1 ≠ name) ∧ ∃ v2 v3, σ = [some (.ref p), some (.str name), v2, v3]) ⟨rfl, fun j z => absurd z (Nat.not_lt_zero _), _, _, rfl⟩ (fun i σ H' _ h => by rw [h.1]; exact hS) ?_ ?_⟩
    · rintro i x σ H' hi ⟨rfl, hno, v2, v3, rfl⟩
      have hlt : i < F.fs.length := by rw [← hvl]; exact (List.getElem?_eq_some_iff.mp hi).1
      have ef : F.fs[i]? = some F.fs[i] := List.getElem?_eq_getElem hlt
      obtain ⟨pp, fv, rfl, hp2, hfld⟩ := hx i x _ hi ef
      walk_at "gox_25"
      by_cases e : F.fs[i].1 = name
      · refine ite_t (decide_eq_true (by rw [e])) ?_
        walk_at "gox_25"
        exact q i F.fs[i].2 fv (by rw [ef, ← e]) hfld
      · refine ite_f (decide_eq_false fun z => e (V.str.inj z)) ?_
        walk_at "gox_25"
        refine ⟨fun j hj pr ep => ?_, _, _, rfl⟩
        by_cases hji : j < i
        · exact hno j hji pr ep
        · have : j = i := by omega
          subst this
          rw [ef] at ep
          cases ep
          exact e
    · rintro σ H' ⟨rfl, hno, v2, v3, rfl⟩
      obtain ⟨pr, hpr, e⟩ := List.mem_map.mp hn
      obtain ⟨j, hj, ej⟩ := List.mem_iff_getElem.mp hpr
      exact absurd e (hno j (by rw [hvl]; exact hj) pr (by rw [List.getElem?_eq_getElem hj, ej]))
end
end Wn


namespace Wn
open PySem PySem.Spec PyProof.Rows L2
theorem kb_room {K : PySem.W.Frag} {f : Addr} {fd : FuncData} (F : FunD K "__init__" "Form.__init__" (defArgs s_Form_init) (defBody s_Form_init) (defScope s_Form_init) [] [("room", .int 3)] f fd) :
    KBn K fd ["self", "words", "fields", "room"] 3 ["room"] (fun us ws => us ++ ws) (fun vs zs => vs ++ zs) := by
  obtain ⟨mv, h⟩ := F.kbinds0 (ps := ["self", "words", "fields", "room"]) 3 ["room"] [] (fun a m z => a ++ z) (by simp) (by simp) (fun r1 r2 r3 => r1.append r3)
    (fun D doc pm an cdv ct us mv ws l1 l2 l3 => by
      match us, mv, ws, l1, l2, l3 with
      | [a, b, c], [], [d], _, _, _ => rfl)
  exact h
theorem kb_plain {K : PySem.W.Frag} {f : Addr} {fd : FuncData} (F : FunD K "__init__" "Form.__init__" (defArgs s_Form_init) (defBody s_Form_init) (defScope s_Form_init) [] [("room", .int 3)] f fd) :
    ∃ mv : List Value, KBn K fd ["self", "words", "fields", "room"] 3 [] (fun us ws => us ++ mv) (fun vs zs => vs ++ [.int 3]) := by
  obtain ⟨mv, h⟩ := F.kbinds0 (ps := ["self", "words", "fields", "room"]) 3 [] [("room", .int 3)] (fun a m z => a ++ m) (by simp) (by simp) (fun r1 r2 r3 => r1.append r2)
    (fun D doc pm an cdv ct us mv ws l1 l2 l3 => by
      match us, mv, ws, l1, l2, l3 with
      | [a, b, c], [d], [], _, _, _ => exact ⟨_, _, _, _, _, _, rfl, rfl, rfl⟩)
  exact ⟨mv, h⟩
theorem r_make {C : Addr} {n m : Nat} {sp : Sp} {gV : List V → List V → List V} {E : XK} {t tk : TA} {σ : L2.St} {H : Hp} {Q : VK} (h : t σ H fun vs H1 => tk σ H1 fun zs H2 => vs.length = n ∧ zs.length = m ∧ ∀ x dx, H2 x = none → H2 dx = none → dx ≠ x → sp (gV (.ref x :: vs) zs) (upd (upd H2 dx (.own x)) x (.ins C dx [])) (fun v H3 => v = .non ∧ Q (.ref x) H3) E) : tMakeK C n m sp gV E t tk σ H Q := h
section
variable {K : PySem.W.Frag} {mg : Str → Option Value} {T : Txt K mg} {H : Hp} {Q : VK}
theorem r_fw {f : Str} {p wa fa : Addr} {F : Parts} (hf : f = "words") (hP : FormS T H p wa fa F) (q : Q (.ref wa) H) : FldW K f (.ref p) H Q := by
  subst hf
  exact let ⟨dx, e⟩ := hP.ob
  ⟨p, T.C, dx, _, _, rfl, e, T.cl, T.na_words, frm_words _ _ _, q⟩
theorem r_ff {f : Str} {p wa fa : Addr} {F : Parts} (hf : f = "fields") (hP : FormS T H p wa fa F) (q : Q (.ref fa) H) : FldW K f (.ref p) H Q := by
  subst hf
  exact let ⟨dx, e⟩ := hP.ob
  ⟨p, T.C, dx, _, _, rfl, e, T.cl, T.na_fields, frm_fields _ _ _, q⟩
theorem r_fr {f : Str} {p wa fa : Addr} {F : Parts} (hf : f = "room") (hP : FormS T H p wa fa F) (q : Q (.int F.room) H) : FldW K f (.ref p) H Q := by
  subst hf
  exact let ⟨dx, e⟩ := hP.ob
  ⟨p, T.C, dx, _, _, rfl, e, T.cl, T.na_room, frm_room _ _ _, q⟩
theorem r_fm {m : Str} {p wa fa : Addr} {F : Parts} {A : Prop} (hP : FormS T H p wa fa F) (h1 : ¬ m = "room") (h2 : ¬ m = "fields") (h3 : ¬ m = "words") (q : A) : MthW T.C m (.ref p) H A :=
  let ⟨dx, e⟩ := hP.ob
  ⟨p, dx, _, rfl, e, frm_no _ _ _ h1 h2 h3, q⟩
end
/-- a form that has been made -/
theorem make_formS {K : PySem.W.Frag} {mg : Str → Option Value} {T : Txt K mg} {H H' : Hp} {x dx wa fa : Addr} {F : Parts} (ok : F.Ok) (hW : SqT K H wa (F.ws.map V.str)) (hF : FieldsAt K H fa F.fs) (nx : H x = none) (ndx : H dx = none) (ne : dx ≠ x)
    (h : ∀ b o, upd (upd H dx (.own x)) x (.ins T.C dx []) b = some o → b ≠ x → H' b = some o) (e : H' x = some (.ins T.C dx (frm wa fa F.room))) : Same H H' ∧ FormS T H' x wa fa F := by
  have s : Same H H' := fun b o z => h b o ((upd_ne (ne_of_none z nx)).trans ((upd_ne (ne_of_none z ndx)).trans z)) (ne_of_none z nx)
  exact ⟨s, ok, ⟨dx, e⟩, same_sqT s hW, hF.mono s⟩
theorem make_form {K : PySem.W.Frag} {mg : Str → Option Value} {T : Txt K mg} {H H' : Hp} {x dx wa fa : Addr} {F : Parts} (ok : F.Ok) (hW : PTup H wa (F.ws.map V.str)) (hF : FieldsAt K H fa F.fs) (nx : H x = none) (ndx : H dx = none) (ne : dx ≠ x)
    (h : ∀ b o, upd (upd H dx (.own x)) x (.ins T.C dx []) b = some o → b ≠ x → H' b = some o) (e : H' x = some (.ins T.C dx (frm wa fa F.room))) : Same H H' ∧ FormAt T H' x wa fa F := by
  have s : Same H H' := fun b o z => h b o ((upd_ne (ne_of_none z nx)).trans ((upd_ne (ne_of_none z ndx)).trans z)) (ne_of_none z nx)
  exact ⟨s, ok, ⟨dx, e⟩, hW.mono s, hF.mono s⟩
theorem fld_uniq {fs : List (Str × Fld)} {name : Str} {f f' : Fld} {i : Nat} (n : (fs.map (·.1)).Nodup) (h : (name, f) ∈ fs) (e : fs[i]? = some (name, f')) : f' = f := by
  obtain ⟨j, hj, ej⟩ := List.mem_iff_getElem.mp h
  have e1 : (fs.map (·.1))[j]? = some name := by rw [List.getElem?_map, List.getElem?_eq_getElem hj, ej]; rfl
  have e2 : (fs.map (·.1))[i]? = some name := by rw [List.getElem?_map, e]; rfl
  have hji : j = i := (List.getElem?_inj (List.getElem?_eq_some_iff.mp e1).1 n).mp (by rw [e1, e2])
  subst hji
  rw [List.getElem?_eq_getElem hj, ej] at e
  exact (Prod.mk.inj (Option.some.inj e)).2.symm
theorem name_in {fs : List (Str × Fld)} {name : Str} {f : Fld} (h : (name, f) ∈ fs) : name ∈ fs.map (·.1) := List.mem_map.mpr ⟨_, h, rfl⟩
end Wn


namespace Wn
open PySem PySem.Spec PyProof.Rows L2
/-! ### what is right at given words -/
def Parts.pick (F : Parts) (row : List Str) (name : Str) : Str := (row[idx (F.fs.map (·.1)) name]?).getD ""
def Parts.wp (F : Parts) (row : List Str) (name : Str) : Nat := idx F.ws (F.pick row name)
structure RowOk (F : Parts) (row : List Str) : Prop where
  len : row.length = F.fs.length
  wd : ∀ z ∈ row, z ∈ F.ws
def Fld.nearE (f : Fld) (j k : Nat) : Option Str := match f.looks with
  | none => (f.nearA[j]?).getD none
  | some _ => (((f.nearL[j]?).getD [])[k]?).getD none
def Fld.farE (f : Fld) (j : Nat) : Option Str := match f.far with
  | none => none
  | some r => (r[j]?).getD none
def Parts.near (F : Parts) (row : List Str) (name : Str) (f : Fld) : Option Str := f.nearE (F.wp row name) (F.wp row (f.looks.getD ""))
def Parts.due (F : Parts) (row : List Str) (name : Str) (f : Fld) : Option Str := match F.near row name f with
  | some z => some z
  | none => f.farE (F.wp row name)
theorem pick_at {F : Parts} {row : List Str} {name : Str} (ok : RowOk F row) (h : name ∈ F.fs.map (·.1)) : row[idx (F.fs.map (·.1)) name]? = some (F.pick row name) ∧ F.pick row name ∈ F.ws := by
  have h2 := idx_at h
  have hi : idx (F.fs.map (·.1)) name < row.length := by
    have := (List.getElem?_eq_some_iff.mp h2).1
    rw [List.length_map] at this
    rw [ok.len]
    exact this
  have e : row[idx (F.fs.map (·.1)) name]? = some row[idx (F.fs.map (·.1)) name] := List.getElem?_eq_getElem hi
  have e2 : F.pick row name = row[idx (F.fs.map (·.1)) name] := by unfold Parts.pick; rw [e]; rfl
  rw [e2]
  exact ⟨e, ok.wd _ (List.getElem_mem hi)⟩
theorem wp_lt {F : Parts} {row : List Str} {name : Str} (ok : RowOk F row) (h : name ∈ F.fs.map (·.1)) : F.wp row name < F.ws.length := (List.getElem?_eq_some_iff.mp (idx_at (pick_at ok h).2)).1

local macro_rules | `(tactic| walk_at "gox1_27") => `(tactic| (first
  | walk_at "go1"
  | (with_reducible apply Wn.r_bm)
  | ((with_reducible apply Wn.r_tyl); (focus (walk_at "lk"; done)))
  | ((with_reducible apply Wn.r_ext); (focus (walk_at "lk"; done)); (focus (walk_at "lk"; done)); (focus ((with_unfolding_all first | (simp only [List.length_cons, List.length_nil, List.length_append]; decide) | fail); done)))
  | ((with_reducible apply Wn.r_cat); (focus (walk_at "lk"; done)); (focus (walk_at "lk"; done)); (focus ((with_unfolding_all first | (simp only [List.length_cons, List.length_nil, List.length_append]; decide) | fail); done)))
  | (with_reducible apply Wn.r_bt)
  | (with_reducible apply Wn.r_fld)
  | (with_reducible apply Wn.r_meth)
  | ((with_reducible apply Wn.r_pt); (focus ((first | assumption | fail); done)))
  | ((with_reducible apply Wn.r_fw); (focus ((with_unfolding_all first | exact rfl | fail); done)); (focus ((first | assumption | exact Wn.FormAt.s (by assumption) | fail); done)))
  | ((with_reducible apply Wn.r_ff); (focus ((with_unfolding_all first | exact rfl | fail); done)); (focus ((first | assumption | exact Wn.FormAt.s (by assumption) | fail); done)))
  | ((with_reducible apply Wn.r_fm); (focus ((first | assumption | exact Wn.FormAt.s (by assumption) | fail); done)); (focus ((decide +kernel); done)); (focus ((decide +kernel); done)); (focus ((decide +kernel); done)))
  | ((with_reducible apply Wn.r_ti); (focus ((first | assumption | exact Wn.PTup.sq (by assumption) | fail); done)); (focus ((first | assumption | fail); done)))
  | ((with_reducible apply Wn.r_tupT); (focus ((assumption); done)))
  | ((with_reducible apply Wn.r_gtup); (focus ((first | assumption | fail); done)); (focus ((with_unfolding_all first | exact rfl | fail); done)))
  | (with_reducible apply Wn.r_gcons)
  | (with_reducible apply Wn.r_gnil)
  | ((with_reducible apply Wn.r_inF); (focus ((first | exact Or.inl (by assumption) | exact Or.inr (by assumption) | fail); done)))
  | ((with_reducible apply Wn.r_inT); (focus ((first | exact Or.inl (by assumption) | exact Or.inr (by assumption) | fail); done)))))
local macro_rules | `(tactic| walk_at "gox_27") => `(tactic| repeat (walk_at "gox1_27"))
def spCheckWords {K : PySem.W.Frag} {mg : Str → Option Value} (T : Txt K mg) : Sp := fun vs H Q _ => ∃ (p wa fa : Addr) (F : Parts) (ra : Addr) (row : List Str), vs = [.ref p, .ref ra] ∧ FormAt T H p wa fa F ∧ SqT K H ra (row.map V.str) ∧ RowOk F row ∧ ∀ H', Same H H' → Q .non H'
def spWordIndex {K : PySem.W.Frag} {mg : Str → Option Value} (T : Txt K mg) : Sp := fun vs H Q _ => ∃ (p wa fa : Addr) (F : Parts) (ra : Addr) (row : List Str) (name : Str), vs = [.ref p, .ref ra, .str name] ∧ FormAt T H p wa fa F ∧ SqT K H ra (row.map V.str) ∧ RowOk F row ∧ name ∈ F.fs.map (·.1) ∧
  ∀ H', Same H H' → Q (.int (F.wp row name : Nat)) H'
def spFar {K : PySem.W.Frag} {mg : Str → Option Value} (T : Txt K mg) : Sp := fun vs H Q _ => ∃ (p wa fa : Addr) (F : Parts) (name word : Str) (f : Fld), vs = [.ref p, .str name, .str word] ∧ FormAt T H p wa fa F ∧ (name, f) ∈ F.fs ∧ word ∈ F.ws ∧ Q (entV (f.farE (idx F.ws word))) H
def spNearE {K : PySem.W.Frag} {mg : Str → Option Value} (T : Txt K mg) : Sp := fun vs H Q _ => ∃ (p wa fa : Addr) (F : Parts) (ra : Addr) (row : List Str) (name : Str) (f : Fld), vs = [.ref p, .ref ra, .str name] ∧ FormAt T H p wa fa F ∧ SqT K H ra (row.map V.str) ∧ RowOk F row ∧ (name, f) ∈ F.fs ∧
  ∀ H', Same H H' → Q (entV (F.near row name f)) H'
def spDue {K : PySem.W.Frag} {mg : Str → Option Value} (T : Txt K mg) : Sp := fun vs H Q _ => ∃ (p wa fa : Addr) (F : Parts) (ra : Addr) (row : List Str) (name : Str) (f : Fld), vs = [.ref p, .ref ra, .str name] ∧ FormAt T H p wa fa F ∧ SqT K H ra (row.map V.str) ∧ RowOk F row ∧ (name, f) ∈ F.fs ∧
  ∀ H', Same H H' → Q (entV (F.due row name f)) H'
def spDues {K : PySem.W.Frag} {mg : Str → Option Value} (T : Txt K mg) : Sp := fun vs H Q _ => ∃ (p wa fa : Addr) (F : Parts) (ra : Addr) (row : List Str), vs = [.ref p, .ref ra] ∧ FormAt T H p wa fa F ∧ SqT K H ra (row.map V.str) ∧ RowOk F row ∧
  ∀ H' q, Same H H' → H q = none → H' q = some (.tup (F.fs.map fun x => entV (F.due row x.1 x.2))) → Q (.ref q) H'
section
variable {P : Program} {w : World} {K : PySem.W.Frag} {mg : Str → Option Value} {base : Heap}
theorem ok_check_words (T : Txt K mg) : FnOk P w K mg base CX0 1 T.f_check_words T.d_check_words ["form", "words"] (spCheckWords T) := by
  refine T.F_check_words.ok sc_check_words (fun vs H Q E h => ?_) (fun cdv A outer s H vs Q E hr h => ?_)
  · obtain ⟨p, wa, fa, F, ra, row, rfl, _⟩ := h
    rfl
  · obtain ⟨p, wa, fa, F, ra, row, rfl, hP, hR, ok, q⟩ := h
    obtain ⟨vs, hS, hvl, hx⟩ := hP.f.ex
    have hW := hP.w.sq (K := K)
    have f3 := hP.ok.f3
    refine ⟨_, (pss_cons (ps_if (PW.pt (pw_or (pt_not (pt_val (pe_callB (call_isiK' (K := K) rfl) (by rfl) T.isinstance boot_isinstance (pa_cons (pv 1) (pa_cons (pe_bltn (v := .ty "tuple") (by rfl) T.tuple_ (by decide +kernel) rfl) pa_nil))))) (pw_or1 (pt_cmpR op_ne (pe_callB (call_lenK (K := K) rfl) (by rfl) T.len PySem.boot_len (pa_cons (pv 1) pa_nil)) (pe_callB (call_lenK (K := K) rfl) (by rfl) T.len PySem.boot_len (pa_cons (pe_fldK (K := K) rfl (pv 0) rfl) pa_nil)) (nomark _))))) (pss_one ps_never) pss_nil) (pss_one (ps_if (pt_not (pt_val (pe_callB (cr_allK (K := K) rfl rfl) (by rfl) T.all boot_all (pa_cons (pe_lc (own := [("word", 2)]) (g := gName 2) (tt := tYes) rfl sc_check_words.nd (pi_tupK (K := K) rfl (pv 1)) (blkOk_by (N := ["form", "words", "word"]) (sc := defScope s_check_words) (by decide +kernel)) (fun _ _ _ _ _ => pg_name (i := 2) sc_check_words.nd rfl (Or.inl rfl)) (fun _ _ _ _ _ => pts_nil) (fun _ _ _ _ _ => (pe_cmpR (op_in_strsK (K := K) rfl) (pv 2) (pe_fldK (K := K) rfl (pv 0) rfl) (by rfl)))) pa_nil)))) (pss_one ps_never) pss_nil))), ?_⟩
    show tSeq _ _ _ [_, _, none] _
    walk_at "gox_27"
    refine ite_f (nd_f (by rw [List.length_map, ok.len, hvl])) ?_
    walk_at "gox_27"
    refine ⟨.ref ra, rfl, ra, rfl, ⟨_, hR⟩, fun D nD => lc_tup (K := K) (a := ra) (xs := row.map V.str) (fun i H' => Same H H' ∧ H' D = some (.lst ((List.replicate i true).map V.bl))) ⟨same_new nD, upd_same⟩ (fun i H' _ h => same_sqT h.1 hR) ?_ ?_⟩
    · rintro i x H' hi ⟨sm, hD⟩
      obtain ⟨z, hz, rfl⟩ := str_at hi
      have hz2 := ok.wd z (List.mem_of_getElem? hz)
      have hlt : i < row.length := (List.getElem?_eq_some_iff.mp hz).1
      have hl := ok.len
      have hP1 := hP.mono sm
      have hW1 := same_sqT sm hW
      walk_at "gox_27"
      rw [decide_eq_true hz2]
      refine ⟨_, hD, ?_, fun b o e => (upd_ne (ne_of_none e nD)).trans (sm _ _ e), ?_⟩
      · rw [List.length_map, List.length_replicate]
        exact small1000 (by omega)
      · rw [upd_same, List.replicate_succ', List.map_append]
        rfl
    · rintro H' ⟨sm, hD⟩
      walk_at "gox_27"
      refine ⟨D, _, rfl, .inl (.inl hD), ?_⟩
      rw [show (List.replicate (row.map V.str).length true).all id = true by simp]
      walk_at "gox_27"
      exact q _ sm
theorem ok_word_index (T : Txt K mg) : FnOk P w K mg base CX0 4 T.f_word_index T.d_word_index ["form", "words", "name"] (spWordIndex T) := by
  refine T.F_word_index.ok sc_word_index (fun vs H Q E h => ?_) (fun cdv A outer s H vs Q E hr h => ?_)
  · obtain ⟨p, wa, fa, F, ra, row, name, rfl, _⟩ := h
    rfl
  · obtain ⟨p, wa, fa, F, ra, row, name, rfl, hP, hR, ok, hn, q⟩ := h
    obtain ⟨hz, hzw⟩ := pick_at ok hn
    have hw := hP.w
    refine ⟨_, (pss_one (ps_ret (pe_bt PySem.F.slot_tuple_index PySem.F.type_tuple_index (mt_tiK (K := K) rfl) (pe_fldK (K := K) rfl (pv 0) rfl) (pa_cons (pe_ix (ix_aK (K := K) rfl) (pv 1) (pe_bt PySem.F.slot_tuple_index PySem.F.type_tuple_index (mt_tiK (K := K) rfl) (pe_meth0 (pv 0) T.cl T.m_Form_field_names (ok_Form_field_names T) (hr.mono (by decide)) T.b_Form_field_names .nil pass0) (pa_cons (pv 2) pa_nil)) (fun _ _ => rfl)) pa_nil)))), ?_⟩
    show tRet _ _ [_, _, _] _
    walk_at "gox_27"
    refine ⟨p, wa, fa, F, rfl, hP.s, fun H1 na s1 n1 en => ?_⟩
    have hR1 := same_sqT s1 hR
    have hw1 := hw.mono s1
    walk_at "gox_27"
    refine r_ixa (.inr hR1) (atI_nat (by rw [List.getElem?_map, hz]; rfl)) ?_
    walk_at "gox_27"
    exact q _ s1
theorem ok_far_entry (T : Txt K mg) : FnOk P w K mg base CX0 2 T.f_far_entry T.d_far_entry ["form", "name", "word"] (spFar T) := by
  refine T.F_far_entry.ok sc_far_entry (fun vs H Q E h => ?_) (fun cdv A outer s H vs Q E hr h => ?_)
  · obtain ⟨p, wa, fa, F, name, word, f, rfl, _⟩ := h
    rfl
  · obtain ⟨p, wa, fa, F, name, word, f, rfl, hP, hf, hwd, q⟩ := h
    have hw := hP.w
    have hW := hw.sq (K := K)
    refine ⟨_, (pss_cons (ps_asg (pe_meth (pv 0) T.cl T.m_Form_parts_of (ok_Form_parts_of T) (hr.mono (by decide)) T.b_Form_parts_of .nil pass0 (pa_cons (pv 1) pa_nil)) (pg_tupK (K := K) (n := 4) rfl rfl (pgs_cons (pg_name (i := 3) sc_far_entry.nd rfl (Or.inl rfl)) (pgs_cons (pg_name (i := 4) sc_far_entry.nd rfl (Or.inl rfl)) (pgs_cons (pg_name (i := 5) sc_far_entry.nd rfl (Or.inl rfl)) (pgs_cons (pg_name (i := 6) sc_far_entry.nd rfl (Or.inl rfl)) pgs_nil)))))) (pss_cons (ps_if (pt_cmpR (op_notin_strsK (K := K) rfl) (pv 2) (pe_fldK (K := K) rfl (pv 0) rfl) (by rfl)) (pss_one ps_never) pss_nil) (pss_cons (ps_if (pt_cmpR op_isN (pv 6) pe_non (nomark _)) (pss_one (ps_ret pe_non)) pss_nil) (pss_one (ps_ret (pe_ix (ix_aK (K := K) rfl) (pv 6) (pe_bt PySem.F.slot_tuple_index PySem.F.type_tuple_index (mt_tiK (K := K) rfl) (pe_fldK (K := K) rfl (pv 0) rfl) (pa_cons (pv 2) pa_nil)) (fun _ _ => rfl))))))), ?_⟩
    show tSeq _ _ _ [_, _, _, none, none, none, none] _
    walk_at "gox_27"
    refine ⟨p, wa, fa, F, name, rfl, hP.s, name_in hf, fun i f' fv ef hfl => ?_⟩
    have ef' := fld_uniq hP.ok.fn hf ef
    subst ef'
    obtain ⟨a, nv, rv, rfl, hF, hnear, hfar⟩ := hfl
    walk_at "gox_27"
    refine ite_f (nd_f hwd) ?_
    unfold FarAt at hfar
    unfold Fld.farE at q
    cases er : f'.far with
    | none =>
      rw [er] at hfar q
      subst hfar
      walk_at "gox_27"
      exact q
    | some r =>
      rw [er] at hfar q
      obtain ⟨xa, rfl, hX⟩ := hfar
      walk_at "gox_27"
      have hl := (hP.ok.fld _ hf).far r er
      have hi : idx F.ws word < r.length := by rw [hl.1]; exact (List.getElem?_eq_some_iff.mp (idx_at hwd)).1
      refine r_ixa (.inr hX) (atI_nat (by rw [List.getElem?_map, List.getElem?_eq_getElem hi]; rfl)) ?_
      simp only [List.getElem?_eq_getElem hi, Option.getD_some] at q
      exact q
theorem ok_near_entry (T : Txt K mg) : FnOk P w K mg base CX0 5 T.f_near_entry T.d_near_entry ["form", "words", "name"] (spNearE T) := by
  refine T.F_near_entry.ok sc_near_entry (fun vs H Q E h => ?_) (fun cdv A outer s H vs Q E hr h => ?_)
  · obtain ⟨p, wa, fa, F, ra, row, name, f, rfl, _⟩ := h
    rfl
  · obtain ⟨p, wa, fa, F, ra, row, name, f, rfl, hP, hR, ok, hf, q⟩ := h
    have hn := name_in hf
    refine ⟨_, (pss_cons (ps_expr (pe_call (ok_check_words T) (hr.mono (by decide)) (by rfl) T.g_check_words T.F_check_words.kp T.b_check_words .nil pass0 (pa_cons (pv 0) (pa_cons (pv 1) pa_nil)))) (pss_cons (ps_asg (pe_meth (pv 0) T.cl T.m_Form_parts_of (ok_Form_parts_of T) (hr.mono (by decide)) T.b_Form_parts_of .nil pass0 (pa_cons (pv 2) pa_nil)) (pg_tupK (K := K) (n := 4) rfl rfl (pgs_cons (pg_name (i := 3) sc_near_entry.nd rfl (Or.inl rfl)) (pgs_cons (pg_name (i := 4) sc_near_entry.nd rfl (Or.inl rfl)) (pgs_cons (pg_name (i := 5) sc_near_entry.nd rfl (Or.inl rfl)) (pgs_cons (pg_name (i := 6) sc_near_entry.nd rfl (Or.inl rfl)) pgs_nil)))))) (pss_cons (ps_set (i := 7) sc_near_entry.nd rfl (Or.inl rfl) (pe_ix (ix_aK (K := K) rfl) (pv 5) (pe_call (ok_word_index T) (hr.mono (by decide)) (by rfl) T.g_word_index T.F_word_index.kp T.b_word_index .nil pass0 (pa_cons (pv 0) (pa_cons (pv 1) (pa_cons (pv 2) pa_nil)))) (fun _ _ => rfl))) (pss_cons (ps_if (pt_cmpR op_isN (pv 4) pe_non (nomark _)) (pss_one (ps_ret (pv 7))) pss_nil) (pss_one (ps_ret (pe_ix (ix_aK (K := K) rfl) (pv 7) (pe_call (ok_word_index T) (hr.mono (by decide)) (by rfl) T.g_word_index T.F_word_index.kp T.b_word_index .nil pass0 (pa_cons (pv 0) (pa_cons (pv 1) (pa_cons (pv 4) pa_nil)))) (fun _ _ => rfl)))))))), ?_⟩
    show tSeq _ _ _ [_, _, _, none, none, none, none, none] _
    walk_at "gox_27"
    refine ⟨p, wa, fa, F, ra, row, rfl, hP, hR, ok, fun H1 s1 => ?_⟩
    have hP1 := hP.mono s1
    have hR1 := same_sqT s1 hR
    walk_at "gox_27"
    refine ⟨p, wa, fa, F, name, rfl, hP1.s, hn, fun i f' fv ef hfl => ?_⟩
    have ef' := fld_uniq hP.ok.fn hf ef
    subst ef'
    obtain ⟨a, nv, rv, rfl, hF, hnear, hfar⟩ := hfl
    have hok := hP.ok.fld _ hf
    have hlt := wp_lt ok hn
    walk_at "gox_27"
    refine ⟨p, wa, fa, F, ra, row, name, rfl, hP1, hR1, ok, hn, fun H2 s2 => ?_⟩
    have hP2 := hP1.mono s2
    have hR2 := same_sqT s2 hR1
    replace hnear := hnear.mono s2
    unfold NearAt at hnear
    unfold Parts.near Fld.nearE at q
    cases el : f'.looks with
    | none =>
      rw [el] at hnear q
      obtain ⟨xa, rfl, hX⟩ := hnear
      have hi : F.wp row name < f'.nearA.length := by rw [(hok.alone el).1]; exact hlt
      refine r_ixa (.inr hX) (atI_nat (by rw [List.getElem?_map, List.getElem?_eq_getElem hi]; rfl)) ?_
      walk_at "gox_27"
      simp only [List.getElem?_eq_getElem hi] at q
      exact q _ (s1.trans s2)
    | some l =>
      rw [el] at hnear q
      obtain ⟨xa, xs, rfl, hX, hxl, hrow⟩ := hnear
      have hi : F.wp row name < f'.nearL.length := by rw [(hok.pairs l el).1]; exact hlt
      have hi2 : F.wp row name < xs.length := by rw [hxl]; exact hi
      obtain ⟨l1, l2⟩ := hok.looks l el
      obtain ⟨ya, ey, hY⟩ := hrow _ _ _ (List.getElem?_eq_getElem hi2) (List.getElem?_eq_getElem hi)
      refine r_ixa (.inr hX) (atI_nat (by rw [List.getElem?_eq_getElem hi2, ey])) ?_
      walk_at "gox_27"
      refine ⟨p, wa, fa, F, ra, row, l, rfl, hP2, hR2, ok, l2, fun H3 s3 => ?_⟩
      have hY3 := same_sqT s3 hY
      have hk : F.wp row l < f'.nearL[F.wp row name].length := by rw [((hok.pairs l el).2 _ (List.getElem_mem hi)).1]; exact wp_lt ok l2
      refine r_ixa (.inr hY3) (atI_nat (by rw [List.getElem?_map, List.getElem?_eq_getElem hk]; rfl)) ?_
      walk_at "gox_27"
      simp only [Option.getD_some, List.getElem?_eq_getElem hi, List.getElem?_eq_getElem hk] at q
      exact q _ (s1.trans (s2.trans s3))
theorem ok_true_error (T : Txt K mg) : FnOk P w K mg base CX0 6 T.f_true_error T.d_true_error ["form", "words", "name"] (spDue T) := by
  refine T.F_true_error.ok sc_true_error (fun vs H Q E h => ?_) (fun cdv A outer s H vs Q E hr h => ?_)
  · obtain ⟨p, wa, fa, F, ra, row, name, f, rfl, _⟩ := h
    rfl
  · obtain ⟨p, wa, fa, F, ra, row, name, f, rfl, hP, hR, ok, hf, q⟩ := h
    have hn := name_in hf
    obtain ⟨hz, hzw⟩ := pick_at ok hn
    refine ⟨_, (pss_cons (ps_set (i := 3) sc_true_error.nd rfl (Or.inl rfl) (pe_call (ok_near_entry T) (hr.mono (by decide)) (by rfl) T.g_near_entry T.F_near_entry.kp T.b_near_entry .nil pass0 (pa_cons (pv 0) (pa_cons (pv 1) (pa_cons (pv 2) pa_nil))))) (pss_cons (ps_if (pt_cmpR op_notN (pv 3) pe_non (nomark _)) (pss_one (ps_ret (pv 3))) pss_nil) (pss_one (ps_ret (pe_call (ok_far_entry T) (hr.mono (by decide)) (by rfl) T.g_far_entry T.F_far_entry.kp T.b_far_entry .nil pass0 (pa_cons (pv 0) (pa_cons (pv 2) (pa_cons (pe_ix (ix_aK (K := K) rfl) (pv 1) (pe_bt PySem.F.slot_tuple_index PySem.F.type_tuple_index (mt_tiK (K := K) rfl) (pe_meth0 (pv 0) T.cl T.m_Form_field_names (ok_Form_field_names T) (hr.mono (by decide)) T.b_Form_field_names .nil pass0) (pa_cons (pv 2) pa_nil)) (fun _ _ => rfl)) pa_nil)))))))), ?_⟩
    show tSeq _ _ _ [_, _, _, none] _
    walk_at "gox_27"
    refine ⟨p, wa, fa, F, ra, row, name, f, rfl, hP, hR, ok, hf, fun H1 s1 => ?_⟩
    have hP1 := hP.mono s1
    have hR1 := same_sqT s1 hR
    unfold Parts.due at q
    cases e : F.near row name f with
    | some z =>
      rw [e] at q
      walk_at "gox_27"
      exact q _ s1
    | none =>
      rw [e] at q
      walk_at "gox_27"
      refine ⟨p, wa, fa, F, rfl, hP1.s, fun H2 na s2 n2 en => ?_⟩
      have hP2 := hP1.mono s2
      have hR2 := same_sqT s2 hR1
      walk_at "gox_27"
      refine r_ixa (.inr hR2) (atI_nat (by rw [List.getElem?_map, hz]; rfl)) ?_
      walk_at "gox_27"
      exact ⟨p, wa, fa, F, name, F.pick row name, f, rfl, hP2, hf, hzw, q _ (s1.trans s2)⟩
theorem ok_true_errors (T : Txt K mg) : FnOk P w K mg base CX0 7 T.f_true_errors T.d_true_errors ["form", "words"] (spDues T) := by
  refine T.F_true_errors.ok sc_true_errors (fun vs H Q E h => ?_) (fun cdv A outer s H vs Q E hr h => ?_)
  · obtain ⟨p, wa, fa, F, ra, row, rfl, _⟩ := h
    rfl
  · obtain ⟨p, wa, fa, F, ra, row, rfl, hP, hR, ok, q⟩ := h
    have f3 := hP.ok.f3
    refine ⟨_, (pss_cons (ps_expr (pe_call (ok_check_words T) (hr.mono (by decide)) (by rfl) T.g_check_words T.F_check_words.kp T.b_check_words .nil pass0 (pa_cons (pv 0) (pa_cons (pv 1) pa_nil)))) (pss_one (ps_ret (pe_callTy (call_tupleK (K := K) rfl) (by rfl) T.tuple_ (by decide +kernel) (pa_cons (pe_lc (own := [("name", 2)]) (g := gName 2) (tt := tYes) rfl sc_true_errors.nd (pi_tupK (K := K) rfl (pe_meth0 (pv 0) T.cl T.m_Form_field_names (ok_Form_field_names T) (hr.mono (by decide)) T.b_Form_field_names .nil pass0)) (blkOk_by (N := ["form", "words", "name"]) (sc := defScope s_true_errors) (by decide +kernel)) (fun _ _ _ _ _ => pg_name (i := 2) sc_true_errors.nd rfl (Or.inl rfl)) (fun _ _ _ _ _ => pts_nil) (fun _ _ _ _ _ => (pe_call (ok_true_error T) (hr.mono (by decide)) (by rfl) T.g_true_error T.F_true_error.kp T.b_true_error .nil pass0 (pa_cons (pv 0) (pa_cons (pv 1) (pa_cons (pv 2) pa_nil)))))) pa_nil))))), ?_⟩
    show tSeq _ _ _ [_, _, none] _
    walk_at "gox_27"
    refine ⟨p, wa, fa, F, ra, row, rfl, hP, hR, ok, fun H1 s1 => ?_⟩
    have hP1 := hP.mono s1
    have hR1 := same_sqT s1 hR
    walk_at "gox_27"
    show tMeth T.C _ _ _ _ _ _ _ _ _
    walk_at "gox_27"
    refine ⟨p, wa, fa, F, rfl, hP1.s, fun H2 na s2 n2 en => ?_⟩
    have hP2 := hP1.mono s2
    have hR2 := same_sqT s2 hR1
    have hN := en.sq (K := K)
    refine ⟨na, rfl, ⟨_, hN⟩, fun D nD => lc_tup (K := K) (a := na) (xs := (F.fs.map (·.1)).map V.str) (fun i H' => Same H2 H' ∧ H' D = some (.lst ((F.fs.take i).map fun x => entV (F.due row x.1 x.2)))) ⟨same_new nD, upd_same⟩ (fun i H' _ h => same_sqT h.1 hN) ?_ ?_⟩
    · rintro i x H' hi ⟨sm, hD⟩
      obtain ⟨z, hz, rfl⟩ := str_at hi
      have hlt : i < F.fs.length := by have := (List.getElem?_eq_some_iff.mp hz).1; rw [List.length_map] at this; exact this
      have ef : F.fs[i]? = some F.fs[i] := List.getElem?_eq_getElem hlt
      have ez : z = F.fs[i].1 := by rw [List.getElem?_map, ef] at hz; exact (Option.some.inj hz).symm
      subst ez
      walk_at "gox_27"
      refine ⟨p, wa, fa, F, ra, row, F.fs[i].1, F.fs[i].2, rfl, hP2.mono sm, same_sqT sm hR2, ok, List.getElem_mem hlt, fun H3 s3 => ?_⟩
      refine ⟨_, s3 _ _ hD, ?_, fun b o e => (upd_ne (ne_of_none e nD)).trans (s3 _ _ (sm _ _ e)), ?_⟩
      · rw [List.length_map, List.length_take]
        exact small1000 (by omega)
      · rw [upd_same, take_at ef, List.map_append]
        rfl
    · rintro H' ⟨sm, hD⟩
      rw [List.length_map, List.length_map, List.take_length] at hD
      walk_at "gox_27"
      refine ⟨D, _, rfl, .inl (.inl hD), fun t nt => ?_⟩
      have s3 := s1.trans (s2.trans sm)
      exact q _ t (s3.trans (same_new nt)) (s3.free nt) upd_same
end
end Wn


namespace Wn
open PySem PySem.Spec PyProof.Rows L2
section
variable {P : Program} {w : World} {K : PySem.W.Frag} {mg : Str → Option Value} {base : Heap}
theorem ok_L_box (T : Txt K mg) : FnOk P w K mg base CX0 2 T.f_L_box T.d_L_box ["_law_script"] (spBox K) := ok_box T.F_L_box T.F_L_mix T.b_L_mix T.g_L_mix T.B.int
theorem ok_L_draw (T : Txt K mg) : FnOk P w K mg base CX0 2 T.f_L_draw T.d_L_draw ["_law_box_here", "_law_many"] spDraw := ok_draw T.F_L_draw T.F_L_mix T.b_L_mix T.g_L_mix T.B.int T.B.len
theorem ok_L_same (T : Txt K mg) : FnOk P w K mg base CX0 9 T.f_L_same T.d_L_same ["_law_told_here", "_law_due"] (spSame K 8) := ok_same T.F_L_same T.b_L_same T.g_L_same T.B 8
end

local macro_rules | `(tactic| walk_at "gox1_28") => `(tactic| (first
  | walk_at "go1"
  | (with_reducible apply Wn.r_bm)
  | ((with_reducible apply Wn.r_tyl); (focus (walk_at "lk"; done)))
  | ((with_reducible apply Wn.r_ext); (focus (walk_at "lk"; done)); (focus (walk_at "lk"; done)); (focus ((with_unfolding_all first | (simp only [List.length_cons, List.length_nil, List.length_append]; decide) | fail); done)))
  | ((with_reducible apply Wn.r_cat); (focus (walk_at "lk"; done)); (focus (walk_at "lk"; done)); (focus ((with_unfolding_all first | (simp only [List.length_cons, List.length_nil, List.length_append]; decide) | fail); done)))
  | ((with_reducible apply Wn.r_ixabc); (focus ((assumption); done)); (focus ((assumption); done)))
  | ((with_reducible apply Wn.r_inF); (focus ((first | exact Or.inl (by assumption) | exact Or.inr (by assumption) | fail); done)))
  | ((with_reducible apply Wn.r_inT); (focus ((first | exact Or.inl (by assumption) | exact Or.inr (by assumption) | fail); done)))
  | (with_reducible apply Wn.r_chain)
  | (with_reducible apply Wn.r_bt)
  | (with_reducible apply Wn.r_fld)
  | (with_reducible apply Wn.r_meth)
  | ((with_reducible apply Wn.r_pt); (focus ((first | assumption | fail); done)))
  | ((with_reducible apply Wn.r_ti); (focus ((first | assumption | exact Wn.PTup.sq (by assumption) | fail); done)); (focus ((first | assumption | fail); done)))
  | ((with_reducible apply Wn.r_tupT); (focus ((assumption); done)))
  | ((with_reducible apply Wn.r_gtup); (focus ((first | assumption | fail); done)); (focus ((with_unfolding_all first | exact rfl | fail); done)))
  | (with_reducible apply Wn.r_gcons)
  | (with_reducible apply Wn.r_gnil)
  | (with_reducible apply Wn.r_for)
  | ((with_reducible apply Wn.r_ixa); (focus ((first | exact Or.inl (L2.SqL.of (by walk_at "lk")) | exact Or.inr (L2.SqT.of (by walk_at "lk")) | exact Or.inr (by assumption) | exact Or.inl (by assumption) | fail); done)); (focus ((with_unfolding_all first | exact rfl | fail); done)))
  | (with_reducible apply Wn.r_lc)
  | (with_reducible apply Wn.r_rng1)
  | (with_reducible apply Wn.r_ilist)
  | (with_reducible apply Wn.r_itup)
  | (with_reducible apply Wn.r_istr)
  | (with_reducible apply Wn.r_tsl)
  | (with_reducible apply Wn.r_nopart)
  | (with_reducible apply Wn.r_part)
  | (with_reducible apply Wn.r_exint)))
local macro_rules | `(tactic| walk_at "gox_28") => `(tactic| repeat (walk_at "gox1_28"))
/-- names: different, all of letters -/
structure Nms (zs : List Str) (n : Nat) : Prop where
  len : zs.length = n
  nd : zs.Nodup
  nm : ∀ z ∈ zs, nameB z = true
theorem nms_add {zs : List Str} {n : Nat} {z : Str} (h : Nms zs n) (hz : nameB z = true) (hn : z ∉ zs) : Nms (zs ++ [z]) (n + 1) where
  len := by rw [List.length_append, h.len]; rfl
  nd := by
    rw [List.nodup_append]
    refine ⟨h.nd, by simp, ?_⟩
    intro a ha b hb e
    rw [List.mem_singleton] at hb
    subst hb
    subst e
    exact hn ha
  nm := fun x hx => by
    rcases List.mem_append.mp hx with q | q
    · exact h.nm x q
    · rw [List.mem_singleton.mp q]; exact hz
def spLNames : Sp := fun vs H Q _ => ∃ (b c : Addr) (n : Int), vs = [.ref b, .int n] ∧ 0 ≤ n ∧ n ≤ 3 ∧ BoxAt H b c ∧
  ∀ (H' : Hp) (q : Addr) (zs : List Str), Same (hid H b) H' → BoxAt H' b c → H q = none → H' q = some (.lst (zs.map V.str)) → Nms zs n.toNat → Q (.ref q) H'
section
variable {P : Program} {w : World} {K : PySem.W.Frag} {mg : Str → Option Value} {base : Heap}
theorem ok_L_names (T : Txt K mg) : FnOk P w K mg base CX0 3 T.f_L_names T.d_L_names ["_law_box_here", "_law_many"] (spLNames) := by
  refine T.F_L_names.ok sc_L_names (fun vs H Q E h => ?_) (fun cdv A outer s H vs Q E hr h => ?_)
  · obtain ⟨b, c, n, rfl, _⟩ := h
    rfl
  · obtain ⟨b, c, n, rfl, n0, n3, hB, q⟩ := h
    refine ⟨_, (pss_cons (ps_set (i := 2) sc_L_names.nd rfl (Or.inr rfl) (pe_lst pa_nil)) (pss_cons (ps_for PassesOwn.never rfl (pi_range1 (by rfl) T.range (pa_cons (pv 1) pa_nil)) (pg_name (i := 3) sc_L_names.nd rfl (Or.inl rfl)) (pss_cons (ps_set (i := 4) sc_L_names.nd rfl (Or.inr rfl) pe_str) (pss_cons (ps_for PassesOwn.never rfl (pi_range1 (by rfl) T.range (pa_cons (pe_op op_add pe_int (pe_call (ok_L_draw T) (hr.mono (by decide)) (by rfl) T.g_L_draw T.F_L_draw.kp T.b_L_draw .nil pass0 (pa_cons (pv 0) (pa_cons pe_int pa_nil)))) pa_nil)) (pg_name (i := 5) sc_L_names.nd rfl (Or.inl rfl)) (pss_one (ps_set (i := 4) sc_L_names.nd rfl (Or.inr rfl) (pe_op op_add_str (pv 4) (pe_ix ix_str pe_str (pe_call (ok_L_draw T) (hr.mono (by decide)) (by rfl) T.g_L_draw T.F_L_draw.kp T.b_L_draw .nil pass0 (pa_cons (pv 0) (pa_cons pe_int pa_nil))) (fun _ _ => rfl)))))) (pss_cons (ps_if (pt_cmpR (op_in_strsK (K := K) rfl) (pv 4) (pv 2) (by rfl)) (pss_cons (ps_setLc (i := 6) (own := [("_law_sign", 7)]) (g := gName 7)  rfl sc_L_names.nd rfl rfl (sw_true rfl rfl rfl (by decide +kernel)) (pi_str pe_str) (blkOk_by (N := ["_law_box_here", "_law_many", "_law_names_here", "_law_k", "_law_word", "_law_at", "_law_free", "_law_sign"]) (sc := defScope s_L_names) (by decide +kernel)) (fun _ _ _ _ _ => pg_name (i := 7) sc_L_names.nd rfl (Or.inl rfl)) (fun _ _ _ _ _ => (pts_one (pt_cmpR (op_notin_strsK (K := K) rfl) (pe_op op_add_str (pe_slice sl_str (pv 4) po_none (po_some pe_int)) (pv 7)) (pv 2) (by rfl)))) (fun _ _ _ _ _ => (pe_op op_add_str (pe_slice sl_str (pv 4) po_none (po_some pe_int)) (pv 7)))) (pss_one (ps_set (i := 4) sc_L_names.nd rfl (Or.inr rfl) (pe_ix (ix_aK (K := K) rfl) (pv 6) pe_int (fun _ _ => rfl))))) pss_nil) (pss_one (ps_expr (pe_bm PySem.F.plainAttrs_list PySem.F.slot_list_append PySem.F.type_list_append mt_append (pv 2) (pa_cons (pv 4) pa_nil)))))))) (pss_one (ps_ret (pv 2))))), ?_⟩
    show tSeq _ _ _ [_, _, none, none, none, none, none, none] _
    walk_at "gox_28"
    intro q0 nq
    have bq := hB.nb nq
    walk_at "gox_28"
    refine ⟨n, rfl, by omega, by omega, for_range (lo := 0) (n := n.toNat) (fun k σ H' => ∃ zs v3 v4 v5 v6 v7, σ = [some (.ref b), some (.int n), some (.ref q0), v3, v4, v5, v6, v7] ∧ Same (hid H b) H' ∧ BoxAt H' b c ∧ H' q0 = some (.lst (zs.map V.str)) ∧ Nms zs k) ⟨[], _, _, _, _, _, rfl, hid_up (same_new nq), hB.mono (same_new nq), upd_same, ⟨rfl, List.nodup_nil, fun z hz => absurd hz (List.not_mem_nil)⟩⟩ ?_ ?_⟩
    · rintro k σ H1 hk ⟨zs, v3, v4, v5, v6, v7, rfl, sm, hB1, hq1, hN⟩
      walk_at "gox_28"
      refine ⟨b, c, 8, rfl, by decide, by decide, hB1, fun r H2 r0 r1 hx hB2 => ?_⟩
      walk_at "gox_28"
      refine ⟨1 + r, rfl, by omega, by omega, for_range (lo := 0) (n := (1 + r).toNat) (fun i σ H' => ∃ z v5, σ = [some (.ref b), some (.int n), some (.ref q0), some (.int (0 + k)), some (.str z), v5, v6, v7] ∧ (∀ x, x ≠ b → H' x = H1 x) ∧ BoxAt H' b c ∧ z.length = i ∧ lowB z = true) ⟨_, _, rfl, hx, hB2, rfl, rfl⟩ ?_ ?_⟩
      · rintro i σ H3 hi ⟨z, v5, rfl, hx3, hB3, hz, lz⟩
        walk_at "gox_28"
        refine ⟨b, c, 26, rfl, by decide, by decide, hB3, fun r2 H4 r20 r21 hx4 hB4 => ?_⟩
        walk_at "gox_28"
        refine ⟨z, _, rfl, rfl, ?_, ?_⟩
        · show z.length + 1 ≤ sizeLine
          exact Nat.le_of_lt (small63 (by omega))
        walk_at "gox_28"
        exact ⟨_, _, rfl, fun x hne => (hx4 x hne).trans (hx3 x hne), hB4, by rw [app_len, hz], app_low lz (by omega) (by omega)⟩
      · rintro σ H3 ⟨z, v5, rfl, hx3, hB3, hz, lz⟩
        have hq3 : H3 q0 = some (.lst (zs.map V.str)) := (hx3 q0 bq.symm).trans hq1
        have nz : nameB z = true := nameB_mk (by omega) (by omega) lz
        have sm3 : Same (hid H b) H3 := hid_but sm hx3
        have hS3 : SqL K H3 q0 (zs.map V.str) := .inl (.inl hq3)
        walk_at "gox_28"
        first | refine Wn.ifd_int (fun e => ?_) (fun e => ?_) | refine Wn.ifd (fun e => ?_) (fun e => ?_)
        · have l7 := cut7_len z
          walk_at "gox_28"
          refine ⟨_, rfl, fun D nD => lc_text (fun i H' => Same H3 H' ∧ H' D = some (.lst ((freeL (cutS z none (some 7)) zs i).map V.str))) ⟨same_new nD, upd_same⟩ ?_ ?_⟩
          · rintro i ch H5 ec ⟨s5, hD⟩
            have ec2 : (PySem.Str.ofString "abcdefghijklmnopqrstuvwxyz").cps.toList[i]? = some ch := by rw [Array.getElem?_toList]; exact ec
            rw [abc_list] at ec2
            have hi : i < 26 := by have := (List.getElem?_eq_some_iff.mp ec2).1; rw [List.length_map, List.length_range] at this; exact this
            have ech : ch = 97 + i := by rw [List.getElem?_map, List.getElem?_range hi] at ec2; exact (Option.some.inj ec2).symm
            subst ech
            have hS5 : SqL K H5 q0 (zs.map V.str) := .inl (.inl (s5 _ _ hq3))
            have fl := freeL_succ (cutS z none (some 7)) zs i
            walk_at "gox_28"
            refine r_sls (z := z) (Nat.le_of_lt (small63 (by omega))) ?_
            walk_at "gox_28"
            refine ⟨cutS z none (some 7), _, rfl, rfl, ?_, ?_⟩
            · show (cutS z none (some 7)).length + 1 ≤ sizeLine
              exact Nat.le_of_lt (small63 (by omega))
            walk_at "gox_28"
            by_cases e2 : cand (cutS z none (some 7)) i ∈ zs
            · refine ite_f (nd_f e2) ?_
              rw [if_neg (by rw [decide_eq_true e2]; exact Bool.false_ne_true), List.append_nil] at fl
              rw [fl]
              exact ⟨s5, hD⟩
            · refine ite_t (nd_t e2) ?_
              rw [if_pos (nd_t e2)] at fl
              walk_at "gox_28"
              refine r_sls (z := z) (Nat.le_of_lt (small63 (by omega))) ?_
              walk_at "gox_28"
              refine ⟨cutS z none (some 7), _, rfl, rfl, ?_, ?_⟩
              · show (cutS z none (some 7)).length + 1 ≤ sizeLine
                exact Nat.le_of_lt (small63 (by omega))
              have := freeL_len (cutS z none (some 7)) zs i
              refine ⟨_, hD, ?_, fun x o e => (upd_ne (ne_of_none e nD)).trans (s5 _ _ e), ?_⟩
              · rw [List.length_map]
                exact small63 (by omega)
              · rw [upd_same, fl, List.map_append]
                rfl
          · rintro H5 ⟨s5, hD⟩
            have hD2 : H5 D = some (.lst ((freeL (cutS z none (some 7)) zs 26).map V.str)) := hD
            obtain ⟨x, t, ex⟩ := freeL_ne (z := cutS z none (some 7)) (zs := zs) (by rw [hN.len]; omega)
            have hx := freeL_mem (z := cutS z none (some 7)) (zs := zs) (x := x) (by rw [ex]; exact List.mem_cons_self)
            rw [ex] at hD2
            have hb5 := hB3.mono s5
            have hq5 := s5 _ _ hq3
            walk_at "gox_28"
            refine r_ixa (.inl (.inl (.inl hD2))) (show atI ((x :: t).map V.str) ((0 : Nat) : Int) = some (.str x) from atI_nat rfl) ?_
            walk_at "gox_28"
            refine r_app hq5 (by rw [List.length_map, hN.len]; exact small63 (by omega)) ?_
            walk_at "gox_28"
            obtain ⟨ci, hci, ex2⟩ := hx.2
            refine ⟨zs ++ [x], _, _, _, _, _, rfl, fun y o e => (upd_ne (ne_of_none (hid_same _ _ e) nq)).trans (s5 _ _ (sm3 _ _ e)), hb5.put hB nq, ?_, nms_add hN (by rw [ex2]; exact cand_name lz hci) hx.1⟩
            rw [upd_same, List.map_append]
            rfl
        · walk_at "gox_28"
          refine r_app hq3 (by rw [List.length_map, hN.len]; exact small63 (by omega)) ?_
          walk_at "gox_28"
          refine ⟨zs ++ [z], _, _, _, _, _, rfl, fun y o e => (upd_ne (ne_of_none (hid_same _ _ e) nq)).trans (sm3 _ _ e), hB3.put hB nq, ?_, nms_add hN nz e⟩
          rw [upd_same, List.map_append]
          rfl
    · rintro σ H1 ⟨zs, v3, v4, v5, v6, v7, rfl, sm, hB1, hq1, hN⟩
      walk_at "gox_28"
      exact q _ q0 zs sm hB1 nq hq1 hN
end
end Wn


namespace Wn
open PySem PySem.Spec PyProof.Rows L2
theorem hid_T {K : PySem.W.Frag} {H H' : Hp} {b : Addr} {ys : List V} (hb : H b = some (.lst ys)) (s : Same (hid H b) H') {a : Addr} {xs : List V} (h : SqT K H a xs) : SqT K H' a xs := same_sqT s (hid_seqT hb h)
theorem hid_P {H H' : Hp} {b : Addr} {ys : List V} (hb : H b = some (.lst ys)) (s : Same (hid H b) H') {a : Addr} {xs : List V} (h : PTup H a xs) : PTup H' a xs := by
  obtain ⟨o, e, r⟩ := h
  exact ⟨o, s _ _ (hid_some e (ne_of e hb (by intro z; cases z))), r⟩
theorem BoxAt.smT {K : PySem.W.Frag} {H H' : Hp} {b c : Addr} (x : BoxAt H b c) (s : Same (hid H b) H') : SmT K H H' := fun a xs h => let ⟨_, e⟩ := x.lst; hid_T e s h
theorem BoxAt.smP {H H' : Hp} {b c : Addr} (x : BoxAt H b c) (s : Same (hid H b) H') {a : Addr} {xs : List V} (h : PTup H a xs) : PTup H' a xs := let ⟨_, e⟩ := x.lst; hid_P e s h
theorem RowAt.mt {K : PySem.W.Frag} {H H' : Hp} {v : V} {r : List (Option Str)} (s : SmT K H H') (h : RowAt K H v r) : RowAt K H' v r := let ⟨a, e, t⟩ := h; ⟨a, e, s _ _ t⟩
theorem NearAt.mt {K : PySem.W.Frag} {H H' : Hp} {v : V} {f : Fld} (s : SmT K H H') (h : NearAt K H v f) : NearAt K H' v f := by
  unfold NearAt at h ⊢
  cases e : f.looks with
  | none => rw [e] at h; exact RowAt.mt s h
  | some l =>
    rw [e] at h
    obtain ⟨a, vs, e1, t, hl, hr⟩ := h
    exact ⟨a, vs, e1, s _ _ t, hl, fun i x r h1 h2 => (hr i x r h1 h2).mt s⟩
theorem FarAt.mt {K : PySem.W.Frag} {H H' : Hp} {v : V} {f : Fld} (s : SmT K H H') (h : FarAt K H v f) : FarAt K H' v f := by
  unfold FarAt at h ⊢
  cases e : f.far with
  | none => rw [e] at h; exact h
  | some r => rw [e] at h; exact RowAt.mt s h
theorem FldAt.mt {K : PySem.W.Frag} {H H' : Hp} {v : V} {f : Fld} (s : SmT K H H') (h : FldAt K H v f) : FldAt K H' v f := let ⟨a, nv, fv, e, t, n, r⟩ := h; ⟨a, nv, fv, e, s _ _ t, n.mt s, r.mt s⟩
theorem FieldsAt.mt {K : PySem.W.Frag} {H H' : Hp} {a : Addr} {fs : List (Str × Fld)} (s : SmT K H H') (h : FieldsAt K H a fs) : FieldsAt K H' a fs :=
  let ⟨vs, t, hl, hx⟩ := h.ex
  ⟨vs, s _ _ t, hl, fun i x p h1 h2 => let ⟨q, fv, e, t2, f⟩ := hx i x p h1 h2; ⟨q, fv, e, s _ _ t2, f.mt s⟩⟩

local macro_rules | `(tactic| walk_at "gox1_29") => `(tactic| (first
  | walk_at "go1"
  | (with_reducible apply Wn.r_bm)
  | ((with_reducible apply Wn.r_tyl); (focus (walk_at "lk"; done)))
  | ((with_reducible apply Wn.r_ext); (focus (walk_at "lk"; done)); (focus (walk_at "lk"; done)); (focus ((with_unfolding_all first | (simp only [List.length_cons, List.length_nil, List.length_append]; decide) | fail); done)))
  | ((with_reducible apply Wn.r_cat); (focus (walk_at "lk"; done)); (focus (walk_at "lk"; done)); (focus ((with_unfolding_all first | (simp only [List.length_cons, List.length_nil, List.length_append]; decide) | fail); done)))
  | ((with_reducible apply Wn.r_inF); (focus ((first | exact Or.inl (by assumption) | exact Or.inr (by assumption) | fail); done)))
  | ((with_reducible apply Wn.r_inT); (focus ((first | exact Or.inl (by assumption) | exact Or.inr (by assumption) | fail); done)))
  | (with_reducible apply Wn.r_chain)
  | (with_reducible apply Wn.r_bt)
  | (with_reducible apply Wn.r_fld)
  | (with_reducible apply Wn.r_meth)
  | ((with_reducible apply Wn.r_pt); (focus ((first | assumption | fail); done)))
  | ((with_reducible apply Wn.r_ti); (focus ((first | assumption | exact Wn.PTup.sq (by assumption) | fail); done)); (focus ((first | assumption | fail); done)))
  | ((with_reducible apply Wn.r_tupT); (focus ((assumption); done)))
  | ((with_reducible apply Wn.r_gtup); (focus ((first | assumption | fail); done)); (focus ((with_unfolding_all first | exact rfl | fail); done)))
  | (with_reducible apply Wn.r_gcons)
  | (with_reducible apply Wn.r_gnil)
  | (with_reducible apply Wn.r_for)
  | ((with_reducible apply Wn.r_ixa); (focus ((first | exact Or.inl (L2.SqL.of (by walk_at "lk")) | exact Or.inr (L2.SqT.of (by walk_at "lk")) | exact Or.inr (by assumption) | exact Or.inl (by assumption) | fail); done)); (focus ((with_unfolding_all first | exact rfl | fail); done)))
  | (with_reducible apply Wn.r_lc)
  | (with_reducible apply Wn.r_rng1)
  | (with_reducible apply Wn.r_ilist)
  | (with_reducible apply Wn.r_itup)
  | (with_reducible apply Wn.r_istr)
  | (with_reducible apply Wn.r_tsl)
  | (with_reducible apply Wn.r_nopart)
  | (with_reducible apply Wn.r_part)
  | (with_reducible apply Wn.r_exint)))
local macro_rules | `(tactic| walk_at "gox_29") => `(tactic| repeat (walk_at "gox1_29"))
def spLEntries : Sp := fun vs H Q _ => ∃ (b c na : Addr) (notes : List Str) (m : Nat), vs = [.ref b, .ref na, .int m] ∧ m ≤ 3 ∧ BoxAt H b c ∧ H na = some (.lst (notes.map V.str)) ∧ na ≠ b ∧ Nms notes 2 ∧
  ∀ (H' : Hp) (q : Addr) (r : List (Option Str)), Same (hid H b) H' → BoxAt H' b c → H q = none → H' q = some (.tup (r.map entV)) → r.length = m → rowOk r → Q (.ref q) H'
def spLField (K : PySem.W.Frag) : Sp := fun vs H Q _ => ∃ (b c wa nm na : Addr) (ws names notes : List Str) (name : Str), vs = [.ref b, .ref wa, .ref nm, .str name, .ref na] ∧ BoxAt H b c ∧ PTup H wa (ws.map V.str) ∧
  H nm = some (.lst (names.map V.str)) ∧ nm ≠ b ∧ H na = some (.lst (notes.map V.str)) ∧ na ≠ b ∧ 1 ≤ ws.length ∧ ws.length ≤ 3 ∧ names.length ≤ 3 ∧ Nms notes 2 ∧
  ∀ (H' : Hp) (q : Addr) (f : Fld), Same (hid H b) H' → BoxAt H' b c → H q = none → FldAt K H' (.ref q) f → f.Ok ws names name → Q (.ref q) H'
section
variable {P : Program} {w : World} {K : PySem.W.Frag} {mg : Str → Option Value} {base : Heap}
theorem ok_L_entries (T : Txt K mg) : FnOk P w K mg base CX0 3 T.f_L_entries T.d_L_entries ["_law_box_here", "_law_notes", "_law_size"] (spLEntries) := by
  refine T.F_L_entries.ok sc_L_entries (fun vs H Q E h => ?_) (fun cdv A outer s H vs Q E hr h => ?_)
  · obtain ⟨b, c, na, notes, m, rfl, _⟩ := h
    rfl
  · obtain ⟨b, c, na, notes, m, rfl, m3, hB, hna, nab, hN, q⟩ := h
    obtain ⟨n0, n1, rfl⟩ : ∃ x y, notes = [x, y] := by
      match notes, hN.len with
      | [x, y], _ => exact ⟨x, y, rfl⟩
    have k0 := hN.nm n0 (by simp)
    have k1 := hN.nm n1 (by simp)
    have hS : SqL K H na [.str n0, .str n1] := .inl (.inl hna)
    refine ⟨_, (pss_cons (ps_set (i := 3) sc_L_entries.nd rfl (Or.inr rfl) (pe_lst (pa_cons pe_non (pa_cons pe_non (pa_cons (pe_ix (ix_aK (K := K) rfl) (pv 1) pe_int (fun _ _ => rfl)) (pa_cons (pe_ix (ix_aK (K := K) rfl) (pv 1) pe_int (fun _ _ => rfl)) pa_nil)))))) (pss_one (ps_ret (pe_callTy (call_tupleK (K := K) rfl) (by rfl) T.tuple_ (by decide +kernel) (pa_cons (pe_lc (own := [("_law_k", 4)]) (g := gName 4) (tt := tYes) rfl sc_L_entries.nd (pi_range1 (by rfl) T.range (pa_cons (pv 2) pa_nil)) (blkOk_by (N := ["_law_box_here", "_law_notes", "_law_size", "_law_menu", "_law_k"]) (sc := defScope s_L_entries) (by decide +kernel)) (fun _ _ _ _ _ => pg_name (i := 4) sc_L_entries.nd rfl (Or.inl rfl)) (fun _ _ _ _ _ => pts_nil) (fun _ _ _ _ _ => (pe_ix (ix_aK (K := K) rfl) (pv 3) (pe_call (ok_L_draw T) (hr.mono (by decide)) (by rfl) T.g_L_draw T.F_L_draw.kp T.b_L_draw .nil pass0 (pa_cons (pv 0) (pa_cons pe_int pa_nil))) (fun _ _ => rfl)))) pa_nil))))), ?_⟩
    show tSeq _ _ _ [_, _, _, none, none] _
    walk_at "gox_29"
    intro pm nm
    generalize hG : upd H pm _ = H1
    have s1 : Same H H1 := by rw [← hG]; exact same_new nm
    have e1 : H1 pm = some (.lst ([none, none, some n0, some n1].map entV)) := by rw [← hG]; exact upd_same
    have hB1 := hB.mono s1
    have pb : pm ≠ b := (hB.nb nm).symm
    walk_at "gox_29"
    refine ⟨m, rfl, by omega, by omega, fun D nD => lc_range (lo := 0) (n := m) (fun i H' => Same (hid H1 b) H' ∧ BoxAt H' b c ∧ ∃ r : List (Option Str), H' D = some (.lst (r.map entV)) ∧ r.length = i ∧ rowOk r) ⟨hid_put hid_same nD, hB1.put hB1 nD, [], upd_same, rfl, fun z hz => absurd hz List.not_mem_nil⟩ ?_ ?_⟩
    · rintro i H' hi ⟨sm, hB2, r, hD, hl, hr⟩
      have e2 := sm _ _ (hid_some e1 pb)
      walk_at "gox_29"
      refine ⟨b, c, 4, rfl, by decide, by decide, hB2, fun d H3 d0 d1 hx hB3 => ?_⟩
      obtain ⟨k, rfl⟩ : ∃ k : Nat, d = (k : Int) := ⟨d.toNat, by omega⟩
      have hk : k < ([none, none, some n0, some n1] : List (Option Str)).length := by show k < 4; omega
      have e3 := (hx pm pb).trans e2
      have hDb : D ≠ b := (hB1.nb nD).symm
      refine r_ixa (.inl (.inl (.inl e3))) (atI_nat (by rw [List.getElem?_map, List.getElem?_eq_getElem hk]; rfl)) ?_
      have hin := List.getElem_mem hk
      refine ⟨_, (hx D hDb).trans hD, ?_, hid_put (hid_but sm hx) nD, hB3.put hB1 nD, r ++ [([none, none, some n0, some n1] : List (Option Str))[k]], ?_, by rw [List.length_append, hl]; rfl, ?_⟩
      · rw [List.length_map, hl]
        exact small63 (by omega)
      · rw [upd_same, List.map_append]
        rfl
      · intro z hz
        rcases List.mem_append.mp hz with h | h
        · exact hr z h
        · have h2 := List.mem_singleton.mp h
          rw [← h2] at hin
          simp only [List.mem_cons, List.not_mem_nil, or_false] at hin
          rcases hin with h3 | h3 | h3 | h3
          · cases h3
          · cases h3
          · cases h3; exact k0
          · cases h3; exact k1
    · rintro H' ⟨sm, hB2, r, hD, hl, hr⟩
      walk_at "gox_29"
      refine ⟨D, _, rfl, .inl (.inl hD), fun t nt => ?_⟩
      have sH : Same (hid H b) H' := hid_hid (hid_up s1) sm
      exact q _ t r (fun x u e => (same_new nt) x u (sH x u e)) (hB2.mono (same_new nt)) (hid_free sH nt (hB2.nb nt).symm) upd_same hl hr
end
end Wn


namespace Wn
open PySem PySem.Spec PyProof.Rows L2

local macro_rules | `(tactic| walk_at "gox1_30") => `(tactic| (first
  | walk_at "go1"
  | (with_reducible apply Wn.r_bm)
  | ((with_reducible apply Wn.r_tyl); (focus (walk_at "lk"; done)))
  | ((with_reducible apply Wn.r_ext); (focus (walk_at "lk"; done)); (focus (walk_at "lk"; done)); (focus ((with_unfolding_all first | (simp only [List.length_cons, List.length_nil, List.length_append]; decide) | fail); done)))
  | ((with_reducible apply Wn.r_cat); (focus (walk_at "lk"; done)); (focus (walk_at "lk"; done)); (focus ((with_unfolding_all first | (simp only [List.length_cons, List.length_nil, List.length_append]; decide) | fail); done)))
  | ((with_reducible apply Wn.r_inF); (focus ((first | exact Or.inl (by assumption) | exact Or.inr (by assumption) | fail); done)))
  | ((with_reducible apply Wn.r_inT); (focus ((first | exact Or.inl (by assumption) | exact Or.inr (by assumption) | fail); done)))
  | (with_reducible apply Wn.r_chain)
  | (with_reducible apply Wn.r_bt)
  | (with_reducible apply Wn.r_fld)
  | (with_reducible apply Wn.r_meth)
  | ((with_reducible apply Wn.r_pt); (focus ((first | assumption | fail); done)))
  | ((with_reducible apply Wn.r_ti); (focus ((first | assumption | exact Wn.PTup.sq (by assumption) | fail); done)); (focus ((first | assumption | fail); done)))
  | ((with_reducible apply Wn.r_tupT); (focus ((assumption); done)))
  | ((with_reducible apply Wn.r_gtup); (focus ((first | assumption | fail); done)); (focus ((with_unfolding_all first | exact rfl | fail); done)))
  | (with_reducible apply Wn.r_gcons)
  | (with_reducible apply Wn.r_gnil)
  | (with_reducible apply Wn.r_for)
  | ((with_reducible apply Wn.r_ixa); (focus ((first | exact Or.inl (L2.SqL.of (by walk_at "lk")) | exact Or.inr (L2.SqT.of (by walk_at "lk")) | exact Or.inr (by assumption) | exact Or.inl (by assumption) | fail); done)); (focus ((with_unfolding_all first | exact rfl | fail); done)))
  | (with_reducible apply Wn.r_lc)
  | (with_reducible apply Wn.r_rng1)
  | (with_reducible apply Wn.r_ilist)
  | (with_reducible apply Wn.r_itup)
  | (with_reducible apply Wn.r_istr)
  | (with_reducible apply Wn.r_tsl)
  | (with_reducible apply Wn.r_nopart)
  | (with_reducible apply Wn.r_part)
  | (with_reducible apply Wn.r_exint)))
local macro_rules | `(tactic| walk_at "gox_30") => `(tactic| repeat (walk_at "gox1_30"))
theorem filt_at {l : List Str} {name z : Str} {i : Nat} (h : l[i]? = some z) : (l.take (i + 1)).filter (fun x => !decide (x = name)) = (l.take i).filter (fun x => !decide (x = name)) ++ (if (!decide (z = name)) = true then [z] else []) := by
  rw [take_at h, List.filter_append]
  congr 1
  simp only [List.filter_cons, List.filter_nil]
/-- where the ways of the near table meet -/
def FieldP (K : PySem.W.Frag) (H : Hp) (b c wa nm na D : Addr) (ws names : List Str) (name first : Str) : L2.St → Hp → Prop := fun σ' H' => ∃ (f : Fld) (nv : V) (o7 o10 : Option V), f.first = first ∧ f.far = none ∧ f.Ok ws names name ∧ NearAt K H' nv f ∧ Same (hid H b) H' ∧ BoxAt H' b c ∧
  σ' = [some (.ref b), some (.ref wa), some (.ref nm), some (.str name), some (.ref na), some (.str first), some (.ref D), o7, some (entV f.looks), some nv, o10, none]
section
variable {P : Program} {w : World} {K : PySem.W.Frag} {mg : Str → Option Value} {base : Heap}
theorem ok_L_field (T : Txt K mg) : FnOk P w K mg base CX0 4 T.f_L_field T.d_L_field ["_law_box_here", "_law_words", "_law_names_here", "_law_name", "_law_notes"] (spLField K) := by
  refine T.F_L_field.ok sc_L_field (fun vs H Q E h => ?_) (fun cdv A outer s H vs Q E hr h => ?_)
  · obtain ⟨b, c, wa, nm, na, ws, names, notes, name, rfl, _⟩ := h
    rfl
  · obtain ⟨b, c, wa, nm, na, ws, names, notes, name, rfl, hB, hW, hnm, nmb, hna, nab, w1, w3, n3, hN, q⟩ := h
    have hWs := hW.sq (K := K)
    have lW : (ws.map V.str).length = ws.length := List.length_map _
    refine ⟨_, (pss_cons (ps_set (i := 5) sc_L_field.nd rfl (Or.inl rfl) (pe_ix (ix_aK (K := K) rfl) (pv 1) (pe_call (ok_L_draw T) (hr.mono (by decide)) (by rfl) T.g_L_draw T.F_L_draw.kp T.b_L_draw .nil pass0 (pa_cons (pv 0) (pa_cons (pe_callB (call_lenK (K := K) rfl) (by rfl) T.len PySem.boot_len (pa_cons (pv 1) pa_nil)) pa_nil))) (fun _ _ => rfl))) (pss_cons (ps_setLc (i := 6) (own := [("_law_other", 7)]) (g := gName 7)  rfl sc_L_field.nd rfl rfl (sw_true rfl rfl rfl (by decide +kernel)) (pi_listK (K := K) rfl (pv 2)) (blkOk_by (N := ["_law_box_here", "_law_words", "_law_names_here", "_law_name", "_law_notes", "_law_first", "_law_others", "_law_other", "_law_looks", "_law_near", "_law_word", "_law_far"]) (sc := defScope s_L_field) (by decide +kernel)) (fun _ _ _ _ _ => pg_name (i := 7) sc_L_field.nd rfl (Or.inl rfl)) (fun _ _ _ _ _ => (pts_one (pt_cmpR op_ne (pv 7) (pv 3) (nomark _)))) (fun _ _ _ _ _ => (pv 7))) (pss_cons (ps_set (i := 8) sc_L_field.nd rfl (Or.inl rfl) pe_non) (pss_cons (ps_set (i := 9) sc_L_field.nd rfl (Or.inl rfl) (pe_call (ok_L_entries T) (hr.mono (by decide)) (by rfl) T.g_L_entries T.F_L_entries.kp T.b_L_entries .nil pass0 (pa_cons (pv 0) (pa_cons (pv 4) (pa_cons (pe_callB (call_lenK (K := K) rfl) (by rfl) T.len PySem.boot_len (pa_cons (pv 1) pa_nil)) pa_nil))))) (pss_cons (ps_ifk (PW.pt (pw_and (pt_cmpR op_gt (pe_callB (call_lenK (K := K) rfl) (by rfl) T.len PySem.boot_len (pa_cons (pv 6) pa_nil)) pe_int (nomark _)) (pw_and1 (pt_cmpR op_eq (pe_call (ok_L_draw T) (hr.mono (by decide)) (by rfl) T.g_L_draw T.F_L_draw.kp T.b_L_draw .nil pass0 (pa_cons (pv 0) (pa_cons pe_int pa_nil))) pe_int (nomark _))))) (pss_cons (ps_set (i := 8) sc_L_field.nd rfl (Or.inl rfl) (pe_ix (ix_aK (K := K) rfl) (pv 6) (pe_call (ok_L_draw T) (hr.mono (by decide)) (by rfl) T.g_L_draw T.F_L_draw.kp T.b_L_draw .nil pass0 (pa_cons (pv 0) (pa_cons (pe_callB (call_lenK (K := K) rfl) (by rfl) T.len PySem.boot_len (pa_cons (pv 6) pa_nil)) pa_nil))) (fun _ _ => rfl))) (pss_one (ps_set (i := 9) sc_L_field.nd rfl (Or.inl rfl) (pe_callTy (call_tupleK (K := K) rfl) (by rfl) T.tuple_ (by decide +kernel) (pa_cons (pe_lc (own := [("_law_word", 10)]) (g := gName 10) (tt := tYes) rfl sc_L_field.nd (pi_tupK (K := K) rfl (pv 1)) (blkOk_by (N := ["_law_box_here", "_law_words", "_law_names_here", "_law_name", "_law_notes", "_law_first", "_law_others", "_law_other", "_law_looks", "_law_near", "_law_word", "_law_far"]) (sc := defScope s_L_field) (by decide +kernel)) (fun _ _ _ _ _ => pg_name (i := 10) sc_L_field.nd rfl (Or.inl rfl)) (fun _ _ _ _ _ => pts_nil) (fun _ _ _ _ _ => (pe_call (ok_L_entries T) (hr.mono (by decide)) (by rfl) T.g_L_entries T.F_L_entries.kp T.b_L_entries .nil pass0 (pa_cons (pv 0) (pa_cons (pv 4) (pa_cons (pe_callB (call_lenK (K := K) rfl) (by rfl) T.len PySem.boot_len (pa_cons (pv 1) pa_nil)) pa_nil)))))) pa_nil))))) pss_nil) (pss_cons (ps_set (i := 11) sc_L_field.nd rfl (Or.inl rfl) pe_non) (pss_cons (ps_if (pt_cmpR op_eq (pe_call (ok_L_draw T) (hr.mono (by decide)) (by rfl) T.g_L_draw T.F_L_draw.kp T.b_L_draw .nil pass0 (pa_cons (pv 0) (pa_cons pe_int pa_nil))) pe_int (nomark _)) (pss_one (ps_set (i := 11) sc_L_field.nd rfl (Or.inl rfl) (pe_call (ok_L_entries T) (hr.mono (by decide)) (by rfl) T.g_L_entries T.F_L_entries.kp T.b_L_entries .nil pass0 (pa_cons (pv 0) (pa_cons (pv 4) (pa_cons (pe_callB (call_lenK (K := K) rfl) (by rfl) T.len PySem.boot_len (pa_cons (pv 1) pa_nil)) pa_nil)))))) pss_nil) (pss_one (ps_ret (pe_tup (pa_cons (pv 5) (pa_cons (pv 8) (pa_cons (pv 9) (pa_cons (pv 11) pa_nil)))))))))))))), ?_⟩
    show tSeq _ _ _ [_, _, _, _, _, none, none, none, none, none, none, none] _
    walk_at "gox_30"
    refine ⟨b, c, _, rfl, by rw [lW]; omega, by rw [lW]; omega, hB, fun d H1 d0 d1 hx hB1 => ?_⟩
    obtain ⟨k, rfl⟩ : ∃ k : Nat, d = (k : Int) := ⟨d.toNat, by omega⟩
    have hk : k < ws.length := by rw [lW] at d1; omega
    have s1 : Same (hid H b) H1 := hid_but hid_same hx
    have hW1 := hB.smP s1 hW
    have hWs1 := hW1.sq (K := K)
    have hnm1 := s1 _ _ (hid_some hnm nmb)
    have hna1 := s1 _ _ (hid_some hna nab)
    refine r_ixa (.inr hWs1) (atI_nat (by rw [List.getElem?_map, List.getElem?_eq_getElem hk]; rfl)) ?_
    walk_at "gox_30"
    refine ⟨nm, rfl, ⟨_, .inl (.inl hnm1)⟩, fun D nD => lc_list (K := K) (a := nm) (xs := names.map V.str) (fun i H' => Same H1 H' ∧ H' D = some (.lst (((names.take i).filter (fun x => !decide (x = name))).map V.str))) ⟨same_new nD, upd_same⟩ (fun i H' _ h => .inl (.inl (h.1 _ _ hnm1))) ?_ ?_⟩
    · rintro i x H' hi ⟨sm, hD⟩
      obtain ⟨z, hz, rfl⟩ := str_at hi
      have hlt : i < names.length := (List.getElem?_eq_some_iff.mp hz).1
      walk_at "gox_30"
      by_cases e : z = name
      · refine ite_f (nd_f (by rw [e])) ?_
        refine ⟨sm, ?_⟩
        rw [filt_at hz, if_neg (by rw [decide_eq_true e]; exact Bool.false_ne_true), List.append_nil]
        exact hD
      · refine ite_t (nd_t (fun h => e (V.str.inj h))) ?_
        walk_at "gox_30"
        refine ⟨_, hD, ?_, fun b o e => (upd_ne (ne_of_none e nD)).trans (sm _ _ e), ?_⟩
        · rw [List.length_map]
          refine small63 (Nat.le_trans (List.length_filter_le _ _) ?_)
          rw [List.length_take]
          omega
        · rw [upd_same, filt_at hz, if_pos (by rw [decide_eq_false e]; rfl), List.map_append]
          rfl
    · rintro H2 ⟨s2, hD⟩
      rw [List.length_map, List.take_length] at hD
      have hoth : ∀ z ∈ names.filter (fun x => !decide (x = name)), z ≠ name ∧ z ∈ names := fun z hz => by
        rw [List.mem_filter] at hz
        exact ⟨by simpa using hz.2, hz.1⟩
      have hol : (names.filter (fun x => !decide (x = name))).length ≤ 3 := Nat.le_trans (List.length_filter_le _ _) n3
      generalize names.filter (fun x => !decide (x = name)) = oth at hD hoth hol
      have hW2 := hW1.mono s2
      have hWs2 := hW2.sq (K := K)
      have hB2 := hB1.mono s2
      have hnm2 := s2 _ _ hnm1
      have hna2 := s2 _ _ hna1
      have Db : D ≠ b := (hB1.nb nD).symm
      have sH2 : Same (hid H b) H2 := s1.trans s2
      walk_at "gox_30"
      refine ⟨b, c, na, notes, ws.length, by rw [lW]; rfl, w3, hB2, hna2, nab, hN, fun H3 q3 r3 s3 hB3 n3' e3 l3 k3 => ?_⟩
      have sH3 : Same (hid H b) H3 := hid_hid sH2 s3
      have hD3 := s3 _ _ (hid_some hD Db)
      have hDl : SqL K H3 D (oth.map V.str) := .inl (.inl hD3)
      have hW3 := hB2.smP s3 hW2
      have hWs3 := hW3.sq (K := K)
      have hna3 := s3 _ _ (hid_some hna2 nab)
      walk_at "gox_30"
      refine if_cut (FieldP K H b c wa nm na D ws names name ws[k]) (fun σ' H4 hP => ?_) (fun J => ?_)
      · obtain ⟨f, nv, o7, o10, hf1, hf2, ok, hnear, sH4, hB4, rfl⟩ := hP
        have hna4 := sH4 _ _ (hid_some hna nab)
        have hW4 := hB.smP sH4 hW
        have hWs4 := hW4.sq (K := K)
        walk_at "gox_30"
        refine ⟨b, c, 2, rfl, by decide, by decide, hB4, fun d2 H5 d20 d21 hx5 hB5 => ?_⟩
        have s5 : Same (hid H4 b) H5 := hid_but hid_same hx5
        have sH5 := hid_hid sH4 s5
        have hna5 := s5 _ _ (hid_some hna4 nab)
        have hW5 := hB4.smP s5 hW4
        have hWs5 := hW5.sq (K := K)
        walk_at "gox_30"
        first | refine Wn.ifd_int (fun e => ?_) (fun e => ?_) | refine Wn.ifd (fun e => ?_) (fun e => ?_)
        · walk_at "gox_30"
          refine ⟨b, c, na, notes, ws.length, by rw [lW]; rfl, w3, hB5, hna5, nab, hN, fun H6 q6 r6 s6 hB6 n6 e6 l6 k6 => ?_⟩
          walk_at "gox_30"
          intro t nt
          have s56 : SmT K H4 (upd H6 t (.tup [.str ws[k], entV f.looks, nv, .ref q6])) := fun a xs h => same_sqT (same_new nt) (hB5.smT s6 _ _ (hB4.smT s5 _ _ h))
          have sH6 := hid_hid sH5 s6
          refine q _ t { f with far := some r6 } (fun x u e => (same_new nt) x u (sH6 x u e)) (hB6.mono (same_new nt)) (hid_free sH6 nt (hB6.nb nt).symm) ⟨t, nv, .ref q6, rfl, .inl (.inl (by rw [upd_same, hf1])), hnear.mt s56, ?_⟩ ?_
          · exact ⟨q6, rfl, .inl (.inl (lk_ne (ne_ex ⟨_, e6⟩ nt) e6))⟩
          · exact ⟨ok.first, ok.looks, ok.alone, ok.pairs, fun r hr => by cases hr; exact ⟨l6, k6⟩⟩
        · walk_at "gox_30"
          intro t nt
          have s56 : SmT K H4 (upd H5 t (.tup [.str ws[k], entV f.looks, nv, .non])) := fun a xs h => same_sqT (same_new nt) (hB4.smT s5 _ _ h)
          refine q _ t f (fun x u e => (same_new nt) x u (sH5 x u e)) (hB5.mono (same_new nt)) (hid_free sH5 nt (hB5.nb nt).symm) ⟨t, nv, .non, rfl, .inl (.inl (by rw [upd_same, hf1])), hnear.mt s56, ?_⟩ ok
          unfold FarAt
          rw [hf2]
      · cases oth with
        | nil =>
          walk_at "gox_30"
          exact J _ _ ⟨⟨ws[k], none, r3, [], none⟩, .ref q3, _, _, rfl, rfl, ⟨List.getElem_mem hk, fun l h => (nomatch h), fun _ => ⟨l3, k3⟩, fun l h => (nomatch h), fun r h => (nomatch h)⟩, ⟨q3, rfl, .inl (.inl e3)⟩, sH3, hB3, rfl⟩
        | cons z0 tl =>
          walk_at "gox_30"
          refine ite_t (decide_eq_true (by show (0 : Int) < ((V.str z0 :: tl.map V.str).length : Int); rw [List.length_cons]; omega)) ?_
          walk_at "gox_30"
          refine ⟨b, c, 2, rfl, by decide, by decide, hB3, fun d2 H5 d20 d21 hx5 hB5 => ?_⟩
          have s5 : Same (hid H3 b) H5 := hid_but hid_same hx5
          have sH5 := hid_hid sH3 s5
          have e5 := s5 _ _ (hid_some e3 (fun h => by rw [h] at n3'; exact absurd n3' (by obtain ⟨_, z⟩ := hB2.lst; rw [z]; intro h; cases h)))
          have hD5 := s5 _ _ (hid_some hD3 Db)
          have hDl5 : SqL K H5 D ((z0 :: tl).map V.str) := .inl (.inl hD5)
          walk_at "gox_30"
          first | refine Wn.ifd_int (fun e => ?_) (fun e => ?_) | refine Wn.ifd (fun e => ?_) (fun e => ?_)
          · walk_at "gox_30"
            refine ⟨b, c, _, rfl, ?_, ?_, hB5, fun d6 H6 d60 d61 hx6 hB6 => ?_⟩
            · rw [List.length_map, List.length_cons]; omega
            · rw [List.length_map]; omega
            obtain ⟨j, rfl⟩ : ∃ j : Nat, d6 = (j : Int) := ⟨d6.toNat, by omega⟩
            have hj : j < (z0 :: tl).length := by rw [List.length_map] at d61; omega
            have s6 : Same (hid H5 b) H6 := hid_but hid_same hx6
            have sH6 := hid_hid sH5 s6
            have hD6 := s6 _ _ (hid_some hD5 Db)
            have hna6 := sH6 _ _ (hid_some hna nab)
            have hW6 := hB.smP sH6 hW
            have hWs6 := hW6.sq (K := K)
            refine r_ixa (.inl (.inl (.inl hD6))) (atI_nat (by rw [List.getElem?_map, List.getElem?_eq_getElem hj]; rfl)) ?_
            walk_at "gox_30"
            refine ⟨wa, rfl, ⟨_, hWs6⟩, fun D2 nD2 => lc_tup (K := K) (a := wa) (xs := ws.map V.str) (fun i H' => Same (hid H6 b) H' ∧ BoxAt H' b c ∧ ∃ (vs : List V) (rs : List (List (Option Str))), H' D2 = some (.lst vs) ∧ vs.length = i ∧ rs.length = i ∧ (∀ r ∈ rs, r.length = ws.length ∧ rowOk r) ∧ ∀ (j : Nat) (x : V) (r : List (Option Str)), vs[j]? = some x → rs[j]? = some r → RowAt K H' x r)
              ⟨hid_put hid_same nD2, hB6.put hB6 nD2, [], [], upd_same, rfl, rfl, fun r hr => absurd hr List.not_mem_nil, fun j x r h => by simp at h⟩ (fun i H' _ h => (hB6.smP h.1 hW6).sq) ?_ ?_⟩
            · rintro i x H' hi ⟨sm, hB7, vs, rs, hD7, lv, lr, hok, hrow⟩
              have hna7 := sm _ _ (hid_some hna6 nab)
              have hWs7 := (hB6.smP sm hW6).sq (K := K)
              have D2b : D2 ≠ b := (hB6.nb nD2).symm
              have hlt : i < ws.length := by have := (List.getElem?_eq_some_iff.mp hi).1; rw [lW] at this; exact this
              walk_at "gox_30"
              refine ⟨b, c, na, notes, ws.length, by rw [lW]; rfl, w3, hB7, hna7, nab, hN, fun H8 q8 r8 s8 hB8 n8 e8 l8 k8 => ?_⟩
              have sT : SmT K H' (upd H8 D2 (.lst (vs ++ [.ref q8]))) := fun a xs h => by
                have h2 := hB7.smT s8 _ _ h
                have hD8 := s8 _ _ (hid_some hD7 D2b)
                rcases h2 with (h2 | ⟨o, h2⟩) | h2
                · exact .inl (.inl (lk_ne (ne_of h2 hD8 (by intro z; cases z)) h2))
                · exact .inl (.inr ⟨o, lk_ne (ne_of h2 hD8 (by intro z; cases z)) h2⟩)
                · exact .inr h2
              have q8D : q8 ≠ D2 := fun h => by rw [h, hD7] at n8; cases n8
              refine ⟨_, s8 _ _ (hid_some hD7 D2b), by rw [lv]; exact small63 (by omega), hid_put (hid_hid sm s8) nD2, hB8.put hB6 nD2, _, rs ++ [r8], upd_same, by rw [List.length_append, lv]; rfl, by rw [List.length_append, lr]; rfl, ?_, ?_⟩
              · intro r hr
                rcases List.mem_append.mp hr with h | h
                · exact hok r h
                · rw [List.mem_singleton.mp h]; exact ⟨l8, k8⟩
              · intro j x r hx hr
                by_cases hj : j < i
                · rw [List.getElem?_append_left (by rw [lv]; exact hj)] at hx
                  rw [List.getElem?_append_left (by rw [lr]; exact hj)] at hr
                  exact (hrow j x r hx hr).mt sT
                · have hji : j = i := by
                    have := (List.getElem?_eq_some_iff.mp hx).1
                    rw [List.length_append, lv] at this
                    have : j < i + 1 := this
                    omega
                  rw [List.getElem?_append_right (by rw [lv]; omega), lv, hji, Nat.sub_self] at hx
                  rw [List.getElem?_append_right (by rw [lr]; omega), lr, hji, Nat.sub_self] at hr
                  cases hx
                  cases hr
                  exact ⟨q8, rfl, .inl (.inl (lk_ne q8D e8))⟩
            · rintro H7 ⟨sm, hB7, vs, rs, hD7, lv, lr, hok, hrow⟩
              walk_at "gox_30"
              refine ⟨D2, _, rfl, .inl (.inl hD7), fun t nt => ?_⟩
              walk_at "gox_30"
              have sH7 := hid_hid sH6 sm
              obtain ⟨o1, o2⟩ := hoth _ (List.getElem_mem hj)
              refine J _ _ ⟨⟨ws[k], some (z0 :: tl)[j], [], rs, none⟩, .ref t, _, _, rfl, rfl, ⟨List.getElem_mem hk, fun l h => by cases h; exact ⟨o1, o2⟩, fun h => (nomatch h), fun l h => ⟨by rw [lr, lW], hok⟩, fun r h => (nomatch h)⟩, ⟨t, vs, rfl, .inl (.inl upd_same), by rw [lv, lr], fun i x r h1 h2 => (hrow i x r h1 h2).mono (same_new nt)⟩, fun x u e => (same_new nt) x u (sH7 x u e), hB7.mono (same_new nt), rfl⟩
          · walk_at "gox_30"
            exact J _ _ ⟨⟨ws[k], none, r3, [], none⟩, .ref q3, _, _, rfl, rfl, ⟨List.getElem_mem hk, fun l h => (nomatch h), fun _ => ⟨l3, k3⟩, fun l h => (nomatch h), fun r h => (nomatch h)⟩, ⟨q3, rfl, .inl (.inl e5)⟩, sH5, hB5, rfl⟩
end
end Wn


namespace Wn
open PySem PySem.Spec PyProof.Rows L2

local macro_rules | `(tactic| walk_at "gox1_31") => `(tactic| (first
  | walk_at "go1"
  | (with_reducible apply Wn.r_bm)
  | ((with_reducible apply Wn.r_tyl); (focus (walk_at "lk"; done)))
  | ((with_reducible apply Wn.r_ext); (focus (walk_at "lk"; done)); (focus (walk_at "lk"; done)); (focus ((with_unfolding_all first | (simp only [List.length_cons, List.length_nil, List.length_append]; decide) | fail); done)))
  | ((with_reducible apply Wn.r_cat); (focus (walk_at "lk"; done)); (focus (walk_at "lk"; done)); (focus ((with_unfolding_all first | (simp only [List.length_cons, List.length_nil, List.length_append]; decide) | fail); done)))
  | ((with_reducible apply Wn.r_inF); (focus ((first | exact Or.inl (by assumption) | exact Or.inr (by assumption) | fail); done)))
  | ((with_reducible apply Wn.r_inT); (focus ((first | exact Or.inl (by assumption) | exact Or.inr (by assumption) | fail); done)))
  | (with_reducible apply Wn.r_chain)
  | (with_reducible apply Wn.r_bt)
  | (with_reducible apply Wn.r_fld)
  | (with_reducible apply Wn.r_meth)
  | ((with_reducible apply Wn.r_pt); (focus ((first | assumption | fail); done)))
  | ((with_reducible apply Wn.r_ti); (focus ((first | assumption | exact Wn.PTup.sq (by assumption) | fail); done)); (focus ((first | assumption | fail); done)))
  | ((with_reducible apply Wn.r_tupT); (focus ((assumption); done)))
  | ((with_reducible apply Wn.r_gtup); (focus ((first | assumption | fail); done)); (focus ((with_unfolding_all first | exact rfl | fail); done)))
  | (with_reducible apply Wn.r_gcons)
  | (with_reducible apply Wn.r_gnil)
  | (with_reducible apply Wn.r_for)
  | ((with_reducible apply Wn.r_ixa); (focus ((first | exact Or.inl (L2.SqL.of (by walk_at "lk")) | exact Or.inr (L2.SqT.of (by walk_at "lk")) | exact Or.inr (by assumption) | exact Or.inl (by assumption) | fail); done)); (focus ((with_unfolding_all first | exact rfl | fail); done)))
  | (with_reducible apply Wn.r_lc)
  | (with_reducible apply Wn.r_rng1)
  | (with_reducible apply Wn.r_ilist)
  | (with_reducible apply Wn.r_itup)
  | (with_reducible apply Wn.r_istr)
  | (with_reducible apply Wn.r_tsl)
  | (with_reducible apply Wn.r_nopart)
  | (with_reducible apply Wn.r_part)
  | (with_reducible apply Wn.r_exint)))
local macro_rules | `(tactic| walk_at "gox_31") => `(tactic| repeat (walk_at "gox1_31"))
def spLParts (K : PySem.W.Frag) : Sp := fun vs H Q _ => ∃ (b c : Addr), vs = [.ref b] ∧ BoxAt H b c ∧
  ∀ (H' : Hp) (q wa fa : Addr) (F : Parts), F.Ok → Same (hid H b) H' → BoxAt H' b c → H q = none → PTup H' wa (F.ws.map V.str) → FieldsAt K H' fa F.fs → H' q = some (.tup [.ref wa, .ref fa, .int F.room]) → Q (.ref q) H'
theorem nms_set {zs : List Str} {n : Nat} {z : Str} (h : Nms zs n) (hz : nameB z = true) (hn : z ∉ zs) : Nms (zs.set 0 z) n := by
  cases zs with
  | nil => exact h
  | cons y t =>
    have nd := List.nodup_cons.mp h.nd
    refine ⟨h.len, ?_, ?_⟩
    · show (z :: t).Nodup
      exact List.nodup_cons.mpr ⟨fun m => hn (List.mem_cons_of_mem _ m), nd.2⟩
    · intro x hx
      have hx : x ∈ z :: t := hx
      rcases List.mem_cons.mp hx with e | e
      · rw [e]; exact hz
      · exact h.nm x (List.mem_cons_of_mem _ e)
/-- where the names are settled -/
def PartsP (H : Hp) (b c wa nm na : Addr) (ws notes : List Str) (n : Nat) (sz : Int) : L2.St → Hp → Prop := fun σ' H' => ∃ names, Nms names n ∧ H' nm = some (.lst (names.map V.str)) ∧ H' na = some (.lst (notes.map V.str)) ∧ PTup H' wa (ws.map V.str) ∧ Same (hid H b) H' ∧ BoxAt H' b c ∧
  σ' = [some (.ref b), some (.int sz), some (.ref wa), some (.ref nm), some (.ref na), none, none]
section
variable {P : Program} {w : World} {K : PySem.W.Frag} {mg : Str → Option Value} {base : Heap}
theorem ok_L_parts (T : Txt K mg) : FnOk P w K mg base CX0 5 T.f_L_parts T.d_L_parts ["_law_box_here"] (spLParts K) := by
  refine T.F_L_parts.ok sc_L_parts (fun vs H Q E h => ?_) (fun cdv A outer s H vs Q E hr h => ?_)
  · obtain ⟨b, c, rfl, _⟩ := h
    rfl
  · obtain ⟨b, c, rfl, hB, q⟩ := h
    refine ⟨_, (pss_cons (ps_set (i := 1) sc_L_parts.nd rfl (Or.inl rfl) (pe_op op_add pe_int (pe_call (ok_L_draw T) (hr.mono (by decide)) (by rfl) T.g_L_draw T.F_L_draw.kp T.b_L_draw .nil pass0 (pa_cons (pv 0) (pa_cons pe_int pa_nil))))) (pss_cons (ps_set (i := 2) sc_L_parts.nd rfl (Or.inr rfl) (pe_callTy (call_tupleFK (K := K) rfl) (by rfl) T.tuple_ (by decide +kernel) (pa_cons (pe_call (ok_L_names T) (hr.mono (by decide)) (by rfl) T.g_L_names T.F_L_names.kp T.b_L_names .nil pass0 (pa_cons (pv 0) (pa_cons (pe_op op_add pe_int (pe_call (ok_L_draw T) (hr.mono (by decide)) (by rfl) T.g_L_draw T.F_L_draw.kp T.b_L_draw .nil pass0 (pa_cons (pv 0) (pa_cons pe_int pa_nil)))) pa_nil))) pa_nil))) (pss_cons (ps_set (i := 3) sc_L_parts.nd rfl (Or.inr rfl) (pe_call (ok_L_names T) (hr.mono (by decide)) (by rfl) T.g_L_names T.F_L_names.kp T.b_L_names .nil pass0 (pa_cons (pv 0) (pa_cons (pe_op op_add pe_int (pe_call (ok_L_draw T) (hr.mono (by decide)) (by rfl) T.g_L_draw T.F_L_draw.kp T.b_L_draw .nil pass0 (pa_cons (pv 0) (pa_cons pe_int pa_nil)))) pa_nil)))) (pss_cons (ps_set (i := 4) sc_L_parts.nd rfl (Or.inr rfl) (pe_call (ok_L_names T) (hr.mono (by decide)) (by rfl) T.g_L_names T.F_L_names.kp T.b_L_names .nil pass0 (pa_cons (pv 0) (pa_cons pe_int pa_nil)))) (pss_cons (ps_ifk (PW.pt (pw_and (pt_cmpR op_eq (pe_call (ok_L_draw T) (hr.mono (by decide)) (by rfl) T.g_L_draw T.F_L_draw.kp T.b_L_draw .nil pass0 (pa_cons (pv 0) (pa_cons pe_int pa_nil))) pe_int (nomark _)) (pw_and1 (pt_cmpR (op_notin_strsK (K := K) rfl) (pe_ix (ix_aK (K := K) rfl) (pv 2) pe_int (fun _ _ => rfl)) (pv 3) (by rfl))))) (pss_one (ps_asg (pe_ix (ix_aK (K := K) rfl) (pv 2) pe_int (fun _ _ => rfl)) (pg_sub (pv 3) pe_int set_list))) pss_nil) (pss_cons (ps_set (i := 5) sc_L_parts.nd rfl (Or.inl rfl) (pe_callTy (call_tupleK (K := K) rfl) (by rfl) T.tuple_ (by decide +kernel) (pa_cons (pe_lc (own := [("_law_name", 6)]) (g := gName 6) (tt := tYes) rfl sc_L_parts.nd (pi_listK (K := K) rfl (pv 3)) (blkOk_by (N := ["_law_box_here", "_law_size", "_law_words", "_law_names_here", "_law_notes", "_law_fields", "_law_name"]) (sc := defScope s_L_parts) (by decide +kernel)) (fun _ _ _ _ _ => pg_name (i := 6) sc_L_parts.nd rfl (Or.inl rfl)) (fun _ _ _ _ _ => pts_nil) (fun _ _ _ _ _ => (pe_tup (pa_cons (pv 6) (pa_cons (pe_call (ok_L_field T) (hr.mono (by decide)) (by rfl) T.g_L_field T.F_L_field.kp T.b_L_field .nil pass0 (pa_cons (pv 0) (pa_cons (pv 2) (pa_cons (pv 3) (pa_cons (pv 6) (pa_cons (pv 4) pa_nil)))))) pa_nil))))) pa_nil))) (pss_one (ps_ret (pe_tup (pa_cons (pv 2) (pa_cons (pv 5) (pa_cons (pv 1) pa_nil)))))))))))), ?_⟩
    show tSeq _ _ _ [_, none, none, none, none, none, none] _
    walk_at "gox_31"
    refine ⟨b, c, 3, rfl, by decide, by decide, hB, fun d1 H1 d10 d11 hx1 hB1 => ?_⟩
    have s1 : Same (hid H b) H1 := hid_but hid_same hx1
    walk_at "gox_31"
    refine ⟨b, c, 2, rfl, by decide, by decide, hB1, fun d2 H2 d20 d21 hx2 hB2 => ?_⟩
    have s2 : Same (hid H b) H2 := hid_but s1 hx2
    walk_at "gox_31"
    refine ⟨b, c, 2 + d2, rfl, by omega, by omega, hB2, fun H3 wl ws s3 hB3 n3 e3 NW => ?_⟩
    have sH3 := hid_hid s2 s3
    walk_at "gox_31"
    refine ⟨wl, _, rfl, .inl (.inl e3), fun wa ob nw hd hc => ?_⟩
    generalize hG : upd H3 wa _ = H4
    have s4 : Same H3 H4 := by rw [← hG]; exact same_new nw
    have hW4 : PTup H4 wa (ws.map V.str) := ⟨ob, by rw [← hG]; exact upd_same, hd, hc⟩
    have hB4 := hB3.mono s4
    walk_at "gox_31"
    refine ⟨b, c, 3, rfl, by decide, by decide, hB4, fun d5 H5 d50 d51 hx5 hB5 => ?_⟩
    have s5 : Same (hid H4 b) H5 := hid_but hid_same hx5
    walk_at "gox_31"
    refine ⟨b, c, 1 + d5, rfl, by omega, by omega, hB5, fun H6 nm names s6 hB6 n6 e6 NN => ?_⟩
    have sH6 : Same (hid H4 b) H6 := hid_hid s5 s6
    walk_at "gox_31"
    refine ⟨b, c, 2, rfl, by decide, by decide, hB6, fun H7 na notes s7 hB7 n7 e7 NO => ?_⟩
    have hnb : nm ≠ b := (hB5.nb n6).symm
    have hab : na ≠ b := (hB6.nb n7).symm
    have hnm7 := s7 _ _ (hid_some e6 hnb)
    have sH7 : Same (hid H4 b) H7 := hid_hid sH6 s7
    have hW7 := hB4.smP sH7 hW4
    have sHH : Same (hid H b) H7 := hid_hid (sH3.trans s4) sH7
    have w2 : 2 ≤ ws.length := by rw [NW.len]; omega
    have w3 : ws.length ≤ 3 := by rw [NW.len]; omega
    have nan : na ≠ nm := fun h => by rw [h, e6] at n7; cases n7
    walk_at "gox_31"
    refine if_cut (PartsP H b c wa nm na ws notes (1 + d5).toNat (1 + d1)) (fun σ' H8 hP => ?_) (fun J => ?_)
    · obtain ⟨names', NN', hnm8, hna8, hW8, sH8, hB8, rfl⟩ := hP
      have nl : names'.length ≤ 3 := by rw [NN'.len]; omega
      walk_at "gox_31"
      refine ⟨nm, rfl, ⟨_, .inl (.inl hnm8)⟩, fun D nD => lc_list (K := K) (a := nm) (xs := names'.map V.str) (fun i H' => Same (hid H8 b) H' ∧ BoxAt H' b c ∧ ∃ (vs : List V) (fs : List (Str × Fld)), H' D = some (.lst vs) ∧ vs.length = i ∧ fs.length = i ∧ fs.map (·.1) = names'.take i ∧ (∀ p ∈ fs, p.2.Ok ws names' p.1) ∧
        ∀ (j : Nat) (x : V) (p : Str × Fld), vs[j]? = some x → fs[j]? = some p → ∃ (q : Addr) (fv : V), x = .ref q ∧ SqT K H' q [.str p.1, fv] ∧ FldAt K H' fv p.2)
        ⟨hid_put hid_same nD, hB8.put hB8 nD, [], [], upd_same, rfl, rfl, rfl, fun p h => absurd h List.not_mem_nil, fun j x p h => by simp at h⟩ (fun i H' _ h => .inl (.inl (h.1 _ _ (hid_some hnm8 hnb)))) ?_ ?_⟩
      · rintro i x H' hi ⟨sm, hB9, vs, fs, hD, lv, lf, hfn, hok, hrow⟩
        obtain ⟨z, hz, rfl⟩ := str_at hi
        have hlt : i < names'.length := (List.getElem?_eq_some_iff.mp hz).1
        have Db : D ≠ b := (hB8.nb nD).symm
        walk_at "gox_31"
        refine ⟨b, c, wa, nm, na, ws, names', notes, z, rfl, hB9, hB8.smP sm hW8, sm _ _ (hid_some hnm8 hnb), hnb, sm _ _ (hid_some hna8 hab), hab, by omega, w3, nl, NO, fun H10 q10 f10 s10 hB10 n10 hfl hok10 => ?_⟩
        walk_at "gox_31"
        intro t nt
        have hD10 := s10 _ _ (hid_some hD Db)
        have tD : D ≠ t := ne_of_none hD10 nt
        have hD11 : upd H10 t (.tup [.str z, .ref q10]) D = some (.lst vs) := (upd_ne tD).trans hD10
        have sT : SmT K H' (upd (upd H10 t (.tup [.str z, .ref q10])) D (.lst (vs ++ [.ref t]))) := fun a xs h => smT_upd hD11 _ _ (same_smT (same_new nt) _ _ (hB9.smT s10 _ _ h))
        have sT2 : SmT K H10 (upd (upd H10 t (.tup [.str z, .ref q10])) D (.lst (vs ++ [.ref t]))) := fun a xs h => smT_upd hD11 _ _ (same_smT (same_new nt) _ _ h)
        refine ⟨_, hD11, by rw [lv]; exact small63 (by omega), hid_put (fun x u e => (same_new nt) x u ((hid_hid sm s10) x u e)) nD, (hB10.mono (same_new nt)).put hB8 nD, _, fs ++ [(z, f10)], upd_same, by rw [List.length_append, lv]; rfl, by rw [List.length_append, lf]; rfl, by rw [List.map_append, hfn, take_at hz]; rfl, ?_, ?_⟩
        · intro p hp
          rcases List.mem_append.mp hp with h | h
          · exact hok p h
          · rw [List.mem_singleton.mp h]; exact hok10
        · intro j x p hx hp
          by_cases hj : j < i
          · rw [List.getElem?_append_left (by rw [lv]; exact hj)] at hx
            rw [List.getElem?_append_left (by rw [lf]; exact hj)] at hp
            obtain ⟨q, fv, e, h1, h2⟩ := hrow j x p hx hp
            exact ⟨q, fv, e, sT _ _ h1, h2.mt sT⟩
          · have hji : j = i := by
              have := (List.getElem?_eq_some_iff.mp hx).1
              rw [List.length_append, lv] at this
              have : j < i + 1 := this
              omega
            rw [List.getElem?_append_right (by rw [lv]; omega), lv, hji, Nat.sub_self] at hx
            rw [List.getElem?_append_right (by rw [lf]; omega), lf, hji, Nat.sub_self] at hp
            cases hx
            cases hp
            exact ⟨t, .ref q10, rfl, .inl (.inl ((upd_ne tD.symm).trans upd_same)), hfl.mt sT2⟩
      · rintro H9 ⟨sm, hB9, vs, fs, hD, lv, lf, hfn, hok, hrow⟩
        rw [List.length_map] at lv lf hfn
        rw [List.take_length] at hfn
        have hW9 := hB8.smP sm hW8
        walk_at "gox_31"
        refine ⟨D, _, rfl, .inl (.inl hD), fun fa nf => ?_⟩
        walk_at "gox_31"
        intro t nt
        have sH9 := hid_hid sH8 sm
        have st : Same H9 (upd (upd H9 fa (.tup vs)) t (.tup [.ref wa, .ref fa, .int (1 + d1)])) := (same_new nf).trans (same_new nt)
        have ft := (same_new (o := .tup vs) nf).free nt
        refine q _ t wa fa ⟨ws, fs, 1 + d1⟩ ⟨w2, w3, NW.nd, NW.nm, ?_, ?_, ?_, ?_, ?_, by show 1 ≤ 1 + d1; omega, by show 1 + d1 ≤ 3; omega⟩ (fun x u e => st x u (sH9 x u e)) (hB9.mono st) (hid_free sH9 ft (hB9.nb ft).symm) (hW9.mono st) ⟨vs, same_sqT (same_new nt) (.inl (.inl upd_same)), by rw [lv, lf], fun j x p h1 h2 => ?_⟩ upd_same
        · show 1 ≤ fs.length
          rw [lf, NN'.len]; omega
        · show fs.length ≤ 3
          rw [lf]; exact nl
        · show (fs.map (·.1)).Nodup
          rw [hfn]; exact NN'.nd
        · show ∀ z ∈ fs.map (·.1), nameB z = true
          rw [hfn]; exact NN'.nm
        · show ∀ p ∈ fs, p.2.Ok ws (fs.map (·.1)) p.1
          rw [hfn]; exact hok
        · obtain ⟨q, fv, e, h1, h2⟩ := hrow j x p h1 h2
          exact ⟨q, fv, e, same_sqT st h1, h2.mono st⟩
    · have hWs7 := hW7.sq (K := K)
      have hN7 : SqL K H7 nm (names.map V.str) := .inl (.inl hnm7)
      walk_at "gox_31"
      refine ⟨b, c, 4, rfl, by decide, by decide, hB7, fun d8 H8 d80 d81 hx8 hB8 => ?_⟩
      have s8 : Same (hid H7 b) H8 := hid_but hid_same hx8
      have hnm8 := s8 _ _ (hid_some hnm7 hnb)
      have hna8 := s8 _ _ (hid_some e7 hab)
      have hW8 := hB7.smP s8 hW7
      have hWs8 := hW8.sq (K := K)
      have hN8 : SqL K H8 nm (names.map V.str) := .inl (.inl hnm8)
      have sH8 := hid_hid sHH s8
      have hw0 : ws[0]? = some ws[0] := List.getElem?_eq_getElem (by omega)
      walk_at "gox_31"
      first | refine Wn.ifd_int (fun e => ?_) (fun e => ?_) | refine Wn.ifd (fun e => ?_) (fun e => ?_)
      · walk_at "gox_31"
        refine r_ixa (.inr hWs8) (show atI (ws.map V.str) ((0 : Nat) : Int) = some (.str ws[0]) from atI_nat (by rw [List.getElem?_map, hw0]; rfl)) ?_
        walk_at "gox_31"
        by_cases e2 : ws[0] ∈ names
        · refine ite_f (nd_f e2) ?_
          walk_at "gox_31"
          exact J _ _ ⟨names, NN, hnm8, hna8, hW8, sH8, hB8, rfl⟩
        · refine ite_t (nd_t e2) ?_
          walk_at "gox_31"
          refine r_ixa (.inr hWs8) (show atI (ws.map V.str) ((0 : Nat) : Int) = some (.str ws[0]) from atI_nat (by rw [List.getElem?_map, hw0]; rfl)) ?_
          walk_at "gox_31"
          have hn4 : H4 nm = none := hid_free s5 n6 hnb
          have hnH : H nm = none := hid_free (sH3.trans s4) hn4 hnb
          refine ⟨nm, _, 0, 0, rfl, rfl, hnm8, ?_, ?_⟩
          · rw [List.length_map, NN.len]
            obtain ⟨k, hk⟩ : ∃ k, (1 + d5).toNat = k + 1 := ⟨d5.toNat, by omega⟩
            rw [hk]
            simp [ixN]
          · refine J _ _ ⟨names.set 0 ws[0], nms_set NN (NW.nm _ (List.getElem_mem (by omega))) e2, ?_, (upd_ne nan).trans hna8, ?_, hid_put sH8 hnH, hB8.put hB5 n6, rfl⟩
            · rw [upd_same, List.map_set]
            · obtain ⟨o, eo, r⟩ := hW8
              exact ⟨o, (upd_ne (ne_of eo hnm8 (by intro z; cases z))).trans eo, r⟩
      · walk_at "gox_31"
        exact J _ _ ⟨names, NN, hnm8, hna8, hW8, sH8, hB8, rfl⟩
end
end Wn


namespace Wn
open PySem PySem.Spec PyProof.Rows L2
def entD : Option Str → PyData
  | none => .none
  | some z => .str z
theorem ent_dp {K : PySem.W.Frag} {H : Hp} : ∀ o : Option Str, Dp K H (entV o) (entD o)
  | none => .non
  | some z => .str z
theorem ents_dp {K : PySem.W.Frag} {H : Hp} : ∀ l : List (Option Str), DpAll K H (l.map entV) (l.map entD)
  | [] => .nil
  | o :: l => .cons (ent_dp o) (ents_dp l)
theorem ent_depth (o : Option Str) : (entD o).depth = 0 := by cases o <;> rfl
theorem ents_depth : ∀ l : List (Option Str), PyData.depthAll (l.map entD) = 0
  | [] => rfl
  | o :: l => by
    show max (entD o).depth (PyData.depthAll (l.map entD)) = 0
    rw [ents_depth l, ent_depth]
    rfl
theorem ents_dsz : ∀ l : List (Option Str), dszAll (l.map entD) = true
  | [] => rfl
  | o :: l => by
    show (dsz (entD o) && dszAll (l.map entD)) = true
    rw [ents_dsz l]
    cases o <;> rfl
/-- two tuples of the same entries are the same -/
theorem same_ents {K : PySem.W.Frag} {H : Hp} {Q : VK} {E : XK} {p q : Addr} {l : List (Option Str)} (h1 : SqT K H p (l.map entV)) (h2 : SqT K H q (l.map entV)) (hl : l.length ≤ 100000) (k : ∀ H', Same H H' → Q (.bl true) H') : spSame K 8 [.ref p, .ref q] H Q E := by
  refine ⟨.ref p, .ref q, .tuple (l.map entD), rfl, .tup h1 (ents_dp l), .tup h2 (ents_dp l), ?_, ?_, k⟩
  · show PyData.depthAll (l.map entD) + 1 < 8
    rw [ents_depth]
    decide
  · show (decide ((l.map entD).length ≤ 100000) && dszAll (l.map entD)) = true
    rw [ents_dsz, List.length_map, decide_eq_true hl]
    rfl
/-! ### the data of a form -/
theorem dpAll_of {K : PySem.W.Frag} {H : Hp} : ∀ {vs : List V} {ds : List PyData}, vs.length = ds.length → (∀ (i : Nat) (x : V) (d : PyData), vs[i]? = some x → ds[i]? = some d → Dp K H x d) → DpAll K H vs ds
  | [], [], _, _ => .nil
  | x :: vs, d :: ds, hl, h => .cons (h 0 x d rfl rfl) (dpAll_of (by simpa using hl) fun i x d h1 h2 => h (i + 1) x d (by simpa using h1) (by simpa using h2))
theorem strs_dp {K : PySem.W.Frag} {H : Hp} : ∀ zs : List Str, DpAll K H (zs.map V.str) (zs.map PyData.str)
  | [] => .nil
  | z :: zs => .cons (.str z) (strs_dp zs)
def wordsD (ws : List Str) : PyData := .tuple (ws.map PyData.str)
def rowD (r : List (Option Str)) : PyData := .tuple (r.map entD)
def nearD (f : Fld) : PyData := match f.looks with
  | none => rowD f.nearA
  | some _ => .tuple (f.nearL.map rowD)
def farD (f : Fld) : PyData := match f.far with
  | none => .none
  | some r => rowD r
def fldD (f : Fld) : PyData := .tuple [.str f.first, entD f.looks, nearD f, farD f]
def pairD (p : Str × Fld) : PyData := .tuple [.str p.1, fldD p.2]
def fieldsD (fs : List (Str × Fld)) : PyData := .tuple (fs.map pairD)
section
variable {K : PySem.W.Frag} {H : Hp}
theorem words_dp {a : Addr} {ws : List Str} (h : SqT K H a (ws.map V.str)) : Dp K H (.ref a) (wordsD ws) := .tup h (strs_dp ws)
theorem row_dp {v : V} {r : List (Option Str)} (h : RowAt K H v r) : Dp K H v (rowD r) := by
  obtain ⟨a, rfl, t⟩ := h
  exact .tup t (ents_dp r)
theorem near_dp {v : V} {f : Fld} (h : NearAt K H v f) : Dp K H v (nearD f) := by
  unfold NearAt at h
  unfold nearD
  cases e : f.looks with
  | none => rw [e] at h; exact row_dp h
  | some l =>
    rw [e] at h
    obtain ⟨a, vs, rfl, t, hl, hr⟩ := h
    refine .tup t (dpAll_of (by rw [List.length_map, hl]) fun i x d h1 h2 => ?_)
    rw [List.getElem?_map] at h2
    cases e2 : f.nearL[i]? with
    | none => rw [e2] at h2; cases h2
    | some r =>
      rw [e2] at h2
      cases h2
      exact row_dp (hr i x r h1 e2)
theorem far_dp {v : V} {f : Fld} (h : FarAt K H v f) : Dp K H v (farD f) := by
  unfold FarAt at h
  unfold farD
  cases e : f.far with
  | none => rw [e] at h; subst h; exact .non
  | some r => rw [e] at h; exact row_dp h
theorem fld_dp {v : V} {f : Fld} (h : FldAt K H v f) : Dp K H v (fldD f) := by
  obtain ⟨a, nv, fv, rfl, t, hn, hf⟩ := h
  exact .tup t (.cons (.str _) (.cons (ent_dp _) (.cons (near_dp hn) (.cons (far_dp hf) .nil))))
theorem fields_dp {a : Addr} {fs : List (Str × Fld)} (h : FieldsAt K H a fs) : Dp K H (.ref a) (fieldsD fs) := by
  obtain ⟨vs, t, hl, hx⟩ := h.ex
  refine .tup t (dpAll_of (by rw [List.length_map, hl]) fun i x d h1 h2 => ?_)
  rw [List.getElem?_map] at h2
  cases e2 : fs[i]? with
  | none => rw [e2] at h2; cases h2
  | some p =>
    rw [e2] at h2
    cases h2
    obtain ⟨q, fv, rfl, t2, hf⟩ := hx i x p h1 e2
    exact .tup t2 (.cons (.str _) (.cons (fld_dp hf) .nil))
end
/-! depth and size -/
theorem depthAll_le {n : Nat} : ∀ {ds : List PyData}, (∀ d ∈ ds, d.depth ≤ n) → PyData.depthAll ds ≤ n
  | [], _ => Nat.zero_le _
  | d :: ds, h => Nat.max_le.mpr ⟨h d (List.mem_cons_self), depthAll_le fun e he => h e (List.mem_cons_of_mem _ he)⟩
theorem dszAll_of : ∀ {ds : List PyData}, (∀ d ∈ ds, dsz d = true) → dszAll ds = true
  | [], _ => rfl
  | d :: ds, h => by
    show (dsz d && dszAll ds) = true
    rw [h d (List.mem_cons_self), dszAll_of fun e he => h e (List.mem_cons_of_mem _ he)]
    rfl
theorem tup_dsz {ds : List PyData} (hl : ds.length ≤ 100000) (h : dszAll ds = true) : dsz (.tuple ds) = true := by
  show (decide (ds.length ≤ 100000) && dszAll ds) = true
  rw [decide_eq_true hl, h]
  rfl
theorem tup_depth {n : Nat} {ds : List PyData} (h : PyData.depthAll ds ≤ n) : (PyData.tuple ds).depth ≤ n + 1 := Nat.succ_le_succ h
theorem words_dsz {ws : List Str} (h : ws.length ≤ 3) : dsz (wordsD ws) = true := tup_dsz (by rw [List.length_map]; omega) (dszAll_of fun d hd => by
  obtain ⟨z, _, rfl⟩ := List.mem_map.mp hd
  rfl)
theorem words_depth (ws : List Str) : (wordsD ws).depth ≤ 1 := tup_depth (depthAll_le fun d hd => by
  obtain ⟨z, _, rfl⟩ := List.mem_map.mp hd
  exact Nat.le_refl _)
theorem row_dsz {r : List (Option Str)} (h : r.length ≤ 3) : dsz (rowD r) = true := tup_dsz (by rw [List.length_map]; omega) (ents_dsz r)
theorem row_depth (r : List (Option Str)) : (rowD r).depth ≤ 1 := tup_depth (by rw [ents_depth]; exact Nat.le_refl _)
theorem near_dsz {f : Fld} {ws names : List Str} {name : Str} (ok : f.Ok ws names name) (w : ws.length ≤ 3) : dsz (nearD f) = true := by
  unfold nearD
  cases e : f.looks with
  | none => exact row_dsz (by rw [(ok.alone e).1]; exact w)
  | some l =>
    obtain ⟨h1, h2⟩ := ok.pairs l e
    refine tup_dsz (by rw [List.length_map, h1]; omega) (dszAll_of fun d hd => ?_)
    obtain ⟨r, hr, rfl⟩ := List.mem_map.mp hd
    exact row_dsz (by rw [(h2 r hr).1]; exact w)
theorem near_depth (f : Fld) : (nearD f).depth ≤ 2 := by
  unfold nearD
  cases e : f.looks with
  | none => exact Nat.le_succ_of_le (row_depth _)
  | some l =>
    refine tup_depth (depthAll_le fun d hd => ?_)
    obtain ⟨r, hr, rfl⟩ := List.mem_map.mp hd
    exact row_depth r
theorem far_dsz {f : Fld} {ws names : List Str} {name : Str} (ok : f.Ok ws names name) (w : ws.length ≤ 3) : dsz (farD f) = true := by
  unfold farD
  cases e : f.far with
  | none => rfl
  | some r => exact row_dsz (by rw [(ok.far r e).1]; exact w)
theorem far_depth (f : Fld) : (farD f).depth ≤ 1 := by
  unfold farD
  cases e : f.far with
  | none => exact Nat.zero_le _
  | some r => exact row_depth r
theorem fld_dsz {f : Fld} {ws names : List Str} {name : Str} (ok : f.Ok ws names name) (w : ws.length ≤ 3) : dsz (fldD f) = true := by
  refine tup_dsz (by show 4 ≤ 100000; decide) (dszAll_of fun d hd => ?_)
  simp only [List.mem_cons, List.not_mem_nil, or_false] at hd
  rcases hd with rfl | rfl | rfl | rfl
  · rfl
  · cases f.looks <;> rfl
  · exact near_dsz ok w
  · exact far_dsz ok w
theorem fld_depth (f : Fld) : (fldD f).depth ≤ 3 := by
  refine tup_depth (depthAll_le fun d hd => ?_)
  simp only [List.mem_cons, List.not_mem_nil, or_false] at hd
  rcases hd with rfl | rfl | rfl | rfl
  · exact Nat.zero_le _
  · rw [ent_depth]; exact Nat.zero_le _
  · exact near_depth f
  · exact Nat.le_succ_of_le (far_depth f)
theorem fields_dsz {fs : List (Str × Fld)} {ws names : List Str} (h : fs.length ≤ 3) (ok : ∀ p ∈ fs, p.2.Ok ws names p.1) (w : ws.length ≤ 3) : dsz (fieldsD fs) = true := by
  refine tup_dsz (by rw [List.length_map]; omega) (dszAll_of fun d hd => ?_)
  obtain ⟨p, hp, rfl⟩ := List.mem_map.mp hd
  refine tup_dsz (by show 2 ≤ 100000; decide) (dszAll_of fun d hd => ?_)
  simp only [List.mem_cons, List.not_mem_nil, or_false] at hd
  rcases hd with rfl | rfl
  · rfl
  · exact fld_dsz (ok p hp) w
theorem fields_depth (fs : List (Str × Fld)) : (fieldsD fs).depth ≤ 5 := by
  refine tup_depth (depthAll_le fun d hd => ?_)
  obtain ⟨p, hp, rfl⟩ := List.mem_map.mp hd
  refine tup_depth (n := 3) (depthAll_le fun d hd => ?_)
  simp only [List.mem_cons, List.not_mem_nil, or_false] at hd
  rcases hd with rfl | rfl
  · exact Nat.zero_le _
  · exact fld_depth p.2
end Wn


namespace Wn
open PySem PySem.Spec PyProof.Rows L2
/-! ### when two forms are the same -/
theorem name_ok {z : Str} (h : nameB z = true) : PyData.strOk z = true := by
  have h2 := nameB_low h
  unfold lowB at h2
  unfold PyData.strOk
  rw [List.all_eq_true] at h2
  rw [Array.all_eq_true]
  intro i hi
  have h3 := h2 z.cps[i] (by rw [Array.mem_toList_iff]; exact Array.getElem_mem hi)
  simp only [Bool.and_eq_true, decide_eq_true_eq] at h3
  simp only [decide_eq_true_eq]
  omega
theorem layAll_of : ∀ {ds : List PyData}, (∀ d ∈ ds, PyData.canLay0 d = true) → PyData.canLayAll0 ds = true
  | [], _ => rfl
  | d :: ds, h => by
    show (PyData.canLay0 d && PyData.canLayAll0 ds) = true
    rw [h d (List.mem_cons_self), layAll_of fun e he => h e (List.mem_cons_of_mem _ he)]
    rfl
theorem words_lay {ws : List Str} (h : ∀ z ∈ ws, nameB z = true) : PyData.canLay0 (wordsD ws) = true := layAll_of fun d hd => by
  obtain ⟨z, hz, rfl⟩ := List.mem_map.mp hd
  exact name_ok (h z hz)
theorem row_lay {r : List (Option Str)} (h : rowOk r) : PyData.canLay0 (rowD r) = true := layAll_of fun d hd => by
  obtain ⟨o, ho, rfl⟩ := List.mem_map.mp hd
  cases o with
  | none => rfl
  | some z => exact name_ok (h z ho)
theorem near_lay {f : Fld} {ws names : List Str} {name : Str} (ok : f.Ok ws names name) : PyData.canLay0 (nearD f) = true := by
  unfold nearD
  cases e : f.looks with
  | none => exact row_lay (ok.alone e).2
  | some l =>
    refine layAll_of fun d hd => ?_
    obtain ⟨r, hr, rfl⟩ := List.mem_map.mp hd
    exact row_lay ((ok.pairs l e).2 r hr).2
theorem far_lay {f : Fld} {ws names : List Str} {name : Str} (ok : f.Ok ws names name) : PyData.canLay0 (farD f) = true := by
  unfold farD
  cases e : f.far with
  | none => rfl
  | some r => exact row_lay (ok.far r e).2
theorem fld_lay {f : Fld} {ws names : List Str} {name : Str} (ok : f.Ok ws names name) (hw : ∀ z ∈ ws, nameB z = true) (hn : ∀ z ∈ names, nameB z = true) : PyData.canLay0 (fldD f) = true := by
  refine layAll_of fun d hd => ?_
  simp only [List.mem_cons, List.not_mem_nil, or_false] at hd
  rcases hd with rfl | rfl | rfl | rfl
  · exact name_ok (hw _ ok.first)
  · cases e : f.looks with
    | none => rfl
    | some l => exact name_ok (hn _ (ok.looks l e).2)
  · exact near_lay ok
  · exact far_lay ok
theorem fields_lay {F : Parts} (ok : F.Ok) : PyData.canLay0 (fieldsD F.fs) = true := by
  refine layAll_of fun d hd => ?_
  obtain ⟨p, hp, rfl⟩ := List.mem_map.mp hd
  refine layAll_of fun d hd => ?_
  simp only [List.mem_cons, List.not_mem_nil, or_false] at hd
  rcases hd with rfl | rfl
  · exact name_ok (ok.fk _ (List.mem_map.mpr ⟨p, hp, rfl⟩))
  · exact fld_lay (ok.fld p hp) ok.wk ok.fk
theorem shaped_of {d : PyData} {n : Nat} (h : PyData.canLay0 d = true) (hd : d.depth ≤ n) (hn : n ≤ 64) : SeqAt.shaped d = true := by
  unfold SeqAt.shaped
  rw [h, decide_eq_true (Nat.le_trans hd hn)]
  rfl
def Parts.same (F G : Parts) : Bool := PyData.eqv (wordsD F.ws) (wordsD G.ws) && (PyData.eqv (fieldsD F.fs) (fieldsD G.fs) && decide (F.room = G.room))
theorem same_refl {F : Parts} (ok : F.Ok) : F.same F = true := by
  unfold Parts.same
  rw [SeqAt.eqv_refl _ (words_lay ok.wk), SeqAt.eqv_refl _ (fields_lay ok), decide_eq_true rfl]
  rfl
theorem same_comm (F G : Parts) : F.same G = G.same F := by
  unfold Parts.same
  rw [PySem.W.eqv_comm (wordsD F.ws), PySem.W.eqv_comm (fieldsD F.fs)]
  congr 2
  exact decide_eq_decide.mpr ⟨Eq.symm, Eq.symm⟩
theorem eqvAll_at : ∀ {xs ys : List PyData} {i : Nat} {x y : PyData}, PyData.eqvAll xs ys = true → xs[i]? = some x → ys[i]? = some y → PyData.eqv x y = true
  | [], _, _, _, _, _, h, _ => by simp at h
  | _ :: _, [], _, _, _, _, _, h => by simp at h
  | a :: xs, b :: ys, 0, x, y, h, h1, h2 => by
    rw [PyData.eqvAll] at h
    cases h1
    cases h2
    exact (Bool.and_eq_true_iff.mp h).1
  | a :: xs, b :: ys, i + 1, x, y, h, h1, h2 => by
    rw [PyData.eqvAll] at h
    exact eqvAll_at (i := i) (Bool.and_eq_true_iff.mp h).2 (by simpa using h1) (by simpa using h2)
theorem eqv_tup {xs ys : List PyData} {i : Nat} {x y : PyData} (h1 : xs[i]? = some x) (h2 : ys[i]? = some y) (h : PyData.eqv x y = false) : PyData.eqv (.tuple xs) (.tuple ys) = false := by
  cases e : PyData.eqv (.tuple xs) (.tuple ys) with
  | false => rfl
  | true =>
    have e2 : PyData.eqvAll xs ys = true := by rw [PyData.eqv] at e; exact e
    rw [eqvAll_at e2 h1 h2] at h
    cases h
theorem eqv_str {a b : Str} (h : a ≠ b) : PyData.eqv (.str a) (.str b) = false := by
  rw [PyData.eqv]
  exact beq_false_of_ne h
end Wn


namespace Wn
open PySem PySem.Spec PyProof.Rows L2
section
variable {P : Program} {w : World} {K : PySem.W.Frag} {mg : Str → Option Value} {base : Heap}
theorem ok_InvalidWords_init (T : Txt K mg) : FnOk P w K mg base CX0 1 T.f_InvalidWords_init T.d_InvalidWords_init ["self", "words"] (spE1 T.C_InvalidWords "words") := by
  refine T.F_InvalidWords_init.ok sc_InvalidWords_init (fun vs H Q E h => ?_) (fun cdv A outer s H vs Q E hr h => ?_)
  · obtain ⟨a, v, rfl, _⟩ := h
    rfl
  · obtain ⟨a, v, rfl, ha, q⟩ := h
    refine ⟨_, pss_one (ps_ost (pv 0) (pv 1)), ?_⟩
    exact ⟨v, rfl, .ref a, rfl, a, T.C_InvalidWords, rfl, T.x_InvalidWords.o, T.n_InvalidWords0, .inl ⟨ha, fun d nd ne => q d nd ne⟩⟩
theorem ok_UnknownField_init (T : Txt K mg) : FnOk P w K mg base CX0 1 T.f_UnknownField_init T.d_UnknownField_init ["self", "field"] (spE1 T.C_UnknownField "field") := by
  refine T.F_UnknownField_init.ok sc_UnknownField_init (fun vs H Q E h => ?_) (fun cdv A outer s H vs Q E hr h => ?_)
  · obtain ⟨a, v, rfl, _⟩ := h
    rfl
  · obtain ⟨a, v, rfl, ha, q⟩ := h
    refine ⟨_, pss_one (ps_ost (pv 0) (pv 1)), ?_⟩
    exact ⟨v, rfl, .ref a, rfl, a, T.C_UnknownField, rfl, T.x_UnknownField.o, T.n_UnknownField0, .inl ⟨ha, fun d nd ne => q d nd ne⟩⟩
theorem ok_UnknownWord_init (T : Txt K mg) : FnOk P w K mg base CX0 1 T.f_UnknownWord_init T.d_UnknownWord_init ["self", "word"] (spE1 T.C_UnknownWord "word") := by
  refine T.F_UnknownWord_init.ok sc_UnknownWord_init (fun vs H Q E h => ?_) (fun cdv A outer s H vs Q E hr h => ?_)
  · obtain ⟨a, v, rfl, _⟩ := h
    rfl
  · obtain ⟨a, v, rfl, ha, q⟩ := h
    refine ⟨_, pss_one (ps_ost (pv 0) (pv 1)), ?_⟩
    exact ⟨v, rfl, .ref a, rfl, a, T.C_UnknownWord, rfl, T.x_UnknownWord.o, T.n_UnknownWord0, .inl ⟨ha, fun d nd ne => q d nd ne⟩⟩
end

local macro_rules | `(tactic| walk_at "gox1_34") => `(tactic| (first
  | walk_at "go1"
  | (with_reducible apply Wn.r_bm)
  | ((with_reducible apply Wn.r_tyl); (focus (walk_at "lk"; done)))
  | ((with_reducible apply Wn.r_ext); (focus (walk_at "lk"; done)); (focus (walk_at "lk"; done)); (focus ((with_unfolding_all first | (simp only [List.length_cons, List.length_nil, List.length_append]; decide) | fail); done)))
  | ((with_reducible apply Wn.r_cat); (focus (walk_at "lk"; done)); (focus (walk_at "lk"; done)); (focus ((with_unfolding_all first | (simp only [List.length_cons, List.length_nil, List.length_append]; decide) | fail); done)))
  | ((with_reducible apply Wn.r_fw); (focus ((with_unfolding_all first | exact rfl | fail); done)); (focus ((first | assumption | exact Wn.FormAt.s (by assumption) | fail); done)))
  | ((with_reducible apply Wn.r_ff); (focus ((with_unfolding_all first | exact rfl | fail); done)); (focus ((first | assumption | exact Wn.FormAt.s (by assumption) | fail); done)))
  | ((with_reducible apply Wn.r_fm); (focus ((first | assumption | exact Wn.FormAt.s (by assumption) | fail); done)); (focus ((decide +kernel); done)); (focus ((decide +kernel); done)); (focus ((decide +kernel); done)))
  | ((with_reducible apply Wn.r_inF); (focus ((first | exact Or.inl (by assumption) | exact Or.inr (by assumption) | fail); done)))
  | ((with_reducible apply Wn.r_inT); (focus ((first | exact Or.inl (by assumption) | exact Or.inr (by assumption) | fail); done)))
  | (with_reducible apply Wn.r_chain)
  | (with_reducible apply Wn.r_bt)
  | (with_reducible apply Wn.r_fld)
  | (with_reducible apply Wn.r_meth)
  | ((with_reducible apply Wn.r_pt); (focus ((first | assumption | fail); done)))
  | ((with_reducible apply Wn.r_ti); (focus ((first | assumption | exact Wn.PTup.sq (by assumption) | fail); done)); (focus ((first | assumption | fail); done)))
  | ((with_reducible apply Wn.r_tupT); (focus ((assumption); done)))
  | ((with_reducible apply Wn.r_gtup); (focus ((first | assumption | fail); done)); (focus ((with_unfolding_all first | exact rfl | fail); done)))
  | (with_reducible apply Wn.r_gcons)
  | (with_reducible apply Wn.r_gnil)
  | (with_reducible apply Wn.r_for)
  | ((with_reducible apply Wn.r_ixa); (focus ((first | exact Or.inl (L2.SqL.of (by walk_at "lk")) | exact Or.inr (L2.SqT.of (by walk_at "lk")) | exact Or.inr (by assumption) | exact Or.inl (by assumption) | fail); done)); (focus ((with_unfolding_all first | exact rfl | fail); done)))
  | (with_reducible apply Wn.r_lc)
  | (with_reducible apply Wn.r_rng1)
  | (with_reducible apply Wn.r_ilist)
  | (with_reducible apply Wn.r_itup)
  | (with_reducible apply Wn.r_istr)
  | (with_reducible apply Wn.r_tsl)
  | (with_reducible apply Wn.r_nopart)
  | (with_reducible apply Wn.r_part)
  | (with_reducible apply Wn.r_exint)))
local macro_rules | `(tactic| walk_at "gox_34") => `(tactic| repeat (walk_at "gox1_34"))
theorem eqv_strD {a : Str} {d : PyData} (h : PyData.eqv (.str a) d = true) : d = .str a := by
  cases d <;> rw [PyData.eqv] at h <;> first | (cases h; done) | skip
  rw [beq_iff_eq.mp h]
theorem str_of {K : PySem.W.Frag} {H : Hp} {v : V} {a : Str} (h : Dp K H v (.str a)) : v = .str a := by cases h; rfl
def spPartsOfX {K : PySem.W.Frag} {mg : Str → Option Value} (T : Txt K mg) : Sp := fun vs H Q E => ∃ (p wa fa : Addr) (F : Parts) (nv : V) (d : PyData), vs = [.ref p, nv] ∧ FormS T H p wa fa F ∧ Dp K H nv d ∧ SeqAt.shaped d = true ∧
  (∀ (name : Str) (i : Nat) (f : Fld) (fv : V), nv = .str name → F.fs[i]? = some (name, f) → FldAt K H fv f → Q fv H) ∧
  ((∀ name, nv = .str name → name ∉ F.fs.map (·.1)) → ∀ (dd : Addr) (H' : Hp), Same H H' → H' dd = some (.xd [("field", nv)]) → E (.ref T.C_UnknownField) (some dd) H')
section
variable {P : Program} {w : World} {K : PySem.W.Frag} {mg : Str → Option Value} {base : Heap}
theorem okX_Form_parts_of (T : Txt K mg) : FnOk P w K mg base (L2.CX P w) 3 T.f_Form_parts_of T.d_Form_parts_of ["self", "name"] (spPartsOfX T) := by
  refine T.F_Form_parts_of.okX sc_Form_parts_of (fun vs H Q E h => ?_) (fun cdv A outer s H vs Q E hr h => ?_)
  · obtain ⟨p, wa, fa, F, nv, d, rfl, _⟩ := h
    rfl
  · obtain ⟨p, wa, fa, F, nv, d, rfl, hP, hd, sd, q, qx⟩ := h
    obtain ⟨vs, hS, hvl, hx⟩ := hP.f.ex
    refine ⟨_, (pss_cons (ps_for (passes_of rfl) rfl (pi_tupK (K := K) rfl (pe_fldK (K := K) rfl (pv 0) rfl)) (pg_tupK (K := K) (n := 2) rfl rfl (pgs_cons (pg_name (i := 2) sc_Form_parts_of.nd rfl (Or.inl rfl)) (pgs_cons (pg_name (i := 3) sc_Form_parts_of.nd rfl (Or.inl rfl)) pgs_nil))) (pss_one (ps_if (pt_cmpR (op_eqDK (K := K) rfl hr.units) (pv 2) (pv 1) (nomark _)) (pss_one (ps_ret (pv 3))) pss_nil))) (pss_one (ps_raise rfl (takes_of rfl rfl rfl rfl) (pmk_oex T.x_UnknownField.o T.i_UnknownField T.t_UnknownField (ok_UnknownField_init T) (hr.mono (by decide)) T.b_UnknownField_init .nil pass0 (by rfl) T.g_UnknownField (pa_cons (pv 1) pa_nil))))), ?_⟩
    show tSeq _ _ _ [_, _, none, none] _
    walk_at "gox_34"
    refine fl_tup (K := K) (a := fa) (xs := vs) hS (fun i σ H' => H' = H ∧ (∀ j, j < i → ∀ pr, F.fs[j]? = some pr → nv ≠ .str pr.1) ∧ ∃ v2 v3, σ = [some (.ref p), some nv, v2, v3]) ⟨rfl, fun j z => absurd z (Nat.not_lt_zero _), _, _, rfl⟩ (fun i σ H' _ h => by rw [h.1]; exact hS) ?_ ?_
    · rintro i x σ H' hi ⟨rfl, hno, v2, v3, rfl⟩
      have hlt : i < F.fs.length := by rw [← hvl]; exact (List.getElem?_eq_some_iff.mp hi).1
      have ef : F.fs[i]? = some F.fs[i] := List.getElem?_eq_getElem hlt
      obtain ⟨pp, fv, rfl, hp2, hfld⟩ := hx i x _ hi ef
      have hnm : nameB F.fs[i].1 = true := hP.ok.fk _ (List.mem_map.mpr ⟨_, List.getElem_mem hlt, rfl⟩)
      walk_at "gox_34"
      refine ⟨.str F.fs[i].1, d, .str _, hd, shaped_of (n := 0) (name_ok hnm) (Nat.le_refl _) (by decide), sd, ?_⟩
      refine ⟨_, rfl, ?_⟩
      cases e : PyData.eqv (.str F.fs[i].1) d with
      | true =>
        have e2 := eqv_strD e
        subst e2
        have e3 := str_of hd
        walk_at "gox_34"
        exact q F.fs[i].1 i F.fs[i].2 fv e3 ef hfld
      | false =>
        walk_at "gox_34"
        refine ⟨fun j hj pr ep => ?_, _, _, rfl⟩
        by_cases hji : j < i
        · exact hno j hji pr ep
        · have : j = i := by omega
          subst this
          rw [ef] at ep
          cases ep
          intro h
          subst h
          cases hd
          rw [PyData.eqv, beq_self_eq_true] at e
          cases e
    · rintro σ H' ⟨rfl, hno, v2, v3, rfl⟩
      walk_at "gox_34"
      refine ⟨_, rfl, ?_⟩
      refine mk_one (fun dd H' s' n' e' => qx (fun name h m => ?_) dd H' s' e')
      obtain ⟨pr, hpr, e⟩ := List.mem_map.mp m
      obtain ⟨j, hj, ej⟩ := List.mem_iff_getElem.mp hpr
      exact hno j (by rw [hvl]; exact hj) pr (by rw [List.getElem?_eq_getElem hj, ej]) (by rw [h, e])
end
end Wn


namespace Wn
open PySem PySem.Spec PyProof.Rows L2

local macro_rules | `(tactic| walk_at "gox1_35") => `(tactic| (first
  | walk_at "go1"
  | (with_reducible apply Wn.r_bm)
  | ((with_reducible apply Wn.r_tyl); (focus (walk_at "lk"; done)))
  | ((with_reducible apply Wn.r_ext); (focus (walk_at "lk"; done)); (focus (walk_at "lk"; done)); (focus ((with_unfolding_all first | (simp only [List.length_cons, List.length_nil, List.length_append]; decide) | fail); done)))
  | ((with_reducible apply Wn.r_cat); (focus (walk_at "lk"; done)); (focus (walk_at "lk"; done)); (focus ((with_unfolding_all first | (simp only [List.length_cons, List.length_nil, List.length_append]; decide) | fail); done)))
  | ((with_reducible apply Wn.r_fw); (focus ((with_unfolding_all first | exact rfl | fail); done)); (focus ((first | assumption | exact Wn.FormAt.s (by assumption) | fail); done)))
  | ((with_reducible apply Wn.r_ff); (focus ((with_unfolding_all first | exact rfl | fail); done)); (focus ((first | assumption | exact Wn.FormAt.s (by assumption) | fail); done)))
  | ((with_reducible apply Wn.r_fm); (focus ((first | assumption | exact Wn.FormAt.s (by assumption) | fail); done)); (focus ((decide +kernel); done)); (focus ((decide +kernel); done)); (focus ((decide +kernel); done)))
  | ((with_reducible apply Wn.r_inF); (focus ((first | exact Or.inl (by assumption) | exact Or.inr (by assumption) | fail); done)))
  | ((with_reducible apply Wn.r_inT); (focus ((first | exact Or.inl (by assumption) | exact Or.inr (by assumption) | fail); done)))
  | (with_reducible apply Wn.r_chain)
  | (with_reducible apply Wn.r_bt)
  | (with_reducible apply Wn.r_fld)
  | (with_reducible apply Wn.r_meth)
  | ((with_reducible apply Wn.r_pt); (focus ((first | assumption | fail); done)))
  | ((with_reducible apply Wn.r_ti); (focus ((first | assumption | exact Wn.PTup.sq (by assumption) | fail); done)); (focus ((first | assumption | fail); done)))
  | ((with_reducible apply Wn.r_tupT); (focus ((assumption); done)))
  | ((with_reducible apply Wn.r_gtup); (focus ((first | assumption | fail); done)); (focus ((with_unfolding_all first | exact rfl | fail); done)))
  | (with_reducible apply Wn.r_gcons)
  | (with_reducible apply Wn.r_gnil)
  | (with_reducible apply Wn.r_for)
  | ((with_reducible apply Wn.r_ixa); (focus ((first | exact Or.inl (L2.SqL.of (by walk_at "lk")) | exact Or.inr (L2.SqT.of (by walk_at "lk")) | exact Or.inr (by assumption) | exact Or.inl (by assumption) | fail); done)); (focus ((with_unfolding_all first | exact rfl | fail); done)))
  | (with_reducible apply Wn.r_lc)
  | (with_reducible apply Wn.r_rng1)
  | (with_reducible apply Wn.r_ilist)
  | (with_reducible apply Wn.r_itup)
  | (with_reducible apply Wn.r_istr)
  | (with_reducible apply Wn.r_tsl)
  | (with_reducible apply Wn.r_nopart)
  | (with_reducible apply Wn.r_part)
  | (with_reducible apply Wn.r_exint)))
local macro_rules | `(tactic| walk_at "gox_35") => `(tactic| repeat (walk_at "gox1_35"))
/-- is the datum a word of the form -/
def wordB (F : Parts) (d : PyData) : Bool := (F.ws.map PyData.str).any fun z => PyData.eqv z d
def wordsB (F : Parts) : PyData → Bool
  | .tuple ds => decide (ds.length = F.fs.length) && ds.all (wordB F)
  | _ => false
theorem wordsB_tup (F : Parts) (ds : List PyData) : wordsB F (.tuple ds) = (decide (ds.length = F.fs.length) && ds.all (wordB F)) := rfl
theorem wordB_str {F : Parts} {d : PyData} (h : wordB F d = true) : ∃ z, d = .str z ∧ z ∈ F.ws := by
  unfold wordB at h
  rw [List.any_eq_true] at h
  obtain ⟨x, hx, e⟩ := h
  obtain ⟨z, hz, rfl⟩ := List.mem_map.mp hx
  exact ⟨z, eqv_strD e, hz⟩
theorem wordB_of {F : Parts} {z : Str} (h : z ∈ F.ws) : wordB F (.str z) = true := by
  unfold wordB
  rw [List.any_eq_true]
  exact ⟨.str z, List.mem_map.mpr ⟨z, h, rfl⟩, by rw [PyData.eqv, beq_self_eq_true]⟩
theorem lay_at : ∀ {ds : List PyData} {i : Nat} {d : PyData}, PyData.canLayAll0 ds = true → ds[i]? = some d → PyData.canLay0 d = true
  | [], _, _, _, e => by simp at e
  | x :: xs, 0, d, h, e => by
    cases e
    rw [PyData.canLayAll0] at h
    exact (Bool.and_eq_true_iff.mp h).1
  | x :: xs, i + 1, d, h, e => by
    rw [PyData.canLayAll0] at h
    exact lay_at (i := i) (Bool.and_eq_true_iff.mp h).2 (by simpa using e)
theorem shaped_at {ds : List PyData} {i : Nat} {d : PyData} (h : SeqAt.shaped (.tuple ds) = true) (e : ds[i]? = some d) : SeqAt.shaped d = true := by
  have h1 := SeqAt.canLay_of_shaped h
  have h2 := SeqAt.depth_of_shaped h
  rw [PyData.canLay0] at h1
  have h3 : PyData.depthAll ds + 1 ≤ 64 := h2
  exact shaped_of (n := 64) (lay_at h1 e) (Nat.le_trans (depthAll_at e) (by omega)) (Nat.le_refl _)
def spCheckX {K : PySem.W.Frag} {mg : Str → Option Value} (T : Txt K mg) : Sp := fun vs H Q E => ∃ (p wa fa : Addr) (F : Parts) (wv : V) (d : PyData), vs = [.ref p, wv] ∧ FormS T H p wa fa F ∧ Dp K H wv d ∧ SeqAt.shaped d = true ∧
  (wordsB F d = true → ∀ H', Same H H' → Q .non H') ∧ (wordsB F d = false → ∀ (dd : Addr) (H' : Hp), Same H H' → H' dd = some (.xd [("words", wv)]) → E (.ref T.C_InvalidWords) (some dd) H')
section
variable {P : Program} {w : World} {K : PySem.W.Frag} {mg : Str → Option Value} {base : Heap}
theorem okX_check_words (T : Txt K mg) : FnOk P w K mg base (L2.CX P w) 3 T.f_check_words T.d_check_words ["form", "words"] (spCheckX T) := by
  refine T.F_check_words.okX sc_check_words (fun vs H Q E h => ?_) (fun cdv A outer s H vs Q E hr h => ?_)
  · obtain ⟨p, wa, fa, F, wv, d, rfl, _⟩ := h
    rfl
  · obtain ⟨p, wa, fa, F, wv, d, rfl, hP, hd, sd, q, qx⟩ := h
    obtain ⟨vs, hS, hvl, hx⟩ := hP.f.ex
    have f3 := hP.ok.f3
    refine ⟨_, (pss_cons (ps_if (PW.pt (pw_or (pt_not (pt_val (pe_callB (call_isiK' (K := K) rfl) (by rfl) T.isinstance boot_isinstance (pa_cons (pv 1) (pa_cons (pe_bltn (v := .ty "tuple") (by rfl) T.tuple_ (by decide +kernel) rfl) pa_nil))))) (pw_or1 (pt_cmpR op_ne (pe_callB (call_lenK (K := K) rfl) (by rfl) T.len PySem.boot_len (pa_cons (pv 1) pa_nil)) (pe_callB (call_lenK (K := K) rfl) (by rfl) T.len PySem.boot_len (pa_cons (pe_fldK (K := K) rfl (pv 0) rfl) pa_nil)) (nomark _))))) (pss_one (ps_raise rfl (takes_of rfl rfl rfl rfl) (pmk_oex T.x_InvalidWords.o T.i_InvalidWords T.t_InvalidWords (ok_InvalidWords_init T) (hr.mono (by decide)) T.b_InvalidWords_init .nil pass0 (by rfl) T.g_InvalidWords (pa_cons (pv 1) pa_nil)))) pss_nil) (pss_one (ps_if (pt_not (pt_val (pe_callB (cr_allK (K := K) rfl rfl) (by rfl) T.all boot_all (pa_cons (pe_lc (own := [("word", 2)]) (g := gName 2) (tt := tYes) rfl sc_check_words.nd (pi_tupK (K := K) rfl (pv 1)) (blkOk_by (N := ["form", "words", "word"]) (sc := defScope s_check_words) (by decide +kernel)) (fun _ _ _ _ _ => pg_name (i := 2) sc_check_words.nd rfl (Or.inl rfl)) (fun _ _ _ _ _ => pts_nil) (fun _ _ _ _ _ => (pe_cmpR (op_inDTK (K := K) rfl (room65 hr)) (pv 2) (pe_fldK (K := K) rfl (pv 0) rfl) (by rfl)))) pa_nil)))) (pss_one (ps_raise rfl (takes_of rfl rfl rfl rfl) (pmk_oex T.x_InvalidWords.o T.i_InvalidWords T.t_InvalidWords (ok_InvalidWords_init T) (hr.mono (by decide)) T.b_InvalidWords_init .nil pass0 (by rfl) T.g_InvalidWords (pa_cons (pv 1) pa_nil)))) pss_nil))), ?_⟩
    show tSeq _ _ _ [_, _, none] _
    cases d with
    | tuple ds =>
      have hd0 := hd
      cases hd with
      | tup h a =>
        rename_i ra xs
        have hl := dpAll_len a
        walk_at "gox_35"
        by_cases e : ds.length = F.fs.length
        · refine ite_f (nd_f (by rw [hl, hvl, e])) ?_
          walk_at "gox_35"
          refine cl_tup (f := fun i H y => ∃ di, ds[i]? = some di ∧ y = .bl (wordB F di)) h (by rw [hl, e]; omega) (fun i y H H' s h => h) ?_ ?_
          · rintro i x hi H' N sm hN
            obtain ⟨di, edi, hdi⟩ := dpAll_at a hi
            have hP' := hP.mono sm
            walk_at "gox_35"
            refine ⟨di, F.ws.map PyData.str, dp_mono sm hdi, words_dp hP'.w, shaped_at sd edi, shaped_of (words_lay hP.ok.wk) (words_depth _) (by decide), ?_⟩
            exact hN _ _ (Same.refl _) ⟨di, edi, rfl⟩
          · rintro H1 D ys s1 nD hD hyl hy
            have hys : ys = (ds.map (wordB F)).map V.bl := by
              refine List.ext_getElem? fun i => ?_
              by_cases h : i < ys.length
              · obtain ⟨di, e1, e2⟩ := hy i _ (List.getElem?_eq_getElem h)
                rw [List.getElem?_eq_getElem h, e2, List.getElem?_map, List.getElem?_map, e1]
                rfl
              · rw [List.getElem?_eq_none (by omega), List.getElem?_eq_none (by rw [List.length_map, List.length_map]; omega)]
            subst hys
            walk_at "gox_35"
            refine ⟨D, _, rfl, .inl (.inl hD), ?_⟩
            have hall : (ds.map (wordB F)).all id = ds.all (wordB F) := by rw [List.all_map]; rfl
            rw [hall]
            cases e3 : ds.all (wordB F) with
            | true =>
              walk_at "gox_35"
              exact q (by rw [wordsB_tup]; rw [decide_eq_true e, e3]; rfl) _ s1
            | false =>
              walk_at "gox_35"
              refine ⟨_, rfl, ?_⟩
              exact mk_one (fun dd H' s' n' e' => qx (by rw [wordsB_tup]; rw [e3, Bool.and_false]) dd H' (s1.trans s') e')
        · refine ite_t (nd_t (by rw [hl, hvl]; intro z; exact e (by have := V.int.inj z; omega))) ?_
          walk_at "gox_35"
          refine ⟨_, rfl, ?_⟩
          exact mk_one (fun dd H' s' n' e' => qx (by rw [wordsB_tup]; rw [decide_eq_false e]; rfl) dd H' s' e')
    | none =>
      walk_at "gox_35"
      refine ⟨_, rfl, ?_⟩
      exact mk_one (fun dd H' s' n' e' => qx rfl dd H' s' e')
    | bool b =>
      walk_at "gox_35"
      refine ⟨_, rfl, ?_⟩
      exact mk_one (fun dd H' s' n' e' => qx rfl dd H' s' e')
    | int n =>
      walk_at "gox_35"
      refine ⟨_, rfl, ?_⟩
      exact mk_one (fun dd H' s' n' e' => qx rfl dd H' s' e')
    | str z =>
      walk_at "gox_35"
      refine ⟨_, rfl, ?_⟩
      exact mk_one (fun dd H' s' n' e' => qx rfl dd H' s' e')
    | list ds =>
      walk_at "gox_35"
      refine ⟨_, rfl, ?_⟩
      exact mk_one (fun dd H' s' n' e' => qx rfl dd H' s' e')
    | dict kv => cases hd
end
end Wn


namespace Wn
open PySem PySem.Spec PyProof.Rows L2

local macro_rules | `(tactic| walk_at "gox1_36") => `(tactic| (first
  | walk_at "go1"
  | (with_reducible apply Wn.r_bm)
  | ((with_reducible apply Wn.r_tyl); (focus (walk_at "lk"; done)))
  | ((with_reducible apply Wn.r_ext); (focus (walk_at "lk"; done)); (focus (walk_at "lk"; done)); (focus ((with_unfolding_all first | (simp only [List.length_cons, List.length_nil, List.length_append]; decide) | fail); done)))
  | ((with_reducible apply Wn.r_cat); (focus (walk_at "lk"; done)); (focus (walk_at "lk"; done)); (focus ((with_unfolding_all first | (simp only [List.length_cons, List.length_nil, List.length_append]; decide) | fail); done)))
  | ((with_reducible apply Wn.r_fw); (focus ((with_unfolding_all first | exact rfl | fail); done)); (focus ((first | assumption | exact Wn.FormAt.s (by assumption) | fail); done)))
  | ((with_reducible apply Wn.r_ff); (focus ((with_unfolding_all first | exact rfl | fail); done)); (focus ((first | assumption | exact Wn.FormAt.s (by assumption) | fail); done)))
  | ((with_reducible apply Wn.r_fm); (focus ((first | assumption | exact Wn.FormAt.s (by assumption) | fail); done)); (focus ((decide +kernel); done)); (focus ((decide +kernel); done)); (focus ((decide +kernel); done)))
  | ((with_reducible apply Wn.r_inF); (focus ((first | exact Or.inl (by assumption) | exact Or.inr (by assumption) | fail); done)))
  | ((with_reducible apply Wn.r_inT); (focus ((first | exact Or.inl (by assumption) | exact Or.inr (by assumption) | fail); done)))
  | (with_reducible apply Wn.r_chain)
  | (with_reducible apply Wn.r_bt)
  | (with_reducible apply Wn.r_fld)
  | (with_reducible apply Wn.r_meth)
  | ((with_reducible apply Wn.r_pt); (focus ((first | assumption | fail); done)))
  | ((with_reducible apply Wn.r_ti); (focus ((first | assumption | exact Wn.PTup.sq (by assumption) | fail); done)); (focus ((first | assumption | fail); done)))
  | ((with_reducible apply Wn.r_tupT); (focus ((assumption); done)))
  | ((with_reducible apply Wn.r_gtup); (focus ((first | assumption | fail); done)); (focus ((with_unfolding_all first | exact rfl | fail); done)))
  | (with_reducible apply Wn.r_gcons)
  | (with_reducible apply Wn.r_gnil)
  | (with_reducible apply Wn.r_for)
  | ((with_reducible apply Wn.r_ixa); (focus ((first | exact Or.inl (L2.SqL.of (by walk_at "lk")) | exact Or.inr (L2.SqT.of (by walk_at "lk")) | exact Or.inr (by assumption) | exact Or.inl (by assumption) | fail); done)); (focus ((with_unfolding_all first | exact rfl | fail); done)))
  | (with_reducible apply Wn.r_lc)
  | (with_reducible apply Wn.r_rng1)
  | (with_reducible apply Wn.r_ilist)
  | (with_reducible apply Wn.r_itup)
  | (with_reducible apply Wn.r_istr)
  | (with_reducible apply Wn.r_tsl)
  | (with_reducible apply Wn.r_nopart)
  | (with_reducible apply Wn.r_part)
  | (with_reducible apply Wn.r_exint)))
local macro_rules | `(tactic| walk_at "gox_36") => `(tactic| repeat (walk_at "gox1_36"))
theorem strs_of {K : PySem.W.Frag} {H : Hp} : ∀ {row : List Str} {xs : List V}, DpAll K H xs (row.map PyData.str) → xs = row.map V.str
  | [], _, .nil => rfl
  | z :: row, _, .cons a b => by
    cases a
    rw [strs_of b]
    rfl
theorem all_row {F : Parts} : ∀ {ds : List PyData}, ds.all (wordB F) = true → ∃ row : List Str, ds = row.map PyData.str ∧ ∀ z ∈ row, z ∈ F.ws
  | [], _ => ⟨[], rfl, fun z h => absurd h List.not_mem_nil⟩
  | d :: ds, h => by
    rw [List.all_cons, Bool.and_eq_true] at h
    obtain ⟨z, rfl, hz⟩ := wordB_str h.1
    obtain ⟨row, rfl, hr⟩ := all_row h.2
    refine ⟨z :: row, rfl, fun y hy => ?_⟩
    rcases List.mem_cons.mp hy with q | q
    · rw [q]; exact hz
    · exact hr y q
theorem wordsB_row {F : Parts} {d : PyData} (h : wordsB F d = true) : ∃ row : List Str, d = .tuple (row.map PyData.str) ∧ RowOk F row := by
  cases d with
  | tuple ds =>
    rw [wordsB_tup, Bool.and_eq_true, decide_eq_true_eq] at h
    obtain ⟨row, rfl, hr⟩ := all_row h.2
    exact ⟨row, rfl, by rw [← h.1, List.length_map], hr⟩
  | _ => cases h
theorem row_at {K : PySem.W.Frag} {H : Hp} {v : V} {row : List Str} (h : Dp K H v (.tuple (row.map PyData.str))) : ∃ ra, v = .ref ra ∧ SqT K H ra (row.map V.str) := by
  cases h with
  | tup h a => exact ⟨_, rfl, by rw [← strs_of a]; exact h⟩
/-- the name is none of a field -/
def NoName (F : Parts) (nv : V) : Prop := ∀ name, nv = .str name → name ∉ F.fs.map (·.1)
theorem name_or (F : Parts) (nv : V) : (∃ name f, nv = .str name ∧ (name, f) ∈ F.fs) ∨ NoName F nv := by
  by_cases h : ∃ name f, nv = .str name ∧ (name, f) ∈ F.fs
  · exact .inl h
  · refine .inr fun name e m => h ?_
    obtain ⟨p, hp, e2⟩ := List.mem_map.mp m
    exact ⟨name, p.2, e, by rw [← e2]; exact hp⟩
def spFarX {K : PySem.W.Frag} {mg : Str → Option Value} (T : Txt K mg) : Sp := fun vs H Q E => ∃ (p wa fa : Addr) (F : Parts) (nv wv : V) (dn dw : PyData), vs = [.ref p, nv, wv] ∧ FormAt T H p wa fa F ∧ Dp K H nv dn ∧ SeqAt.shaped dn = true ∧ Dp K H wv dw ∧ SeqAt.shaped dw = true ∧
  (∀ (name word : Str) (f : Fld), nv = .str name → (name, f) ∈ F.fs → wv = .str word → word ∈ F.ws → Q (entV (f.farE (idx F.ws word))) H) ∧
  (NoName F nv → ∀ (dd : Addr) (H' : Hp), Same H H' → H' dd = some (.xd [("field", nv)]) → E (.ref T.C_UnknownField) (some dd) H') ∧
  (¬ NoName F nv → wordB F dw = false → ∀ (dd : Addr) (H' : Hp), Same H H' → H' dd = some (.xd [("word", wv)]) → E (.ref T.C_UnknownWord) (some dd) H')
def spNearX {K : PySem.W.Frag} {mg : Str → Option Value} (T : Txt K mg) : Sp := fun vs H Q E => ∃ (p wa fa : Addr) (F : Parts) (wv nv : V) (d dn : PyData), vs = [.ref p, wv, nv] ∧ FormAt T H p wa fa F ∧ Dp K H wv d ∧ SeqAt.shaped d = true ∧ Dp K H nv dn ∧ SeqAt.shaped dn = true ∧
  (∀ (row : List Str) (name : Str) (f : Fld), d = .tuple (row.map PyData.str) → RowOk F row → nv = .str name → (name, f) ∈ F.fs → ∀ H', Same H H' → Q (entV (F.near row name f)) H') ∧
  (wordsB F d = false → ∀ (dd : Addr) (H' : Hp), Same H H' → H' dd = some (.xd [("words", wv)]) → E (.ref T.C_InvalidWords) (some dd) H') ∧
  (wordsB F d = true → NoName F nv → ∀ (dd : Addr) (H' : Hp), Same H H' → H' dd = some (.xd [("field", nv)]) → E (.ref T.C_UnknownField) (some dd) H')
def spDueX {K : PySem.W.Frag} {mg : Str → Option Value} (T : Txt K mg) : Sp := fun vs H Q E => ∃ (p wa fa : Addr) (F : Parts) (wv nv : V) (d dn : PyData), vs = [.ref p, wv, nv] ∧ FormAt T H p wa fa F ∧ Dp K H wv d ∧ SeqAt.shaped d = true ∧ Dp K H nv dn ∧ SeqAt.shaped dn = true ∧
  (∀ (row : List Str) (name : Str) (f : Fld), d = .tuple (row.map PyData.str) → RowOk F row → nv = .str name → (name, f) ∈ F.fs → ∀ H', Same H H' → Q (entV (F.due row name f)) H') ∧
  (wordsB F d = false → ∀ (dd : Addr) (H' : Hp), Same H H' → H' dd = some (.xd [("words", wv)]) → E (.ref T.C_InvalidWords) (some dd) H') ∧
  (wordsB F d = true → NoName F nv → ∀ (dd : Addr) (H' : Hp), Same H H' → H' dd = some (.xd [("field", nv)]) → E (.ref T.C_UnknownField) (some dd) H')
def spDuesX {K : PySem.W.Frag} {mg : Str → Option Value} (T : Txt K mg) : Sp := fun vs H Q E => ∃ (p wa fa : Addr) (F : Parts) (wv : V) (d : PyData), vs = [.ref p, wv] ∧ FormAt T H p wa fa F ∧ Dp K H wv d ∧ SeqAt.shaped d = true ∧
  (∀ (row : List Str), d = .tuple (row.map PyData.str) → RowOk F row → ∀ H' q, Same H H' → H q = none → H' q = some (.tup (F.fs.map fun x => entV (F.due row x.1 x.2))) → Q (.ref q) H') ∧
  (wordsB F d = false → ∀ (dd : Addr) (H' : Hp), Same H H' → H' dd = some (.xd [("words", wv)]) → E (.ref T.C_InvalidWords) (some dd) H')
section
variable {P : Program} {w : World} {K : PySem.W.Frag} {mg : Str → Option Value} {base : Heap}
theorem okX_far_entry (T : Txt K mg) : FnOk P w K mg base (L2.CX P w) 4 T.f_far_entry T.d_far_entry ["form", "name", "word"] (spFarX T) := by
  refine T.F_far_entry.okX sc_far_entry (fun vs H Q E h => ?_) (fun cdv A outer s H vs Q E hr h => ?_)
  · obtain ⟨p, wa, fa, F, nv, wv, dn, dw, rfl, _⟩ := h
    rfl
  · obtain ⟨p, wa, fa, F, nv, wv, dn, dw, rfl, hP, hn, sn, hw, sw, q, qf, qw⟩ := h
    have hWp := hP.w
    have hWs := hWp.sq (K := K)
    refine ⟨_, (pss_cons (ps_asg (pe_meth (pv 0) T.cl T.m_Form_parts_of (okX_Form_parts_of T) (hr.mono (by decide)) T.b_Form_parts_of .nil (passes_call (E := E) (takes_of rfl rfl rfl rfl) fun _ _ _ _ h => h) (pa_cons (pv 1) pa_nil)) (pg_tupK (K := K) (n := 4) rfl rfl (pgs_cons (pg_name (i := 3) sc_far_entry.nd rfl (Or.inl rfl)) (pgs_cons (pg_name (i := 4) sc_far_entry.nd rfl (Or.inl rfl)) (pgs_cons (pg_name (i := 5) sc_far_entry.nd rfl (Or.inl rfl)) (pgs_cons (pg_name (i := 6) sc_far_entry.nd rfl (Or.inl rfl)) pgs_nil)))))) (pss_cons (ps_if (pt_cmpR (op_notinDTK (K := K) rfl (room65 hr)) (pv 2) (pe_fldK (K := K) rfl (pv 0) rfl) (by rfl)) (pss_one (ps_raise rfl (takes_of rfl rfl rfl rfl) (pmk_oex T.x_UnknownWord.o T.i_UnknownWord T.t_UnknownWord (ok_UnknownWord_init T) (hr.mono (by decide)) T.b_UnknownWord_init .nil pass0 (by rfl) T.g_UnknownWord (pa_cons (pv 2) pa_nil)))) pss_nil) (pss_cons (ps_if (pt_cmpR op_isN (pv 6) pe_non (nomark _)) (pss_one (ps_ret pe_non)) pss_nil) (pss_one (ps_ret (pe_ix (ix_aK (K := K) rfl) (pv 6) (pe_bt PySem.F.slot_tuple_index PySem.F.type_tuple_index (mt_tiK (K := K) rfl) (pe_fldK (K := K) rfl (pv 0) rfl) (pa_cons (pv 2) pa_nil)) (fun _ _ => rfl))))))), ?_⟩
    show tSeq _ _ _ [_, _, _, none, none, none, none] _
    walk_at "gox_36"
    refine ⟨p, wa, fa, F, nv, dn, rfl, hP.s, hn, sn, fun name i f fv e ef hfl => ?_, fun h => qf h⟩
    subst e
    have hmem : (name, f) ∈ F.fs := List.mem_of_getElem? ef
    obtain ⟨a, nr, rv, rfl, hF, hnear, hfar⟩ := hfl
    walk_at "gox_36"
    refine ⟨dw, F.ws.map PyData.str, hw, words_dp hWs, sw, shaped_of (words_lay hP.ok.wk) (words_depth _) (by decide), ?_⟩
    rw [if_pos rfl]
    refine ⟨_, rfl, ?_⟩
    cases e : wordB F dw with
    | false =>
      refine ite_t (show (!wordB F dw) = true by rw [e]; rfl) ?_
      walk_at "gox_36"
      refine ⟨_, rfl, ?_⟩
      exact mk_one (fun dd H' s' n' e' => qw (fun h => h name rfl (name_in hmem)) e dd H' s' e')
    | true =>
      refine ite_f (show (!wordB F dw) = false by rw [e]; rfl) ?_
      obtain ⟨word, rfl, hwd⟩ := wordB_str e
      have ew := str_of hw
      subst ew
      have q := q name word f rfl hmem rfl hwd
      walk_at "gox_36"
      unfold FarAt at hfar
      unfold Fld.farE at q
      cases er : f.far with
      | none =>
        rw [er] at hfar q
        subst hfar
        walk_at "gox_36"
        exact q
      | some r =>
        rw [er] at hfar q
        obtain ⟨xa, rfl, hX⟩ := hfar
        walk_at "gox_36"
        have hl := (hP.ok.fld _ hmem).far r er
        have hi : idx F.ws word < r.length := by rw [hl.1]; exact (List.getElem?_eq_some_iff.mp (idx_at hwd)).1
        refine r_ixa (.inr hX) (atI_nat (by rw [List.getElem?_map, List.getElem?_eq_getElem hi]; rfl)) ?_
        simp only [List.getElem?_eq_getElem hi, Option.getD_some] at q
        exact q
theorem okX_near_entry (T : Txt K mg) : FnOk P w K mg base (L2.CX P w) 6 T.f_near_entry T.d_near_entry ["form", "words", "name"] (spNearX T) := by
  refine T.F_near_entry.okX sc_near_entry (fun vs H Q E h => ?_) (fun cdv A outer s H vs Q E hr h => ?_)
  · obtain ⟨p, wa, fa, F, wv, nv, d, dn, rfl, _⟩ := h
    rfl
  · obtain ⟨p, wa, fa, F, wv, nv, d, dn, rfl, hP, hd, sd, hn, sn, q, qw, qf⟩ := h
    refine ⟨_, (pss_cons (ps_expr (pe_call (okX_check_words T) (hr.mono (by decide)) (by rfl) T.g_check_words T.F_check_words.kp T.b_check_words .nil (passes_call (E := E) (takes_of rfl rfl rfl rfl) fun _ _ _ _ h => h) (pa_cons (pv 0) (pa_cons (pv 1) pa_nil)))) (pss_cons (ps_asg (pe_meth (pv 0) T.cl T.m_Form_parts_of (okX_Form_parts_of T) (hr.mono (by decide)) T.b_Form_parts_of .nil (passes_call (E := E) (takes_of rfl rfl rfl rfl) fun _ _ _ _ h => h) (pa_cons (pv 2) pa_nil)) (pg_tupK (K := K) (n := 4) rfl rfl (pgs_cons (pg_name (i := 3) sc_near_entry.nd rfl (Or.inl rfl)) (pgs_cons (pg_name (i := 4) sc_near_entry.nd rfl (Or.inl rfl)) (pgs_cons (pg_name (i := 5) sc_near_entry.nd rfl (Or.inl rfl)) (pgs_cons (pg_name (i := 6) sc_near_entry.nd rfl (Or.inl rfl)) pgs_nil)))))) (pss_cons (ps_set (i := 7) sc_near_entry.nd rfl (Or.inl rfl) (pe_ix (ix_aK (K := K) rfl) (pv 5) (pe_call (ok_word_index T) (hr.mono (by decide)) (by rfl) T.g_word_index T.F_word_index.kp T.b_word_index .nil pass0 (pa_cons (pv 0) (pa_cons (pv 1) (pa_cons (pv 2) pa_nil)))) (fun _ _ => rfl))) (pss_cons (ps_if (pt_cmpR op_isN (pv 4) pe_non (nomark _)) (pss_one (ps_ret (pv 7))) pss_nil) (pss_one (ps_ret (pe_ix (ix_aK (K := K) rfl) (pv 7) (pe_call (ok_word_index T) (hr.mono (by decide)) (by rfl) T.g_word_index T.F_word_index.kp T.b_word_index .nil pass0 (pa_cons (pv 0) (pa_cons (pv 1) (pa_cons (pv 4) pa_nil)))) (fun _ _ => rfl)))))))), ?_⟩
    show tSeq _ _ _ [_, _, _, none, none, none, none, none] _
    walk_at "gox_36"
    refine ⟨p, wa, fa, F, wv, d, rfl, hP.s, hd, sd, fun eB H1 s1 => ?_, fun e => qw e⟩
    obtain ⟨row, rfl, ok⟩ := wordsB_row eB
    obtain ⟨ra, rfl, hR⟩ := row_at hd
    have hP1 := hP.mono s1
    have hR1 := same_sqT s1 hR
    walk_at "gox_36"
    refine ⟨p, wa, fa, F, nv, dn, rfl, hP1.s, dp_mono s1 hn, sn, fun name i f' fv e ef hfl => ?_, fun h dd H' s' e' => qf eB h dd H' (s1.trans s') e'⟩
    subst e
    have hf : (name, f') ∈ F.fs := List.mem_of_getElem? ef
    have hn' := name_in hf
    have q := q row name f' rfl ok rfl hf
    obtain ⟨a, nr, rv, rfl, hF, hnear, hfar⟩ := hfl
    have hok := hP.ok.fld _ hf
    have hlt := wp_lt ok hn'
    walk_at "gox_36"
    refine ⟨p, wa, fa, F, ra, row, name, rfl, hP1, hR1, ok, hn', fun H2 s2 => ?_⟩
    have hP2 := hP1.mono s2
    have hR2 := same_sqT s2 hR1
    replace hnear := hnear.mono s2
    unfold NearAt at hnear
    unfold Parts.near Fld.nearE at q
    cases el : f'.looks with
    | none =>
      rw [el] at hnear q
      obtain ⟨xa, rfl, hX⟩ := hnear
      have hi : F.wp row name < f'.nearA.length := by rw [(hok.alone el).1]; exact hlt
      refine r_ixa (.inr hX) (atI_nat (by rw [List.getElem?_map, List.getElem?_eq_getElem hi]; rfl)) ?_
      walk_at "gox_36"
      simp only [List.getElem?_eq_getElem hi] at q
      exact q _ (s1.trans s2)
    | some l =>
      rw [el] at hnear q
      obtain ⟨xa, xs, rfl, hX, hxl, hrow⟩ := hnear
      have hi : F.wp row name < f'.nearL.length := by rw [(hok.pairs l el).1]; exact hlt
      have hi2 : F.wp row name < xs.length := by rw [hxl]; exact hi
      obtain ⟨l1, l2⟩ := hok.looks l el
      obtain ⟨ya, ey, hY⟩ := hrow _ _ _ (List.getElem?_eq_getElem hi2) (List.getElem?_eq_getElem hi)
      refine r_ixa (.inr hX) (atI_nat (by rw [List.getElem?_eq_getElem hi2, ey])) ?_
      walk_at "gox_36"
      refine ⟨p, wa, fa, F, ra, row, l, rfl, hP2, hR2, ok, l2, fun H3 s3 => ?_⟩
      have hY3 := same_sqT s3 hY
      have hk : F.wp row l < f'.nearL[F.wp row name].length := by rw [((hok.pairs l el).2 _ (List.getElem_mem hi)).1]; exact wp_lt ok l2
      refine r_ixa (.inr hY3) (atI_nat (by rw [List.getElem?_map, List.getElem?_eq_getElem hk]; rfl)) ?_
      walk_at "gox_36"
      simp only [Option.getD_some, List.getElem?_eq_getElem hi, List.getElem?_eq_getElem hk] at q
      exact q _ (s1.trans (s2.trans s3))
theorem okX_true_error (T : Txt K mg) : FnOk P w K mg base (L2.CX P w) 7 T.f_true_error T.d_true_error ["form", "words", "name"] (spDueX T) := by
  refine T.F_true_error.okX sc_true_error (fun vs H Q E h => ?_) (fun cdv A outer s H vs Q E hr h => ?_)
  · obtain ⟨p, wa, fa, F, wv, nv, d, dn, rfl, _⟩ := h
    rfl
  · obtain ⟨p, wa, fa, F, wv, nv, d, dn, rfl, hP, hd, sd, hn, sn, q, qw, qf⟩ := h
    refine ⟨_, (pss_cons (ps_set (i := 3) sc_true_error.nd rfl (Or.inl rfl) (pe_call (okX_near_entry T) (hr.mono (by decide)) (by rfl) T.g_near_entry T.F_near_entry.kp T.b_near_entry .nil (passes_call (E := E) (takes_of rfl rfl rfl rfl) fun _ _ _ _ h => h) (pa_cons (pv 0) (pa_cons (pv 1) (pa_cons (pv 2) pa_nil))))) (pss_cons (ps_if (pt_cmpR op_notN (pv 3) pe_non (nomark _)) (pss_one (ps_ret (pv 3))) pss_nil) (pss_one (ps_ret (pe_call (ok_far_entry T) (hr.mono (by decide)) (by rfl) T.g_far_entry T.F_far_entry.kp T.b_far_entry .nil pass0 (pa_cons (pv 0) (pa_cons (pv 2) (pa_cons (pe_ix (ix_aK (K := K) rfl) (pv 1) (pe_bt PySem.F.slot_tuple_index PySem.F.type_tuple_index (mt_tiK (K := K) rfl) (pe_meth0 (pv 0) T.cl T.m_Form_field_names (ok_Form_field_names T) (hr.mono (by decide)) T.b_Form_field_names .nil pass0) (pa_cons (pv 2) pa_nil)) (fun _ _ => rfl)) pa_nil)))))))), ?_⟩
    show tSeq _ _ _ [_, _, _, none] _
    walk_at "gox_36"
    refine ⟨p, wa, fa, F, wv, nv, d, dn, rfl, hP, hd, sd, hn, sn, fun row name f e1 ok e2 hf H1 s1 => ?_, qw, qf⟩
    subst e1 e2
    have q := q row name f rfl ok rfl hf
    obtain ⟨ra, rfl, hR⟩ := row_at hd
    have hnm := name_in hf
    obtain ⟨hz, hzw⟩ := pick_at ok hnm
    have hP1 := hP.mono s1
    have hR1 := same_sqT s1 hR
    unfold Parts.due at q
    cases e : F.near row name f with
    | some z =>
      rw [e] at q
      walk_at "gox_36"
      exact q _ s1
    | none =>
      rw [e] at q
      walk_at "gox_36"
      refine ⟨p, wa, fa, F, rfl, hP1.s, fun H2 na s2 n2 en => ?_⟩
      have hP2 := hP1.mono s2
      have hR2 := same_sqT s2 hR1
      walk_at "gox_36"
      refine r_ixa (.inr hR2) (atI_nat (by rw [List.getElem?_map, hz]; rfl)) ?_
      walk_at "gox_36"
      exact ⟨p, wa, fa, F, name, F.pick row name, f, rfl, hP2, hf, hzw, q _ (s1.trans s2)⟩
theorem okX_true_errors (T : Txt K mg) : FnOk P w K mg base (L2.CX P w) 8 T.f_true_errors T.d_true_errors ["form", "words"] (spDuesX T) := by
  refine T.F_true_errors.okX sc_true_errors (fun vs H Q E h => ?_) (fun cdv A outer s H vs Q E hr h => ?_)
  · obtain ⟨p, wa, fa, F, wv, d, rfl, _⟩ := h
    rfl
  · obtain ⟨p, wa, fa, F, wv, d, rfl, hP, hd, sd, q, qw⟩ := h
    have f3 := hP.ok.f3
    refine ⟨_, (pss_cons (ps_expr (pe_call (okX_check_words T) (hr.mono (by decide)) (by rfl) T.g_check_words T.F_check_words.kp T.b_check_words .nil (passes_call (E := E) (takes_of rfl rfl rfl rfl) fun _ _ _ _ h => h) (pa_cons (pv 0) (pa_cons (pv 1) pa_nil)))) (pss_one (ps_ret (pe_callTy (call_tupleK (K := K) rfl) (by rfl) T.tuple_ (by decide +kernel) (pa_cons (pe_lc (own := [("name", 2)]) (g := gName 2) (tt := tYes) rfl sc_true_errors.nd (pi_tupK (K := K) rfl (pe_meth0 (pv 0) T.cl T.m_Form_field_names (ok_Form_field_names T) (hr.mono (by decide)) T.b_Form_field_names .nil pass0)) (blkOk_by (N := ["form", "words", "name"]) (sc := defScope s_true_errors) (by decide +kernel)) (fun _ _ _ _ _ => pg_name (i := 2) sc_true_errors.nd rfl (Or.inl rfl)) (fun _ _ _ _ _ => pts_nil) (fun _ _ _ _ _ => (pe_call (ok_true_error T) (hr.mono (by decide)) (by rfl) T.g_true_error T.F_true_error.kp T.b_true_error .nil pass0 (pa_cons (pv 0) (pa_cons (pv 1) (pa_cons (pv 2) pa_nil)))))) pa_nil))))), ?_⟩
    show tSeq _ _ _ [_, _, none] _
    walk_at "gox_36"
    refine ⟨p, wa, fa, F, wv, d, rfl, hP.s, hd, sd, fun eB H1 s1 => ?_, qw⟩
    obtain ⟨row, rfl, ok⟩ := wordsB_row eB
    obtain ⟨ra, rfl, hR⟩ := row_at hd
    have q := q row rfl ok
    have hP1 := hP.mono s1
    have hR1 := same_sqT s1 hR
    walk_at "gox_36"
    refine ⟨p, wa, fa, F, rfl, hP1.s, fun H2 na s2 n2 en => ?_⟩
    have hP2 := hP1.mono s2
    have hR2 := same_sqT s2 hR1
    have hN := en.sq (K := K)
    refine cl_tup (f := fun i H y => ∃ p, F.fs[i]? = some p ∧ y = entV (F.due row p.1 p.2)) hN (by rw [List.length_map, List.length_map]; omega) (fun i y H H' s h => h) ?_ ?_
    · rintro i x hi H' N sm hN
      obtain ⟨z, hz, rfl⟩ := str_at hi
      have hlt : i < F.fs.length := by have := (List.getElem?_eq_some_iff.mp hz).1; rw [List.length_map] at this; exact this
      have ef : F.fs[i]? = some F.fs[i] := List.getElem?_eq_getElem hlt
      have ez : z = F.fs[i].1 := by rw [List.getElem?_map, ef] at hz; exact (Option.some.inj hz).symm
      subst ez
      walk_at "gox_36"
      refine ⟨p, wa, fa, F, ra, row, F.fs[i].1, F.fs[i].2, rfl, hP2.mono sm, same_sqT sm hR2, ok, List.getElem_mem hlt, fun H3 s3 => ?_⟩
      exact hN _ _ s3 ⟨_, ef, rfl⟩
    · rintro H' D ys sm nD hD hyl hy
      have hys : ys = F.fs.map fun x => entV (F.due row x.1 x.2) := by
        rw [List.length_map, List.length_map] at hyl
        refine List.ext_getElem? fun i => ?_
        by_cases h : i < ys.length
        · obtain ⟨p, e1, e2⟩ := hy i _ (List.getElem?_eq_getElem h)
          rw [List.getElem?_eq_getElem h, e2, List.getElem?_map, e1]
          rfl
        · rw [List.getElem?_eq_none (by omega), List.getElem?_eq_none (by rw [List.length_map]; omega)]
      subst hys
      walk_at "gox_36"
      refine ⟨D, _, rfl, .inl (.inl hD), fun t nt => ?_⟩
      have s3 := s1.trans (s2.trans sm)
      exact q _ t (s3.trans (same_new nt)) (s3.free nt) upd_same
end
end Wn


namespace Wn
open PySem PySem.Spec PyProof.Rows L2

local macro_rules | `(tactic| walk_at "gox1_37") => `(tactic| (first
  | walk_at "go1"
  | (with_reducible apply Wn.r_bm)
  | ((with_reducible apply Wn.r_tyl); (focus (walk_at "lk"; done)))
  | ((with_reducible apply Wn.r_ext); (focus (walk_at "lk"; done)); (focus (walk_at "lk"; done)); (focus ((with_unfolding_all first | (simp only [List.length_cons, List.length_nil, List.length_append]; decide) | fail); done)))
  | ((with_reducible apply Wn.r_cat); (focus (walk_at "lk"; done)); (focus (walk_at "lk"; done)); (focus ((with_unfolding_all first | (simp only [List.length_cons, List.length_nil, List.length_append]; decide) | fail); done)))
  | (with_reducible apply Wn.r_calls)
  | ((with_reducible apply Wn.r_inF); (focus ((first | exact Or.inl (by assumption) | exact Or.inr (by assumption) | fail); done)))
  | ((with_reducible apply Wn.r_inT); (focus ((first | exact Or.inl (by assumption) | exact Or.inr (by assumption) | fail); done)))
  | (with_reducible apply Wn.r_chain)
  | (with_reducible apply Wn.r_bt)
  | (with_reducible apply Wn.r_fld)
  | (with_reducible apply Wn.r_meth)
  | ((with_reducible apply Wn.r_pt); (focus ((first | assumption | fail); done)))
  | ((with_reducible apply Wn.r_ti); (focus ((first | assumption | exact Wn.PTup.sq (by assumption) | fail); done)); (focus ((first | assumption | fail); done)))
  | ((with_reducible apply Wn.r_tupT); (focus ((assumption); done)))
  | ((with_reducible apply Wn.r_gtup); (focus ((first | assumption | fail); done)); (focus ((with_unfolding_all first | exact rfl | fail); done)))
  | (with_reducible apply Wn.r_gcons)
  | (with_reducible apply Wn.r_gnil)
  | (with_reducible apply Wn.r_for)
  | ((with_reducible apply Wn.r_ixa); (focus ((first | exact Or.inl (L2.SqL.of (by walk_at "lk")) | exact Or.inr (L2.SqT.of (by walk_at "lk")) | exact Or.inr (by assumption) | exact Or.inl (by assumption) | fail); done)); (focus ((with_unfolding_all first | exact rfl | fail); done)))
  | (with_reducible apply Wn.r_lc)
  | (with_reducible apply Wn.r_rng1)
  | (with_reducible apply Wn.r_ilist)
  | (with_reducible apply Wn.r_itup)
  | (with_reducible apply Wn.r_istr)
  | (with_reducible apply Wn.r_tsl)
  | (with_reducible apply Wn.r_nopart)
  | (with_reducible apply Wn.r_part)
  | (with_reducible apply Wn.r_exint)))
local macro_rules | `(tactic| walk_at "gox_37") => `(tactic| repeat (walk_at "gox1_37"))
def spTold {K : PySem.W.Frag} {mg : Str → Option Value} (T : Txt K mg) : Sp := fun vs H Q _ => ∃ (p wa fa : Addr) (F : Parts) (n : Int) (wv nv xv : V) (dw dn dx : PyData), vs = [.ref p, .int n, wv, nv, xv] ∧ 0 ≤ n ∧ n < 4 ∧ FormAt T H p wa fa F ∧ Dp K H wv dw ∧ SeqAt.shaped dw = true ∧ Dp K H nv dn ∧ SeqAt.shaped dn = true ∧ Dp K H xv dx ∧ SeqAt.shaped dx = true ∧
  (n < 3 → wordsB F dw = false → ∀ H' q, Same H H' → H' q = some (.tup [.str "words", wv, .bl false]) → Q (.ref q) H') ∧
  (n ≠ 2 → (n < 3 → wordsB F dw = true) → NoName F nv → ∀ H' q, Same H H' → H' q = some (.tup [.str "field", nv, .bl false]) → Q (.ref q) H') ∧
  (n = 3 → ¬ NoName F nv → wordB F dx = false → ∀ H' q, Same H H' → H' q = some (.tup [.str "word", xv, .bl false]) → Q (.ref q) H') ∧
  ((n < 3 → wordsB F dw = true) → (n ≠ 2 → ¬ NoName F nv) → (n = 3 → wordB F dx = true) → ∀ H' q, Same H H' → H' q = some (.tup [.str "told", .non, .bl false]) → Q (.ref q) H')
section
variable {P : Program} {w : World} {K : PySem.W.Frag} {mg : Str → Option Value} {base : Heap}
theorem ok_L_told (T : Txt K mg) : FnOk P w K mg base CX0 9 T.f_L_told T.d_L_told ["_law_form", "_law_which", "_law_words", "_law_name", "_law_word"] (spTold T) := by
  refine T.F_L_told.ok sc_L_told (fun vs H Q E h => ?_) (fun cdv A outer s H vs Q E hr h => ?_)
  · obtain ⟨p, wa, fa, F, n, wv, nv, xv, dw, dn, dx, rfl, _⟩ := h
    rfl
  · obtain ⟨p, wa, fa, F, n, wv, nv, xv, dw, dn, dx, rfl, n0, n4, hP, hdw, sw, hdn, sn, hdx, sx, hw, hf, hx, ht⟩ := h
    refine ⟨_, (pss_cons (ps_try_manyA rfl rfl sc_L_told.nd takes0 (fun W pn xe tk _ => (pss_one (ps_if (pt_cmpR op_eq (pv 1) pe_int (nomark _)) (pss_one (ps_expr (pe_callS (okX_near_entry T) (hr.mono (by decide)) (by rfl) T.g_near_entry T.F_near_entry.kp T.b_near_entry (fun σ => passAt tk σ) (pa_cons (pv 0) (pa_cons (pv 2) (pa_cons (pv 3) pa_nil)))))) (pss_one (ps_if (pt_cmpR op_eq (pv 1) pe_int (nomark _)) (pss_one (ps_expr (pe_callS (okX_true_error T) (hr.mono (by decide)) (by rfl) T.g_true_error T.F_true_error.kp T.b_true_error (fun σ => passAt tk σ) (pa_cons (pv 0) (pa_cons (pv 2) (pa_cons (pv 3) pa_nil)))))) (pss_one (ps_if (pt_cmpR op_eq (pv 1) pe_int (nomark _)) (pss_one (ps_expr (pe_callS (okX_true_errors T) (hr.mono (by decide)) (by rfl) T.g_true_errors T.F_true_errors.kp T.b_true_errors (fun σ => passAt tk σ) (pa_cons (pv 0) (pa_cons (pv 2) pa_nil))))) (pss_one (ps_expr (pe_callS (okX_far_entry T) (hr.mono (by decide)) (by rfl) T.g_far_entry T.F_far_entry.kp T.b_far_entry (fun σ => passAt tk σ) (pa_cons (pv 0) (pa_cons (pv 3) (pa_cons (pv 4) pa_nil))))))))))))) (HdsA.cons (i := 5) rfl rfl ⟨rfl, by decide, Or.inl T.g_InvalidWords⟩ (fun a oe cls d pn hz hf => (pss_one (ps_ret (pe_tup (pa_cons pe_str (pa_cons (pe_xf ⟨T.x_InvalidWords.c.hg, T.x_InvalidWords.c.hk, T.x_InvalidWords.c.hs, T.x_InvalidWords.c.hd⟩ T.n_InvalidWords_words hz hf (pv 5)) (pa_cons (pe_callB (call_isAT (K := K) rfl hz hf) (by rfl) T.isinstance boot_isinstance (pa_cons (pv 5) (pa_cons (pe_tup (pa_cons (pe_globR (by rfl) T.g_UnknownField) (pa_cons (pe_globR (by rfl) T.g_UnknownWord) pa_nil))) pa_nil))) pa_nil))))))) (HdsA.cons (i := 5) rfl rfl ⟨rfl, by decide, Or.inl T.g_UnknownField⟩ (fun a oe cls d pn hz hf => (pss_one (ps_ret (pe_tup (pa_cons pe_str (pa_cons (pe_xf ⟨T.x_UnknownField.c.hg, T.x_UnknownField.c.hk, T.x_UnknownField.c.hs, T.x_UnknownField.c.hd⟩ T.n_UnknownField_field hz hf (pv 5)) (pa_cons (pe_callB (call_isA (K := K) rfl hz hf) (by rfl) T.isinstance boot_isinstance (pa_cons (pv 5) (pa_cons (pe_globR (by rfl) T.g_UnknownWord) pa_nil))) pa_nil))))))) (HdsA.cons (i := 5) rfl rfl ⟨rfl, by decide, Or.inl T.g_UnknownWord⟩ (fun a oe cls d pn hz hf => (pss_one (ps_ret (pe_tup (pa_cons pe_str (pa_cons (pe_xf ⟨T.x_UnknownWord.c.hg, T.x_UnknownWord.c.hk, T.x_UnknownWord.c.hs, T.x_UnknownWord.c.hd⟩ T.n_UnknownWord_word hz hf (pv 5)) (pa_cons pe_bl pa_nil))))))) HdsA.nil)))) (pss_one (ps_ret (pe_tup (pa_cons pe_str (pa_cons pe_non (pa_cons pe_bl pa_nil))))))), ?_⟩
    show tSeq _ _ _ [_, _, _, _, _, none] _
    rcases (by omega : n = 0 ∨ n = 1 ∨ n = 2 ∨ n = 3) with rfl | rfl | rfl | rfl
    · walk_at "gox_37"
      refine ⟨p, wa, fa, F, wv, nv, dw, dn, rfl, hP, hdw, sw, hdn, sn, fun row name f e1 ok e2 hm H1 s1 => ?_, fun eB dd H' s' e' => ?_, fun EB hn' dd H' s' e' => ?_⟩
      · walk_at "gox_37"
        intro q nq
        have EB : wordsB F dw = true := by
          rw [e1, wordsB_tup, List.length_map, decide_eq_true ok.len, Bool.true_and, List.all_eq_true]
          intro d hd
          obtain ⟨z, hz, rfl⟩ := List.mem_map.mp hd
          exact wordB_of (ok.wd z hz)
        exact ht (fun _ => EB) (fun _ h => h name e2 (name_in hm)) (fun h => absurd h (by decide)) _ q (s1.trans (same_new nq)) upd_same
      · refine ⟨true, T.xm_InvalidWords_InvalidWords, fun _ a na => ?_, fun h => nomatch h⟩
        walk_at "gox_37"
        refine r_xfv rfl e' look1 ?_
        walk_at "gox_37"
        intro tp ntp
        walk_at "gox_37"
        refine r_isAT (same_new ntp _ _ e') T.x_InvalidWords.c upd_same (.cons (.own _) (.cons (.own _) .nil)) T.ka ?_
        walk_at "gox_37"
        intro q nq
        exact hw (by decide) eB _ q (s'.trans ((same_new ntp).trans (same_new nq))) upd_same
      · refine ⟨false, T.xm_UnknownField_InvalidWords, (fun h => nomatch h), fun _ => ⟨true, T.xm_UnknownField_UnknownField, fun _ a na => ?_, fun h => nomatch h⟩⟩
        walk_at "gox_37"
        refine r_xfv rfl e' look1 ?_
        walk_at "gox_37"
        refine r_isA e' T.x_UnknownField.c (.own _) T.km_UnknownField_UnknownWord ?_
        walk_at "gox_37"
        intro q nq
        exact hf (by decide) (fun _ => EB) hn' _ q (s'.trans (same_new nq)) upd_same
    · walk_at "gox_37"
      refine ⟨p, wa, fa, F, wv, nv, dw, dn, rfl, hP, hdw, sw, hdn, sn, fun row name f e1 ok e2 hm H1 s1 => ?_, fun eB dd H' s' e' => ?_, fun EB hn' dd H' s' e' => ?_⟩
      · walk_at "gox_37"
        intro q nq
        have EB : wordsB F dw = true := by
          rw [e1, wordsB_tup, List.length_map, decide_eq_true ok.len, Bool.true_and, List.all_eq_true]
          intro d hd
          obtain ⟨z, hz, rfl⟩ := List.mem_map.mp hd
          exact wordB_of (ok.wd z hz)
        exact ht (fun _ => EB) (fun _ h => h name e2 (name_in hm)) (fun h => absurd h (by decide)) _ q (s1.trans (same_new nq)) upd_same
      · refine ⟨true, T.xm_InvalidWords_InvalidWords, fun _ a na => ?_, fun h => nomatch h⟩
        walk_at "gox_37"
        refine r_xfv rfl e' look1 ?_
        walk_at "gox_37"
        intro tp ntp
        walk_at "gox_37"
        refine r_isAT (same_new ntp _ _ e') T.x_InvalidWords.c upd_same (.cons (.own _) (.cons (.own _) .nil)) T.ka ?_
        walk_at "gox_37"
        intro q nq
        exact hw (by decide) eB _ q (s'.trans ((same_new ntp).trans (same_new nq))) upd_same
      · refine ⟨false, T.xm_UnknownField_InvalidWords, (fun h => nomatch h), fun _ => ⟨true, T.xm_UnknownField_UnknownField, fun _ a na => ?_, fun h => nomatch h⟩⟩
        walk_at "gox_37"
        refine r_xfv rfl e' look1 ?_
        walk_at "gox_37"
        refine r_isA e' T.x_UnknownField.c (.own _) T.km_UnknownField_UnknownWord ?_
        walk_at "gox_37"
        intro q nq
        exact hf (by decide) (fun _ => EB) hn' _ q (s'.trans (same_new nq)) upd_same
    · walk_at "gox_37"
      refine ⟨p, wa, fa, F, wv, dw, rfl, hP, hdw, sw, fun row e1 ok H1 q1 s1 n1 e1' => ?_, fun eB dd H' s' e' => ?_⟩
      · walk_at "gox_37"
        intro q nq
        have EB : wordsB F dw = true := by
          rw [e1, wordsB_tup, List.length_map, decide_eq_true ok.len, Bool.true_and, List.all_eq_true]
          intro d hd
          obtain ⟨z, hz, rfl⟩ := List.mem_map.mp hd
          exact wordB_of (ok.wd z hz)
        exact ht (fun _ => EB) (fun h => absurd rfl h) (fun h => absurd h (by decide)) _ q (s1.trans (same_new nq)) upd_same
      · refine ⟨true, T.xm_InvalidWords_InvalidWords, fun _ a na => ?_, fun h => nomatch h⟩
        walk_at "gox_37"
        refine r_xfv rfl e' look1 ?_
        walk_at "gox_37"
        intro tp ntp
        walk_at "gox_37"
        refine r_isAT (same_new ntp _ _ e') T.x_InvalidWords.c upd_same (.cons (.own _) (.cons (.own _) .nil)) T.ka ?_
        walk_at "gox_37"
        intro q nq
        exact hw (by decide) eB _ q (s'.trans ((same_new ntp).trans (same_new nq))) upd_same
    · walk_at "gox_37"
      refine ⟨p, wa, fa, F, nv, xv, dn, dx, rfl, hP, hdn, sn, hdx, sx, fun name word f e1 hm e2 hwd => ?_, fun hn' dd H' s' e' => ?_, fun hn' eX dd H' s' e' => ?_⟩
      · walk_at "gox_37"
        intro q nq
        have EX : wordB F dx = true := by
          rw [e2] at hdx
          cases hdx
          exact wordB_of hwd
        exact ht (fun h => absurd h (by decide)) (fun _ h => h name e1 (name_in hm)) (fun _ => EX) _ q (same_new nq) upd_same
      · have EB : True := trivial
        refine ⟨false, T.xm_UnknownField_InvalidWords, (fun h => nomatch h), fun _ => ⟨true, T.xm_UnknownField_UnknownField, fun _ a na => ?_, fun h => nomatch h⟩⟩
        walk_at "gox_37"
        refine r_xfv rfl e' look1 ?_
        walk_at "gox_37"
        refine r_isA e' T.x_UnknownField.c (.own _) T.km_UnknownField_UnknownWord ?_
        walk_at "gox_37"
        intro q nq
        exact hf (by decide) (fun h => absurd h (by decide)) hn' _ q (s'.trans (same_new nq)) upd_same
      · refine ⟨false, T.xm_UnknownWord_InvalidWords, (fun h => nomatch h), fun _ => ⟨false, T.xm_UnknownWord_UnknownField, (fun h => nomatch h), fun _ => ⟨true, T.xm_UnknownWord_UnknownWord, fun _ a na => ?_, fun h => nomatch h⟩⟩⟩
        walk_at "gox_37"
        refine r_xfv rfl e' look1 ?_
        walk_at "gox_37"
        intro q nq
        exact hx rfl hn' eX _ q (s'.trans (same_new nq)) upd_same
end
end Wn


namespace Wn
open PySem PySem.Spec PyProof.Rows L2

local macro_rules | `(tactic| walk_at "gox1_38") => `(tactic| (first
  | walk_at "go1"
  | (with_reducible apply Wn.r_bm)
  | ((with_reducible apply Wn.r_tyl); (focus (walk_at "lk"; done)))
  | ((with_reducible apply Wn.r_ext); (focus (walk_at "lk"; done)); (focus (walk_at "lk"; done)); (focus ((with_unfolding_all first | (simp only [List.length_cons, List.length_nil, List.length_append]; decide) | fail); done)))
  | ((with_reducible apply Wn.r_cat); (focus (walk_at "lk"; done)); (focus (walk_at "lk"; done)); (focus ((with_unfolding_all first | (simp only [List.length_cons, List.length_nil, List.length_append]; decide) | fail); done)))
  | ((with_reducible apply Wn.r_inF); (focus ((first | exact Or.inl (by assumption) | exact Or.inr (by assumption) | fail); done)))
  | ((with_reducible apply Wn.r_inT); (focus ((first | exact Or.inl (by assumption) | exact Or.inr (by assumption) | fail); done)))
  | (with_reducible apply Wn.r_chain)
  | (with_reducible apply Wn.r_bt)
  | (with_reducible apply Wn.r_fld)
  | (with_reducible apply Wn.r_meth)
  | ((with_reducible apply Wn.r_pt); (focus ((first | assumption | fail); done)))
  | ((with_reducible apply Wn.r_ti); (focus ((first | assumption | exact Wn.PTup.sq (by assumption) | fail); done)); (focus ((first | assumption | fail); done)))
  | ((with_reducible apply Wn.r_tupT); (focus ((assumption); done)))
  | ((with_reducible apply Wn.r_gtup); (focus ((first | assumption | fail); done)); (focus ((with_unfolding_all first | exact rfl | fail); done)))
  | (with_reducible apply Wn.r_gcons)
  | (with_reducible apply Wn.r_gnil)
  | (with_reducible apply Wn.r_for)
  | ((with_reducible apply Wn.r_ixa); (focus ((first | exact Or.inl (L2.SqL.of (by walk_at "lk")) | exact Or.inr (L2.SqT.of (by walk_at "lk")) | exact Or.inr (by assumption) | exact Or.inl (by assumption) | fail); done)); (focus ((with_unfolding_all first | exact rfl | fail); done)))
  | (with_reducible apply Wn.r_lc)
  | (with_reducible apply Wn.r_rng1)
  | (with_reducible apply Wn.r_ilist)
  | (with_reducible apply Wn.r_itup)
  | (with_reducible apply Wn.r_istr)
  | (with_reducible apply Wn.r_tsl)
  | (with_reducible apply Wn.r_nopart)
  | (with_reducible apply Wn.r_part)
  | (with_reducible apply Wn.r_exint)))
local macro_rules | `(tactic| walk_at "gox_38") => `(tactic| repeat (walk_at "gox1_38"))
theorem wordB_iff {F : Parts} (z : Str) : wordB F (.str z) = decide (z ∈ F.ws) := by
  by_cases h : z ∈ F.ws
  · rw [wordB_of h, decide_eq_true h]
  · rw [decide_eq_false h]
    cases e : wordB F (.str z) with
    | false => rfl
    | true =>
      obtain ⟨y, e1, hy⟩ := wordB_str e
      cases e1
      exact absurd hy h
theorem wordB_no {F : Parts} {d : PyData} (h : ∀ z, d ≠ .str z) : wordB F d = false := by
  cases e : wordB F d with
  | false => rfl
  | true =>
    obtain ⟨y, e1, _⟩ := wordB_str e
    exact absurd e1 (h y)
def spAre (K : PySem.W.Frag) : Sp := fun vs H Q _ => ∃ (F : Parts) (wv : V) (d : PyData) (wa : Addr) (n : Nat), vs = [wv, .ref wa, .int n] ∧ Dp K H wv d ∧ SqT K H wa (F.ws.map V.str) ∧ n = F.fs.length ∧ n ≤ 100 ∧ ∀ H', Same H H' → Q (.bl (wordsB F d)) H'
section
variable {P : Program} {w : World} {K : PySem.W.Frag} {mg : Str → Option Value} {base : Heap}
theorem ok_L_are_words (T : Txt K mg) : FnOk P w K mg base CX0 2 T.f_L_are_words T.d_L_are_words ["_law_value", "_law_words", "_law_many"] (spAre K) := by
  refine T.F_L_are_words.ok sc_L_are_words (fun vs H Q E h => ?_) (fun cdv A outer s H vs Q E hr h => ?_)
  · obtain ⟨F, wv, d, wa, n, rfl, _⟩ := h
    rfl
  · obtain ⟨F, wv, d, wa, n, rfl, hd, hW, hn, n1, q⟩ := h
    refine ⟨_, (pss_cons (ps_if (PW.pt (pw_or (pt_not (pt_val (pe_callB (call_isiK' (K := K) rfl) (by rfl) T.isinstance boot_isinstance (pa_cons (pv 0) (pa_cons (pe_bltn (v := .ty "tuple") (by rfl) T.tuple_ (by decide +kernel) rfl) pa_nil))))) (pw_or1 (pt_cmpR op_ne (pe_callB (call_lenK (K := K) rfl) (by rfl) T.len PySem.boot_len (pa_cons (pv 0) pa_nil)) (pv 2) (nomark _))))) (pss_one (ps_ret pe_bl)) pss_nil) (pss_one (ps_ret (pe_callB (cr_allK (K := K) rfl rfl) (by rfl) T.all boot_all (pa_cons (pe_lc (own := [("_law_item", 3)]) (g := gName 3) (tt := tYes) rfl sc_L_are_words.nd (pi_tupK (K := K) rfl (pv 0)) (blkOk_by (N := ["_law_value", "_law_words", "_law_many", "_law_item"]) (sc := defScope s_L_are_words) (by decide +kernel)) (fun _ _ _ _ _ => pg_name (i := 3) sc_L_are_words.nd rfl (Or.inl rfl)) (fun _ _ _ _ _ => pts_nil) (fun _ _ _ _ _ => (pe_and (pe_callB (call_isiK' (K := K) rfl) (by rfl) T.isinstance boot_isinstance (pa_cons (pv 3) (pa_cons (pe_bltn (v := .ty "str") (by rfl) T.str_ (by decide +kernel) rfl) pa_nil))) (pe_one (pe_cmpR (op_in_strsK (K := K) rfl) (pv 3) (pv 1) (by rfl)))))) pa_nil))))), ?_⟩
    show tSeq _ _ _ [_, _, _, none] _
    cases d with
    | tuple ds =>
      have hd0 := hd
      cases hd with
      | tup h a =>
        rename_i ra xs
        have hl := dpAll_len a
        walk_at "gox_38"
        by_cases e : ds.length = F.fs.length
        · refine ite_f (nd_f (by rw [hl, hn, e])) ?_
          walk_at "gox_38"
          refine cl_tup (f := fun i H y => ∃ di, ds[i]? = some di ∧ y = .bl (wordB F di)) h (by rw [hl]; omega) (fun i y H H' s h => h) ?_ ?_
          · rintro i x hi H' N sm hN
            obtain ⟨di, edi, hdi⟩ := dpAll_at a hi
            have hdi' := dp_mono sm hdi
            have hW' := same_sqT sm hW
            cases di with
            | str z =>
              cases hdi
              walk_at "gox_38"
              rw [← wordB_iff]
              exact hN _ _ (Same.refl _) ⟨_, edi, rfl⟩
            | none | bool | int =>
              cases hdi
              walk_at "gox_38"
              exact hN _ _ (Same.refl _) ⟨_, edi, by rw [wordB_no (fun z h => by cases h)]⟩
            | list | tuple =>
              walk_at "gox_38"
              exact hN _ _ (Same.refl _) ⟨_, edi, by rw [wordB_no (fun z h => by cases h)]⟩
            | dict => cases hdi
          · rintro H1 D ys s1 nD hD hyl hy
            have hys : ys = (ds.map (wordB F)).map V.bl := by
              refine List.ext_getElem? fun i => ?_
              by_cases h : i < ys.length
              · obtain ⟨di, e1, e2⟩ := hy i _ (List.getElem?_eq_getElem h)
                rw [List.getElem?_eq_getElem h, e2, List.getElem?_map, List.getElem?_map, e1]
                rfl
              · rw [List.getElem?_eq_none (by omega), List.getElem?_eq_none (by rw [List.length_map, List.length_map]; omega)]
            subst hys
            walk_at "gox_38"
            refine ⟨D, _, rfl, .inl (.inl hD), ?_⟩
            have hall : (ds.map (wordB F)).all id = ds.all (wordB F) := by rw [List.all_map]; rfl
            rw [hall]
            have e4 : wordsB F (.tuple ds) = ds.all (wordB F) := by rw [wordsB_tup, decide_eq_true e, Bool.true_and]
            rw [← e4]
            exact q _ s1
        · refine ite_t (nd_t (by rw [hl, hn]; intro z; exact e (by have := V.int.inj z; omega))) ?_
          walk_at "gox_38"
          have e4 : wordsB F (.tuple ds) = false := by rw [wordsB_tup, decide_eq_false e]; rfl
          rw [e4] at q
          exact q _ (Same.refl _)
    | none | bool | int | str | list =>
      walk_at "gox_38"
      exact q _ (Same.refl _)
    | dict kv => cases hd
end
end Wn


namespace Wn
open PySem PySem.Spec PyProof.Rows L2

local macro_rules | `(tactic| walk_at "gox1_39") => `(tactic| (first
  | walk_at "go1"
  | (with_reducible apply Wn.r_bm)
  | ((with_reducible apply Wn.r_tyl); (focus (walk_at "lk"; done)))
  | ((with_reducible apply Wn.r_ext); (focus (walk_at "lk"; done)); (focus (walk_at "lk"; done)); (focus ((with_unfolding_all first | (simp only [List.length_cons, List.length_nil, List.length_append]; decide) | fail); done)))
  | ((with_reducible apply Wn.r_cat); (focus (walk_at "lk"; done)); (focus (walk_at "lk"; done)); (focus ((with_unfolding_all first | (simp only [List.length_cons, List.length_nil, List.length_append]; decide) | fail); done)))
  | (with_reducible apply Wn.r_make)
  | ((with_reducible apply Wn.r_inF); (focus ((first | exact Or.inl (by assumption) | exact Or.inr (by assumption) | fail); done)))
  | ((with_reducible apply Wn.r_inT); (focus ((first | exact Or.inl (by assumption) | exact Or.inr (by assumption) | fail); done)))
  | (with_reducible apply Wn.r_chain)
  | (with_reducible apply Wn.r_bt)
  | (with_reducible apply Wn.r_fld)
  | (with_reducible apply Wn.r_meth)
  | ((with_reducible apply Wn.r_pt); (focus ((first | assumption | fail); done)))
  | ((with_reducible apply Wn.r_ti); (focus ((first | assumption | exact Wn.PTup.sq (by assumption) | fail); done)); (focus ((first | assumption | fail); done)))
  | ((with_reducible apply Wn.r_tupT); (focus ((assumption); done)))
  | ((with_reducible apply Wn.r_gtup); (focus ((first | assumption | fail); done)); (focus ((with_unfolding_all first | exact rfl | fail); done)))
  | (with_reducible apply Wn.r_gcons)
  | (with_reducible apply Wn.r_gnil)
  | (with_reducible apply Wn.r_for)
  | ((with_reducible apply Wn.r_ixa); (focus ((first | exact Or.inl (L2.SqL.of (by walk_at "lk")) | exact Or.inr (L2.SqT.of (by walk_at "lk")) | exact Or.inr (by assumption) | exact Or.inl (by assumption) | fail); done)); (focus ((with_unfolding_all first | exact rfl | fail); done)))
  | (with_reducible apply Wn.r_lc)
  | (with_reducible apply Wn.r_rng1)
  | (with_reducible apply Wn.r_ilist)
  | (with_reducible apply Wn.r_itup)
  | (with_reducible apply Wn.r_istr)
  | (with_reducible apply Wn.r_tsl)
  | (with_reducible apply Wn.r_nopart)
  | (with_reducible apply Wn.r_part)
  | (with_reducible apply Wn.r_exint)))
local macro_rules | `(tactic| walk_at "gox_39") => `(tactic| repeat (walk_at "gox1_39"))
/-! ### data that are small -/
structure Itm (d : PyData) : Prop where
  lay : PyData.canLay0 d = true
  sz : dsz d = true
  dp : d.depth ≤ 1
structure Nice (d : PyData) : Prop where
  sh : SeqAt.shaped d = true
  sz : dsz d = true
  dp : d.depth ≤ 2
theorem itm_str {z : Str} (h : PyData.strOk z = true) : Itm (.str z) := ⟨h, rfl, Nat.zero_le _⟩
theorem itm_int (i : Int) : Itm (.int i) := ⟨rfl, rfl, Nat.zero_le _⟩
theorem nice_itm {d : PyData} (h : Itm d) : Nice d := ⟨shaped_of h.lay h.dp (by decide), h.sz, Nat.le_succ_of_le h.dp⟩
theorem nice_tup {ds : List PyData} (h : ∀ d ∈ ds, Itm d) (hl : ds.length ≤ 100) : Nice (.tuple ds) :=
  ⟨shaped_of (n := 2) (layAll_of fun d hd => (h d hd).lay) (tup_depth (depthAll_le fun d hd => (h d hd).dp)) (by decide), tup_dsz (by omega) (dszAll_of fun d hd => (h d hd).sz), tup_depth (depthAll_le fun d hd => (h d hd).dp)⟩
theorem nice_lst {ds : List PyData} (h : ∀ d ∈ ds, Itm d) (hl : ds.length ≤ 100) : Nice (.list ds) := by
  have hd : (PyData.list ds).depth ≤ 2 := Nat.succ_le_succ (depthAll_le fun d hd => (h d hd).dp)
  refine ⟨shaped_of (n := 2) (layAll_of fun d hd => (h d hd).lay) hd (by decide), ?_, hd⟩
  show (decide (ds.length ≤ 100000) && dszAll ds) = true
  rw [decide_eq_true (by omega : ds.length ≤ 100000), dszAll_of fun d hd => (h d hd).sz]
  rfl
theorem itm_lst1 {z : Str} (h : PyData.strOk z = true) : Itm (.list [.str z]) := ⟨layAll_of fun d hd => by rw [List.mem_singleton.mp hd]; exact h, rfl, Nat.le_refl _⟩
theorem itm_strs {zs : List Str} (h : ∀ z ∈ zs, PyData.strOk z = true) : ∀ d ∈ zs.map PyData.str, Itm d := fun d hd => by
  obtain ⟨z, hz, rfl⟩ := List.mem_map.mp hd
  exact itm_str (h z hz)
theorem itm_app {ds : List PyData} {e : PyData} (h : ∀ d ∈ ds, Itm d) (he : Itm e) : ∀ d ∈ ds ++ [e], Itm d := fun d hd => by
  rcases List.mem_append.mp hd with q | q
  · exact h d q
  · rw [List.mem_singleton.mp q]; exact he
/-- a datum of the law at v -/
def DatAt (K : PySem.W.Frag) (H : Hp) (v : V) (d : PyData) : Prop := Dp K H v d ∧ Nice d
theorem dpAll_app {K : PySem.W.Frag} {H : Hp} {v : V} {e : PyData} (he : Dp K H v e) : ∀ {xs : List V} {ds : List PyData}, DpAll K H xs ds → DpAll K H (xs ++ [v]) (ds ++ [e])
  | _, _, .nil => .cons he .nil
  | _, _, .cons a b => .cons a (dpAll_app he b)
theorem dpAll_rep {K : PySem.W.Frag} {H : Hp} {v : V} {d : PyData} (h : Dp K H v d) : ∀ n : Nat, DpAll K H (List.replicate n v) (List.replicate n d)
  | 0 => .nil
  | n + 1 => .cons h (dpAll_rep h n)
theorem long_name {z : Str} (h : nameB z = true) : nameB (z ++ (PySem.Str.ofString "aaaaaaaa")) = false ∧ PyData.strOk (z ++ (PySem.Str.ofString "aaaaaaaa")) = true := by
  have hl := nameB_len h
  have e8 : (PySem.Str.ofString "aaaaaaaa").cps.size = 8 := by decide +kernel
  have hs : (z ++ (PySem.Str.ofString "aaaaaaaa")).length = z.length + 8 := by
    show (z.cps ++ (PySem.Str.ofString "aaaaaaaa").cps).size = z.cps.size + 8
    rw [Array.size_append, e8]
  constructor
  · cases e : nameB (z ++ (PySem.Str.ofString "aaaaaaaa")) with
    | false => rfl
    | true =>
      have := (nameB_len e).2
      omega
  · have h1 := name_ok h
    unfold PyData.strOk at h1 ⊢
    show (z.cps ++ (PySem.Str.ofString "aaaaaaaa").cps).all _ = true
    rw [Array.all_append, h1]
    decide +kernel
theorem empty_ok : PyData.strOk (PySem.Str.ofString "") = true := by decide +kernel
theorem empty_no : nameB (PySem.Str.ofString "") = false := by decide +kernel
end Wn


namespace Wn
open PySem PySem.Spec PyProof.Rows L2

local macro_rules | `(tactic| walk_at "gox1_40") => `(tactic| (first
  | walk_at "go1"
  | (with_reducible apply Wn.r_bm)
  | ((with_reducible apply Wn.r_tyl); (focus (walk_at "lk"; done)))
  | ((with_reducible apply Wn.r_ext); (focus (walk_at "lk"; done)); (focus (walk_at "lk"; done)); (focus ((with_unfolding_all first | (simp only [List.length_cons, List.length_nil, List.length_append]; decide) | fail); done)))
  | ((with_reducible apply Wn.r_cat); (focus (walk_at "lk"; done)); (focus (walk_at "lk"; done)); (focus ((with_unfolding_all first | (simp only [List.length_cons, List.length_nil, List.length_append]; decide) | fail); done)))
  | (with_reducible apply Wn.r_make)
  | ((with_reducible apply Wn.r_gunl); (focus ((first | exact Or.inl (Or.inl (by assumption)) | assumption | fail); done)); (focus ((with_unfolding_all first | exact rfl | fail); done)))
  | ((with_reducible apply Wn.r_inF); (focus ((first | exact Or.inl (by assumption) | exact Or.inr (by assumption) | fail); done)))
  | ((with_reducible apply Wn.r_inT); (focus ((first | exact Or.inl (by assumption) | exact Or.inr (by assumption) | fail); done)))
  | (with_reducible apply Wn.r_chain)
  | (with_reducible apply Wn.r_bt)
  | (with_reducible apply Wn.r_fld)
  | (with_reducible apply Wn.r_meth)
  | ((with_reducible apply Wn.r_pt); (focus ((first | assumption | fail); done)))
  | ((with_reducible apply Wn.r_ti); (focus ((first | assumption | exact Wn.PTup.sq (by assumption) | fail); done)); (focus ((first | assumption | fail); done)))
  | ((with_reducible apply Wn.r_tupT); (focus ((assumption); done)))
  | ((with_reducible apply Wn.r_gtup); (focus ((first | assumption | fail); done)); (focus ((with_unfolding_all first | exact rfl | fail); done)))
  | (with_reducible apply Wn.r_gcons)
  | (with_reducible apply Wn.r_gnil)
  | (with_reducible apply Wn.r_for)
  | ((with_reducible apply Wn.r_ixa); (focus ((first | exact Or.inl (L2.SqL.of (by walk_at "lk")) | exact Or.inr (L2.SqT.of (by walk_at "lk")) | exact Or.inr (by assumption) | exact Or.inl (by assumption) | fail); done)); (focus ((with_unfolding_all first | exact rfl | fail); done)))
  | (with_reducible apply Wn.r_lc)
  | (with_reducible apply Wn.r_rng1)
  | (with_reducible apply Wn.r_ilist)
  | (with_reducible apply Wn.r_itup)
  | (with_reducible apply Wn.r_istr)
  | (with_reducible apply Wn.r_tsl)
  | (with_reducible apply Wn.r_nopart)
  | (with_reducible apply Wn.r_part)
  | (with_reducible apply Wn.r_exint)))
local macro_rules | `(tactic| walk_at "gox_40") => `(tactic| repeat (walk_at "gox1_40"))
theorem FormAt.hid {K : PySem.W.Frag} {mg : Str → Option Value} {T : Txt K mg} {H H' : Hp} {p wa fa b c : Addr} {F : Parts} (x : FormAt T H p wa fa F) (hB : BoxAt H b c) (s : Same (hid H b) H') : FormAt T H' p wa fa F := by
  obtain ⟨ys, eb⟩ := hB.lst
  obtain ⟨dx, e⟩ := x.ob
  exact ⟨x.ok, ⟨dx, s _ _ (hid_some e (ne_of e eb (by intro z; cases z)))⟩, hB.smP s x.w, x.f.mt (hB.smT s)⟩
theorem no_name {F : Parts} (ok : F.Ok) {z : Str} (h : nameB z = false) : NoName F (.str z) := fun name e m => by
  cases e
  rw [ok.fk _ m] at h
  cases h
theorem no_str {F : Parts} {v : V} (h : ∀ z, v ≠ .str z) : NoName F v := fun name e _ => h name e
theorem no_word {F : Parts} (ok : F.Ok) {z : Str} (h : nameB z = false) : wordB F (.str z) = false := by
  rw [wordB_iff, decide_eq_false]
  intro m
  rw [ok.wk _ m] at h
  cases h
theorem hid_hh {H H' : Hp} {b : Addr} (s : Same (hid H b) H') : Same (hid H b) (hid H' b) := fun x o e => by
  have ne : x ≠ b := fun z => by
    unfold Wn.hid at e
    rw [if_pos z] at e
    cases e
  exact hid_some (s x o e) ne
/-- the data of a turn: the words, the name, the word -/
structure Dat3 (K : PySem.W.Frag) (F : Parts) (H : Hp) (wv nv xv : V) (j k : Int) (dw dn dx : PyData) : Prop where
  w : Dp K H wv dw
  wn : Nice dw
  n : Dp K H nv dn
  nn : Nice dn
  x : Dp K H xv dx
  xn : Nice dx
  name : (j = 0 → NoName F nv) ∧ (j ≠ 0 → ¬ NoName F nv)
  word : (k = 0 → wordB F dx = false) ∧ (k ≠ 0 → wordB F dx = true)
def spLaw (K : PySem.W.Frag) : Sp := fun vs H Q _ => ∃ (a : Addr) (ns : List Int), vs = [.ref a] ∧ SqL K H a (ns.map V.int) ∧ ns.length ≤ 63 ∧ ∀ H', Q (.bl true) H'
/-- three small numbers in a list of their own -/
def PickAt (H : Hp) (b D : Addr) (v : V) : Prop := ∃ (l : Addr) (i j k : Int), v = .ref l ∧ l ≠ b ∧ l ≠ D ∧ H l = some (.lst [.int i, .int j, .int k])
section
variable {P : Program} {w : World} {K : PySem.W.Frag} {mg : Str → Option Value} {base : Heap}
theorem ok_law (T : Txt K mg) {f : Addr} {fd : FuncData} (F : Fun K "law" "law" s_law f fd) : FnOk P w K mg base CX0 13 f fd ["_law_script"] (spLaw K) := by
  refine F.ok sc_law (fun vs H Q E h => ?_) (fun cdv A outer s H vs Q E hr h => ?_)
  · obtain ⟨a, ns, rfl, _⟩ := h
    rfl
  · obtain ⟨a, ns, rfl, hS, h63, q⟩ := h
    refine ⟨_, (pss_cons (ps_set (i := 1) sc_law.nd rfl (Or.inr rfl) (pe_call (ok_L_box T) (hr.mono (by decide)) (by rfl) T.g_L_box T.F_L_box.kp T.b_L_box .nil pass0 (pa_cons (pv 0) pa_nil))) (pss_cons (ps_setLc (i := 2) (own := [("_law_k", 3)]) (g := gName 3) (tt := tYes) rfl sc_law.nd rfl rfl (sw_true rfl rfl rfl (by decide +kernel)) (pi_range1 (by rfl) T.range (pa_cons pe_int pa_nil)) (blkOk_by (N := ["_law_script", "_law_box_here", "_law_picks", "_law_k", "_law_parts_here", "_law_form", "_law_names_here", "_law_pair", "_law_first", "_law_second", "_law_third", "_law_words", "_law_name", "_law_word", "_law_which", "_law_bad", "_law_due"]) (sc := defScope s_law) (by decide +kernel)) (fun _ _ _ _ _ => pg_name (i := 3) sc_law.nd rfl (Or.inl rfl)) (fun _ _ _ _ _ => pts_nil) (fun _ _ _ _ _ => (pe_lst (pa_cons (pe_call (ok_L_draw T) (hr.mono (by decide)) (by rfl) T.g_L_draw T.F_L_draw.kp T.b_L_draw .nil pass0 (pa_cons (pv 1) (pa_cons pe_int pa_nil))) (pa_cons (pe_call (ok_L_draw T) (hr.mono (by decide)) (by rfl) T.g_L_draw T.F_L_draw.kp T.b_L_draw .nil pass0 (pa_cons (pv 1) (pa_cons pe_int pa_nil))) (pa_cons (pe_call (ok_L_draw T) (hr.mono (by decide)) (by rfl) T.g_L_draw T.F_L_draw.kp T.b_L_draw .nil pass0 (pa_cons (pv 1) (pa_cons pe_int pa_nil))) pa_nil)))))) (pss_cons (ps_set (i := 4) sc_law.nd rfl (Or.inr rfl) (pe_call (ok_L_parts T) (hr.mono (by decide)) (by rfl) T.g_L_parts T.F_L_parts.kp T.b_L_parts .nil pass0 (pa_cons (pv 1) pa_nil))) (pss_cons (ps_set (i := 5) sc_law.nd rfl (Or.inl rfl) (pe_makeK T.M (ok_Form_init T) (hr.mono (by decide)) (by rfl) T.g_Form (kb_room T.F_init) pass0 (pa_cons (pe_ix (ix_aK (K := K) rfl) (pv 4) pe_int (fun _ _ => rfl)) (pa_cons (pe_ix (ix_aK (K := K) rfl) (pv 4) pe_int (fun _ _ => rfl)) pa_nil)) (pk_cons (pe_ix (ix_aK (K := K) rfl) (pv 4) pe_int (fun _ _ => rfl)) pk_nil))) (pss_cons (ps_setLc (i := 6) (own := [("_law_pair", 7)]) (g := gName 7) (tt := tYes) rfl sc_law.nd rfl rfl (sw_true rfl rfl rfl (by decide +kernel)) (pi_tupK (K := K) rfl (pe_ix (ix_aK (K := K) rfl) (pv 4) pe_int (fun _ _ => rfl))) (blkOk_by (N := ["_law_script", "_law_box_here", "_law_picks", "_law_k", "_law_parts_here", "_law_form", "_law_names_here", "_law_pair", "_law_first", "_law_second", "_law_third", "_law_words", "_law_name", "_law_word", "_law_which", "_law_bad", "_law_due"]) (sc := defScope s_law) (by decide +kernel)) (fun _ _ _ _ _ => pg_name (i := 7) sc_law.nd rfl (Or.inl rfl)) (fun _ _ _ _ _ => pts_nil) (fun _ _ _ _ _ => (pe_ix (ix_aK (K := K) rfl) (pv 7) pe_int (fun _ _ => rfl)))) (pss_cons (ps_for PassesOwn.never rfl (pi_listK (K := K) rfl (pv 2)) (pg_unlK (K := K) (n := 3) rfl rfl (pgs_cons (pg_name (i := 8) sc_law.nd rfl (Or.inl rfl)) (pgs_cons (pg_name (i := 9) sc_law.nd rfl (Or.inl rfl)) (pgs_cons (pg_name (i := 10) sc_law.nd rfl (Or.inl rfl)) pgs_nil)))) (pss_cons (ps_set (i := 11) sc_law.nd rfl (Or.inl rfl) (pe_callTy (call_tupleK (K := K) rfl) (by rfl) T.tuple_ (by decide +kernel) (pa_cons (pe_lc (own := [("_law_name", 12)]) (g := gName 12) (tt := tYes) rfl sc_law.nd (pi_listK (K := K) rfl (pv 6)) (blkOk_by (N := ["_law_script", "_law_box_here", "_law_picks", "_law_k", "_law_parts_here", "_law_form", "_law_names_here", "_law_pair", "_law_first", "_law_second", "_law_third", "_law_words", "_law_name", "_law_word", "_law_which", "_law_bad", "_law_due"]) (sc := defScope s_law) (by decide +kernel)) (fun _ _ _ _ _ => pg_name (i := 12) sc_law.nd rfl (Or.inl rfl)) (fun _ _ _ _ _ => pts_nil) (fun _ _ _ _ _ => (pe_ix (ix_aK (K := K) rfl) (pe_ix (ix_aK (K := K) rfl) (pv 4) pe_int (fun _ _ => rfl)) (pe_call (ok_L_draw T) (hr.mono (by decide)) (by rfl) T.g_L_draw T.F_L_draw.kp T.b_L_draw .nil pass0 (pa_cons (pv 1) (pa_cons (pe_callB (call_lenK (K := K) rfl) (by rfl) T.len PySem.boot_len (pa_cons (pe_ix (ix_aK (K := K) rfl) (pv 4) pe_int (fun _ _ => rfl)) pa_nil)) pa_nil))) (fun _ _ => rfl)))) pa_nil))) (pss_cons (ps_set (i := 12) sc_law.nd rfl (Or.inl rfl) (pe_ix (ix_aK (K := K) rfl) (pv 6) (pe_call (ok_L_draw T) (hr.mono (by decide)) (by rfl) T.g_L_draw T.F_L_draw.kp T.b_L_draw .nil pass0 (pa_cons (pv 1) (pa_cons (pe_callB (call_lenK (K := K) rfl) (by rfl) T.len PySem.boot_len (pa_cons (pv 6) pa_nil)) pa_nil))) (fun _ _ => rfl))) (pss_cons (ps_set (i := 13) sc_law.nd rfl (Or.inl rfl) (pe_ix (ix_aK (K := K) rfl) (pe_ix (ix_aK (K := K) rfl) (pv 4) pe_int (fun _ _ => rfl)) (pe_call (ok_L_draw T) (hr.mono (by decide)) (by rfl) T.g_L_draw T.F_L_draw.kp T.b_L_draw .nil pass0 (pa_cons (pv 1) (pa_cons (pe_callB (call_lenK (K := K) rfl) (by rfl) T.len PySem.boot_len (pa_cons (pe_ix (ix_aK (K := K) rfl) (pv 4) pe_int (fun _ _ => rfl)) pa_nil)) pa_nil))) (fun _ _ => rfl))) (pss_cons (ps_ifk (pt_cmpR op_eq (pv 8) pe_int (nomark _)) (pss_cons (ps_set (i := 15) sc_law.nd rfl (Or.inl rfl) (pe_lst (pa_cons (pe_callTy (call_listTK (K := K) rfl) (by rfl) T.list_ (by decide +kernel) (pa_cons (pv 11) pa_nil)) (pa_cons (pe_op (op_catAK (K := K) rfl) (pv 11) (pe_tup (pa_cons (pv 13) pa_nil))) (pa_cons (pe_slice (sl_tupK (K := K) rfl) (pv 11) (po_some pe_int) po_none) (pa_cons pe_non (pa_cons pe_str (pa_cons (pe_op (op_catAK (K := K) rfl) (pe_slice (sl_tupK (K := K) rfl) (pv 11) (po_some pe_int) po_none) (pe_tup (pa_cons pe_int pa_nil))) pa_nil)))))))) (pss_cons (ps_expr (pe_bm PySem.F.plainAttrs_list PySem.F.slot_list_extend PySem.F.type_list_extend mt_extend (pv 15) (pa_cons (pe_lst (pa_cons (pe_op (op_catAK (K := K) rfl) (pe_slice (sl_tupK (K := K) rfl) (pv 11) (po_some pe_int) po_none) (pe_tup (pa_cons pe_str pa_nil))) (pa_cons (pe_op (op_mulTK (K := K) rfl) (pe_tup (pa_cons (pe_lst (pa_cons (pv 13) pa_nil)) pa_nil)) (pe_callB (call_lenK (K := K) rfl) (by rfl) T.len PySem.boot_len (pa_cons (pv 11) pa_nil))) pa_nil))) pa_nil))) (pss_one (ps_set (i := 11) sc_law.nd rfl (Or.inl rfl) (pe_ix (ix_aK (K := K) rfl) (pv 15) (pe_call (ok_L_draw T) (hr.mono (by decide)) (by rfl) T.g_L_draw T.F_L_draw.kp T.b_L_draw .nil pass0 (pa_cons (pv 1) (pa_cons pe_int pa_nil))) (fun _ _ => rfl)))))) pss_nil) (pss_cons (ps_ifk (pt_cmpR op_eq (pv 9) pe_int (nomark _)) (pss_one (ps_set (i := 12) sc_law.nd rfl (Or.inl rfl) (pe_ix (ix_aK (K := K) rfl) (pe_lst (pa_cons (pe_op op_add_str (pv 12) pe_str) (pa_cons pe_str (pa_cons pe_non (pa_cons pe_int (pa_cons (pe_lst (pa_cons (pv 12) pa_nil)) (pa_cons (pe_tup (pa_cons (pv 12) pa_nil)) (pa_cons pe_bl pa_nil)))))))) (pe_call (ok_L_draw T) (hr.mono (by decide)) (by rfl) T.g_L_draw T.F_L_draw.kp T.b_L_draw .nil pass0 (pa_cons (pv 1) (pa_cons pe_int pa_nil))) (fun _ _ => rfl)))) pss_nil) (pss_cons (ps_ifk (pt_cmpR op_eq (pv 10) pe_int (nomark _)) (pss_one (ps_set (i := 13) sc_law.nd rfl (Or.inl rfl) (pe_ix (ix_aK (K := K) rfl) (pe_lst (pa_cons (pe_op op_add_str (pv 13) pe_str) (pa_cons pe_str (pa_cons pe_non (pa_cons pe_int (pa_cons (pe_lst (pa_cons (pv 13) pa_nil)) (pa_cons pe_bl pa_nil))))))) (pe_call (ok_L_draw T) (hr.mono (by decide)) (by rfl) T.g_L_draw T.F_L_draw.kp T.b_L_draw .nil pass0 (pa_cons (pv 1) (pa_cons pe_int pa_nil))) (fun _ _ => rfl)))) pss_nil) (pss_one (ps_for PassesOwn.never rfl (pi_range1 (by rfl) T.range (pa_cons pe_int pa_nil)) (pg_name (i := 14) sc_law.nd rfl (Or.inl rfl)) (pss_cons (ps_set (i := 16) sc_law.nd rfl (Or.inl rfl) (pe_tup (pa_cons pe_str (pa_cons pe_non (pa_cons pe_bl pa_nil))))) (pss_cons (ps_ifk (PW.pt (pw_and (pt_cmpR op_lt (pv 14) pe_int (nomark _)) (pw_and1 (pt_not (pt_val (pe_call (ok_L_are_words T) (hr.mono (by decide)) (by rfl) T.g_L_are_words T.F_L_are_words.kp T.b_L_are_words .nil pass0 (pa_cons (pv 11) (pa_cons (pe_ix (ix_aK (K := K) rfl) (pv 4) pe_int (fun _ _ => rfl)) (pa_cons (pe_callB (call_lenK (K := K) rfl) (by rfl) T.len PySem.boot_len (pa_cons (pv 6) pa_nil)) pa_nil))))))))) (pss_one (ps_set (i := 16) sc_law.nd rfl (Or.inl rfl) (pe_tup (pa_cons pe_str (pa_cons (pv 11) (pa_cons pe_bl pa_nil)))))) (pss_one (ps_if (PW.pt (pw_and (pt_cmpR op_ne (pv 14) pe_int (nomark _)) (pw_and1 (pt_cmpR op_eq (pv 9) pe_int (nomark _))))) (pss_one (ps_set (i := 16) sc_law.nd rfl (Or.inl rfl) (pe_tup (pa_cons pe_str (pa_cons (pv 12) (pa_cons pe_bl pa_nil)))))) (pss_one (ps_if (PW.pt (pw_and (pt_cmpR op_eq (pv 14) pe_int (nomark _)) (pw_and1 (pt_cmpR op_eq (pv 10) pe_int (nomark _))))) (pss_one (ps_set (i := 16) sc_law.nd rfl (Or.inl rfl) (pe_tup (pa_cons pe_str (pa_cons (pv 13) (pa_cons pe_bl pa_nil)))))) pss_nil))))) (pss_one (ps_if (pt_not (pt_val (pe_call (ok_L_same T) (hr.mono (by decide)) (by rfl) T.g_L_same T.F_L_same.kp T.b_L_same .nil pass0 (pa_cons (pe_call (ok_L_told T) (hr.mono (by decide)) (by rfl) T.g_L_told T.F_L_told.kp T.b_L_told .nil pass0 (pa_cons (pv 5) (pa_cons (pv 14) (pa_cons (pv 11) (pa_cons (pv 12) (pa_cons (pv 13) pa_nil)))))) (pa_cons (pv 16) pa_nil))))) (pss_one (ps_ret pe_bl)) pss_nil))))))))))))) (pss_one (ps_ret pe_bl)))))))), ?_⟩
    show tSeq _ _ _ [_, none, none, none, none, none, none, none, none, none, none, none, none, none, none, none, none] _
    walk_at "gox_40"
    refine ⟨a, ns, rfl, hS, h63, fun H1 b c s1 nb nc hB => ?_⟩
    walk_at "gox_40"
    refine ⟨8, rfl, by decide, by decide, fun D nD => lc_range (lo := 0) (n := 8) (fun i H' => Same (hid H1 b) H' ∧ BoxAt H' b c ∧ ∃ vs, H' D = some (.lst vs) ∧ vs.length = i ∧ ∀ v ∈ vs, PickAt H' b D v) ⟨hid_put hid_same nD, hB.put hB nD, [], upd_same, rfl, fun v h => absurd h List.not_mem_nil⟩ ?_ ?_⟩
    · rintro i H' hi ⟨sm, hB2, vs, hD, hl, hv⟩
      have Db : D ≠ b := (hB.nb nD).symm
      walk_at "gox_40"
      refine ⟨b, c, 3, rfl, by decide, by decide, hB2, fun r1 H3 r10 r11 x1 hB3 => ?_⟩
      walk_at "gox_40"
      refine ⟨b, c, 3, rfl, by decide, by decide, hB3, fun r2 H4 r20 r21 x2 hB4 => ?_⟩
      walk_at "gox_40"
      refine ⟨b, c, 3, rfl, by decide, by decide, hB4, fun r3 H5 r30 r31 x3 hB5 => ?_⟩
      walk_at "gox_40"
      intro l nl
      have xx : ∀ x, x ≠ b → H5 x = H' x := fun x h => (x3 x h).trans ((x2 x h).trans (x1 x h))
      have hD5 : H5 D = some (.lst vs) := (xx D Db).trans hD
      have lD : D ≠ l := ne_of_none hD5 nl
      have lb : l ≠ b := (hB5.nb nl).symm
      refine ⟨_, (upd_ne lD).trans hD5, by rw [hl]; exact small63 (by omega), hid_put (fun x o e => (same_new nl) x o (hid_but sm xx x o e)) nD, (hB5.mono (same_new nl)).put hB nD, _, upd_same, by rw [List.length_append, hl]; rfl, fun v hv2 => ?_⟩
      rcases List.mem_append.mp hv2 with h | h
      · obtain ⟨l2, i2, j2, k2, e1, e2, e3, e4⟩ := hv v h
        exact ⟨l2, i2, j2, k2, e1, e2, e3, (upd_ne e3).trans (same_new nl _ _ ((xx l2 e2).trans e4))⟩
      · rw [List.mem_singleton.mp h]
        exact ⟨l, r1, r2, r3, rfl, lb, lD.symm, (upd_ne lD.symm).trans upd_same⟩
    · rintro H2 ⟨s2, hB2, vs, hD2, hvl, hpk⟩
      have Db : D ≠ b := (hB.nb nD).symm
      walk_at "gox_40"
      refine ⟨b, c, rfl, hB2, fun H3 q3 wa fa F ok s3 hB3 n3 hW hF e3 => ?_⟩
      have f1 := ok.f1
      have f3 := ok.f3
      have w2 := ok.w2
      have w3 := ok.w3
      have hD3 := s3 _ _ (hid_some hD2 Db)
      walk_at "gox_40"
      refine ⟨rfl, rfl, fun x dx nx ndx ne => ?_⟩
      have sx := (same_new (o := .own x) ndx).trans (same_new (o := .ins T.C dx []) (by rw [upd_ne ne.symm]; exact nx))
      refine ⟨x, dx, wa, fa, F, rfl, upd_same, ok, same_sqT sx hW.sq, hF.mono sx, fun H4 k4 e4 => ⟨rfl, ?_⟩⟩
      obtain ⟨s4, hP⟩ := make_form ok hW hF nx ndx ne k4 e4
      have e34 := s4 _ _ e3
      have hD4 := s4 _ _ hD3
      have hB4 := hB3.mono s4
      have hF4 := hP.f
      walk_at "gox_40"
      obtain ⟨fvs, hS4, hfl, hx⟩ := hF4.ex
      refine cl_tup (f := fun i H' y => ∃ p, F.fs[i]? = some p ∧ y = .str p.1) hS4 (by omega) (fun i y H H' s h => h) ?_ ?_
      · rintro i y hi H' N sm hN
        have hlt : i < F.fs.length := by rw [← hfl]; exact (List.getElem?_eq_some_iff.mp hi).1
        have ef : F.fs[i]? = some F.fs[i] := List.getElem?_eq_getElem hlt
        obtain ⟨p, fv, rfl, hp, hfld⟩ := hx i y _ hi ef
        have hp' := same_sqT sm hp
        walk_at "gox_40"
        exact hN _ _ (Same.refl _) ⟨_, ef, rfl⟩
      · rintro H5 nl ys s5 nnl enl hyl hy
        have hys : ys = (F.fs.map (·.1)).map V.str := by
          refine List.ext_getElem? fun i => ?_
          by_cases h : i < ys.length
          · obtain ⟨p, e1, e2⟩ := hy i _ (List.getElem?_eq_getElem h)
            rw [List.getElem?_eq_getElem h, e2, List.getElem?_map, List.getElem?_map, e1]
            rfl
          · rw [List.getElem?_eq_none (by omega), List.getElem?_eq_none (by rw [List.length_map, List.length_map]; omega)]
        subst hys
        have e35 := s5 _ _ e34
        have hD5 := s5 _ _ hD4
        have hB5 := hB4.mono s5
        have hP5 := hP.mono s5
        have nlb : nl ≠ b := (hB4.nb nnl).symm
        have hpk5 : ∀ v ∈ vs, ∃ (l : Addr) (i j k : Int), v = .ref l ∧ l ≠ b ∧ H5 l = some (.lst [.int i, .int j, .int k]) := fun v hv => by
          obtain ⟨l, i, j, k, e1, e2, _, e4⟩ := hpk v hv
          exact ⟨l, i, j, k, e1, e2, s5 _ _ (s4 _ _ (s3 _ _ (hid_some e4 e2)))⟩
        walk_at "gox_40"
        refine fl_list (K := K) (a := D) (xs := vs) (.inl (.inl hD5)) (fun i σ H' => Same (hid H5 b) H' ∧ BoxAt H' b c ∧ ∃ (v8 v9 v10 v11 v12 v13 v14 v15 v16 : Option V), σ = [some (.ref a), some (.ref b), some (.ref D), none, some (.ref q3), some (.ref x), some (.ref nl), none, v8, v9, v10, v11, v12, v13, v14, v15, v16])
          ⟨hid_same, hB5, _, _, _, _, _, _, _, _, _, rfl⟩ (fun i σ H' _ h => .inl (.inl (h.1 _ _ (hid_some hD5 Db)))) ?_ ?_
        · rintro i v σ H6 hi ⟨s6, hB6, v8, v9, v10, v11, v12, v13, v14, v15, v16, rfl⟩
          obtain ⟨l, i1, j1, k1, rfl, lb, el⟩ := hpk5 v (List.mem_of_getElem? hi)
          have el6 := s6 _ _ (hid_some el lb)
          have hP6 := hP5.hid hB5 s6
          have e36 := hB5.smT (K := K) s6 _ _ (.inl (.inl e35))
          have enl6 := s6 _ _ (hid_some enl nlb)
          have hWs6 := hP6.w.sq (K := K)
          have lW : (F.ws.map V.str).length = F.ws.length := List.length_map _
          have lN : ((F.fs.map (·.1)).map V.str).length = F.fs.length := by rw [List.length_map, List.length_map]
          walk_at "gox_40"
          refine ⟨nl, rfl, ⟨_, .inl (.inl enl6)⟩, fun D2 nD2 => lc_list (K := K) (a := nl) (xs := (F.fs.map (·.1)).map V.str) (fun i H' => Same (hid H6 b) H' ∧ BoxAt H' b c ∧ ∃ row : List Str, H' D2 = some (.lst (row.map V.str)) ∧ row.length = i ∧ ∀ z ∈ row, z ∈ F.ws)
            ⟨hid_put hid_same nD2, hB6.put hB6 nD2, [], upd_same, rfl, fun z h => absurd h List.not_mem_nil⟩ (fun i H' _ h => .inl (.inl (h.1 _ _ (hid_some enl6 nlb)))) ?_ ?_⟩
          · rintro i2 y H' hi2 ⟨sm, hB7, row, hD7, hrl, hrw⟩
            have hi3 : i2 < F.fs.length := by have := (List.getElem?_eq_some_iff.mp hi2).1; rw [lN] at this; exact this
            have D2b : D2 ≠ b := (hB6.nb nD2).symm
            have e37 := hB6.smT (K := K) sm _ _ e36
            have hWs7 := hB6.smT (K := K) sm _ _ hWs6
            walk_at "gox_40"
            refine ⟨b, c, _, rfl, by rw [lW]; omega, by rw [lW]; omega, hB7, fun d H8 d0 d1 x8 hB8 => ?_⟩
            obtain ⟨k8, rfl⟩ : ∃ k : Nat, d = (k : Int) := ⟨d.toNat, by omega⟩
            have hk8 : k8 < F.ws.length := by rw [lW] at d1; omega
            have s8 : Same (hid H' b) H8 := hid_but hid_same x8
            have hWs8 := hB7.smT (K := K) s8 _ _ hWs7
            refine r_ixa (.inr hWs8) (atI_nat (by rw [List.getElem?_map, List.getElem?_eq_getElem hk8]; rfl)) ?_
            refine ⟨_, (x8 D2 D2b).trans hD7, by rw [List.length_map, hrl]; exact small63 (by omega), hid_put (hid_hid sm s8) nD2, hB8.put hB6 nD2, row ++ [F.ws[k8]], by rw [upd_same, List.map_append]; rfl, by rw [List.length_append, hrl]; rfl, fun z hz => ?_⟩
            rcases List.mem_append.mp hz with h | h
            · exact hrw z h
            · rw [List.mem_singleton.mp h]; exact List.getElem_mem hk8
          · rintro H7 ⟨sm, hB7, row, hD7, hrl, hrw⟩
            rw [lN] at hrl
            walk_at "gox_40"
            refine ⟨D2, _, rfl, .inl (.inl hD7), fun tw ntw => ?_⟩
            have sw := same_new (o := .tup (row.map V.str)) ntw
            have etw : (upd H7 tw (.tup (row.map V.str))) tw = some (.tup (row.map V.str)) := upd_same
            have hB8 := hB7.mono sw
            have s68 : Same (hid H6 b) (upd H7 tw (.tup (row.map V.str))) := fun y o e => sw y o (sm y o e)
            generalize upd H7 tw _ = H8 at etw hB8 s68 ⊢
            have enl8 := s68 _ _ (hid_some enl6 nlb)
            have enl8S : SqL K H8 nl ((F.fs.map (·.1)).map V.str) := .inl (.inl enl8)
            walk_at "gox_40"
            refine ⟨b, c, _, rfl, by rw [lN]; omega, by rw [lN]; omega, hB8, fun d H9 d0 d1 x9 hB9 => ?_⟩
            obtain ⟨k9, rfl⟩ : ∃ k : Nat, d = (k : Int) := ⟨d.toNat, by omega⟩
            have hk9 : k9 < F.fs.length := by rw [lN] at d1; omega
            have s9 : Same (hid H8 b) H9 := hid_but hid_same x9
            have enl9 := s9 _ _ (hid_some enl8 nlb)
            have ef9 : F.fs[k9]? = some F.fs[k9] := List.getElem?_eq_getElem hk9
            refine r_ixa (.inl (.inl (.inl enl9))) (atI_nat (by rw [List.getElem?_map, List.getElem?_map, ef9]; rfl)) ?_
            have s69 := hid_hid s68 s9
            have e39 := hB6.smT (K := K) s69 _ _ e36
            have hWs9 := hB6.smT (K := K) s69 _ _ hWs6
            walk_at "gox_40"
            refine ⟨b, c, _, rfl, by rw [lW]; omega, by rw [lW]; omega, hB9, fun d H10 d0 d1 x10 hB10 => ?_⟩
            obtain ⟨k10, rfl⟩ : ∃ k : Nat, d = (k : Int) := ⟨d.toNat, by omega⟩
            have hk10 : k10 < F.ws.length := by rw [lW] at d1; omega
            have s10 : Same (hid H9 b) H10 := hid_but hid_same x10
            have s610 := hid_hid s69 s10
            have hWs10 := hB6.smT (K := K) s610 _ _ hWs6
            refine r_ixa (.inr hWs10) (atI_nat (by rw [List.getElem?_map, List.getElem?_eq_getElem hk10]; rfl)) ?_
            have htw10 : SqT K H10 tw (row.map V.str) := hB9.smT s10 _ _ (hB8.smT s9 _ _ (.inl (.inl etw)))
            have hP10 := hP6.hid hB6 s610
            have e310 := hB6.smT (K := K) s610 _ _ e36
            have enl10 := s610 _ _ (hid_some enl6 nlb)
            walk_at "gox_40"
            refine if_cut (fun σ' H' => ∃ (wv : V) (dw : PyData) (v15 : Option V), Dp K (hid H' b) wv dw ∧ Nice dw ∧ Same (hid H10 b) H' ∧ BoxAt H' b c ∧ σ' = [some (.ref a), some (.ref b), some (.ref D), none, some (.ref q3), some (.ref x), some (.ref nl), none, some (.int i1), some (.int j1), some (.int k1), some wv, some (.str F.fs[k9].1), some (.str F.ws[k10]), v14, v15, v16]) (fun σ' H11 hC => ?_) (fun J => ?_)
            · obtain ⟨wv, dw, v15', hwv, nwv, s11, hB11, rfl⟩ := hC
              walk_at "gox_40"
              refine if_cut (fun σ' H' => ∃ (nv : V) (dn : PyData), Dp K (hid H' b) wv dw ∧ Dp K (hid H' b) nv dn ∧ Nice dn ∧ ((j1 = 0 → NoName F nv) ∧ (j1 ≠ 0 → ¬ NoName F nv)) ∧ Same (hid H10 b) H' ∧ BoxAt H' b c ∧ σ' = [some (.ref a), some (.ref b), some (.ref D), none, some (.ref q3), some (.ref x), some (.ref nl), none, some (.int i1), some (.int j1), some (.int k1), some wv, some nv, some (.str F.ws[k10]), v14, v15', v16]) (fun σ' H12 hC => ?_) (fun J => ?_)
              · obtain ⟨nv, dn, hwv2, hnv, nnv, cn, s12, hB12, rfl⟩ := hC
                walk_at "gox_40"
                refine if_cut (fun σ' H' => ∃ (xv : V) (dx : PyData), Dp K (hid H' b) wv dw ∧ Dp K (hid H' b) nv dn ∧ Dp K (hid H' b) xv dx ∧ Nice dx ∧ ((k1 = 0 → wordB F dx = false) ∧ (k1 ≠ 0 → wordB F dx = true)) ∧ Same (hid H10 b) H' ∧ BoxAt H' b c ∧ σ' = [some (.ref a), some (.ref b), some (.ref D), none, some (.ref q3), some (.ref x), some (.ref nl), none, some (.int i1), some (.int j1), some (.int k1), some wv, some nv, some xv, v14, v15', v16]) (fun σ' H13 hC => ?_) (fun J => ?_)
                · obtain ⟨xv, dx, hwv3, hnv3, hxv, nxv, cx, s13, hB13, rfl⟩ := hC
                  have D3 : Dat3 K F H13 wv nv xv j1 k1 dw dn dx := ⟨dp_mono hid_same hwv3, nwv, dp_mono hid_same hnv3, nnv, dp_mono hid_same hxv, nxv, cn, cx⟩
                  have hP13 := hP10.hid hB10 s13
                  have e313 := hB10.smT (K := K) s13 _ _ e310
                  have enl13 := s13 _ _ (hid_some enl10 nlb)
                  have s513 : Same (hid H5 b) H13 := hid_hid s6 (hid_hid s610 s13)
                  walk_at "gox_40"
                  refine ⟨4, rfl, by decide, by decide, for_range (lo := 0) (n := 4) (fun n σ H' => Same H13 H' ∧ ∃ v14 v16, σ = [some (.ref a), some (.ref b), some (.ref D), none, some (.ref q3), some (.ref x), some (.ref nl), none, some (.int i1), some (.int j1), some (.int k1), some wv, some nv, some xv, v14, v15', v16]) ⟨Same.refl _, _, _, rfl⟩ ?_ ?_⟩
                  · rintro n σ H14 hn ⟨s14, v14, v16, rfl⟩
                    walk_at "gox_40"
                    have hP14 := hP13.mono s14
                    intro t0 nt0
                    walk_at "gox_40"
                    refine if_cut (fun σ' H' => ∃ (q16 : Addr) (u : Str) (vv : V), Same H14 H' ∧ H' q16 = some (.tup [.str u, vv, .bl false]) ∧
                      (((n : Int) < 3 ∧ wordsB F dw = false ∧ u = "words" ∧ vv = wv) ∨ (((n : Int) < 3 → wordsB F dw = true) ∧ (n : Int) ≠ 2 ∧ NoName F nv ∧ u = "field" ∧ vv = nv) ∨
                        (((n : Int) < 3 → wordsB F dw = true) ∧ (n : Int) = 3 ∧ ¬ NoName F nv ∧ wordB F dx = false ∧ u = "word" ∧ vv = xv) ∨
                        (((n : Int) < 3 → wordsB F dw = true) ∧ ((n : Int) ≠ 2 → ¬ NoName F nv) ∧ ((n : Int) = 3 → wordB F dx = true) ∧ u = "told" ∧ vv = .non)) ∧
                      σ' = [some (.ref a), some (.ref b), some (.ref D), none, some (.ref q3), some (.ref x), some (.ref nl), none, some (.int i1), some (.int j1), some (.int k1), some wv, some nv, some xv, some (.int (0 + n)), v15', some (.ref q16)]) (fun σ' H15 hC => ?_) (fun J => ?_)
                    · obtain ⟨q16, u, vv, s15, e16, hR, rfl⟩ := hC
                      have hP15 := hP14.mono s15
                      have D15 : Dat3 K F H15 wv nv xv j1 k1 dw dn dx := ⟨dp_mono (s14.trans s15) D3.w, D3.wn, dp_mono (s14.trans s15) D3.n, D3.nn, dp_mono (s14.trans s15) D3.x, D3.xn, D3.name, D3.word⟩
                      walk_at "gox_40"
                      rcases hR with ⟨r1, r2, rfl, rfl⟩ | ⟨r1, r2, r3, rfl, rfl⟩ | ⟨r1, r2, r3, r4, rfl, rfl⟩ | ⟨r1, r2, r3, rfl, rfl⟩
                      · refine ⟨x, wa, fa, F, 0 + (n : Int), _, nv, xv, dw, dn, dx, rfl, by omega, by omega, hP15, D15.w, D15.wn.sh, D15.n, D15.nn.sh, D15.x, D15.xn.sh, fun _ _ H' q2 s' e' => ?_, fun _ h => ?_, fun h => ?_, fun h => ?_⟩
                        · skip
                          walk_at "gox_40"
                          refine ⟨.ref q2, .ref q16, .tuple [.str _, dw, .bool false], rfl, .tup (.inl (.inl e')) (.cons (.str _) (.cons (dp_mono s' D15.w) (.cons (.bl _) .nil))), .tup (.inl (.inl (s' _ _ e16))) (.cons (.str _) (.cons (dp_mono s' D15.w) (.cons (.bl _) .nil))), ?_, ?_, fun H17 s17 => ?_⟩
                          · have hdp := (D15.wn : Nice _).dp
                            show max 0 (max (PyData.depth dw) (max 0 0)) + 1 < 8
                            omega
                          · exact tup_dsz (by show 3 ≤ 100000; decide) (dszAll_of fun d hd => by
                              simp only [List.mem_cons, List.not_mem_nil, or_false] at hd
                              rcases hd with rfl | rfl | rfl
                              · rfl
                              · exact (D15.wn : Nice _).sz
                              · rfl)
                          walk_at "gox_40"
                          exact ⟨s14.trans (s15.trans (s'.trans s17)), _, _, rfl⟩
                        · exact absurd (h (by omega)) (by rw [r2]; exact Bool.false_ne_true)
                        · omega
                        · exact absurd (h (by omega)) (by rw [r2]; exact Bool.false_ne_true)
                      · refine ⟨x, wa, fa, F, 0 + (n : Int), wv, _, xv, dw, dn, dx, rfl, by omega, by omega, hP15, D15.w, D15.wn.sh, D15.n, D15.nn.sh, D15.x, D15.xn.sh, fun h1 h2 => ?_, fun _ _ _ H' q2 s' e' => ?_, fun h h2 => ?_, fun _ h => ?_⟩
                        · exact absurd (r1 (by omega)) (by rw [h2]; exact Bool.false_ne_true)
                        · skip
                          walk_at "gox_40"
                          refine ⟨.ref q2, .ref q16, .tuple [.str _, dn, .bool false], rfl, .tup (.inl (.inl e')) (.cons (.str _) (.cons (dp_mono s' D15.n) (.cons (.bl _) .nil))), .tup (.inl (.inl (s' _ _ e16))) (.cons (.str _) (.cons (dp_mono s' D15.n) (.cons (.bl _) .nil))), ?_, ?_, fun H17 s17 => ?_⟩
                          · have hdp := (D15.nn : Nice _).dp
                            show max 0 (max (PyData.depth dn) (max 0 0)) + 1 < 8
                            omega
                          · exact tup_dsz (by show 3 ≤ 100000; decide) (dszAll_of fun d hd => by
                              simp only [List.mem_cons, List.not_mem_nil, or_false] at hd
                              rcases hd with rfl | rfl | rfl
                              · rfl
                              · exact (D15.nn : Nice _).sz
                              · rfl)
                          walk_at "gox_40"
                          exact ⟨s14.trans (s15.trans (s'.trans s17)), _, _, rfl⟩
                        · exact absurd r3 h2
                        · exact absurd r3 (h (by omega))
                      · refine ⟨x, wa, fa, F, 0 + (n : Int), wv, nv, _, dw, dn, dx, rfl, by omega, by omega, hP15, D15.w, D15.wn.sh, D15.n, D15.nn.sh, D15.x, D15.xn.sh, fun h1 => ?_, fun _ _ h => ?_, fun _ _ _ H' q2 s' e' => ?_, fun _ _ h => ?_⟩
                        · omega
                        · exact absurd h r3
                        · skip
                          walk_at "gox_40"
                          refine ⟨.ref q2, .ref q16, .tuple [.str _, dx, .bool false], rfl, .tup (.inl (.inl e')) (.cons (.str _) (.cons (dp_mono s' D15.x) (.cons (.bl _) .nil))), .tup (.inl (.inl (s' _ _ e16))) (.cons (.str _) (.cons (dp_mono s' D15.x) (.cons (.bl _) .nil))), ?_, ?_, fun H17 s17 => ?_⟩
                          · have hdp := (D15.xn : Nice _).dp
                            show max 0 (max (PyData.depth dx) (max 0 0)) + 1 < 8
                            omega
                          · exact tup_dsz (by show 3 ≤ 100000; decide) (dszAll_of fun d hd => by
                              simp only [List.mem_cons, List.not_mem_nil, or_false] at hd
                              rcases hd with rfl | rfl | rfl
                              · rfl
                              · exact (D15.xn : Nice _).sz
                              · rfl)
                          walk_at "gox_40"
                          exact ⟨s14.trans (s15.trans (s'.trans s17)), _, _, rfl⟩
                        · exact absurd (h (by omega)) (by rw [r4]; exact Bool.false_ne_true)
                      · refine ⟨x, wa, fa, F, 0 + (n : Int), wv, nv, xv, dw, dn, dx, rfl, by omega, by omega, hP15, D15.w, D15.wn.sh, D15.n, D15.nn.sh, D15.x, D15.xn.sh, fun h1 h2 => ?_, fun h _ h3 => ?_, fun h _ h3 => ?_, fun _ _ _ H' q2 s' e' => ?_⟩
                        · exact absurd (r1 (by omega)) (by rw [h2]; exact Bool.false_ne_true)
                        · exact absurd h3 (r2 (by omega))
                        · exact absurd (r3 (by omega)) (by rw [h3]; exact Bool.false_ne_true)
                        · have hnone : Nice .none := ⟨by decide, rfl, Nat.zero_le _⟩
                          walk_at "gox_40"
                          refine ⟨.ref q2, .ref q16, .tuple [.str _, .none, .bool false], rfl, .tup (.inl (.inl e')) (.cons (.str _) (.cons (dp_mono s' (.non : Dp K H15 .non .none)) (.cons (.bl _) .nil))), .tup (.inl (.inl (s' _ _ e16))) (.cons (.str _) (.cons (dp_mono s' (.non : Dp K H15 .non .none)) (.cons (.bl _) .nil))), ?_, ?_, fun H17 s17 => ?_⟩
                          · have hdp := (hnone : Nice _).dp
                            show max 0 (max (PyData.depth .none) (max 0 0)) + 1 < 8
                            omega
                          · exact tup_dsz (by show 3 ≤ 100000; decide) (dszAll_of fun d hd => by
                              simp only [List.mem_cons, List.not_mem_nil, or_false] at hd
                              rcases hd with rfl | rfl | rfl
                              · rfl
                              · exact (hnone : Nice _).sz
                              · rfl)
                          walk_at "gox_40"
                          exact ⟨s14.trans (s15.trans (s'.trans s17)), _, _, rfl⟩
                    · have hP14b := hP14.mono (same_new (o := .tup [.str "told", .non, .bl false]) nt0)
                      have e314 := same_sqT (s14.trans (same_new (o := .tup [.str "told", .non, .bl false]) nt0)) e313
                      have enl14 : SqL K (upd H14 t0 (.tup [.str "told", .non, .bl false])) nl ((F.fs.map (·.1)).map V.str) := .inl (.inl (same_new nt0 _ _ (s14 _ _ enl13)))
                      have hwv14 := dp_mono (s14.trans (same_new (o := .tup [.str "told", .non, .bl false]) nt0)) D3.w
                      have et0 : (upd H14 t0 (.tup [.str "told", .non, .bl false])) t0 = some (.tup [.str "told", .non, .bl false]) := upd_same
                      have sT0 := same_new (o := .tup [.str "told", .non, .bl false]) nt0
                      walk_at "gox_40"
                      by_cases n3 : (n : Int) < 3
                      · refine ite_t (decide_eq_true (by omega)) ?_
                        walk_at "gox_40"
                        refine ⟨F, wv, dw, wa, F.fs.length, by rw [lN]; rfl, hwv14, hP14b.w.sq, rfl, by omega, fun H' s' => ?_⟩
                        cases eB : wordsB F dw with
                        | false =>
                          walk_at "gox_40"
                          intro t nt
                          walk_at "gox_40"
                          exact J _ _ ⟨t, "words", wv, sT0.trans (s'.trans (same_new nt)), upd_same, .inl ⟨n3, eB, rfl, rfl⟩, rfl⟩
                        | true =>
                          walk_at "gox_40"
                          by_cases m2 : (n : Int) = 2
                          · refine ite_f (nd_f (by rw [Int.zero_add, m2])) ?_
                            walk_at "gox_40"
                            refine ite_f (decide_eq_false fun z => by have := V.int.inj z; omega) ?_
                            walk_at "gox_40"
                            exact J _ _ ⟨t0, "told", .non, sT0.trans s', s' _ _ et0, .inr (.inr (.inr ⟨fun _ => eB, fun h => absurd m2 h, fun h => by omega, rfl, rfl⟩)), rfl⟩
                          · refine ite_t (nd_t fun z => m2 (by have := V.int.inj z; omega)) ?_
                            walk_at "gox_40"
                            by_cases j0 : j1 = 0
                            · refine ite_t (decide_eq_true (by rw [j0])) ?_
                              walk_at "gox_40"
                              intro t nt
                              walk_at "gox_40"
                              exact J _ _ ⟨t, "field", nv, (sT0.trans s').trans (same_new nt), upd_same, .inr (.inl ⟨fun _ => eB, m2, cn.1 j0, rfl, rfl⟩), rfl⟩
                            · refine ite_f (decide_eq_false fun z => j0 (V.int.inj z)) ?_
                              walk_at "gox_40"
                              by_cases m3 : (n : Int) = 3
                              · refine ite_t (decide_eq_true (by rw [Int.zero_add, m3])) ?_
                                walk_at "gox_40"
                                by_cases k0 : k1 = 0
                                · refine ite_t (decide_eq_true (by rw [k0])) ?_
                                  walk_at "gox_40"
                                  intro t nt
                                  walk_at "gox_40"
                                  exact J _ _ ⟨t, "word", xv, (sT0.trans s').trans (same_new nt), upd_same, .inr (.inr (.inl ⟨fun _ => eB, m3, cn.2 j0, cx.1 k0, rfl, rfl⟩)), rfl⟩
                                · refine ite_f (decide_eq_false fun z => k0 (V.int.inj z)) ?_
                                  walk_at "gox_40"
                                  exact J _ _ ⟨t0, "told", .non, sT0.trans s', s' _ _ et0, .inr (.inr (.inr ⟨fun _ => eB, fun _ => cn.2 j0, fun _ => cx.2 k0, rfl, rfl⟩)), rfl⟩
                              · refine ite_f (decide_eq_false fun z => m3 (by have := V.int.inj z; omega)) ?_
                                walk_at "gox_40"
                                exact J _ _ ⟨t0, "told", .non, sT0.trans s', s' _ _ et0, .inr (.inr (.inr ⟨fun _ => eB, fun _ => cn.2 j0, fun h => absurd h m3, rfl, rfl⟩)), rfl⟩
                      · refine ite_f (decide_eq_false (by omega)) ?_
                        walk_at "gox_40"
                        by_cases m2 : (n : Int) = 2
                        · refine ite_f (nd_f (by rw [Int.zero_add, m2])) ?_
                          walk_at "gox_40"
                          refine ite_f (decide_eq_false fun z => by have := V.int.inj z; omega) ?_
                          walk_at "gox_40"
                          exact J _ _ ⟨t0, "told", .non, sT0, et0, .inr (.inr (.inr ⟨fun h => absurd h n3, fun h => absurd m2 h, fun h => by omega, rfl, rfl⟩)), rfl⟩
                        · refine ite_t (nd_t fun z => m2 (by have := V.int.inj z; omega)) ?_
                          walk_at "gox_40"
                          by_cases j0 : j1 = 0
                          · refine ite_t (decide_eq_true (by rw [j0])) ?_
                            walk_at "gox_40"
                            intro t nt
                            walk_at "gox_40"
                            exact J _ _ ⟨t, "field", nv, (sT0).trans (same_new nt), upd_same, .inr (.inl ⟨fun h => absurd h n3, m2, cn.1 j0, rfl, rfl⟩), rfl⟩
                          · refine ite_f (decide_eq_false fun z => j0 (V.int.inj z)) ?_
                            walk_at "gox_40"
                            by_cases m3 : (n : Int) = 3
                            · refine ite_t (decide_eq_true (by rw [Int.zero_add, m3])) ?_
                              walk_at "gox_40"
                              by_cases k0 : k1 = 0
                              · refine ite_t (decide_eq_true (by rw [k0])) ?_
                                walk_at "gox_40"
                                intro t nt
                                walk_at "gox_40"
                                exact J _ _ ⟨t, "word", xv, (sT0).trans (same_new nt), upd_same, .inr (.inr (.inl ⟨fun h => absurd h n3, m3, cn.2 j0, cx.1 k0, rfl, rfl⟩)), rfl⟩
                              · refine ite_f (decide_eq_false fun z => k0 (V.int.inj z)) ?_
                                walk_at "gox_40"
                                exact J _ _ ⟨t0, "told", .non, sT0, et0, .inr (.inr (.inr ⟨fun h => absurd h n3, fun _ => cn.2 j0, fun _ => cx.2 k0, rfl, rfl⟩)), rfl⟩
                            · refine ite_f (decide_eq_false fun z => m3 (by have := V.int.inj z; omega)) ?_
                              walk_at "gox_40"
                              exact J _ _ ⟨t0, "told", .non, sT0, et0, .inr (.inr (.inr ⟨fun h => absurd h n3, fun _ => cn.2 j0, fun h => absurd h m3, rfl, rfl⟩)), rfl⟩
                  · rintro σ H14 ⟨s14, v14, v16, rfl⟩
                    walk_at "gox_40"
                    exact ⟨fun y o e => s14 y o (s513 y o e), hB13.mono s14, _, _, _, _, _, _, _, _, _, rfl⟩
                · walk_at "gox_40"
                  by_cases k0 : k1 = 0
                  · refine ite_t (decide_eq_true (by rw [k0])) ?_
                    have hwk : nameB F.ws[k10] = true := ok.wk _ (List.getElem_mem hk10)
                    obtain ⟨lg1, lg2⟩ := long_name hwk
                    have hl8 := nameB_len hwk
                    walk_at "gox_40"
                    refine ⟨F.ws[k10], _, rfl, rfl, Nat.le_of_lt (small63 (by show F.ws[k10].length + 8 ≤ 63; omega)), ?_⟩
                    walk_at "gox_40"
                    intro l1 nl1
                    walk_at "gox_40"
                    intro L nL
                    have sL := (same_new (o := .lst [.str F.ws[k10]]) nl1).trans (same_new (o := .lst [.str (F.ws[k10] ++ PySem.Str.ofString "aaaaaaaa"), .str (PySem.Str.ofString ""), .non, .int 0, .ref l1, .bl true]) nL)
                    have hBm := hB12.mono sL
                    have eL : (upd (upd H12 l1 (.lst [.str F.ws[k10]])) L (.lst [.str (F.ws[k10] ++ PySem.Str.ofString "aaaaaaaa"), .str (PySem.Str.ofString ""), .non, .int 0, .ref l1, .bl true])) L = some (.lst [.str (F.ws[k10] ++ PySem.Str.ofString "aaaaaaaa"), .str (PySem.Str.ofString ""), .non, .int 0, .ref l1, .bl true]) := upd_same
                    have el1 : (upd (upd H12 l1 (.lst [.str F.ws[k10]])) L (.lst [.str (F.ws[k10] ++ PySem.Str.ofString "aaaaaaaa"), .str (PySem.Str.ofString ""), .non, .int 0, .ref l1, .bl true])) l1 = some (.lst [.str F.ws[k10]]) := same_new nL _ _ upd_same
                    have l1b : l1 ≠ b := (hB12.nb nl1).symm
                    have Lb : L ≠ b := ((hB12.mono (same_new (o := .lst [.str F.ws[k10]]) nl1)).nb nL).symm
                    generalize upd (upd H12 l1 _) L _ = Hm at sL hBm eL el1 ⊢
                    walk_at "gox_40"
                    refine ⟨b, c, 6, rfl, by decide, by decide, hBm, fun r Hd r0 r1 xd hBd => ?_⟩
                    obtain ⟨kk, rfl⟩ : ∃ k : Nat, r = (k : Int) := ⟨r.toNat, by omega⟩
                    have hkk : kk < 6 := by omega
                    have sd : Same (hid Hm b) Hd := hid_but hid_same xd
                    have sall : Same (hid H12 b) Hd := hid_hid (hid_up sL) sd
                    have eLd := (xd L Lb).trans eL
                    have el1d : (hid Hd b) l1 = some (.lst [.str F.ws[k10]]) := hid_some ((xd l1 l1b).trans el1) l1b
                    obtain ⟨v, dx, ev, hv1, hv2, hv3⟩ : ∃ v dx, ([.str (F.ws[k10] ++ PySem.Str.ofString "aaaaaaaa"), .str (PySem.Str.ofString ""), .non, .int 0, .ref l1, .bl true] : List V)[kk]? = some v ∧ Dp K (hid Hd b) v dx ∧ Nice dx ∧ wordB F dx = false := by
                      match kk, hkk with
                      | 0, _ => exact ⟨_, _, rfl, .str _, nice_itm (itm_str lg2), no_word ok lg1⟩
                      | 1, _ => exact ⟨_, _, rfl, .str _, nice_itm (itm_str empty_ok), no_word ok empty_no⟩
                      | 2, _ => exact ⟨_, _, rfl, .non, nice_itm ⟨rfl, rfl, Nat.zero_le _⟩, wordB_no (fun z h => by cases h)⟩
                      | 3, _ => exact ⟨_, _, rfl, .int _, nice_itm (itm_int 0), wordB_no (fun z h => by cases h)⟩
                      | 4, _ => exact ⟨_, .list [.str F.ws[k10]], rfl, .lst (.inl (.inl el1d)) (.cons (.str _) .nil), nice_itm (itm_lst1 (name_ok hwk)), wordB_no (fun z h => by cases h)⟩
                      | 5, _ => exact ⟨_, _, rfl, .bl true, nice_itm ⟨rfl, rfl, Nat.zero_le _⟩, wordB_no (fun z h => by cases h)⟩
                    refine r_ixa (.inl (.inl (.inl eLd))) (atI_nat ev) ?_
                    walk_at "gox_40"
                    exact J _ _ ⟨v, dx, dp_mono (hid_hh sall) hwv2, dp_mono (hid_hh sall) hnv, hv1, hv2, ⟨fun _ => hv3, fun h => absurd k0 h⟩, hid_hid s12 sall, hBd, rfl⟩
                  · refine ite_f (decide_eq_false fun z => k0 (V.int.inj z)) ?_
                    walk_at "gox_40"
                    exact J _ _ ⟨.str F.ws[k10], .str F.ws[k10], hwv2, hnv, .str _, nice_itm (itm_str (name_ok (ok.wk _ (List.getElem_mem hk10)))), ⟨fun h => absurd h k0, fun _ => wordB_of (List.getElem_mem hk10)⟩, s12, hB12, rfl⟩
              · walk_at "gox_40"
                by_cases j0 : j1 = 0
                · refine ite_t (decide_eq_true (by rw [j0])) ?_
                  have hwk : nameB F.fs[k9].1 = true := ok.fk _ (List.mem_map.mpr ⟨_, List.getElem_mem hk9, rfl⟩)
                  obtain ⟨lg1, lg2⟩ := long_name hwk
                  have hl8 := nameB_len hwk
                  walk_at "gox_40"
                  refine ⟨F.fs[k9].1, _, rfl, rfl, Nat.le_of_lt (small63 (by show F.fs[k9].1.length + 8 ≤ 63; omega)), ?_⟩
                  walk_at "gox_40"
                  intro l1 nl1
                  walk_at "gox_40"
                  intro u1 nu1
                  walk_at "gox_40"
                  intro L nL
                  have sA := same_new (o := .lst [.str F.fs[k9].1]) nl1
                  have sL := sA.trans ((same_new (o := .tup [.str F.fs[k9].1]) nu1).trans (same_new (o := .lst [.str (F.fs[k9].1 ++ PySem.Str.ofString "aaaaaaaa"), .str (PySem.Str.ofString ""), .non, .int 0, .ref l1, .ref u1, .bl true]) nL))
                  have hBm := hB11.mono sL
                  have eL : (upd (upd (upd H11 l1 (.lst [.str F.fs[k9].1])) u1 (.tup [.str F.fs[k9].1])) L (.lst [.str (F.fs[k9].1 ++ PySem.Str.ofString "aaaaaaaa"), .str (PySem.Str.ofString ""), .non, .int 0, .ref l1, .ref u1, .bl true])) L = some (.lst [.str (F.fs[k9].1 ++ PySem.Str.ofString "aaaaaaaa"), .str (PySem.Str.ofString ""), .non, .int 0, .ref l1, .ref u1, .bl true]) := upd_same
                  have el1 : (upd (upd (upd H11 l1 (.lst [.str F.fs[k9].1])) u1 (.tup [.str F.fs[k9].1])) L (.lst [.str (F.fs[k9].1 ++ PySem.Str.ofString "aaaaaaaa"), .str (PySem.Str.ofString ""), .non, .int 0, .ref l1, .ref u1, .bl true])) l1 = some (.lst [.str F.fs[k9].1]) := same_new nL _ _ (same_new nu1 _ _ upd_same)
                  have eu1 : (upd (upd (upd H11 l1 (.lst [.str F.fs[k9].1])) u1 (.tup [.str F.fs[k9].1])) L (.lst [.str (F.fs[k9].1 ++ PySem.Str.ofString "aaaaaaaa"), .str (PySem.Str.ofString ""), .non, .int 0, .ref l1, .ref u1, .bl true])) u1 = some (.tup [.str F.fs[k9].1]) := same_new nL _ _ upd_same
                  have l1b : l1 ≠ b := (hB11.nb nl1).symm
                  have u1b : u1 ≠ b := ((hB11.mono sA).nb nu1).symm
                  have Lb : L ≠ b := ((hB11.mono (sA.trans (same_new (o := .tup [.str F.fs[k9].1]) nu1))).nb nL).symm
                  generalize upd (upd (upd H11 l1 _) u1 _) L _ = Hm at sL hBm eL el1 eu1 ⊢
                  walk_at "gox_40"
                  refine ⟨b, c, 7, rfl, by decide, by decide, hBm, fun r Hd r0 r1 xd hBd => ?_⟩
                  obtain ⟨kk, rfl⟩ : ∃ k : Nat, r = (k : Int) := ⟨r.toNat, by omega⟩
                  have hkk : kk < 7 := by omega
                  have sd : Same (hid Hm b) Hd := hid_but hid_same xd
                  have sall : Same (hid H11 b) Hd := hid_hid (hid_up sL) sd
                  have eLd := (xd L Lb).trans eL
                  have el1d : (hid Hd b) l1 = some (.lst [.str F.fs[k9].1]) := hid_some ((xd l1 l1b).trans el1) l1b
                  have eu1d : (hid Hd b) u1 = some (.tup [.str F.fs[k9].1]) := hid_some ((xd u1 u1b).trans eu1) u1b
                  have itm1 : ∀ d ∈ [PyData.str F.fs[k9].1], Itm d := fun d hd => by rw [List.mem_singleton.mp hd]; exact itm_str (name_ok hwk)
                  obtain ⟨v, dx, ev, hv1, hv2, hv3⟩ : ∃ v dx, ([.str (F.fs[k9].1 ++ PySem.Str.ofString "aaaaaaaa"), .str (PySem.Str.ofString ""), .non, .int 0, .ref l1, .ref u1, .bl true] : List V)[kk]? = some v ∧ Dp K (hid Hd b) v dx ∧ Nice dx ∧ NoName F v := by
                    match kk, hkk with
                    | 0, _ => exact ⟨_, _, rfl, .str _, nice_itm (itm_str lg2), no_name ok lg1⟩
                    | 1, _ => exact ⟨_, _, rfl, .str _, nice_itm (itm_str empty_ok), no_name ok empty_no⟩
                    | 2, _ => exact ⟨_, _, rfl, .non, nice_itm ⟨rfl, rfl, Nat.zero_le _⟩, no_str (fun z h => by cases h)⟩
                    | 3, _ => exact ⟨_, _, rfl, .int _, nice_itm (itm_int 0), no_str (fun z h => by cases h)⟩
                    | 4, _ => exact ⟨_, .list [.str F.fs[k9].1], rfl, .lst (.inl (.inl el1d)) (.cons (.str _) .nil), nice_lst itm1 (by show 1 ≤ 100; decide), no_str (fun z h => by cases h)⟩
                    | 5, _ => exact ⟨_, .tuple [.str F.fs[k9].1], rfl, .tup (.inl (.inl eu1d)) (.cons (.str _) .nil), nice_tup itm1 (by show 1 ≤ 100; decide), no_str (fun z h => by cases h)⟩
                    | 6, _ => exact ⟨_, _, rfl, .bl true, nice_itm ⟨rfl, rfl, Nat.zero_le _⟩, no_str (fun z h => by cases h)⟩
                  refine r_ixa (.inl (.inl (.inl eLd))) (atI_nat ev) ?_
                  walk_at "gox_40"
                  exact J _ _ ⟨v, dx, dp_mono (hid_hh sall) hwv, hv1, hv2, ⟨fun _ => hv3, fun h => absurd j0 h⟩, hid_hid s11 sall, hBd, rfl⟩
                · refine ite_f (decide_eq_false fun z => j0 (V.int.inj z)) ?_
                  walk_at "gox_40"
                  exact J _ _ ⟨.str F.fs[k9].1, .str F.fs[k9].1, hwv, .str _, nice_itm (itm_str (name_ok (ok.fk _ (List.mem_map.mpr ⟨_, List.getElem_mem hk9, rfl⟩)))), ⟨fun h => absurd h j0, fun _ h => h _ rfl (List.mem_map.mpr ⟨_, List.getElem_mem hk9, rfl⟩)⟩, s11, hB11, rfl⟩
            · have hrl1 : 1 ≤ (row.map V.str).length := by rw [List.length_map]; omega
              have hrl3 : (row.map V.str).length ≤ 3 := by rw [List.length_map]; omega
              have hdl : ((row.map V.str).drop 1).length ≤ 3 := by rw [List.length_drop]; omega
              have hrok : ∀ z ∈ row, PyData.strOk z = true := fun z hz => name_ok (ok.wk _ (hrw z hz))
              have hwk : PyData.strOk F.ws[k10] = true := name_ok (ok.wk _ (List.getElem_mem hk10))
              have hdr : (row.map V.str).drop 1 = (row.drop 1).map V.str := by rw [List.map_drop]
              have hrd : ∀ z ∈ row.drop 1, PyData.strOk z = true := fun z hz => hrok z (List.mem_of_mem_drop hz)
              have s63 : ∀ n, n ≤ 63 → n ≤ sizeLine := fun n h => Nat.le_of_lt (small63 h)
              walk_at "gox_40"
              by_cases i0 : i1 = 0
              · refine ite_t (decide_eq_true (by rw [i0])) ?_
                walk_at "gox_40"
                refine ⟨tw, _, rfl, .inr htw10, fun l1 nl1 => ?_⟩
                have z1 := same_new (o := .lst (row.map V.str)) nl1
                have e1 : (upd H10 l1 (.lst (row.map V.str))) l1 = some (.lst (row.map V.str)) := upd_same
                have l1b : l1 ≠ b := (hB10.nb nl1).symm
                generalize upd H10 l1 _ = G1 at z1 e1 ⊢
                have w1 := same_sqT z1 htw10
                walk_at "gox_40"
                intro t1 nt1
                refine r_catU (xs := row.map V.str) (ys := [.str F.ws[k10]]) (same_sqT (same_new nt1) w1) (.inl (.inl upd_same)) (s63 _ (by show _ + 1 ≤ 63; omega)) (fun p1 G2 s2 hp1 => ?_)
                have x2 := (same_new nt1).trans s2
                have z2 := z1.trans x2
                have w2' := same_sqT z2 htw10
                walk_at "gox_40"
                refine r_slfrom (k := 1) w2' (by decide) hrl1 (fun p2 np2 => ?_)
                have x3 := same_new (o := .tup ((row.map V.str).drop 1)) np2
                have ep2 : (upd G2 p2 (.tup ((row.map V.str).drop 1))) p2 = some (.tup ((row.map V.str).drop 1)) := upd_same
                generalize upd G2 p2 _ = G3 at x3 ep2 ⊢
                have z3 := z2.trans x3
                have w3' := same_sqT z3 htw10
                walk_at "gox_40"
                refine r_slfrom (k := 1) w3' (by decide) hrl1 (fun p3 np3 => ?_)
                walk_at "gox_40"
                intro t3 nt3
                refine r_catU (xs := (row.map V.str).drop 1) (ys := [.int 0]) (.inl (.inl (lk_ne (ne_of_none upd_same nt3) upd_same))) (.inl (.inl upd_same)) (s63 _ (by show _ + 1 ≤ 63; omega)) (fun p4 G4 s4' hp4 => ?_)
                have x4 := (same_new np3).trans ((same_new nt3).trans s4')
                have z4 := z3.trans x4
                walk_at "gox_40"
                intro L nL
                have x5 := same_new (o := .lst [.ref l1, .ref p1, .ref p2, .non, .str (PySem.Str.ofString "words"), .ref p4]) nL
                have eL : (upd G4 L (.lst [.ref l1, .ref p1, .ref p2, .non, .str (PySem.Str.ofString "words"), .ref p4])) L = some (.lst [.ref l1, .ref p1, .ref p2, .non, .str (PySem.Str.ofString "words"), .ref p4]) := upd_same
                have Lb : L ≠ b := ((hB10.mono z4).nb nL).symm
                have l1L : l1 ≠ L := ne_of_none (x4 _ _ (x3 _ _ (x2 _ _ e1))) nL
                generalize upd G4 L _ = G5 at x5 eL ⊢
                have z5 := z4.trans x5
                have w5 := same_sqT z5 htw10
                walk_at "gox_40"
                refine r_slfrom (k := 1) w5 (by decide) hrl1 (fun p5 np5 => ?_)
                walk_at "gox_40"
                intro t5 nt5
                refine r_catU (xs := (row.map V.str).drop 1) (ys := [.str (PySem.Str.ofString "")]) (.inl (.inl (lk_ne (ne_of_none upd_same nt5) upd_same))) (.inl (.inl upd_same)) (s63 _ (by show _ + 1 ≤ 63; omega)) (fun p6 G6 s6' hp6 => ?_)
                have x6 := (same_new np5).trans ((same_new nt5).trans s6')
                have eL6 := x6 _ _ eL
                walk_at "gox_40"
                intro l2 nl2
                have Ll2 : L ≠ l2 := ne_of_none eL6 nl2
                have l2b : l2 ≠ b := ((hB10.mono (z5.trans x6)).nb nl2).symm
                walk_at "gox_40"
                intro u2 nu2
                have x7 := (same_new (o := .lst [.str F.ws[k10]]) nl2).trans (same_new (o := .tup [.ref l2]) nu2)
                have el2 : (upd (upd G6 l2 (.lst [.str F.ws[k10]])) u2 (.tup [.ref l2])) l2 = some (.lst [.str F.ws[k10]]) := same_new nu2 _ _ upd_same
                have eu2 : (upd (upd G6 l2 (.lst [.str F.ws[k10]])) u2 (.tup [.ref l2])) u2 = some (.tup [.ref l2]) := upd_same
                generalize upd (upd G6 l2 _) u2 _ = G7 at x7 el2 eu2 ⊢
                have w7 := same_sqT ((z5.trans x6).trans x7) htw10
                walk_at "gox_40"
                refine r_mulT (v := .ref l2) (k := (row.map V.str).length) (.inl (.inl eu2)) hrl1 (by omega) (fun p7 G8 s8' hp7 => ?_)
                walk_at "gox_40"
                intro L2 nL2
                have x9 := s8'.trans (same_new (o := .lst [.ref p6, .ref p7]) nL2)
                have eL9 := x9 _ _ (x7 _ _ eL6)
                have eL2 : (upd G8 L2 (.lst [.ref p6, .ref p7])) L2 = some (.lst [.ref p6, .ref p7]) := upd_same
                have el29 := x9 _ _ el2
                have hp79 := same_sqT (same_new (o := .lst [.ref p6, .ref p7]) nL2) hp7
                generalize upd G8 L2 _ = G9 at x9 eL9 eL2 el29 hp79 ⊢
                have z9 := ((z5.trans x6).trans x7).trans x9
                walk_at "gox_40"
                have sU : SmT K G9 (upd G9 L (.lst [.ref l1, .ref p1, .ref p2, .non, .str (PySem.Str.ofString "words"), .ref p4, .ref p6, .ref p7])) := smT_upd eL9
                have eLm : (upd G9 L (.lst ([.ref l1, .ref p1, .ref p2, .non, .str (PySem.Str.ofString "words"), .ref p4] ++ [.ref p6, .ref p7]))) L = some (.lst [.ref l1, .ref p1, .ref p2, .non, .str (PySem.Str.ofString "words"), .ref p4, .ref p6, .ref p7]) := upd_same
                have el1m : (upd G9 L (.lst ([.ref l1, .ref p1, .ref p2, .non, .str (PySem.Str.ofString "words"), .ref p4] ++ [.ref p6, .ref p7]))) l1 = some (.lst (row.map V.str)) := (upd_ne l1L).trans (x9 _ _ (x7 _ _ (x6 _ _ (x5 _ _ (x4 _ _ (x3 _ _ (x2 _ _ e1)))))))
                have el2m : (upd G9 L (.lst ([.ref l1, .ref p1, .ref p2, .non, .str (PySem.Str.ofString "words"), .ref p4] ++ [.ref p6, .ref p7]))) l2 = some (.lst [.str F.ws[k10]]) := (upd_ne Ll2.symm).trans el29
                have up : ∀ {G : Hp} {a : Addr} {xs : List V}, Same G G9 → SqT K G a xs → SqT K (upd G9 L (.lst ([.ref l1, .ref p1, .ref p2, .non, .str (PySem.Str.ofString "words"), .ref p4] ++ [.ref p6, .ref p7]))) a xs := fun s h => smT_upd eL9 _ _ (same_sqT s h)
                have m1 := up (x3.trans (x4.trans (x5.trans (x6.trans (x7.trans x9))))) hp1
                have m2 := up (x4.trans (x5.trans (x6.trans (x7.trans x9)))) (.inl (.inl ep2))
                have m4 := up (x5.trans (x6.trans (x7.trans x9))) hp4
                have m6 := up (x7.trans x9) hp6
                have m7 := up (Same.refl _) hp79
                have mtw := up z9 htw10
                have hBm : BoxAt (upd G9 L (.lst ([.ref l1, .ref p1, .ref p2, .non, .str (PySem.Str.ofString "words"), .ref p4] ++ [.ref p6, .ref p7]))) b c := (hB10.mono z9).put (hB10.mono z4) nL
                have sM : Same (hid H10 b) (upd G9 L (.lst ([.ref l1, .ref p1, .ref p2, .non, .str (PySem.Str.ofString "words"), .ref p4] ++ [.ref p6, .ref p7]))) := hid_put (hid_up z9) (z4.free nL)
                generalize upd G9 L _ = Gm at eLm el1m el2m m1 m2 m4 m6 m7 hBm sM ⊢
                walk_at "gox_40"
                refine ⟨b, c, 8, rfl, by decide, by decide, hBm, fun r Hd r0 r1 xd hBd => ?_⟩
                obtain ⟨kk, rfl⟩ : ∃ k : Nat, r = (k : Int) := ⟨r.toNat, by omega⟩
                have hkk : kk < 8 := by omega
                have sd : Same (hid Gm b) Hd := hid_but hid_same xd
                have eLd := (xd L Lb).trans eLm
                obtain ⟨bl, ebl⟩ := hBd.lst
                have dn : ∀ {a : Addr} {xs : List V}, SqT K Gm a xs → SqT K (hid Hd b) a xs := fun h => hid_seqT ebl (hBm.smT sd _ _ h)
                have el1d : (hid Hd b) l1 = some (.lst (row.map V.str)) := hid_some ((xd l1 l1b).trans el1m) l1b
                have el2d : (hid Hd b) l2 = some (.lst [.str F.ws[k10]]) := hid_some ((xd l2 l2b).trans el2m) l2b
                rw [hdr] at m2 m4 m6
                have hlen : (row.drop 1).length ≤ 3 := by rw [List.length_drop]; omega
                obtain ⟨v, dx, ev, hv1, hv2⟩ : ∃ v dx, ([.ref l1, .ref p1, .ref p2, .non, .str (PySem.Str.ofString "words"), .ref p4, .ref p6, .ref p7] : List V)[kk]? = some v ∧ Dp K (hid Hd b) v dx ∧ Nice dx := by
                  match kk, hkk with
                  | 0, _ => exact ⟨_, .list (row.map PyData.str), rfl, .lst (.inl (.inl el1d)) (strs_dp row), nice_lst (itm_strs hrok) (by rw [List.length_map]; omega)⟩
                  | 1, _ => exact ⟨_, .tuple (row.map PyData.str ++ [.str F.ws[k10]]), rfl, .tup (dn m1) (dpAll_app (.str _) (strs_dp row)), nice_tup (itm_app (itm_strs hrok) (itm_str hwk)) (by rw [List.length_append, List.length_map]; show _ + 1 ≤ 100; omega)⟩
                  | 2, _ => exact ⟨_, .tuple ((row.drop 1).map PyData.str), rfl, .tup (dn m2) (strs_dp _), nice_tup (itm_strs hrd) (by rw [List.length_map]; omega)⟩
                  | 3, _ => exact ⟨_, _, rfl, .non, nice_itm ⟨rfl, rfl, Nat.zero_le _⟩⟩
                  | 4, _ => exact ⟨_, _, rfl, .str _, nice_itm (itm_str (by decide +kernel))⟩
                  | 5, _ => exact ⟨_, .tuple ((row.drop 1).map PyData.str ++ [.int 0]), rfl, .tup (dn m4) (dpAll_app (.int _) (strs_dp _)), nice_tup (itm_app (itm_strs hrd) (itm_int 0)) (by rw [List.length_append, List.length_map]; show _ + 1 ≤ 100; omega)⟩
                  | 6, _ => exact ⟨_, .tuple ((row.drop 1).map PyData.str ++ [.str (PySem.Str.ofString "")]), rfl, .tup (dn m6) (dpAll_app (.str _) (strs_dp _)), nice_tup (itm_app (itm_strs hrd) (itm_str empty_ok)) (by rw [List.length_append, List.length_map]; show _ + 1 ≤ 100; omega)⟩
                  | 7, _ => exact ⟨_, .tuple (List.replicate (row.map V.str).length (.list [.str F.ws[k10]])), rfl, .tup (dn m7) (dpAll_rep (.lst (.inl (.inl el2d)) (.cons (.str _) .nil)) _), nice_tup (fun d hd => by rw [(List.mem_replicate.mp hd).2]; exact itm_lst1 hwk) (by rw [List.length_replicate]; omega)⟩
                refine r_ixa (.inl (.inl (.inl eLd))) (atI_nat ev) ?_
                walk_at "gox_40"
                exact J _ _ ⟨v, dx, _, hv1, hv2, hid_hid sM sd, hBd, rfl⟩
              · refine ite_f (decide_eq_false fun z => i0 (V.int.inj z)) ?_
                walk_at "gox_40"
                obtain ⟨bl, ebl⟩ := hB10.lst
                exact J _ _ ⟨.ref tw, .tuple (row.map PyData.str), _, .tup (hid_seqT ebl htw10) (strs_dp row), nice_tup (itm_strs hrok) (by rw [List.length_map]; omega), hid_same, hB10, rfl⟩
        · rintro σ H6 ⟨s6, hB6, v8, v9, v10, v11, v12, v13, v14, v15, v16, rfl⟩
          walk_at "gox_40"
          exact q _
end
end Wn


namespace Wn
open PySem PySem.Spec PyProof.Rows L2
theorem xcls_mk {K : PySem.W.Frag} {C CS N : Addr} {nm q : Str} {bs sub : List Value} {sn : List Str} {ab : Bool} {col : Option Bool} {dd : Option Addr} {m0 m1 m2 m3 m5 : Option Value}
    (xL : K.lookup C = some (excClassObj nm q C N bs [.ref CS, .type "ValueError", .type "Exception", .type "BaseException", .type "object"] true sn sub ab col dd m0 m1 m2 m3 m5 "ValueError.__new__"))
    (sa : PySem.W.findIn K (.ref C) "__setattr__" = some (some (.builtin "object.__setattr__"))) (ex : PySem.W.subIn K (.ref C) (.type "BaseException") = some true) (ty : PySem.W.typeIn K (.ref C) = some (.type "type")) (kC : PySem.W.keepIn K (.ref C) = true)
    (ga : PySem.W.findIn K (.ref C) "__getattribute__" = some (some (.builtin "BaseException.__getattribute__"))) (gg : PySem.W.findIn K (.ref C) "__getattr__" = some none) (hd : PySem.W.hasDictIn K C = true)
    (ha : PySem.W.findIn K (.ref C) "__class__" = some (some (.builtin "object.__class__"))) (hn : PySem.W.specialIn K (.builtin "object.__class__") "__get__" = some (some (.builtin "getset_descriptor.__get__")))
    (ht : PySem.W.takesIn K (.builtin "object.__class__") = some true) (hm : PySem.W.mroIn K C (.type "object") = some true) : XCls K C :=
  ⟨⟨⟨nm, q, N, bs, _, sn, sub, ab, col, dd, m0, m1, m2, m3, m5, xL, rfl⟩, sa, ex, ty, kC⟩, ⟨ga, gg, ex, hd, ha, hn, ht, hm⟩⟩
theorem all_mk {l : PySem.W.OpenLaw} {w : World} {K : PySem.W.Frag} {h : Heap} {mg : Str → Option Value} {fa : Addr} {C KD f0 f1 f2 f3 f4 f5 f6 f7 f8 f9 f10 f11 f12 f13 f14 f15 f16 f17 f18 f19 f20 f21 f22 f23 f24 f25 f26 f27 g0 g1 g2 : Addr} {kt : Tok} {CS eC0 eN0 eg0 eC1 eN1 eg1 eC2 eN2 eg2 : Addr} {egd0 egn0 egd1 egn1 egd2 egn2 : Option Addr} {egs0 egs1 egs2 : Array (Option Value)} {ego0 egk0 egc0 egp0 ege0 egt0 ego1 egk1 egc1 egp1 ege1 egt1 ego2 egk2 egc2 egp2 ege2 egt2 : Value}
    {enm0 eq0 : Str} {ebs0 esub0 : List Value} {esn0 : List Str} {eab0 : Bool} {ecol0 : Option Bool} {edd0 : Option Addr} {em00 em10 em20 em30 em50 : Option Value} {enm1 eq1 : Str} {ebs1 esub1 : List Value} {esn1 : List Str} {eab1 : Bool} {ecol1 : Option Bool} {edd1 : Option Addr} {em01 em11 em21 em31 em51 : Option Value} {enm2 eq2 : Str} {ebs2 esub2 : List Value} {esn2 : List Str} {eab2 : Bool} {ecol2 : Option Bool} {edd2 : Option Addr} {em02 em12 em22 em32 em52 : Option Value} 
    {od0 an0 od1 an1 od2 an2 od3 an3 od4 an4 od5 an5 od6 an6 od7 an7 od8 an8 od9 an9 od10 an10 od11 an11 od12 an12 od13 an13 od14 an14 od15 an15 od16 an16 od17 an17 od18 an18 od19 an19 od20 an20 od21 an21 od22 an22 od23 an23 od24 an24 od25 an25 od26 an26 od27 an27 gd0 gn0 gd1 gn1 gd2 gn2 : Option Addr} {sl0 sl1 sl2 sl3 sl4 sl5 sl6 sl7 sl8 sl9 sl10 sl11 sl12 sl13 sl14 sl15 sl16 sl17 sl18 sl19 sl20 sl21 sl22 sl23 sl24 sl25 sl26 sl27 gs0 gs1 gs2 : Array (Option Value)} {oc0 kV0 dc0 pm0 cd0 ct0 oc1 kV1 dc1 pm1 cd1 ct1 oc2 kV2 dc2 pm2 cd2 ct2 oc3 kV3 dc3 pm3 cd3 ct3 oc4 kV4 dc4 pm4 cd4 ct4 oc5 kV5 dc5 pm5 cd5 ct5 oc6 kV6 dc6 pm6 cd6 ct6 oc7 kV7 dc7 pm7 cd7 ct7 oc8 kV8 dc8 pm8 cd8 ct8 oc9 kV9 dc9 pm9 cd9 ct9 oc10 kV10 dc10 pm10 cd10 ct10 oc11 kV11 dc11 pm11 cd11 ct11 oc12 kV12 dc12 pm12 cd12 ct12 oc13 kV13 dc13 pm13 cd13 ct13 oc14 kV14 dc14 pm14 cd14 ct14 oc15 kV15 dc15 pm15 cd15 ct15 oc16 kV16 dc16 pm16 cd16 ct16 oc17 kV17 dc17 pm17 cd17 ct17 oc18 kV18 dc18 pm18 cd18 ct18 oc19 kV19 dc19 pm19 cd19 ct19 oc20 kV20 dc20 pm20 cd20 ct20 oc21 kV21 dc21 pm21 cd21 ct21 oc22 kV22 dc22 pm22 cd22 ct22 oc23 kV23 dc23 pm23 cd23 ct23 oc24 kV24 dc24 pm24 cd24 ct24 oc25 kV25 dc25 pm25 cd25 ct25 oc26 kV26 dc26 pm26 cd26 ct26 oc27 kV27 dc27 pm27 cd27 ct27 go0 gc0 gp0 ge0 gt0 go1 gk1 gc1 gp1 ge1 gt1 go2 gk2 gc2 gp2 ge2 gt2 : Value}
    (X : K.In h) (G : h.Ns mainGlobals mg) (hfa : mg "law" = some (.ref fa))
    (a0 : PySem.W.nsIn K mainGlobals "is_name" = some (some (.ref f0)))
    (l0 : K.lookup f0 = some ⟨oc0, od0, .func (PySem.W.fnOf "is_name" "is_name" (defArgs s_is_name) (defBody s_is_name) (defScope s_is_name) .none kV0 dc0 pm0 an0 cd0 ct0), sl0⟩)
    (c0 : PySem.W.codeIn K cd0 "is_name" = true)
    (k0 : PySem.W.keepIn K (.ref f0) = true)
    (a1 : PySem.W.nsIn K mainGlobals "is_whole" = some (some (.ref f1)))
    (l1 : K.lookup f1 = some ⟨oc1, od1, .func (PySem.W.fnOf "is_whole" "is_whole" (defArgs s_is_whole) (defBody s_is_whole) (defScope s_is_whole) .none kV1 dc1 pm1 an1 cd1 ct1), sl1⟩)
    (c1 : PySem.W.codeIn K cd1 "is_whole" = true)
    (k1 : PySem.W.keepIn K (.ref f1) = true)
    (a2 : PySem.W.nsIn K mainGlobals "has_items" = some (some (.ref f2)))
    (l2 : K.lookup f2 = some ⟨oc2, od2, .func (PySem.W.fnOf "has_items" "has_items" (defArgs s_has_items) (defBody s_has_items) (defScope s_has_items) .none kV2 dc2 pm2 an2 cd2 ct2), sl2⟩)
    (c2 : PySem.W.codeIn K cd2 "has_items" = true)
    (k2 : PySem.W.keepIn K (.ref f2) = true)
    (a3 : PySem.W.nsIn K mainGlobals "are_names" = some (some (.ref f3)))
    (l3 : K.lookup f3 = some ⟨oc3, od3, .func (PySem.W.fnOf "are_names" "are_names" (defArgs s_are_names) (defBody s_are_names) (defScope s_are_names) .none kV3 dc3 pm3 an3 cd3 ct3), sl3⟩)
    (c3 : PySem.W.codeIn K cd3 "are_names" = true)
    (k3 : PySem.W.keepIn K (.ref f3) = true)
    (a4 : PySem.W.nsIn K mainGlobals "names_of" = some (some (.ref f4)))
    (l4 : K.lookup f4 = some ⟨oc4, od4, .func (PySem.W.fnOf "names_of" "names_of" (defArgs s_names_of) (defBody s_names_of) (defScope s_names_of) .none kV4 dc4 pm4 an4 cd4 ct4), sl4⟩)
    (c4 : PySem.W.codeIn K cd4 "names_of" = true)
    (k4 : PySem.W.keepIn K (.ref f4) = true)
    (a5 : PySem.W.nsIn K mainGlobals "check_parts" = some (some (.ref f5)))
    (l5 : K.lookup f5 = some ⟨oc5, od5, .func (PySem.W.fnOf "check_parts" "check_parts" (defArgs s_check_parts) (defBody s_check_parts) (defScope s_check_parts) .none kV5 dc5 pm5 an5 cd5 ct5), sl5⟩)
    (c5 : PySem.W.codeIn K cd5 "check_parts" = true)
    (k5 : PySem.W.keepIn K (.ref f5) = true)
    (a6 : PySem.W.nsIn K mainGlobals "are_form_words" = some (some (.ref f6)))
    (l6 : K.lookup f6 = some ⟨oc6, od6, .func (PySem.W.fnOf "are_form_words" "are_form_words" (defArgs s_are_form_words) (defBody s_are_form_words) (defScope s_are_form_words) .none kV6 dc6 pm6 an6 cd6 ct6), sl6⟩)
    (c6 : PySem.W.codeIn K cd6 "are_form_words" = true)
    (k6 : PySem.W.keepIn K (.ref f6) = true)
    (a7 : PySem.W.nsIn K mainGlobals "are_form_fields" = some (some (.ref f7)))
    (l7 : K.lookup f7 = some ⟨oc7, od7, .func (PySem.W.fnOf "are_form_fields" "are_form_fields" (defArgs s_are_form_fields) (defBody s_are_form_fields) (defScope s_are_form_fields) .none kV7 dc7 pm7 an7 cd7 ct7), sl7⟩)
    (c7 : PySem.W.codeIn K cd7 "are_form_fields" = true)
    (k7 : PySem.W.keepIn K (.ref f7) = true)
    (a8 : PySem.W.nsIn K mainGlobals "wrong_part" = some (some (.ref f8)))
    (l8 : K.lookup f8 = some ⟨oc8, od8, .func (PySem.W.fnOf "wrong_part" "wrong_part" (defArgs s_wrong_part) (defBody s_wrong_part) (defScope s_wrong_part) .none kV8 dc8 pm8 an8 cd8 ct8), sl8⟩)
    (c8 : PySem.W.codeIn K cd8 "wrong_part" = true)
    (k8 : PySem.W.keepIn K (.ref f8) = true)
    (a9 : PySem.W.nsIn K mainGlobals "is_near" = some (some (.ref f9)))
    (l9 : K.lookup f9 = some ⟨oc9, od9, .func (PySem.W.fnOf "is_near" "is_near" (defArgs s_is_near) (defBody s_is_near) (defScope s_is_near) .none kV9 dc9 pm9 an9 cd9 ct9), sl9⟩)
    (c9 : PySem.W.codeIn K cd9 "is_near" = true)
    (k9 : PySem.W.keepIn K (.ref f9) = true)
    (a10 : PySem.W.nsIn K mainGlobals "is_entry_row" = some (some (.ref f10)))
    (l10 : K.lookup f10 = some ⟨oc10, od10, .func (PySem.W.fnOf "is_entry_row" "is_entry_row" (defArgs s_is_entry_row) (defBody s_is_entry_row) (defScope s_is_entry_row) .none kV10 dc10 pm10 an10 cd10 ct10), sl10⟩)
    (c10 : PySem.W.codeIn K cd10 "is_entry_row" = true)
    (k10 : PySem.W.keepIn K (.ref f10) = true)
    (a11 : PySem.W.nsIn K mainGlobals "check_words" = some (some (.ref f11)))
    (l11 : K.lookup f11 = some ⟨oc11, od11, .func (PySem.W.fnOf "check_words" "check_words" (defArgs s_check_words) (defBody s_check_words) (defScope s_check_words) .none kV11 dc11 pm11 an11 cd11 ct11), sl11⟩)
    (c11 : PySem.W.codeIn K cd11 "check_words" = true)
    (k11 : PySem.W.keepIn K (.ref f11) = true)
    (a12 : PySem.W.nsIn K mainGlobals "word_index" = some (some (.ref f12)))
    (l12 : K.lookup f12 = some ⟨oc12, od12, .func (PySem.W.fnOf "word_index" "word_index" (defArgs s_word_index) (defBody s_word_index) (defScope s_word_index) .none kV12 dc12 pm12 an12 cd12 ct12), sl12⟩)
    (c12 : PySem.W.codeIn K cd12 "word_index" = true)
    (k12 : PySem.W.keepIn K (.ref f12) = true)
    (a13 : PySem.W.nsIn K mainGlobals "near_entry" = some (some (.ref f13)))
    (l13 : K.lookup f13 = some ⟨oc13, od13, .func (PySem.W.fnOf "near_entry" "near_entry" (defArgs s_near_entry) (defBody s_near_entry) (defScope s_near_entry) .none kV13 dc13 pm13 an13 cd13 ct13), sl13⟩)
    (c13 : PySem.W.codeIn K cd13 "near_entry" = true)
    (k13 : PySem.W.keepIn K (.ref f13) = true)
    (a14 : PySem.W.nsIn K mainGlobals "far_entry" = some (some (.ref f14)))
    (l14 : K.lookup f14 = some ⟨oc14, od14, .func (PySem.W.fnOf "far_entry" "far_entry" (defArgs s_far_entry) (defBody s_far_entry) (defScope s_far_entry) .none kV14 dc14 pm14 an14 cd14 ct14), sl14⟩)
    (c14 : PySem.W.codeIn K cd14 "far_entry" = true)
    (k14 : PySem.W.keepIn K (.ref f14) = true)
    (a15 : PySem.W.nsIn K mainGlobals "true_error" = some (some (.ref f15)))
    (l15 : K.lookup f15 = some ⟨oc15, od15, .func (PySem.W.fnOf "true_error" "true_error" (defArgs s_true_error) (defBody s_true_error) (defScope s_true_error) .none kV15 dc15 pm15 an15 cd15 ct15), sl15⟩)
    (c15 : PySem.W.codeIn K cd15 "true_error" = true)
    (k15 : PySem.W.keepIn K (.ref f15) = true)
    (a16 : PySem.W.nsIn K mainGlobals "true_errors" = some (some (.ref f16)))
    (l16 : K.lookup f16 = some ⟨oc16, od16, .func (PySem.W.fnOf "true_errors" "true_errors" (defArgs s_true_errors) (defBody s_true_errors) (defScope s_true_errors) .none kV16 dc16 pm16 an16 cd16 ct16), sl16⟩)
    (c16 : PySem.W.codeIn K cd16 "true_errors" = true)
    (k16 : PySem.W.keepIn K (.ref f16) = true)
    (a17 : PySem.W.nsIn K mainGlobals "_law_mix" = some (some (.ref f17)))
    (l17 : K.lookup f17 = some ⟨oc17, od17, .func (PySem.W.fnOf "_law_mix" "_law_mix" (defArgs sMix) (defBody sMix) (defScope sMix) .none kV17 dc17 pm17 an17 cd17 ct17), sl17⟩)
    (c17 : PySem.W.codeIn K cd17 "_law_mix" = true)
    (k17 : PySem.W.keepIn K (.ref f17) = true)
    (a18 : PySem.W.nsIn K mainGlobals "_law_box" = some (some (.ref f18)))
    (l18 : K.lookup f18 = some ⟨oc18, od18, .func (PySem.W.fnOf "_law_box" "_law_box" (defArgs sBox) (defBody sBox) (defScope sBox) .none kV18 dc18 pm18 an18 cd18 ct18), sl18⟩)
    (c18 : PySem.W.codeIn K cd18 "_law_box" = true)
    (k18 : PySem.W.keepIn K (.ref f18) = true)
    (a19 : PySem.W.nsIn K mainGlobals "_law_draw" = some (some (.ref f19)))
    (l19 : K.lookup f19 = some ⟨oc19, od19, .func (PySem.W.fnOf "_law_draw" "_law_draw" (defArgs sDraw) (defBody sDraw) (defScope sDraw) .none kV19 dc19 pm19 an19 cd19 ct19), sl19⟩)
    (c19 : PySem.W.codeIn K cd19 "_law_draw" = true)
    (k19 : PySem.W.keepIn K (.ref f19) = true)
    (a20 : PySem.W.nsIn K mainGlobals "_law_same" = some (some (.ref f20)))
    (l20 : K.lookup f20 = some ⟨oc20, od20, .func (PySem.W.fnOf "_law_same" "_law_same" (defArgs sSame) (defBody sSame) (defScope sSame) .none kV20 dc20 pm20 an20 cd20 ct20), sl20⟩)
    (c20 : PySem.W.codeIn K cd20 "_law_same" = true)
    (k20 : PySem.W.keepIn K (.ref f20) = true)
    (a21 : PySem.W.nsIn K mainGlobals "_law_names" = some (some (.ref f21)))
    (l21 : K.lookup f21 = some ⟨oc21, od21, .func (PySem.W.fnOf "_law_names" "_law_names" (defArgs s_L_names) (defBody s_L_names) (defScope s_L_names) .none kV21 dc21 pm21 an21 cd21 ct21), sl21⟩)
    (c21 : PySem.W.codeIn K cd21 "_law_names" = true)
    (k21 : PySem.W.keepIn K (.ref f21) = true)
    (a22 : PySem.W.nsIn K mainGlobals "_law_entries" = some (some (.ref f22)))
    (l22 : K.lookup f22 = some ⟨oc22, od22, .func (PySem.W.fnOf "_law_entries" "_law_entries" (defArgs s_L_entries) (defBody s_L_entries) (defScope s_L_entries) .none kV22 dc22 pm22 an22 cd22 ct22), sl22⟩)
    (c22 : PySem.W.codeIn K cd22 "_law_entries" = true)
    (k22 : PySem.W.keepIn K (.ref f22) = true)
    (a23 : PySem.W.nsIn K mainGlobals "_law_field" = some (some (.ref f23)))
    (l23 : K.lookup f23 = some ⟨oc23, od23, .func (PySem.W.fnOf "_law_field" "_law_field" (defArgs s_L_field) (defBody s_L_field) (defScope s_L_field) .none kV23 dc23 pm23 an23 cd23 ct23), sl23⟩)
    (c23 : PySem.W.codeIn K cd23 "_law_field" = true)
    (k23 : PySem.W.keepIn K (.ref f23) = true)
    (a24 : PySem.W.nsIn K mainGlobals "_law_parts" = some (some (.ref f24)))
    (l24 : K.lookup f24 = some ⟨oc24, od24, .func (PySem.W.fnOf "_law_parts" "_law_parts" (defArgs s_L_parts) (defBody s_L_parts) (defScope s_L_parts) .none kV24 dc24 pm24 an24 cd24 ct24), sl24⟩)
    (c24 : PySem.W.codeIn K cd24 "_law_parts" = true)
    (k24 : PySem.W.keepIn K (.ref f24) = true)
    (a25 : PySem.W.nsIn K mainGlobals "_law_told" = some (some (.ref f25)))
    (l25 : K.lookup f25 = some ⟨oc25, od25, .func (PySem.W.fnOf "_law_told" "_law_told" (defArgs s_L_told) (defBody s_L_told) (defScope s_L_told) .none kV25 dc25 pm25 an25 cd25 ct25), sl25⟩)
    (c25 : PySem.W.codeIn K cd25 "_law_told" = true)
    (k25 : PySem.W.keepIn K (.ref f25) = true)
    (a26 : PySem.W.nsIn K mainGlobals "_law_are_words" = some (some (.ref f26)))
    (l26 : K.lookup f26 = some ⟨oc26, od26, .func (PySem.W.fnOf "_law_are_words" "_law_are_words" (defArgs s_L_are_words) (defBody s_L_are_words) (defScope s_L_are_words) .none kV26 dc26 pm26 an26 cd26 ct26), sl26⟩)
    (c26 : PySem.W.codeIn K cd26 "_law_are_words" = true)
    (k26 : PySem.W.keepIn K (.ref f26) = true)
    (a27 : PySem.W.nsIn K mainGlobals "law" = some (some (.ref f27)))
    (l27 : K.lookup f27 = some ⟨oc27, od27, .func (PySem.W.fnOf "law" "law" (defArgs s_law) (defBody s_law) (defScope s_law) .none kV27 dc27 pm27 an27 cd27 ct27), sl27⟩)
    (c27 : PySem.W.codeIn K cd27 "law" = true)
    (k27 : PySem.W.keepIn K (.ref f27) = true)
    (aC : PySem.W.nsIn K mainGlobals "Form" = some (some (.ref C)))
    (pg : PySem.W.plainGet K C Str.empty = true)
    (hd : PySem.W.hasDictIn K C = true)
    (po : PySem.W.plainOver K C = true)
    (sa : PySem.W.findIn K (.ref C) "__setattr__" = some (some (.builtin "object.__setattr__")))
    (n_words : PySem.W.findIn K (.ref C) "words" = some none)
    (n_fields : PySem.W.findIn K (.ref C) "fields" = some none)
    (n_room : PySem.W.findIn K (.ref C) "room" = some none)
    (mk : PySem.W.makesIn K C = true)
    (kc : PySem.W.keepIn K (.ref C) = true)
    (ia0 : PySem.W.findIn K (.ref C) "__init__" = some (some (.ref g0)))
    (ii0 : PySem.W.isFn K (.ref g0) = true)
    (il0 : K.lookup g0 = some ⟨go0, gd0, .func (PySem.W.fnOf "__init__" "Form.__init__" (defArgs s_Form_init) (defBody s_Form_init) (defScope s_Form_init) .none (.ref KD) gc0 gp0 gn0 ge0 gt0), gs0⟩)
    (ic0 : PySem.W.codeIn K ge0 "Form.__init__" = true)
    (ik0 : PySem.W.keepIn K (.ref g0) = true)
    (ia1 : PySem.W.findIn K (.ref C) "field_names" = some (some (.ref g1)))
    (ii1 : PySem.W.isFn K (.ref g1) = true)
    (il1 : K.lookup g1 = some ⟨go1, gd1, .func (PySem.W.fnOf "field_names" "Form.field_names" (defArgs s_Form_field_names) (defBody s_Form_field_names) (defScope s_Form_field_names) .none gk1 gc1 gp1 gn1 ge1 gt1), gs1⟩)
    (ic1 : PySem.W.codeIn K ge1 "Form.field_names" = true)
    (ik1 : PySem.W.keepIn K (.ref g1) = true)
    (ia2 : PySem.W.findIn K (.ref C) "parts_of" = some (some (.ref g2)))
    (ii2 : PySem.W.isFn K (.ref g2) = true)
    (il2 : K.lookup g2 = some ⟨go2, gd2, .func (PySem.W.fnOf "parts_of" "Form.parts_of" (defArgs s_Form_parts_of) (defBody s_Form_parts_of) (defScope s_Form_parts_of) .none gk2 gc2 gp2 gn2 ge2 gt2), gs2⟩)
    (ic2 : PySem.W.codeIn K ge2 "Form.parts_of" = true)
    (ik2 : PySem.W.keepIn K (.ref g2) = true)
    (kwd : PySem.W.nsIn K KD "room" = some (some (.int 3 kt)))
    (z_isinstance : PySem.W.nsIn K mainGlobals "isinstance" = some none)
    (z_tuple : PySem.W.nsIn K mainGlobals "tuple" = some none)
    (z_list : PySem.W.nsIn K mainGlobals "list" = some none)
    (z_len : PySem.W.nsIn K mainGlobals "len" = some none)
    (z_all : PySem.W.nsIn K mainGlobals "all" = some none)
    (z_range : PySem.W.nsIn K mainGlobals "range" = some none)
    (z_bool : PySem.W.nsIn K mainGlobals "bool" = some none)
    (z_int : PySem.W.nsIn K mainGlobals "int" = some none)
    (z_str : PySem.W.nsIn K mainGlobals "str" = some none)
    (z_set : PySem.W.nsIn K mainGlobals "set" = some none)
    (hn : PySem.W.specialIn K (.builtin "object.__class__") "__get__" = some (some (.builtin "getset_descriptor.__get__")))
    (ht : PySem.W.takesIn K (.builtin "object.__class__") = some true)
    (eaC0 : PySem.W.nsIn K mainGlobals "InvalidWords" = some (some (.ref eC0)))
    (exL0 : K.lookup eC0 = some (excClassObj enm0 eq0 eC0 eN0 ebs0 [.ref CS, .type "ValueError", .type "Exception", .type "BaseException", .type "object"] true esn0 esub0 eab0 ecol0 edd0 em00 em10 em20 em30 em50 "ValueError.__new__"))
    (esa0 : PySem.W.findIn K (.ref eC0) "__setattr__" = some (some (.builtin "object.__setattr__")))
    (eex0 : PySem.W.subIn K (.ref eC0) (.type "BaseException") = some true)
    (ety0 : PySem.W.typeIn K (.ref eC0) = some (.type "type"))
    (ekC0 : PySem.W.keepIn K (.ref eC0) = true)
    (ega0 : PySem.W.findIn K (.ref eC0) "__getattribute__" = some (some (.builtin "BaseException.__getattribute__")))
    (egg0 : PySem.W.findIn K (.ref eC0) "__getattr__" = some none)
    (ehd0 : PySem.W.hasDictIn K eC0 = true)
    (eha0 : PySem.W.findIn K (.ref eC0) "__class__" = some (some (.builtin "object.__class__")))
    (ehm0 : PySem.W.mroIn K eC0 (.type "object") = some true)
    (eia0 : PySem.W.findIn K (.ref eC0) "__init__" = some (some (.ref eg0)))
    (eit0 : PySem.W.typeIn K (.ref eg0) = some (.type "function"))
    (eil0 : K.lookup eg0 = some ⟨ego0, egd0, .func (PySem.W.fnOf "__init__" "InvalidWords.__init__" (defArgs s_InvalidWords_init) (defBody s_InvalidWords_init) (defScope s_InvalidWords_init) .none egk0 egc0 egp0 egn0 ege0 egt0), egs0⟩)
    (eic0 : PySem.W.codeIn K ege0 "InvalidWords.__init__" = true)
    (eik0 : PySem.W.keepIn K (.ref eg0) = true)
    (enf0_0 : PySem.W.findIn K (.ref eC0) "words" = some none)
    (eaC1 : PySem.W.nsIn K mainGlobals "UnknownField" = some (some (.ref eC1)))
    (exL1 : K.lookup eC1 = some (excClassObj enm1 eq1 eC1 eN1 ebs1 [.ref CS, .type "ValueError", .type "Exception", .type "BaseException", .type "object"] true esn1 esub1 eab1 ecol1 edd1 em01 em11 em21 em31 em51 "ValueError.__new__"))
    (esa1 : PySem.W.findIn K (.ref eC1) "__setattr__" = some (some (.builtin "object.__setattr__")))
    (eex1 : PySem.W.subIn K (.ref eC1) (.type "BaseException") = some true)
    (ety1 : PySem.W.typeIn K (.ref eC1) = some (.type "type"))
    (ekC1 : PySem.W.keepIn K (.ref eC1) = true)
    (ega1 : PySem.W.findIn K (.ref eC1) "__getattribute__" = some (some (.builtin "BaseException.__getattribute__")))
    (egg1 : PySem.W.findIn K (.ref eC1) "__getattr__" = some none)
    (ehd1 : PySem.W.hasDictIn K eC1 = true)
    (eha1 : PySem.W.findIn K (.ref eC1) "__class__" = some (some (.builtin "object.__class__")))
    (ehm1 : PySem.W.mroIn K eC1 (.type "object") = some true)
    (eia1 : PySem.W.findIn K (.ref eC1) "__init__" = some (some (.ref eg1)))
    (eit1 : PySem.W.typeIn K (.ref eg1) = some (.type "function"))
    (eil1 : K.lookup eg1 = some ⟨ego1, egd1, .func (PySem.W.fnOf "__init__" "UnknownField.__init__" (defArgs s_UnknownField_init) (defBody s_UnknownField_init) (defScope s_UnknownField_init) .none egk1 egc1 egp1 egn1 ege1 egt1), egs1⟩)
    (eic1 : PySem.W.codeIn K ege1 "UnknownField.__init__" = true)
    (eik1 : PySem.W.keepIn K (.ref eg1) = true)
    (enf1_0 : PySem.W.findIn K (.ref eC1) "field" = some none)
    (eaC2 : PySem.W.nsIn K mainGlobals "UnknownWord" = some (some (.ref eC2)))
    (exL2 : K.lookup eC2 = some (excClassObj enm2 eq2 eC2 eN2 ebs2 [.ref CS, .type "ValueError", .type "Exception", .type "BaseException", .type "object"] true esn2 esub2 eab2 ecol2 edd2 em02 em12 em22 em32 em52 "ValueError.__new__"))
    (esa2 : PySem.W.findIn K (.ref eC2) "__setattr__" = some (some (.builtin "object.__setattr__")))
    (eex2 : PySem.W.subIn K (.ref eC2) (.type "BaseException") = some true)
    (ety2 : PySem.W.typeIn K (.ref eC2) = some (.type "type"))
    (ekC2 : PySem.W.keepIn K (.ref eC2) = true)
    (ega2 : PySem.W.findIn K (.ref eC2) "__getattribute__" = some (some (.builtin "BaseException.__getattribute__")))
    (egg2 : PySem.W.findIn K (.ref eC2) "__getattr__" = some none)
    (ehd2 : PySem.W.hasDictIn K eC2 = true)
    (eha2 : PySem.W.findIn K (.ref eC2) "__class__" = some (some (.builtin "object.__class__")))
    (ehm2 : PySem.W.mroIn K eC2 (.type "object") = some true)
    (eia2 : PySem.W.findIn K (.ref eC2) "__init__" = some (some (.ref eg2)))
    (eit2 : PySem.W.typeIn K (.ref eg2) = some (.type "function"))
    (eil2 : K.lookup eg2 = some ⟨ego2, egd2, .func (PySem.W.fnOf "__init__" "UnknownWord.__init__" (defArgs s_UnknownWord_init) (defBody s_UnknownWord_init) (defScope s_UnknownWord_init) .none egk2 egc2 egp2 egn2 ege2 egt2), egs2⟩)
    (eic2 : PySem.W.codeIn K ege2 "UnknownWord.__init__" = true)
    (eik2 : PySem.W.keepIn K (.ref eg2) = true)
    (enf2_0 : PySem.W.findIn K (.ref eC2) "word" = some none)
    (exm0_0 : (PySem.W.exmOne K (.ref eC0) (.ref eC0) == some true) = true)
    (ekm0_0 : (PySem.W.kitOne K (.ref eC0) (.ref eC0) == some true) = true)
    (exm0_1 : (PySem.W.exmOne K (.ref eC0) (.ref eC1) == some false) = true)
    (ekm0_1 : (PySem.W.kitOne K (.ref eC0) (.ref eC1) == some false) = true)
    (exm0_2 : (PySem.W.exmOne K (.ref eC0) (.ref eC2) == some false) = true)
    (ekm0_2 : (PySem.W.kitOne K (.ref eC0) (.ref eC2) == some false) = true)
    (exm1_0 : (PySem.W.exmOne K (.ref eC1) (.ref eC0) == some false) = true)
    (ekm1_0 : (PySem.W.kitOne K (.ref eC1) (.ref eC0) == some false) = true)
    (exm1_1 : (PySem.W.exmOne K (.ref eC1) (.ref eC1) == some true) = true)
    (ekm1_1 : (PySem.W.kitOne K (.ref eC1) (.ref eC1) == some true) = true)
    (exm1_2 : (PySem.W.exmOne K (.ref eC1) (.ref eC2) == some false) = true)
    (ekm1_2 : (PySem.W.kitOne K (.ref eC1) (.ref eC2) == some false) = true)
    (exm2_0 : (PySem.W.exmOne K (.ref eC2) (.ref eC0) == some false) = true)
    (ekm2_0 : (PySem.W.kitOne K (.ref eC2) (.ref eC0) == some false) = true)
    (exm2_1 : (PySem.W.exmOne K (.ref eC2) (.ref eC1) == some false) = true)
    (ekm2_1 : (PySem.W.kitOne K (.ref eC2) (.ref eC1) == some false) = true)
    (exm2_2 : (PySem.W.exmOne K (.ref eC2) (.ref eC2) == some true) = true)
    (ekm2_2 : (PySem.W.kitOne K (.ref eC2) (.ref eC2) == some true) = true)
    (eka : (PySem.W.kitAny K (.ref eC0) [.ref eC1, .ref eC2] == some false) = true)
    : ∃ fd : FuncData, (∀ (s : Shared) (v : Value), BindsTo s fd ⟨[v], []⟩ [("_law_script", v)]) ∧ ∀ base : Heap, K.In base → base.Ns mainGlobals mg → FnOk l.prog w K mg base CX0 13 fa fd ["_law_script"] (spLaw K) := by
  have e := hfa.symm.trans (PySem.W.mg_of X G a27)
  cases e
  have F0 := fun_mk (st := s_is_name) l0 c0 k0
  have b0 := F0.binds (ps := ["value"]) fun _ _ _ _ _ _ us hl => match us, hl with | [_], _ => rfl
  have F1 := fun_mk (st := s_is_whole) l1 c1 k1
  have b1 := F1.binds (ps := ["value", "low", "high"]) fun _ _ _ _ _ _ us hl => match us, hl with | [_, _, _], _ => rfl
  have F2 := fun_mk (st := s_has_items) l2 c2 k2
  have b2 := F2.binds (ps := ["value", "count"]) fun _ _ _ _ _ _ us hl => match us, hl with | [_, _], _ => rfl
  have F3 := fun_mk (st := s_are_names) l3 c3 k3
  have b3 := F3.binds (ps := ["values"]) fun _ _ _ _ _ _ us hl => match us, hl with | [_], _ => rfl
  have F4 := fun_mk (st := s_names_of) l4 c4 k4
  have b4 := F4.binds (ps := ["fields"]) fun _ _ _ _ _ _ us hl => match us, hl with | [_], _ => rfl
  have F5 := fun_mk (st := s_check_parts) l5 c5 k5
  have b5 := F5.binds (ps := ["words", "fields", "room"]) fun _ _ _ _ _ _ us hl => match us, hl with | [_, _, _], _ => rfl
  have F6 := fun_mk (st := s_are_form_words) l6 c6 k6
  have b6 := F6.binds (ps := ["value"]) fun _ _ _ _ _ _ us hl => match us, hl with | [_], _ => rfl
  have F7 := fun_mk (st := s_are_form_fields) l7 c7 k7
  have b7 := F7.binds (ps := ["value"]) fun _ _ _ _ _ _ us hl => match us, hl with | [_], _ => rfl
  have F8 := fun_mk (st := s_wrong_part) l8 c8 k8
  have b8 := F8.binds (ps := ["words", "names", "name", "field"]) fun _ _ _ _ _ _ us hl => match us, hl with | [_, _, _, _], _ => rfl
  have F9 := fun_mk (st := s_is_near) l9 c9 k9
  have b9 := F9.binds (ps := ["value", "looks", "count"]) fun _ _ _ _ _ _ us hl => match us, hl with | [_, _, _], _ => rfl
  have F10 := fun_mk (st := s_is_entry_row) l10 c10 k10
  have b10 := F10.binds (ps := ["value", "count"]) fun _ _ _ _ _ _ us hl => match us, hl with | [_, _], _ => rfl
  have F11 := fun_mk (st := s_check_words) l11 c11 k11
  have b11 := F11.binds (ps := ["form", "words"]) fun _ _ _ _ _ _ us hl => match us, hl with | [_, _], _ => rfl
  have F12 := fun_mk (st := s_word_index) l12 c12 k12
  have b12 := F12.binds (ps := ["form", "words", "name"]) fun _ _ _ _ _ _ us hl => match us, hl with | [_, _, _], _ => rfl
  have F13 := fun_mk (st := s_near_entry) l13 c13 k13
  have b13 := F13.binds (ps := ["form", "words", "name"]) fun _ _ _ _ _ _ us hl => match us, hl with | [_, _, _], _ => rfl
  have F14 := fun_mk (st := s_far_entry) l14 c14 k14
  have b14 := F14.binds (ps := ["form", "name", "word"]) fun _ _ _ _ _ _ us hl => match us, hl with | [_, _, _], _ => rfl
  have F15 := fun_mk (st := s_true_error) l15 c15 k15
  have b15 := F15.binds (ps := ["form", "words", "name"]) fun _ _ _ _ _ _ us hl => match us, hl with | [_, _, _], _ => rfl
  have F16 := fun_mk (st := s_true_errors) l16 c16 k16
  have b16 := F16.binds (ps := ["form", "words"]) fun _ _ _ _ _ _ us hl => match us, hl with | [_, _], _ => rfl
  have F17 := fun_mk (st := sMix) l17 c17 k17
  have b17 := F17.binds (ps := ["_law_value", "_law_k"]) fun _ _ _ _ _ _ us hl => match us, hl with | [_, _], _ => rfl
  have F18 := fun_mk (st := sBox) l18 c18 k18
  have b18 := F18.binds (ps := ["_law_script"]) fun _ _ _ _ _ _ us hl => match us, hl with | [_], _ => rfl
  have F19 := fun_mk (st := sDraw) l19 c19 k19
  have b19 := F19.binds (ps := ["_law_box_here", "_law_many"]) fun _ _ _ _ _ _ us hl => match us, hl with | [_, _], _ => rfl
  have F20 := fun_mk (st := sSame) l20 c20 k20
  have b20 := F20.binds (ps := ["_law_told_here", "_law_due"]) fun _ _ _ _ _ _ us hl => match us, hl with | [_, _], _ => rfl
  have F21 := fun_mk (st := s_L_names) l21 c21 k21
  have b21 := F21.binds (ps := ["_law_box_here", "_law_many"]) fun _ _ _ _ _ _ us hl => match us, hl with | [_, _], _ => rfl
  have F22 := fun_mk (st := s_L_entries) l22 c22 k22
  have b22 := F22.binds (ps := ["_law_box_here", "_law_notes", "_law_size"]) fun _ _ _ _ _ _ us hl => match us, hl with | [_, _, _], _ => rfl
  have F23 := fun_mk (st := s_L_field) l23 c23 k23
  have b23 := F23.binds (ps := ["_law_box_here", "_law_words", "_law_names_here", "_law_name", "_law_notes"]) fun _ _ _ _ _ _ us hl => match us, hl with | [_, _, _, _, _], _ => rfl
  have F24 := fun_mk (st := s_L_parts) l24 c24 k24
  have b24 := F24.binds (ps := ["_law_box_here"]) fun _ _ _ _ _ _ us hl => match us, hl with | [_], _ => rfl
  have F25 := fun_mk (st := s_L_told) l25 c25 k25
  have b25 := F25.binds (ps := ["_law_form", "_law_which", "_law_words", "_law_name", "_law_word"]) fun _ _ _ _ _ _ us hl => match us, hl with | [_, _, _, _, _], _ => rfl
  have F26 := fun_mk (st := s_L_are_words) l26 c26 k26
  have b26 := F26.binds (ps := ["_law_value", "_law_words", "_law_many"]) fun _ _ _ _ _ _ us hl => match us, hl with | [_, _, _], _ => rfl
  have F27 := fun_mk (st := s_law) l27 c27 k27
  have J1 := fun_mk (st := s_Form_field_names) il1 ic1 ik1
  have j1 := J1.binds (ps := ["self"]) fun _ _ _ _ _ _ us hl => match us, hl with | [_], _ => rfl
  have J2 := fun_mk (st := s_Form_parts_of) il2 ic2 ik2
  have j2 := J2.binds (ps := ["self", "name"]) fun _ _ _ _ _ _ us hl => match us, hl with | [_, _], _ => rfl
  have D0 : FunD K "__init__" "Form.__init__" (defArgs s_Form_init) (defBody s_Form_init) (defScope s_Form_init) [] [("room", .int 3)] g0 (PySem.W.fnOf "__init__" "Form.__init__" (defArgs s_Form_init) (defBody s_Form_init) (defScope s_Form_init) .none (.ref KD) gc0 gp0 gn0 ge0 gt0) := ⟨⟨go0, gd0, .none, .ref KD, gc0, gp0, gn0, ge0, gt0, gs0, rfl, il0, ic0, .inl ⟨rfl, rfl⟩, .inr ⟨KD, rfl, fun q hq => by
    have hq := List.mem_singleton.mp hq
    subst hq
    exact ⟨_, kwd, ⟨_, rfl⟩⟩⟩⟩, ik0⟩
  have EJ0 := fun_mk (st := s_InvalidWords_init) eil0 eic0 eik0
  have ej0 := EJ0.binds (ps := ["self", "words"]) fun _ _ _ _ _ _ us hl => match us, hl with | [_, _], _ => rfl
  have EJ1 := fun_mk (st := s_UnknownField_init) eil1 eic1 eik1
  have ej1 := EJ1.binds (ps := ["self", "field"]) fun _ _ _ _ _ _ us hl => match us, hl with | [_, _], _ => rfl
  have EJ2 := fun_mk (st := s_UnknownWord_init) eil2 eic2 eik2
  have ej2 := EJ2.binds (ps := ["self", "word"]) fun _ _ _ _ _ _ us hl => match us, hl with | [_, _], _ => rfl
  have T : Txt K mg := {
    B := ⟨PySem.W.mg_none_of X G z_isinstance, PySem.W.mg_none_of X G z_tuple, PySem.W.mg_none_of X G z_list, PySem.W.mg_none_of X G z_len, PySem.W.mg_none_of X G z_all, PySem.W.mg_none_of X G z_range, PySem.W.mg_none_of X G z_bool, PySem.W.mg_none_of X G z_int, PySem.W.mg_none_of X G z_str⟩
    set := PySem.W.mg_none_of X G z_set
    f_is_name := f0
    d_is_name := _
    F_is_name := F0
    b_is_name := b0
    g_is_name := PySem.W.mg_of X G a0
    f_is_whole := f1
    d_is_whole := _
    F_is_whole := F1
    b_is_whole := b1
    g_is_whole := PySem.W.mg_of X G a1
    f_has_items := f2
    d_has_items := _
    F_has_items := F2
    b_has_items := b2
    g_has_items := PySem.W.mg_of X G a2
    f_are_names := f3
    d_are_names := _
    F_are_names := F3
    b_are_names := b3
    g_are_names := PySem.W.mg_of X G a3
    f_names_of := f4
    d_names_of := _
    F_names_of := F4
    b_names_of := b4
    g_names_of := PySem.W.mg_of X G a4
    f_check_parts := f5
    d_check_parts := _
    F_check_parts := F5
    b_check_parts := b5
    g_check_parts := PySem.W.mg_of X G a5
    f_are_form_words := f6
    d_are_form_words := _
    F_are_form_words := F6
    b_are_form_words := b6
    g_are_form_words := PySem.W.mg_of X G a6
    f_are_form_fields := f7
    d_are_form_fields := _
    F_are_form_fields := F7
    b_are_form_fields := b7
    g_are_form_fields := PySem.W.mg_of X G a7
    f_wrong_part := f8
    d_wrong_part := _
    F_wrong_part := F8
    b_wrong_part := b8
    g_wrong_part := PySem.W.mg_of X G a8
    f_is_near := f9
    d_is_near := _
    F_is_near := F9
    b_is_near := b9
    g_is_near := PySem.W.mg_of X G a9
    f_is_entry_row := f10
    d_is_entry_row := _
    F_is_entry_row := F10
    b_is_entry_row := b10
    g_is_entry_row := PySem.W.mg_of X G a10
    f_check_words := f11
    d_check_words := _
    F_check_words := F11
    b_check_words := b11
    g_check_words := PySem.W.mg_of X G a11
    f_word_index := f12
    d_word_index := _
    F_word_index := F12
    b_word_index := b12
    g_word_index := PySem.W.mg_of X G a12
    f_near_entry := f13
    d_near_entry := _
    F_near_entry := F13
    b_near_entry := b13
    g_near_entry := PySem.W.mg_of X G a13
    f_far_entry := f14
    d_far_entry := _
    F_far_entry := F14
    b_far_entry := b14
    g_far_entry := PySem.W.mg_of X G a14
    f_true_error := f15
    d_true_error := _
    F_true_error := F15
    b_true_error := b15
    g_true_error := PySem.W.mg_of X G a15
    f_true_errors := f16
    d_true_errors := _
    F_true_errors := F16
    b_true_errors := b16
    g_true_errors := PySem.W.mg_of X G a16
    f_L_mix := f17
    d_L_mix := _
    F_L_mix := F17
    b_L_mix := b17
    g_L_mix := PySem.W.mg_of X G a17
    f_L_box := f18
    d_L_box := _
    F_L_box := F18
    b_L_box := b18
    g_L_box := PySem.W.mg_of X G a18
    f_L_draw := f19
    d_L_draw := _
    F_L_draw := F19
    b_L_draw := b19
    g_L_draw := PySem.W.mg_of X G a19
    f_L_same := f20
    d_L_same := _
    F_L_same := F20
    b_L_same := b20
    g_L_same := PySem.W.mg_of X G a20
    f_L_names := f21
    d_L_names := _
    F_L_names := F21
    b_L_names := b21
    g_L_names := PySem.W.mg_of X G a21
    f_L_entries := f22
    d_L_entries := _
    F_L_entries := F22
    b_L_entries := b22
    g_L_entries := PySem.W.mg_of X G a22
    f_L_field := f23
    d_L_field := _
    F_L_field := F23
    b_L_field := b23
    g_L_field := PySem.W.mg_of X G a23
    f_L_parts := f24
    d_L_parts := _
    F_L_parts := F24
    b_L_parts := b24
    g_L_parts := PySem.W.mg_of X G a24
    f_L_told := f25
    d_L_told := _
    F_L_told := F25
    b_L_told := b25
    g_L_told := PySem.W.mg_of X G a25
    f_L_are_words := f26
    d_L_are_words := _
    F_L_are_words := F26
    b_L_are_words := b26
    g_L_are_words := PySem.W.mg_of X G a26
    C := C
    g_Form := PySem.W.mg_of X G aC
    cl := ⟨pg, hd, po, sa⟩
    na_words := n_words
    na_fields := n_fields
    na_room := n_room
    f_Form_field_names := g1
    d_Form_field_names := _
    F_Form_field_names := J1
    b_Form_field_names := j1
    m_Form_field_names := ⟨ia1, ii1, ik1⟩
    f_Form_parts_of := g2
    d_Form_parts_of := _
    F_Form_parts_of := J2
    b_Form_parts_of := j2
    m_Form_parts_of := ⟨ia2, ii2, ik2⟩
    f_init := g0
    d_init := _
    F_init := D0
    M := ⟨mk, ia0, ii0, kc⟩
    C_InvalidWords := eC0
    g_InvalidWords := PySem.W.mg_of X G eaC0
    x_InvalidWords := xcls_mk exL0 esa0 eex0 ety0 ekC0 ega0 egg0 ehd0 eha0 hn ht ehm0
    f_InvalidWords_init := eg0
    d_InvalidWords_init := _
    F_InvalidWords_init := EJ0
    b_InvalidWords_init := ej0
    i_InvalidWords := eia0
    t_InvalidWords := eit0
    n_InvalidWords0 := enf0_0
    n_InvalidWords_words := enf0_0
    C_UnknownField := eC1
    g_UnknownField := PySem.W.mg_of X G eaC1
    x_UnknownField := xcls_mk exL1 esa1 eex1 ety1 ekC1 ega1 egg1 ehd1 eha1 hn ht ehm1
    f_UnknownField_init := eg1
    d_UnknownField_init := _
    F_UnknownField_init := EJ1
    b_UnknownField_init := ej1
    i_UnknownField := eia1
    t_UnknownField := eit1
    n_UnknownField0 := enf1_0
    n_UnknownField_field := enf1_0
    C_UnknownWord := eC2
    g_UnknownWord := PySem.W.mg_of X G eaC2
    x_UnknownWord := xcls_mk exL2 esa2 eex2 ety2 ekC2 ega2 egg2 ehd2 eha2 hn ht ehm2
    f_UnknownWord_init := eg2
    d_UnknownWord_init := _
    F_UnknownWord_init := EJ2
    b_UnknownWord_init := ej2
    i_UnknownWord := eia2
    t_UnknownWord := eit2
    n_UnknownWord0 := enf2_0
    n_UnknownWord_word := enf2_0
    xm_InvalidWords_InvalidWords := beq_iff_eq.mp exm0_0
    km_InvalidWords_InvalidWords := beq_iff_eq.mp ekm0_0
    xm_InvalidWords_UnknownField := beq_iff_eq.mp exm0_1
    km_InvalidWords_UnknownField := beq_iff_eq.mp ekm0_1
    xm_InvalidWords_UnknownWord := beq_iff_eq.mp exm0_2
    km_InvalidWords_UnknownWord := beq_iff_eq.mp ekm0_2
    xm_UnknownField_InvalidWords := beq_iff_eq.mp exm1_0
    km_UnknownField_InvalidWords := beq_iff_eq.mp ekm1_0
    xm_UnknownField_UnknownField := beq_iff_eq.mp exm1_1
    km_UnknownField_UnknownField := beq_iff_eq.mp ekm1_1
    xm_UnknownField_UnknownWord := beq_iff_eq.mp exm1_2
    km_UnknownField_UnknownWord := beq_iff_eq.mp ekm1_2
    xm_UnknownWord_InvalidWords := beq_iff_eq.mp exm2_0
    km_UnknownWord_InvalidWords := beq_iff_eq.mp ekm2_0
    xm_UnknownWord_UnknownField := beq_iff_eq.mp exm2_1
    km_UnknownWord_UnknownField := beq_iff_eq.mp ekm2_1
    xm_UnknownWord_UnknownWord := beq_iff_eq.mp exm2_2
    km_UnknownWord_UnknownWord := beq_iff_eq.mp ekm2_2
    ka := beq_iff_eq.mp eka }
  exact ⟨_, fun s v => .of_eq rfl, fun base _ _ => ok_law T F27⟩
end Wn
open PySem PySem.W PyProof.Rows
set_option maxHeartbeats 0 in
theorem PySem.Challenge.cw_wrongshown_k05_truth_refusals_holds : PySem.Challenge.rw_wrongshown_k05_truth_refusals.Holds := by
  w_on; o_law; k_head; (case hw => w_witness2)
  k_fill
  refine L2.walk_of (l := PySem.Challenge.rw_wrongshown_k05_truth_refusals) (n := 63) (k := 13) (x := "_law_script") (CX := fun _ => L2.CX0) (sp := fun w => Wn.spLaw _) rfl (by decide) rfl ⟨rfl, by decide, by decide⟩ (fun w h Y => PySem.W.kIn_of Y) ?F (fun _ _ a ns hl _ hS => ⟨a, ns, rfl, hS, hl, fun _ => rfl⟩) (fun _ _ _ _ _ h => h)
  case F =>
    intro w mg fa h KX G hmg
    refine' Wn.all_mk KX G hmg ?a0 ?l0 ?c0 ?k0 ?a1 ?l1 ?c1 ?k1 ?a2 ?l2 ?c2 ?k2 ?a3 ?l3 ?c3 ?k3 ?a4 ?l4 ?c4 ?k4 ?a5 ?l5 ?c5 ?k5 ?a6 ?l6 ?c6 ?k6 ?a7 ?l7 ?c7 ?k7 ?a8 ?l8 ?c8 ?k8 ?a9 ?l9 ?c9 ?k9 ?a10 ?l10 ?c10 ?k10 ?a11 ?l11 ?c11 ?k11 ?a12 ?l12 ?c12 ?k12 ?a13 ?l13 ?c13 ?k13 ?a14 ?l14 ?c14 ?k14 ?a15 ?l15 ?c15 ?k15 ?a16 ?l16 ?c16 ?k16 ?a17 ?l17 ?c17 ?k17 ?a18 ?l18 ?c18 ?k18 ?a19 ?l19 ?c19 ?k19 ?a20 ?l20 ?c20 ?k20 ?a21 ?l21 ?c21 ?k21 ?a22 ?l22 ?c22 ?k22 ?a23 ?l23 ?c23 ?k23 ?a24 ?l24 ?c24 ?k24 ?a25 ?l25 ?c25 ?k25 ?a26 ?l26 ?c26 ?k26 ?a27 ?l27 ?c27 ?k27 ?aC ?pg ?hd ?po ?sa ?n_words ?n_fields ?n_room ?mk ?kc ?ia0 ?ii0 ?il0 ?ic0 ?ik0 ?ia1 ?ii1 ?il1 ?ic1 ?ik1 ?ia2 ?ii2 ?il2 ?ic2 ?ik2 ?kwd ?z_isinstance ?z_tuple ?z_list ?z_len ?z_all ?z_range ?z_bool ?z_int ?z_str ?z_set ?hn ?ht ?eaC0 ?exL0 ?esa0 ?eex0 ?ety0 ?ekC0 ?ega0 ?egg0 ?ehd0 ?eha0 ?ehm0 ?eia0 ?eit0 ?eil0 ?eic0 ?eik0 ?enf0_0 ?eaC1 ?exL1 ?esa1 ?eex1 ?ety1 ?ekC1 ?ega1 ?egg1 ?ehd1 ?eha1 ?ehm1 ?eia1 ?eit1 ?eil1 ?eic1 ?eik1 ?enf1_0 ?eaC2 ?exL2 ?esa2 ?eex2 ?ety2 ?ekC2 ?ega2 ?egg2 ?ehd2 ?eha2 ?ehm2 ?eia2 ?eit2 ?eil2 ?eic2 ?eik2 ?enf2_0 ?exm0_0 ?ekm0_0 ?exm0_1 ?ekm0_1 ?exm0_2 ?ekm0_2 ?exm1_0 ?ekm1_0 ?exm1_1 ?ekm1_1 ?exm1_2 ?ekm1_2 ?exm2_0 ?ekm2_0 ?exm2_1 ?ekm2_1 ?exm2_2 ?ekm2_2 ?eka
    (case a0 => k_is)
    (case l0 => k_is)
    (case c0 => k_is)
    (case k0 => k_is)
    (case a1 => k_is)
    (case l1 => k_is)
    (case c1 => k_is)
    (case k1 => k_is)
    (case a2 => k_is)
    (case l2 => k_is)
    (case c2 => k_is)
    (case k2 => k_is)
    (case a3 => k_is)
    (case l3 => k_is)
    (case c3 => k_is)
    (case k3 => k_is)
    (case a4 => k_is)
    (case l4 => k_is)
    (case c4 => k_is)
    (case k4 => k_is)
    (case a5 => k_is)
    (case l5 => k_is)
    (case c5 => k_is)
    (case k5 => k_is)
    (case a6 => k_is)
    (case l6 => k_is)
    (case c6 => k_is)
    (case k6 => k_is)
    (case a7 => k_is)
    (case l7 => k_is)
    (case c7 => k_is)
    (case k7 => k_is)
    (case a8 => k_is)
    (case l8 => k_is)
    (case c8 => k_is)
    (case k8 => k_is)
    (case a9 => k_is)
    (case l9 => k_is)
    (case c9 => k_is)
    (case k9 => k_is)
    (case a10 => k_is)
    (case l10 => k_is)
    (case c10 => k_is)
    (case k10 => k_is)
    (case a11 => k_is)
    (case l11 => k_is)
    (case c11 => k_is)
    (case k11 => k_is)
    (case a12 => k_is)
    (case l12 => k_is)
    (case c12 => k_is)
    (case k12 => k_is)
    (case a13 => k_is)
    (case l13 => k_is)
    (case c13 => k_is)
    (case k13 => k_is)
    (case a14 => k_is)
    (case l14 => k_is)
    (case c14 => k_is)
    (case k14 => k_is)
    (case a15 => k_is)
    (case l15 => k_is)
    (case c15 => k_is)
    (case k15 => k_is)
    (case a16 => k_is)
    (case l16 => k_is)
    (case c16 => k_is)
    (case k16 => k_is)
    (case a17 => k_is)
    (case l17 => k_is)
    (case c17 => k_is)
    (case k17 => k_is)
    (case a18 => k_is)
    (case l18 => k_is)
    (case c18 => k_is)
    (case k18 => k_is)
    (case a19 => k_is)
    (case l19 => k_is)
    (case c19 => k_is)
    (case k19 => k_is)
    (case a20 => k_is)
    (case l20 => k_is)
    (case c20 => k_is)
    (case k20 => k_is)
    (case a21 => k_is)
    (case l21 => k_is)
    (case c21 => k_is)
    (case k21 => k_is)
    (case a22 => k_is)
    (case l22 => k_is)
    (case c22 => k_is)
    (case k22 => k_is)
    (case a23 => k_is)
    (case l23 => k_is)
    (case c23 => k_is)
    (case k23 => k_is)
    (case a24 => k_is)
    (case l24 => k_is)
    (case c24 => k_is)
    (case k24 => k_is)
    (case a25 => k_is)
    (case l25 => k_is)
    (case c25 => k_is)
    (case k25 => k_is)
    (case a26 => k_is)
    (case l26 => k_is)
    (case c26 => k_is)
    (case k26 => k_is)
    (case a27 => k_is)
    (case l27 => k_is)
    (case c27 => k_is)
    (case k27 => k_is)
    (case aC => k_is)
    (case pg => k_is)
    (case hd => k_is)
    (case po => k_is)
    (case sa => k_is)
    (case n_words => k_is)
    (case n_fields => k_is)
    (case n_room => k_is)
    (case mk => k_is)
    (case kc => k_is)
    (case ia0 => k_is)
    (case ii0 => k_is)
    (case il0 => k_is)
    (case ic0 => k_is)
    (case ik0 => k_is)
    (case ia1 => k_is)
    (case ii1 => k_is)
    (case il1 => k_is)
    (case ic1 => k_is)
    (case ik1 => k_is)
    (case ia2 => k_is)
    (case ii2 => k_is)
    (case il2 => k_is)
    (case ic2 => k_is)
    (case ik2 => k_is)
    (case kwd => k_is)
    (case z_isinstance => k_is)
    (case z_tuple => k_is)
    (case z_list => k_is)
    (case z_len => k_is)
    (case z_all => k_is)
    (case z_range => k_is)
    (case z_bool => k_is)
    (case z_int => k_is)
    (case z_str => k_is)
    (case z_set => k_is)
    (case hn => k_is)
    (case ht => k_is)
    (case eaC0 => k_is)
    (case exL0 => k_is)
    (case esa0 => k_is)
    (case eex0 => k_is)
    (case ety0 => k_is)
    (case ekC0 => k_is)
    (case ega0 => k_is)
    (case egg0 => k_is)
    (case ehd0 => k_is)
    (case eha0 => k_is)
    (case ehm0 => k_is)
    (case eia0 => k_is)
    (case eit0 => k_is)
    (case eil0 => k_is)
    (case eic0 => k_is)
    (case eik0 => k_is)
    (case enf0_0 => k_is)
    (case eaC1 => k_is)
    (case exL1 => k_is)
    (case esa1 => k_is)
    (case eex1 => k_is)
    (case ety1 => k_is)
    (case ekC1 => k_is)
    (case ega1 => k_is)
    (case egg1 => k_is)
    (case ehd1 => k_is)
    (case eha1 => k_is)
    (case ehm1 => k_is)
    (case eia1 => k_is)
    (case eit1 => k_is)
    (case eil1 => k_is)
    (case eic1 => k_is)
    (case eik1 => k_is)
    (case enf1_0 => k_is)
    (case eaC2 => k_is)
    (case exL2 => k_is)
    (case esa2 => k_is)
    (case eex2 => k_is)
    (case ety2 => k_is)
    (case ekC2 => k_is)
    (case ega2 => k_is)
    (case egg2 => k_is)
    (case ehd2 => k_is)
    (case eha2 => k_is)
    (case ehm2 => k_is)
    (case eia2 => k_is)
    (case eit2 => k_is)
    (case eil2 => k_is)
    (case eic2 => k_is)
    (case eik2 => k_is)
    (case enf2_0 => k_is)
    (case exm0_0 => kernel_rfl)
    (case ekm0_0 => kernel_rfl)
    (case exm0_1 => kernel_rfl)
    (case ekm0_1 => kernel_rfl)
    (case exm0_2 => kernel_rfl)
    (case ekm0_2 => kernel_rfl)
    (case exm1_0 => kernel_rfl)
    (case ekm1_0 => kernel_rfl)
    (case exm1_1 => kernel_rfl)
    (case ekm1_1 => kernel_rfl)
    (case exm1_2 => kernel_rfl)
    (case ekm1_2 => kernel_rfl)
    (case exm2_0 => kernel_rfl)
    (case ekm2_0 => kernel_rfl)
    (case exm2_1 => kernel_rfl)
    (case ekm2_1 => kernel_rfl)
    (case exm2_2 => kernel_rfl)
    (case ekm2_2 => kernel_rfl)
    (case eka => kernel_rfl)
