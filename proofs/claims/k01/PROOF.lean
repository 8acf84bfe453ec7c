import PyProof.Rows.All
import Wide.All
import OpenK.AllK
import Wide.FinOn
import PySem.Challenge.RW_wrongshown_k01_form_parts
import HandS.ForMost
import HandS.IsInst
import HandS.Flow
import PyProof.EqAt
import PyProof.EqKinds
import PyProof.TupleCall
import HandS.Strs
import HandS.SetKeys
import HandS.Text
import HandS.TupAny
import HandS.TupMul
import PyProof.InstNe
import HandS.SlotsOwn
import HandS.Defaults
import HandS.MakeKwOnly
import KE.DataCmp
set_option Elab.async false
set_option linter.all false
set_option maxRecDepth 100000
set_option maxHeartbeats 4000000
/-! Wn: rules whose reading is decided by what is tracked, and the steps that answer a reading from the left. -/
namespace Wn
open PySem PySem.Spec PyProof.Rows L2
/-! ### operations by what is tracked alone -/
def rIx' : R2 := fun x y H Q => ∃ p xs i v, x = .ref p ∧ y = .int i ∧ H p = some (.lst xs) ∧ atI xs i = some v ∧ Q v H
theorem ix_l {X : Cx} : IxR X rIx' := fun a b c d e f g h i j k l m o ⟨p, xs, n, v, h1, h2, h3, h4, q⟩ => ix_list a b c d e f g h i j k l m o ⟨p, xs, n, v, h1, h2, SqL.of h3, h4, q⟩
def rIxT' : R2 := fun x y H Q => ∃ p xs i v, x = .ref p ∧ y = .int i ∧ H p = some (.tup xs) ∧ atI xs i = some v ∧ Q v H
theorem ix_t {X : Cx} : IxR X rIxT' := fun a b c d e f g h i j k l m o ⟨p, xs, n, v, h1, h2, h3, h4, q⟩ => ix_tup a b c d e f g h i j k l m o ⟨p, xs, n, v, h1, h2, SqT.of h3, h4, q⟩
def rLenL : List V → Hp → VK → Prop := fun xs H Q => ∃ p ys, xs = [.ref p] ∧ H p = some (.lst ys) ∧ Q (.int ys.length) H
theorem call_lenL {X : Cx} : CallR X (.builtin "len") rLenL := fun a b c d e f g h i ⟨p, ys, h1, h2, q⟩ => call_len_seq a b c d e f g h i ⟨p, ys, h1, .inl (SqL.of h2), q⟩
def rLenT : List V → Hp → VK → Prop := fun xs H Q => ∃ p ys, xs = [.ref p] ∧ H p = some (.tup ys) ∧ Q (.int ys.length) H
theorem call_lenT {X : Cx} : CallR X (.builtin "len") rLenT := fun a b c d e f g h i ⟨p, ys, h1, h2, q⟩ => call_len_seq a b c d e f g h i ⟨p, ys, h1, .inr (SqT.of h2), q⟩
def rInt1 : List V → Hp → VK → Prop := fun xs H Q => ∃ i, xs = [.int i] ∧ Q (.int i) H
theorem call_intI {X : Cx} : CallR X (.type "int") rInt1 := fun a b c d e f g h i ⟨n, h1, q⟩ => call_int1 a b c d e f g h i (.inl ⟨n, h1, q⟩)
/-- an if whose ways meet again: where they do, the steps halt -/
def tJoin (p : L2.St → Hp → Prop) : L2.St → Hp → Prop := p
def tIfJ (c : TT) (t u : TS) : TS := fun D σ H => c σ H fun b H1 => if b = true then t { D with nx := tJoin D.nx } σ H1 else u { D with nx := tJoin D.nx } σ H1
theorem ps_ifj {X : Cx} {c : Expr} {a b : List Stmt} {pos : Pos} {tc : TT} {t u : TS} (hc : PT X c tc) (ha : PSs X a t) (hb : PSs X b u) : PS X (.If c a b pos) (tIfJ tc t u) := ps_if hc ha hb
/-! ### answers -/
section
variable {σ σ' : L2.St} {H : Hp} {Q : VK} {D : Ends} {ta tb te : TE} {tl : TA} {g : TG} {t u : TS} {c : TT}
theorem r_seq (h : t { D with nx := u D } σ H) : tSeq t u D σ H := h
theorem r_asg (h : te σ H fun x H1 => g x σ H1 D.nx) : tAsg te g D σ H := h
theorem r_op {r : R2} (h : ta σ H fun x H1 => tb σ H1 fun y H2 => r x y H2 Q) : tOp r ta tb σ H Q := h
theorem r_un {r : V → Hp → VK → Prop} (h : ta σ H fun x H1 => r x H1 Q) : tUn r ta σ H Q := h
theorem r_var {i : Nat} {v : V} (e : σ[i]? = some (some v)) (h : Q v H) : tVar i σ H Q := ⟨v, e, h⟩
theorem r_c {v : V} (h : Q v H) : tC v σ H Q := h
theorem r_test {Q : Bool → Hp → Prop} (h : te σ H fun x H' => ∃ k, x = .bl k ∧ Q k H') : tTest te σ H Q := h
theorem r_tb {Q : Bool → Hp → Prop} (h : te σ H fun x H' => ∃ k, x = .bl k ∧ Q k H') : tB te σ H Q := h
theorem r_bl {Q : Bool → Prop} {b : Bool} (h : Q b) : ∃ k, V.bl b = V.bl k ∧ Q k := ⟨b, rfl, h⟩
theorem r_ifs (h : c σ H fun b H1 => if b = true then t D σ H1 else u D σ H1) : tIfS c t u D σ H := h
theorem r_ifj (h : c σ H fun b H1 => if b = true then t { D with nx := tJoin D.nx } σ H1 else u { D with nx := tJoin D.nx } σ H1) : tIfJ c t u D σ H := h
theorem r_join {p : L2.St → Hp → Prop} (h : p σ H) : tJoin p σ H := h
theorem r_yes {Q : Bool → Hp → Prop} (h : Q true H) : tYes σ H Q := h
theorem r_wipe {s1 s2 : L2.St} {vs : List Nat} {P : Prop} (e : wipe s1 vs = wipe s2 vs) (h : P) : wipe s1 vs = wipe s2 vs ∧ P := ⟨e, h⟩
theorem r_lst (h : tl σ H fun xs H1 => xs.length ≤ sizeLine ∧ ∀ p, H1 p = none → Q (.ref p) (upd H1 p (.lst xs))) : tLst tl σ H Q := h
theorem r_tup (h : tl σ H fun xs H1 => xs.length ≤ sizeLine ∧ ∀ p, H1 p = none → Q (.ref p) (upd H1 p (.tup xs))) : tTup tl σ H Q := h
theorem r_sz {xs : List V} {P : Prop} (e : xs.length ≤ sizeLine) (h : P) : xs.length ≤ sizeLine ∧ P := ⟨e, h⟩
theorem r_ret (h : te σ H D.rt) : tRet te D σ H := h
theorem r_next (h : D.nx σ H) : tNext D σ H := h
theorem r_drop (h : te σ H fun _ H1 => D.nx σ H1) : tDrop te D σ H := h
theorem r_nil {Q : List V → Hp → Prop} (h : Q [] H) : tNil σ H Q := h
theorem r_cons {Q : List V → Hp → Prop} (h : te σ H fun x H1 => tl σ H1 fun xs H2 => Q (x :: xs) H2) : tCons te tl σ H Q := h
theorem r_cb {r : List V → Hp → VK → Prop} (h : tl σ H fun vs H1 => r vs H1 Q) : tCB r tl σ H Q := h
theorem r_call {sp : Sp} {dvs : List V} {E : XK} (h : tl σ H fun vs H1 => sp (vs ++ dvs) H1 Q E) : tCall sp dvs E tl σ H Q := h
theorem r_gname {i : Nat} {v : V} {Q : L2.St → Hp → Prop} (e : σ.set i (some v) = σ') (h : Q σ' H) : gName i v σ H Q := by subst e; exact h
theorem r_gsub {to ti : TE} {r : TSet} {v : V} {Q : L2.St → Hp → Prop} (h : to σ H fun o H1 => ti σ H1 fun i H2 => r o i v H2 fun H3 => Q σ H3) : gSub to ti r v σ H Q := h
theorem r_setl {p : Addr} {k : Int} {j : Nat} {xs ys : List V} {v : V} {Q : Hp → Prop} (e : H p = some (.lst xs)) (hi : ixN xs.length k = some j) (hs : xs.set j v = ys) (h : Q (upd H p (.lst ys))) : rSetL (.ref p) (.int k) v H Q :=
  ⟨p, xs, k, j, rfl, rfl, e, hi, by rw [hs]; exact h⟩
theorem r_I0 {f : Int → Int → V} {i j : Int} (h : Q (f i j) H) : rI0 f (.int i) (.int j) H Q := ⟨i, j, rfl, rfl, h⟩
theorem r_I {C : Int → Int → Prop} {f : Int → Int → V} {i j : Int} (hc : C i j) (h : Q (f i j) H) : rI C f (.int i) (.int j) H Q := ⟨i, j, rfl, rfl, hc, h⟩
theorem r_ix {p : Addr} {i : Int} {xs : List V} {v : V} (e : H p = some (.lst xs)) (hi : atI xs i = some v) (h : Q v H) : rIx' (.ref p) (.int i) H Q := ⟨p, xs, i, v, rfl, rfl, e, hi, h⟩
theorem r_ixt {p : Addr} {i : Int} {xs : List V} {v : V} (e : H p = some (.tup xs)) (hi : atI xs i = some v) (h : Q v H) : rIxT' (.ref p) (.int i) H Q := ⟨p, xs, i, v, rfl, rfl, e, hi, h⟩
theorem r_lenl {p : Addr} {xs : List V} (e : H p = some (.lst xs)) (h : Q (.int xs.length) H) : rLenL [.ref p] H Q := ⟨p, xs, rfl, e, h⟩
theorem r_lent {p : Addr} {xs : List V} (e : H p = some (.tup xs)) (h : Q (.int xs.length) H) : rLenT [.ref p] H Q := ⟨p, xs, rfl, e, h⟩
theorem r_int1 {i : Int} (h : Q (.int i) H) : rInt1 [.int i] H Q := ⟨i, rfl, h⟩
theorem r_eq {x y : V} (hs : scal x y = true) (h : Q (.bl (decide (x = y))) H) : rEq x y H Q := ⟨hs, h⟩
theorem r_ne {x y : V} (hs : scal x y = true) (h : Q (.bl (!decide (x = y))) H) : rNe x y H Q := ⟨hs, h⟩
theorem r_and {a b : TT} {Q : Bool → Hp → Prop} (h : a σ H fun c H1 => if c = true then b σ H1 Q else Q false H1) : tAnd a b σ H Q := h
theorem r_or {a b : TT} {Q : Bool → Hp → Prop} (h : a σ H fun c H1 => if c = true then Q true H1 else b σ H1 Q) : tOr a b σ H Q := h
theorem r_not {a : TT} {Q : Bool → Hp → Prop} (h : a σ H fun c H1 => Q (!c) H1) : tNot a σ H Q := h
theorem r_ife {a : TT} (h : a σ H fun c H1 => if c = true then ta σ H1 Q else tb σ H1 Q) : tIf a ta tb σ H Q := h
/-- an if over a decided test -/
theorem ifd {p A B : Prop} [Decidable p] (h1 : p → A) (h2 : ¬ p → B) : if decide p = true then A else B := by
  by_cases h : p
  · rw [if_pos (decide_eq_true h)]; exact h1 h
  · rw [if_neg (by rw [decide_eq_false h]; exact Bool.false_ne_true)]; exact h2 h
theorem ifd_int {i j : Int} {A B : Prop} (h1 : i = j → A) (h2 : i ≠ j → B) : if decide (V.int i = V.int j) = true then A else B :=
  ifd (fun e => h1 (V.int.inj e)) fun e => h2 fun z => e (by rw [z])
theorem map_at {ns : List Int} {i : Nat} {x : V} (h : (ns.map V.int)[i]? = some x) : ∃ z, ns[i]? = some z ∧ x = V.int z := by
  rw [List.getElem?_map] at h
  cases e : ns[i]? with
  | none => rw [e] at h; cases h
  | some z => rw [e] at h; exact ⟨z, rfl, (Option.some.inj h).symm⟩
theorem same_new {H : Hp} {p : Addr} {o : HO} (h : H p = none) : Same H (upd H p o) := fun b x e => (upd_ne (ne_of_none e h)).trans e
theorem take_at {α : Type} {l : List α} {i : Nat} {x : α} (h : l[i]? = some x) : l.take (i + 1) = l.take i ++ [x] := by
  rw [List.take_add_one, h]; rfl
theorem ite_t {c : Bool} {A B : Prop} (e : c = true) (h : A) : if c = true then A else B := by rw [if_pos e]; exact h
theorem ite_f {c : Bool} {A B : Prop} (e : c = false) (h : B) : if c = true then A else B := by rw [if_neg (by rw [e]; exact Bool.false_ne_true)]; exact h
def vk : V → Nat
  | .non => 0 | .bl _ => 1 | .int _ => 2 | .str _ => 3 | .byt _ => 4 | .flt _ => 5 | .ref _ => 6 | .ty _ => 7
theorem clash_ne {x y : V} (h : (vk x != vk y) = true) : ¬ x = y := fun e => by
  subst e
  simp at h
theorem qdec {Q : VK} {H : Hp} {p : Prop} [Decidable p] (h : p) (q : Q (.bl true) H) : Q (.bl (decide p)) H := by rw [decide_eq_true h]; exact q
theorem nd_t {p : Prop} [Decidable p] (h : ¬ p) : (!decide p) = true := by rw [decide_eq_false h]; rfl
theorem nd_f {p : Prop} [Decidable p] (h : p) : (!decide p) = false := by rw [decide_eq_true h]; rfl
theorem r_andr {α : Sort _} {a : α} {P : Prop} (h : P) : a = a ∧ P := ⟨rfl, h⟩
theorem r_andv (h : ta σ H fun x H1 => ∃ c, x = .bl c ∧ if c = true then tb σ H1 Q else Q (.bl false) H1) : tAndV ta tb σ H Q := h
theorem r_orv (h : ta σ H fun x H1 => ∃ c, x = .bl c ∧ if c = true then Q (.bl true) H1 else tb σ H1 Q) : tOrV ta tb σ H Q := h
theorem r_notv (h : ta σ H fun x H1 => ∃ c, x = .bl c ∧ Q (.bl (!c)) H1) : tNotV ta σ H Q := h
/-! ### look-ups -/
theorem ne_ex {H : Hp} {a b : Addr} (h : ∃ o, H a = some o) (h' : H b = none) : a ≠ b := let ⟨_, e⟩ := h; ne_of_none e h'
theorem lk_ne {a b : Addr} {o u : HO} (h : b ≠ a) (e : H b = some o) : upd H a u b = some o := (upd_ne h).trans e
theorem lkn_ne {a b : Addr} {u : HO} (h : b ≠ a) (e : H b = none) : upd H a u b = none := (upd_ne h).trans e
end
/-! ### data -/
mutual
theorem dp_mono {K : PySem.W.Frag} {H H' : Hp} (e : Same H H') : ∀ {x : V} {d : PyData}, Dp K H x d → Dp K H' x d
  | _, _, .non => .non
  | _, _, .bl b => .bl b
  | _, _, .int i => .int i
  | _, _, .str x => .str x
  | _, _, .lst h a => .lst (e.seq h) (dpAll_mono e a)
  | _, _, .tup h a => .tup (by
      rcases h with (h | ⟨o, h⟩) | h
      · exact .inl (.inl (e _ _ h))
      · exact .inl (.inr ⟨o, e _ _ h⟩)
      · exact .inr h) (dpAll_mono e a)
theorem dpAll_mono {K : PySem.W.Frag} {H H' : Hp} (e : Same H H') : ∀ {xs : List V} {ds : List PyData}, DpAll K H xs ds → DpAll K H' xs ds
  | _, _, .nil => .nil
  | _, _, .cons a b => .cons (dp_mono e a) (dpAll_mono e b)
end
theorem dpAll_len {K : PySem.W.Frag} {H : Hp} : ∀ {xs : List V} {ds : List PyData}, DpAll K H xs ds → xs.length = ds.length
  | _, _, .nil => rfl
  | _, _, .cons _ b => by rw [List.length_cons, List.length_cons, dpAll_len b]
theorem dpAll_at {K : PySem.W.Frag} {H : Hp} : ∀ {xs : List V} {ds : List PyData} {i : Nat} {x : V}, DpAll K H xs ds → xs[i]? = some x → ∃ d, ds[i]? = some d ∧ Dp K H x d
  | _, _, _, _, .nil, e => by simp at e
  | _, _, 0, _, .cons a _, e => by simp at e; subst e; exact ⟨_, rfl, a⟩
  | _, _, i + 1, x, .cons _ b, e => by
    obtain ⟨d, h1, h2⟩ := dpAll_at (i := i) (x := x) b (by simpa using e)
    exact ⟨d, by simpa using h1, h2⟩
def tyN : PyData → String
  | .none => "NoneType" | .bool _ => "bool" | .int _ => "int" | .str _ => "str" | .list _ => "list" | .tuple _ => "tuple" | .dict _ => "dict"
theorem ty_of {K : PySem.W.Frag} {H : Hp} {x : V} {d : PyData} (h : Dp K H x d) : TyX K H x (.type (tyN d)) := by
  cases h with
  | non => exact .base .non
  | bl b => exact .base (.bl b)
  | int i => exact .base (.int i)
  | str x => exact .base (.str x)
  | lst h a =>
    rcases h with (h | ⟨o, h⟩) | ⟨o, its, n, l, c, _⟩
    · exact .base (.lst h)
    · exact .base (.frz h)
    · exact .kList l c
  | tup h a =>
    rcases h with (h | ⟨o, h⟩) | ⟨o, its, n, l, c, _⟩
    · exact .base (.tup h)
    · exact .fTuple h
    · exact .kTuple l c
def isTup : PyData → Bool
  | .tuple _ => true
  | _ => false
theorem kit_isTup {K : PySem.W.Frag} {H : Hp} {x : V} {d : PyData} (h : Dp K H x d) : PySem.W.kitOne K (.type (tyN d)) (.type "tuple") = some (isTup d) := by
  cases h with
  | non => exact kit_ty (show kitB "NoneType" "tuple" = some false by decide +kernel)
  | bl => exact kit_ty (show kitB "bool" "tuple" = some false by decide +kernel)
  | int => exact kit_ty (show kitB "int" "tuple" = some false by decide +kernel)
  | str => exact kit_ty (show kitB "str" "tuple" = some false by decide +kernel)
  | lst => exact kit_ty (show kitB "list" "tuple" = some false by decide +kernel)
  | tup => exact kit_ty (show kitB "tuple" "tuple" = some true by decide +kernel)
theorem r_isTup {K : PySem.W.Frag} {H : Hp} {x : V} {d : PyData} {b : Bool} {Q : VK} (h : Dp K H x d) (e : isTup d = b) (q : Q (.bl b) H) : rIsi K [x, .ty "tuple"] H Q :=
  ⟨x, .ty "tuple", _, _, b, rfl, .ty _, ty_of h, by rw [← e]; exact kit_isTup h, q⟩
def isLst : PyData → Bool
  | .list _ => true
  | _ => false
theorem kit_isLst {K : PySem.W.Frag} {H : Hp} {x : V} {d : PyData} (h : Dp K H x d) : PySem.W.kitOne K (.type (tyN d)) (.type "list") = some (isLst d) := by
  cases h with
  | non => exact kit_ty (show kitB "NoneType" "list" = some false by decide +kernel)
  | bl => exact kit_ty (show kitB "bool" "list" = some false by decide +kernel)
  | int => exact kit_ty (show kitB "int" "list" = some false by decide +kernel)
  | str => exact kit_ty (show kitB "str" "list" = some false by decide +kernel)
  | lst => exact kit_ty (show kitB "list" "list" = some true by decide +kernel)
  | tup => exact kit_ty (show kitB "tuple" "list" = some false by decide +kernel)
theorem r_isLst {K : PySem.W.Frag} {H : Hp} {x : V} {d : PyData} {b : Bool} {Q : VK} (h : Dp K H x d) (e : isLst d = b) (q : Q (.bl b) H) : rIsi K [x, .ty "list"] H Q :=
  ⟨x, .ty "list", _, _, b, rfl, .ty _, ty_of h, by rw [← e]; exact kit_isLst h, q⟩
def isBl : PyData → Bool
  | .bool _ => true
  | _ => false
theorem kit_isBl {K : PySem.W.Frag} {H : Hp} {x : V} {d : PyData} (h : Dp K H x d) : PySem.W.kitOne K (.type (tyN d)) (.type "bool") = some (isBl d) := by
  cases h with
  | non => exact kit_ty (show kitB "NoneType" "bool" = some false by decide +kernel)
  | bl => exact kit_ty (show kitB "bool" "bool" = some true by decide +kernel)
  | int => exact kit_ty (show kitB "int" "bool" = some false by decide +kernel)
  | str => exact kit_ty (show kitB "str" "bool" = some false by decide +kernel)
  | lst => exact kit_ty (show kitB "list" "bool" = some false by decide +kernel)
  | tup => exact kit_ty (show kitB "tuple" "bool" = some false by decide +kernel)
theorem r_isBl {K : PySem.W.Frag} {H : Hp} {x : V} {d : PyData} {b : Bool} {Q : VK} (h : Dp K H x d) (e : isBl d = b) (q : Q (.bl b) H) : rIsi K [x, .ty "bool"] H Q :=
  ⟨x, .ty "bool", _, _, b, rfl, .ty _, ty_of h, by rw [← e]; exact kit_isBl h, q⟩
def isIn : PyData → Bool
  | .bool _ => true
  | .int _ => true
  | _ => false
theorem kit_isIn {K : PySem.W.Frag} {H : Hp} {x : V} {d : PyData} (h : Dp K H x d) : PySem.W.kitOne K (.type (tyN d)) (.type "int") = some (isIn d) := by
  cases h with
  | non => exact kit_ty (show kitB "NoneType" "int" = some false by decide +kernel)
  | bl => exact kit_ty (show kitB "bool" "int" = some true by decide +kernel)
  | int => exact kit_ty (show kitB "int" "int" = some true by decide +kernel)
  | str => exact kit_ty (show kitB "str" "int" = some false by decide +kernel)
  | lst => exact kit_ty (show kitB "list" "int" = some false by decide +kernel)
  | tup => exact kit_ty (show kitB "tuple" "int" = some false by decide +kernel)
theorem r_isIn {K : PySem.W.Frag} {H : Hp} {x : V} {d : PyData} {b : Bool} {Q : VK} (h : Dp K H x d) (e : isIn d = b) (q : Q (.bl b) H) : rIsi K [x, .ty "int"] H Q :=
  ⟨x, .ty "int", _, _, b, rfl, .ty _, ty_of h, by rw [← e]; exact kit_isIn h, q⟩
def isSt : PyData → Bool
  | .str _ => true
  | _ => false
theorem kit_isSt {K : PySem.W.Frag} {H : Hp} {x : V} {d : PyData} (h : Dp K H x d) : PySem.W.kitOne K (.type (tyN d)) (.type "str") = some (isSt d) := by
  cases h with
  | non => exact kit_ty (show kitB "NoneType" "str" = some false by decide +kernel)
  | bl => exact kit_ty (show kitB "bool" "str" = some false by decide +kernel)
  | int => exact kit_ty (show kitB "int" "str" = some false by decide +kernel)
  | str => exact kit_ty (show kitB "str" "str" = some true by decide +kernel)
  | lst => exact kit_ty (show kitB "list" "str" = some false by decide +kernel)
  | tup => exact kit_ty (show kitB "tuple" "str" = some false by decide +kernel)
theorem r_isSt {K : PySem.W.Frag} {H : Hp} {x : V} {d : PyData} {b : Bool} {Q : VK} (h : Dp K H x d) (e : isSt d = b) (q : Q (.bl b) H) : rIsi K [x, .ty "str"] H Q :=
  ⟨x, .ty "str", _, _, b, rfl, .ty _, ty_of h, by rw [← e]; exact kit_isSt h, q⟩
/-- an item of a list or a tuple -/
def rIxA (K : PySem.W.Frag) : R2 := fun x y H Q => ∃ p xs i v, x = .ref p ∧ y = .int i ∧ (SqL K H p xs ∨ SqT K H p xs) ∧ atI xs i = some v ∧ Q v H
theorem ix_a {X : Cx} : IxR X (rIxA X.K) := fun a b c d e f g h i j k l m o ⟨p, xs, n, v, h1, h2, h3, h4, q⟩ => by
  rcases h3 with h3 | h3
  · exact ix_list a b c d e f g h i j k l m o ⟨p, xs, n, v, h1, h2, h3, h4, q⟩
  · exact ix_tup a b c d e f g h i j k l m o ⟨p, xs, n, v, h1, h2, h3, h4, q⟩
theorem ix_aK {X : Cx} {K : PySem.W.Frag} (e : X.K = K) : IxR X (rIxA K) := by subst e; exact ix_a
def rLenS (K : PySem.W.Frag) : List V → Hp → VK → Prop := fun xs H Q => ∃ p ys, xs = [.ref p] ∧ (SqL K H p ys ∨ SqT K H p ys) ∧ Q (.int ys.length) H
theorem call_lenK {X : Cx} {K : PySem.W.Frag} (e : X.K = K) : CallR X (.builtin "len") (rLenS K) := by subst e; exact call_len_seq
theorem r_lens {K : PySem.W.Frag} {H : Hp} {p : Addr} {xs : List V} {Q : VK} (e : SqL K H p xs ∨ SqT K H p xs) (h : Q (.int xs.length) H) : rLenS K [.ref p] H Q := ⟨p, xs, rfl, e, h⟩
theorem cr_allK {X : Cx} {K : PySem.W.Frag} (e : X.K = K) (hc : X.calm = true) : CallR X (.builtin "all") (rAll K) := by subst e; exact cr_all hc
theorem call_isiK' {X : Cx} {K : PySem.W.Frag} (e : X.K = K) : CallR X (.builtin "isinstance") (rIsi K) := by subst e; exact call_isi
theorem r_ixa {K : PySem.W.Frag} {H : Hp} {p : Addr} {i : Int} {xs : List V} {v : V} {Q : VK} (e : SqL K H p xs ∨ SqT K H p xs) (hi : atI xs i = some v) (h : Q v H) : rIxA K (.ref p) (.int i) H Q := ⟨p, xs, i, v, rfl, rfl, e, hi, h⟩
/-- a list or a tuple of data -/
inductive DSeq (K : PySem.W.Frag) (H : Hp) : V → List PyData → Prop
  | mk {a : Addr} {xs : List V} {ds : List PyData} : (SqL K H a xs ∨ SqT K H a xs) → DpAll K H xs ds → DSeq K H (.ref a) ds
end Wn
namespace Wn
open PySem PySem.Spec PyProof.Rows L2
theorem has_ne {H : Hp} {a b : Addr} {u : HO} (h : b ≠ a) (e : ∃ o, H b = some o) : ∃ o, upd H a u b = some o := let ⟨o, z⟩ := e; ⟨o, (upd_ne h).trans z⟩
section
variable {σ σ' : L2.St} {H : Hp} {Q : VK} {D : Ends} {ta tb te to : TE} {tl : TA} {K : PySem.W.Frag}
theorem r_bm {T : String} {r : V → List V → Hp → VK → Prop} (h : to σ H fun x H1 => tyV K T x H1 ∧ tl σ H1 fun xs H2 => r x xs H2 Q) : tBM K T r to tl σ H Q := h
theorem r_tyl {p : Addr} {xs : List V} {P : Prop} (e : H p = some (.lst xs)) (h : P) : tyV K "list" (.ref p) H ∧ P := ⟨.inl ⟨rfl, xs, SqL.of e⟩, h⟩
theorem r_ext {l b : Addr} {xs zs : List V} (h1 : H l = some (.lst xs)) (h2 : H b = some (.lst zs)) (hz : xs.length + zs.length ≤ sizeLine) (q : Q .non (upd H l (.lst (xs ++ zs)))) : rExtend (.ref l) [.ref b] H Q :=
  ⟨l, b, xs, zs, rfl, rfl, h1, h2, hz, q⟩
theorem r_cat {l b : Addr} {xs zs : List V} (h1 : H l = some (.lst xs)) (h2 : H b = some (.lst zs)) (hz : xs.length + zs.length ≤ sizeLine) (q : ∀ p, H p = none → Q (.ref p) (upd H p (.lst (xs ++ zs)))) : rCat (.ref l) (.ref b) H Q :=
  ⟨l, b, xs, zs, rfl, rfl, h1, h2, hz, q⟩
theorem same_upd {H H' : Hp} {p : Addr} {o : HO} (s : Same H H') (n : H p = none) : Same H (upd H' p o) := fun b x e => (upd_ne (ne_of_none e n)).trans (s b x e)
end
end Wn
/-! Wn: set(xs) of a list or a tuple whose items have any kind of key. -/
namespace WnSet
open PySem PySem.Spec PyProof.Rows
section
variable {κ : Type} [DecidableEq κ] [BEq κ] [LawfulBEq κ]
/-- how many different ones are among the first i -/
def cnt (xs : List κ) : Nat → Nat
  | 0 => 0
  | i + 1 => match xs[i]? with
    | some x => if (xs.take i).any (· == x) then cnt xs i else cnt xs i + 1
    | none => cnt xs i
theorem cnt_le (xs : List κ) : ∀ i, cnt xs i ≤ i
  | 0 => Nat.le_refl _
  | i + 1 => by
    have ih := cnt_le xs i
    unfold cnt
    split
    · split <;> omega
    · omega
theorem cnt_nodup {xs : List κ} (h : xs.Nodup) : ∀ i, i ≤ xs.length → cnt xs i = i
  | 0, _ => rfl
  | i + 1, hi => by
    have ih := cnt_nodup h i (by omega)
    have e : xs[i]? = some xs[i] := List.getElem?_eq_getElem (by omega)
    unfold cnt
    rw [e]
    dsimp only
    rw [ih, if_neg]
    intro q
    obtain ⟨y, hy, z⟩ := List.any_eq_true.mp q
    have z' : y = xs[i] := beq_iff_eq.mp z
    rw [z'] at hy
    obtain ⟨j, hj, ej⟩ := List.mem_take_iff_getElem.mp hy
    have hj' : j < i := by omega
    exact (List.pairwise_iff_getElem.mp h) j i (by omega) (by omega) hj' ej
theorem take_any {xs : List κ} {i : Nat} {x : κ} (e : xs[i]? = some x) (y : κ) : (xs.take (i + 1)).any (· == y) = ((xs.take i).any (· == y) || decide (y = x)) := by
  rw [List.take_add_one, e, List.any_append]
  by_cases h : y = x
  · subst h
    simp
  · have hb : (x == y) = false := by simpa [beq_iff_eq] using fun q : x = y => h q.symm
    simp [hb, h]
end
section
variable {prog : Program} {w : World} {A : Around} {R : Result → Shared → Prop} {I : Addr} {fp wr : List Addr} {G : Array GenState → Array GenState → Prop} {n : Nat} {P : Nat → Value → Prop} {St : Nat → Shared → Prop}
  {κ : Type} [DecidableEq κ] [BEq κ] [LawfulBEq κ]
theorem turns (knd : KeyKind prog w κ) (W : WalksS prog w A.in1 I fp wr G n P St) (S : Addr) (away : S ∉ fp) (xs : List κ) (room : n + 1 < scanBound)
    (item : ∀ i v, P i v → ∃ k, xs[i]? = some k ∧ knd.is k v = true ∧ v.scannable = true) :
    ∀ (k i : Nat) (s : Shared), n - i = k → i ≤ n → St i s → s.heap.SetOf knd S (fun y => (xs.take i).any (· == y)) (cnt xs i) →
      (∀ s', Moved (S :: wr) G s s' → s'.heap.SetOf knd S (fun y => (xs.take n).any (· == y)) (cnt xs n) → R (.ok (.ret .none)) s') →
      codeAny (model prog w) A (.builtin "set.update.loop" ⟨[.ref S, .ref I], []⟩) R s := by
  have away2 : S ∉ wr := fun z => away (W.sub _ z)
  have more : ∀ b ∈ wr, b ∈ S :: wr := fun b z => List.mem_cons_of_mem _ z
  intro k
  induction k with
  | zero =>
    intro i s hk hi st hS fin
    obtain rfl : i = n := by omega
    refine codeAny_builtin PyProof.Rows.F.entry_set_update_loop ?_
    rw [Around.under_plainId
      PyProof.Rows.F.plain_set_update_loop _]
    show wpAny _ A.in1 (pyNext (.ref I) >>= _)
      _ _ s
    refine wpAny_bind (W.done s _ _ st fun s2 mv => ?_)
    show wpAny _ A.in1 (ret Value.none) _ _ s2
    obtain ⟨o, es, ep, t, ho, tail⟩ := hS
    exact wpAny_pure (fin s2 (mv.mono more) ⟨o, es, ep, t, mv.heap S _ away2 ho, tail⟩)
  | succ k ih =>
    intro i s hk hi st hS fin
    have lt : i < n := by omega
    refine codeAny_builtin PyProof.Rows.F.entry_set_update_loop ?_
    rw [Around.under_plainId
      PyProof.Rows.F.plain_set_update_loop _]
    show wpAny _ A.in1 (pyNext (.ref I) >>= _)
      _ _ s
    refine wpAny_bind (W.item i s _ _ lt st fun v s2 pv st2 mv => ?_)
    obtain ⟨x, ex, ix, sx⟩ := item i v pv
    have hS2 : s2.heap.SetOf knd S (fun y => (xs.take i).any (· == y)) (cnt xs i) := by
      obtain ⟨o, es, ep, t, ho, tail⟩ := hS
      exact ⟨o, es, ep, t, mv.heap S _ away2 ho, tail⟩
    show wpAny _ A.in1 (holding [v] (setAdd S v) >>= _) _ _ s2
    refine wpAny_bind (wpAny_holding ?_)
    unfold setAdd
    refine wpAny_holding ?_
    refine wpAny_bind (knd.pyHash (k := x) ix ?_)
    have few := cnt_le xs i
    refine wpAny_setAddHashed_of (knd := knd) (s := { s2 with toks := s2.toks + 1 }) ix sx hS2 (by omega) fun h2 sb hS3 => ?_
    have hS4 : h2.SetOf knd S (fun y => (xs.take (i + 1)).any (· == y)) (cnt xs (i + 1)) := by
      refine SetOf_congr hS3 (fun y => (take_any ex y).symm) ?_
      rw [show cnt xs (i + 1) = if (xs.take i).any (· == x) then cnt xs i else cnt xs i + 1 by
        rw [cnt, ex]]
    refine wpAny_pure ⟨plainId_quiet PyProof.Rows.F.plain_set_update_loop _, ih (i + 1) _ (by omega) lt (W.frame _ s2 _ _ st2 (Nat.le_succ _) fun b hb o e => ?_) hS4 fun s3 mv3 hS5 => ?_⟩
    · rw [sb.2 b fun z : b = S => away (by rw [← z]; exact hb)]
      exact e
    · refine fin s3 (Moved.trans W.gtrans ((mv.mono more).then_heap (Nat.le_succ _) fun b o hb e => ?_) mv3) hS5
      rw [sb.2 b fun z : b = S => hb (by rw [z]; exact List.mem_cons_self)]
      exact e
end
section
/-- the new set -/
def fresh (led : Bool) : Obj := { cls := .type "set", dict := none, data := .set #[] 0 (.fresh 0 0 led) }
variable {prog : Program} {w : World} {A : Around} {E : Value → Shared → Prop} {s : Shared} {κ : Type} [DecidableEq κ] [BEq κ] [LawfulBEq κ]
set_option maxHeartbeats 8000000 in
theorem call_set_list {l : Addr} {its : Array Value} (knd : KeyKind prog w κ) {xs : List κ} {Q : Value → Shared → Prop} (calm : A.handled = none) (hl : s.heap.IsList l its) (room : its.size + 1 < scanBound)
    (item : ∀ (i : Nat) (v : Value), its[i]? = some v → ∃ k, xs[i]? = some k ∧ knd.is k v = true ∧ v.scannable = true)
    (h : ∀ (h' : Heap) (tk : Nat), h'.SetOf knd s.heap.objs.size (fun y => (xs.take its.size).any (· == y)) (cnt xs its.size) →
      (∀ b o, b < s.heap.objs.size → s.heap.get? b = some o → h'.get? b = some o) → Q (.ref s.heap.objs.size) { s with heap := h', toks := tk }) :
    wpAny (model prog w) A (call (.type "set") [.ref l]) Q E s := by
  obtain ⟨c, tl, m1⟩ := PySem.F.called_set.mro
  have m2 := PySem.F.called_set.made
  have m3 := PySem.F.called_set.sub
  refine wpAny_call
    (codeAny_of_tree ?_)
  show wpAny _ _ (callAny (.type "set")
    _) _ _ _
  refine wpAny_pure ⟨Code.quiet_builtin _
    (by decide +kernel), codeAny_builtin PySem.F.entry_type_call ?_⟩
  rw [Around.under_plain (weight_type_call_type "set"
    [.ref l] []) rfl]
  have m4 := PySem.F.called_set.notType
  have m5 := PySem.F.called_set.canCreate
  have m6 := PySem.F.typeCall_set_1 (.ref l)
  repeat (any_goals
    (first | assumption | wp_step))
  refine codeAny_mono (code_set_new_1 (.ref l) (E := E) (Q₁ := fun ob s2 => ∃ led : Bool, ob = .ref s.heap.objs.size ∧
    s2 = { s with heap := s.heap.push (fresh led) }) fun led => ⟨led, rfl, rfl⟩) fun r s2 hr => ?_
  cases r with
  | error e => exact hr
  | ok fl =>
    cases fl with
    | ret ob =>
      obtain ⟨led, rfl, rfl⟩ := hr
      have eS : (s.heap.push (fresh led)).get? s.heap.objs.size = some (fresh led) := Heap.get?_push_size _ rfl
      have tS : Shared.TypeIs { s with heap := s.heap.push (fresh led) } (.ref s.heap.objs.size) "set" := ⟨_, eS, rfl⟩
      have m7 := PySem.F.called_set.init.lookup
      have m8 := PySem.F.called_set.init.bind
        (.ref s.heap.objs.size)
      repeat (any_goals
        (first | assumption | wp_step))
      refine codeAny_mono (codeAny_call_builtin (R := wants (fun r s3 => r = .none ∧ ∃ h' tk, s3 = { s with heap := h', toks := tk } ∧ h'.SetOf knd s.heap.objs.size (fun y => (xs.take its.size).any (· == y)) (cnt xs its.size) ∧
        (∀ b o, b < s.heap.objs.size → s.heap.get? b = some o → h'.get? b = some o)) E) PySem.F.called_set.init.plain
          PySem.F.entry_set_init (check_set_init_1 tS ?_)) fun r3 s3 hr3 => ?_
      · obtain ⟨ol, e1, e2, nl, e3⟩ := hl
        obtain ⟨oc, od, odt, osl⟩ := ol
        simp only at e2 e3
        subst e2
        subst e3
        have e4 : (s.heap.push (fresh led)).get? l = some { cls := .type "list", dict := od, data := .seq its nl, slots := osl } := Heap.get?_push_of_some _ e1
        have m9 := PySem.F.sub_list_set
        have m10 := PySem.F.sub_list_frozenset
        have m11 : (Value.type "list"
          == Value.type "dict") = false := by decide
        have hl1 : (s.heap.push (fresh led)).IsList l its := ⟨_, e4, rfl, nl, rfl⟩
        have m12 : (fresh led).cls = .type "set" := rfl
        unfold fresh at *
        unfold Builtin.«set.__init__» noKeywords
          Builtin.Frozenset.updateFrom
        generalize hPI : pyIter = PI
        wp_walk
        subst hPI
        refine wpAny_pyIter_list hl1 ?_
        refine wpAny_bind
          (wpAny_runValue ?_)
        have below : l < s.heap.objs.size := Heap.lt_size e1
        have calm3 : A.in1.in1.in1.handled = none := by
          simp [calm]
        have apart : l ≠ (s.heap.push { cls := .type "set", dict := none, data := .set #[] 0 (.fresh 0 0 led) } : Heap).objs.size := by
          rw [Heap.size_push]
          exact Nat.ne_of_lt (Nat.lt_succ_of_lt below)
        have away : s.heap.objs.size ∉ [(s.heap.push { cls := .type "set", dict := none, data := .set #[] 0 (.fresh 0 0 led) } : Heap).objs.size, l] := by
          rw [Heap.size_push]
          simp only [List.mem_cons, List.not_mem_nil, or_false, not_or]
          exact ⟨Nat.ne_of_lt (Nat.lt_succ_self _), Nat.ne_of_gt below⟩
        refine turns knd ((Walks.list calm3 _ l apart its).toS) s.heap.objs.size away xs room item
          (its.size - 0) 0 _ (by omega) (Nat.zero_le _) ⟨⟨_, Heap.get?_push_size _ rfl, rfl, rfl⟩, (hl1.push _)⟩ ?g1 ?g2
        case g1 =>
          have e5 := Heap.get?_push_of_some ({ cls := .type "list_iterator", data := .fields #[.ref l, .int 0 0] } : Obj) eS
          exact PyProof.Rows.SetOf_congr ((PyProof.Rows.setObjOf_fresh (knd := knd) led).setOf e5
            (by unfold scanBound; omega)) (fun _ => rfl) rfl
        case g2 =>
          intro s4 mv hS4
          obtain ⟨h4, g4, d4, t4, os4⟩ := s4
          obtain rfl : g4 = s.gens := mv.gens
          obtain rfl : d4 = s.drawn := mv.drawn
          obtain rfl : os4 = s.os := mv.os
          show wpAny _ _ _ _ _ _
          refine wpAny_pure ?_
          show wpAny _ _ (ret Value.none)
            _ _ _
          refine wpAny_pure ⟨rfl, h4, t4, rfl, hS4, fun b o hb e => ?_⟩
          have n1 : b ≠ s.heap.objs.size := Nat.ne_of_lt hb
          have n2 : b ≠ (s.heap.push { cls := .type "set", dict := none, data := .set #[] 0 (.fresh 0 0 led) } : Heap).objs.size := by
            rw [Heap.size_push]
            exact Nat.ne_of_lt (Nat.lt_succ_of_lt hb)
          refine mv.heap b o ?_ (Heap.get?_push_of_some _ (Heap.get?_push_of_some _ e))
          simp only [List.mem_cons, List.not_mem_nil, or_false, not_or]
          exact ⟨n1, n2⟩
      · cases r3 with
        | error e => exact hr3
        | ok f3 =>
          cases f3 with
          | ret r =>
            obtain ⟨rfl, h', tk, rfl, hS', keep⟩ := hr3
            repeat (any_goals
              (first | assumption | wp_step))
            exact h _ _ hS' keep
          | _ => exact hr3.elim
    | _ => exact hr.elim
set_option maxHeartbeats 8000000 in
theorem call_set_tuple {l : Addr} {its : Array Value} (knd : KeyKind prog w κ) {xs : List κ} {Q : Value → Shared → Prop} (calm : A.handled = none) (hl : s.heap.IsTuple l its) (room : its.size + 1 < scanBound)
    (item : ∀ (i : Nat) (v : Value), its[i]? = some v → ∃ k, xs[i]? = some k ∧ knd.is k v = true ∧ v.scannable = true)
    (h : ∀ (h' : Heap) (tk : Nat), h'.SetOf knd s.heap.objs.size (fun y => (xs.take its.size).any (· == y)) (cnt xs its.size) →
      (∀ b o, b < s.heap.objs.size → s.heap.get? b = some o → h'.get? b = some o) → Q (.ref s.heap.objs.size) { s with heap := h', toks := tk }) :
    wpAny (model prog w) A (call (.type "set") [.ref l]) Q E s := by
  obtain ⟨c, tl, m1⟩ := PySem.F.called_set.mro
  have m2 := PySem.F.called_set.made
  have m3 := PySem.F.called_set.sub
  refine wpAny_call
    (codeAny_of_tree ?_)
  show wpAny _ _ (callAny (.type "set")
    _) _ _ _
  refine wpAny_pure ⟨Code.quiet_builtin _
    (by decide +kernel), codeAny_builtin PySem.F.entry_type_call ?_⟩
  rw [Around.under_plain (weight_type_call_type "set"
    [.ref l] []) rfl]
  have m4 := PySem.F.called_set.notType
  have m5 := PySem.F.called_set.canCreate
  have m6 := PySem.F.typeCall_set_1 (.ref l)
  repeat (any_goals
    (first | assumption | wp_step))
  refine codeAny_mono (code_set_new_1 (.ref l) (E := E) (Q₁ := fun ob s2 => ∃ led : Bool, ob = .ref s.heap.objs.size ∧
    s2 = { s with heap := s.heap.push (fresh led) }) fun led => ⟨led, rfl, rfl⟩) fun r s2 hr => ?_
  cases r with
  | error e => exact hr
  | ok fl =>
    cases fl with
    | ret ob =>
      obtain ⟨led, rfl, rfl⟩ := hr
      have eS : (s.heap.push (fresh led)).get? s.heap.objs.size = some (fresh led) := Heap.get?_push_size _ rfl
      have tS : Shared.TypeIs { s with heap := s.heap.push (fresh led) } (.ref s.heap.objs.size) "set" := ⟨_, eS, rfl⟩
      have m7 := PySem.F.called_set.init.lookup
      have m8 := PySem.F.called_set.init.bind
        (.ref s.heap.objs.size)
      repeat (any_goals
        (first | assumption | wp_step))
      refine codeAny_mono (codeAny_call_builtin (R := wants (fun r s3 => r = .none ∧ ∃ h' tk, s3 = { s with heap := h', toks := tk } ∧ h'.SetOf knd s.heap.objs.size (fun y => (xs.take its.size).any (· == y)) (cnt xs its.size) ∧
        (∀ b o, b < s.heap.objs.size → s.heap.get? b = some o → h'.get? b = some o)) E) PySem.F.called_set.init.plain
          PySem.F.entry_set_init (check_set_init_1 tS ?_)) fun r3 s3 hr3 => ?_
      · obtain ⟨ol, e1, e2, nl, e3⟩ := hl
        obtain ⟨oc, od, odt, osl⟩ := ol
        simp only at e2 e3
        subst e2
        subst e3
        have e4 : (s.heap.push (fresh led)).get? l = some { cls := .type "tuple", dict := od, data := .seq its nl, slots := osl } := Heap.get?_push_of_some _ e1
        have m9 := PySem.F.sub_tuple_set
        have m10 := PySem.F.sub_tuple_frozenset
        have m11 : (Value.type "tuple"
          == Value.type "dict") = false := by decide
        have hl1 : (s.heap.push (fresh led)).IsTuple l its := ⟨_, e4, rfl, nl, rfl⟩
        have m12 : (fresh led).cls = .type "set" := rfl
        unfold fresh at *
        unfold Builtin.«set.__init__» noKeywords
          Builtin.Frozenset.updateFrom
        generalize hPI : pyIter = PI
        wp_walk
        subst hPI
        refine wpAny_pyIter_tuple hl1 ?_
        refine wpAny_bind
          (wpAny_runValue ?_)
        have below : l < s.heap.objs.size := Heap.lt_size e1
        have calm3 : A.in1.in1.in1.handled = none := by
          simp [calm]
        have apart : l ≠ (s.heap.push { cls := .type "set", dict := none, data := .set #[] 0 (.fresh 0 0 led) } : Heap).objs.size := by
          rw [Heap.size_push]
          exact Nat.ne_of_lt (Nat.lt_succ_of_lt below)
        have away : s.heap.objs.size ∉ [(s.heap.push { cls := .type "set", dict := none, data := .set #[] 0 (.fresh 0 0 led) } : Heap).objs.size, l] := by
          rw [Heap.size_push]
          simp only [List.mem_cons, List.not_mem_nil, or_false, not_or]
          exact ⟨Nat.ne_of_lt (Nat.lt_succ_self _), Nat.ne_of_gt below⟩
        refine turns knd ((Walks.tuple calm3 _ l apart its).toS) s.heap.objs.size away xs room item
          (its.size - 0) 0 _ (by omega) (Nat.zero_le _) ⟨⟨_, Heap.get?_push_size _ rfl, rfl, rfl⟩, (hl1.push _)⟩ ?g1 ?g2
        case g1 =>
          have e5 := Heap.get?_push_of_some ({ cls := .type "tuple_iterator", data := .fields #[.ref l, .int 0 0] } : Obj) eS
          exact PyProof.Rows.SetOf_congr ((PyProof.Rows.setObjOf_fresh (knd := knd) led).setOf e5
            (by unfold scanBound; omega)) (fun _ => rfl) rfl
        case g2 =>
          intro s4 mv hS4
          obtain ⟨h4, g4, d4, t4, os4⟩ := s4
          obtain rfl : g4 = s.gens := mv.gens
          obtain rfl : d4 = s.drawn := mv.drawn
          obtain rfl : os4 = s.os := mv.os
          show wpAny _ _ _ _ _ _
          refine wpAny_pure ?_
          show wpAny _ _ (ret Value.none)
            _ _ _
          refine wpAny_pure ⟨rfl, h4, t4, rfl, hS4, fun b o hb e => ?_⟩
          have n1 : b ≠ s.heap.objs.size := Nat.ne_of_lt hb
          have n2 : b ≠ (s.heap.push { cls := .type "set", dict := none, data := .set #[] 0 (.fresh 0 0 led) } : Heap).objs.size := by
            rw [Heap.size_push]
            exact Nat.ne_of_lt (Nat.lt_succ_of_lt hb)
          refine mv.heap b o ?_ (Heap.get?_push_of_some _ (Heap.get?_push_of_some _ e))
          simp only [List.mem_cons, List.not_mem_nil, or_false, not_or]
          exact ⟨n1, n2⟩
      · cases r3 with
        | error e => exact hr3
        | ok f3 =>
          cases f3 with
          | ret r =>
            obtain ⟨rfl, h', tk, rfl, hS', keep⟩ := hr3
            repeat (any_goals
              (first | assumption | wp_step))
            exact h _ _ hS' keep
          | _ => exact hr3.elim
    | _ => exact hr.elim
end
end WnSet
/-! Wn: len(set(xs)) of texts, any number of them. -/
namespace Wn
open PySem PySem.Spec PyProof.Rows L2
theorem boot_setT : bootBuiltins "set" = some (.type "set") := by decide +kernel
def tLenSetN (K : PySem.W.Frag) (ta : TE) : TE := fun σ H Q => ta σ H fun x H1 => ∃ (l : Addr) (xs : List Str), x = .ref l ∧ (SqL K H1 l (xs.map V.str) ∨ SqT K H1 l (xs.map V.str)) ∧ xs.length ≤ 1000 ∧ Q (.int (WnSet.cnt xs xs.length)) H1
theorem key_at : ∀ {xs : List Str} {us : List Value} {P : Program} {w : World} (i : Nat) (v : Value), Vals (xs.map V.str) us → us[i]? = some v → ∃ k, xs[i]? = some k ∧ (strKind P w).is k v = true ∧ v.scannable = true
  | [], _, _, _, i, v, .nil, h => by simp at h
  | x :: xs, _, P, w, 0, v, .cons r t, h => by
    obtain ⟨tk, rfl⟩ := r
    simp at h
    subst h
    exact ⟨x, rfl, strKind_is _ _ _ _, rfl⟩
  | x :: xs, _, P, w, i + 1, v, .cons r t, h => by
    obtain ⟨k, h1, h2⟩ := key_at (xs := xs) (P := P) (w := w) i v t (by simpa using h)
    exact ⟨k, by simpa using h1, h2⟩
section
variable {X : Cx} {a : Expr} {ta : TE} {p p2 q pos : Pos}
theorem pe_lenSetK {K : PySem.W.Frag} (eK : X.K = K) (hc : X.calm = true) (hg : Gl X "len") (hm : X.mg "len" = none) (hg2 : Gl X "set") (hm2 : X.mg "set" = none) (ha : PE X a ta)
    (na : starEach [a] X.env = (false, eval a X.env) :: starEach [] X.env := by rfl) : PE X (.Call (.Name "len" p) [.Call (.Name "set" p2) [a] [] q] [] pos) (tLenSetN K ta) := by
  subst eK
  refine ⟨fun pins s σ H Q I h => ?_⟩
  refine Call_ (ld_blt I hg hm PySem.boot_len ?_)
  refine PyProof.Rows.callWith_builtin1 (PyProof.Rows.args_cons ?_ rfl) rfl rfl
  refine Call_ (ld_blt I hg2 hm2 (boot_setT) ?_)
  refine PyProof.Rows.callWith_type1
    (PyProof.Rows.args_cons (thn (ha.run pins s σ H _ I h) fun v s1 ⟨x, H1, I1, r1, q1⟩ => PyProof.Rows.args_nil ?_) na) na rfl
  obtain ⟨l, xs, rfl, hq, few, q1⟩ := q1
  cases r1
  have last : ∀ (its : List Value), Vals (xs.map V.str) its → ∀ (h' : Heap) (tk : Nat), h'.SetOf (strKind X.prog X.w) s1.heap.objs.size (fun y => (xs.take its.toArray.size).any (· == y)) (WnSet.cnt xs its.toArray.size) →
      (∀ b o, b < s1.heap.objs.size → s1.heap.get? b = some o → h'.get? b = some o) →
      wpAny (model X.prog X.w) X.A (spliced (backTo pos (starEach [] X.env)))
        (fun vs s2 => wpAny (model X.prog X.w) X.A (call (.builtin "len") (Value.ref s1.heap.objs.size :: vs)) (EP X pins σ Q) X.xe s2) X.xe { s1 with heap := h', toks := tk } := fun its r h' tk hS keep => by
    refine PyProof.Rows.args_nil ?_
    have e1 : its.toArray.size = xs.length := by
      rw [List.size_toArray, ← r.length, List.length_map]
    rw [e1] at hS
    obtain ⟨o, es, ep, t, ho, hex, hd, _, _, _, hf, hn⟩ := hS
    have I2 : Inv X pins σ H1 { s1 with heap := h', toks := tk } := I1.kept fun b o e => keep b o (Heap.lt_size e) e
    have c1 := WnSet.cnt_le xs xs.length
    refine call_len_set ho hex hd hf (by rw [hn] <;> omega) ⟨.int (WnSet.cnt xs xs.length), H1, I2.tok _, ⟨_, by rw [hn]⟩, q1⟩
  have room : ∀ its : List Value, Vals (xs.map V.str) its → its.toArray.size + 1 < scanBound := fun its r => by
    rw [List.size_toArray, ← r.length, List.length_map]
    unfold scanBound
    omega
  rcases hq with hq | hq
  · obtain ⟨its, r, pl, hz⟩ := I1.list hq
    exact WnSet.call_set_list (strKind X.prog X.w) (I1.ok.hd hc) pl.isList (room its r) (fun i v e => key_at i v r (by simpa using e)) fun h' tk hS k => last its r h' tk hS k
  · obtain ⟨its, r, pl, hz⟩ := I1.tuple hq
    exact WnSet.call_set_tuple (strKind X.prog X.w) (I1.ok.hd hc) pl (room its r) (fun i v e => key_at i v r (by simpa using e)) fun h' tk hS k => last its r h' tk hS k
end
end Wn
/-! Wn: rules with the written part named (so that a block of a comprehension may use them), and their answers. -/
namespace Wn
open PySem PySem.Spec PyProof.Rows L2
section
variable {X : Cx} {K : PySem.W.Frag} {tg l : Expr} {tl : TE}
theorem pi_listK (e : X.K = K) (h : PE X l tl) : PI X tg l (iList K tl) := by subst e; exact pi_list h
theorem pi_tupK (e : X.K = K) (h : PE X l tl) : PI X tg l (iTup K tl) := by subst e; exact pi_tup h
theorem pg_tupK {es : List Expr} {k n : Nat} {t : TGs} {pos : Pos} (e : X.K = K) (hc : X.calm = true) (h : PGs X es t)
    (hn : (assignEach es X.env).length = n := by rfl) (hst : (assignEach es X.env).findIdx? (·.1) = none := by rfl) : PG X (.Tuple es k pos) (gTup K n t) := by subst e; exact pg_tup hc h hn hst
def rTupL (K : PySem.W.Frag) : List V → Hp → VK → Prop := fun xs H Q => ∃ p ys, xs = [.ref p] ∧ SqL K H p ys ∧ ∀ q, H q = none → Q (.ref q) (upd H q (.tup ys))
theorem call_tupleK (e : X.K = K) : CallR X (.type "tuple") (rTupL K) := by
  subst e
  exact fun a b c d f g h i j ⟨p, ys, h1, h2, q⟩ => call_tuple_of a b c d f g h i j ⟨p, ys, h1, .inl ⟨h2, q⟩⟩
/-- a text in a list or tuple of texts -/
def rInS (K : PySem.W.Frag) (neg : Bool) : R2 := fun x y H Q => ∃ (p : Addr) (z : Str) (zs : List Str), x = .str z ∧ y = .ref p ∧ (SqL K H p (zs.map V.str) ∨ SqT K H p (zs.map V.str)) ∧ Q (.bl (if neg then !decide (z ∈ zs) else decide (z ∈ zs))) H
theorem inV_str (z : Str) : ∀ zs : List Str, inV (.str z) (zs.map V.str) = decide (z ∈ zs)
  | [] => rfl
  | y :: zs => by
    have ih := inV_str z zs
    unfold inV at ih ⊢
    rw [List.map_cons, List.any_cons, ih]
    by_cases h : y = z
    · subst h
      simp [eqV]
    · have h' : ¬ z = y := fun q => h q.symm
      simp [eqV, h, h']
theorem flat_strs : ∀ zs : List Str, (zs.map V.str).all flatV = true
  | [] => rfl
  | y :: zs => by rw [List.map_cons, List.all_cons, flat_strs zs]; rfl
theorem op_in_strsK (e : X.K = K) : OpR X (compareOp .In) (rInS K false) := by
  subst e
  exact fun a b c d f g h i j k m n ⟨p, z, zs, h1, h2, h3, q⟩ => op_in_seq a b c d f g h i j k m n ⟨p, _, h2, h3, by rw [h1]; rfl, flat_strs zs, by rw [h1]; simp only [inV_str]; exact q⟩
theorem op_notin_strsK (e : X.K = K) : OpR X (compareOp .NotIn) (rInS K true) := by
  subst e
  exact fun a b c d f g h i j k m n ⟨p, z, zs, h1, h2, h3, q⟩ => op_notIn_seq a b c d f g h i j k m n ⟨p, _, h2, h3, by rw [h1]; rfl, flat_strs zs, by rw [h1]; simp only [inV_str]; exact q⟩
end
section
variable {σ : L2.St} {H : Hp} {Q : VK} {K : PySem.W.Frag} {ta tb tc te : TE}
theorem r_chain {r r' : R2} (h : ta σ H fun x H1 => tb σ H1 fun y H2 => r x y H2 fun z H3 => ∃ k, z = .bl k ∧ (if k = true then tc σ H3 fun w' H4 => r' y w' H4 Q else Q (.bl false) H3)) : tChain r r' ta tb tc σ H Q := h
theorem r_ins {neg : Bool} {p : Addr} {z : Str} {zs : List Str} (e : SqL K H p (zs.map V.str) ∨ SqT K H p (zs.map V.str)) (q : Q (.bl (if neg then !decide (z ∈ zs) else decide (z ∈ zs))) H) : rInS K neg (.str z) (.ref p) H Q := ⟨p, z, zs, rfl, rfl, e, q⟩
end
/-! ### names -/
def nameB (z : Str) : Bool := decide (1 ≤ z.length) && decide (z.length ≤ 8) && z.cps.toList.all fun c => decide (97 ≤ c) && decide (c ≤ 122)
theorem nameB_len {z : Str} (h : nameB z = true) : 1 ≤ z.length ∧ z.length ≤ 8 := by
  unfold nameB at h
  simp only [Bool.and_eq_true, decide_eq_true_eq] at h
  exact h.1
theorem nameB_at {z : Str} (h : nameB z = true) {i : Nat} {c : Nat} (e : z.cps[i]? = some c) : 97 ≤ c ∧ c ≤ 122 := by
  unfold nameB at h
  simp only [Bool.and_eq_true, decide_eq_true_eq, List.all_eq_true] at h
  refine h.2 c ?_
  rw [Array.mem_toList_iff]
  exact Array.mem_of_getElem? e
end Wn
namespace Wn
open PySem PySem.Spec PyProof.Rows L2
/-- a comprehension over a text's signs -/
theorem lc_text {z : Str} {g : TG} {tt : TT} {te : TE} {vs : List Nat} {σ : L2.St} {H1 : Hp} {D : Addr} {Qd : Hp → Prop} (Pv : Nat → Hp → Prop) (h0 : Pv 0 (upd H1 D (.lst [])))
    (turn : ∀ i c H, z.cps[i]? = some c → Pv i H → g (.str ⟨#[c]⟩) (wipe σ vs) H fun σ2 H2 => wipe σ2 vs = wipe σ vs ∧ tt σ2 H2 fun b H3 =>
      if b = true then te σ2 H3 fun y H4 => ∃ acc, H4 D = some (.lst acc) ∧ acc.length < sizeLine ∧ Pv (i + 1) (upd H4 D (.lst (acc ++ [y]))) else Pv (i + 1) H3)
    (last : ∀ H, Pv z.cps.size H → Qd H) :
    ∃ W : Nat → Nat → Hp → Prop, (∃ m, W 0 m (upd H1 D (.lst []))) ∧ ∀ i m H, W i m H →
      ((Its z).stop i H ∧ Qd H) ∨ ((Its z).go i H ∧ ∃ Nx : Hp → Prop, (∀ H', Nx H' → ∃ m', m' < m ∧ W (i + 1) m' H') ∧ ∀ x H', (Its z).yld i H x H' → g x (wipe σ vs) H' fun σ2 H2 => wipe σ2 vs = wipe σ vs ∧
        tt σ2 H2 fun b H3 => if b = true then te σ2 H3 fun y H4 => ∃ acc, H4 D = some (.lst acc) ∧ acc.length < sizeLine ∧ Nx (upd H4 D (.lst (acc ++ [y]))) else Nx H3) := by
  refine ⟨fun i m H => m = z.cps.size - i ∧ i ≤ z.cps.size ∧ Pv i H, ⟨z.cps.size, by simp, Nat.zero_le _, h0⟩, ?_⟩
  intro i m H hW
  obtain ⟨e, hi, p⟩ := hW
  subst e
  by_cases lt : i < z.cps.size
  · refine .inr ⟨lt, Pv (i + 1), fun H' p' => ⟨z.cps.size - (i + 1), by omega, rfl, lt, p'⟩, fun x H' y => ?_⟩
    obtain ⟨e1, c, ec, e2⟩ := y
    subst e1 e2
    exact turn i c _ ec p
  · have e : i = z.cps.size := by omega
    subst e
    exact .inl ⟨Nat.le_refl _, last H p⟩
def rLenStr : List V → Hp → VK → Prop := fun xs H Q => ∃ z, xs = [.str z] ∧ z.length ≤ sizeLine ∧ Q (.int z.length) H
theorem call_lenStr {X : Cx} : CallR X (.builtin "len") rLenStr := fun a b c d e f g h i ⟨z, h1, h2, q⟩ => call_len_str a b c d e f g h i ⟨z, h1, h2, q⟩
theorem r_lenstr {H : Hp} {Q : VK} {z : Str} (e : z.length ≤ sizeLine) (q : Q (.int z.length) H) : rLenStr [.str z] H Q := ⟨z, rfl, e, q⟩
end Wn
/-! Wn: tuples known to the object (no dict of their own), so that their methods may be called. -/
namespace Wn
open PySem PySem.Spec PyProof.Rows L2
/-- a plain tuple stands at p -/
def PTup (H : Hp) (p : Addr) (xs : List V) : Prop := ∃ o, H p = some (.frz o (.tup xs)) ∧ o.dict = none ∧ o.cls = .type "tuple"
theorem PTup.sq {K : PySem.W.Frag} {H : Hp} {p : Addr} {xs : List V} (h : PTup H p xs) : SqT K H p xs := let ⟨o, e, _⟩ := h; .inl (.inr ⟨o, e⟩)
theorem PTup.mono {H H' : Hp} {p : Addr} {xs : List V} (s : Same H H') (h : PTup H p xs) : PTup H' p xs := let ⟨o, e, r⟩ := h; ⟨o, s _ _ e, r⟩
section
variable {X : Cx} {K : PySem.W.Frag}
def rTupF (K : PySem.W.Frag) : List V → Hp → VK → Prop := fun xs H Q => ∃ p ys, xs = [.ref p] ∧ SqL K H p ys ∧ ∀ (q : Addr) (o : Obj), H q = none → o.dict = none → o.cls = .type "tuple" → Q (.ref q) (upd H q (.frz o (.tup ys)))
theorem call_tupleFK (e : X.K = K) : CallR X (.type "tuple") (rTupF K) := by
  subst e
  intro pins s σ H xs us Q I r h
  obtain ⟨p, ys, rfl, hq, q⟩ := h
  obtain ⟨u, rfl, rx⟩ := vals1 r
  cases rx
  obtain ⟨its, rv, pl, hz⟩ := I.list hq
  have hlen := rv.length
  refine call_tuple_list pl.isList (fun h2 kp => ?_)
    (by simp only [List.size_toArray] <;> omega)
  have I1 : Inv X pins σ H { s with heap := h2 } := I.kept (t' := s.toks) kp
  let ob : Obj := { cls := .type "tuple", data := .seq its.toArray }
  have at' : (h2.push ob).get? h2.objs.size = some ob := Heap.get?_push_size _ rfl
  have I2 : Inv X pins σ (upd H h2.objs.size (.frz ob (.tup ys))) { s with heap := h2.push ob } :=
    I1.laid (t' := s.toks) (fun b o e => Heap.get?_push_of_some _ e) (Nat.le_refl _) ⟨at', hz, its, rv, IsTup.new _ _⟩
  exact ⟨.ref h2.objs.size, _, I2, rfl, q _ ob (I1.hok.fresh (Nat.le_refl _)) rfl rfl⟩
def tBT (r : V → List V → Hp → VK → Prop) (to : TE) (t : TA) : TE := fun σ H Q => to σ H fun x H1 => (∃ p xs, x = .ref p ∧ PTup H1 p xs) ∧ t σ H1 fun vs H2 => r x vs H2 Q
variable {o e : Expr} {es : List Expr} {to : TE} {t : TA} {name : Str} {apos cpos : Pos} {id : String} {r : V → List V → Hp → VK → Prop}
/-- t.m(e, ..), t a plain tuple -/
theorem pe_bt (slot : Slot "tuple" name id) (hty : typeOf (.builtin id) = pure (.type "method_descriptor")) (hm : MtR X id r) (ho : PE X o to) (ha : PA X (e :: es) t)
    (hbase : attributeBase o name X.env (eval o X.env) = eval o X.env := by rfl)
    (hfew : ((backTo cpos (starEach (e :: es) X.env)).all (fun x => !x.1) && (backToKw cpos (keywordEach [] X.env)).all (fun x => x.1.isSome) && decide ((e :: es).length + ([] : List Keyword).length + (if ([] : List Keyword).isEmpty then 0 else 1) < 30)) = true := by rfl)
    (hline : (apos.endLine == cpos.line) = true := by rfl) (hs : starEach (e :: es) X.env = (false, eval e X.env) :: starEach es X.env := by rfl)
    (hplain : (backTo cpos (starEach es X.env)).any (·.1) = false := by rfl) : PE X (.Call (.Attribute o name apos) (e :: es) [] cpos) (tBT r to t) := by
  refine ⟨fun pins s σ H Q I h => ?_⟩
  refine wpAny_Call_method_late hbase hfew hline rfl
    (thn (ho.run pins s σ H _ I h) fun v s1 ⟨x, H1, I1, r1, ty, q1⟩ => ?_)
  obtain ⟨p, xs, rfl, ob, ep, hd, hcl⟩ := ty
  obtain rfl : v = Value.ref p := r1
  have hat := (I1.hok p _ ep).1
  refine ⟨"tuple", id, PySem.F.plainAttrs_tuple, slot, hty, ⟨ob, hat, hcl⟩, fun a e2 => ?_, ?_⟩
  · cases e2
    exact ⟨ob, hat, hd⟩
  · have hA := ha.run cpos pins s1 σ H1 _ I1 q1
    rw [hs] at hA ⊢
    refine Calls.callWith_builtin (by
      show (false || (backTo cpos (starEach es X.env)).any (·.1)) = false
      rw [hplain]
      rfl) (Calls.evalArgs_plain ?_)
    exact thn hA fun us s2 ⟨vs, H2, I2, r2, q2⟩ => hm pins s2 σ H2 (.ref p) vs (.ref p) us Q I2 rfl r2 q2
/-- the first place of a text -/
def idx : List Str → Str → Nat
  | [], _ => 0
  | y :: ys, z => if y = z then 0 else idx ys z + 1
theorem idx_at : ∀ {ys : List Str} {z : Str}, z ∈ ys → ys[idx ys z]? = some z
  | y :: ys, z, h => by
    unfold idx
    by_cases e : y = z
    · rw [if_pos e, e]; rfl
    · rw [if_neg e]
      have h2 : z ∈ ys := by
        rcases List.mem_cons.mp h with q | q
        · exact absurd q.symm e
        · exact q
      simpa using idx_at h2
theorem idx_min : ∀ {ys : List Str} {z : Str} {m : Nat}, m < idx ys z → ys[m]? ≠ some z
  | [], z, m, h => by simp
  | y :: ys, z, m, h => by
    unfold idx at h
    by_cases e : y = z
    · rw [if_pos e] at h
      exact absurd h (Nat.not_lt_zero _)
    · rw [if_neg e] at h
      cases m with
      | zero => simpa using e
      | succ m => simpa using idx_min (ys := ys) (z := z) (m := m) (by omega)
theorem idx_of {ys : List Str} {z : Str} {i : Nat} (n : ys.Nodup) (h : ys[i]? = some z) : idx ys z = i := by
  have m : z ∈ ys := List.mem_of_getElem? h
  have h2 := idx_at m
  have hi : i < ys.length := (List.getElem?_eq_some_iff.mp h).1
  have hj : idx ys z < ys.length := (List.getElem?_eq_some_iff.mp h2).1
  exact (List.getElem?_inj hj n).mp (by rw [h2, h])
def rTI (K : PySem.W.Frag) : V → List V → Hp → VK → Prop := fun x xs H Q => ∃ (p : Addr) (ys : List Str) (z : Str), x = .ref p ∧ xs = [.str z] ∧ SqT K H p (ys.map V.str) ∧ z ∈ ys ∧ Q (.int (idx ys z : Nat)) H
theorem mt_tiK (eK : X.K = K) : MtR X "tuple.index" (rTI K) := by
  subst eK
  exact fun a b c d f g h i j k l n ⟨p, ys, z, h1, h2, h3, h4, q⟩ => mt_tup_index a b c d f g h i j k l n ⟨p, ys, z, idx ys z, h1, h2, h3, idx_at h4, fun m hm => idx_min hm, q⟩
def rLI (K : PySem.W.Frag) : V → List V → Hp → VK → Prop := fun x xs H Q => ∃ (p : Addr) (ys : List Str) (z : Str), x = .ref p ∧ xs = [.str z] ∧ SqL K H p (ys.map V.str) ∧ z ∈ ys ∧ Q (.int (idx ys z : Nat)) H
theorem eqV_str {y z : Str} : eqV (.str y) (.str z) = decide (y = z) := by
  by_cases h : y = z
  · subst h; simp [eqV]
  · simp [eqV, h]
theorem mt_liK (eK : X.K = K) : MtR X "list.index" (rLI K) := by
  subst eK
  exact fun a b c d f g h i j k l n ⟨p, ys, z, h1, h2, h3, h4, q⟩ => mt_index a b c d f g h i j k l n ⟨p, _, .str z, idx ys z, .str z, h1, h2, h3, rfl, flat_strs ys, by rw [List.getElem?_map, idx_at h4]; rfl, by rw [eqV_str]; exact decide_eq_true rfl, fun m z' hm e => by
    rw [List.getElem?_map] at e
    cases e2 : ys[m]? with
    | none => rw [e2] at e; cases e
    | some y =>
      rw [e2] at e
      have e3 : V.str y = z' := Option.some.inj e
      subst e3
      rw [eqV_str]
      exact decide_eq_false fun e4 => idx_min hm (by rw [e2, e4]), q⟩
theorem pe_fldK {f : Str} {pos : Pos} {e : Expr} {ta : TE} (eK : X.K = K) (he : PE X e ta) (hb : attributeBase e f X.env (eval e X.env) = eval e X.env) : PE X (.Attribute e f pos) (tFld K ta f) := by
  subst eK
  exact pe_fld he hb
end
section
variable {K : PySem.W.Frag} {H : Hp} {Q : VK} {σ : L2.St} {to : TE} {t : TA}
theorem r_bt {r : V → List V → Hp → VK → Prop} (h : to σ H fun x H1 => (∃ p xs, x = .ref p ∧ PTup H1 p xs) ∧ t σ H1 fun vs H2 => r x vs H2 Q) : tBT r to t σ H Q := h
theorem r_pt {p : Addr} {xs : List V} {A : Prop} (e : PTup H p xs) (h : A) : (∃ q ys, V.ref p = .ref q ∧ PTup H q ys) ∧ A := ⟨⟨p, xs, rfl, e⟩, h⟩
theorem r_ti {p : Addr} {ys : List Str} {z : Str} (e : SqT K H p (ys.map V.str)) (m : z ∈ ys) (q : Q (.int (idx ys z : Nat)) H) : rTI K (.ref p) [.str z] H Q := ⟨p, ys, z, rfl, rfl, e, m, q⟩
theorem r_li {p : Addr} {ys : List Str} {z : Str} (e : SqL K H p (ys.map V.str)) (m : z ∈ ys) (q : Q (.int (idx ys z : Nat)) H) : rLI K (.ref p) [.str z] H Q := ⟨p, ys, z, rfl, rfl, e, m, q⟩
def FldW (K : PySem.W.Frag) (f : Str) (x : V) (H1 : Hp) (Q : VK) : Prop := ∃ a C dx fs v, x = .ref a ∧ H1 a = some (.ins C dx fs) ∧ Cls K C ∧ NoAttr K C f ∧ fs.lookup f = some v ∧ Q v H1
theorem r_fld {f : Str} (h : to σ H fun x H1 => FldW K f x H1 Q) : tFld K to f σ H Q := h
def MthW (C : Addr) (m : Str) (x : V) (H1 : Hp) (A : Prop) : Prop := ∃ a dx fs, x = .ref a ∧ H1 a = some (.ins C dx fs) ∧ fs.lookup m = none ∧ A
theorem r_meth {C : Addr} {m : Str} {sp : Sp} {dvs : List V} {E : XK} (h : to σ H fun x H1 => MthW C m x H1 (t σ H1 fun vs H2 => sp (x :: (vs ++ dvs)) H2 Q E)) : tMeth C m sp dvs E to t σ H Q := h
end
end Wn
/-! Wn: an if whose ways meet again in one place. -/
namespace Wn
open PySem PySem.Spec PyProof.Rows L2
/-- as tIfJ, but no step goes into it before the meeting place is named -/
def tIfK (c : TT) (t u : TS) : TS := tIfJ c t u
theorem ps_ifk {X : Cx} {c : Expr} {a b : List Stmt} {pos : Pos} {tc : TT} {t u : TS} (hc : PT X c tc) (ha : PSs X a t) (hb : PSs X b u) : PS X (.If c a b pos) (tIfK tc t u) := ps_if hc ha hb
theorem if_cut {c : TT} {t u : TS} {D : Ends} {σ : L2.St} {H : Hp} (P : L2.St → Hp → Prop) (h1 : ∀ σ' H', P σ' H' → D.nx σ' H') (h2 : (∀ σ' H', P σ' H' → tJoin D.nx σ' H') → tIfJ c t u D σ H) : tIfK c t u D σ H := h2 h1
section
variable {σ : L2.St} {H : Hp} {K : PySem.W.Frag} {tl : TA} {te : TE} {R : It → Hp → Prop}
theorem r_rng1 (h : tl σ H fun vs H1 => ∃ j : Int, vs = [.int j] ∧ -(2 ^ 62) ≤ j ∧ j < 2 ^ 62 ∧ R (Itr 0 j.toNat) H1) : iRng1 tl σ H R := h
theorem r_ilist (h : te σ H fun x H1 => ∃ a, x = .ref a ∧ (∃ xs, SqL K H1 a xs) ∧ R (Itl K a) H1) : iList K te σ H R := h
theorem r_itup (h : te σ H fun x H1 => ∃ a, x = .ref a ∧ (∃ xs, SqT K H1 a xs) ∧ R (Itt K a) H1) : iTup K te σ H R := h
theorem r_istr (h : te σ H fun v H1 => ∃ x, v = .str x ∧ R (Its x) H1) : iStr te σ H R := h
end
def ForW (J : It) (g : TG) (tb : TS) (D : Ends) (σ : L2.St) (H1 : Hp) : Prop := ∃ W : Nat → Nat → L2.St → Hp → Prop, (∃ m, W 0 m σ H1) ∧ ∀ i m σ H, W i m σ H →
  (J.stop i H ∧ D.nx σ H) ∨ (J.go i H ∧ ∃ N : L2.St → Hp → Prop, (∀ σ' H', N σ' H' → ∃ m', m' < m ∧ W (i + 1) m' σ' H') ∧ ∀ x H', J.yld i H x H' → g x σ H' fun σ2 H2 => tb { D with nx := N, ct := N, bk := D.nx } σ2 H2)
def LcW (J : It) (g : TG) (tt : TT) (te : TE) (vs : List Nat) (σ : L2.St) (H1 : Hp) (Q : VK) : Prop := ∀ D, H1 D = none → ∃ W : Nat → Nat → Hp → Prop, (∃ m, W 0 m (upd H1 D (.lst []))) ∧ ∀ i m H, W i m H →
  (J.stop i H ∧ Q (.ref D) H) ∨ (J.go i H ∧ ∃ Nx : Hp → Prop, (∀ H', Nx H' → ∃ m', m' < m ∧ W (i + 1) m' H') ∧ ∀ x H', J.yld i H x H' → g x (wipe σ vs) H' fun σ2 H2 => wipe σ2 vs = wipe σ vs ∧ tt σ2 H2 fun b H3 =>
    if b = true then te σ2 H3 fun y H4 => ∃ acc, H4 D = some (.lst acc) ∧ acc.length < sizeLine ∧ Nx (upd H4 D (.lst (acc ++ [y]))) else Nx H3)
section
variable {σ : L2.St} {H : Hp} {K : PySem.W.Frag} {Q : VK} {D : Ends} {wi : TI} {g : TG} {tb : TS} {tt : TT} {te : TE} {vs : List Nat}
theorem r_for (h : wi σ H fun J H1 => ForW J g tb D σ H1) : tFor wi g tb D σ H := h
theorem r_lc (h : wi σ H fun J H1 => LcW J g tt te vs σ H1 Q) : tLc wi g tt te vs σ H Q := h
theorem fl_list {a : Addr} {xs : List V} (hS : SqL K H a xs) (Pv : Nat → L2.St → Hp → Prop) (h0 : Pv 0 σ H) (hl : ∀ i σ H, i ≤ xs.length → Pv i σ H → SqL K H a xs) (hs : ∀ i x σ H, xs[i]? = some x → Pv i σ H → g x σ H fun σ2 H2 => tb { D with nx := Pv (i + 1), ct := Pv (i + 1), bk := D.nx } σ2 H2)
    (hd : ∀ σ H, Pv xs.length σ H → D.nx σ H) : ∃ a', V.ref a = .ref a' ∧ (∃ xs, SqL K H a' xs) ∧ ForW (Itl K a') g tb D σ H := ⟨a, rfl, ⟨_, hS⟩, for_list Pv h0 hl hs hd⟩
theorem fl_tup {a : Addr} {xs : List V} (hS : SqT K H a xs) (Pv : Nat → L2.St → Hp → Prop) (h0 : Pv 0 σ H) (hl : ∀ i σ H, i ≤ xs.length → Pv i σ H → SqT K H a xs) (hs : ∀ i x σ H, xs[i]? = some x → Pv i σ H → g x σ H fun σ2 H2 => tb { D with nx := Pv (i + 1), ct := Pv (i + 1), bk := D.nx } σ2 H2)
    (hd : ∀ σ H, Pv xs.length σ H → D.nx σ H) : ∃ a', V.ref a = .ref a' ∧ (∃ xs, SqT K H a' xs) ∧ ForW (Itt K a') g tb D σ H := ⟨a, rfl, ⟨_, hS⟩, for_tup Pv h0 hl hs hd⟩
theorem fl_rng {x : Int} {n : Nat} (hn : x.toNat = n) (h1 : -(2 ^ 62) ≤ x) (h2 : x < 2 ^ 62) (Pv : Nat → L2.St → Hp → Prop) (h0 : Pv 0 σ H) (hs : ∀ i σ H, i < n → Pv i σ H → g (.int (0 + i)) σ H fun σ2 H2 => tb { D with nx := Pv (i + 1), ct := Pv (i + 1), bk := D.nx } σ2 H2)
    (hd : ∀ σ H, Pv n σ H → D.nx σ H) : ∃ j : Int, [V.int x] = [.int j] ∧ -(2 ^ 62) ≤ j ∧ j < 2 ^ 62 ∧ ForW (Itr 0 j.toNat) g tb D σ H := ⟨x, rfl, h1, h2, by rw [hn]; exact for_range Pv h0 hs hd⟩
/-- what is a tuple stays one -/
def SmT (K : PySem.W.Frag) (H H' : Hp) : Prop := ∀ (a : Addr) (xs : List V), SqT K H a xs → SqT K H' a xs
theorem same_smT {K : PySem.W.Frag} {H H' : Hp} (s : Same H H') : SmT K H H' := fun a xs h => by
  rcases h with (h | ⟨o, h⟩) | h
  · exact .inl (.inl (s _ _ h))
  · exact .inl (.inr ⟨o, s _ _ h⟩)
  · exact .inr h
theorem smT_upd {H : Hp} {D : Addr} {ys zs : List V} (e : H D = some (.lst ys)) : SmT K H (upd H D (.lst zs)) := fun a xs h => by
  rcases h with (h | ⟨o, h⟩) | h
  · exact .inl (.inl (lk_ne (ne_of h e (by intro z; cases z)) h))
  · exact .inl (.inr ⟨o, lk_ne (ne_of h e (by intro z; cases z)) h⟩)
  · exact .inr h
theorem map_at_app {f : Nat → Hp → V → Prop} {H4 : Hp} {ys : List V} {y : V} {i : Nat} (hl : ys.length = i) (h1 : ∀ (j : Nat) (z : V), ys[j]? = some z → f j H4 z) (h2 : f i H4 y) : ∀ (j : Nat) (z : V), (ys ++ [y])[j]? = some z → f j H4 z := fun j z hz => by
  by_cases hj : j < i
  · rw [List.getElem?_append_left (by rw [hl]; exact hj)] at hz
    exact h1 j z hz
  · have hji : j = i := by
      have := (List.getElem?_eq_some_iff.mp hz).1
      rw [List.length_append, hl] at this
      have : j < i + 1 := this
      omega
    subst hji
    rw [List.getElem?_append_right (by rw [hl]; exact Nat.le_refl _), hl, Nat.sub_self] at hz
    cases hz
    exact h2
/-! comprehensions without a test whose items are made one by one, all else staying -/
theorem cl_turn {D : Addr} {H0 H' : Hp} {ys : List V} {i : Nat} (f : Nat → Hp → V → Prop) (mono : ∀ i y H H', SmT K H H' → f i H y → f i H' y) (hi : i < 1000) (nD : H0 D = none) (sm : Same H0 H') (hD : H' D = some (.lst ys)) (hl : ys.length = i) (hf : ∀ (j : Nat) (y : V), ys[j]? = some y → f j H' y)
    (y : V) (H4 : Hp) (s4 : Same H' H4) (fy : f i H4 y) : ∃ acc, H4 D = some (.lst acc) ∧ acc.length < sizeLine ∧ Same H0 (upd H4 D (.lst (acc ++ [y]))) ∧ ∃ ys, (upd H4 D (.lst (acc ++ [y]))) D = some (.lst ys) ∧ ys.length = i + 1 ∧ ∀ (j : Nat) (z : V), ys[j]? = some z → f j (upd H4 D (.lst (acc ++ [y]))) z := by
  have h4 := s4 _ _ hD
  refine ⟨ys, h4, by rw [hl]; exact Nat.lt_of_lt_of_le hi (by decide), fun b o e => (upd_ne (ne_of_none e nD)).trans (s4 _ _ (sm _ _ e)), ys ++ [y], upd_same, by rw [List.length_append, hl]; rfl, ?_⟩
  refine map_at_app (f := f) hl (fun j z hz => mono _ _ _ _ (smT_upd h4) (mono _ _ _ _ (same_smT s4) (hf j z hz))) (mono _ _ _ _ (smT_upd h4) fy)
theorem cl_list {a : Addr} {xs : List V} (hS : SqL K H a xs) (h3 : xs.length ≤ 1000) (f : Nat → Hp → V → Prop) (mono : ∀ i y H H', SmT K H H' → f i H y → f i H' y)
    (turn : ∀ i x, xs[i]? = some x → ∀ (H' : Hp) (N : VK), Same H H' → (∀ y H4, Same H' H4 → f i H4 y → N y H4) → g x (wipe σ vs) H' fun σ2 H2 => wipe σ2 vs = wipe σ vs ∧ te σ2 H2 N)
    (last : ∀ (H' : Hp) (D : Addr) (ys : List V), Same H H' → H D = none → H' D = some (.lst ys) → ys.length = xs.length → (∀ (j : Nat) (y : V), ys[j]? = some y → f j H' y) → Q (.ref D) H') :
    ∃ a', V.ref a = .ref a' ∧ (∃ xs, SqL K H a' xs) ∧ LcW (Itl K a') g tYes te vs σ H Q :=
  ⟨a, rfl, ⟨_, hS⟩, fun D nD => lc_list (fun i H' => Same H H' ∧ ∃ ys, H' D = some (.lst ys) ∧ ys.length = i ∧ ∀ (j : Nat) (y : V), ys[j]? = some y → f j H' y) ⟨same_new nD, [], upd_same, rfl, fun j y h => by simp at h⟩ (fun i H' _ h => h.1.seq hS)
    (fun i x H' hi ⟨sm, ys, hD, hl, hf⟩ => turn i x hi H' _ sm (fun y H4 s4 fy => cl_turn (K := K) f mono (Nat.lt_of_lt_of_le (List.getElem?_eq_some_iff.mp hi).1 h3) nD sm hD hl hf y H4 s4 fy))
    (fun H' ⟨sm, ys, hD, hl, hf⟩ => last H' D ys sm nD hD hl hf)⟩
theorem cl_tup {a : Addr} {xs : List V} (hS : SqT K H a xs) (h3 : xs.length ≤ 1000) (f : Nat → Hp → V → Prop) (mono : ∀ i y H H', SmT K H H' → f i H y → f i H' y)
    (turn : ∀ i x, xs[i]? = some x → ∀ (H' : Hp) (N : VK), Same H H' → (∀ y H4, Same H' H4 → f i H4 y → N y H4) → g x (wipe σ vs) H' fun σ2 H2 => wipe σ2 vs = wipe σ vs ∧ te σ2 H2 N)
    (last : ∀ (H' : Hp) (D : Addr) (ys : List V), Same H H' → H D = none → H' D = some (.lst ys) → ys.length = xs.length → (∀ (j : Nat) (y : V), ys[j]? = some y → f j H' y) → Q (.ref D) H') :
    ∃ a', V.ref a = .ref a' ∧ (∃ xs, SqT K H a' xs) ∧ LcW (Itt K a') g tYes te vs σ H Q :=
  ⟨a, rfl, ⟨_, hS⟩, fun D nD => lc_tup (fun i H' => Same H H' ∧ ∃ ys, H' D = some (.lst ys) ∧ ys.length = i ∧ ∀ (j : Nat) (y : V), ys[j]? = some y → f j H' y) ⟨same_new nD, [], upd_same, rfl, fun j y h => by simp at h⟩ (fun i H' _ h => same_smT h.1 _ _ hS)
    (fun i x H' hi ⟨sm, ys, hD, hl, hf⟩ => turn i x hi H' _ sm (fun y H4 s4 fy => cl_turn (K := K) f mono (Nat.lt_of_lt_of_le (List.getElem?_eq_some_iff.mp hi).1 h3) nD sm hD hl hf y H4 s4 fy))
    (fun H' ⟨sm, ys, hD, hl, hf⟩ => last H' D ys sm nD hD hl hf)⟩
theorem cl_rng {x : Int} {n : Nat} (hn : x.toNat = n) (h3 : n ≤ 1000) (h1 : -(2 ^ 62) ≤ x) (h2 : x < 2 ^ 62) (f : Nat → Hp → V → Prop) (mono : ∀ i y H H', SmT K H H' → f i H y → f i H' y)
    (turn : ∀ i, i < n → ∀ (H' : Hp) (N : VK), Same H H' → (∀ y H4, Same H' H4 → f i H4 y → N y H4) → g (.int (0 + i)) (wipe σ vs) H' fun σ2 H2 => wipe σ2 vs = wipe σ vs ∧ te σ2 H2 N)
    (last : ∀ (H' : Hp) (D : Addr) (ys : List V), Same H H' → H D = none → H' D = some (.lst ys) → ys.length = n → (∀ (j : Nat) (y : V), ys[j]? = some y → f j H' y) → Q (.ref D) H') :
    ∃ j : Int, [V.int x] = [.int j] ∧ -(2 ^ 62) ≤ j ∧ j < 2 ^ 62 ∧ LcW (Itr 0 j.toNat) g tYes te vs σ H Q :=
  ⟨x, rfl, h1, h2, by
    rw [hn]
    exact fun D nD => lc_range (fun i H' => Same H H' ∧ ∃ ys, H' D = some (.lst ys) ∧ ys.length = i ∧ ∀ (j : Nat) (y : V), ys[j]? = some y → f j H' y) ⟨same_new nD, [], upd_same, rfl, fun j y h => by simp at h⟩
      (fun i H' hi ⟨sm, ys, hD, hl, hf⟩ => turn i hi H' _ sm (fun y H4 s4 fy => cl_turn (K := K) f mono (Nat.lt_of_lt_of_le hi h3) nD sm hD hl hf y H4 s4 fy))
      (fun H' ⟨sm, ys, hD, hl, hf⟩ => last H' D ys sm nD hD hl hf)⟩
theorem upd_upd {H : Hp} {D : Addr} {o u : HO} (h : H D = some o) : H = upd H D o := by
  funext x
  by_cases e : x = D
  · rw [e, upd_same, h]
  · rw [upd_ne e]
end
end Wn
/-! Wn: texts put together, names drawn. -/
namespace Wn
open PySem PySem.Spec PyProof.Rows L2
section
variable {H : Hp} {Q : VK} {K : PySem.W.Frag}
theorem r_adds {i j : Str} (e : i.length + j.length ≤ sizeLine) (q : Q (.str (i ++ j)) H) : (fun (x y : V) (H : Hp) (Q : VK) => ∃ i j, x = .str i ∧ y = .str j ∧ i.length + j.length ≤ sizeLine ∧ Q (.str (i ++ j)) H) (.str i) (.str j) H Q := ⟨i, j, rfl, rfl, e, q⟩
theorem r_ixs {z : Str} {i : Int} {c : Nat} (hz : z.length ≤ sizeLine) (e : atI z.cps.toList i = some c) (q : Q (.str ⟨#[c]⟩) H) : rIxS (.str z) (.int i) H Q := ⟨z, i, c, rfl, rfl, hz, e, q⟩
theorem r_sls {z : Str} {lo hi : Option Int} (hz : z.length ≤ sizeLine) (q : Q (.str (cutS z lo hi)) H) : rSlS (.str z) lo hi H Q := ⟨z, rfl, hz, q⟩
end
section
variable {σ : L2.St} {H : Hp} {Q : VK} {te : TE} {tl th : TO} {QO : Option Int → Hp → Prop}
theorem r_tsl {r : V → Option Int → Option Int → Hp → VK → Prop} (h : te σ H fun x H1 => tl σ H1 fun l H2 => th σ H2 fun u H3 => r x l u H3 Q) : L2.tSl r te tl th σ H Q := h
theorem r_nopart (h : QO none H) : tNoPart σ H QO := h
theorem r_part (h : te σ H fun x H1 => ∃ i, x = .int i ∧ QO (some i) H1) : tPart te σ H QO := h
theorem r_exint {i : Int} {P : Int → Prop} (h : P i) : ∃ j, V.int i = .int j ∧ P j := ⟨i, rfl, h⟩
theorem r_app {l : Addr} {xs : List V} {y : V} (e : H l = some (.lst xs)) (hz : xs.length < sizeLine) (q : Q .non (upd H l (.lst (xs ++ [y])))) : rAppend (.ref l) [y] H Q := ⟨l, xs, y, rfl, rfl, e, hz, q⟩
end
def lowB (z : Str) : Bool := z.cps.toList.all fun c => decide (97 ≤ c) && decide (c ≤ 122)
theorem nameB_mk {z : Str} (h1 : 1 ≤ z.length) (h8 : z.length ≤ 8) (h : lowB z = true) : nameB z = true := by
  unfold nameB
  unfold lowB at h
  rw [h, decide_eq_true h1, decide_eq_true h8]
  rfl
theorem nameB_low {z : Str} (h : nameB z = true) : lowB z = true := by
  unfold nameB at h
  simp only [Bool.and_eq_true] at h
  exact h.2
theorem app_len (z : Str) (c : Nat) : (z ++ (⟨#[c]⟩ : Str)).length = z.length + 1 := by
  show (z.cps ++ #[c]).size = z.cps.size + 1
  simp
theorem app_list (z : Str) (c : Nat) : (z ++ (⟨#[c]⟩ : Str)).cps.toList = z.cps.toList ++ [c] := by
  show (z.cps ++ #[c]).toList = z.cps.toList ++ [c]
  simp
theorem app_low {z : Str} {c : Nat} (h : lowB z = true) (h1 : 97 ≤ c) (h2 : c ≤ 122) : lowB (z ++ (⟨#[c]⟩ : Str)) = true := by
  unfold lowB at h ⊢
  rw [app_list, List.all_append, h]
  simp [h1, h2]
theorem app_inj {z : Str} {c d : Nat} (h : z ++ (⟨#[c]⟩ : Str) = z ++ (⟨#[d]⟩ : Str)) : c = d := by
  have e := congrArg (fun s : Str => s.cps.toList) h
  simp only [app_list] at e
  simpa using e
theorem sIx_cut (n : Nat) : HT.sIx n n (some 7) ≤ 7 := by
  rw [show HT.sIx n n (some 7) = min 7 n from HT.sIx_nat _ _ 7]
  exact Nat.min_le_left _ _
theorem cut7_len (z : Str) : (cutS z none (some 7)).length ≤ 7 := by
  show (((z.cps.toList.drop (HT.sIx z.length 0 none)).take (HT.sIx z.length z.length (some 7) - HT.sIx z.length 0 none)).toArray).size ≤ 7
  rw [List.size_toArray, List.length_take]
  have := sIx_cut z.length
  omega
theorem cut7_low {z : Str} (h : lowB z = true) : lowB (cutS z none (some 7)) = true := by
  unfold lowB at h ⊢
  rw [List.all_eq_true] at h ⊢
  intro c hc
  refine h c ?_
  have hc' : c ∈ ((z.cps.toList.drop (HT.sIx z.length 0 none)).take (HT.sIx z.length z.length (some 7) - HT.sIx z.length 0 none)) := by
    unfold cutS at hc
    simpa using hc
  exact List.mem_of_mem_drop (List.mem_of_mem_take hc')
theorem abc_list : (PySem.Str.ofString "abcdefghijklmnopqrstuvwxyz").cps.toList = (List.range 26).map (97 + ·) := by decide +kernel
theorem abc_len : (PySem.Str.ofString "abcdefghijklmnopqrstuvwxyz").length ≤ sizeLine := by decide +kernel
theorem abc_at {i : Int} (h0 : 0 ≤ i) (h : i < 26) : atI (PySem.Str.ofString "abcdefghijklmnopqrstuvwxyz").cps.toList i = some (97 + i.toNat) := by
  obtain ⟨k, rfl⟩ : ∃ k : Nat, i = (k : Int) := ⟨i.toNat, by omega⟩
  rw [abc_list]
  refine atI_nat ?_
  have hk : k < 26 := by omega
  rw [List.getElem?_map, List.getElem?_range hk]
  rfl
theorem r_ixabc {H : Hp} {Q : VK} {i : Int} (h0 : 0 ≤ i) (h : i < 26) (q : Q (.str ⟨#[97 + i.toNat]⟩) H) : rIxS (.str (PySem.Str.ofString "abcdefghijklmnopqrstuvwxyz")) (.int i) H Q := r_ixs abc_len (abc_at h0 h) q
theorem pig : ∀ (l zs : List Str), l.Nodup → (∀ x ∈ l, x ∈ zs) → l.length ≤ zs.length
  | [], _, _, _ => Nat.zero_le _
  | x :: t, zs, nd, s => by
    have hx := s x (List.mem_cons_self)
    have h2 := pig t (zs.erase x) (List.nodup_cons.mp nd).2 fun y hy => by
      have hne : y ≠ x := fun e => (List.nodup_cons.mp nd).1 (e ▸ hy)
      exact (List.mem_erase_of_ne hne).mpr (s y (List.mem_cons_of_mem _ hy))
    have h3 := List.length_erase_of_mem hx
    have h4 : 0 < zs.length := List.length_pos_of_mem hx
    rw [List.length_cons]
    omega
/-- the free names: one of 26 is free where at most three are taken -/
def cand (z : Str) (i : Nat) : Str := z ++ (⟨#[97 + i]⟩ : Str)
def freeL (z : Str) (zs : List Str) (n : Nat) : List Str := ((List.range n).map (cand z)).filter fun x => !decide (x ∈ zs)
theorem freeL_succ (z : Str) (zs : List Str) (n : Nat) : freeL z zs (n + 1) = freeL z zs n ++ (if (!decide (cand z n ∈ zs)) = true then [cand z n] else []) := by
  unfold freeL
  rw [List.range_succ, List.map_append, List.filter_append]
  congr 1
  simp only [List.map_cons, List.map_nil, List.filter_cons, List.filter_nil]
theorem freeL_len (z : Str) (zs : List Str) (n : Nat) : (freeL z zs n).length ≤ n := by
  unfold freeL
  refine Nat.le_trans (List.length_filter_le _ _) ?_
  simp
theorem freeL_ne {z : Str} {zs : List Str} (h : zs.length ≤ 3) : ∃ x t, freeL z zs 26 = x :: t := by
  cases e : freeL z zs 26 with
  | cons x t => exact ⟨x, t, rfl⟩
  | nil =>
    exfalso
    have h2 : ∀ x ∈ (List.range 26).map (cand z), x ∈ zs := fun x hx => by
      unfold freeL at e
      rw [List.filter_eq_nil_iff] at e
      have := e x hx
      simpa using this
    have nd : ((List.range 26).map (cand z)).Nodup := by
      unfold List.Nodup
      rw [List.pairwise_map]
      refine List.Pairwise.imp ?_ (List.pairwise_lt_range (n := 26))
      intro a b lt hab
      have := app_inj hab
      omega
    have := pig _ _ nd h2
    rw [List.length_map, List.length_range] at this
    omega
theorem freeL_mem {z x : Str} {zs : List Str} (h : x ∈ freeL z zs 26) : x ∉ zs ∧ ∃ i, i < 26 ∧ x = cand z i := by
  unfold freeL at h
  rw [List.mem_filter, List.mem_map] at h
  obtain ⟨⟨i, hi, rfl⟩, h2⟩ := h
  exact ⟨by simpa using h2, i, List.mem_range.mp hi, rfl⟩
theorem cand_name {z : Str} {i : Nat} (hz : lowB z = true) (h : i < 26) : nameB (cand (cutS z none (some 7)) i) = true := by
  have h7 := cut7_len z
  refine nameB_mk ?_ ?_ (app_low (cut7_low hz) (by omega) (by omega))
  · rw [cand, app_len]; omega
  · rw [cand, app_len]; omega
end Wn
/-! Wn: tuples put together. -/
namespace Wn
open PySem PySem.Spec PyProof.Rows L2
section
variable {X : Cx} {K : PySem.W.Frag} {H : Hp} {Q : VK}
theorem op_catAK (e : X.K = K) : OpR X (binaryOp .Add) (rCatA K) := by subst e; exact op_catA
/-- t + u: a tuple of both, somewhere -/
theorem r_catU {a b : Addr} {xs ys : List V} (h1 : SqT K H a xs) (h2 : SqT K H b ys) (hz : xs.length + ys.length ≤ sizeLine) (q : ∀ p H', Same H H' → SqT K H' p (xs ++ ys) → Q (.ref p) H') : rCatA K (.ref a) (.ref b) H Q := by
  refine ⟨a, b, xs, ys, rfl, rfl, h1, h2, hz, fun e => ?_, fun e1 e2 => ?_, fun e1 e2 p np => q p _ (same_new np) (.inl (.inl upd_same))⟩
  · subst e
    exact q b H (Same.refl _) h2
  · subst e2
    exact q a H (Same.refl _) (by rw [List.append_nil]; exact h1)
end
section
variable {X : Cx} {K : PySem.W.Frag} {H : Hp} {Q : VK}
theorem sl_tupK (e : X.K = K) : SlR X (rSlT K) := by subst e; exact sl_tup
theorem cutV_to {xs : List V} {k : Nat} (hk : k ≤ xs.length) : cutV xs none (some (k : Int)) = xs.take k := by
  unfold cutV
  rw [show HT.sIx xs.length xs.length (some (k : Int)) = min k xs.length from HT.sIx_nat _ _ k, HT.sIx_none]
  rw [List.drop_zero, Nat.sub_zero, Nat.min_eq_left hk]
theorem cutV_from {xs : List V} {k : Nat} (hk : k ≤ xs.length) : cutV xs (some (k : Int)) none = xs.drop k := by
  unfold cutV
  rw [show HT.sIx xs.length 0 (some (k : Int)) = min k xs.length from HT.sIx_nat _ _ k, HT.sIx_none]
  rw [Nat.min_eq_left hk]
  exact List.take_of_length_le (by rw [List.length_drop]; exact Nat.le_refl _)
theorem r_slto {a : Addr} {xs : List V} {k : Nat} (h : SqT K H a xs) (hk : k < xs.length) (q : ∀ p, H p = none → Q (.ref p) (upd H p (.tup (xs.take k)))) : rSlT K (.ref a) none (some (k : Int)) H Q := by
  refine ⟨a, xs, rfl, h, fun z => ?_, fun p np => by rw [cutV_to (Nat.le_of_lt hk)]; exact q p np⟩
  have z2 := z.2
  rw [show HT.sIx xs.length xs.length (some (k : Int)) = min k xs.length from HT.sIx_nat _ _ k, Nat.min_eq_left (Nat.le_of_lt hk)] at z2
  omega
theorem r_slfrom {a : Addr} {xs : List V} {k : Nat} (h : SqT K H a xs) (h0 : 0 < k) (hk : k ≤ xs.length) (q : ∀ p, H p = none → Q (.ref p) (upd H p (.tup (xs.drop k)))) : rSlT K (.ref a) (some (k : Int)) none H Q := by
  refine ⟨a, xs, rfl, h, fun z => ?_, fun p np => by rw [cutV_from hk]; exact q p np⟩
  have z1 := z.1
  rw [show HT.sIx xs.length 0 (some (k : Int)) = min k xs.length from HT.sIx_nat _ _ k, Nat.min_eq_left hk] at z1
  omega
end
theorem op_repTK {X : Cx} {K : PySem.W.Frag} (e : X.K = K) : OpR X (binaryOp .Mult) (rRepT K) := by subst e; exact op_repT
end Wn
/-! Wn: == and != of instances of an own class with its own __eq__ and no __ne__. -/
namespace Wn
open PySem PySem.Spec PyProof.Rows L2
section
open PySem.W (Frag findIn InstAt isFn notFirst Looks looks_findIn mroIn looks_mroIn)
variable {prog : Program} {w : World} {A : Around} {E : Value → Shared → Prop} {s : Shared} {K : Frag} {x C f : Addr} {ox : Obj} {od : Option Obj} {h₀ : Heap} {L : Addr} {m : Str → Option Value} {b tb : Value}
theorem ifBound_ne {M : Model} {args : List Value} {Q : Option Value → Shared → Prop} (X : K.In s.heap) (I : InstAt s.heap x ox C od) (hs : findIn K (.ref C) "__ne__" = some (some (.builtin "object.__ne__")))
    (h : wpAny M A (call (.builtin "object.__ne__") (.ref x :: args)) (fun v => Q (some v)) E s) : wpAny M A (callSpecialIfBound? (.ref x) "__ne__" args) Q E s := by
  simp only [callSpecialIfBound?, bindSpecialIfBound?]
  refine wpAny_holding (wpAny_bind (wpAny_bind (wpAny_bind (I.type.here ((looks_findIn X hs).here ?_)))))
  simp only [PySem.F.cmp_object.ne.bind]
  refine wpAny_bind (wpAny_askSetting (wpAny_ite ?_))
  have fin : wpAny M A (call (.builtin "object.__ne__") ([.ref x] ++ args) >>= fun v => pure (some v)) Q E s := wpAny_bind (wpAny_mono h (fun v s' h' => wpAny_pure h') fun _ _ h' => h')
  split
  · exact wpAny_bind (wpAny_pure (wpAny_pure fin))
  · exact wpAny_tryCatch (wpAny_bind (wpAny_pure (wpAny_pure fin)))
theorem ne_entry (X : K.In s.heap) (I : InstAt s.heap x ox C od) (hs : findIn K (.ref C) "__eq__" = some (some (.ref f))) (hf : isFn K (.ref f) = true) (hu : A.units < cLine) {Q : Fin → Shared → Prop}
    (hcall : wpAny (model prog w) A (call (.ref f) [.ref x, b]) (fun v s' => ∃ r, v = .bool r ∧ Q (.done (.ret (.bool (!r)))) s') E s) :
    wpAny (model prog w) A (Builtin.«object.__ne__» ⟨[.ref x, b], []⟩) Q E s := by
  unfold Builtin.«object.__ne__»
  repeat (first
    | with_reducible refine wpAny_cRoomFor hu ?_
    | (refine wpAny_bind (m := callSpecialIfBound? (.ref x) (Str.ofString "__eq__") [b])
        (PySem.W.ifBound_K X I hs hf (wpAny_mono hcall (fun r s' hr => by
          obtain ⟨b, rfl, hq⟩ := hr
          repeat (first | exact hq | exact wpAny_pure hq | exact wpAny_truthy_bool hq | (refine wpAny_bind (m := truthy (.bool _)) (wpAny_truthy_bool ?_)) | wp_step)) fun _ _ e => e)))
    | wp_step)
theorem cmp_ne {Q : Value → Shared → Prop} (hu : A.units + 1 < cLine) (F : Fr h₀ L s.heap m) (X₀ : K.In h₀) (I : InstAt s.heap x ox C od) (hb : Looks (model prog w) s.heap (typeOf b) tb) (hn : notFirst K C tb = true)
    (he : findIn K (.ref C) "__eq__" = some (some (.ref f))) (hf : isFn K (.ref f) = true) (hs : findIn K (.ref C) "__ne__" = some (some (.builtin "object.__ne__"))) (hm : mroIn K C (.type "object") = some true)
    (h : wpAny (model prog w) A.in1 (call (.ref f) [.ref x, b]) (fun v s' => ∃ r, v = .bool r ∧ Q (.bool (!r)) s') E s) : wpAny (model prog w) A (richCompare .NotEq (.ref x) b) Q E s := by
  have X := X₀.keeps F.keep
  have sub : Looks (model prog w) s.heap (isInstance (.ref x) (.type "object")) true := I.type.andThen (looks_mroIn X hm)
  have one : wpAny (model prog w) A (tryCompare (.ref x) "__ne__" b) (fun r s' => ∃ v, r = some v ∧ Q v s') E s := by
    unfold tryCompare
    refine wpAny_bind (ifBound_ne X I hs (wpAny_call (codeAny_call_builtin PySem.F.cmp_object.ne.plain PySem.F.cmpEntry_ne
      (@PySem.W.check_slot (model prog w) _ _ s "object.__ne__" "object" "__ne__" (.ref x) [b] [] _ PySem.F.cmpKind_ne PySem.F.cmpSplit_ne sub (PySem.F.cmpArgs_ne _ _)
        (ne_entry (A := A.in1) X I he hf hu (wpAny_mono h (fun v s' hv => ?_) fun _ _ e => e))))))
    obtain ⟨r, rfl, hq⟩ := hv
    first | exact ⟨r, rfl, wpAny_pure ⟨_, rfl, hq⟩⟩ | exact ⟨r, rfl, wpAny_pure (wpAny_pure ⟨_, rfl, hq⟩)⟩ | exact ⟨r, rfl, _, rfl, hq⟩
  unfold richCompare
  simp only [oneThing_ref]
  refine wpAny_holding (wpAny_bind (wpAny_cRoomFor (Nat.lt_of_succ_lt hu) ?_))
  rw [cmpInfo_NotEq]
  dsimp only
  refine wpAny_bind (I.type.here (wpAny_bind (hb.here ?_)))
  split
  · rename_i q
    have e : PySem.W.subIn K tb (.ref C) = some false := by
      rcases Bool.or_eq_true_iff.mp hn with e | e
      · rw [beq_iff_eq.mp e] at q; simp at q
      · exact beq_iff_eq.mp e
    refine wpAny_bind ((PySem.W.looks_subIn X e).here ?_)
    simp only [Bool.false_eq_true, if_false]
    refine wpAny_bind (wpAny_mono one (fun r s' z => ?_) fun _ _ e => e)
    obtain ⟨v, rfl, hq⟩ := z
    exact wpAny_pure hq
  · refine wpAny_bind (wpAny_pure ?_)
    simp only [Bool.false_eq_true, if_false]
    refine wpAny_bind (wpAny_mono one (fun r s' z => ?_) fun _ _ e => e)
    obtain ⟨v, rfl, hq⟩ := z
    exact wpAny_pure hq
end
theorem op_eqDK {X : Cx} {K : PySem.W.Frag} (e : X.K = K) (hu : X.A.units + 64 < cLine) : OpR X (compareOp .Eq) (rEqD K) := by subst e; exact op_eqD hu
theorem pe_globR {X : Cx} {x : Str} {a : Addr} {pos : Pos} (hg : Gl X x) (hm : X.mg x = some (.ref a)) (hd : (x == ("__debug__" : Str)) = false := by decide) : PE X (.Name x pos) (tC (.ref a)) := pe_glob hg hm rfl hd
section
variable {X : Cx} {CX : CXT} {C g : Addr} {n : Nat} {sp : Sp} {E : XK} {fd : FuncData} {ps : List Str}
/-- x == y, both instances of the class at C whose __eq__ is at g -/
def rOwnI (C : Addr) (sp : Sp) (E : XK) (neg : Bool) : R2 := fun x y H Q => ∃ a dx fs b dy gs, x = .ref a ∧ y = .ref b ∧ H a = some (.ins C dx fs) ∧ H b = some (.ins C dy gs) ∧ sp [x, y] H (fun z H' => ∃ r, z = .bl r ∧ Q (.bl (if neg then !r else r)) H') E
/-- what == asks of the class -/
structure OwnEq (K : PySem.W.Frag) (C g : Addr) : Prop where
  eq : PySem.W.findIn K (.ref C) "__eq__" = some (some (.ref g))
  fn : PySem.W.isFn K (.ref g) = true
  ne : PySem.W.findIn K (.ref C) "__ne__" = some (some (.builtin "object.__ne__"))
  ob : PySem.W.mroIn K C (.type "object") = some true
theorem op_eqI {K : PySem.W.Frag} (eK : X.K = K) (T : OwnEq K C g) (F : FnOk X.prog X.w X.K X.mg X.base CX n g fd ps sp) (hb : Binds K fd ps []) (hr : Room n X.A) (hx : Passes CX X E) : OpR X (compareOp .Eq) (rOwnI C sp E false) := by
  subst eK
  intro pins s σ H x y v u Q I rx ry h
  obtain ⟨a, dx, fs, b, dy, gs, rfl, rfl, ha, hb2, q⟩ := h
  cases (show v = Value.ref a from rx)
  cases (show u = Value.ref b from ry)
  obtain ⟨mA, O, _⟩ := ins_get I.hok ha
  obtain ⟨mB, O', _⟩ := ins_get I.hok hb2
  obtain ⟨od, J, _⟩ := O.look
  obtain ⟨od', J', _⟩ := O'.look
  obtain ⟨m, hF⟩ := I.fr
  show wpAny _ _ (richCompare .Eq _ _) _ _ _
  refine PySem.W.cmp_K (op := .Eq) (tb := .ref C) hr.units0 hF I.ok.mod.kin J J'.type (by simp [PySem.W.notFirst]) T.eq T.fn ?_
  refine wpAny_mono (run_fn (us := [.ref a, .ref b]) (vs := [.ref a, .ref b]) (dvs := []) F hr hb .nil hx I (.cons rfl (.cons rfl .nil)) q) (fun w s' z => ?_) fun _ _ x => x
  obtain ⟨z', H', I', rz, r, er, qz⟩ := z
  subst er
  cases (show w = Value.bool r from rz)
  exact ⟨.bl r, H', I', rfl, qz⟩
theorem run_fn1 {pins : List (Addr × Obj)} {σ : L2.St} {H : Hp} {s : Shared} {Q : VK} {us : List Value} {vs : List V} (F : FnOk X.prog X.w X.K X.mg X.base CX n g fd ps sp) (hr : Room (n + 1) X.A) (hb : Binds X.K fd ps []) (hx : Passes CX X E)
    (I : Inv X pins σ H s) (r : Vals vs us) (h : sp vs H Q E) : wpAny (model X.prog X.w) X.A.in1 (call (.ref g) us) (EP X pins σ Q) X.xe s := by
  have hl : us.length = ps.length := by rw [← r.length]; exact F.len _ _ _ _ h
  refine wpAny_call (codeAny_mono (F.run X.A.in1 X.stack s H ⟨us, []⟩ us vs Q E hr.in1 I.env0.in1 (by have := hb s us I.kIn (by rw [List.append_nil]; exact hl); rw [List.append_nil] at this; exact this) r h) fun r s' hq => ?_)
  cases r with
  | error e => exact hx pins σ H s e s' I hq
  | ok fl =>
    cases fl with
    | ret u => exact I.after hq
    | next => exact False.elim hq
    | brk => exact False.elim hq
    | cont => exact False.elim hq
theorem op_neI {K : PySem.W.Frag} (eK : X.K = K) (T : OwnEq K C g) (F : FnOk X.prog X.w X.K X.mg X.base CX n g fd ps sp) (hb : Binds K fd ps []) (hr : Room (n + 1) X.A) (hx : Passes CX X E) : OpR X (compareOp .NotEq) (rOwnI C sp E true) := by
  subst eK
  intro pins s σ H x y v u Q I rx ry h
  obtain ⟨a, dx, fs, b, dy, gs, rfl, rfl, ha, hb2, q⟩ := h
  cases (show v = Value.ref a from rx)
  cases (show u = Value.ref b from ry)
  obtain ⟨mA, O, _⟩ := ins_get I.hok ha
  obtain ⟨mB, O', _⟩ := ins_get I.hok hb2
  obtain ⟨od, J, _⟩ := O.look
  obtain ⟨od', J', _⟩ := O'.look
  obtain ⟨m, hF⟩ := I.fr
  have hu : X.A.units + 1 < cLine := by have := hr.units; omega
  show wpAny _ _ (richCompare .NotEq _ _) _ _ _
  refine cmp_ne (tb := .ref C) hu hF I.ok.mod.kin J J'.type (by simp [PySem.W.notFirst]) T.eq T.fn T.ne T.ob ?_
  refine wpAny_mono (run_fn1 (us := [.ref a, .ref b]) (vs := [.ref a, .ref b]) F hr hb hx I (.cons rfl (.cons rfl .nil)) q) (fun w s' z => ?_) fun _ _ x => x
  · obtain ⟨z', H', I', rz, r, er, qz⟩ := z
    subst er
    cases (show w = Value.bool r from rz)
    exact ⟨r, rfl, .bl (!r), H', I', rfl, qz⟩
end
end Wn
local macro_rules | `(tactic| walk_at "hs") => `(tactic| (first | exact ⟨_, L2.upd_same⟩ | exact ⟨_, by assumption⟩ | (refine Wn.has_ne ?_ ?_; (focus (walk_at "ne")); walk_at "hs")))
local macro_rules | `(tactic| walk_at "ne") => `(tactic| (first | assumption | (refine Ne.symm ?_; assumption) | (refine Wn.ne_ex ?_ (by assumption); walk_at "hs") | (refine Ne.symm ?_; refine Wn.ne_ex ?_ (by assumption); walk_at "hs")))
local macro_rules | `(tactic| walk_at "lk") => `(tactic| with_unfolding_all (first | assumption | exact L2.upd_same | (refine Wn.lk_ne ?_ ?_; (focus (walk_at "ne")); walk_at "lk") ))
local macro_rules | `(tactic| walk_at "sm") => `(tactic| (first | exact L2.Same.refl _ | assumption | (refine Wn.same_upd ?_ ?_; (focus (walk_at "sm")); assumption)))
local macro_rules | `(tactic| walk_at "sc") => `(tactic| with_unfolding_all (first | exact .inl ⟨by decide, by decide⟩ | exact .inr ⟨by decide, by decide⟩ | (show (0:Int) < _; first | decide | omega) | (constructor <;> first | decide | omega) | (refine ⟨?_, ?_, ?_⟩ <;> decide) | exact .inl ⟨by omega, by omega⟩ | exact .inr ⟨by omega, by omega⟩))
local macro_rules | `(tactic| walk_at "go1") => `(tactic| (first
  | (with_reducible apply L2.iteT)
  | (with_reducible apply L2.iteF)
  | (with_reducible apply Wn.r_seq)
  | (with_reducible apply Wn.r_asg)
  | (with_reducible apply Wn.r_op)
  | (with_reducible apply Wn.r_un)
  | (with_reducible apply Wn.r_c)
  | (with_reducible apply Wn.r_test)
  | (with_reducible apply Wn.r_tb)
  | (with_reducible apply Wn.r_bl)
  | (with_reducible apply Wn.r_ifs)
  | (with_reducible apply Wn.r_ifj)
  | (with_reducible apply Wn.r_yes)
  | (with_reducible apply Wn.r_lst)
  | (with_reducible apply Wn.r_tup)
  | (with_reducible apply Wn.r_ret)
  | (with_reducible apply Wn.r_next)
  | (with_reducible apply Wn.r_drop)
  | (with_reducible apply Wn.r_nil)
  | (with_reducible apply Wn.r_cons)
  | (with_reducible apply Wn.r_cb)
  | (with_reducible apply Wn.r_gsub)
  | (with_reducible apply Wn.r_I0)
  | (with_reducible apply Wn.r_int1)
  | (with_reducible apply Wn.r_call)
  | (with_reducible apply Wn.r_andr)
  | (with_reducible apply Wn.r_andv)
  | (with_reducible apply Wn.r_orv)
  | (with_reducible apply Wn.r_notv)
  | (with_reducible apply Wn.r_and)
  | (with_reducible apply Wn.r_or)
  | (with_reducible apply Wn.r_not)
  | (with_reducible apply Wn.r_ife)
  | ((with_reducible apply Wn.r_wipe); (focus ((with_unfolding_all exact rfl); done)))
  | ((with_reducible apply Wn.ite_t); (focus ((with_unfolding_all first | decide | exact decide_eq_true rfl | exact Wn.nd_t (Wn.clash_ne rfl) | fail); done)))
  | ((with_reducible apply Wn.ite_f); (focus ((with_unfolding_all first | decide | exact decide_eq_false (Wn.clash_ne rfl) | exact Wn.nd_f rfl | fail); done)))
  | ((with_reducible apply Wn.r_lens); (focus ((first | exact Or.inl (by assumption) | exact Or.inr (by assumption) | exact Or.inl (L2.SqL.of (by walk_at "lk")) | exact Or.inr (L2.SqT.of (by walk_at "lk")) | fail); done)))
  | ((with_reducible apply (Wn.r_isTup (b := true))); (focus ((first | assumption | fail); done)); (focus ((with_unfolding_all first | exact rfl | fail); done)))
  | ((with_reducible apply (Wn.r_isTup (b := false))); (focus ((first | assumption | fail); done)); (focus ((with_unfolding_all first | exact rfl | fail); done)))
  | ((with_reducible apply (Wn.r_isLst (b := true))); (focus ((first | assumption | fail); done)); (focus ((with_unfolding_all first | exact rfl | fail); done)))
  | ((with_reducible apply (Wn.r_isLst (b := false))); (focus ((first | assumption | fail); done)); (focus ((with_unfolding_all first | exact rfl | fail); done)))
  | ((with_reducible apply (Wn.r_isBl (b := true))); (focus ((first | assumption | fail); done)); (focus ((with_unfolding_all first | exact rfl | fail); done)))
  | ((with_reducible apply (Wn.r_isBl (b := false))); (focus ((first | assumption | fail); done)); (focus ((with_unfolding_all first | exact rfl | fail); done)))
  | ((with_reducible apply (Wn.r_isIn (b := true))); (focus ((first | assumption | fail); done)); (focus ((with_unfolding_all first | exact rfl | fail); done)))
  | ((with_reducible apply (Wn.r_isIn (b := false))); (focus ((first | assumption | fail); done)); (focus ((with_unfolding_all first | exact rfl | fail); done)))
  | ((with_reducible apply (Wn.r_isSt (b := true))); (focus ((first | assumption | fail); done)); (focus ((with_unfolding_all first | exact rfl | fail); done)))
  | ((with_reducible apply (Wn.r_isSt (b := false))); (focus ((first | assumption | fail); done)); (focus ((with_unfolding_all first | exact rfl | fail); done)))
  | ((with_reducible apply Wn.r_sz); (focus ((with_unfolding_all first | (simp only [List.length_cons, List.length_nil]; decide) | fail); done)))
  | ((with_reducible apply Wn.r_var); (focus ((with_unfolding_all exact rfl); done)))
  | ((with_reducible apply Wn.r_gname); (focus ((with_unfolding_all exact rfl); done)))
  | ((with_reducible apply Wn.r_ix); (focus (walk_at "lk"; done)); (focus ((with_unfolding_all exact rfl); done)))
  | ((with_reducible apply Wn.r_ixt); (focus (walk_at "lk"; done)); (focus ((with_unfolding_all exact rfl); done)))
  | ((with_reducible apply Wn.r_lenl); (focus (walk_at "lk"; done)))
  | ((with_reducible apply Wn.r_lent); (focus (walk_at "lk"; done)))
  | ((with_reducible apply Wn.r_setl); (focus (walk_at "lk"; done)); (focus ((with_unfolding_all exact rfl); done)); (focus ((dsimp only [Int.reduceToNat, List.set]; try exact rfl); done)))
  | ((with_reducible apply Wn.r_eq); (focus ((with_unfolding_all exact rfl); done)))
  | ((with_reducible apply Wn.r_ne); (focus ((with_unfolding_all exact rfl); done)))
  | ((with_reducible apply Wn.r_I); (focus (walk_at "sc"; done)))))
local macro_rules | `(tactic| walk_at "go") => `(tactic| repeat (walk_at "go1"))


namespace Wn
open PySem PySem.Spec PyProof.Rows L2
def top (i : Nat) : Stmt := PySem.Challenge.pw_wrongshown_k01_form_parts.main.body.getD i (.Pass ⟨0, 0, 0, 0⟩)
abbrev sMix : Stmt := top 20
abbrev sBox : Stmt := top 21
abbrev sDraw : Stmt := top 22
abbrev sSame : Stmt := top 23
theorem scMix : FnScope ["_law_value", "_law_k", "_law_number"] ["_law_value", "_law_k"] (defScope sMix) := ⟨rfl, rfl, rfl, by decide +kernel, rfl, by decide +kernel, by decide +kernel⟩
theorem scBox : FnScope ["_law_script", "_law_cell", "_law_cells", "_law_seed"] ["_law_script"] (defScope sBox) := ⟨rfl, rfl, rfl, by decide +kernel, rfl, by decide +kernel, by decide +kernel⟩
theorem scDraw : FnScope ["_law_box_here", "_law_many", "_law_cell", "_law_digit"] ["_law_box_here", "_law_many"] (defScope sDraw) := ⟨rfl, rfl, rfl, by decide +kernel, rfl, by decide +kernel, by decide +kernel⟩
/-! ### promises -/
def spMix : Sp := fun vs H Q _ => ∃ v k : Int, vs = [.int v, .int k] ∧ ∀ r : Int, 0 ≤ r → Q (.int r) H
structure BoxAt (H : Hp) (b c : Addr) : Prop where
  ne : b ≠ c
  ex : ∃ (cs : List Int) (i d sd n : Int), H b = some (.lst [.ref c, .int i, .int d, .int sd, .int n]) ∧ H c = some (.lst (cs.map V.int)) ∧ 0 ≤ i ∧ 0 ≤ d
def spBox (K : PySem.W.Frag) : Sp := fun vs H Q _ => ∃ (a : Addr) (ns : List Int), vs = [.ref a] ∧ SqL K H a (ns.map V.int) ∧ ns.length ≤ 63 ∧
  ∀ H' b c, Same H H' → H b = none → H c = none → BoxAt H' b c → Q (.ref b) H'
def spDraw : Sp := fun vs H Q _ => ∃ (b c : Addr) (m : Int), vs = [.ref b, .int m] ∧ 0 < m ∧ m < 1073741824 ∧ BoxAt H b c ∧
  ∀ (r : Int) (H' : Hp), 0 ≤ r → r < m → (∀ x, x ≠ b → H' x = H x) → BoxAt H' b c → Q (.int r) H'
theorem boxAt_upd {H H0 : Hp} {b c : Addr} {cs : List Int} {i d sd n : Int} (ne : b ≠ c) (hc : H c = some (.lst (cs.map V.int))) (hb : H b = some (.lst [.ref c, .int i, .int d, .int sd, .int n])) (hi : 0 ≤ i) (hd : 0 ≤ d) : BoxAt H b c := ⟨ne, cs, i, d, sd, n, hb, hc, hi, hd⟩
section
variable {P : Program} {w : World} {K : PySem.W.Frag} {mg : Str → Option Value} {base : Heap}
theorem ok_mix {f : Addr} {fd : FuncData} {k : Nat} (F : Fun K "_law_mix" "_law_mix" sMix f fd) (mi : mg "int" = none) : FnOk P w K mg base CX0 (k + 1) f fd ["_law_value", "_law_k"] spMix := by
  refine F.ok scMix (fun vs H Q E h => ?_) (fun cdv A outer s H vs Q E hr h => ?_)
  · obtain ⟨v, k, rfl, _⟩ := h
    rfl
  · obtain ⟨v, k, rfl, q⟩ := h
    refine ⟨_, pss_cons (ps_set (i := 2) scMix.nd rfl (.inl rfl) (pe_op op_mod (pe_op op_mul (pe_op op_add (pe_op op_add (pe_callTy call_intI (by rfl) mi (by decide +kernel) (pa_cons (pv 0) pa_nil)) (pe_op op_mul pe_int (pv 1))) pe_int) pe_int) pe_int))
      (pss_cons (ps_set (i := 2) scMix.nd rfl (.inl rfl) (pe_op op_mod (pe_op op_mul (pv 2) (pe_op op_add (pe_op op_fdiv (pv 2) pe_int) pe_int)) pe_int))
      (pss_one (ps_ret (pe_op op_mod (pe_op op_mul (pv 2) (pe_op op_add (pe_op op_fdiv (pv 2) pe_int) pe_int)) pe_int)))), ?_⟩
    show tSeq _ _ _ [_, _, none] _
    walk_at "go"
    exact q _ (Int.emod_nonneg _ (by decide))
theorem ok_draw {f fM : Addr} {fd fdM : FuncData} (F : Fun K "_law_draw" "_law_draw" sDraw f fd) (FM : Fun K "_law_mix" "_law_mix" sMix fM fdM) (bM : Binds K fdM ["_law_value", "_law_k"] []) (gM : mg "_law_mix" = some (.ref fM))
    (mi : mg "int" = none) (ml : mg "len" = none) : FnOk P w K mg base CX0 2 f fd ["_law_box_here", "_law_many"] spDraw := by
  have GM : FnOk P w K mg base CX0 1 fM fdM ["_law_value", "_law_k"] spMix := ok_mix FM mi
  refine F.ok scDraw (fun vs H Q E h => ?_) (fun cdv A outer s H vs Q E hr h => ?_)
  · obtain ⟨b, c, m, rfl, _⟩ := h
    rfl
  · obtain ⟨b, c, m, rfl, hm, hm2, ⟨hbc, cs, i, d, sd, n, hb, hc, hi, hd⟩, q⟩ := h
    refine ⟨_, pss_cons (ps_asg (pe_op op_add (pe_ix ix_l (pv 0) pe_int (fun _ _ => rfl)) pe_int) (pg_sub (pv 0) pe_int set_list))
      (pss_cons (ps_ifj (PW.pt (pw_and (pt_cmpR op_eq (pe_ix ix_l (pv 0) pe_int (fun _ _ => rfl)) pe_int (nomark _)) (pw_and1 (pt_cmpR op_lt (pe_ix ix_l (pv 0) pe_int (fun _ _ => rfl)) (pe_callB call_lenL (by rfl) ml PySem.boot_len (pa_cons (pe_ix ix_l (pv 0) pe_int (fun _ _ => rfl)) pa_nil)) (nomark _)))))
        (pss_cons (ps_set (i := 2) scDraw.nd rfl (.inl rfl) (pe_ix ix_l (pe_ix ix_l (pv 0) pe_int (fun _ _ => rfl)) (pe_ix ix_l (pv 0) pe_int (fun _ _ => rfl)) (fun _ _ => rfl)))
        (pss_cons (ps_asg (pe_op op_add (pe_ix ix_l (pv 0) pe_int (fun _ _ => rfl)) pe_int) (pg_sub (pv 0) pe_int set_list))
        (pss_cons (ps_if (pt_cmpR op_lt (pv 2) (pe_op op_pow pe_int pe_int) (nomark _))
          (pss_one (ps_ret (pe_op op_mod (pe_callTy call_intI (by rfl) mi (by decide +kernel) (pa_cons (pe_call GM hr (by rfl) gM FM.kp bM .nil pass0 (pa_cons (pv 2) (pa_cons (pe_ix ix_l (pv 0) pe_int (fun _ _ => rfl)) pa_nil))) pa_nil)) (pv 1)))) pss_nil)
        (pss_one (ps_asg (pv 2) (pg_sub (pv 0) pe_int set_list)))))) pss_nil)
      (pss_cons (ps_if (pt_cmpR op_eq (pe_ix ix_l (pv 0) pe_int (fun _ _ => rfl)) pe_int (nomark _))
          (pss_one (ps_ret (pe_op op_mod (pe_callTy call_intI (by rfl) mi (by decide +kernel) (pa_cons (pe_call GM hr (by rfl) gM FM.kp bM .nil pass0 (pa_cons (pe_ix ix_l (pv 0) pe_int (fun _ _ => rfl)) (pa_cons (pe_ix ix_l (pv 0) pe_int (fun _ _ => rfl)) pa_nil))) pa_nil)) (pv 1)))) pss_nil)
      (pss_cons (ps_set (i := 3) scDraw.nd rfl (.inl rfl) (pe_op op_mod (pe_callTy call_intI (by rfl) mi (by decide +kernel) (pa_cons (pe_ix ix_l (pv 0) pe_int (fun _ _ => rfl)) pa_nil)) (pv 1)))
      (pss_cons (ps_asg (pe_op op_fdivN (pe_callTy call_intI (by rfl) mi (by decide +kernel) (pa_cons (pe_ix ix_l (pv 0) pe_int (fun _ _ => rfl)) pa_nil)) (pv 1)) (pg_sub (pv 0) pe_int set_list))
      (pss_one (ps_ret (pv 3))))))), ?_⟩
    show tSeq _ _ _ [_, _, none, none] _
    walk_at "go"
    have fin : ∀ (H' : Hp) (i' d' sd' n' r : Int), 0 ≤ r → (∀ x, x ≠ b → H' x = H x) → H' b = some (.lst [.ref c, .int i', .int d', .int sd', .int n']) → 0 ≤ i' → 0 ≤ d' → Q (.int (r % m)) H' := fun H' i' d' sd' n' r hr0 hx hb' hi' hd' =>
      q _ H' (Int.emod_nonneg _ (by omega)) (Int.emod_lt_of_pos _ hm) hx ⟨hbc, cs, i', d', sd', n', hb', (hx c hbc.symm).trans hc, hi', hd'⟩
    have tail : ∀ (H' : Hp) (i' d' sd' n' : Int) (D : Ends) (c2 : Option V), (∀ x, x ≠ b → H' x = H x) → H' b = some (.lst [.ref c, .int i', .int d', .int sd', .int n']) → 0 ≤ i' → 0 ≤ d' → D.rt = Q →
      tSeq (tIfS (tTest (tOp rEq (tOp rIx' (tVar 0) (tC (V.int 2))) (tC (V.int 0))))
              (tRet (tOp (rI (fun x j => 0 < j) fun i j => V.int (i % j)) (tCB rInt1 (tCons (tCall spMix [] E0 (tCons (tOp rIx' (tVar 0) (tC (V.int 3))) (tCons (tOp rIx' (tVar 0) (tC (V.int 4))) tNil))) tNil)) (tVar 1))) tNext)
        (tSeq (tAsg (tOp (rI (fun x j => 0 < j) fun i j => V.int (i % j)) (tCB rInt1 (tCons (tOp rIx' (tVar 0) (tC (V.int 2))) tNil)) (tVar 1)) (gName 3))
        (tSeq (tAsg (tOp (rI CDivN fun i j => V.int (i.fdiv j)) (tCB rInt1 (tCons (tOp rIx' (tVar 0) (tC (V.int 2))) tNil)) (tVar 1)) (gSub (tVar 0) (tC (V.int 2)) rSetL))
        (tRet (tVar 3)))) D [some (V.ref b), some (V.int m), c2, none] H' := by
      intro H' i' d' sd' n' D c2 hx hb' hi' hd' hD
      walk_at "go"
      first | refine Wn.ifd_int (fun e1 => ?_) (fun e1 => ?_) | refine Wn.ifd (fun e1 => ?_) (fun e1 => ?_)
      · walk_at "go"
        refine ⟨_, _, rfl, fun r hr0 => ?_⟩
        walk_at "go"
        rw [hD]
        exact fin H' i' d' sd' n' r hr0 hx hb' hi' hd'
      · walk_at "go"
        rw [hD]
        refine q _ _ (Int.emod_nonneg _ (by omega)) (Int.emod_lt_of_pos _ hm) (fun x hne => (upd_ne hne).trans (hx x hne)) ⟨hbc, cs, _, _, _, _, upd_same, (upd_ne hbc.symm).trans ((hx c hbc.symm).trans hc), hi', ?_⟩
        rw [Int.fdiv_eq_ediv_of_nonneg _ (by omega)]
        exact Int.ediv_nonneg hd' (by omega)
    first | refine Wn.ifd_int (fun e0 => ?_) (fun e0 => ?_) | refine Wn.ifd (fun e0 => ?_) (fun e0 => ?_)
    · walk_at "go"
      first | refine Wn.ifd_int (fun e1 => ?_) (fun e1 => ?_) | refine Wn.ifd (fun e1 => ?_) (fun e1 => ?_)
      · walk_at "go"
        have e2 : i < (cs.length : Int) := by rw [List.length_map] at e1; exact e1
        obtain ⟨j, rfl⟩ : ∃ j : Nat, i = (j : Int) := ⟨i.toNat, by omega⟩
        have hj : j < cs.length := by omega
        refine r_ix (xs := cs.map V.int) (v := .int cs[j]) (by walk_at "lk") (atI_nat (by rw [List.getElem?_map, List.getElem?_eq_getElem hj]; rfl)) ?_
        generalize cs[j] = z
        walk_at "go"
        first | refine Wn.ifd_int (fun e3 => ?_) (fun e3 => ?_) | refine Wn.ifd (fun e3 => ?_) (fun e3 => ?_)
        · walk_at "go"
          refine ⟨_, _, rfl, fun r hr0 => ?_⟩
          walk_at "go"
          exact fin _ _ _ _ _ _ hr0 (fun x hne => (upd_ne hne).trans (upd_ne hne)) upd_same (by omega) hd
        · walk_at "go"
          have e4 : (1000000000000000000 : Int) ≤ z := by
            have e5 : (10 : Int) ^ (Int.toNat 18) = 1000000000000000000 := by decide
            omega
          refine r_join ?_
          refine tail _ _ _ _ _ { nx := fun _ H' => Q .non H', rt := Q } _ ?_ (by exact upd_same) ?_ ?_ rfl
          · exact fun x hne => (upd_ne hne).trans ((upd_ne hne).trans (upd_ne hne))
          · omega
          · omega
      · walk_at "go"
        refine r_join ?_
        refine tail _ _ _ _ _ { nx := fun _ H' => Q .non H', rt := Q } _ ?_ (by exact upd_same) ?_ ?_ rfl
        · exact fun x hne => upd_ne hne
        · omega
        · omega
    · walk_at "go"
      refine r_join ?_
      refine tail _ _ _ _ _ { nx := fun _ H' => Q .non H', rt := Q } _ ?_ (by exact upd_same) ?_ ?_ rfl
      · exact fun x hne => upd_ne hne
      · omega
      · omega
end
end Wn


namespace Wn
open PySem PySem.Spec PyProof.Rows L2
theorem cut63 {ns : List Int} (h : ns.length ≤ 63) : cutV (ns.map V.int) none (some 63) = ns.map V.int := by
  unfold cutV
  rw [show HT.sIx (ns.map V.int).length (ns.map V.int).length (some 63) = min 63 (ns.map V.int).length from HT.sIx_nat _ _ 63, HT.sIx_none]
  rw [List.drop_zero, Nat.sub_zero, List.length_map, Nat.min_eq_right h]
  exact List.take_of_length_le (by rw [List.length_map]; exact Nat.le_refl _)
theorem small63 {n : Nat} (h : n ≤ 63) : n < sizeLine := Nat.lt_of_le_of_lt h (by decide)
section
variable {P : Program} {w : World} {K : PySem.W.Frag} {mg : Str → Option Value} {base : Heap}
theorem ok_box {f fM : Addr} {fd fdM : FuncData} (F : Fun K "_law_box" "_law_box" sBox f fd) (FM : Fun K "_law_mix" "_law_mix" sMix fM fdM) (bM : Binds K fdM ["_law_value", "_law_k"] []) (gM : mg "_law_mix" = some (.ref fM))
    (mi : mg "int" = none) : FnOk P w K mg base CX0 2 f fd ["_law_script"] (spBox K) := by
  have GM : FnOk P w K mg base CX0 1 fM fdM ["_law_value", "_law_k"] spMix := ok_mix FM mi
  refine F.ok scBox (fun vs H Q E h => ?_) (fun cdv A outer s H vs Q E hr h => ?_)
  · obtain ⟨a, ns, rfl, _⟩ := h
    rfl
  · obtain ⟨a, ns, rfl, hS, h63, q⟩ := h
    refine ⟨_, pss_cons (ps_setLc (i := 2) (own := [("_law_cell", 1)]) (g := gName 1) (tt := tYes) rfl scBox.nd rfl rfl (sw_true rfl rfl rfl (by decide +kernel)) (pi_list (pe_slice sl_list (pv 0) po_none (po_some pe_int))) (blkOk_by (N := ["_law_script", "_law_cell", "_law_cells", "_law_seed"]) (sc := defScope sBox) (by decide +kernel)) (fun _ _ _ _ _ => pg_name (i := 1) scBox.nd rfl (Or.inl rfl)) (fun _ _ _ _ _ => pts_nil) (fun _ _ _ _ _ => pe_callTy call_intI (by rfl) mi (by decide +kernel) (pa_cons (pv 1) pa_nil)))
      (pss_cons (ps_set (i := 3) scBox.nd rfl (.inl rfl) pe_int)
      (pss_cons (ps_for PassesOwn.never rfl (pi_list (pv 2)) (pg_name (i := 1) scBox.nd rfl (.inl rfl)) (pss_one (ps_set (i := 3) scBox.nd rfl (.inl rfl) (pe_call GM hr (by rfl) gM FM.kp bM .nil pass0 (pa_cons (pe_op op_add (pv 3) (pv 1)) (pa_cons pe_int pa_nil))))))
      (pss_one (ps_ret (pe_lst (pa_cons (pv 2) (pa_cons pe_int (pa_cons pe_int (pa_cons (pv 3) (pa_cons pe_int pa_nil)))))))))), ?_⟩
    show tSeq _ _ _ [_, none, none, none] _
    walk_at "go"
    refine ⟨.ref a, rfl, 63, rfl, a, ns.map V.int, rfl, hS, fun c0 n0 => ?_⟩
    rw [cut63 h63]
    have s0 : Same H (upd H c0 (.lst (ns.map V.int))) := fun b o e => (upd_ne (ne_of_none e n0)).trans e
    generalize hH1 : upd H c0 (.lst (ns.map V.int)) = H1
    rw [hH1] at s0
    have e0 : H1 c0 = some (.lst (ns.map V.int)) := by rw [← hH1]; exact upd_same
    refine ⟨c0, rfl, ⟨_, .inl (.inl e0)⟩, fun D nD => ?_⟩
    refine lc_list (K := K) (a := c0) (xs := ns.map V.int) (fun i H' => Same H1 H' ∧ H' D = some (.lst ((ns.take i).map V.int))) ⟨fun b o e => (upd_ne (ne_of_none e nD)).trans e, upd_same⟩ (fun i H' _ h => h.1.seq (.inl (.inl e0))) ?_ ?_
    · rintro i x H' hi ⟨sm, hD⟩
      obtain ⟨z, hz, rfl⟩ := map_at hi
      walk_at "go"
      refine ⟨_, hD, ?_, fun b o e => ?_, ?_⟩
      · rw [List.length_map, List.length_take]
        exact small63 (by omega)
      · exact (upd_ne (ne_of_none e nD)).trans (sm _ _ e)
      · rw [upd_same, take_at hz, List.map_append]
        rfl
    · rintro H2 ⟨sm, hD⟩
      rw [List.length_map, List.take_length] at hD
      walk_at "go"
      refine ⟨_, rfl, D, rfl, ⟨_, .inl (.inl hD)⟩, for_list (K := K) (a := D) (xs := ns.map V.int) (fun i σ H' => H' = H2 ∧ ∃ (c : Option V) (sd : Int), σ = [some (.ref a), c, some (.ref D), some (.int sd)]) ⟨rfl, _, _, rfl⟩ (fun i σ H' _ h => by rw [h.1]; exact .inl (.inl hD)) ?_ ?_⟩
      · rintro i x σ H' hi ⟨rfl, c, sd, rfl⟩
        obtain ⟨z, hz, rfl⟩ := map_at hi
        walk_at "go"
        refine ⟨_, _, rfl, fun r _ => ?_⟩
        walk_at "go"
        exact ⟨_, _, rfl⟩
      · rintro σ H' ⟨rfl, c, sd, rfl⟩
        walk_at "go"
        intro p np
        have hne : p ≠ D := fun e => by rw [e, hD] at np; cases np
        refine q _ p D (fun b o e => (upd_ne (ne_of_none (sm _ _ (s0 _ _ e)) np)).trans (sm _ _ (s0 _ _ e))) ((s0.trans sm).free np) (s0.free nD) ⟨hne, ns, 0, 0, sd, 0, upd_same, (upd_ne hne.symm).trans hD, by decide, by decide⟩
end
end Wn


namespace Wn
open PySem PySem.Spec PyProof.Rows L2
theorem scSame : FnScope ["_law_told", "_law_due", "_law_k"] ["_law_told", "_law_due"] (defScope sSame) := ⟨rfl, rfl, rfl, by decide +kernel, rfl, by decide +kernel, by decide +kernel⟩
mutual
/-- no list or tuple in it is long; no dict is in it -/
def dsz : PyData → Bool
  | .list xs => decide (xs.length ≤ 100000) && dszAll xs
  | .tuple xs => decide (xs.length ≤ 100000) && dszAll xs
  | .dict _ => false
  | _ => true
def dszAll : List PyData → Bool
  | [] => true
  | x :: xs => dsz x && dszAll xs
end
theorem dszAll_at : ∀ {ds : List PyData} {i : Nat} {d : PyData}, dszAll ds = true → ds[i]? = some d → dsz d = true
  | [], _, _, _, e => by simp at e
  | x :: xs, 0, d, h, e => by
    simp at e; subst e
    unfold dszAll at h
    exact (Bool.and_eq_true_iff.mp h).1
  | x :: xs, i + 1, d, h, e => by
    unfold dszAll at h
    exact dszAll_at (i := i) (Bool.and_eq_true_iff.mp h).2 (by simpa using e)
theorem depthAll_at : ∀ {ds : List PyData} {i : Nat} {d : PyData}, ds[i]? = some d → d.depth ≤ PyData.depthAll ds
  | [], _, _, e => by simp at e
  | x :: xs, 0, d, e => by
    simp at e; subst e
    unfold PyData.depthAll
    exact Nat.le_max_left _ _
  | x :: xs, i + 1, d, e => by
    unfold PyData.depthAll
    exact Nat.le_trans (depthAll_at (i := i) (by simpa using e)) (Nat.le_max_right _ _)
theorem same_sqT {K : PySem.W.Frag} {H H' : Hp} {a : Addr} {xs : List V} (e : Same H H') (h : SqT K H a xs) : SqT K H' a xs := by
  rcases h with (h | ⟨o, h⟩) | h
  · exact .inl (.inl (e _ _ h))
  · exact .inl (.inr ⟨o, e _ _ h⟩)
  · exact .inr h
/-- of depth below n -/
def spSame (K : PySem.W.Frag) (n : Nat) : Sp := fun vs H Q _ => ∃ (x y : V) (d : PyData), vs = [x, y] ∧ Dp K H x d ∧ Dp K H y d ∧ d.depth < n ∧ dsz d = true ∧ ∀ H', Same H H' → Q (.bl true) H'
structure Blt (mg : Str → Option Value) : Prop where
  isi : mg "isinstance" = none
  tuple : mg "tuple" = none
  list : mg "list" = none
  len : mg "len" = none
  all : mg "all" = none
  range : mg "range" = none
  bool : mg "bool" = none
  int : mg "int" = none
  str : mg "str" = none
section
variable {P : Program} {w : World} {K : PySem.W.Frag} {mg : Str → Option Value} {base : Heap}
theorem ok_same {f : Addr} {fd : FuncData} (F : Fun K "_law_same" "_law_same" sSame f fd) (bF : Binds K fd ["_law_told", "_law_due"] []) (gF : mg "_law_same" = some (.ref f)) (B : Blt mg) : ∀ n : Nat, FnOk P w K mg base CX0 (n + 1) f fd ["_law_told", "_law_due"] (spSame K n) := by
  intro n
  induction n with
  | zero =>
    refine F.ok scSame (fun vs H Q E h => ?_) (fun cdv A outer s H vs Q E hr h => ?_)
    · obtain ⟨x, y, d, rfl, _⟩ := h
      rfl
    · obtain ⟨x, y, d, _, _, _, hd, _⟩ := h
      exact absurd hd (Nat.not_lt_zero _)
  | succ n ih =>
    refine F.ok scSame (fun vs H Q E h => ?_) (fun cdv A outer s H vs Q E hr h => ?_)
    · obtain ⟨x, y, d, rfl, _⟩ := h
      rfl
    · obtain ⟨x, y, d, rfl, hx, hy, hd, hsh, q⟩ := h
      refine ⟨_, pss_cons (ps_if (PW.pt (pw_or (pt_val (pe_callB (call_isiK' (K := K) rfl) (by rfl) B.isi boot_isinstance (pa_cons (pv 1) (pa_cons (pe_bltn (v := .ty "tuple") (by rfl) B.tuple (by decide +kernel) rfl) pa_nil)))) (pw_or1 (pt_val (pe_callB (call_isiK' (K := K) rfl) (by rfl) B.isi boot_isinstance (pa_cons (pv 1) (pa_cons (pe_bltn (v := .ty "list") (by rfl) B.list (by decide +kernel) rfl) pa_nil)))))))
        (pss_cons (ps_if (PW.pt (pw_or (pt_cmpR op_ne (pe_callB (call_isiK' (K := K) rfl) (by rfl) B.isi boot_isinstance (pa_cons (pv 1) (pa_cons (pe_bltn (v := .ty "tuple") (by rfl) B.tuple (by decide +kernel) rfl) pa_nil))) (pe_callB (call_isiK' (K := K) rfl) (by rfl) B.isi boot_isinstance (pa_cons (pv 0) (pa_cons (pe_bltn (v := .ty "tuple") (by rfl) B.tuple (by decide +kernel) rfl) pa_nil))) (nomark _))
            (pw_or1 (pt_cmpR op_ne (pe_callB (call_isiK' (K := K) rfl) (by rfl) B.isi boot_isinstance (pa_cons (pv 1) (pa_cons (pe_bltn (v := .ty "list") (by rfl) B.list (by decide +kernel) rfl) pa_nil))) (pe_callB (call_isiK' (K := K) rfl) (by rfl) B.isi boot_isinstance (pa_cons (pv 0) (pa_cons (pe_bltn (v := .ty "list") (by rfl) B.list (by decide +kernel) rfl) pa_nil))) (nomark _)))))
          (pss_one (ps_ret pe_bl)) pss_nil)
        (pss_cons (ps_if (pt_cmpR op_ne (pe_callB (call_lenK (K := K) rfl) (by rfl) B.len PySem.boot_len (pa_cons (pv 0) pa_nil)) (pe_callB (call_lenK (K := K) rfl) (by rfl) B.len PySem.boot_len (pa_cons (pv 1) pa_nil)) (nomark _)) (pss_one (ps_ret pe_bl)) pss_nil)
        (pss_one (ps_ret (pe_callB (cr_allK (K := K) rfl rfl) (by rfl) B.all boot_all (pa_cons (pe_lc (own := [("_law_k", 2)]) (g := gName 2) (tt := tYes) rfl scSame.nd (pi_range1 (by rfl) B.range (pa_cons (pe_callB (call_lenK (K := K) rfl) (by rfl) B.len PySem.boot_len (pa_cons (pv 1) pa_nil)) pa_nil)) (blkOk_by (N := ["_law_told", "_law_due", "_law_k"]) (sc := defScope sSame) (by decide +kernel)) (fun _ _ _ _ _ => pg_name (i := 2) scSame.nd rfl (Or.inl rfl)) (fun _ _ _ _ _ => pts_nil)
          (fun _ _ _ _ _ => pe_call ih hr (by rfl) gF F.kp bF .nil pass0 (pa_cons (pe_ix (ix_aK (K := K) rfl) (pv 0) (pv 2) (fun _ _ => rfl)) (pa_cons (pe_ix (ix_aK (K := K) rfl) (pv 1) (pv 2) (fun _ _ => rfl)) pa_nil)))) pa_nil)))))) pss_nil)
        (pss_cons (ps_if (pt_cmpR op_isN (pv 1) pe_non (nomark _)) (pss_one (ps_ret (pe_cmpR op_isN (pv 0) pe_non (nomark _)))) pss_nil)
        (pss_cons (ps_if (PW.pt (pw_or (pt_val (pe_callB (call_isiK' (K := K) rfl) (by rfl) B.isi boot_isinstance (pa_cons (pv 1) (pa_cons (pe_bltn (v := .ty "bool") (by rfl) B.bool (by decide +kernel) rfl) pa_nil)))) (pw_or1 (pt_val (pe_callB (call_isiK' (K := K) rfl) (by rfl) B.isi boot_isinstance (pa_cons (pv 0) (pa_cons (pe_bltn (v := .ty "bool") (by rfl) B.bool (by decide +kernel) rfl) pa_nil)))))))
          (pss_one (ps_ret (pe_and (pe_callB (call_isiK' (K := K) rfl) (by rfl) B.isi boot_isinstance (pa_cons (pv 1) (pa_cons (pe_bltn (v := .ty "bool") (by rfl) B.bool (by decide +kernel) rfl) pa_nil))) (pe_and (pe_callB (call_isiK' (K := K) rfl) (by rfl) B.isi boot_isinstance (pa_cons (pv 0) (pa_cons (pe_bltn (v := .ty "bool") (by rfl) B.bool (by decide +kernel) rfl) pa_nil))) (pe_one (pe_cmpR op_eq (pv 1) (pv 0) (nomark _))))))) pss_nil)
        (pss_cons (ps_if (pt_val (pe_callB (call_isiK' (K := K) rfl) (by rfl) B.isi boot_isinstance (pa_cons (pv 1) (pa_cons (pe_bltn (v := .ty "int") (by rfl) B.int (by decide +kernel) rfl) pa_nil))))
          (pss_one (ps_ret (pe_and (pe_callB (call_isiK' (K := K) rfl) (by rfl) B.isi boot_isinstance (pa_cons (pv 0) (pa_cons (pe_bltn (v := .ty "int") (by rfl) B.int (by decide +kernel) rfl) pa_nil))) (pe_one (pe_cmpR op_eq (pv 0) (pv 1) (nomark _)))))) pss_nil)
        (pss_one (ps_ret (pe_and (pe_callB (call_isiK' (K := K) rfl) (by rfl) B.isi boot_isinstance (pa_cons (pv 0) (pa_cons (pe_bltn (v := .ty "str") (by rfl) B.str (by decide +kernel) rfl) pa_nil))) (pe_one (pe_cmpR op_eq (pv 0) (pv 1) (nomark _))))))))), ?_⟩
      show tSeq _ _ _ [_, _, none] _
      cases d with
      | none =>
        cases hx; cases hy
        have h1 : Dp K H .non .none := .non
        walk_at "go"
        exact qdec rfl (q _ (Same.refl _))
      | bool b =>
        cases hx; cases hy
        have h1 : Dp K H (.bl b) (.bool b) := .bl b
        walk_at "go"
        exact qdec rfl (q _ (Same.refl _))
      | int i =>
        cases hx; cases hy
        have h1 : Dp K H (.int i) (.int i) := .int i
        walk_at "go"
        exact qdec rfl (q _ (Same.refl _))
      | str x =>
        cases hx; cases hy
        have h1 : Dp K H (.str x) (.str x) := .str x
        walk_at "go"
        exact qdec rfl (q _ (Same.refl _))
      | list ds =>
        have h1 := hx
        have h2 := hy
        cases hx with
        | lst hs1 ha1 =>
        rename_i a1 xs1
        cases hy with
        | lst hs2 ha2 =>
        rename_i a2 xs2
        have l1 := dpAll_len ha1
        have l2 := dpAll_len ha2
        walk_at "go"
        refine ite_f (nd_f (by rw [l1, l2])) ?_
        walk_at "go"
        have hdd : PyData.depthAll ds < n := by
          have h3 : PyData.depthAll ds + 1 < n + 1 := by simpa [PyData.depth] using hd
          omega
        have hsz : ds.length ≤ 100000 ∧ dszAll ds = true := by
          have hsh : (decide (ds.length ≤ 100000) && dszAll ds) = true := by simpa [dsz] using hsh
          exact ⟨of_decide_eq_true (Bool.and_eq_true_iff.mp hsh).1, (Bool.and_eq_true_iff.mp hsh).2⟩
        obtain ⟨hsz, hsa⟩ := hsz
        have hsz2 : 100000 < sizeLine := by decide
        refine ⟨.ref a2, rfl, a2, xs2, rfl, .inl hs2, xs2.length, rfl, by omega, by omega, fun D nD => ?_⟩
        refine lc_range (lo := 0) (n := xs2.length) (fun i H' => Same H H' ∧ H' D = some (.lst ((List.replicate i true).map V.bl))) ⟨same_new nD, upd_same⟩ ?_ ?_
        · rintro i H' hi ⟨sm, hD⟩
          have hi1 : i < xs1.length := by omega
          obtain ⟨d1, e1, p1⟩ := dpAll_at ha1 (List.getElem?_eq_getElem hi1)
          obtain ⟨d2, e2, p2⟩ := dpAll_at ha2 (List.getElem?_eq_getElem hi)
          have e12 : d1 = d2 := Option.some.inj (e1.symm.trans e2)
          subst e12
          have k1 : SqL K H' a1 xs1 ∨ SqT K H' a1 xs1 := .inl (sm.seq hs1)
          have k2 : SqL K H' a2 xs2 ∨ SqT K H' a2 xs2 := .inl (sm.seq hs2)
          walk_at "go"
          refine r_ixa k1 (by rw [Int.zero_add]; exact atI_nat (List.getElem?_eq_getElem hi1)) ?_
          walk_at "go"
          refine r_ixa k2 (by rw [Int.zero_add]; exact atI_nat (List.getElem?_eq_getElem hi)) ?_
          walk_at "go"
          refine ⟨_, _, d1, rfl, dp_mono sm p1, dp_mono sm p2, Nat.lt_of_le_of_lt (depthAll_at e1) hdd, dszAll_at hsa e1, fun H2 s2 => ?_⟩
          refine ⟨_, s2 _ _ hD, ?_, fun b o e => (upd_ne (ne_of_none e nD)).trans (s2 _ _ (sm _ _ e)), ?_⟩
          · rw [List.length_map, List.length_replicate]; omega
          · rw [upd_same, List.replicate_succ', List.map_append]; rfl
        · rintro H' ⟨sm, hD⟩
          walk_at "go"
          refine ⟨D, _, rfl, .inl (.inl hD), ?_⟩
          rw [show (List.replicate xs2.length true).all id = true by simp]
          exact q _ sm
      | tuple ds =>
        have h1 := hx
        have h2 := hy
        cases hx with
        | tup hs1 ha1 =>
        rename_i a1 xs1
        cases hy with
        | tup hs2 ha2 =>
        rename_i a2 xs2
        have l1 := dpAll_len ha1
        have l2 := dpAll_len ha2
        walk_at "go"
        refine ite_f (nd_f (by rw [l1, l2])) ?_
        walk_at "go"
        have hdd : PyData.depthAll ds < n := by
          have h3 : PyData.depthAll ds + 1 < n + 1 := by simpa [PyData.depth] using hd
          omega
        have hsz : ds.length ≤ 100000 ∧ dszAll ds = true := by
          have hsh : (decide (ds.length ≤ 100000) && dszAll ds) = true := by simpa [dsz] using hsh
          exact ⟨of_decide_eq_true (Bool.and_eq_true_iff.mp hsh).1, (Bool.and_eq_true_iff.mp hsh).2⟩
        obtain ⟨hsz, hsa⟩ := hsz
        have hsz2 : 100000 < sizeLine := by decide
        refine ⟨.ref a2, rfl, a2, xs2, rfl, .inr hs2, xs2.length, rfl, by omega, by omega, fun D nD => ?_⟩
        refine lc_range (lo := 0) (n := xs2.length) (fun i H' => Same H H' ∧ H' D = some (.lst ((List.replicate i true).map V.bl))) ⟨same_new nD, upd_same⟩ ?_ ?_
        · rintro i H' hi ⟨sm, hD⟩
          have hi1 : i < xs1.length := by omega
          obtain ⟨d1, e1, p1⟩ := dpAll_at ha1 (List.getElem?_eq_getElem hi1)
          obtain ⟨d2, e2, p2⟩ := dpAll_at ha2 (List.getElem?_eq_getElem hi)
          have e12 : d1 = d2 := Option.some.inj (e1.symm.trans e2)
          subst e12
          have k1 : SqL K H' a1 xs1 ∨ SqT K H' a1 xs1 := .inr (same_sqT sm hs1)
          have k2 : SqL K H' a2 xs2 ∨ SqT K H' a2 xs2 := .inr (same_sqT sm hs2)
          walk_at "go"
          refine r_ixa k1 (by rw [Int.zero_add]; exact atI_nat (List.getElem?_eq_getElem hi1)) ?_
          walk_at "go"
          refine r_ixa k2 (by rw [Int.zero_add]; exact atI_nat (List.getElem?_eq_getElem hi)) ?_
          walk_at "go"
          refine ⟨_, _, d1, rfl, dp_mono sm p1, dp_mono sm p2, Nat.lt_of_le_of_lt (depthAll_at e1) hdd, dszAll_at hsa e1, fun H2 s2 => ?_⟩
          refine ⟨_, s2 _ _ hD, ?_, fun b o e => (upd_ne (ne_of_none e nD)).trans (s2 _ _ (sm _ _ e)), ?_⟩
          · rw [List.length_map, List.length_replicate]; omega
          · rw [upd_same, List.replicate_succ', List.map_append]; rfl
        · rintro H' ⟨sm, hD⟩
          walk_at "go"
          refine ⟨D, _, rfl, .inl (.inl hD), ?_⟩
          rw [show (List.replicate xs2.length true).all id = true by simp]
          exact q _ sm
      | dict ds => cases hx
end
end Wn


namespace Wn
open PySem PySem.Spec PyProof.Rows L2
/-- the heap without b -/
def hid (H : Hp) (b : Addr) : Hp := fun x => if x = b then none else H x
theorem hid_some {H : Hp} {b x : Addr} {o : HO} (e : H x = some o) (ne : x ≠ b) : hid H b x = some o := by unfold hid; rw [if_neg ne]; exact e
theorem hid_same {H : Hp} {b : Addr} : Same (hid H b) H := fun x o e => by
  unfold hid at e
  by_cases h : x = b
  · rw [if_pos h] at e; cases e
  · rw [if_neg h] at e; exact e
theorem hid_but {H H' H0 : Hp} {b : Addr} (s : Same (hid H0 b) H) (h : ∀ x, x ≠ b → H' x = H x) : Same (hid H0 b) H' := fun x o e => by
  have ne : x ≠ b := fun z => by
    unfold hid at e
    rw [if_pos z] at e
    cases e
  rw [h x ne]
  exact s x o e
theorem hid_up {H H' : Hp} {b : Addr} (s : Same H H') : Same (hid H b) H' := hid_same.trans s
theorem hid_hid {H H' H'' : Hp} {b : Addr} (s : Same (hid H b) H') (t : Same (hid H' b) H'') : Same (hid H b) H'' := fun x o e => by
  have ne : x ≠ b := fun z => by
    unfold hid at e
    rw [if_pos z] at e
    cases e
  exact t x o (hid_some (s x o e) ne)
theorem hid_free {H H' : Hp} {b x : Addr} (s : Same (hid H b) H') (n : H' x = none) (ne : x ≠ b) : H x = none := by
  cases e : H x with
  | none => rfl
  | some o =>
    have := s x o (hid_some e ne)
    rw [n] at this
    cases this
theorem hid_seqT {K : PySem.W.Frag} {H : Hp} {b a : Addr} {xs ys : List V} (hb : H b = some (.lst ys)) (h : SqT K H a xs) : SqT K (hid H b) a xs := by
  rcases h with (h | ⟨o, h⟩) | h
  · exact .inl (.inl (hid_some h (ne_of h hb (by intro z; cases z))))
  · exact .inl (.inr ⟨o, hid_some h (ne_of h hb (by intro z; cases z))⟩)
  · exact .inr h
theorem BoxAt.mono {H H' : Hp} {b c : Addr} (x : BoxAt H b c) (s : Same H H') : BoxAt H' b c :=
  let ⟨cs, i, d, sd, n, hb, hc, hi, hd⟩ := x.ex
  ⟨x.ne, cs, i, d, sd, n, s _ _ hb, s _ _ hc, hi, hd⟩
theorem BoxAt.lst {H : Hp} {b c : Addr} (x : BoxAt H b c) : ∃ xs, H b = some (.lst xs) := let ⟨_, _, _, _, _, hb, _⟩ := x.ex; ⟨_, hb⟩
theorem BoxAt.nb {H : Hp} {b c q : Addr} (x : BoxAt H b c) (h : H q = none) : b ≠ q := let ⟨_, e⟩ := x.lst; ne_of_none e h
theorem BoxAt.put {H H1 : Hp} {b c D : Addr} {o : HO} (x : BoxAt H b c) (y : BoxAt H1 b c) (n : H1 D = none) : BoxAt (upd H D o) b c := by
  obtain ⟨ne, cs, i, d, sd, k, hb, hc, hi, hd⟩ := x
  obtain ⟨_, cs', i', d', sd', k', hb', hc', _, _⟩ := y
  exact ⟨ne, cs, i, d, sd, k, (upd_ne (ne_of_none hb' n)).trans hb, (upd_ne (ne_of_none hc' n)).trans hc, hi, hd⟩
theorem hid_put {H H1 : Hp} {b D : Addr} {o : HO} (s : Same (hid H1 b) H) (n : H1 D = none) : Same (hid H1 b) (upd H D o) := fun x u e => (upd_ne (ne_of_none (hid_same _ _ e) n)).trans (s x u e)
end Wn


namespace Wn
open PySem PySem.Spec PyProof.Rows L2
abbrev s_is_name : Stmt := top 6
theorem sc_is_name : FnScope ["value", "letter"] ["value"] (defScope s_is_name) := ⟨rfl, rfl, rfl, by decide +kernel, rfl, by decide +kernel, by decide +kernel⟩
abbrev s_is_whole : Stmt := top 7
theorem sc_is_whole : FnScope ["value", "low", "high"] ["value", "low", "high"] (defScope s_is_whole) := ⟨rfl, rfl, rfl, by decide +kernel, rfl, by decide +kernel, by decide +kernel⟩
abbrev s_has_items : Stmt := top 8
theorem sc_has_items : FnScope ["value", "count"] ["value", "count"] (defScope s_has_items) := ⟨rfl, rfl, rfl, by decide +kernel, rfl, by decide +kernel, by decide +kernel⟩
abbrev s_are_names : Stmt := top 9
theorem sc_are_names : FnScope ["values", "value"] ["values"] (defScope s_are_names) := ⟨rfl, rfl, rfl, by decide +kernel, rfl, by decide +kernel, by decide +kernel⟩
abbrev s_names_of : Stmt := top 12
theorem sc_names_of : FnScope ["fields", "name", "field"] ["fields"] (defScope s_names_of) := ⟨rfl, rfl, rfl, by decide +kernel, rfl, by decide +kernel, by decide +kernel⟩
abbrev s_check_parts : Stmt := top 13
theorem sc_check_parts : FnScope ["words", "fields", "room", "name", "field", "part"] ["words", "fields", "room"] (defScope s_check_parts) := ⟨rfl, rfl, rfl, by decide +kernel, rfl, by decide +kernel, by decide +kernel⟩
abbrev s_are_form_words : Stmt := top 14
theorem sc_are_form_words : FnScope ["value"] ["value"] (defScope s_are_form_words) := ⟨rfl, rfl, rfl, by decide +kernel, rfl, by decide +kernel, by decide +kernel⟩
abbrev s_are_form_fields : Stmt := top 15
theorem sc_are_form_fields : FnScope ["value", "pair", "name", "field"] ["value"] (defScope s_are_form_fields) := ⟨rfl, rfl, rfl, by decide +kernel, rfl, by decide +kernel, by decide +kernel⟩
abbrev s_wrong_part : Stmt := top 16
theorem sc_wrong_part : FnScope ["words", "names", "name", "field", "first", "looks", "near", "far"] ["words", "names", "name", "field"] (defScope s_wrong_part) := ⟨rfl, rfl, rfl, by decide +kernel, rfl, by decide +kernel, by decide +kernel⟩
abbrev s_is_near : Stmt := top 17
theorem sc_is_near : FnScope ["value", "looks", "count", "row"] ["value", "looks", "count"] (defScope s_is_near) := ⟨rfl, rfl, rfl, by decide +kernel, rfl, by decide +kernel, by decide +kernel⟩
abbrev s_is_entry_row : Stmt := top 18
theorem sc_is_entry_row : FnScope ["value", "count", "entry"] ["value", "count"] (defScope s_is_entry_row) := ⟨rfl, rfl, rfl, by decide +kernel, rfl, by decide +kernel, by decide +kernel⟩
abbrev s_Form_init : Stmt := inClass (top 11) 0
theorem sc_Form_init : FnScope ["self", "words", "fields", "room"] ["self", "words", "fields", "room"] (defScope s_Form_init) := ⟨rfl, rfl, rfl, by decide +kernel, rfl, by decide +kernel, by decide +kernel⟩
abbrev s_Form_eq : Stmt := inClass (top 11) 1
theorem sc_Form_eq : FnScope ["self", "other"] ["self", "other"] (defScope s_Form_eq) := ⟨rfl, rfl, rfl, by decide +kernel, rfl, by decide +kernel, by decide +kernel⟩
abbrev s_Form_field_names : Stmt := inClass (top 11) 2
theorem sc_Form_field_names : FnScope ["self"] ["self"] (defScope s_Form_field_names) := ⟨rfl, rfl, rfl, by decide +kernel, rfl, by decide +kernel, by decide +kernel⟩
abbrev s_Form_parts_of : Stmt := inClass (top 11) 3
theorem sc_Form_parts_of : FnScope ["self", "name", "own", "field"] ["self", "name"] (defScope s_Form_parts_of) := ⟨rfl, rfl, rfl, by decide +kernel, rfl, by decide +kernel, by decide +kernel⟩
abbrev s_Form_readers : Stmt := inClass (top 11) 4
theorem sc_Form_readers : FnScope ["self", "name", "own", "first", "looks", "near", "far"] ["self", "name"] (defScope s_Form_readers) := ⟨rfl, rfl, rfl, by decide +kernel, rfl, by decide +kernel, by decide +kernel⟩
abbrev s_L_names : Stmt := top 24
theorem sc_L_names : FnScope ["_law_box_here", "_law_many", "_law_names_here", "_law_k", "_law_word", "_law_at", "_law_free", "_law_sign"] ["_law_box_here", "_law_many"] (defScope s_L_names) := ⟨rfl, rfl, rfl, by decide +kernel, rfl, by decide +kernel, by decide +kernel⟩
abbrev s_L_entries : Stmt := top 25
theorem sc_L_entries : FnScope ["_law_box_here", "_law_notes", "_law_size", "_law_menu", "_law_k"] ["_law_box_here", "_law_notes", "_law_size"] (defScope s_L_entries) := ⟨rfl, rfl, rfl, by decide +kernel, rfl, by decide +kernel, by decide +kernel⟩
abbrev s_L_field : Stmt := top 26
theorem sc_L_field : FnScope ["_law_box_here", "_law_words", "_law_names_here", "_law_name", "_law_notes", "_law_first", "_law_others_here", "_law_other", "_law_looks", "_law_near", "_law_word", "_law_far"] ["_law_box_here", "_law_words", "_law_names_here", "_law_name", "_law_notes"] (defScope s_L_field) := ⟨rfl, rfl, rfl, by decide +kernel, rfl, by decide +kernel, by decide +kernel⟩
abbrev s_L_parts : Stmt := top 27
theorem sc_L_parts : FnScope ["_law_box_here", "_law_size", "_law_words", "_law_names_here", "_law_notes", "_law_fields", "_law_name"] ["_law_box_here"] (defScope s_L_parts) := ⟨rfl, rfl, rfl, by decide +kernel, rfl, by decide +kernel, by decide +kernel⟩
abbrev s_L_tells : Stmt := top 28
theorem sc_L_tells : FnScope ["_law_form", "_law_parts_here", "_law_names_here", "_law_pair", "_law_name", "_law_field_here", "_law_due"] ["_law_form", "_law_parts_here"] (defScope s_L_tells) := ⟨rfl, rfl, rfl, by decide +kernel, rfl, by decide +kernel, by decide +kernel⟩
abbrev s_L_turned : Stmt := top 29
theorem sc_L_turned : FnScope ["_law_row", "_law_entry"] ["_law_row"] (defScope s_L_turned) := ⟨rfl, rfl, rfl, by decide +kernel, rfl, by decide +kernel, by decide +kernel⟩
abbrev s_L_others : Stmt := top 30
theorem sc_L_others : FnScope ["_law_box_here", "_law_parts_here", "_law_words", "_law_fields", "_law_size", "_law_at", "_law_name", "_law_field_here", "_law_first", "_law_looks", "_law_near", "_law_far", "_law_other", "_law_found", "_law_changed", "_law_made"] ["_law_box_here", "_law_parts_here"] (defScope s_L_others) := ⟨rfl, rfl, rfl, by decide +kernel, rfl, by decide +kernel, by decide +kernel⟩
abbrev s_law : Stmt := top 31
theorem sc_law : FnScope ["_law_script", "_law_box_here", "_law_parts_here", "_law_form", "_law_plain", "_law_twin", "_law_other", "_law_unlike"] ["_law_script"] (defScope s_law) := ⟨rfl, rfl, rfl, by decide +kernel, rfl, by decide +kernel, by decide +kernel⟩
structure Txt (K : PySem.W.Frag) (mg : Str → Option Value) where
  B : Blt mg
  set : mg "set" = none
  f_is_name : Addr
  d_is_name : FuncData
  F_is_name : Fun K "is_name" "is_name" s_is_name f_is_name d_is_name
  b_is_name : Binds K d_is_name ["value"] []
  g_is_name : mg "is_name" = some (.ref f_is_name)
  f_is_whole : Addr
  d_is_whole : FuncData
  F_is_whole : Fun K "is_whole" "is_whole" s_is_whole f_is_whole d_is_whole
  b_is_whole : Binds K d_is_whole ["value", "low", "high"] []
  g_is_whole : mg "is_whole" = some (.ref f_is_whole)
  f_has_items : Addr
  d_has_items : FuncData
  F_has_items : Fun K "has_items" "has_items" s_has_items f_has_items d_has_items
  b_has_items : Binds K d_has_items ["value", "count"] []
  g_has_items : mg "has_items" = some (.ref f_has_items)
  f_are_names : Addr
  d_are_names : FuncData
  F_are_names : Fun K "are_names" "are_names" s_are_names f_are_names d_are_names
  b_are_names : Binds K d_are_names ["values"] []
  g_are_names : mg "are_names" = some (.ref f_are_names)
  f_names_of : Addr
  d_names_of : FuncData
  F_names_of : Fun K "names_of" "names_of" s_names_of f_names_of d_names_of
  b_names_of : Binds K d_names_of ["fields"] []
  g_names_of : mg "names_of" = some (.ref f_names_of)
  f_check_parts : Addr
  d_check_parts : FuncData
  F_check_parts : Fun K "check_parts" "check_parts" s_check_parts f_check_parts d_check_parts
  b_check_parts : Binds K d_check_parts ["words", "fields", "room"] []
  g_check_parts : mg "check_parts" = some (.ref f_check_parts)
  f_are_form_words : Addr
  d_are_form_words : FuncData
  F_are_form_words : Fun K "are_form_words" "are_form_words" s_are_form_words f_are_form_words d_are_form_words
  b_are_form_words : Binds K d_are_form_words ["value"] []
  g_are_form_words : mg "are_form_words" = some (.ref f_are_form_words)
  f_are_form_fields : Addr
  d_are_form_fields : FuncData
  F_are_form_fields : Fun K "are_form_fields" "are_form_fields" s_are_form_fields f_are_form_fields d_are_form_fields
  b_are_form_fields : Binds K d_are_form_fields ["value"] []
  g_are_form_fields : mg "are_form_fields" = some (.ref f_are_form_fields)
  f_wrong_part : Addr
  d_wrong_part : FuncData
  F_wrong_part : Fun K "wrong_part" "wrong_part" s_wrong_part f_wrong_part d_wrong_part
  b_wrong_part : Binds K d_wrong_part ["words", "names", "name", "field"] []
  g_wrong_part : mg "wrong_part" = some (.ref f_wrong_part)
  f_is_near : Addr
  d_is_near : FuncData
  F_is_near : Fun K "is_near" "is_near" s_is_near f_is_near d_is_near
  b_is_near : Binds K d_is_near ["value", "looks", "count"] []
  g_is_near : mg "is_near" = some (.ref f_is_near)
  f_is_entry_row : Addr
  d_is_entry_row : FuncData
  F_is_entry_row : Fun K "is_entry_row" "is_entry_row" s_is_entry_row f_is_entry_row d_is_entry_row
  b_is_entry_row : Binds K d_is_entry_row ["value", "count"] []
  g_is_entry_row : mg "is_entry_row" = some (.ref f_is_entry_row)
  f_L_mix : Addr
  d_L_mix : FuncData
  F_L_mix : Fun K "_law_mix" "_law_mix" sMix f_L_mix d_L_mix
  b_L_mix : Binds K d_L_mix ["_law_value", "_law_k"] []
  g_L_mix : mg "_law_mix" = some (.ref f_L_mix)
  f_L_box : Addr
  d_L_box : FuncData
  F_L_box : Fun K "_law_box" "_law_box" sBox f_L_box d_L_box
  b_L_box : Binds K d_L_box ["_law_script"] []
  g_L_box : mg "_law_box" = some (.ref f_L_box)
  f_L_draw : Addr
  d_L_draw : FuncData
  F_L_draw : Fun K "_law_draw" "_law_draw" sDraw f_L_draw d_L_draw
  b_L_draw : Binds K d_L_draw ["_law_box_here", "_law_many"] []
  g_L_draw : mg "_law_draw" = some (.ref f_L_draw)
  f_L_same : Addr
  d_L_same : FuncData
  F_L_same : Fun K "_law_same" "_law_same" sSame f_L_same d_L_same
  b_L_same : Binds K d_L_same ["_law_told", "_law_due"] []
  g_L_same : mg "_law_same" = some (.ref f_L_same)
  f_L_names : Addr
  d_L_names : FuncData
  F_L_names : Fun K "_law_names" "_law_names" s_L_names f_L_names d_L_names
  b_L_names : Binds K d_L_names ["_law_box_here", "_law_many"] []
  g_L_names : mg "_law_names" = some (.ref f_L_names)
  f_L_entries : Addr
  d_L_entries : FuncData
  F_L_entries : Fun K "_law_entries" "_law_entries" s_L_entries f_L_entries d_L_entries
  b_L_entries : Binds K d_L_entries ["_law_box_here", "_law_notes", "_law_size"] []
  g_L_entries : mg "_law_entries" = some (.ref f_L_entries)
  f_L_field : Addr
  d_L_field : FuncData
  F_L_field : Fun K "_law_field" "_law_field" s_L_field f_L_field d_L_field
  b_L_field : Binds K d_L_field ["_law_box_here", "_law_words", "_law_names_here", "_law_name", "_law_notes"] []
  g_L_field : mg "_law_field" = some (.ref f_L_field)
  f_L_parts : Addr
  d_L_parts : FuncData
  F_L_parts : Fun K "_law_parts" "_law_parts" s_L_parts f_L_parts d_L_parts
  b_L_parts : Binds K d_L_parts ["_law_box_here"] []
  g_L_parts : mg "_law_parts" = some (.ref f_L_parts)
  f_L_tells : Addr
  d_L_tells : FuncData
  F_L_tells : Fun K "_law_tells" "_law_tells" s_L_tells f_L_tells d_L_tells
  b_L_tells : Binds K d_L_tells ["_law_form", "_law_parts_here"] []
  g_L_tells : mg "_law_tells" = some (.ref f_L_tells)
  f_L_turned : Addr
  d_L_turned : FuncData
  F_L_turned : Fun K "_law_turned" "_law_turned" s_L_turned f_L_turned d_L_turned
  b_L_turned : Binds K d_L_turned ["_law_row"] []
  g_L_turned : mg "_law_turned" = some (.ref f_L_turned)
  f_L_others : Addr
  d_L_others : FuncData
  F_L_others : Fun K "_law_others" "_law_others" s_L_others f_L_others d_L_others
  b_L_others : Binds K d_L_others ["_law_box_here", "_law_parts_here"] []
  g_L_others : mg "_law_others" = some (.ref f_L_others)
  C : Addr
  g_Form : mg "Form" = some (.ref C)
  cl : Cls K C
  na_words : NoAttr K C "words"
  na_fields : NoAttr K C "fields"
  na_room : NoAttr K C "room"
  f_Form_eq : Addr
  d_Form_eq : FuncData
  F_Form_eq : Fun K "__eq__" "Form.__eq__" s_Form_eq f_Form_eq d_Form_eq
  b_Form_eq : Binds K d_Form_eq ["self", "other"] []
  m_Form_eq : Meth K C "__eq__" f_Form_eq
  f_Form_field_names : Addr
  d_Form_field_names : FuncData
  F_Form_field_names : Fun K "field_names" "Form.field_names" s_Form_field_names f_Form_field_names d_Form_field_names
  b_Form_field_names : Binds K d_Form_field_names ["self"] []
  m_Form_field_names : Meth K C "field_names" f_Form_field_names
  f_Form_parts_of : Addr
  d_Form_parts_of : FuncData
  F_Form_parts_of : Fun K "parts_of" "Form.parts_of" s_Form_parts_of f_Form_parts_of d_Form_parts_of
  b_Form_parts_of : Binds K d_Form_parts_of ["self", "name"] []
  m_Form_parts_of : Meth K C "parts_of" f_Form_parts_of
  f_Form_readers : Addr
  d_Form_readers : FuncData
  F_Form_readers : Fun K "readers" "Form.readers" s_Form_readers f_Form_readers d_Form_readers
  b_Form_readers : Binds K d_Form_readers ["self", "name"] []
  m_Form_readers : Meth K C "readers" f_Form_readers
  f_init : Addr
  d_init : FuncData
  F_init : FunD K "__init__" "Form.__init__" (defArgs s_Form_init) (defBody s_Form_init) (defScope s_Form_init) [] [("room", .int 3)] f_init d_init
  M : Mk K C f_init
  oe : OwnEq K C f_Form_eq
  si : SlX.SIsi K C
  kf : PySem.W.kitOne K (.ref C) (.ref C) = some true
abbrev Txt.isinstance {K : PySem.W.Frag} {mg : Str → Option Value} (T : Txt K mg) : mg "isinstance" = none := T.B.isi
abbrev Txt.len {K : PySem.W.Frag} {mg : Str → Option Value} (T : Txt K mg) : mg "len" = none := T.B.len
abbrev Txt.range {K : PySem.W.Frag} {mg : Str → Option Value} (T : Txt K mg) : mg "range" = none := T.B.range
abbrev Txt.all {K : PySem.W.Frag} {mg : Str → Option Value} (T : Txt K mg) : mg "all" = none := T.B.all
abbrev Txt.str_ {K : PySem.W.Frag} {mg : Str → Option Value} (T : Txt K mg) : mg "str" = none := T.B.str
abbrev Txt.int_ {K : PySem.W.Frag} {mg : Str → Option Value} (T : Txt K mg) : mg "int" = none := T.B.int
abbrev Txt.bool_ {K : PySem.W.Frag} {mg : Str → Option Value} (T : Txt K mg) : mg "bool" = none := T.B.bool
abbrev Txt.tuple_ {K : PySem.W.Frag} {mg : Str → Option Value} (T : Txt K mg) : mg "tuple" = none := T.B.tuple
abbrev Txt.list_ {K : PySem.W.Frag} {mg : Str → Option Value} (T : Txt K mg) : mg "list" = none := T.B.list
end Wn


namespace Wn
open PySem PySem.Spec PyProof.Rows L2

local macro_rules | `(tactic| walk_at "gox1_15") => `(tactic| (first
  | walk_at "go1"
  | (with_reducible apply Wn.r_bm)
  | ((with_reducible apply Wn.r_tyl); (focus (walk_at "lk"; done)))
  | ((with_reducible apply Wn.r_ext); (focus (walk_at "lk"; done)); (focus (walk_at "lk"; done)); (focus ((with_unfolding_all first | (simp only [List.length_cons, List.length_nil, List.length_append]; decide) | fail); done)))
  | ((with_reducible apply Wn.r_cat); (focus (walk_at "lk"; done)); (focus (walk_at "lk"; done)); (focus ((with_unfolding_all first | (simp only [List.length_cons, List.length_nil, List.length_append]; decide) | fail); done)))
  | (with_reducible apply Wn.r_chain)))
local macro_rules | `(tactic| walk_at "gox_15") => `(tactic| repeat (walk_at "gox1_15"))
theorem one_lt (c d : Nat) : ([c] < [d]) ↔ c < d := by simp [List.cons_lt_cons_iff]
theorem a_list : (PySem.Str.ofString "a").cps.toList = [97] := by decide +kernel
theorem z_list : (PySem.Str.ofString "z").cps.toList = [122] := by decide +kernel
theorem le_a {c : Nat} (h : 97 ≤ c) : (!decide ((⟨#[c]⟩ : Str).cps.toList < (PySem.Str.ofString "a").cps.toList)) = true := by
  rw [a_list, decide_eq_false]
  · rfl
  · intro z
    have := (one_lt c 97).mp z
    omega
theorem le_z {c : Nat} (h : c ≤ 122) : (!decide ((PySem.Str.ofString "z").cps.toList < (⟨#[c]⟩ : Str).cps.toList)) = true := by
  rw [z_list, decide_eq_false]
  · rfl
  · intro z
    have := (one_lt 122 c).mp z
    omega
theorem sm_le (c : Nat) : ((⟨#[c]⟩ : Str)).cps.toList = [c] := rfl
def spIsName : Sp := fun vs H Q _ => ∃ z : Str, vs = [.str z] ∧ nameB z = true ∧ ∀ H', Same H H' → Q (.bl true) H'
section
variable {P : Program} {w : World} {K : PySem.W.Frag} {mg : Str → Option Value} {base : Heap}
theorem ok_is_name (T : Txt K mg) : FnOk P w K mg base CX0 1 T.f_is_name T.d_is_name ["value"] spIsName := by
  refine T.F_is_name.ok sc_is_name (fun vs H Q E h => ?_) (fun cdv A outer s H vs Q E hr h => ?_)
  · obtain ⟨z, rfl, _⟩ := h
    rfl
  · obtain ⟨z, rfl, hz, q⟩ := h
    refine ⟨_, (pss_cons (ps_if (PW.pt (pw_or (pt_not (pt_val (pe_callB (call_isiK' (K := K) rfl) (by rfl) T.isinstance boot_isinstance (pa_cons (pv 0) (pa_cons (pe_bltn (v := .ty "str") (by rfl) T.str_ (by decide +kernel) rfl) pa_nil))))) (pw_or1 (pt_not (pt_chain op_le op_le pe_int (pe_callB call_lenStr (by rfl) T.len PySem.boot_len (pa_cons (pv 0) pa_nil)) pe_int))))) (pss_one (ps_ret pe_bl)) pss_nil) (pss_one (ps_ret (pe_callB (cr_allK (K := K) rfl rfl) (by rfl) T.all boot_all (pa_cons (pe_lc (own := [("letter", 1)]) (g := gName 1) (tt := tYes) rfl sc_is_name.nd (pi_str (pv 0)) (blkOk_by (N := ["value", "letter"]) (sc := defScope s_is_name) (by decide +kernel)) (fun _ _ _ _ _ => pg_name (i := 1) sc_is_name.nd rfl (Or.inl rfl)) (fun _ _ _ _ _ => pts_nil) (fun _ _ _ _ _ => (pe_chain op_le_str op_le_str pe_str (pv 1) pe_str))) pa_nil))))), ?_⟩
    show tSeq _ _ _ [_, none] _
    have h1 : Dp K H (.str z) (.str z) := .str z
    have hl := nameB_len hz
    have hs : z.length ≤ sizeLine := Nat.le_trans hl.2 (by decide)
    walk_at "gox_15"
    refine r_lenstr hs ?_
    walk_at "gox_15"
    refine ite_t (decide_eq_true (by omega)) ?_
    walk_at "gox_15"
    refine ite_f (by rw [decide_eq_true (by omega)]; rfl) ?_
    walk_at "gox_15"
    refine ⟨.str z, rfl, z, rfl, fun D nD => lc_text (z := z) (fun i H' => Same H H' ∧ H' D = some (.lst ((List.replicate i true).map V.bl))) ⟨same_new nD, upd_same⟩ ?_ ?_⟩
    · rintro i c H' ec ⟨sm, hD⟩
      have hc := nameB_at hz ec
      have hi : i < z.cps.size := (Array.getElem?_eq_some_iff.mp ec).1
      walk_at "gox_15"
      refine ⟨_, _, rfl, rfl, true, congrArg V.bl (le_a hc.1), ?_⟩
      walk_at "gox_15"
      refine ⟨_, _, rfl, rfl, _, hD, ?_, fun b o e => (upd_ne (ne_of_none e nD)).trans (sm _ _ e), ?_⟩
      · rw [List.length_map, List.length_replicate]
        exact small63 (by have := hl.2; show i ≤ 63; have : z.length = z.cps.size := rfl; omega)
      · rw [upd_same, le_z hc.2, List.replicate_succ', List.map_append]
        rfl
    · rintro H' ⟨sm, hD⟩
      walk_at "gox_15"
      refine ⟨D, _, rfl, .inl (.inl hD), ?_⟩
      rw [show (List.replicate z.cps.size true).all id = true by simp]
      exact q _ sm
end
end Wn


namespace Wn
open PySem PySem.Spec PyProof.Rows L2
theorem ty_sqT {K : PySem.W.Frag} {H : Hp} {a : Addr} {xs : List V} (h : SqT K H a xs) : TyX K H (.ref a) (.type "tuple") := by
  rcases h with (h | ⟨o, h⟩) | ⟨o, its, n, l, c, _⟩
  · exact .base (.tup h)
  · exact .fTuple h
  · exact .kTuple l c
theorem r_tupT {K : PySem.W.Frag} {H : Hp} {a : Addr} {xs : List V} {Q : VK} (h : SqT K H a xs) (q : Q (.bl true) H) : rIsi K [.ref a, .ty "tuple"] H Q :=
  ⟨.ref a, .ty "tuple", _, _, true, rfl, .ty _, ty_sqT h, kit_ty (by decide +kernel), q⟩
theorem str_at {zs : List Str} {i : Nat} {x : V} (h : (zs.map V.str)[i]? = some x) : ∃ z, zs[i]? = some z ∧ x = V.str z := by
  rw [List.getElem?_map] at h
  cases e : zs[i]? with
  | none => rw [e] at h; cases h
  | some z => rw [e] at h; exact ⟨z, rfl, (Option.some.inj h).symm⟩
def spHasItems (K : PySem.W.Frag) : Sp := fun vs H Q _ => ∃ (a : Addr) (xs : List V) (n : Int), vs = [.ref a, .int n] ∧ SqT K H a xs ∧ (xs.length : Int) = n ∧ Q (.bl true) H
def spIsWhole : Sp := fun vs H Q _ => ∃ v lo hi : Int, vs = [.int v, .int lo, .int hi] ∧ lo ≤ v ∧ v ≤ hi ∧ Q (.bl true) H
def spNames (K : PySem.W.Frag) (S : PySem.W.Frag → Hp → Addr → List V → Prop) : Sp := fun vs H Q _ => ∃ (a : Addr) (zs : List Str), vs = [.ref a] ∧ S K H a (zs.map V.str) ∧ zs.Nodup ∧ (∀ z ∈ zs, nameB z = true) ∧ zs.length ≤ 1000 ∧ ∀ H', Same H H' → Q (.bl true) H'

local macro_rules | `(tactic| walk_at "gox1_16") => `(tactic| (first
  | walk_at "go1"
  | (with_reducible apply Wn.r_bm)
  | ((with_reducible apply Wn.r_tyl); (focus (walk_at "lk"; done)))
  | ((with_reducible apply Wn.r_ext); (focus (walk_at "lk"; done)); (focus (walk_at "lk"; done)); (focus ((with_unfolding_all first | (simp only [List.length_cons, List.length_nil, List.length_append]; decide) | fail); done)))
  | ((with_reducible apply Wn.r_cat); (focus (walk_at "lk"; done)); (focus (walk_at "lk"; done)); (focus ((with_unfolding_all first | (simp only [List.length_cons, List.length_nil, List.length_append]; decide) | fail); done)))
  | (with_reducible apply Wn.r_chain)))
local macro_rules | `(tactic| walk_at "gox_16") => `(tactic| repeat (walk_at "gox1_16"))
section
variable {P : Program} {w : World} {K : PySem.W.Frag} {mg : Str → Option Value} {base : Heap}
theorem ok_has_items (T : Txt K mg) : FnOk P w K mg base CX0 1 T.f_has_items T.d_has_items ["value", "count"] (spHasItems K) := by
  refine T.F_has_items.ok sc_has_items (fun vs H Q E h => ?_) (fun cdv A outer s H vs Q E hr h => ?_)
  · obtain ⟨a, xs, n, rfl, _⟩ := h
    rfl
  · obtain ⟨a, xs, n, rfl, hS, hn, q⟩ := h
    refine ⟨_, (pss_one (ps_ret (pe_and (pe_callB (call_isiK' (K := K) rfl) (by rfl) T.isinstance boot_isinstance (pa_cons (pv 0) (pa_cons (pe_bltn (v := .ty "tuple") (by rfl) T.tuple_ (by decide +kernel) rfl) pa_nil))) (pe_one (pe_cmpR op_eq (pe_callB (call_lenK (K := K) rfl) (by rfl) T.len PySem.boot_len (pa_cons (pv 0) pa_nil)) (pv 1) (nomark _)))))), ?_⟩
    show tRet _ _ [_, _] _
    walk_at "gox_16"
    refine r_tupT hS ?_
    walk_at "gox_16"
    exact qdec (congrArg V.int hn) q
theorem ok_is_whole (T : Txt K mg) : FnOk P w K mg base CX0 1 T.f_is_whole T.d_is_whole ["value", "low", "high"] spIsWhole := by
  refine T.F_is_whole.ok sc_is_whole (fun vs H Q E h => ?_) (fun cdv A outer s H vs Q E hr h => ?_)
  · obtain ⟨v, lo, hi, rfl, _⟩ := h
    rfl
  · obtain ⟨v, lo, hi, rfl, h1, h2, q⟩ := h
    have d1 : Dp K H (.int v) (.int v) := .int v
    refine ⟨_, (pss_one (ps_ret (pe_and (pe_callB (call_isiK' (K := K) rfl) (by rfl) T.isinstance boot_isinstance (pa_cons (pv 0) (pa_cons (pe_bltn (v := .ty "int") (by rfl) T.int_ (by decide +kernel) rfl) pa_nil))) (pe_and (pe_not (pe_callB (call_isiK' (K := K) rfl) (by rfl) T.isinstance boot_isinstance (pa_cons (pv 0) (pa_cons (pe_bltn (v := .ty "bool") (by rfl) T.bool_ (by decide +kernel) rfl) pa_nil)))) (pe_one (pe_chain op_le op_le (pv 1) (pv 0) (pv 2))))))), ?_⟩
    show tRet _ _ [_, _, _] _
    walk_at "gox_16"
    refine ite_t (decide_eq_true h1) ?_
    walk_at "gox_16"
    exact qdec h2 q
theorem ok_are_names_L (T : Txt K mg) : FnOk P w K mg base CX0 2 T.f_are_names T.d_are_names ["values"] (spNames K SqL) := by
  refine T.F_are_names.ok sc_are_names (fun vs H Q E h => ?_) (fun cdv A outer s H vs Q E hr h => ?_)
  · obtain ⟨a, zs, rfl, _⟩ := h
    rfl
  · obtain ⟨a, zs, rfl, hS, nd, hz, hl, q⟩ := h
    refine ⟨_, (pss_one (ps_ret (pe_and (pe_callB (cr_allK (K := K) rfl rfl) (by rfl) T.all boot_all (pa_cons (pe_lc (own := [("value", 1)]) (g := gName 1) (tt := tYes) rfl sc_are_names.nd (pi_listK (K := K) rfl (pv 0)) (blkOk_by (N := ["values", "value"]) (sc := defScope s_are_names) (by decide +kernel)) (fun _ _ _ _ _ => pg_name (i := 1) sc_are_names.nd rfl (Or.inl rfl)) (fun _ _ _ _ _ => pts_nil) (fun _ _ _ _ _ => (pe_call (ok_is_name T) (hr.mono (by decide)) (by rfl) T.g_is_name T.F_is_name.kp T.b_is_name .nil pass0 (pa_cons (pv 1) pa_nil)))) pa_nil)) (pe_one (pe_cmpR op_eq (pe_lenSetK (K := K) rfl rfl (by rfl) T.len (by rfl) T.set (pv 0)) (pe_callB (call_lenK (K := K) rfl) (by rfl) T.len PySem.boot_len (pa_cons (pv 0) pa_nil)) (nomark _)))))), ?_⟩
    show tRet _ _ [_, none] _
    walk_at "gox_16"
    refine ⟨.ref a, rfl, a, rfl, ⟨_, hS⟩, fun D nD => lc_list (K := K) (a := a) (xs := zs.map V.str) (fun i H' => Same H H' ∧ H' D = some (.lst ((List.replicate i true).map V.bl))) ⟨same_new nD, upd_same⟩ (fun i H' _ h => h.1.seq hS) ?_ ?_⟩
    · rintro i x H' hi ⟨sm, hD⟩
      obtain ⟨z, ez, rfl⟩ := str_at hi
      have hlt : i < zs.length := (List.getElem?_eq_some_iff.mp ez).1
      walk_at "gox_16"
      refine ⟨z, rfl, hz z (List.mem_of_getElem? ez), fun H2 s2 => ?_⟩
      refine ⟨_, s2 _ _ hD, ?_, fun b o e => (upd_ne (ne_of_none e nD)).trans (s2 _ _ (sm _ _ e)), ?_⟩
      · rw [List.length_map, List.length_replicate]
        exact small1000 (by omega)
      · rw [upd_same, List.replicate_succ', List.map_append]
        rfl
    · rintro H' ⟨sm, hD⟩
      have hS' := sm.seq hS
      walk_at "gox_16"
      refine ⟨D, _, rfl, .inl (.inl hD), ?_⟩
      rw [show (List.replicate (zs.map V.str).length true).all id = true by simp]
      walk_at "gox_16"
      refine ⟨.ref a, rfl, a, zs, rfl, .inl hS', hl, ?_⟩
      walk_at "gox_16"
      refine qdec ?_ (q _ sm)
      rw [List.length_map, WnSet.cnt_nodup nd _ (Nat.le_refl _)]
theorem ok_are_names_T (T : Txt K mg) : FnOk P w K mg base CX0 2 T.f_are_names T.d_are_names ["values"] (spNames K SqT) := by
  refine T.F_are_names.ok sc_are_names (fun vs H Q E h => ?_) (fun cdv A outer s H vs Q E hr h => ?_)
  · obtain ⟨a, zs, rfl, _⟩ := h
    rfl
  · obtain ⟨a, zs, rfl, hS, nd, hz, hl, q⟩ := h
    refine ⟨_, (pss_one (ps_ret (pe_and (pe_callB (cr_allK (K := K) rfl rfl) (by rfl) T.all boot_all (pa_cons (pe_lc (own := [("value", 1)]) (g := gName 1) (tt := tYes) rfl sc_are_names.nd (pi_tupK (K := K) rfl (pv 0)) (blkOk_by (N := ["values", "value"]) (sc := defScope s_are_names) (by decide +kernel)) (fun _ _ _ _ _ => pg_name (i := 1) sc_are_names.nd rfl (Or.inl rfl)) (fun _ _ _ _ _ => pts_nil) (fun _ _ _ _ _ => (pe_call (ok_is_name T) (hr.mono (by decide)) (by rfl) T.g_is_name T.F_is_name.kp T.b_is_name .nil pass0 (pa_cons (pv 1) pa_nil)))) pa_nil)) (pe_one (pe_cmpR op_eq (pe_lenSetK (K := K) rfl rfl (by rfl) T.len (by rfl) T.set (pv 0)) (pe_callB (call_lenK (K := K) rfl) (by rfl) T.len PySem.boot_len (pa_cons (pv 0) pa_nil)) (nomark _)))))), ?_⟩
    show tRet _ _ [_, none] _
    walk_at "gox_16"
    refine ⟨.ref a, rfl, a, rfl, ⟨_, hS⟩, fun D nD => lc_tup (K := K) (a := a) (xs := zs.map V.str) (fun i H' => Same H H' ∧ H' D = some (.lst ((List.replicate i true).map V.bl))) ⟨same_new nD, upd_same⟩ (fun i H' _ h => same_sqT h.1 hS) ?_ ?_⟩
    · rintro i x H' hi ⟨sm, hD⟩
      obtain ⟨z, ez, rfl⟩ := str_at hi
      have hlt : i < zs.length := (List.getElem?_eq_some_iff.mp ez).1
      walk_at "gox_16"
      refine ⟨z, rfl, hz z (List.mem_of_getElem? ez), fun H2 s2 => ?_⟩
      refine ⟨_, s2 _ _ hD, ?_, fun b o e => (upd_ne (ne_of_none e nD)).trans (s2 _ _ (sm _ _ e)), ?_⟩
      · rw [List.length_map, List.length_replicate]
        exact small1000 (by omega)
      · rw [upd_same, List.replicate_succ', List.map_append]
        rfl
    · rintro H' ⟨sm, hD⟩
      have hS' := same_sqT sm hS
      walk_at "gox_16"
      refine ⟨D, _, rfl, .inl (.inl hD), ?_⟩
      rw [show (List.replicate (zs.map V.str).length true).all id = true by simp]
      walk_at "gox_16"
      refine ⟨.ref a, rfl, a, zs, rfl, .inr hS', hl, ?_⟩
      walk_at "gox_16"
      refine qdec ?_ (q _ sm)
      rw [List.length_map, WnSet.cnt_nodup nd _ (Nat.le_refl _)]
end
end Wn


namespace Wn
open PySem PySem.Spec PyProof.Rows L2
/-! ### the data of a form -/
structure Fld where
  first : Str
  looks : Option Str
  nearA : List (Option Str)
  nearL : List (List (Option Str))
  far : Option (List (Option Str))
def entV : Option Str → V
  | none => .non
  | some z => .str z
def RowAt (K : PySem.W.Frag) (H : Hp) (v : V) (r : List (Option Str)) : Prop := ∃ a, v = .ref a ∧ SqT K H a (r.map entV)
def NearAt (K : PySem.W.Frag) (H : Hp) (v : V) (f : Fld) : Prop := match f.looks with
  | none => RowAt K H v f.nearA
  | some _ => ∃ (a : Addr) (vs : List V), v = .ref a ∧ SqT K H a vs ∧ vs.length = f.nearL.length ∧ ∀ (i : Nat) (x : V) (r : List (Option Str)), vs[i]? = some x → f.nearL[i]? = some r → RowAt K H x r
def FarAt (K : PySem.W.Frag) (H : Hp) (v : V) (f : Fld) : Prop := match f.far with
  | none => v = .non
  | some r => RowAt K H v r
def FldAt (K : PySem.W.Frag) (H : Hp) (v : V) (f : Fld) : Prop := ∃ (a : Addr) (nv fv : V), v = .ref a ∧ SqT K H a [.str f.first, entV f.looks, nv, fv] ∧ NearAt K H nv f ∧ FarAt K H fv f
/-- the tuple of the pairs of names and fields -/
structure FieldsAt (K : PySem.W.Frag) (H : Hp) (a : Addr) (fs : List (Str × Fld)) : Prop where
  ex : ∃ vs : List V, SqT K H a vs ∧ vs.length = fs.length ∧ ∀ (i : Nat) (x : V) (p : Str × Fld), vs[i]? = some x → fs[i]? = some p → ∃ (q : Addr) (fv : V), x = .ref q ∧ SqT K H q [.str p.1, fv] ∧ FldAt K H fv p.2
theorem RowAt.mono {K : PySem.W.Frag} {H H' : Hp} {v : V} {r : List (Option Str)} (s : Same H H') (h : RowAt K H v r) : RowAt K H' v r := let ⟨a, e, t⟩ := h; ⟨a, e, same_sqT s t⟩
theorem NearAt.mono {K : PySem.W.Frag} {H H' : Hp} {v : V} {f : Fld} (s : Same H H') (h : NearAt K H v f) : NearAt K H' v f := by
  unfold NearAt at h ⊢
  cases e : f.looks with
  | none => rw [e] at h; exact h.mono s
  | some l =>
    rw [e] at h
    obtain ⟨a, vs, e1, t, hl, hr⟩ := h
    exact ⟨a, vs, e1, same_sqT s t, hl, fun i x r h1 h2 => (hr i x r h1 h2).mono s⟩
theorem FarAt.mono {K : PySem.W.Frag} {H H' : Hp} {v : V} {f : Fld} (s : Same H H') (h : FarAt K H v f) : FarAt K H' v f := by
  unfold FarAt at h ⊢
  cases e : f.far with
  | none => rw [e] at h; exact h
  | some r => rw [e] at h; exact RowAt.mono s h
theorem FldAt.mono {K : PySem.W.Frag} {H H' : Hp} {v : V} {f : Fld} (s : Same H H') (h : FldAt K H v f) : FldAt K H' v f := let ⟨a, nv, fv, e, t, n, r⟩ := h; ⟨a, nv, fv, e, same_sqT s t, n.mono s, r.mono s⟩
theorem FieldsAt.mono {K : PySem.W.Frag} {H H' : Hp} {a : Addr} {fs : List (Str × Fld)} (s : Same H H') (h : FieldsAt K H a fs) : FieldsAt K H' a fs :=
  let ⟨vs, t, hl, hx⟩ := h.ex
  ⟨vs, same_sqT s t, hl, fun i x p h1 h2 => let ⟨q, fv, e, t2, f⟩ := hx i x p h1 h2; ⟨q, fv, e, same_sqT s t2, f.mono s⟩⟩
/-- every entry is None or a message -/
def rowOk (r : List (Option Str)) : Prop := ∀ z, some z ∈ r → nameB z = true
section
variable {σ : L2.St} {H : Hp} {K : PySem.W.Frag} {Q : L2.St → Hp → Prop}
theorem r_gtup {n : Nat} {t : TGs} {a : Addr} {xs : List V} (e : SqT K H a xs) (hl : xs.length = n) (h : t xs σ H Q) : gTup K n t (.ref a) σ H Q := ⟨a, xs, rfl, e, hl, h⟩
theorem r_gcons {t : TG} {u : TGs} {v : V} {r : List V} (h : t v σ H fun σ' H' => u r σ' H' Q) : gCons t u (v :: r) σ H Q := ⟨v, r, rfl, h⟩
theorem r_gnil (h : Q σ H) : gNil [] σ H Q := ⟨rfl, h⟩
end

local macro_rules | `(tactic| walk_at "gox1_17") => `(tactic| (first
  | walk_at "go1"
  | (with_reducible apply Wn.r_bm)
  | ((with_reducible apply Wn.r_tyl); (focus (walk_at "lk"; done)))
  | ((with_reducible apply Wn.r_ext); (focus (walk_at "lk"; done)); (focus (walk_at "lk"; done)); (focus ((with_unfolding_all first | (simp only [List.length_cons, List.length_nil, List.length_append]; decide) | fail); done)))
  | ((with_reducible apply Wn.r_cat); (focus (walk_at "lk"; done)); (focus (walk_at "lk"; done)); (focus ((with_unfolding_all first | (simp only [List.length_cons, List.length_nil, List.length_append]; decide) | fail); done)))
  | (with_reducible apply Wn.r_chain)
  | ((with_reducible apply Wn.r_gtup); (focus ((first | assumption | fail); done)); (focus ((with_unfolding_all first | exact rfl | fail); done)))
  | (with_reducible apply Wn.r_gcons)
  | (with_reducible apply Wn.r_gnil)))
local macro_rules | `(tactic| walk_at "gox_17") => `(tactic| repeat (walk_at "gox1_17"))
def spNamesOf (K : PySem.W.Frag) : Sp := fun vs H Q _ => ∃ (a : Addr) (fs : List (Str × Fld)), vs = [.ref a] ∧ FieldsAt K H a fs ∧ fs.length ≤ 1000 ∧
  ∀ H' q, Same H H' → H q = none → H' q = some (.lst ((fs.map (·.1)).map V.str)) → Q (.ref q) H'
def spRow (K : PySem.W.Frag) : Sp := fun vs H Q _ => ∃ (v : V) (r : List (Option Str)) (n : Int), vs = [v, .int n] ∧ RowAt K H v r ∧ (r.length : Int) = n ∧ rowOk r ∧ r.length ≤ 1000 ∧ ∀ H', Same H H' → Q (.bl true) H'
section
variable {P : Program} {w : World} {K : PySem.W.Frag} {mg : Str → Option Value} {base : Heap}
theorem ok_names_of (T : Txt K mg) : FnOk P w K mg base CX0 1 T.f_names_of T.d_names_of ["fields"] (spNamesOf K) := by
  refine T.F_names_of.ok sc_names_of (fun vs H Q E h => ?_) (fun cdv A outer s H vs Q E hr h => ?_)
  · obtain ⟨a, fs, rfl, _⟩ := h
    rfl
  · obtain ⟨a, fs, rfl, hF, hl, q⟩ := h
    refine ⟨_, (pss_one (ps_ret (pe_lc (own := [("name", 1), ("field", 2)])  (tt := tYes) rfl sc_names_of.nd (pi_tupK (K := K) rfl (pv 0)) (blkOk_by (N := ["fields", "name", "field"]) (sc := defScope s_names_of) (by decide +kernel)) (fun _ _ _ _ _ => pg_tupK (K := K) (n := 2) rfl rfl (pgs_cons (pg_name (i := 1) sc_names_of.nd rfl (Or.inl rfl)) (pgs_cons (pg_name (i := 2) sc_names_of.nd rfl (Or.inl rfl)) pgs_nil))) (fun _ _ _ _ _ => pts_nil) (fun _ _ _ _ _ => (pv 1))))), ?_⟩
    show tRet _ _ [_, none, none] _
    walk_at "gox_17"
    obtain ⟨vs, hS, hvl, hx⟩ := hF.ex
    refine ⟨.ref a, rfl, a, rfl, ⟨_, hS⟩, fun D nD => lc_tup (K := K) (a := a) (xs := vs) (fun i H' => Same H H' ∧ H' D = some (.lst (((fs.take i).map (·.1)).map V.str))) ⟨same_new nD, upd_same⟩ (fun i H' _ h => same_sqT h.1 hS) ?_ ?_⟩
    · rintro i x H' hi ⟨sm, hD⟩
      have hlt : i < fs.length := by rw [← hvl]; exact (List.getElem?_eq_some_iff.mp hi).1
      have ef : fs[i]? = some fs[i] := List.getElem?_eq_getElem hlt
      obtain ⟨p, fv, rfl, hp, _⟩ := hx i x _ hi ef
      have hp' := same_sqT sm hp
      walk_at "gox_17"
      refine ⟨_, hD, ?_, fun b o e => (upd_ne (ne_of_none e nD)).trans (sm _ _ e), ?_⟩
      · rw [List.length_map, List.length_map, List.length_take]
        exact small1000 (by omega)
      · rw [upd_same, take_at ef, List.map_append, List.map_append]
        rfl
    · rintro H' ⟨sm, hD⟩
      rw [hvl, List.take_length] at hD
      walk_at "gox_17"
      exact q _ D sm nD hD
theorem ok_is_entry_row (T : Txt K mg) : FnOk P w K mg base CX0 2 T.f_is_entry_row T.d_is_entry_row ["value", "count"] (spRow K) := by
  refine T.F_is_entry_row.ok sc_is_entry_row (fun vs H Q E h => ?_) (fun cdv A outer s H vs Q E hr h => ?_)
  · obtain ⟨v, r, n, rfl, _⟩ := h
    rfl
  · obtain ⟨v, r, n, rfl, ⟨a, rfl, hS⟩, hn, ok, hl, q⟩ := h
    refine ⟨_, (pss_one (ps_ret (pe_and (pe_call (ok_has_items T) (hr.mono (by decide)) (by rfl) T.g_has_items T.F_has_items.kp T.b_has_items .nil pass0 (pa_cons (pv 0) (pa_cons (pv 1) pa_nil))) (pe_one (pe_callB (cr_allK (K := K) rfl rfl) (by rfl) T.all boot_all (pa_cons (pe_lc (own := [("entry", 2)]) (g := gName 2) (tt := tYes) rfl sc_is_entry_row.nd (pi_tupK (K := K) rfl (pv 0)) (blkOk_by (N := ["value", "count", "entry"]) (sc := defScope s_is_entry_row) (by decide +kernel)) (fun _ _ _ _ _ => pg_name (i := 2) sc_is_entry_row.nd rfl (Or.inl rfl)) (fun _ _ _ _ _ => pts_nil) (fun _ _ _ _ _ => (pe_or (pe_cmpR op_isN (pv 2) pe_non (nomark _)) (pe_one (pe_call (ok_is_name T) (hr.mono (by decide)) (by rfl) T.g_is_name T.F_is_name.kp T.b_is_name .nil pass0 (pa_cons (pv 2) pa_nil)))))) pa_nil)))))), ?_⟩
    show tRet _ _ [_, _, none] _
    walk_at "gox_17"
    refine ⟨a, _, n, rfl, hS, by rw [List.length_map]; exact hn, ?_⟩
    walk_at "gox_17"
    refine ⟨.ref a, rfl, a, rfl, ⟨_, hS⟩, fun D nD => lc_tup (K := K) (a := a) (xs := r.map entV) (fun i H' => Same H H' ∧ H' D = some (.lst ((List.replicate i true).map V.bl))) ⟨same_new nD, upd_same⟩ (fun i H' _ h => same_sqT h.1 hS) ?_ ?_⟩
    · rintro i x H' hi ⟨sm, hD⟩
      have hlt : i < r.length := by have := (List.getElem?_eq_some_iff.mp hi).1; rw [List.length_map] at this; exact this
      have er : r[i]? = some r[i] := List.getElem?_eq_getElem hlt
      have ex : x = entV r[i] := by rw [List.getElem?_map, er] at hi; exact (Option.some.inj hi).symm
      have fin : ∀ H2, Same H' H2 → ∃ acc, H2 D = some (.lst acc) ∧ acc.length < sizeLine ∧ Same H (upd H2 D (.lst (acc ++ [V.bl true]))) ∧ (upd H2 D (.lst (acc ++ [V.bl true]))) D = some (.lst ((List.replicate (i + 1) true).map V.bl)) := fun H2 s2 => by
        refine ⟨_, s2 _ _ hD, ?_, fun b o e => (upd_ne (ne_of_none e nD)).trans (s2 _ _ (sm _ _ e)), ?_⟩
        · rw [List.length_map, List.length_replicate]
          exact small1000 (by omega)
        · rw [upd_same, List.replicate_succ', List.map_append]
          rfl
      cases e : r[i] with
      | none =>
        rw [e] at ex
        subst ex
        walk_at "gox_17"
        exact fin H' (Same.refl _)
      | some z =>
        rw [e] at ex
        subst ex
        walk_at "gox_17"
        exact ⟨z, rfl, ok z (by rw [← e]; exact List.getElem_mem hlt), fun H2 s2 => fin H2 s2⟩
    · rintro H' ⟨sm, hD⟩
      walk_at "gox_17"
      refine ⟨D, _, rfl, .inl (.inl hD), ?_⟩
      rw [show (List.replicate (r.map entV).length true).all id = true by simp]
      exact q _ sm
end
end Wn


namespace Wn
open PySem PySem.Spec PyProof.Rows L2
structure Fld.Ok (ws names : List Str) (name : Str) (f : Fld) : Prop where
  first : f.first ∈ ws
  looks : ∀ l, f.looks = some l → l ≠ name ∧ l ∈ names
  alone : f.looks = none → f.nearA.length = ws.length ∧ rowOk f.nearA
  pairs : ∀ l, f.looks = some l → f.nearL.length = ws.length ∧ ∀ r ∈ f.nearL, r.length = ws.length ∧ rowOk r
  far : ∀ r, f.far = some r → r.length = ws.length ∧ rowOk r
theorem r_inF {H : Hp} {K : PySem.W.Frag} {Q : VK} {p : Addr} {z : Str} {zs : List Str} (e : SqL K H p (zs.map V.str) ∨ SqT K H p (zs.map V.str)) (q : Q (.bl (decide (z ∈ zs))) H) : rInS K false (.str z) (.ref p) H Q := r_ins e (by rw [if_neg Bool.false_ne_true]; exact q)
theorem r_inT {H : Hp} {K : PySem.W.Frag} {Q : VK} {p : Addr} {z : Str} {zs : List Str} (e : SqL K H p (zs.map V.str) ∨ SqT K H p (zs.map V.str)) (q : Q (.bl (!decide (z ∈ zs))) H) : rInS K true (.str z) (.ref p) H Q := r_ins e (by rw [if_pos rfl]; exact q)

local macro_rules | `(tactic| walk_at "gox1_18") => `(tactic| (first
  | walk_at "go1"
  | (with_reducible apply Wn.r_bm)
  | ((with_reducible apply Wn.r_tyl); (focus (walk_at "lk"; done)))
  | ((with_reducible apply Wn.r_ext); (focus (walk_at "lk"; done)); (focus (walk_at "lk"; done)); (focus ((with_unfolding_all first | (simp only [List.length_cons, List.length_nil, List.length_append]; decide) | fail); done)))
  | ((with_reducible apply Wn.r_cat); (focus (walk_at "lk"; done)); (focus (walk_at "lk"; done)); (focus ((with_unfolding_all first | (simp only [List.length_cons, List.length_nil, List.length_append]; decide) | fail); done)))
  | (with_reducible apply Wn.r_chain)
  | ((with_reducible apply Wn.r_gtup); (focus ((first | assumption | fail); done)); (focus ((with_unfolding_all first | exact rfl | fail); done)))
  | (with_reducible apply Wn.r_gcons)
  | (with_reducible apply Wn.r_gnil)
  | ((with_reducible apply Wn.r_inF); (focus ((first | exact Or.inl (by assumption) | exact Or.inr (by assumption) | fail); done)))
  | ((with_reducible apply Wn.r_inT); (focus ((first | exact Or.inl (by assumption) | exact Or.inr (by assumption) | fail); done)))))
local macro_rules | `(tactic| walk_at "gox_18") => `(tactic| repeat (walk_at "gox1_18"))
def spNear (K : PySem.W.Frag) : Sp := fun vs H Q _ => ∃ (nv : V) (f : Fld) (n : Nat), vs = [nv, entV f.looks, .int n] ∧ NearAt K H nv f ∧ n ≤ 1000 ∧ (f.looks = none → f.nearA.length = n ∧ rowOk f.nearA) ∧
  (∀ l, f.looks = some l → f.nearL.length = n ∧ ∀ r ∈ f.nearL, r.length = n ∧ rowOk r) ∧ ∀ H', Same H H' → Q (.bl true) H'
def spWrong (K : PySem.W.Frag) : Sp := fun vs H Q _ => ∃ (wa na : Addr) (ws names : List Str) (name : Str) (fv : V) (f : Fld), vs = [.ref wa, .ref na, .str name, fv] ∧ SqT K H wa (ws.map V.str) ∧ SqL K H na (names.map V.str) ∧ FldAt K H fv f ∧
  f.Ok ws names name ∧ ws.length ≤ 1000 ∧ ∀ H', Same H H' → Q .non H'
section
variable {P : Program} {w : World} {K : PySem.W.Frag} {mg : Str → Option Value} {base : Heap}
theorem ok_is_near (T : Txt K mg) : FnOk P w K mg base CX0 3 T.f_is_near T.d_is_near ["value", "looks", "count"] (spNear K) := by
  refine T.F_is_near.ok sc_is_near (fun vs H Q E h => ?_) (fun cdv A outer s H vs Q E hr h => ?_)
  · obtain ⟨nv, f, n, rfl, _⟩ := h
    rfl
  · obtain ⟨nv, f, n, rfl, hN, hn, hA, hL, q⟩ := h
    refine ⟨_, (pss_cons (ps_if (pt_cmpR op_isN (pv 1) pe_non (nomark _)) (pss_one (ps_ret (pe_call (ok_is_entry_row T) (hr.mono (by decide)) (by rfl) T.g_is_entry_row T.F_is_entry_row.kp T.b_is_entry_row .nil pass0 (pa_cons (pv 0) (pa_cons (pv 2) pa_nil))))) pss_nil) (pss_one (ps_ret (pe_and (pe_call (ok_has_items T) (hr.mono (by decide)) (by rfl) T.g_has_items T.F_has_items.kp T.b_has_items .nil pass0 (pa_cons (pv 0) (pa_cons (pv 2) pa_nil))) (pe_one (pe_callB (cr_allK (K := K) rfl rfl) (by rfl) T.all boot_all (pa_cons (pe_lc (own := [("row", 3)]) (g := gName 3) (tt := tYes) rfl sc_is_near.nd (pi_tupK (K := K) rfl (pv 0)) (blkOk_by (N := ["value", "looks", "count", "row"]) (sc := defScope s_is_near) (by decide +kernel)) (fun _ _ _ _ _ => pg_name (i := 3) sc_is_near.nd rfl (Or.inl rfl)) (fun _ _ _ _ _ => pts_nil) (fun _ _ _ _ _ => (pe_call (ok_is_entry_row T) (hr.mono (by decide)) (by rfl) T.g_is_entry_row T.F_is_entry_row.kp T.b_is_entry_row .nil pass0 (pa_cons (pv 3) (pa_cons (pv 2) pa_nil))))) pa_nil))))))), ?_⟩
    show tSeq _ _ _ [_, _, _, none] _
    cases e : f.looks with
    | none =>
      unfold NearAt at hN
      rw [e] at hN
      obtain ⟨h1, h2⟩ := hA e
      walk_at "gox_18"
      exact ⟨nv, f.nearA, n, rfl, hN, by rw [h1], h2, by omega, q⟩
    | some l =>
      unfold NearAt at hN
      rw [e] at hN
      obtain ⟨a, vs, rfl, hS, hvl, hx⟩ := hN
      obtain ⟨h1, h2⟩ := hL l e
      walk_at "gox_18"
      refine ⟨a, vs, n, rfl, hS, by rw [hvl, h1], ?_⟩
      walk_at "gox_18"
      refine ⟨.ref a, rfl, a, rfl, ⟨_, hS⟩, fun D nD => lc_tup (K := K) (a := a) (xs := vs) (fun i H' => Same H H' ∧ H' D = some (.lst ((List.replicate i true).map V.bl))) ⟨same_new nD, upd_same⟩ (fun i H' _ h => same_sqT h.1 hS) ?_ ?_⟩
      · rintro i x H' hi ⟨sm, hD⟩
        have hlt : i < f.nearL.length := by rw [← hvl]; exact (List.getElem?_eq_some_iff.mp hi).1
        have er : f.nearL[i]? = some f.nearL[i] := List.getElem?_eq_getElem hlt
        have hr2 := (hx i x _ hi er).mono sm
        obtain ⟨k1, k2⟩ := h2 _ (List.getElem_mem hlt)
        walk_at "gox_18"
        refine ⟨x, f.nearL[i], n, rfl, hr2, by rw [k1], k2, by omega, fun H2 s2 => ?_⟩
        refine ⟨_, s2 _ _ hD, ?_, fun b o e => (upd_ne (ne_of_none e nD)).trans (s2 _ _ (sm _ _ e)), ?_⟩
        · rw [List.length_map, List.length_replicate]
          exact small1000 (by omega)
        · rw [upd_same, List.replicate_succ', List.map_append]
          rfl
      · rintro H' ⟨sm, hD⟩
        walk_at "gox_18"
        refine ⟨D, _, rfl, .inl (.inl hD), ?_⟩
        rw [show (List.replicate vs.length true).all id = true by simp]
        exact q _ sm
theorem ok_wrong_part (T : Txt K mg) : FnOk P w K mg base CX0 4 T.f_wrong_part T.d_wrong_part ["words", "names", "name", "field"] (spWrong K) := by
  refine T.F_wrong_part.ok sc_wrong_part (fun vs H Q E h => ?_) (fun cdv A outer s H vs Q E hr h => ?_)
  · obtain ⟨wa, na, ws, names, name, fv, f, rfl, _⟩ := h
    rfl
  · obtain ⟨wa, na, ws, names, name, fv, f, rfl, hW, hN, ⟨a, nv, rv, rfl, hF, hnear, hfar⟩, ok, hl, q⟩ := h
    refine ⟨_, (pss_cons (ps_asg (pv 3) (pg_tupK (K := K) (n := 4) rfl rfl (pgs_cons (pg_name (i := 4) sc_wrong_part.nd rfl (Or.inl rfl)) (pgs_cons (pg_name (i := 5) sc_wrong_part.nd rfl (Or.inl rfl)) (pgs_cons (pg_name (i := 6) sc_wrong_part.nd rfl (Or.inl rfl)) (pgs_cons (pg_name (i := 7) sc_wrong_part.nd rfl (Or.inl rfl)) pgs_nil)))))) (pss_cons (ps_if (pt_cmpR (op_notin_strsK (K := K) rfl) (pv 4) (pv 0) (by rfl)) (pss_one (ps_ret pe_str)) pss_nil) (pss_cons (ps_if (PW.pt (pw_and (pt_cmpR op_notN (pv 5) pe_non (nomark _)) (pw_and1 (PW.pt (pw_or (pt_cmpR op_eq (pv 5) (pv 2) (nomark _)) (pw_or1 (pt_cmpR (op_notin_strsK (K := K) rfl) (pv 5) (pv 1) (by rfl)))))))) (pss_one (ps_ret pe_str)) pss_nil) (pss_cons (ps_if (pt_not (pt_val (pe_call (ok_is_near T) (hr.mono (by decide)) (by rfl) T.g_is_near T.F_is_near.kp T.b_is_near .nil pass0 (pa_cons (pv 6) (pa_cons (pv 5) (pa_cons (pe_callB (call_lenK (K := K) rfl) (by rfl) T.len PySem.boot_len (pa_cons (pv 0) pa_nil)) pa_nil)))))) (pss_one (ps_ret pe_str)) pss_nil) (pss_cons (ps_if (PW.pt (pw_and (pt_cmpR op_notN (pv 7) pe_non (nomark _)) (pw_and1 (pt_not (pt_val (pe_call (ok_is_entry_row T) (hr.mono (by decide)) (by rfl) T.g_is_entry_row T.F_is_entry_row.kp T.b_is_entry_row .nil pass0 (pa_cons (pv 7) (pa_cons (pe_callB (call_lenK (K := K) rfl) (by rfl) T.len PySem.boot_len (pa_cons (pv 0) pa_nil)) pa_nil)))))))) (pss_one (ps_ret pe_str)) pss_nil) (pss_one (ps_ret pe_non))))))), ?_⟩
    show tSeq _ _ _ [_, _, _, _, none, none, none, none] _
    unfold FarAt at hfar
    cases er : f.far with
    | none =>
      rw [er] at hfar
      subst hfar
      cases el : f.looks with
      | none =>
        rw [el] at hF
        walk_at "gox_18"
        refine ite_f (nd_f ok.first) ?_
        walk_at "gox_18"
        refine ⟨nv, f, ws.length, by rw [el, List.length_map]; rfl, hnear, hl, fun _ => ok.alone el, fun l' z => ok.pairs l' z, fun H1 s1 => ?_⟩
        walk_at "gox_18"
        exact q _ s1
      | some l =>
        rw [el] at hF
        obtain ⟨l1, l2⟩ := ok.looks l el
        walk_at "gox_18"
        refine ite_f (nd_f ok.first) ?_
        walk_at "gox_18"
        refine ite_f (decide_eq_false fun z => l1 (V.str.inj z)) ?_
        walk_at "gox_18"
        refine r_inT (z := l) (.inl hN) ?_
        walk_at "gox_18"
        refine ite_f (nd_f l2) ?_
        walk_at "gox_18"
        refine ⟨nv, f, ws.length, by rw [el, List.length_map]; rfl, hnear, hl, fun z => absurd (el.symm.trans z) (by simp), fun l' z => ok.pairs l' z, fun H1 s1 => ?_⟩
        walk_at "gox_18"
        exact q _ s1
    | some r =>
      rw [er] at hfar
      obtain ⟨ra, rfl, hR⟩ := hfar
      cases el : f.looks with
      | none =>
        rw [el] at hF
        walk_at "gox_18"
        refine ite_f (nd_f ok.first) ?_
        walk_at "gox_18"
        refine ⟨nv, f, ws.length, by rw [el, List.length_map]; rfl, hnear, hl, fun _ => ok.alone el, fun l' z => ok.pairs l' z, fun H1 s1 => ?_⟩
        have hR1 := same_sqT s1 hR
        have hW1 := same_sqT s1 hW
        walk_at "gox_18"
        refine ⟨.ref ra, r, ws.length, by rw [List.length_map]; rfl, ⟨ra, rfl, hR1⟩, by rw [(ok.far r er).1], (ok.far r er).2, by have := (ok.far r er).1; omega, fun H2 s2 => ?_⟩
        walk_at "gox_18"
        exact q _ (s1.trans s2)
      | some l =>
        rw [el] at hF
        obtain ⟨l1, l2⟩ := ok.looks l el
        walk_at "gox_18"
        refine ite_f (nd_f ok.first) ?_
        walk_at "gox_18"
        refine ite_f (decide_eq_false fun z => l1 (V.str.inj z)) ?_
        walk_at "gox_18"
        refine r_inT (z := l) (.inl hN) ?_
        walk_at "gox_18"
        refine ite_f (nd_f l2) ?_
        walk_at "gox_18"
        refine ⟨nv, f, ws.length, by rw [el, List.length_map]; rfl, hnear, hl, fun z => absurd (el.symm.trans z) (by simp), fun l' z => ok.pairs l' z, fun H1 s1 => ?_⟩
        have hR1 := same_sqT s1 hR
        have hW1 := same_sqT s1 hW
        walk_at "gox_18"
        refine ⟨.ref ra, r, ws.length, by rw [List.length_map]; rfl, ⟨ra, rfl, hR1⟩, by rw [(ok.far r er).1], (ok.far r er).2, by have := (ok.far r er).1; omega, fun H2 s2 => ?_⟩
        walk_at "gox_18"
        exact q _ (s1.trans s2)
end
end Wn


namespace Wn
open PySem PySem.Spec PyProof.Rows L2
/-- a form's parts, all of them right -/
structure Parts where
  ws : List Str
  fs : List (Str × Fld)
  room : Int
structure Parts.Ok (F : Parts) : Prop where
  w2 : 2 ≤ F.ws.length
  w3 : F.ws.length ≤ 3
  wn : F.ws.Nodup
  wk : ∀ z ∈ F.ws, nameB z = true
  f1 : 1 ≤ F.fs.length
  f3 : F.fs.length ≤ 3
  fn : (F.fs.map (·.1)).Nodup
  fk : ∀ z ∈ F.fs.map (·.1), nameB z = true
  fld : ∀ p ∈ F.fs, p.2.Ok F.ws (F.fs.map (·.1)) p.1
  r1 : 1 ≤ F.room
  r3 : F.room ≤ 3

local macro_rules | `(tactic| walk_at "gox1_19") => `(tactic| (first
  | walk_at "go1"
  | (with_reducible apply Wn.r_bm)
  | ((with_reducible apply Wn.r_tyl); (focus (walk_at "lk"; done)))
  | ((with_reducible apply Wn.r_ext); (focus (walk_at "lk"; done)); (focus (walk_at "lk"; done)); (focus ((with_unfolding_all first | (simp only [List.length_cons, List.length_nil, List.length_append]; decide) | fail); done)))
  | ((with_reducible apply Wn.r_cat); (focus (walk_at "lk"; done)); (focus (walk_at "lk"; done)); (focus ((with_unfolding_all first | (simp only [List.length_cons, List.length_nil, List.length_append]; decide) | fail); done)))
  | (with_reducible apply Wn.r_chain)
  | ((with_reducible apply Wn.r_tupT); (focus ((assumption); done)))
  | ((with_reducible apply Wn.r_gtup); (focus ((first | assumption | fail); done)); (focus ((with_unfolding_all first | exact rfl | fail); done)))
  | (with_reducible apply Wn.r_gcons)
  | (with_reducible apply Wn.r_gnil)
  | ((with_reducible apply Wn.ite_t); (focus (exact decide_eq_true (by omega); done)))
  | ((with_reducible apply Wn.ite_f); (focus (exact Wn.nd_f (by omega); done)))))
local macro_rules | `(tactic| walk_at "gox_19") => `(tactic| repeat (walk_at "gox1_19"))
def spFormWords (K : PySem.W.Frag) : Sp := fun vs H Q _ => ∃ (a : Addr) (F : Parts), vs = [.ref a] ∧ F.Ok ∧ SqT K H a (F.ws.map V.str) ∧ ∀ H', Same H H' → Q (.bl true) H'
def spFormFields (K : PySem.W.Frag) : Sp := fun vs H Q _ => ∃ (a : Addr) (F : Parts), vs = [.ref a] ∧ F.Ok ∧ FieldsAt K H a F.fs ∧ ∀ H', Same H H' → Q (.bl true) H'
def spCheck (K : PySem.W.Frag) : Sp := fun vs H Q _ => ∃ (wa fa : Addr) (F : Parts), vs = [.ref wa, .ref fa, .int F.room] ∧ F.Ok ∧ SqT K H wa (F.ws.map V.str) ∧ FieldsAt K H fa F.fs ∧ ∀ H', Same H H' → Q .non H'
section
variable {P : Program} {w : World} {K : PySem.W.Frag} {mg : Str → Option Value} {base : Heap}
theorem ok_are_form_words (T : Txt K mg) : FnOk P w K mg base CX0 3 T.f_are_form_words T.d_are_form_words ["value"] (spFormWords K) := by
  refine T.F_are_form_words.ok sc_are_form_words (fun vs H Q E h => ?_) (fun cdv A outer s H vs Q E hr h => ?_)
  · obtain ⟨a, F, rfl, _⟩ := h
    rfl
  · obtain ⟨a, F, rfl, ok, hW, q⟩ := h
    have w2 := ok.w2
    have w3 := ok.w3
    have lW : (F.ws.map V.str).length = F.ws.length := List.length_map _
    refine ⟨_, (pss_one (ps_ret (pe_and (pe_callB (call_isiK' (K := K) rfl) (by rfl) T.isinstance boot_isinstance (pa_cons (pv 0) (pa_cons (pe_bltn (v := .ty "tuple") (by rfl) T.tuple_ (by decide +kernel) rfl) pa_nil))) (pe_and (pe_chain op_le op_le pe_int (pe_callB (call_lenK (K := K) rfl) (by rfl) T.len PySem.boot_len (pa_cons (pv 0) pa_nil)) pe_int) (pe_one (pe_call (ok_are_names_T T) (hr.mono (by decide)) (by rfl) T.g_are_names T.F_are_names.kp T.b_are_names .nil pass0 (pa_cons (pv 0) pa_nil))))))), ?_⟩
    show tRet _ _ [_] _
    walk_at "gox_19"
    refine ⟨a, F.ws, rfl, hW, ok.wn, ok.wk, by omega, fun H' s' => ?_⟩
    walk_at "gox_19"
    exact q _ s'
theorem ok_are_form_fields (T : Txt K mg) : FnOk P w K mg base CX0 3 T.f_are_form_fields T.d_are_form_fields ["value"] (spFormFields K) := by
  refine T.F_are_form_fields.ok sc_are_form_fields (fun vs H Q E h => ?_) (fun cdv A outer s H vs Q E hr h => ?_)
  · obtain ⟨a, F, rfl, _⟩ := h
    rfl
  · obtain ⟨a, F, rfl, ok, hF, q⟩ := h
    have f1 := ok.f1
    have f3 := ok.f3
    obtain ⟨vs, hS, hvl, hx⟩ := hF.ex
    refine ⟨_, (pss_cons (ps_if (PW.pt (pw_or (pt_not (pt_val (pe_callB (call_isiK' (K := K) rfl) (by rfl) T.isinstance boot_isinstance (pa_cons (pv 0) (pa_cons (pe_bltn (v := .ty "tuple") (by rfl) T.tuple_ (by decide +kernel) rfl) pa_nil))))) (pw_or1 (pt_not (pt_chain op_le op_le pe_int (pe_callB (call_lenK (K := K) rfl) (by rfl) T.len PySem.boot_len (pa_cons (pv 0) pa_nil)) pe_int))))) (pss_one (ps_ret pe_bl)) pss_nil) (pss_cons (ps_if (pt_not (pt_val (pe_callB (cr_allK (K := K) rfl rfl) (by rfl) T.all boot_all (pa_cons (pe_lc (own := [("pair", 1)]) (g := gName 1) (tt := tYes) rfl sc_are_form_fields.nd (pi_tupK (K := K) rfl (pv 0)) (blkOk_by (N := ["value", "pair", "name", "field"]) (sc := defScope s_are_form_fields) (by decide +kernel)) (fun _ _ _ _ _ => pg_name (i := 1) sc_are_form_fields.nd rfl (Or.inl rfl)) (fun _ _ _ _ _ => pts_nil) (fun _ _ _ _ _ => (pe_call (ok_has_items T) (hr.mono (by decide)) (by rfl) T.g_has_items T.F_has_items.kp T.b_has_items .nil pass0 (pa_cons (pv 1) (pa_cons pe_int pa_nil))))) pa_nil)))) (pss_one (ps_ret pe_bl)) pss_nil) (pss_one (ps_ret (pe_and (pe_call (ok_are_names_L T) (hr.mono (by decide)) (by rfl) T.g_are_names T.F_are_names.kp T.b_are_names .nil pass0 (pa_cons (pe_call (ok_names_of T) (hr.mono (by decide)) (by rfl) T.g_names_of T.F_names_of.kp T.b_names_of .nil pass0 (pa_cons (pv 0) pa_nil)) pa_nil)) (pe_one (pe_callB (cr_allK (K := K) rfl rfl) (by rfl) T.all boot_all (pa_cons (pe_lc (own := [("name", 2), ("field", 3)])  (tt := tYes) rfl sc_are_form_fields.nd (pi_tupK (K := K) rfl (pv 0)) (blkOk_by (N := ["value", "pair", "name", "field"]) (sc := defScope s_are_form_fields) (by decide +kernel)) (fun _ _ _ _ _ => pg_tupK (K := K) (n := 2) rfl rfl (pgs_cons (pg_name (i := 2) sc_are_form_fields.nd rfl (Or.inl rfl)) (pgs_cons (pg_name (i := 3) sc_are_form_fields.nd rfl (Or.inl rfl)) pgs_nil))) (fun _ _ _ _ _ => pts_nil) (fun _ _ _ _ _ => (pe_call (ok_has_items T) (hr.mono (by decide)) (by rfl) T.g_has_items T.F_has_items.kp T.b_has_items .nil pass0 (pa_cons (pv 3) (pa_cons pe_int pa_nil))))) pa_nil)))))))), ?_⟩
    show tSeq _ _ _ [_, none, none, none] _
    walk_at "gox_19"
    refine ⟨.ref a, rfl, a, rfl, ⟨_, hS⟩, fun D nD => lc_tup (K := K) (a := a) (xs := vs) (fun i H' => Same H H' ∧ H' D = some (.lst ((List.replicate i true).map V.bl))) ⟨same_new nD, upd_same⟩ (fun i H' _ h => same_sqT h.1 hS) ?_ ?_⟩
    · rintro i x H' hi ⟨sm, hD⟩
      have hlt : i < F.fs.length := by rw [← hvl]; exact (List.getElem?_eq_some_iff.mp hi).1
      have ef : F.fs[i]? = some F.fs[i] := List.getElem?_eq_getElem hlt
      obtain ⟨p, fv, rfl, hp, fa, nv, rv, rfl, hf4, _⟩ := hx i x _ hi ef
      have hp' := same_sqT (sm) hp
      have hf' := same_sqT (sm) hf4
      walk_at "gox_19"
      refine ⟨p, _, 2, rfl, hp', rfl, ?_⟩
      refine ⟨_, hD, ?_, fun b o e => (upd_ne (ne_of_none e nD)).trans (sm _ _ e), ?_⟩
      · rw [List.length_map, List.length_replicate]
        exact small1000 (by omega)
      · rw [upd_same, List.replicate_succ', List.map_append]
        rfl
    · rintro H1 ⟨s1, hD⟩
      walk_at "gox_19"
      refine ⟨D, _, rfl, .inl (.inl hD), ?_⟩
      rw [show (List.replicate vs.length true).all id = true by simp]
      walk_at "gox_19"
      refine ⟨a, F.fs, rfl, hF.mono s1, by omega, fun H2 na s2 nn en => ?_⟩
      walk_at "gox_19"
      refine ⟨na, F.fs.map (·.1), rfl, .inl (.inl en), ok.fn, ok.fk, by rw [List.length_map]; omega, fun H3 s3 => ?_⟩
      have s13 := s1.trans (s2.trans s3)
      have hS3 := same_sqT s13 hS
      walk_at "gox_19"
      refine ⟨.ref a, rfl, a, rfl, ⟨_, hS3⟩, fun D nD => lc_tup (K := K) (a := a) (xs := vs) (fun i H' => Same H3 H' ∧ H' D = some (.lst ((List.replicate i true).map V.bl))) ⟨same_new nD, upd_same⟩ (fun i H' _ h => same_sqT h.1 hS3) ?_ ?_⟩
      · rintro i x H' hi ⟨sm, hD⟩
        have hlt : i < F.fs.length := by rw [← hvl]; exact (List.getElem?_eq_some_iff.mp hi).1
        have ef : F.fs[i]? = some F.fs[i] := List.getElem?_eq_getElem hlt
        obtain ⟨p, fv, rfl, hp, fa, nv, rv, rfl, hf4, _⟩ := hx i x _ hi ef
        have hp' := same_sqT (s13.trans sm) hp
        have hf' := same_sqT (s13.trans sm) hf4
        walk_at "gox_19"
        refine ⟨fa, _, 4, rfl, hf', rfl, ?_⟩
        refine ⟨_, hD, ?_, fun b o e => (upd_ne (ne_of_none e nD)).trans (sm _ _ e), ?_⟩
        · rw [List.length_map, List.length_replicate]
          exact small1000 (by omega)
        · rw [upd_same, List.replicate_succ', List.map_append]
          rfl
      · rintro H4 ⟨s4, hD⟩
        walk_at "gox_19"
        refine ⟨D, _, rfl, .inl (.inl hD), ?_⟩
        rw [show (List.replicate vs.length true).all id = true by simp]
        exact q _ (s13.trans s4)
theorem ok_check_parts (T : Txt K mg) : FnOk P w K mg base CX0 5 T.f_check_parts T.d_check_parts ["words", "fields", "room"] (spCheck K) := by
  refine T.F_check_parts.ok sc_check_parts (fun vs H Q E h => ?_) (fun cdv A outer s H vs Q E hr h => ?_)
  · obtain ⟨wa, fa, F, rfl, _⟩ := h
    rfl
  · obtain ⟨wa, fa, F, rfl, ok, hW, hF, q⟩ := h
    have w3 := ok.w3
    have f3 := ok.f3
    refine ⟨_, (pss_cons (ps_if (pt_not (pt_val (pe_call (ok_are_form_words T) (hr.mono (by decide)) (by rfl) T.g_are_form_words T.F_are_form_words.kp T.b_are_form_words .nil pass0 (pa_cons (pv 0) pa_nil)))) (pss_one ps_never) pss_nil) (pss_cons (ps_if (pt_not (pt_val (pe_call (ok_are_form_fields T) (hr.mono (by decide)) (by rfl) T.g_are_form_fields T.F_are_form_fields.kp T.b_are_form_fields .nil pass0 (pa_cons (pv 1) pa_nil)))) (pss_one ps_never) pss_nil) (pss_cons (ps_for PassesOwn.never rfl (pi_tupK (K := K) rfl (pv 1)) (pg_tupK (K := K) (n := 2) rfl rfl (pgs_cons (pg_name (i := 3) sc_check_parts.nd rfl (Or.inl rfl)) (pgs_cons (pg_name (i := 4) sc_check_parts.nd rfl (Or.inl rfl)) pgs_nil))) (pss_cons (ps_set (i := 5) sc_check_parts.nd rfl (Or.inl rfl) (pe_call (ok_wrong_part T) (hr.mono (by decide)) (by rfl) T.g_wrong_part T.F_wrong_part.kp T.b_wrong_part .nil pass0 (pa_cons (pv 0) (pa_cons (pe_call (ok_names_of T) (hr.mono (by decide)) (by rfl) T.g_names_of T.F_names_of.kp T.b_names_of .nil pass0 (pa_cons (pv 1) pa_nil)) (pa_cons (pv 3) (pa_cons (pv 4) pa_nil)))))) (pss_one (ps_if (pt_cmpR op_notN (pv 5) pe_non (nomark _)) (pss_one ps_never) pss_nil)))) (pss_one (ps_if (pt_not (pt_val (pe_call (ok_is_whole T) (hr.mono (by decide)) (by rfl) T.g_is_whole T.F_is_whole.kp T.b_is_whole .nil pass0 (pa_cons (pv 2) (pa_cons pe_int (pa_cons pe_int pa_nil)))))) (pss_one ps_never) pss_nil))))), ?_⟩
    show tSeq _ _ _ [_, _, _, none, none, none] _
    walk_at "gox_19"
    refine ⟨wa, F, rfl, ok, hW, fun H1 s1 => ?_⟩
    walk_at "gox_19"
    refine ⟨fa, F, rfl, ok, hF.mono s1, fun H2 s2 => ?_⟩
    have s12 := s1.trans s2
    walk_at "gox_19"
    obtain ⟨vs, hS, hvl, hx⟩ := (hF.mono s12).ex
    refine ⟨.ref fa, rfl, fa, rfl, ⟨_, hS⟩, for_tup (K := K) (a := fa) (xs := vs) (fun i σ H' => Same H2 H' ∧ ∃ v3 v4 v5, σ = [some (.ref wa), some (.ref fa), some (.int F.room), v3, v4, v5]) ⟨Same.refl _, _, _, _, rfl⟩ (fun i σ H' _ h => same_sqT h.1 hS) ?_ ?_⟩
    · rintro i x σ H' hi ⟨sm, v3, v4, v5, rfl⟩
      have hlt : i < F.fs.length := by rw [← hvl]; exact (List.getElem?_eq_some_iff.mp hi).1
      have ef : F.fs[i]? = some F.fs[i] := List.getElem?_eq_getElem hlt
      obtain ⟨p, fv, rfl, hp, hfld⟩ := hx i x _ hi ef
      have hp' := same_sqT sm hp
      walk_at "gox_19"
      refine ⟨fa, F.fs, rfl, (hF.mono s12).mono sm, by omega, fun H3 na s3 nn en => ?_⟩
      walk_at "gox_19"
      refine ⟨wa, na, F.ws, F.fs.map (·.1), F.fs[i].1, fv, F.fs[i].2, rfl, same_sqT (s12.trans (sm.trans s3)) hW, .inl (.inl en), (hfld.mono sm).mono s3, ok.fld _ (List.getElem_mem hlt), by omega, fun H4 s4 => ?_⟩
      walk_at "gox_19"
      exact ⟨sm.trans (s3.trans s4), _, _, _, rfl⟩
    · rintro σ H' ⟨sm, v3, v4, v5, rfl⟩
      walk_at "gox_19"
      refine ⟨F.room, 1, 3, rfl, ok.r1, ok.r3, ?_⟩
      walk_at "gox_19"
      exact q _ (s12.trans sm)
end
end Wn


namespace Wn
open PySem PySem.Spec PyProof.Rows L2
/-! ### a form -/
def frm (wa fa : Addr) (r : Int) : List (Str × V) := putF "room" (.int r) (putF "fields" (.ref fa) (putF "words" (.ref wa) []))
theorem n1 : ¬ (("words" : Str) = "fields") := by decide +kernel
theorem n2 : ¬ (("words" : Str) = "room") := by decide +kernel
theorem n3 : ¬ (("fields" : Str) = "room") := by decide +kernel
theorem frm_words (wa fa : Addr) (r : Int) : (frm wa fa r).lookup ("words" : Str) = some (.ref wa) := by
  unfold frm
  rw [lookup_putF, if_neg n2, lookup_putF, if_neg n1, lookup_putF, if_pos rfl]
theorem frm_fields (wa fa : Addr) (r : Int) : (frm wa fa r).lookup ("fields" : Str) = some (.ref fa) := by
  unfold frm
  rw [lookup_putF, if_neg n3, lookup_putF, if_pos rfl]
theorem frm_room (wa fa : Addr) (r : Int) : (frm wa fa r).lookup ("room" : Str) = some (.int r) := by
  unfold frm
  rw [lookup_putF, if_pos rfl]
theorem frm_no (wa fa : Addr) (r : Int) {m : Str} (h1 : ¬ m = "room") (h2 : ¬ m = "fields") (h3 : ¬ m = "words") : (frm wa fa r).lookup m = none := by
  unfold frm
  rw [lookup_putF, if_neg h1, lookup_putF, if_neg h2, lookup_putF, if_neg h3]
  all_goals rfl
/-- a Form of these parts stands at p; the words any tuple -/
structure FormS {K : PySem.W.Frag} {mg : Str → Option Value} (T : Txt K mg) (H : Hp) (p wa fa : Addr) (F : Parts) : Prop where
  ok : F.Ok
  ob : ∃ dx, H p = some (.ins T.C dx (frm wa fa F.room))
  w : SqT K H wa (F.ws.map V.str)
  f : FieldsAt K H fa F.fs
theorem FormS.mono {K : PySem.W.Frag} {mg : Str → Option Value} {T : Txt K mg} {H H' : Hp} {p wa fa : Addr} {F : Parts} (s : Same H H') (x : FormS T H p wa fa F) : FormS T H' p wa fa F :=
  ⟨x.ok, let ⟨dx, e⟩ := x.ob; ⟨dx, s _ _ e⟩, same_sqT s x.w, x.f.mono s⟩
/-- a Form of these parts stands at p -/
structure FormAt {K : PySem.W.Frag} {mg : Str → Option Value} (T : Txt K mg) (H : Hp) (p wa fa : Addr) (F : Parts) : Prop where
  ok : F.Ok
  ob : ∃ dx, H p = some (.ins T.C dx (frm wa fa F.room))
  w : PTup H wa (F.ws.map V.str)
  f : FieldsAt K H fa F.fs
theorem FormAt.mono {K : PySem.W.Frag} {mg : Str → Option Value} {T : Txt K mg} {H H' : Hp} {p wa fa : Addr} {F : Parts} (s : Same H H') (x : FormAt T H p wa fa F) : FormAt T H' p wa fa F :=
  ⟨x.ok, let ⟨dx, e⟩ := x.ob; ⟨dx, s _ _ e⟩, x.w.mono s, x.f.mono s⟩
theorem FormAt.s {K : PySem.W.Frag} {mg : Str → Option Value} {T : Txt K mg} {H : Hp} {p wa fa : Addr} {F : Parts} (x : FormAt T H p wa fa F) : FormS T H p wa fa F := ⟨x.ok, x.ob, x.w.sq, x.f⟩

local macro_rules | `(tactic| walk_at "gox1_20") => `(tactic| (first
  | walk_at "go1"
  | (with_reducible apply Wn.r_bm)
  | ((with_reducible apply Wn.r_tyl); (focus (walk_at "lk"; done)))
  | ((with_reducible apply Wn.r_ext); (focus (walk_at "lk"; done)); (focus (walk_at "lk"; done)); (focus ((with_unfolding_all first | (simp only [List.length_cons, List.length_nil, List.length_append]; decide) | fail); done)))
  | ((with_reducible apply Wn.r_cat); (focus (walk_at "lk"; done)); (focus (walk_at "lk"; done)); (focus ((with_unfolding_all first | (simp only [List.length_cons, List.length_nil, List.length_append]; decide) | fail); done)))
  | ((with_reducible apply Wn.r_gtup); (focus ((first | assumption | fail); done)); (focus ((with_unfolding_all first | exact rfl | fail); done)))
  | (with_reducible apply Wn.r_gcons)
  | (with_reducible apply Wn.r_gnil)))
local macro_rules | `(tactic| walk_at "gox_20") => `(tactic| repeat (walk_at "gox1_20"))
def spInit {K : PySem.W.Frag} {mg : Str → Option Value} (T : Txt K mg) : Sp := fun vs H Q _ => ∃ (p dx wa fa : Addr) (F : Parts), vs = [.ref p, .ref wa, .ref fa, .int F.room] ∧ H p = some (.ins T.C dx []) ∧ F.Ok ∧ SqT K H wa (F.ws.map V.str) ∧ FieldsAt K H fa F.fs ∧
  ∀ H', (∀ b o, H b = some o → b ≠ p → H' b = some o) → H' p = some (.ins T.C dx (frm wa fa F.room)) → Q .non H'
def spFieldNames {K : PySem.W.Frag} {mg : Str → Option Value} (T : Txt K mg) : Sp := fun vs H Q _ => ∃ (p wa fa : Addr) (F : Parts), vs = [.ref p] ∧ FormS T H p wa fa F ∧
  ∀ H' q, Same H H' → H q = none → PTup H' q ((F.fs.map (·.1)).map V.str) → Q (.ref q) H'
def spPartsOf {K : PySem.W.Frag} {mg : Str → Option Value} (T : Txt K mg) : Sp := fun vs H Q _ => ∃ (p wa fa : Addr) (F : Parts) (name : Str), vs = [.ref p, .str name] ∧ FormS T H p wa fa F ∧ name ∈ F.fs.map (·.1) ∧
  ∀ (i : Nat) (f : Fld) (fv : V), F.fs[i]? = some (name, f) → FldAt K H fv f → Q fv H
section
variable {P : Program} {w : World} {K : PySem.W.Frag} {mg : Str → Option Value} {base : Heap}
theorem ok_Form_init (T : Txt K mg) : FnOk P w K mg base CX0 6 T.f_init T.d_init ["self", "words", "fields", "room"] (spInit T) := by
  refine T.F_init.ok (CX := CX0) sc_Form_init (fun vs H Q E h => ?_) (fun cdv A outer s H vs Q E hr h => ?_)
  · obtain ⟨p, dx, wa, fa, F, rfl, _⟩ := h
    rfl
  · obtain ⟨p, dx, wa, fa, F, rfl, hp, ok, hW, hF, q⟩ := h
    refine ⟨_, PSs.nox ((pss_cons (ps_expr (pe_call (ok_check_parts T) (hr.mono (by decide)) (by rfl) T.g_check_parts T.F_check_parts.kp T.b_check_parts .nil pass0 (pa_cons (pv 1) (pa_cons (pv 2) (pa_cons (pv 3) pa_nil))))) (pss_cons (ps_fld (pv 0) (pv 1) rfl) (pss_cons (ps_fld (pv 0) (pv 2) rfl) (pss_one (ps_fld (pv 0) (pv 3) rfl)))))), ?_⟩
    show tSeq _ _ _ [_, _, _, _] _
    walk_at "gox_20"
    refine ⟨wa, fa, F, rfl, ok, hW, hF, fun H1 s1 => ?_⟩
    walk_at "gox_20"
    refine ⟨_, rfl, _, rfl, p, T.C, dx, _, rfl, s1 _ _ hp, T.cl, T.na_words, (by show 0 < 1000; decide), ?_⟩
    walk_at "gox_20"
    refine ⟨_, rfl, _, rfl, p, T.C, dx, _, rfl, upd_same, T.cl, T.na_fields, (by show 1 < 1000; decide), ?_⟩
    walk_at "gox_20"
    refine ⟨_, rfl, _, rfl, p, T.C, dx, _, rfl, upd_same, T.cl, T.na_room, ?_, ?_⟩
    · have h1 := length_putF "fields" (V.ref fa) (putF "words" (V.ref wa) [])
      have h2 := length_putF "words" (V.ref wa) []
      have h0 : ([] : List (Str × V)).length = 0 := rfl
      omega
    · refine q _ (fun b o e hb => ?_) upd_same
      rw [upd_ne hb, upd_ne hb, upd_ne hb]
      exact s1 _ _ e
theorem ok_Form_field_names (T : Txt K mg) : FnOk P w K mg base CX0 3 T.f_Form_field_names T.d_Form_field_names ["self"] (spFieldNames T) := by
  refine T.F_Form_field_names.ok sc_Form_field_names (fun vs H Q E h => ?_) (fun cdv A outer s H vs Q E hr h => ?_)
  · obtain ⟨p, wa, fa, F, rfl, _⟩ := h
    rfl
  · obtain ⟨p, wa, fa, F, rfl, hP, q⟩ := h
    have f3 := hP.ok.f3
    obtain ⟨dx, hp⟩ := hP.ob
    refine ⟨_, (pss_one (ps_ret (pe_callTy (call_tupleFK (K := K) rfl) (by rfl) T.tuple_ (by decide +kernel) (pa_cons (pe_call (ok_names_of T) (hr.mono (by decide)) (by rfl) T.g_names_of T.F_names_of.kp T.b_names_of .nil pass0 (pa_cons (pe_fldK (K := K) rfl (pv 0) rfl) pa_nil)) pa_nil)))), ?_⟩
    show tRet _ _ [_] _
    walk_at "gox_20"
    refine ⟨_, rfl, p, T.C, dx, _, _, rfl, hp, T.cl, T.na_fields, frm_fields _ _ _, ?_⟩
    walk_at "gox_20"
    refine ⟨fa, F.fs, rfl, hP.f, by omega, fun H1 na s1 nn en => ?_⟩
    walk_at "gox_20"
    refine ⟨na, _, rfl, .inl (.inl en), fun t ob nt hd hc => ?_⟩
    exact q _ t (s1.trans (same_new nt)) (s1.free nt) ⟨ob, upd_same, hd, hc⟩
theorem ok_Form_parts_of (T : Txt K mg) : FnOk P w K mg base CX0 1 T.f_Form_parts_of T.d_Form_parts_of ["self", "name"] (spPartsOf T) := by
  refine T.F_Form_parts_of.ok sc_Form_parts_of (fun vs H Q E h => ?_) (fun cdv A outer s H vs Q E hr h => ?_)
  · obtain ⟨p, wa, fa, F, name, rfl, _⟩ := h
    rfl
  · obtain ⟨p, wa, fa, F, name, rfl, hP, hn, q⟩ := h
    obtain ⟨dx, hp⟩ := hP.ob
    obtain ⟨vs, hS, hvl, hx⟩ := hP.f.ex
    refine ⟨_, (pss_cons (ps_for PassesOwn.never rfl (pi_tupK (K := K) rfl (pe_fldK (K := K) rfl (pv 0) rfl)) (pg_tupK (K := K) (n := 2) rfl rfl (pgs_cons (pg_name (i := 2) sc_Form_parts_of.nd rfl (Or.inl rfl)) (pgs_cons (pg_name (i := 3) sc_Form_parts_of.nd rfl (Or.inl rfl)) pgs_nil))) (pss_one (ps_if (pt_cmpR op_eq (pv 2) (pv 1) (nomark _)) (pss_one (ps_ret (pv 3))) pss_nil))) (pss_one ps_never)), ?_⟩
    show tSeq _ _ _ [_, _, none, none] _
    walk_at "gox_20"
    refine ⟨_, rfl, p, T.C, dx, _, _, rfl, hp, T.cl, T.na_fields, frm_fields _ _ _, fa, rfl, ⟨_, hS⟩, for_tup (K := K) (a := fa) (xs := vs) (fun i σ H' => H' = H ∧ (∀ j, j < i → ∀ pr, F.fs[j]? = some pr → pr.1 ≠ name) ∧ ∃ v2 v3, σ = [some (.ref p), some (.str name), v2, v3]) ⟨rfl, fun j z => absurd z (Nat.not_lt_zero _), _, _, rfl⟩ (fun i σ H' _ h => by rw [h.1]; exact hS) ?_ ?_⟩
    · rintro i x σ H' hi ⟨rfl, hno, v2, v3, rfl⟩
      have hlt : i < F.fs.length := by rw [← hvl]; exact (List.getElem?_eq_some_iff.mp hi).1
      have ef : F.fs[i]? = some F.fs[i] := List.getElem?_eq_getElem hlt
      obtain ⟨pp, fv, rfl, hp2, hfld⟩ := hx i x _ hi ef
      walk_at "gox_20"
      by_cases e : F.fs[i].1 = name
      · refine ite_t (decide_eq_true (by rw [e])) ?_
        walk_at "gox_20"
        exact q i F.fs[i].2 fv (by rw [ef, ← e]) hfld
      · refine ite_f (decide_eq_false fun z => e (V.str.inj z)) ?_
        walk_at "gox_20"
        refine ⟨fun j hj pr ep => ?_, _, _, rfl⟩
        by_cases hji : j < i
        · exact hno j hji pr ep
        · have : j = i := by omega
          subst this
          rw [ef] at ep
          cases ep
          exact e
    · rintro σ H' ⟨rfl, hno, v2, v3, rfl⟩
      obtain ⟨pr, hpr, e⟩ := List.mem_map.mp hn
      obtain ⟨j, hj, ej⟩ := List.mem_iff_getElem.mp hpr
      exact absurd e (hno j (by rw [hvl]; exact hj) pr (by rw [List.getElem?_eq_getElem hj, ej]))
end
end Wn


namespace Wn
open PySem PySem.Spec PyProof.Rows L2
theorem kb_room {K : PySem.W.Frag} {f : Addr} {fd : FuncData} (F : FunD K "__init__" "Form.__init__" (defArgs s_Form_init) (defBody s_Form_init) (defScope s_Form_init) [] [("room", .int 3)] f fd) :
    KBn K fd ["self", "words", "fields", "room"] 3 ["room"] (fun us ws => us ++ ws) (fun vs zs => vs ++ zs) := by
  obtain ⟨mv, h⟩ := F.kbinds0 (ps := ["self", "words", "fields", "room"]) 3 ["room"] [] (fun a m z => a ++ z) (by simp) (by simp) (fun r1 r2 r3 => r1.append r3)
    (fun D doc pm an cdv ct us mv ws l1 l2 l3 => by
      match us, mv, ws, l1, l2, l3 with
      | [a, b, c], [], [d], _, _, _ => rfl)
  exact h
theorem kb_plain {K : PySem.W.Frag} {f : Addr} {fd : FuncData} (F : FunD K "__init__" "Form.__init__" (defArgs s_Form_init) (defBody s_Form_init) (defScope s_Form_init) [] [("room", .int 3)] f fd) :
    ∃ mv : List Value, KBn K fd ["self", "words", "fields", "room"] 3 [] (fun us ws => us ++ mv) (fun vs zs => vs ++ [.int 3]) := by
  obtain ⟨mv, h⟩ := F.kbinds0 (ps := ["self", "words", "fields", "room"]) 3 [] [("room", .int 3)] (fun a m z => a ++ m) (by simp) (by simp) (fun r1 r2 r3 => r1.append r2)
    (fun D doc pm an cdv ct us mv ws l1 l2 l3 => by
      match us, mv, ws, l1, l2, l3 with
      | [a, b, c], [d], [], _, _, _ => exact ⟨_, _, _, _, _, _, rfl, rfl, rfl⟩)
  exact ⟨mv, h⟩
theorem r_make {C : Addr} {n m : Nat} {sp : Sp} {gV : List V → List V → List V} {E : XK} {t tk : TA} {σ : L2.St} {H : Hp} {Q : VK} (h : t σ H fun vs H1 => tk σ H1 fun zs H2 => vs.length = n ∧ zs.length = m ∧ ∀ x dx, H2 x = none → H2 dx = none → dx ≠ x → sp (gV (.ref x :: vs) zs) (upd (upd H2 dx (.own x)) x (.ins C dx [])) (fun v H3 => v = .non ∧ Q (.ref x) H3) E) : tMakeK C n m sp gV E t tk σ H Q := h
section
variable {K : PySem.W.Frag} {mg : Str → Option Value} {T : Txt K mg} {H : Hp} {Q : VK}
theorem r_fw {f : Str} {p wa fa : Addr} {F : Parts} (hf : f = "words") (hP : FormS T H p wa fa F) (q : Q (.ref wa) H) : FldW K f (.ref p) H Q := by
  subst hf
  exact let ⟨dx, e⟩ := hP.ob
  ⟨p, T.C, dx, _, _, rfl, e, T.cl, T.na_words, frm_words _ _ _, q⟩
theorem r_ff {f : Str} {p wa fa : Addr} {F : Parts} (hf : f = "fields") (hP : FormS T H p wa fa F) (q : Q (.ref fa) H) : FldW K f (.ref p) H Q := by
  subst hf
  exact let ⟨dx, e⟩ := hP.ob
  ⟨p, T.C, dx, _, _, rfl, e, T.cl, T.na_fields, frm_fields _ _ _, q⟩
theorem r_fr {f : Str} {p wa fa : Addr} {F : Parts} (hf : f = "room") (hP : FormS T H p wa fa F) (q : Q (.int F.room) H) : FldW K f (.ref p) H Q := by
  subst hf
  exact let ⟨dx, e⟩ := hP.ob
  ⟨p, T.C, dx, _, _, rfl, e, T.cl, T.na_room, frm_room _ _ _, q⟩
theorem r_fm {m : Str} {p wa fa : Addr} {F : Parts} {A : Prop} (hP : FormS T H p wa fa F) (h1 : ¬ m = "room") (h2 : ¬ m = "fields") (h3 : ¬ m = "words") (q : A) : MthW T.C m (.ref p) H A :=
  let ⟨dx, e⟩ := hP.ob
  ⟨p, dx, _, rfl, e, frm_no _ _ _ h1 h2 h3, q⟩
end
/-- a form that has been made -/
theorem make_formS {K : PySem.W.Frag} {mg : Str → Option Value} {T : Txt K mg} {H H' : Hp} {x dx wa fa : Addr} {F : Parts} (ok : F.Ok) (hW : SqT K H wa (F.ws.map V.str)) (hF : FieldsAt K H fa F.fs) (nx : H x = none) (ndx : H dx = none) (ne : dx ≠ x)
    (h : ∀ b o, upd (upd H dx (.own x)) x (.ins T.C dx []) b = some o → b ≠ x → H' b = some o) (e : H' x = some (.ins T.C dx (frm wa fa F.room))) : Same H H' ∧ FormS T H' x wa fa F := by
  have s : Same H H' := fun b o z => h b o ((upd_ne (ne_of_none z nx)).trans ((upd_ne (ne_of_none z ndx)).trans z)) (ne_of_none z nx)
  exact ⟨s, ok, ⟨dx, e⟩, same_sqT s hW, hF.mono s⟩
theorem make_form {K : PySem.W.Frag} {mg : Str → Option Value} {T : Txt K mg} {H H' : Hp} {x dx wa fa : Addr} {F : Parts} (ok : F.Ok) (hW : PTup H wa (F.ws.map V.str)) (hF : FieldsAt K H fa F.fs) (nx : H x = none) (ndx : H dx = none) (ne : dx ≠ x)
    (h : ∀ b o, upd (upd H dx (.own x)) x (.ins T.C dx []) b = some o → b ≠ x → H' b = some o) (e : H' x = some (.ins T.C dx (frm wa fa F.room))) : Same H H' ∧ FormAt T H' x wa fa F := by
  have s : Same H H' := fun b o z => h b o ((upd_ne (ne_of_none z nx)).trans ((upd_ne (ne_of_none z ndx)).trans z)) (ne_of_none z nx)
  exact ⟨s, ok, ⟨dx, e⟩, hW.mono s, hF.mono s⟩
theorem fld_uniq {fs : List (Str × Fld)} {name : Str} {f f' : Fld} {i : Nat} (n : (fs.map (·.1)).Nodup) (h : (name, f) ∈ fs) (e : fs[i]? = some (name, f')) : f' = f := by
  obtain ⟨j, hj, ej⟩ := List.mem_iff_getElem.mp h
  have e1 : (fs.map (·.1))[j]? = some name := by rw [List.getElem?_map, List.getElem?_eq_getElem hj, ej]; rfl
  have e2 : (fs.map (·.1))[i]? = some name := by rw [List.getElem?_map, e]; rfl
  have hji : j = i := (List.getElem?_inj (List.getElem?_eq_some_iff.mp e1).1 n).mp (by rw [e1, e2])
  subst hji
  rw [List.getElem?_eq_getElem hj, ej] at e
  exact (Prod.mk.inj (Option.some.inj e)).2.symm
theorem name_in {fs : List (Str × Fld)} {name : Str} {f : Fld} (h : (name, f) ∈ fs) : name ∈ fs.map (·.1) := List.mem_map.mpr ⟨_, h, rfl⟩
end Wn


namespace Wn
open PySem PySem.Spec PyProof.Rows L2
section
variable {P : Program} {w : World} {K : PySem.W.Frag} {mg : Str → Option Value} {base : Heap}
theorem ok_L_box (T : Txt K mg) : FnOk P w K mg base CX0 2 T.f_L_box T.d_L_box ["_law_script"] (spBox K) := ok_box T.F_L_box T.F_L_mix T.b_L_mix T.g_L_mix T.B.int
theorem ok_L_draw (T : Txt K mg) : FnOk P w K mg base CX0 2 T.f_L_draw T.d_L_draw ["_law_box_here", "_law_many"] spDraw := ok_draw T.F_L_draw T.F_L_mix T.b_L_mix T.g_L_mix T.B.int T.B.len
theorem ok_L_same (T : Txt K mg) : FnOk P w K mg base CX0 9 T.f_L_same T.d_L_same ["_law_told", "_law_due"] (spSame K 8) := ok_same T.F_L_same T.b_L_same T.g_L_same T.B 8
end

local macro_rules | `(tactic| walk_at "gox1_22") => `(tactic| (first
  | walk_at "go1"
  | (with_reducible apply Wn.r_bm)
  | ((with_reducible apply Wn.r_tyl); (focus (walk_at "lk"; done)))
  | ((with_reducible apply Wn.r_ext); (focus (walk_at "lk"; done)); (focus (walk_at "lk"; done)); (focus ((with_unfolding_all first | (simp only [List.length_cons, List.length_nil, List.length_append]; decide) | fail); done)))
  | ((with_reducible apply Wn.r_cat); (focus (walk_at "lk"; done)); (focus (walk_at "lk"; done)); (focus ((with_unfolding_all first | (simp only [List.length_cons, List.length_nil, List.length_append]; decide) | fail); done)))
  | ((with_reducible apply Wn.r_ixabc); (focus ((assumption); done)); (focus ((assumption); done)))
  | ((with_reducible apply Wn.r_inF); (focus ((first | exact Or.inl (by assumption) | exact Or.inr (by assumption) | fail); done)))
  | ((with_reducible apply Wn.r_inT); (focus ((first | exact Or.inl (by assumption) | exact Or.inr (by assumption) | fail); done)))
  | (with_reducible apply Wn.r_chain)
  | (with_reducible apply Wn.r_bt)
  | (with_reducible apply Wn.r_fld)
  | (with_reducible apply Wn.r_meth)
  | ((with_reducible apply Wn.r_pt); (focus ((first | assumption | fail); done)))
  | ((with_reducible apply Wn.r_ti); (focus ((first | assumption | exact Wn.PTup.sq (by assumption) | fail); done)); (focus ((first | assumption | fail); done)))
  | ((with_reducible apply Wn.r_tupT); (focus ((assumption); done)))
  | ((with_reducible apply Wn.r_gtup); (focus ((first | assumption | fail); done)); (focus ((with_unfolding_all first | exact rfl | fail); done)))
  | (with_reducible apply Wn.r_gcons)
  | (with_reducible apply Wn.r_gnil)
  | (with_reducible apply Wn.r_for)
  | ((with_reducible apply Wn.r_ixa); (focus ((first | exact Or.inl (L2.SqL.of (by walk_at "lk")) | exact Or.inr (L2.SqT.of (by walk_at "lk")) | exact Or.inr (by assumption) | exact Or.inl (by assumption) | fail); done)); (focus ((with_unfolding_all first | exact rfl | fail); done)))
  | (with_reducible apply Wn.r_lc)
  | (with_reducible apply Wn.r_rng1)
  | (with_reducible apply Wn.r_ilist)
  | (with_reducible apply Wn.r_itup)
  | (with_reducible apply Wn.r_istr)
  | (with_reducible apply Wn.r_tsl)
  | (with_reducible apply Wn.r_nopart)
  | (with_reducible apply Wn.r_part)
  | (with_reducible apply Wn.r_exint)))
local macro_rules | `(tactic| walk_at "gox_22") => `(tactic| repeat (walk_at "gox1_22"))
/-- names: different, all of letters -/
structure Nms (zs : List Str) (n : Nat) : Prop where
  len : zs.length = n
  nd : zs.Nodup
  nm : ∀ z ∈ zs, nameB z = true
theorem nms_add {zs : List Str} {n : Nat} {z : Str} (h : Nms zs n) (hz : nameB z = true) (hn : z ∉ zs) : Nms (zs ++ [z]) (n + 1) where
  len := by rw [List.length_append, h.len]; rfl
  nd := by
    rw [List.nodup_append]
    refine ⟨h.nd, by simp, ?_⟩
    intro a ha b hb e
    rw [List.mem_singleton] at hb
    subst hb
    subst e
    exact hn ha
  nm := fun x hx => by
    rcases List.mem_append.mp hx with q | q
    · exact h.nm x q
    · rw [List.mem_singleton.mp q]; exact hz
def spLNames : Sp := fun vs H Q _ => ∃ (b c : Addr) (n : Int), vs = [.ref b, .int n] ∧ 0 ≤ n ∧ n ≤ 3 ∧ BoxAt H b c ∧
  ∀ (H' : Hp) (q : Addr) (zs : List Str), Same (hid H b) H' → BoxAt H' b c → H q = none → H' q = some (.lst (zs.map V.str)) → Nms zs n.toNat → Q (.ref q) H'
section
variable {P : Program} {w : World} {K : PySem.W.Frag} {mg : Str → Option Value} {base : Heap}
theorem ok_L_names (T : Txt K mg) : FnOk P w K mg base CX0 3 T.f_L_names T.d_L_names ["_law_box_here", "_law_many"] (spLNames) := by
  refine T.F_L_names.ok sc_L_names (fun vs H Q E h => ?_) (fun cdv A outer s H vs Q E hr h => ?_)
  · obtain ⟨b, c, n, rfl, _⟩ := h
    rfl
  · obtain ⟨b, c, n, rfl, n0, n3, hB, q⟩ := h
    refine ⟨_, (pss_cons (ps_set (i := 2) sc_L_names.nd rfl (Or.inr rfl) (pe_lst pa_nil)) (pss_cons (ps_for PassesOwn.never rfl (pi_range1 (by rfl) T.range (pa_cons (pv 1) pa_nil)) (pg_name (i := 3) sc_L_names.nd rfl (Or.inl rfl)) (pss_cons (ps_set (i := 4) sc_L_names.nd rfl (Or.inr rfl) pe_str) (pss_cons (ps_for PassesOwn.never rfl (pi_range1 (by rfl) T.range (pa_cons (pe_op op_add pe_int (pe_call (ok_L_draw T) (hr.mono (by decide)) (by rfl) T.g_L_draw T.F_L_draw.kp T.b_L_draw .nil pass0 (pa_cons (pv 0) (pa_cons pe_int pa_nil)))) pa_nil)) (pg_name (i := 5) sc_L_names.nd rfl (Or.inl rfl)) (pss_one (ps_set (i := 4) sc_L_names.nd rfl (Or.inr rfl) (pe_op op_add_str (pv 4) (pe_ix ix_str pe_str (pe_call (ok_L_draw T) (hr.mono (by decide)) (by rfl) T.g_L_draw T.F_L_draw.kp T.b_L_draw .nil pass0 (pa_cons (pv 0) (pa_cons pe_int pa_nil))) (fun _ _ => rfl)))))) (pss_cons (ps_if (pt_cmpR (op_in_strsK (K := K) rfl) (pv 4) (pv 2) (by rfl)) (pss_cons (ps_setLc (i := 6) (own := [("_law_sign", 7)]) (g := gName 7)  rfl sc_L_names.nd rfl rfl (sw_true rfl rfl rfl (by decide +kernel)) (pi_str pe_str) (blkOk_by (N := ["_law_box_here", "_law_many", "_law_names_here", "_law_k", "_law_word", "_law_at", "_law_free", "_law_sign"]) (sc := defScope s_L_names) (by decide +kernel)) (fun _ _ _ _ _ => pg_name (i := 7) sc_L_names.nd rfl (Or.inl rfl)) (fun _ _ _ _ _ => (pts_one (pt_cmpR (op_notin_strsK (K := K) rfl) (pe_op op_add_str (pe_slice sl_str (pv 4) po_none (po_some pe_int)) (pv 7)) (pv 2) (by rfl)))) (fun _ _ _ _ _ => (pe_op op_add_str (pe_slice sl_str (pv 4) po_none (po_some pe_int)) (pv 7)))) (pss_one (ps_set (i := 4) sc_L_names.nd rfl (Or.inr rfl) (pe_ix (ix_aK (K := K) rfl) (pv 6) pe_int (fun _ _ => rfl))))) pss_nil) (pss_one (ps_expr (pe_bm PySem.F.plainAttrs_list PySem.F.slot_list_append PySem.F.type_list_append mt_append (pv 2) (pa_cons (pv 4) pa_nil)))))))) (pss_one (ps_ret (pv 2))))), ?_⟩
    show tSeq _ _ _ [_, _, none, none, none, none, none, none] _
    walk_at "gox_22"
    intro q0 nq
    have bq := hB.nb nq
    walk_at "gox_22"
    refine ⟨n, rfl, by omega, by omega, for_range (lo := 0) (n := n.toNat) (fun k σ H' => ∃ zs v3 v4 v5 v6 v7, σ = [some (.ref b), some (.int n), some (.ref q0), v3, v4, v5, v6, v7] ∧ Same (hid H b) H' ∧ BoxAt H' b c ∧ H' q0 = some (.lst (zs.map V.str)) ∧ Nms zs k) ⟨[], _, _, _, _, _, rfl, hid_up (same_new nq), hB.mono (same_new nq), upd_same, ⟨rfl, List.nodup_nil, fun z hz => absurd hz (List.not_mem_nil)⟩⟩ ?_ ?_⟩
    · rintro k σ H1 hk ⟨zs, v3, v4, v5, v6, v7, rfl, sm, hB1, hq1, hN⟩
      walk_at "gox_22"
      refine ⟨b, c, 8, rfl, by decide, by decide, hB1, fun r H2 r0 r1 hx hB2 => ?_⟩
      walk_at "gox_22"
      refine ⟨1 + r, rfl, by omega, by omega, for_range (lo := 0) (n := (1 + r).toNat) (fun i σ H' => ∃ z v5, σ = [some (.ref b), some (.int n), some (.ref q0), some (.int (0 + k)), some (.str z), v5, v6, v7] ∧ (∀ x, x ≠ b → H' x = H1 x) ∧ BoxAt H' b c ∧ z.length = i ∧ lowB z = true) ⟨_, _, rfl, hx, hB2, rfl, rfl⟩ ?_ ?_⟩
      · rintro i σ H3 hi ⟨z, v5, rfl, hx3, hB3, hz, lz⟩
        walk_at "gox_22"
        refine ⟨b, c, 26, rfl, by decide, by decide, hB3, fun r2 H4 r20 r21 hx4 hB4 => ?_⟩
        walk_at "gox_22"
        refine ⟨z, _, rfl, rfl, ?_, ?_⟩
        · show z.length + 1 ≤ sizeLine
          exact Nat.le_of_lt (small63 (by omega))
        walk_at "gox_22"
        exact ⟨_, _, rfl, fun x hne => (hx4 x hne).trans (hx3 x hne), hB4, by rw [app_len, hz], app_low lz (by omega) (by omega)⟩
      · rintro σ H3 ⟨z, v5, rfl, hx3, hB3, hz, lz⟩
        have hq3 : H3 q0 = some (.lst (zs.map V.str)) := (hx3 q0 bq.symm).trans hq1
        have nz : nameB z = true := nameB_mk (by omega) (by omega) lz
        have sm3 : Same (hid H b) H3 := hid_but sm hx3
        have hS3 : SqL K H3 q0 (zs.map V.str) := .inl (.inl hq3)
        walk_at "gox_22"
        first | refine Wn.ifd_int (fun e => ?_) (fun e => ?_) | refine Wn.ifd (fun e => ?_) (fun e => ?_)
        · have l7 := cut7_len z
          walk_at "gox_22"
          refine ⟨_, rfl, fun D nD => lc_text (fun i H' => Same H3 H' ∧ H' D = some (.lst ((freeL (cutS z none (some 7)) zs i).map V.str))) ⟨same_new nD, upd_same⟩ ?_ ?_⟩
          · rintro i ch H5 ec ⟨s5, hD⟩
            have ec2 : (PySem.Str.ofString "abcdefghijklmnopqrstuvwxyz").cps.toList[i]? = some ch := by rw [Array.getElem?_toList]; exact ec
            rw [abc_list] at ec2
            have hi : i < 26 := by have := (List.getElem?_eq_some_iff.mp ec2).1; rw [List.length_map, List.length_range] at this; exact this
            have ech : ch = 97 + i := by rw [List.getElem?_map, List.getElem?_range hi] at ec2; exact (Option.some.inj ec2).symm
            subst ech
            have hS5 : SqL K H5 q0 (zs.map V.str) := .inl (.inl (s5 _ _ hq3))
            have fl := freeL_succ (cutS z none (some 7)) zs i
            walk_at "gox_22"
            refine r_sls (z := z) (Nat.le_of_lt (small63 (by omega))) ?_
            walk_at "gox_22"
            refine ⟨cutS z none (some 7), _, rfl, rfl, ?_, ?_⟩
            · show (cutS z none (some 7)).length + 1 ≤ sizeLine
              exact Nat.le_of_lt (small63 (by omega))
            walk_at "gox_22"
            by_cases e2 : cand (cutS z none (some 7)) i ∈ zs
            · refine ite_f (nd_f e2) ?_
              rw [if_neg (by rw [decide_eq_true e2]; exact Bool.false_ne_true), List.append_nil] at fl
              rw [fl]
              exact ⟨s5, hD⟩
            · refine ite_t (nd_t e2) ?_
              rw [if_pos (nd_t e2)] at fl
              walk_at "gox_22"
              refine r_sls (z := z) (Nat.le_of_lt (small63 (by omega))) ?_
              walk_at "gox_22"
              refine ⟨cutS z none (some 7), _, rfl, rfl, ?_, ?_⟩
              · show (cutS z none (some 7)).length + 1 ≤ sizeLine
                exact Nat.le_of_lt (small63 (by omega))
              have := freeL_len (cutS z none (some 7)) zs i
              refine ⟨_, hD, ?_, fun x o e => (upd_ne (ne_of_none e nD)).trans (s5 _ _ e), ?_⟩
              · rw [List.length_map]
                exact small63 (by omega)
              · rw [upd_same, fl, List.map_append]
                rfl
          · rintro H5 ⟨s5, hD⟩
            have hD2 : H5 D = some (.lst ((freeL (cutS z none (some 7)) zs 26).map V.str)) := hD
            obtain ⟨x, t, ex⟩ := freeL_ne (z := cutS z none (some 7)) (zs := zs) (by rw [hN.len]; omega)
            have hx := freeL_mem (z := cutS z none (some 7)) (zs := zs) (x := x) (by rw [ex]; exact List.mem_cons_self)
            rw [ex] at hD2
            have hb5 := hB3.mono s5
            have hq5 := s5 _ _ hq3
            walk_at "gox_22"
            refine r_ixa (.inl (.inl (.inl hD2))) (show atI ((x :: t).map V.str) ((0 : Nat) : Int) = some (.str x) from atI_nat rfl) ?_
            walk_at "gox_22"
            refine r_app hq5 (by rw [List.length_map, hN.len]; exact small63 (by omega)) ?_
            walk_at "gox_22"
            obtain ⟨ci, hci, ex2⟩ := hx.2
            refine ⟨zs ++ [x], _, _, _, _, _, rfl, fun y o e => (upd_ne (ne_of_none (hid_same _ _ e) nq)).trans (s5 _ _ (sm3 _ _ e)), hb5.put hB nq, ?_, nms_add hN (by rw [ex2]; exact cand_name lz hci) hx.1⟩
            rw [upd_same, List.map_append]
            rfl
        · walk_at "gox_22"
          refine r_app hq3 (by rw [List.length_map, hN.len]; exact small63 (by omega)) ?_
          walk_at "gox_22"
          refine ⟨zs ++ [z], _, _, _, _, _, rfl, fun y o e => (upd_ne (ne_of_none (hid_same _ _ e) nq)).trans (sm3 _ _ e), hB3.put hB nq, ?_, nms_add hN nz e⟩
          rw [upd_same, List.map_append]
          rfl
    · rintro σ H1 ⟨zs, v3, v4, v5, v6, v7, rfl, sm, hB1, hq1, hN⟩
      walk_at "gox_22"
      exact q _ q0 zs sm hB1 nq hq1 hN
end
end Wn


namespace Wn
open PySem PySem.Spec PyProof.Rows L2
theorem hid_T {K : PySem.W.Frag} {H H' : Hp} {b : Addr} {ys : List V} (hb : H b = some (.lst ys)) (s : Same (hid H b) H') {a : Addr} {xs : List V} (h : SqT K H a xs) : SqT K H' a xs := same_sqT s (hid_seqT hb h)
theorem hid_P {H H' : Hp} {b : Addr} {ys : List V} (hb : H b = some (.lst ys)) (s : Same (hid H b) H') {a : Addr} {xs : List V} (h : PTup H a xs) : PTup H' a xs := by
  obtain ⟨o, e, r⟩ := h
  exact ⟨o, s _ _ (hid_some e (ne_of e hb (by intro z; cases z))), r⟩
theorem BoxAt.smT {K : PySem.W.Frag} {H H' : Hp} {b c : Addr} (x : BoxAt H b c) (s : Same (hid H b) H') : SmT K H H' := fun a xs h => let ⟨_, e⟩ := x.lst; hid_T e s h
theorem BoxAt.smP {H H' : Hp} {b c : Addr} (x : BoxAt H b c) (s : Same (hid H b) H') {a : Addr} {xs : List V} (h : PTup H a xs) : PTup H' a xs := let ⟨_, e⟩ := x.lst; hid_P e s h
theorem RowAt.mt {K : PySem.W.Frag} {H H' : Hp} {v : V} {r : List (Option Str)} (s : SmT K H H') (h : RowAt K H v r) : RowAt K H' v r := let ⟨a, e, t⟩ := h; ⟨a, e, s _ _ t⟩
theorem NearAt.mt {K : PySem.W.Frag} {H H' : Hp} {v : V} {f : Fld} (s : SmT K H H') (h : NearAt K H v f) : NearAt K H' v f := by
  unfold NearAt at h ⊢
  cases e : f.looks with
  | none => rw [e] at h; exact RowAt.mt s h
  | some l =>
    rw [e] at h
    obtain ⟨a, vs, e1, t, hl, hr⟩ := h
    exact ⟨a, vs, e1, s _ _ t, hl, fun i x r h1 h2 => (hr i x r h1 h2).mt s⟩
theorem FarAt.mt {K : PySem.W.Frag} {H H' : Hp} {v : V} {f : Fld} (s : SmT K H H') (h : FarAt K H v f) : FarAt K H' v f := by
  unfold FarAt at h ⊢
  cases e : f.far with
  | none => rw [e] at h; exact h
  | some r => rw [e] at h; exact RowAt.mt s h
theorem FldAt.mt {K : PySem.W.Frag} {H H' : Hp} {v : V} {f : Fld} (s : SmT K H H') (h : FldAt K H v f) : FldAt K H' v f := let ⟨a, nv, fv, e, t, n, r⟩ := h; ⟨a, nv, fv, e, s _ _ t, n.mt s, r.mt s⟩
theorem FieldsAt.mt {K : PySem.W.Frag} {H H' : Hp} {a : Addr} {fs : List (Str × Fld)} (s : SmT K H H') (h : FieldsAt K H a fs) : FieldsAt K H' a fs :=
  let ⟨vs, t, hl, hx⟩ := h.ex
  ⟨vs, s _ _ t, hl, fun i x p h1 h2 => let ⟨q, fv, e, t2, f⟩ := hx i x p h1 h2; ⟨q, fv, e, s _ _ t2, f.mt s⟩⟩

local macro_rules | `(tactic| walk_at "gox1_23") => `(tactic| (first
  | walk_at "go1"
  | (with_reducible apply Wn.r_bm)
  | ((with_reducible apply Wn.r_tyl); (focus (walk_at "lk"; done)))
  | ((with_reducible apply Wn.r_ext); (focus (walk_at "lk"; done)); (focus (walk_at "lk"; done)); (focus ((with_unfolding_all first | (simp only [List.length_cons, List.length_nil, List.length_append]; decide) | fail); done)))
  | ((with_reducible apply Wn.r_cat); (focus (walk_at "lk"; done)); (focus (walk_at "lk"; done)); (focus ((with_unfolding_all first | (simp only [List.length_cons, List.length_nil, List.length_append]; decide) | fail); done)))
  | ((with_reducible apply Wn.r_inF); (focus ((first | exact Or.inl (by assumption) | exact Or.inr (by assumption) | fail); done)))
  | ((with_reducible apply Wn.r_inT); (focus ((first | exact Or.inl (by assumption) | exact Or.inr (by assumption) | fail); done)))
  | (with_reducible apply Wn.r_chain)
  | (with_reducible apply Wn.r_bt)
  | (with_reducible apply Wn.r_fld)
  | (with_reducible apply Wn.r_meth)
  | ((with_reducible apply Wn.r_pt); (focus ((first | assumption | fail); done)))
  | ((with_reducible apply Wn.r_ti); (focus ((first | assumption | exact Wn.PTup.sq (by assumption) | fail); done)); (focus ((first | assumption | fail); done)))
  | ((with_reducible apply Wn.r_tupT); (focus ((assumption); done)))
  | ((with_reducible apply Wn.r_gtup); (focus ((first | assumption | fail); done)); (focus ((with_unfolding_all first | exact rfl | fail); done)))
  | (with_reducible apply Wn.r_gcons)
  | (with_reducible apply Wn.r_gnil)
  | (with_reducible apply Wn.r_for)
  | ((with_reducible apply Wn.r_ixa); (focus ((first | exact Or.inl (L2.SqL.of (by walk_at "lk")) | exact Or.inr (L2.SqT.of (by walk_at "lk")) | exact Or.inr (by assumption) | exact Or.inl (by assumption) | fail); done)); (focus ((with_unfolding_all first | exact rfl | fail); done)))
  | (with_reducible apply Wn.r_lc)
  | (with_reducible apply Wn.r_rng1)
  | (with_reducible apply Wn.r_ilist)
  | (with_reducible apply Wn.r_itup)
  | (with_reducible apply Wn.r_istr)
  | (with_reducible apply Wn.r_tsl)
  | (with_reducible apply Wn.r_nopart)
  | (with_reducible apply Wn.r_part)
  | (with_reducible apply Wn.r_exint)))
local macro_rules | `(tactic| walk_at "gox_23") => `(tactic| repeat (walk_at "gox1_23"))
def spLEntries : Sp := fun vs H Q _ => ∃ (b c na : Addr) (notes : List Str) (m : Nat), vs = [.ref b, .ref na, .int m] ∧ m ≤ 3 ∧ BoxAt H b c ∧ H na = some (.lst (notes.map V.str)) ∧ na ≠ b ∧ Nms notes 2 ∧
  ∀ (H' : Hp) (q : Addr) (r : List (Option Str)), Same (hid H b) H' → BoxAt H' b c → H q = none → H' q = some (.tup (r.map entV)) → r.length = m → rowOk r → Q (.ref q) H'
def spLField (K : PySem.W.Frag) : Sp := fun vs H Q _ => ∃ (b c wa nm na : Addr) (ws names notes : List Str) (name : Str), vs = [.ref b, .ref wa, .ref nm, .str name, .ref na] ∧ BoxAt H b c ∧ PTup H wa (ws.map V.str) ∧
  H nm = some (.lst (names.map V.str)) ∧ nm ≠ b ∧ H na = some (.lst (notes.map V.str)) ∧ na ≠ b ∧ 1 ≤ ws.length ∧ ws.length ≤ 3 ∧ names.length ≤ 3 ∧ Nms notes 2 ∧
  ∀ (H' : Hp) (q : Addr) (f : Fld), Same (hid H b) H' → BoxAt H' b c → H q = none → FldAt K H' (.ref q) f → f.Ok ws names name → Q (.ref q) H'
section
variable {P : Program} {w : World} {K : PySem.W.Frag} {mg : Str → Option Value} {base : Heap}
theorem ok_L_entries (T : Txt K mg) : FnOk P w K mg base CX0 3 T.f_L_entries T.d_L_entries ["_law_box_here", "_law_notes", "_law_size"] (spLEntries) := by
  refine T.F_L_entries.ok sc_L_entries (fun vs H Q E h => ?_) (fun cdv A outer s H vs Q E hr h => ?_)
  · obtain ⟨b, c, na, notes, m, rfl, _⟩ := h
    rfl
  · obtain ⟨b, c, na, notes, m, rfl, m3, hB, hna, nab, hN, q⟩ := h
    obtain ⟨n0, n1, rfl⟩ : ∃ x y, notes = [x, y] := by
      match notes, hN.len with
      | [x, y], _ => exact ⟨x, y, rfl⟩
    have k0 := hN.nm n0 (by simp)
    have k1 := hN.nm n1 (by simp)
    have hS : SqL K H na [.str n0, .str n1] := .inl (.inl hna)
    refine ⟨_, (pss_cons (ps_set (i := 3) sc_L_entries.nd rfl (Or.inr rfl) (pe_lst (pa_cons pe_non (pa_cons pe_non (pa_cons (pe_ix (ix_aK (K := K) rfl) (pv 1) pe_int (fun _ _ => rfl)) (pa_cons (pe_ix (ix_aK (K := K) rfl) (pv 1) pe_int (fun _ _ => rfl)) pa_nil)))))) (pss_one (ps_ret (pe_callTy (call_tupleK (K := K) rfl) (by rfl) T.tuple_ (by decide +kernel) (pa_cons (pe_lc (own := [("_law_k", 4)]) (g := gName 4) (tt := tYes) rfl sc_L_entries.nd (pi_range1 (by rfl) T.range (pa_cons (pv 2) pa_nil)) (blkOk_by (N := ["_law_box_here", "_law_notes", "_law_size", "_law_menu", "_law_k"]) (sc := defScope s_L_entries) (by decide +kernel)) (fun _ _ _ _ _ => pg_name (i := 4) sc_L_entries.nd rfl (Or.inl rfl)) (fun _ _ _ _ _ => pts_nil) (fun _ _ _ _ _ => (pe_ix (ix_aK (K := K) rfl) (pv 3) (pe_call (ok_L_draw T) (hr.mono (by decide)) (by rfl) T.g_L_draw T.F_L_draw.kp T.b_L_draw .nil pass0 (pa_cons (pv 0) (pa_cons pe_int pa_nil))) (fun _ _ => rfl)))) pa_nil))))), ?_⟩
    show tSeq _ _ _ [_, _, _, none, none] _
    walk_at "gox_23"
    intro pm nm
    generalize hG : upd H pm _ = H1
    have s1 : Same H H1 := by rw [← hG]; exact same_new nm
    have e1 : H1 pm = some (.lst ([none, none, some n0, some n1].map entV)) := by rw [← hG]; exact upd_same
    have hB1 := hB.mono s1
    have pb : pm ≠ b := (hB.nb nm).symm
    walk_at "gox_23"
    refine ⟨m, rfl, by omega, by omega, fun D nD => lc_range (lo := 0) (n := m) (fun i H' => Same (hid H1 b) H' ∧ BoxAt H' b c ∧ ∃ r : List (Option Str), H' D = some (.lst (r.map entV)) ∧ r.length = i ∧ rowOk r) ⟨hid_put hid_same nD, hB1.put hB1 nD, [], upd_same, rfl, fun z hz => absurd hz List.not_mem_nil⟩ ?_ ?_⟩
    · rintro i H' hi ⟨sm, hB2, r, hD, hl, hr⟩
      have e2 := sm _ _ (hid_some e1 pb)
      walk_at "gox_23"
      refine ⟨b, c, 4, rfl, by decide, by decide, hB2, fun d H3 d0 d1 hx hB3 => ?_⟩
      obtain ⟨k, rfl⟩ : ∃ k : Nat, d = (k : Int) := ⟨d.toNat, by omega⟩
      have hk : k < ([none, none, some n0, some n1] : List (Option Str)).length := by show k < 4; omega
      have e3 := (hx pm pb).trans e2
      have hDb : D ≠ b := (hB1.nb nD).symm
      refine r_ixa (.inl (.inl (.inl e3))) (atI_nat (by rw [List.getElem?_map, List.getElem?_eq_getElem hk]; rfl)) ?_
      have hin := List.getElem_mem hk
      refine ⟨_, (hx D hDb).trans hD, ?_, hid_put (hid_but sm hx) nD, hB3.put hB1 nD, r ++ [([none, none, some n0, some n1] : List (Option Str))[k]], ?_, by rw [List.length_append, hl]; rfl, ?_⟩
      · rw [List.length_map, hl]
        exact small63 (by omega)
      · rw [upd_same, List.map_append]
        rfl
      · intro z hz
        rcases List.mem_append.mp hz with h | h
        · exact hr z h
        · have h2 := List.mem_singleton.mp h
          rw [← h2] at hin
          simp only [List.mem_cons, List.not_mem_nil, or_false] at hin
          rcases hin with h3 | h3 | h3 | h3
          · cases h3
          · cases h3
          · cases h3; exact k0
          · cases h3; exact k1
    · rintro H' ⟨sm, hB2, r, hD, hl, hr⟩
      walk_at "gox_23"
      refine ⟨D, _, rfl, .inl (.inl hD), fun t nt => ?_⟩
      have sH : Same (hid H b) H' := hid_hid (hid_up s1) sm
      exact q _ t r (fun x u e => (same_new nt) x u (sH x u e)) (hB2.mono (same_new nt)) (hid_free sH nt (hB2.nb nt).symm) upd_same hl hr
end
end Wn


namespace Wn
open PySem PySem.Spec PyProof.Rows L2

local macro_rules | `(tactic| walk_at "gox1_24") => `(tactic| (first
  | walk_at "go1"
  | (with_reducible apply Wn.r_bm)
  | ((with_reducible apply Wn.r_tyl); (focus (walk_at "lk"; done)))
  | ((with_reducible apply Wn.r_ext); (focus (walk_at "lk"; done)); (focus (walk_at "lk"; done)); (focus ((with_unfolding_all first | (simp only [List.length_cons, List.length_nil, List.length_append]; decide) | fail); done)))
  | ((with_reducible apply Wn.r_cat); (focus (walk_at "lk"; done)); (focus (walk_at "lk"; done)); (focus ((with_unfolding_all first | (simp only [List.length_cons, List.length_nil, List.length_append]; decide) | fail); done)))
  | ((with_reducible apply Wn.r_inF); (focus ((first | exact Or.inl (by assumption) | exact Or.inr (by assumption) | fail); done)))
  | ((with_reducible apply Wn.r_inT); (focus ((first | exact Or.inl (by assumption) | exact Or.inr (by assumption) | fail); done)))
  | (with_reducible apply Wn.r_chain)
  | (with_reducible apply Wn.r_bt)
  | (with_reducible apply Wn.r_fld)
  | (with_reducible apply Wn.r_meth)
  | ((with_reducible apply Wn.r_pt); (focus ((first | assumption | fail); done)))
  | ((with_reducible apply Wn.r_ti); (focus ((first | assumption | exact Wn.PTup.sq (by assumption) | fail); done)); (focus ((first | assumption | fail); done)))
  | ((with_reducible apply Wn.r_tupT); (focus ((assumption); done)))
  | ((with_reducible apply Wn.r_gtup); (focus ((first | assumption | fail); done)); (focus ((with_unfolding_all first | exact rfl | fail); done)))
  | (with_reducible apply Wn.r_gcons)
  | (with_reducible apply Wn.r_gnil)
  | (with_reducible apply Wn.r_for)
  | ((with_reducible apply Wn.r_ixa); (focus ((first | exact Or.inl (L2.SqL.of (by walk_at "lk")) | exact Or.inr (L2.SqT.of (by walk_at "lk")) | exact Or.inr (by assumption) | exact Or.inl (by assumption) | fail); done)); (focus ((with_unfolding_all first | exact rfl | fail); done)))
  | (with_reducible apply Wn.r_lc)
  | (with_reducible apply Wn.r_rng1)
  | (with_reducible apply Wn.r_ilist)
  | (with_reducible apply Wn.r_itup)
  | (with_reducible apply Wn.r_istr)
  | (with_reducible apply Wn.r_tsl)
  | (with_reducible apply Wn.r_nopart)
  | (with_reducible apply Wn.r_part)
  | (with_reducible apply Wn.r_exint)))
local macro_rules | `(tactic| walk_at "gox_24") => `(tactic| repeat (walk_at "gox1_24"))
theorem filt_at {l : List Str} {name z : Str} {i : Nat} (h : l[i]? = some z) : (l.take (i + 1)).filter (fun x => !decide (x = name)) = (l.take i).filter (fun x => !decide (x = name)) ++ (if (!decide (z = name)) = true then [z] else []) := by
  rw [take_at h, List.filter_append]
  congr 1
  simp only [List.filter_cons, List.filter_nil]
/-- where the ways of the near table meet -/
def FieldP (K : PySem.W.Frag) (H : Hp) (b c wa nm na D : Addr) (ws names : List Str) (name first : Str) : L2.St → Hp → Prop := fun σ' H' => ∃ (f : Fld) (nv : V) (o7 o10 : Option V), f.first = first ∧ f.far = none ∧ f.Ok ws names name ∧ NearAt K H' nv f ∧ Same (hid H b) H' ∧ BoxAt H' b c ∧
  σ' = [some (.ref b), some (.ref wa), some (.ref nm), some (.str name), some (.ref na), some (.str first), some (.ref D), o7, some (entV f.looks), some nv, o10, none]
section
variable {P : Program} {w : World} {K : PySem.W.Frag} {mg : Str → Option Value} {base : Heap}
theorem ok_L_field (T : Txt K mg) : FnOk P w K mg base CX0 4 T.f_L_field T.d_L_field ["_law_box_here", "_law_words", "_law_names_here", "_law_name", "_law_notes"] (spLField K) := by
  refine T.F_L_field.ok sc_L_field (fun vs H Q E h => ?_) (fun cdv A outer s H vs Q E hr h => ?_)
  · obtain ⟨b, c, wa, nm, na, ws, names, notes, name, rfl, _⟩ := h
    rfl
  · obtain ⟨b, c, wa, nm, na, ws, names, notes, name, rfl, hB, hW, hnm, nmb, hna, nab, w1, w3, n3, hN, q⟩ := h
    have hWs := hW.sq (K := K)
    have lW : (ws.map V.str).length = ws.length := List.length_map _
    refine ⟨_, (pss_cons (ps_set (i := 5) sc_L_field.nd rfl (Or.inl rfl) (pe_ix (ix_aK (K := K) rfl) (pv 1) (pe_call (ok_L_draw T) (hr.mono (by decide)) (by rfl) T.g_L_draw T.F_L_draw.kp T.b_L_draw .nil pass0 (pa_cons (pv 0) (pa_cons (pe_callB (call_lenK (K := K) rfl) (by rfl) T.len PySem.boot_len (pa_cons (pv 1) pa_nil)) pa_nil))) (fun _ _ => rfl))) (pss_cons (ps_setLc (i := 6) (own := [("_law_other", 7)]) (g := gName 7)  rfl sc_L_field.nd rfl rfl (sw_true rfl rfl rfl (by decide +kernel)) (pi_listK (K := K) rfl (pv 2)) (blkOk_by (N := ["_law_box_here", "_law_words", "_law_names_here", "_law_name", "_law_notes", "_law_first", "_law_others_here", "_law_other", "_law_looks", "_law_near", "_law_word", "_law_far"]) (sc := defScope s_L_field) (by decide +kernel)) (fun _ _ _ _ _ => pg_name (i := 7) sc_L_field.nd rfl (Or.inl rfl)) (fun _ _ _ _ _ => (pts_one (pt_cmpR op_ne (pv 7) (pv 3) (nomark _)))) (fun _ _ _ _ _ => (pv 7))) (pss_cons (ps_set (i := 8) sc_L_field.nd rfl (Or.inl rfl) pe_non) (pss_cons (ps_set (i := 9) sc_L_field.nd rfl (Or.inl rfl) (pe_call (ok_L_entries T) (hr.mono (by decide)) (by rfl) T.g_L_entries T.F_L_entries.kp T.b_L_entries .nil pass0 (pa_cons (pv 0) (pa_cons (pv 4) (pa_cons (pe_callB (call_lenK (K := K) rfl) (by rfl) T.len PySem.boot_len (pa_cons (pv 1) pa_nil)) pa_nil))))) (pss_cons (ps_ifk (PW.pt (pw_and (pt_cmpR op_gt (pe_callB (call_lenK (K := K) rfl) (by rfl) T.len PySem.boot_len (pa_cons (pv 6) pa_nil)) pe_int (nomark _)) (pw_and1 (pt_cmpR op_eq (pe_call (ok_L_draw T) (hr.mono (by decide)) (by rfl) T.g_L_draw T.F_L_draw.kp T.b_L_draw .nil pass0 (pa_cons (pv 0) (pa_cons pe_int pa_nil))) pe_int (nomark _))))) (pss_cons (ps_set (i := 8) sc_L_field.nd rfl (Or.inl rfl) (pe_ix (ix_aK (K := K) rfl) (pv 6) (pe_call (ok_L_draw T) (hr.mono (by decide)) (by rfl) T.g_L_draw T.F_L_draw.kp T.b_L_draw .nil pass0 (pa_cons (pv 0) (pa_cons (pe_callB (call_lenK (K := K) rfl) (by rfl) T.len PySem.boot_len (pa_cons (pv 6) pa_nil)) pa_nil))) (fun _ _ => rfl))) (pss_one (ps_set (i := 9) sc_L_field.nd rfl (Or.inl rfl) (pe_callTy (call_tupleK (K := K) rfl) (by rfl) T.tuple_ (by decide +kernel) (pa_cons (pe_lc (own := [("_law_word", 10)]) (g := gName 10) (tt := tYes) rfl sc_L_field.nd (pi_tupK (K := K) rfl (pv 1)) (blkOk_by (N := ["_law_box_here", "_law_words", "_law_names_here", "_law_name", "_law_notes", "_law_first", "_law_others_here", "_law_other", "_law_looks", "_law_near", "_law_word", "_law_far"]) (sc := defScope s_L_field) (by decide +kernel)) (fun _ _ _ _ _ => pg_name (i := 10) sc_L_field.nd rfl (Or.inl rfl)) (fun _ _ _ _ _ => pts_nil) (fun _ _ _ _ _ => (pe_call (ok_L_entries T) (hr.mono (by decide)) (by rfl) T.g_L_entries T.F_L_entries.kp T.b_L_entries .nil pass0 (pa_cons (pv 0) (pa_cons (pv 4) (pa_cons (pe_callB (call_lenK (K := K) rfl) (by rfl) T.len PySem.boot_len (pa_cons (pv 1) pa_nil)) pa_nil)))))) pa_nil))))) pss_nil) (pss_cons (ps_set (i := 11) sc_L_field.nd rfl (Or.inl rfl) pe_non) (pss_cons (ps_if (pt_cmpR op_eq (pe_call (ok_L_draw T) (hr.mono (by decide)) (by rfl) T.g_L_draw T.F_L_draw.kp T.b_L_draw .nil pass0 (pa_cons (pv 0) (pa_cons pe_int pa_nil))) pe_int (nomark _)) (pss_one (ps_set (i := 11) sc_L_field.nd rfl (Or.inl rfl) (pe_call (ok_L_entries T) (hr.mono (by decide)) (by rfl) T.g_L_entries T.F_L_entries.kp T.b_L_entries .nil pass0 (pa_cons (pv 0) (pa_cons (pv 4) (pa_cons (pe_callB (call_lenK (K := K) rfl) (by rfl) T.len PySem.boot_len (pa_cons (pv 1) pa_nil)) pa_nil)))))) pss_nil) (pss_one (ps_ret (pe_tup (pa_cons (pv 5) (pa_cons (pv 8) (pa_cons (pv 9) (pa_cons (pv 11) pa_nil)))))))))))))), ?_⟩
    show tSeq _ _ _ [_, _, _, _, _, none, none, none, none, none, none, none] _
    walk_at "gox_24"
    refine ⟨b, c, _, rfl, by rw [lW]; omega, by rw [lW]; omega, hB, fun d H1 d0 d1 hx hB1 => ?_⟩
    obtain ⟨k, rfl⟩ : ∃ k : Nat, d = (k : Int) := ⟨d.toNat, by omega⟩
    have hk : k < ws.length := by rw [lW] at d1; omega
    have s1 : Same (hid H b) H1 := hid_but hid_same hx
    have hW1 := hB.smP s1 hW
    have hWs1 := hW1.sq (K := K)
    have hnm1 := s1 _ _ (hid_some hnm nmb)
    have hna1 := s1 _ _ (hid_some hna nab)
    refine r_ixa (.inr hWs1) (atI_nat (by rw [List.getElem?_map, List.getElem?_eq_getElem hk]; rfl)) ?_
    walk_at "gox_24"
    refine ⟨nm, rfl, ⟨_, .inl (.inl hnm1)⟩, fun D nD => lc_list (K := K) (a := nm) (xs := names.map V.str) (fun i H' => Same H1 H' ∧ H' D = some (.lst (((names.take i).filter (fun x => !decide (x = name))).map V.str))) ⟨same_new nD, upd_same⟩ (fun i H' _ h => .inl (.inl (h.1 _ _ hnm1))) ?_ ?_⟩
    · rintro i x H' hi ⟨sm, hD⟩
      obtain ⟨z, hz, rfl⟩ := str_at hi
      have hlt : i < names.length := (List.getElem?_eq_some_iff.mp hz).1
      walk_at "gox_24"
      by_cases e : z = name
      · refine ite_f (nd_f (by rw [e])) ?_
        refine ⟨sm, ?_⟩
        rw [filt_at hz, if_neg (by rw [decide_eq_true e]; exact Bool.false_ne_true), List.append_nil]
        exact hD
      · refine ite_t (nd_t (fun h => e (V.str.inj h))) ?_
        walk_at "gox_24"
        refine ⟨_, hD, ?_, fun b o e => (upd_ne (ne_of_none e nD)).trans (sm _ _ e), ?_⟩
        · rw [List.length_map]
          refine small63 (Nat.le_trans (List.length_filter_le _ _) ?_)
          rw [List.length_take]
          omega
        · rw [upd_same, filt_at hz, if_pos (by rw [decide_eq_false e]; rfl), List.map_append]
          rfl
    · rintro H2 ⟨s2, hD⟩
      rw [List.length_map, List.take_length] at hD
      have hoth : ∀ z ∈ names.filter (fun x => !decide (x = name)), z ≠ name ∧ z ∈ names := fun z hz => by
        rw [List.mem_filter] at hz
        exact ⟨by simpa using hz.2, hz.1⟩
      have hol : (names.filter (fun x => !decide (x = name))).length ≤ 3 := Nat.le_trans (List.length_filter_le _ _) n3
      generalize names.filter (fun x => !decide (x = name)) = oth at hD hoth hol
      have hW2 := hW1.mono s2
      have hWs2 := hW2.sq (K := K)
      have hB2 := hB1.mono s2
      have hnm2 := s2 _ _ hnm1
      have hna2 := s2 _ _ hna1
      have Db : D ≠ b := (hB1.nb nD).symm
      have sH2 : Same (hid H b) H2 := s1.trans s2
      walk_at "gox_24"
      refine ⟨b, c, na, notes, ws.length, by rw [lW]; rfl, w3, hB2, hna2, nab, hN, fun H3 q3 r3 s3 hB3 n3' e3 l3 k3 => ?_⟩
      have sH3 : Same (hid H b) H3 := hid_hid sH2 s3
      have hD3 := s3 _ _ (hid_some hD Db)
      have hDl : SqL K H3 D (oth.map V.str) := .inl (.inl hD3)
      have hW3 := hB2.smP s3 hW2
      have hWs3 := hW3.sq (K := K)
      have hna3 := s3 _ _ (hid_some hna2 nab)
      walk_at "gox_24"
      refine if_cut (FieldP K H b c wa nm na D ws names name ws[k]) (fun σ' H4 hP => ?_) (fun J => ?_)
      · obtain ⟨f, nv, o7, o10, hf1, hf2, ok, hnear, sH4, hB4, rfl⟩ := hP
        have hna4 := sH4 _ _ (hid_some hna nab)
        have hW4 := hB.smP sH4 hW
        have hWs4 := hW4.sq (K := K)
        walk_at "gox_24"
        refine ⟨b, c, 2, rfl, by decide, by decide, hB4, fun d2 H5 d20 d21 hx5 hB5 => ?_⟩
        have s5 : Same (hid H4 b) H5 := hid_but hid_same hx5
        have sH5 := hid_hid sH4 s5
        have hna5 := s5 _ _ (hid_some hna4 nab)
        have hW5 := hB4.smP s5 hW4
        have hWs5 := hW5.sq (K := K)
        walk_at "gox_24"
        first | refine Wn.ifd_int (fun e => ?_) (fun e => ?_) | refine Wn.ifd (fun e => ?_) (fun e => ?_)
        · walk_at "gox_24"
          refine ⟨b, c, na, notes, ws.length, by rw [lW]; rfl, w3, hB5, hna5, nab, hN, fun H6 q6 r6 s6 hB6 n6 e6 l6 k6 => ?_⟩
          walk_at "gox_24"
          intro t nt
          have s56 : SmT K H4 (upd H6 t (.tup [.str ws[k], entV f.looks, nv, .ref q6])) := fun a xs h => same_sqT (same_new nt) (hB5.smT s6 _ _ (hB4.smT s5 _ _ h))
          have sH6 := hid_hid sH5 s6
          refine q _ t { f with far := some r6 } (fun x u e => (same_new nt) x u (sH6 x u e)) (hB6.mono (same_new nt)) (hid_free sH6 nt (hB6.nb nt).symm) ⟨t, nv, .ref q6, rfl, .inl (.inl (by rw [upd_same, hf1])), hnear.mt s56, ?_⟩ ?_
          · exact ⟨q6, rfl, .inl (.inl (lk_ne (ne_ex ⟨_, e6⟩ nt) e6))⟩
          · exact ⟨ok.first, ok.looks, ok.alone, ok.pairs, fun r hr => by cases hr; exact ⟨l6, k6⟩⟩
        · walk_at "gox_24"
          intro t nt
          have s56 : SmT K H4 (upd H5 t (.tup [.str ws[k], entV f.looks, nv, .non])) := fun a xs h => same_sqT (same_new nt) (hB4.smT s5 _ _ h)
          refine q _ t f (fun x u e => (same_new nt) x u (sH5 x u e)) (hB5.mono (same_new nt)) (hid_free sH5 nt (hB5.nb nt).symm) ⟨t, nv, .non, rfl, .inl (.inl (by rw [upd_same, hf1])), hnear.mt s56, ?_⟩ ok
          unfold FarAt
          rw [hf2]
      · cases oth with
        | nil =>
          walk_at "gox_24"
          exact J _ _ ⟨⟨ws[k], none, r3, [], none⟩, .ref q3, _, _, rfl, rfl, ⟨List.getElem_mem hk, fun l h => (nomatch h), fun _ => ⟨l3, k3⟩, fun l h => (nomatch h), fun r h => (nomatch h)⟩, ⟨q3, rfl, .inl (.inl e3)⟩, sH3, hB3, rfl⟩
        | cons z0 tl =>
          walk_at "gox_24"
          refine ite_t (decide_eq_true (by show (0 : Int) < ((V.str z0 :: tl.map V.str).length : Int); rw [List.length_cons]; omega)) ?_
          walk_at "gox_24"
          refine ⟨b, c, 2, rfl, by decide, by decide, hB3, fun d2 H5 d20 d21 hx5 hB5 => ?_⟩
          have s5 : Same (hid H3 b) H5 := hid_but hid_same hx5
          have sH5 := hid_hid sH3 s5
          have e5 := s5 _ _ (hid_some e3 (fun h => by rw [h] at n3'; exact absurd n3' (by obtain ⟨_, z⟩ := hB2.lst; rw [z]; intro h; cases h)))
          have hD5 := s5 _ _ (hid_some hD3 Db)
          have hDl5 : SqL K H5 D ((z0 :: tl).map V.str) := .inl (.inl hD5)
          walk_at "gox_24"
          first | refine Wn.ifd_int (fun e => ?_) (fun e => ?_) | refine Wn.ifd (fun e => ?_) (fun e => ?_)
          · walk_at "gox_24"
            refine ⟨b, c, _, rfl, ?_, ?_, hB5, fun d6 H6 d60 d61 hx6 hB6 => ?_⟩
            · rw [List.length_map, List.length_cons]; omega
            · rw [List.length_map]; omega
            obtain ⟨j, rfl⟩ : ∃ j : Nat, d6 = (j : Int) := ⟨d6.toNat, by omega⟩
            have hj : j < (z0 :: tl).length := by rw [List.length_map] at d61; omega
            have s6 : Same (hid H5 b) H6 := hid_but hid_same hx6
            have sH6 := hid_hid sH5 s6
            have hD6 := s6 _ _ (hid_some hD5 Db)
            have hna6 := sH6 _ _ (hid_some hna nab)
            have hW6 := hB.smP sH6 hW
            have hWs6 := hW6.sq (K := K)
            refine r_ixa (.inl (.inl (.inl hD6))) (atI_nat (by rw [List.getElem?_map, List.getElem?_eq_getElem hj]; rfl)) ?_
            walk_at "gox_24"
            refine ⟨wa, rfl, ⟨_, hWs6⟩, fun D2 nD2 => lc_tup (K := K) (a := wa) (xs := ws.map V.str) (fun i H' => Same (hid H6 b) H' ∧ BoxAt H' b c ∧ ∃ (vs : List V) (rs : List (List (Option Str))), H' D2 = some (.lst vs) ∧ vs.length = i ∧ rs.length = i ∧ (∀ r ∈ rs, r.length = ws.length ∧ rowOk r) ∧ ∀ (j : Nat) (x : V) (r : List (Option Str)), vs[j]? = some x → rs[j]? = some r → RowAt K H' x r)
              ⟨hid_put hid_same nD2, hB6.put hB6 nD2, [], [], upd_same, rfl, rfl, fun r hr => absurd hr List.not_mem_nil, fun j x r h => by simp at h⟩ (fun i H' _ h => (hB6.smP h.1 hW6).sq) ?_ ?_⟩
            · rintro i x H' hi ⟨sm, hB7, vs, rs, hD7, lv, lr, hok, hrow⟩
              have hna7 := sm _ _ (hid_some hna6 nab)
              have hWs7 := (hB6.smP sm hW6).sq (K := K)
              have D2b : D2 ≠ b := (hB6.nb nD2).symm
              have hlt : i < ws.length := by have := (List.getElem?_eq_some_iff.mp hi).1; rw [lW] at this; exact this
              walk_at "gox_24"
              refine ⟨b, c, na, notes, ws.length, by rw [lW]; rfl, w3, hB7, hna7, nab, hN, fun H8 q8 r8 s8 hB8 n8 e8 l8 k8 => ?_⟩
              have sT : SmT K H' (upd H8 D2 (.lst (vs ++ [.ref q8]))) := fun a xs h => by
                have h2 := hB7.smT s8 _ _ h
                have hD8 := s8 _ _ (hid_some hD7 D2b)
                rcases h2 with (h2 | ⟨o, h2⟩) | h2
                · exact .inl (.inl (lk_ne (ne_of h2 hD8 (by intro z; cases z)) h2))
                · exact .inl (.inr ⟨o, lk_ne (ne_of h2 hD8 (by intro z; cases z)) h2⟩)
                · exact .inr h2
              have q8D : q8 ≠ D2 := fun h => by rw [h, hD7] at n8; cases n8
              refine ⟨_, s8 _ _ (hid_some hD7 D2b), by rw [lv]; exact small63 (by omega), hid_put (hid_hid sm s8) nD2, hB8.put hB6 nD2, _, rs ++ [r8], upd_same, by rw [List.length_append, lv]; rfl, by rw [List.length_append, lr]; rfl, ?_, ?_⟩
              · intro r hr
                rcases List.mem_append.mp hr with h | h
                · exact hok r h
                · rw [List.mem_singleton.mp h]; exact ⟨l8, k8⟩
              · intro j x r hx hr
                by_cases hj : j < i
                · rw [List.getElem?_append_left (by rw [lv]; exact hj)] at hx
                  rw [List.getElem?_append_left (by rw [lr]; exact hj)] at hr
                  exact (hrow j x r hx hr).mt sT
                · have hji : j = i := by
                    have := (List.getElem?_eq_some_iff.mp hx).1
                    rw [List.length_append, lv] at this
                    have : j < i + 1 := this
                    omega
                  rw [List.getElem?_append_right (by rw [lv]; omega), lv, hji, Nat.sub_self] at hx
                  rw [List.getElem?_append_right (by rw [lr]; omega), lr, hji, Nat.sub_self] at hr
                  cases hx
                  cases hr
                  exact ⟨q8, rfl, .inl (.inl (lk_ne q8D e8))⟩
            · rintro H7 ⟨sm, hB7, vs, rs, hD7, lv, lr, hok, hrow⟩
              walk_at "gox_24"
              refine ⟨D2, _, rfl, .inl (.inl hD7), fun t nt => ?_⟩
              walk_at "gox_24"
              have sH7 := hid_hid sH6 sm
              obtain ⟨o1, o2⟩ := hoth _ (List.getElem_mem hj)
              refine J _ _ ⟨⟨ws[k], some (z0 :: tl)[j], [], rs, none⟩, .ref t, _, _, rfl, rfl, ⟨List.getElem_mem hk, fun l h => by cases h; exact ⟨o1, o2⟩, fun h => (nomatch h), fun l h => ⟨by rw [lr, lW], hok⟩, fun r h => (nomatch h)⟩, ⟨t, vs, rfl, .inl (.inl upd_same), by rw [lv, lr], fun i x r h1 h2 => (hrow i x r h1 h2).mono (same_new nt)⟩, fun x u e => (same_new nt) x u (sH7 x u e), hB7.mono (same_new nt), rfl⟩
          · walk_at "gox_24"
            exact J _ _ ⟨⟨ws[k], none, r3, [], none⟩, .ref q3, _, _, rfl, rfl, ⟨List.getElem_mem hk, fun l h => (nomatch h), fun _ => ⟨l3, k3⟩, fun l h => (nomatch h), fun r h => (nomatch h)⟩, ⟨q3, rfl, .inl (.inl e5)⟩, sH5, hB5, rfl⟩
end
end Wn


namespace Wn
open PySem PySem.Spec PyProof.Rows L2

local macro_rules | `(tactic| walk_at "gox1_25") => `(tactic| (first
  | walk_at "go1"
  | (with_reducible apply Wn.r_bm)
  | ((with_reducible apply Wn.r_tyl); (focus (walk_at "lk"; done)))
  | ((with_reducible apply Wn.r_ext); (focus (walk_at "lk"; done)); (focus (walk_at "lk"; done)); (focus ((with_unfolding_all first | (simp only [List.length_cons, List.length_nil, List.length_append]; decide) | fail); done)))
  | ((with_reducible apply Wn.r_cat); (focus (walk_at "lk"; done)); (focus (walk_at "lk"; done)); (focus ((with_unfolding_all first | (simp only [List.length_cons, List.length_nil, List.length_append]; decide) | fail); done)))
  | ((with_reducible apply Wn.r_inF); (focus ((first | exact Or.inl (by assumption) | exact Or.inr (by assumption) | fail); done)))
  | ((with_reducible apply Wn.r_inT); (focus ((first | exact Or.inl (by assumption) | exact Or.inr (by assumption) | fail); done)))
  | (with_reducible apply Wn.r_chain)
  | (with_reducible apply Wn.r_bt)
  | (with_reducible apply Wn.r_fld)
  | (with_reducible apply Wn.r_meth)
  | ((with_reducible apply Wn.r_pt); (focus ((first | assumption | fail); done)))
  | ((with_reducible apply Wn.r_ti); (focus ((first | assumption | exact Wn.PTup.sq (by assumption) | fail); done)); (focus ((first | assumption | fail); done)))
  | ((with_reducible apply Wn.r_tupT); (focus ((assumption); done)))
  | ((with_reducible apply Wn.r_gtup); (focus ((first | assumption | fail); done)); (focus ((with_unfolding_all first | exact rfl | fail); done)))
  | (with_reducible apply Wn.r_gcons)
  | (with_reducible apply Wn.r_gnil)
  | (with_reducible apply Wn.r_for)
  | ((with_reducible apply Wn.r_ixa); (focus ((first | exact Or.inl (L2.SqL.of (by walk_at "lk")) | exact Or.inr (L2.SqT.of (by walk_at "lk")) | exact Or.inr (by assumption) | exact Or.inl (by assumption) | fail); done)); (focus ((with_unfolding_all first | exact rfl | fail); done)))
  | (with_reducible apply Wn.r_lc)
  | (with_reducible apply Wn.r_rng1)
  | (with_reducible apply Wn.r_ilist)
  | (with_reducible apply Wn.r_itup)
  | (with_reducible apply Wn.r_istr)
  | (with_reducible apply Wn.r_tsl)
  | (with_reducible apply Wn.r_nopart)
  | (with_reducible apply Wn.r_part)
  | (with_reducible apply Wn.r_exint)))
local macro_rules | `(tactic| walk_at "gox_25") => `(tactic| repeat (walk_at "gox1_25"))
def spLParts (K : PySem.W.Frag) : Sp := fun vs H Q _ => ∃ (b c : Addr), vs = [.ref b] ∧ BoxAt H b c ∧
  ∀ (H' : Hp) (q wa fa : Addr) (F : Parts), F.Ok → Same (hid H b) H' → BoxAt H' b c → H q = none → PTup H' wa (F.ws.map V.str) → FieldsAt K H' fa F.fs → H' q = some (.tup [.ref wa, .ref fa, .int F.room]) → Q (.ref q) H'
theorem nms_set {zs : List Str} {n : Nat} {z : Str} (h : Nms zs n) (hz : nameB z = true) (hn : z ∉ zs) : Nms (zs.set 0 z) n := by
  cases zs with
  | nil => exact h
  | cons y t =>
    have nd := List.nodup_cons.mp h.nd
    refine ⟨h.len, ?_, ?_⟩
    · show (z :: t).Nodup
      exact List.nodup_cons.mpr ⟨fun m => hn (List.mem_cons_of_mem _ m), nd.2⟩
    · intro x hx
      have hx : x ∈ z :: t := hx
      rcases List.mem_cons.mp hx with e | e
      · rw [e]; exact hz
      · exact h.nm x (List.mem_cons_of_mem _ e)
/-- where the names are settled -/
def PartsP (H : Hp) (b c wa nm na : Addr) (ws notes : List Str) (n : Nat) (sz : Int) : L2.St → Hp → Prop := fun σ' H' => ∃ names, Nms names n ∧ H' nm = some (.lst (names.map V.str)) ∧ H' na = some (.lst (notes.map V.str)) ∧ PTup H' wa (ws.map V.str) ∧ Same (hid H b) H' ∧ BoxAt H' b c ∧
  σ' = [some (.ref b), some (.int sz), some (.ref wa), some (.ref nm), some (.ref na), none, none]
section
variable {P : Program} {w : World} {K : PySem.W.Frag} {mg : Str → Option Value} {base : Heap}
theorem ok_L_parts (T : Txt K mg) : FnOk P w K mg base CX0 5 T.f_L_parts T.d_L_parts ["_law_box_here"] (spLParts K) := by
  refine T.F_L_parts.ok sc_L_parts (fun vs H Q E h => ?_) (fun cdv A outer s H vs Q E hr h => ?_)
  · obtain ⟨b, c, rfl, _⟩ := h
    rfl
  · obtain ⟨b, c, rfl, hB, q⟩ := h
    refine ⟨_, (pss_cons (ps_set (i := 1) sc_L_parts.nd rfl (Or.inl rfl) (pe_op op_add pe_int (pe_call (ok_L_draw T) (hr.mono (by decide)) (by rfl) T.g_L_draw T.F_L_draw.kp T.b_L_draw .nil pass0 (pa_cons (pv 0) (pa_cons pe_int pa_nil))))) (pss_cons (ps_set (i := 2) sc_L_parts.nd rfl (Or.inr rfl) (pe_callTy (call_tupleFK (K := K) rfl) (by rfl) T.tuple_ (by decide +kernel) (pa_cons (pe_call (ok_L_names T) (hr.mono (by decide)) (by rfl) T.g_L_names T.F_L_names.kp T.b_L_names .nil pass0 (pa_cons (pv 0) (pa_cons (pe_op op_add pe_int (pe_call (ok_L_draw T) (hr.mono (by decide)) (by rfl) T.g_L_draw T.F_L_draw.kp T.b_L_draw .nil pass0 (pa_cons (pv 0) (pa_cons pe_int pa_nil)))) pa_nil))) pa_nil))) (pss_cons (ps_set (i := 3) sc_L_parts.nd rfl (Or.inr rfl) (pe_call (ok_L_names T) (hr.mono (by decide)) (by rfl) T.g_L_names T.F_L_names.kp T.b_L_names .nil pass0 (pa_cons (pv 0) (pa_cons (pe_op op_add pe_int (pe_call (ok_L_draw T) (hr.mono (by decide)) (by rfl) T.g_L_draw T.F_L_draw.kp T.b_L_draw .nil pass0 (pa_cons (pv 0) (pa_cons pe_int pa_nil)))) pa_nil)))) (pss_cons (ps_set (i := 4) sc_L_parts.nd rfl (Or.inr rfl) (pe_call (ok_L_names T) (hr.mono (by decide)) (by rfl) T.g_L_names T.F_L_names.kp T.b_L_names .nil pass0 (pa_cons (pv 0) (pa_cons pe_int pa_nil)))) (pss_cons (ps_ifk (PW.pt (pw_and (pt_cmpR op_eq (pe_call (ok_L_draw T) (hr.mono (by decide)) (by rfl) T.g_L_draw T.F_L_draw.kp T.b_L_draw .nil pass0 (pa_cons (pv 0) (pa_cons pe_int pa_nil))) pe_int (nomark _)) (pw_and1 (pt_cmpR (op_notin_strsK (K := K) rfl) (pe_ix (ix_aK (K := K) rfl) (pv 2) pe_int (fun _ _ => rfl)) (pv 3) (by rfl))))) (pss_one (ps_asg (pe_ix (ix_aK (K := K) rfl) (pv 2) pe_int (fun _ _ => rfl)) (pg_sub (pv 3) pe_int set_list))) pss_nil) (pss_cons (ps_set (i := 5) sc_L_parts.nd rfl (Or.inl rfl) (pe_callTy (call_tupleK (K := K) rfl) (by rfl) T.tuple_ (by decide +kernel) (pa_cons (pe_lc (own := [("_law_name", 6)]) (g := gName 6) (tt := tYes) rfl sc_L_parts.nd (pi_listK (K := K) rfl (pv 3)) (blkOk_by (N := ["_law_box_here", "_law_size", "_law_words", "_law_names_here", "_law_notes", "_law_fields", "_law_name"]) (sc := defScope s_L_parts) (by decide +kernel)) (fun _ _ _ _ _ => pg_name (i := 6) sc_L_parts.nd rfl (Or.inl rfl)) (fun _ _ _ _ _ => pts_nil) (fun _ _ _ _ _ => (pe_tup (pa_cons (pv 6) (pa_cons (pe_call (ok_L_field T) (hr.mono (by decide)) (by rfl) T.g_L_field T.F_L_field.kp T.b_L_field .nil pass0 (pa_cons (pv 0) (pa_cons (pv 2) (pa_cons (pv 3) (pa_cons (pv 6) (pa_cons (pv 4) pa_nil)))))) pa_nil))))) pa_nil))) (pss_one (ps_ret (pe_tup (pa_cons (pv 2) (pa_cons (pv 5) (pa_cons (pv 1) pa_nil)))))))))))), ?_⟩
    show tSeq _ _ _ [_, none, none, none, none, none, none] _
    walk_at "gox_25"
    refine ⟨b, c, 3, rfl, by decide, by decide, hB, fun d1 H1 d10 d11 hx1 hB1 => ?_⟩
    have s1 : Same (hid H b) H1 := hid_but hid_same hx1
    walk_at "gox_25"
    refine ⟨b, c, 2, rfl, by decide, by decide, hB1, fun d2 H2 d20 d21 hx2 hB2 => ?_⟩
    have s2 : Same (hid H b) H2 := hid_but s1 hx2
    walk_at "gox_25"
    refine ⟨b, c, 2 + d2, rfl, by omega, by omega, hB2, fun H3 wl ws s3 hB3 n3 e3 NW => ?_⟩
    have sH3 := hid_hid s2 s3
    walk_at "gox_25"
    refine ⟨wl, _, rfl, .inl (.inl e3), fun wa ob nw hd hc => ?_⟩
    generalize hG : upd H3 wa _ = H4
    have s4 : Same H3 H4 := by rw [← hG]; exact same_new nw
    have hW4 : PTup H4 wa (ws.map V.str) := ⟨ob, by rw [← hG]; exact upd_same, hd, hc⟩
    have hB4 := hB3.mono s4
    walk_at "gox_25"
    refine ⟨b, c, 3, rfl, by decide, by decide, hB4, fun d5 H5 d50 d51 hx5 hB5 => ?_⟩
    have s5 : Same (hid H4 b) H5 := hid_but hid_same hx5
    walk_at "gox_25"
    refine ⟨b, c, 1 + d5, rfl, by omega, by omega, hB5, fun H6 nm names s6 hB6 n6 e6 NN => ?_⟩
    have sH6 : Same (hid H4 b) H6 := hid_hid s5 s6
    walk_at "gox_25"
    refine ⟨b, c, 2, rfl, by decide, by decide, hB6, fun H7 na notes s7 hB7 n7 e7 NO => ?_⟩
    have hnb : nm ≠ b := (hB5.nb n6).symm
    have hab : na ≠ b := (hB6.nb n7).symm
    have hnm7 := s7 _ _ (hid_some e6 hnb)
    have sH7 : Same (hid H4 b) H7 := hid_hid sH6 s7
    have hW7 := hB4.smP sH7 hW4
    have sHH : Same (hid H b) H7 := hid_hid (sH3.trans s4) sH7
    have w2 : 2 ≤ ws.length := by rw [NW.len]; omega
    have w3 : ws.length ≤ 3 := by rw [NW.len]; omega
    have nan : na ≠ nm := fun h => by rw [h, e6] at n7; cases n7
    walk_at "gox_25"
    refine if_cut (PartsP H b c wa nm na ws notes (1 + d5).toNat (1 + d1)) (fun σ' H8 hP => ?_) (fun J => ?_)
    · obtain ⟨names', NN', hnm8, hna8, hW8, sH8, hB8, rfl⟩ := hP
      have nl : names'.length ≤ 3 := by rw [NN'.len]; omega
      walk_at "gox_25"
      refine ⟨nm, rfl, ⟨_, .inl (.inl hnm8)⟩, fun D nD => lc_list (K := K) (a := nm) (xs := names'.map V.str) (fun i H' => Same (hid H8 b) H' ∧ BoxAt H' b c ∧ ∃ (vs : List V) (fs : List (Str × Fld)), H' D = some (.lst vs) ∧ vs.length = i ∧ fs.length = i ∧ fs.map (·.1) = names'.take i ∧ (∀ p ∈ fs, p.2.Ok ws names' p.1) ∧
        ∀ (j : Nat) (x : V) (p : Str × Fld), vs[j]? = some x → fs[j]? = some p → ∃ (q : Addr) (fv : V), x = .ref q ∧ SqT K H' q [.str p.1, fv] ∧ FldAt K H' fv p.2)
        ⟨hid_put hid_same nD, hB8.put hB8 nD, [], [], upd_same, rfl, rfl, rfl, fun p h => absurd h List.not_mem_nil, fun j x p h => by simp at h⟩ (fun i H' _ h => .inl (.inl (h.1 _ _ (hid_some hnm8 hnb)))) ?_ ?_⟩
      · rintro i x H' hi ⟨sm, hB9, vs, fs, hD, lv, lf, hfn, hok, hrow⟩
        obtain ⟨z, hz, rfl⟩ := str_at hi
        have hlt : i < names'.length := (List.getElem?_eq_some_iff.mp hz).1
        have Db : D ≠ b := (hB8.nb nD).symm
        walk_at "gox_25"
        refine ⟨b, c, wa, nm, na, ws, names', notes, z, rfl, hB9, hB8.smP sm hW8, sm _ _ (hid_some hnm8 hnb), hnb, sm _ _ (hid_some hna8 hab), hab, by omega, w3, nl, NO, fun H10 q10 f10 s10 hB10 n10 hfl hok10 => ?_⟩
        walk_at "gox_25"
        intro t nt
        have hD10 := s10 _ _ (hid_some hD Db)
        have tD : D ≠ t := ne_of_none hD10 nt
        have hD11 : upd H10 t (.tup [.str z, .ref q10]) D = some (.lst vs) := (upd_ne tD).trans hD10
        have sT : SmT K H' (upd (upd H10 t (.tup [.str z, .ref q10])) D (.lst (vs ++ [.ref t]))) := fun a xs h => smT_upd hD11 _ _ (same_smT (same_new nt) _ _ (hB9.smT s10 _ _ h))
        have sT2 : SmT K H10 (upd (upd H10 t (.tup [.str z, .ref q10])) D (.lst (vs ++ [.ref t]))) := fun a xs h => smT_upd hD11 _ _ (same_smT (same_new nt) _ _ h)
        refine ⟨_, hD11, by rw [lv]; exact small63 (by omega), hid_put (fun x u e => (same_new nt) x u ((hid_hid sm s10) x u e)) nD, (hB10.mono (same_new nt)).put hB8 nD, _, fs ++ [(z, f10)], upd_same, by rw [List.length_append, lv]; rfl, by rw [List.length_append, lf]; rfl, by rw [List.map_append, hfn, take_at hz]; rfl, ?_, ?_⟩
        · intro p hp
          rcases List.mem_append.mp hp with h | h
          · exact hok p h
          · rw [List.mem_singleton.mp h]; exact hok10
        · intro j x p hx hp
          by_cases hj : j < i
          · rw [List.getElem?_append_left (by rw [lv]; exact hj)] at hx
            rw [List.getElem?_append_left (by rw [lf]; exact hj)] at hp
            obtain ⟨q, fv, e, h1, h2⟩ := hrow j x p hx hp
            exact ⟨q, fv, e, sT _ _ h1, h2.mt sT⟩
          · have hji : j = i := by
              have := (List.getElem?_eq_some_iff.mp hx).1
              rw [List.length_append, lv] at this
              have : j < i + 1 := this
              omega
            rw [List.getElem?_append_right (by rw [lv]; omega), lv, hji, Nat.sub_self] at hx
            rw [List.getElem?_append_right (by rw [lf]; omega), lf, hji, Nat.sub_self] at hp
            cases hx
            cases hp
            exact ⟨t, .ref q10, rfl, .inl (.inl ((upd_ne tD.symm).trans upd_same)), hfl.mt sT2⟩
      · rintro H9 ⟨sm, hB9, vs, fs, hD, lv, lf, hfn, hok, hrow⟩
        rw [List.length_map] at lv lf hfn
        rw [List.take_length] at hfn
        have hW9 := hB8.smP sm hW8
        walk_at "gox_25"
        refine ⟨D, _, rfl, .inl (.inl hD), fun fa nf => ?_⟩
        walk_at "gox_25"
        intro t nt
        have sH9 := hid_hid sH8 sm
        have st : Same H9 (upd (upd H9 fa (.tup vs)) t (.tup [.ref wa, .ref fa, .int (1 + d1)])) := (same_new nf).trans (same_new nt)
        have ft := (same_new (o := .tup vs) nf).free nt
        refine q _ t wa fa ⟨ws, fs, 1 + d1⟩ ⟨w2, w3, NW.nd, NW.nm, ?_, ?_, ?_, ?_, ?_, by show 1 ≤ 1 + d1; omega, by show 1 + d1 ≤ 3; omega⟩ (fun x u e => st x u (sH9 x u e)) (hB9.mono st) (hid_free sH9 ft (hB9.nb ft).symm) (hW9.mono st) ⟨vs, same_sqT (same_new nt) (.inl (.inl upd_same)), by rw [lv, lf], fun j x p h1 h2 => ?_⟩ upd_same
        · show 1 ≤ fs.length
          rw [lf, NN'.len]; omega
        · show fs.length ≤ 3
          rw [lf]; exact nl
        · show (fs.map (·.1)).Nodup
          rw [hfn]; exact NN'.nd
        · show ∀ z ∈ fs.map (·.1), nameB z = true
          rw [hfn]; exact NN'.nm
        · show ∀ p ∈ fs, p.2.Ok ws (fs.map (·.1)) p.1
          rw [hfn]; exact hok
        · obtain ⟨q, fv, e, h1, h2⟩ := hrow j x p h1 h2
          exact ⟨q, fv, e, same_sqT st h1, h2.mono st⟩
    · have hWs7 := hW7.sq (K := K)
      have hN7 : SqL K H7 nm (names.map V.str) := .inl (.inl hnm7)
      walk_at "gox_25"
      refine ⟨b, c, 4, rfl, by decide, by decide, hB7, fun d8 H8 d80 d81 hx8 hB8 => ?_⟩
      have s8 : Same (hid H7 b) H8 := hid_but hid_same hx8
      have hnm8 := s8 _ _ (hid_some hnm7 hnb)
      have hna8 := s8 _ _ (hid_some e7 hab)
      have hW8 := hB7.smP s8 hW7
      have hWs8 := hW8.sq (K := K)
      have hN8 : SqL K H8 nm (names.map V.str) := .inl (.inl hnm8)
      have sH8 := hid_hid sHH s8
      have hw0 : ws[0]? = some ws[0] := List.getElem?_eq_getElem (by omega)
      walk_at "gox_25"
      first | refine Wn.ifd_int (fun e => ?_) (fun e => ?_) | refine Wn.ifd (fun e => ?_) (fun e => ?_)
      · walk_at "gox_25"
        refine r_ixa (.inr hWs8) (show atI (ws.map V.str) ((0 : Nat) : Int) = some (.str ws[0]) from atI_nat (by rw [List.getElem?_map, hw0]; rfl)) ?_
        walk_at "gox_25"
        by_cases e2 : ws[0] ∈ names
        · refine ite_f (nd_f e2) ?_
          walk_at "gox_25"
          exact J _ _ ⟨names, NN, hnm8, hna8, hW8, sH8, hB8, rfl⟩
        · refine ite_t (nd_t e2) ?_
          walk_at "gox_25"
          refine r_ixa (.inr hWs8) (show atI (ws.map V.str) ((0 : Nat) : Int) = some (.str ws[0]) from atI_nat (by rw [List.getElem?_map, hw0]; rfl)) ?_
          walk_at "gox_25"
          have hn4 : H4 nm = none := hid_free s5 n6 hnb
          have hnH : H nm = none := hid_free (sH3.trans s4) hn4 hnb
          refine ⟨nm, _, 0, 0, rfl, rfl, hnm8, ?_, ?_⟩
          · rw [List.length_map, NN.len]
            obtain ⟨k, hk⟩ : ∃ k, (1 + d5).toNat = k + 1 := ⟨d5.toNat, by omega⟩
            rw [hk]
            simp [ixN]
          · refine J _ _ ⟨names.set 0 ws[0], nms_set NN (NW.nm _ (List.getElem_mem (by omega))) e2, ?_, (upd_ne nan).trans hna8, ?_, hid_put sH8 hnH, hB8.put hB5 n6, rfl⟩
            · rw [upd_same, List.map_set]
            · obtain ⟨o, eo, r⟩ := hW8
              exact ⟨o, (upd_ne (ne_of eo hnm8 (by intro z; cases z))).trans eo, r⟩
      · walk_at "gox_25"
        exact J _ _ ⟨names, NN, hnm8, hna8, hW8, sH8, hB8, rfl⟩
end
end Wn


namespace Wn
open PySem PySem.Spec PyProof.Rows L2
def entD : Option Str → PyData
  | none => .none
  | some z => .str z
theorem ent_dp {K : PySem.W.Frag} {H : Hp} : ∀ o : Option Str, Dp K H (entV o) (entD o)
  | none => .non
  | some z => .str z
theorem ents_dp {K : PySem.W.Frag} {H : Hp} : ∀ l : List (Option Str), DpAll K H (l.map entV) (l.map entD)
  | [] => .nil
  | o :: l => .cons (ent_dp o) (ents_dp l)
theorem ent_depth (o : Option Str) : (entD o).depth = 0 := by cases o <;> rfl
theorem ents_depth : ∀ l : List (Option Str), PyData.depthAll (l.map entD) = 0
  | [] => rfl
  | o :: l => by
    show max (entD o).depth (PyData.depthAll (l.map entD)) = 0
    rw [ents_depth l, ent_depth]
    rfl
theorem ents_dsz : ∀ l : List (Option Str), dszAll (l.map entD) = true
  | [] => rfl
  | o :: l => by
    show (dsz (entD o) && dszAll (l.map entD)) = true
    rw [ents_dsz l]
    cases o <;> rfl
/-- two tuples of the same entries are the same -/
theorem same_ents {K : PySem.W.Frag} {H : Hp} {Q : VK} {E : XK} {p q : Addr} {l : List (Option Str)} (h1 : SqT K H p (l.map entV)) (h2 : SqT K H q (l.map entV)) (hl : l.length ≤ 100000) (k : ∀ H', Same H H' → Q (.bl true) H') : spSame K 8 [.ref p, .ref q] H Q E := by
  refine ⟨.ref p, .ref q, .tuple (l.map entD), rfl, .tup h1 (ents_dp l), .tup h2 (ents_dp l), ?_, ?_, k⟩
  · show PyData.depthAll (l.map entD) + 1 < 8
    rw [ents_depth]
    decide
  · show (decide ((l.map entD).length ≤ 100000) && dszAll (l.map entD)) = true
    rw [ents_dsz, List.length_map, decide_eq_true hl]
    rfl
/-! ### the data of a form -/
theorem dpAll_of {K : PySem.W.Frag} {H : Hp} : ∀ {vs : List V} {ds : List PyData}, vs.length = ds.length → (∀ (i : Nat) (x : V) (d : PyData), vs[i]? = some x → ds[i]? = some d → Dp K H x d) → DpAll K H vs ds
  | [], [], _, _ => .nil
  | x :: vs, d :: ds, hl, h => .cons (h 0 x d rfl rfl) (dpAll_of (by simpa using hl) fun i x d h1 h2 => h (i + 1) x d (by simpa using h1) (by simpa using h2))
theorem strs_dp {K : PySem.W.Frag} {H : Hp} : ∀ zs : List Str, DpAll K H (zs.map V.str) (zs.map PyData.str)
  | [] => .nil
  | z :: zs => .cons (.str z) (strs_dp zs)
def wordsD (ws : List Str) : PyData := .tuple (ws.map PyData.str)
def rowD (r : List (Option Str)) : PyData := .tuple (r.map entD)
def nearD (f : Fld) : PyData := match f.looks with
  | none => rowD f.nearA
  | some _ => .tuple (f.nearL.map rowD)
def farD (f : Fld) : PyData := match f.far with
  | none => .none
  | some r => rowD r
def fldD (f : Fld) : PyData := .tuple [.str f.first, entD f.looks, nearD f, farD f]
def pairD (p : Str × Fld) : PyData := .tuple [.str p.1, fldD p.2]
def fieldsD (fs : List (Str × Fld)) : PyData := .tuple (fs.map pairD)
section
variable {K : PySem.W.Frag} {H : Hp}
theorem words_dp {a : Addr} {ws : List Str} (h : SqT K H a (ws.map V.str)) : Dp K H (.ref a) (wordsD ws) := .tup h (strs_dp ws)
theorem row_dp {v : V} {r : List (Option Str)} (h : RowAt K H v r) : Dp K H v (rowD r) := by
  obtain ⟨a, rfl, t⟩ := h
  exact .tup t (ents_dp r)
theorem near_dp {v : V} {f : Fld} (h : NearAt K H v f) : Dp K H v (nearD f) := by
  unfold NearAt at h
  unfold nearD
  cases e : f.looks with
  | none => rw [e] at h; exact row_dp h
  | some l =>
    rw [e] at h
    obtain ⟨a, vs, rfl, t, hl, hr⟩ := h
    refine .tup t (dpAll_of (by rw [List.length_map, hl]) fun i x d h1 h2 => ?_)
    rw [List.getElem?_map] at h2
    cases e2 : f.nearL[i]? with
    | none => rw [e2] at h2; cases h2
    | some r =>
      rw [e2] at h2
      cases h2
      exact row_dp (hr i x r h1 e2)
theorem far_dp {v : V} {f : Fld} (h : FarAt K H v f) : Dp K H v (farD f) := by
  unfold FarAt at h
  unfold farD
  cases e : f.far with
  | none => rw [e] at h; subst h; exact .non
  | some r => rw [e] at h; exact row_dp h
theorem fld_dp {v : V} {f : Fld} (h : FldAt K H v f) : Dp K H v (fldD f) := by
  obtain ⟨a, nv, fv, rfl, t, hn, hf⟩ := h
  exact .tup t (.cons (.str _) (.cons (ent_dp _) (.cons (near_dp hn) (.cons (far_dp hf) .nil))))
theorem fields_dp {a : Addr} {fs : List (Str × Fld)} (h : FieldsAt K H a fs) : Dp K H (.ref a) (fieldsD fs) := by
  obtain ⟨vs, t, hl, hx⟩ := h.ex
  refine .tup t (dpAll_of (by rw [List.length_map, hl]) fun i x d h1 h2 => ?_)
  rw [List.getElem?_map] at h2
  cases e2 : fs[i]? with
  | none => rw [e2] at h2; cases h2
  | some p =>
    rw [e2] at h2
    cases h2
    obtain ⟨q, fv, rfl, t2, hf⟩ := hx i x p h1 e2
    exact .tup t2 (.cons (.str _) (.cons (fld_dp hf) .nil))
end
/-! depth and size -/
theorem depthAll_le {n : Nat} : ∀ {ds : List PyData}, (∀ d ∈ ds, d.depth ≤ n) → PyData.depthAll ds ≤ n
  | [], _ => Nat.zero_le _
  | d :: ds, h => Nat.max_le.mpr ⟨h d (List.mem_cons_self), depthAll_le fun e he => h e (List.mem_cons_of_mem _ he)⟩
theorem dszAll_of : ∀ {ds : List PyData}, (∀ d ∈ ds, dsz d = true) → dszAll ds = true
  | [], _ => rfl
  | d :: ds, h => by
    show (dsz d && dszAll ds) = true
    rw [h d (List.mem_cons_self), dszAll_of fun e he => h e (List.mem_cons_of_mem _ he)]
    rfl
theorem tup_dsz {ds : List PyData} (hl : ds.length ≤ 100000) (h : dszAll ds = true) : dsz (.tuple ds) = true := by
  show (decide (ds.length ≤ 100000) && dszAll ds) = true
  rw [decide_eq_true hl, h]
  rfl
theorem tup_depth {n : Nat} {ds : List PyData} (h : PyData.depthAll ds ≤ n) : (PyData.tuple ds).depth ≤ n + 1 := Nat.succ_le_succ h
theorem words_dsz {ws : List Str} (h : ws.length ≤ 3) : dsz (wordsD ws) = true := tup_dsz (by rw [List.length_map]; omega) (dszAll_of fun d hd => by
  obtain ⟨z, _, rfl⟩ := List.mem_map.mp hd
  rfl)
theorem words_depth (ws : List Str) : (wordsD ws).depth ≤ 1 := tup_depth (depthAll_le fun d hd => by
  obtain ⟨z, _, rfl⟩ := List.mem_map.mp hd
  exact Nat.le_refl _)
theorem row_dsz {r : List (Option Str)} (h : r.length ≤ 3) : dsz (rowD r) = true := tup_dsz (by rw [List.length_map]; omega) (ents_dsz r)
theorem row_depth (r : List (Option Str)) : (rowD r).depth ≤ 1 := tup_depth (by rw [ents_depth]; exact Nat.le_refl _)
theorem near_dsz {f : Fld} {ws names : List Str} {name : Str} (ok : f.Ok ws names name) (w : ws.length ≤ 3) : dsz (nearD f) = true := by
  unfold nearD
  cases e : f.looks with
  | none => exact row_dsz (by rw [(ok.alone e).1]; exact w)
  | some l =>
    obtain ⟨h1, h2⟩ := ok.pairs l e
    refine tup_dsz (by rw [List.length_map, h1]; omega) (dszAll_of fun d hd => ?_)
    obtain ⟨r, hr, rfl⟩ := List.mem_map.mp hd
    exact row_dsz (by rw [(h2 r hr).1]; exact w)
theorem near_depth (f : Fld) : (nearD f).depth ≤ 2 := by
  unfold nearD
  cases e : f.looks with
  | none => exact Nat.le_succ_of_le (row_depth _)
  | some l =>
    refine tup_depth (depthAll_le fun d hd => ?_)
    obtain ⟨r, hr, rfl⟩ := List.mem_map.mp hd
    exact row_depth r
theorem far_dsz {f : Fld} {ws names : List Str} {name : Str} (ok : f.Ok ws names name) (w : ws.length ≤ 3) : dsz (farD f) = true := by
  unfold farD
  cases e : f.far with
  | none => rfl
  | some r => exact row_dsz (by rw [(ok.far r e).1]; exact w)
theorem far_depth (f : Fld) : (farD f).depth ≤ 1 := by
  unfold farD
  cases e : f.far with
  | none => exact Nat.zero_le _
  | some r => exact row_depth r
theorem fld_dsz {f : Fld} {ws names : List Str} {name : Str} (ok : f.Ok ws names name) (w : ws.length ≤ 3) : dsz (fldD f) = true := by
  refine tup_dsz (by show 4 ≤ 100000; decide) (dszAll_of fun d hd => ?_)
  simp only [List.mem_cons, List.not_mem_nil, or_false] at hd
  rcases hd with rfl | rfl | rfl | rfl
  · rfl
  · cases f.looks <;> rfl
  · exact near_dsz ok w
  · exact far_dsz ok w
theorem fld_depth (f : Fld) : (fldD f).depth ≤ 3 := by
  refine tup_depth (depthAll_le fun d hd => ?_)
  simp only [List.mem_cons, List.not_mem_nil, or_false] at hd
  rcases hd with rfl | rfl | rfl | rfl
  · exact Nat.zero_le _
  · rw [ent_depth]; exact Nat.zero_le _
  · exact near_depth f
  · exact Nat.le_succ_of_le (far_depth f)
theorem fields_dsz {fs : List (Str × Fld)} {ws names : List Str} (h : fs.length ≤ 3) (ok : ∀ p ∈ fs, p.2.Ok ws names p.1) (w : ws.length ≤ 3) : dsz (fieldsD fs) = true := by
  refine tup_dsz (by rw [List.length_map]; omega) (dszAll_of fun d hd => ?_)
  obtain ⟨p, hp, rfl⟩ := List.mem_map.mp hd
  refine tup_dsz (by show 2 ≤ 100000; decide) (dszAll_of fun d hd => ?_)
  simp only [List.mem_cons, List.not_mem_nil, or_false] at hd
  rcases hd with rfl | rfl
  · rfl
  · exact fld_dsz (ok p hp) w
theorem fields_depth (fs : List (Str × Fld)) : (fieldsD fs).depth ≤ 5 := by
  refine tup_depth (depthAll_le fun d hd => ?_)
  obtain ⟨p, hp, rfl⟩ := List.mem_map.mp hd
  refine tup_depth (n := 3) (depthAll_le fun d hd => ?_)
  simp only [List.mem_cons, List.not_mem_nil, or_false] at hd
  rcases hd with rfl | rfl
  · exact Nat.zero_le _
  · exact fld_depth p.2
end Wn


namespace Wn
open PySem PySem.Spec PyProof.Rows L2
/-! ### when two forms are the same -/
theorem name_ok {z : Str} (h : nameB z = true) : PyData.strOk z = true := by
  have h2 := nameB_low h
  unfold lowB at h2
  unfold PyData.strOk
  rw [List.all_eq_true] at h2
  rw [Array.all_eq_true]
  intro i hi
  have h3 := h2 z.cps[i] (by rw [Array.mem_toList_iff]; exact Array.getElem_mem hi)
  simp only [Bool.and_eq_true, decide_eq_true_eq] at h3
  simp only [decide_eq_true_eq]
  omega
theorem layAll_of : ∀ {ds : List PyData}, (∀ d ∈ ds, PyData.canLay0 d = true) → PyData.canLayAll0 ds = true
  | [], _ => rfl
  | d :: ds, h => by
    show (PyData.canLay0 d && PyData.canLayAll0 ds) = true
    rw [h d (List.mem_cons_self), layAll_of fun e he => h e (List.mem_cons_of_mem _ he)]
    rfl
theorem words_lay {ws : List Str} (h : ∀ z ∈ ws, nameB z = true) : PyData.canLay0 (wordsD ws) = true := layAll_of fun d hd => by
  obtain ⟨z, hz, rfl⟩ := List.mem_map.mp hd
  exact name_ok (h z hz)
theorem row_lay {r : List (Option Str)} (h : rowOk r) : PyData.canLay0 (rowD r) = true := layAll_of fun d hd => by
  obtain ⟨o, ho, rfl⟩ := List.mem_map.mp hd
  cases o with
  | none => rfl
  | some z => exact name_ok (h z ho)
theorem near_lay {f : Fld} {ws names : List Str} {name : Str} (ok : f.Ok ws names name) : PyData.canLay0 (nearD f) = true := by
  unfold nearD
  cases e : f.looks with
  | none => exact row_lay (ok.alone e).2
  | some l =>
    refine layAll_of fun d hd => ?_
    obtain ⟨r, hr, rfl⟩ := List.mem_map.mp hd
    exact row_lay ((ok.pairs l e).2 r hr).2
theorem far_lay {f : Fld} {ws names : List Str} {name : Str} (ok : f.Ok ws names name) : PyData.canLay0 (farD f) = true := by
  unfold farD
  cases e : f.far with
  | none => rfl
  | some r => exact row_lay (ok.far r e).2
theorem fld_lay {f : Fld} {ws names : List Str} {name : Str} (ok : f.Ok ws names name) (hw : ∀ z ∈ ws, nameB z = true) (hn : ∀ z ∈ names, nameB z = true) : PyData.canLay0 (fldD f) = true := by
  refine layAll_of fun d hd => ?_
  simp only [List.mem_cons, List.not_mem_nil, or_false] at hd
  rcases hd with rfl | rfl | rfl | rfl
  · exact name_ok (hw _ ok.first)
  · cases e : f.looks with
    | none => rfl
    | some l => exact name_ok (hn _ (ok.looks l e).2)
  · exact near_lay ok
  · exact far_lay ok
theorem fields_lay {F : Parts} (ok : F.Ok) : PyData.canLay0 (fieldsD F.fs) = true := by
  refine layAll_of fun d hd => ?_
  obtain ⟨p, hp, rfl⟩ := List.mem_map.mp hd
  refine layAll_of fun d hd => ?_
  simp only [List.mem_cons, List.not_mem_nil, or_false] at hd
  rcases hd with rfl | rfl
  · exact name_ok (ok.fk _ (List.mem_map.mpr ⟨p, hp, rfl⟩))
  · exact fld_lay (ok.fld p hp) ok.wk ok.fk
theorem shaped_of {d : PyData} {n : Nat} (h : PyData.canLay0 d = true) (hd : d.depth ≤ n) (hn : n ≤ 64) : SeqAt.shaped d = true := by
  unfold SeqAt.shaped
  rw [h, decide_eq_true (Nat.le_trans hd hn)]
  rfl
def Parts.same (F G : Parts) : Bool := PyData.eqv (wordsD F.ws) (wordsD G.ws) && (PyData.eqv (fieldsD F.fs) (fieldsD G.fs) && decide (F.room = G.room))
theorem same_refl {F : Parts} (ok : F.Ok) : F.same F = true := by
  unfold Parts.same
  rw [SeqAt.eqv_refl _ (words_lay ok.wk), SeqAt.eqv_refl _ (fields_lay ok), decide_eq_true rfl]
  rfl
theorem same_comm (F G : Parts) : F.same G = G.same F := by
  unfold Parts.same
  rw [PySem.W.eqv_comm (wordsD F.ws), PySem.W.eqv_comm (fieldsD F.fs)]
  congr 2
  exact decide_eq_decide.mpr ⟨Eq.symm, Eq.symm⟩
theorem eqvAll_at : ∀ {xs ys : List PyData} {i : Nat} {x y : PyData}, PyData.eqvAll xs ys = true → xs[i]? = some x → ys[i]? = some y → PyData.eqv x y = true
  | [], _, _, _, _, _, h, _ => by simp at h
  | _ :: _, [], _, _, _, _, _, h => by simp at h
  | a :: xs, b :: ys, 0, x, y, h, h1, h2 => by
    rw [PyData.eqvAll] at h
    cases h1
    cases h2
    exact (Bool.and_eq_true_iff.mp h).1
  | a :: xs, b :: ys, i + 1, x, y, h, h1, h2 => by
    rw [PyData.eqvAll] at h
    exact eqvAll_at (i := i) (Bool.and_eq_true_iff.mp h).2 (by simpa using h1) (by simpa using h2)
theorem eqv_tup {xs ys : List PyData} {i : Nat} {x y : PyData} (h1 : xs[i]? = some x) (h2 : ys[i]? = some y) (h : PyData.eqv x y = false) : PyData.eqv (.tuple xs) (.tuple ys) = false := by
  cases e : PyData.eqv (.tuple xs) (.tuple ys) with
  | false => rfl
  | true =>
    have e2 : PyData.eqvAll xs ys = true := by rw [PyData.eqv] at e; exact e
    rw [eqvAll_at e2 h1 h2] at h
    cases h
theorem eqv_str {a b : Str} (h : a ≠ b) : PyData.eqv (.str a) (.str b) = false := by
  rw [PyData.eqv]
  exact beq_false_of_ne h
end Wn


namespace Wn
open PySem PySem.Spec PyProof.Rows L2

local macro_rules | `(tactic| walk_at "gox1_28") => `(tactic| (first
  | walk_at "go1"
  | (with_reducible apply Wn.r_bm)
  | ((with_reducible apply Wn.r_tyl); (focus (walk_at "lk"; done)))
  | ((with_reducible apply Wn.r_ext); (focus (walk_at "lk"; done)); (focus (walk_at "lk"; done)); (focus ((with_unfolding_all first | (simp only [List.length_cons, List.length_nil, List.length_append]; decide) | fail); done)))
  | ((with_reducible apply Wn.r_cat); (focus (walk_at "lk"; done)); (focus (walk_at "lk"; done)); (focus ((with_unfolding_all first | (simp only [List.length_cons, List.length_nil, List.length_append]; decide) | fail); done)))
  | ((with_reducible apply Wn.r_fw); (focus ((with_unfolding_all first | exact rfl | fail); done)); (focus ((first | assumption | exact Wn.FormAt.s (by assumption) | fail); done)))
  | ((with_reducible apply Wn.r_ff); (focus ((with_unfolding_all first | exact rfl | fail); done)); (focus ((first | assumption | exact Wn.FormAt.s (by assumption) | fail); done)))
  | ((with_reducible apply Wn.r_fr); (focus ((with_unfolding_all first | exact rfl | fail); done)); (focus ((first | assumption | exact Wn.FormAt.s (by assumption) | fail); done)))
  | ((with_reducible apply Wn.r_fm); (focus ((first | assumption | exact Wn.FormAt.s (by assumption) | fail); done)); (focus ((decide +kernel); done)); (focus ((decide +kernel); done)); (focus ((decide +kernel); done)))
  | ((with_reducible apply Wn.r_inF); (focus ((first | exact Or.inl (by assumption) | exact Or.inr (by assumption) | fail); done)))
  | ((with_reducible apply Wn.r_inT); (focus ((first | exact Or.inl (by assumption) | exact Or.inr (by assumption) | fail); done)))
  | (with_reducible apply Wn.r_chain)
  | (with_reducible apply Wn.r_bt)
  | (with_reducible apply Wn.r_fld)
  | (with_reducible apply Wn.r_meth)
  | ((with_reducible apply Wn.r_pt); (focus ((first | assumption | fail); done)))
  | ((with_reducible apply Wn.r_ti); (focus ((first | assumption | exact Wn.PTup.sq (by assumption) | fail); done)); (focus ((first | assumption | fail); done)))
  | ((with_reducible apply Wn.r_tupT); (focus ((assumption); done)))
  | ((with_reducible apply Wn.r_gtup); (focus ((first | assumption | fail); done)); (focus ((with_unfolding_all first | exact rfl | fail); done)))
  | (with_reducible apply Wn.r_gcons)
  | (with_reducible apply Wn.r_gnil)
  | (with_reducible apply Wn.r_for)
  | ((with_reducible apply Wn.r_ixa); (focus ((first | exact Or.inl (L2.SqL.of (by walk_at "lk")) | exact Or.inr (L2.SqT.of (by walk_at "lk")) | exact Or.inr (by assumption) | exact Or.inl (by assumption) | fail); done)); (focus ((with_unfolding_all first | exact rfl | fail); done)))
  | (with_reducible apply Wn.r_lc)
  | (with_reducible apply Wn.r_rng1)
  | (with_reducible apply Wn.r_ilist)
  | (with_reducible apply Wn.r_itup)
  | (with_reducible apply Wn.r_istr)
  | (with_reducible apply Wn.r_tsl)
  | (with_reducible apply Wn.r_nopart)
  | (with_reducible apply Wn.r_part)
  | (with_reducible apply Wn.r_exint)))
local macro_rules | `(tactic| walk_at "gox_28") => `(tactic| repeat (walk_at "gox1_28"))
def spEq {K : PySem.W.Frag} {mg : Str → Option Value} (T : Txt K mg) : Sp := fun vs H Q _ => ∃ (a b wa fa : Addr) (F : Parts) (wb fb : Addr) (G : Parts), vs = [.ref a, .ref b] ∧ FormS T H a wa fa F ∧ FormS T H b wb fb G ∧ Q (.bl (F.same G)) H
def Parts.readers (F : Parts) (name : Str) : List Str := (F.fs.filter fun p => decide (p.2.looks = some name)).map (·.1)
def spReaders {K : PySem.W.Frag} {mg : Str → Option Value} (T : Txt K mg) : Sp := fun vs H Q _ => ∃ (p wa fa : Addr) (F : Parts) (name : Str), vs = [.ref p, .str name] ∧ FormS T H p wa fa F ∧ name ∈ F.fs.map (·.1) ∧
  ∀ H' q, Same H H' → H q = none → H' q = some (.tup ((F.readers name).map V.str)) → Q (.ref q) H'
section
variable {P : Program} {w : World} {K : PySem.W.Frag} {mg : Str → Option Value} {base : Heap}
theorem ok_Form_eq (T : Txt K mg) : FnOk P w K mg base CX0 1 T.f_Form_eq T.d_Form_eq ["self", "other"] (spEq T) := by
  refine T.F_Form_eq.ok sc_Form_eq (fun vs H Q E h => ?_) (fun cdv A outer s H vs Q E hr h => ?_)
  · obtain ⟨a, b, wa, fa, F, wb, fb, G, rfl, _⟩ := h
    rfl
  · obtain ⟨a, b, wa, fa, F, wb, fb, G, rfl, hA, hB, q⟩ := h
    obtain ⟨db, eb⟩ := hB.ob
    have okA := hA.ok
    have okB := hB.ok
    refine ⟨_, (pss_one (ps_ret (pe_and (pe_callB (call_isiK' (K := K) rfl) (by rfl) T.isinstance boot_isinstance (pa_cons (pv 1) (pa_cons (pe_globR (by rfl) T.g_Form) pa_nil))) (pe_and (pe_cmpR (op_eqDK (K := K) rfl hr.units) (pe_fldK (K := K) rfl (pv 0) rfl) (pe_fldK (K := K) rfl (pv 1) rfl) (nomark _)) (pe_and (pe_cmpR (op_eqDK (K := K) rfl hr.units) (pe_fldK (K := K) rfl (pv 0) rfl) (pe_fldK (K := K) rfl (pv 1) rfl) (nomark _)) (pe_one (pe_cmpR op_eq (pe_fldK (K := K) rfl (pv 0) rfl) (pe_fldK (K := K) rfl (pv 1) rfl) (nomark _)))))))), ?_⟩
    show tRet _ _ [_, _] _
    walk_at "gox_28"
    refine ⟨_, _, _, _, true, rfl, .own _, .base (.ins eb T.cl T.si.ca T.si.cn T.si.ct T.si.cm), T.kf, ?_⟩
    walk_at "gox_28"
    refine ⟨_, _, words_dp hA.w, words_dp hB.w, shaped_of (words_lay okA.wk) (words_depth _) (by decide), shaped_of (words_lay okB.wk) (words_depth _) (by decide), ?_⟩
    unfold Parts.same at q
    refine ⟨_, rfl, ?_⟩
    cases e1 : PyData.eqv (wordsD F.ws) (wordsD G.ws) with
    | false =>
      rw [e1] at q
      exact q
    | true =>
      rw [e1] at q
      walk_at "gox_28"
      refine ⟨_, _, fields_dp hA.f, fields_dp hB.f, shaped_of (fields_lay okA) (fields_depth _) (by decide), shaped_of (fields_lay okB) (fields_depth _) (by decide), ?_⟩
      refine ⟨_, rfl, ?_⟩
      cases e2 : PyData.eqv (fieldsD F.fs) (fieldsD G.fs) with
      | false =>
        rw [e2] at q
        exact q
      | true =>
        rw [e2] at q
        walk_at "gox_28"
        have e3 : decide (V.int F.room = V.int G.room) = decide (F.room = G.room) := decide_eq_decide.mpr ⟨V.int.inj, congrArg V.int⟩
        rw [e3]
        exact q
theorem ok_Form_readers (T : Txt K mg) : FnOk P w K mg base CX0 4 T.f_Form_readers T.d_Form_readers ["self", "name"] (spReaders T) := by
  refine T.F_Form_readers.ok sc_Form_readers (fun vs H Q E h => ?_) (fun cdv A outer s H vs Q E hr h => ?_)
  · obtain ⟨p, wa, fa, F, name, rfl, _⟩ := h
    rfl
  · obtain ⟨p, wa, fa, F, name, rfl, hP, hn, q⟩ := h
    have f3 := hP.ok.f3
    refine ⟨_, (pss_cons (ps_if (pt_cmpR (op_notin_strsK (K := K) rfl) (pv 1) (pe_meth0 (pv 0) T.cl T.m_Form_field_names (ok_Form_field_names T) (hr.mono (by decide)) T.b_Form_field_names .nil pass0) (by rfl)) (pss_one ps_never) pss_nil) (pss_one (ps_ret (pe_callTy (call_tupleK (K := K) rfl) (by rfl) T.tuple_ (by decide +kernel) (pa_cons (pe_lc (own := [("own", 2), ("first", 3), ("looks", 4), ("near", 5), ("far", 6)])   rfl sc_Form_readers.nd (pi_tupK (K := K) rfl (pe_fldK (K := K) rfl (pv 0) rfl)) (blkOk_by (N := ["self", "name", "own", "first", "looks", "near", "far"]) (sc := defScope s_Form_readers) (by decide +kernel)) (fun _ _ _ _ _ => pg_tupK (K := K) (n := 2) rfl rfl (pgs_cons (pg_name (i := 2) sc_Form_readers.nd rfl (Or.inl rfl)) (pgs_cons (pg_tupK (K := K) (n := 4) rfl rfl (pgs_cons (pg_name (i := 3) sc_Form_readers.nd rfl (Or.inl rfl)) (pgs_cons (pg_name (i := 4) sc_Form_readers.nd rfl (Or.inl rfl)) (pgs_cons (pg_name (i := 5) sc_Form_readers.nd rfl (Or.inl rfl)) (pgs_cons (pg_name (i := 6) sc_Form_readers.nd rfl (Or.inl rfl)) pgs_nil))))) pgs_nil))) (fun _ _ _ _ _ => (pts_one (pt_cmpR op_eq (pv 4) (pv 1) (nomark _)))) (fun _ _ _ _ _ => (pv 2))) pa_nil))))), ?_⟩
    show tSeq _ _ _ [_, _, none, none, none, none, none] _
    walk_at "gox_28"
    refine ⟨p, wa, fa, F, rfl, hP, fun H1 na s1 n1 en => ?_⟩
    have hS1 := en.sq (K := K)
    have hP1 := hP.mono s1
    walk_at "gox_28"
    refine ite_f (nd_f hn) ?_
    walk_at "gox_28"
    obtain ⟨vs, hS, hvl, hx⟩ := hP1.f.ex
    refine ⟨fa, rfl, ⟨_, hS⟩, fun D nD => lc_tup (K := K) (a := fa) (xs := vs) (fun i H' => Same H1 H' ∧ H' D = some (.lst ((((F.fs.take i).filter fun p => decide (p.2.looks = some name)).map (·.1)).map V.str))) ⟨same_new nD, upd_same⟩ (fun i H' _ h => same_sqT h.1 hS) ?_ ?_⟩
    · rintro i x H' hi ⟨sm, hD⟩
      have hlt : i < F.fs.length := by rw [← hvl]; exact (List.getElem?_eq_some_iff.mp hi).1
      have ef : F.fs[i]? = some F.fs[i] := List.getElem?_eq_getElem hlt
      obtain ⟨pp, fv, rfl, hp2, fa4, nv, rv, rfl, hF4, hnear, hfar⟩ := hx i x _ hi ef
      have hp3 := same_sqT sm hp2
      have hF5 := same_sqT sm hF4
      have hl : ((F.fs.take i).filter fun p => decide (p.2.looks = some name)).length ≤ i := Nat.le_trans (List.length_filter_le _ _) (by rw [List.length_take]; exact Nat.min_le_left _ _)
      have step : ((F.fs.take (i + 1)).filter fun p => decide (p.2.looks = some name)) = ((F.fs.take i).filter fun p => decide (p.2.looks = some name)) ++ (if decide (F.fs[i].2.looks = some name) = true then [F.fs[i]] else []) := by
        rw [take_at ef, List.filter_append]
        congr 1
        simp only [List.filter_cons, List.filter_nil]
      walk_at "gox_28"
      cases el : F.fs[i].2.looks with
      | none =>
        rw [el, if_neg (by simp), List.append_nil] at step
        walk_at "gox_28"
        rw [step]
        exact ⟨sm, hD⟩
      | some l =>
        by_cases e : l = name
        · rw [el, if_pos (by simp [e])] at step
          refine r_eq rfl ⟨_, rfl, ?_⟩
          refine ite_t (decide_eq_true (show entV (some l) = V.str name from congrArg V.str e)) ?_
          walk_at "gox_28"
          refine ⟨_, hD, ?_, fun b o e => (upd_ne (ne_of_none e nD)).trans (sm _ _ e), ?_⟩
          · rw [List.length_map, List.length_map]
            exact small63 (by omega)
          · rw [upd_same, step, List.map_append, List.map_append]
            rfl
        · rw [el, if_neg (by simp [e]), List.append_nil] at step
          refine r_eq rfl ⟨_, rfl, ?_⟩
          refine ite_f (decide_eq_false (show ¬ entV (some l) = V.str name from fun z => e (V.str.inj z))) ?_
          rw [step]
          exact ⟨sm, hD⟩
    · rintro H' ⟨sm, hD⟩
      rw [hvl, List.take_length] at hD
      walk_at "gox_28"
      refine ⟨D, _, rfl, .inl (.inl hD), fun t nt => ?_⟩
      exact q _ t (s1.trans (sm.trans (same_new nt))) ((s1.trans sm).free nt) upd_same
end
end Wn


namespace Wn
open PySem PySem.Spec PyProof.Rows L2

local macro_rules | `(tactic| walk_at "gox1_29") => `(tactic| (first
  | walk_at "go1"
  | (with_reducible apply Wn.r_bm)
  | ((with_reducible apply Wn.r_tyl); (focus (walk_at "lk"; done)))
  | ((with_reducible apply Wn.r_ext); (focus (walk_at "lk"; done)); (focus (walk_at "lk"; done)); (focus ((with_unfolding_all first | (simp only [List.length_cons, List.length_nil, List.length_append]; decide) | fail); done)))
  | ((with_reducible apply Wn.r_cat); (focus (walk_at "lk"; done)); (focus (walk_at "lk"; done)); (focus ((with_unfolding_all first | (simp only [List.length_cons, List.length_nil, List.length_append]; decide) | fail); done)))
  | ((with_reducible apply Wn.r_fw); (focus ((with_unfolding_all first | exact rfl | fail); done)); (focus ((first | assumption | exact Wn.FormAt.s (by assumption) | fail); done)))
  | ((with_reducible apply Wn.r_ff); (focus ((with_unfolding_all first | exact rfl | fail); done)); (focus ((first | assumption | exact Wn.FormAt.s (by assumption) | fail); done)))
  | ((with_reducible apply Wn.r_fr); (focus ((with_unfolding_all first | exact rfl | fail); done)); (focus ((first | assumption | exact Wn.FormAt.s (by assumption) | fail); done)))
  | ((with_reducible apply Wn.r_fm); (focus ((first | assumption | exact Wn.FormAt.s (by assumption) | fail); done)); (focus ((decide +kernel); done)); (focus ((decide +kernel); done)); (focus ((decide +kernel); done)))
  | ((with_reducible apply Wn.r_inF); (focus ((first | exact Or.inl (by assumption) | exact Or.inr (by assumption) | fail); done)))
  | ((with_reducible apply Wn.r_inT); (focus ((first | exact Or.inl (by assumption) | exact Or.inr (by assumption) | fail); done)))
  | (with_reducible apply Wn.r_chain)
  | (with_reducible apply Wn.r_bt)
  | (with_reducible apply Wn.r_fld)
  | (with_reducible apply Wn.r_meth)
  | ((with_reducible apply Wn.r_pt); (focus ((first | assumption | fail); done)))
  | ((with_reducible apply Wn.r_ti); (focus ((first | assumption | exact Wn.PTup.sq (by assumption) | fail); done)); (focus ((first | assumption | fail); done)))
  | ((with_reducible apply Wn.r_tupT); (focus ((assumption); done)))
  | ((with_reducible apply Wn.r_gtup); (focus ((first | assumption | fail); done)); (focus ((with_unfolding_all first | exact rfl | fail); done)))
  | (with_reducible apply Wn.r_gcons)
  | (with_reducible apply Wn.r_gnil)
  | (with_reducible apply Wn.r_for)
  | ((with_reducible apply Wn.r_ixa); (focus ((first | exact Or.inl (L2.SqL.of (by walk_at "lk")) | exact Or.inr (L2.SqT.of (by walk_at "lk")) | exact Or.inr (by assumption) | exact Or.inl (by assumption) | fail); done)); (focus ((with_unfolding_all first | exact rfl | fail); done)))
  | (with_reducible apply Wn.r_lc)
  | (with_reducible apply Wn.r_rng1)
  | (with_reducible apply Wn.r_ilist)
  | (with_reducible apply Wn.r_itup)
  | (with_reducible apply Wn.r_istr)
  | (with_reducible apply Wn.r_tsl)
  | (with_reducible apply Wn.r_nopart)
  | (with_reducible apply Wn.r_part)
  | (with_reducible apply Wn.r_exint)))
local macro_rules | `(tactic| walk_at "gox_29") => `(tactic| repeat (walk_at "gox1_29"))
def spTells {K : PySem.W.Frag} {mg : Str → Option Value} (T : Txt K mg) : Sp := fun vs H Q _ => ∃ (p pa wa fa wb fb : Addr) (F : Parts), vs = [.ref p, .ref pa] ∧ FormS T H p wa fa F ∧ SqT K H pa [.ref wb, .ref fb, .int F.room] ∧ SqT K H wb (F.ws.map V.str) ∧ FieldsAt K H fb F.fs ∧
  ∀ H', Same H H' → Q (.bl true) H'
abbrev xS : Str := PySem.Str.ofString "x"
def turn (e : Option Str) : Option Str := if e = some xS then none else some xS
def spTurned (K : PySem.W.Frag) : Sp := fun vs H Q _ => ∃ (a : Addr) (e0 : Option Str) (t : List (Option Str)), vs = [.ref a] ∧ SqT K H a ((e0 :: t).map entV) ∧ t ≠ [] ∧ t.length ≤ 100 ∧
  ∀ H' p, Same H H' → SqT K H' p ((turn e0 :: t).map entV) → Q (.ref p) H'
section
variable {P : Program} {w : World} {K : PySem.W.Frag} {mg : Str → Option Value} {base : Heap}
theorem ok_L_turned (T : Txt K mg) : FnOk P w K mg base CX0 1 T.f_L_turned T.d_L_turned ["_law_row"] (spTurned K) := by
  refine T.F_L_turned.ok sc_L_turned (fun vs H Q E h => ?_) (fun cdv A outer s H vs Q E hr h => ?_)
  · obtain ⟨a, e0, t, rfl, _⟩ := h
    rfl
  · obtain ⟨a, e0, t, rfl, hR, ht, hl, q⟩ := h
    have tl : 0 < t.length := List.length_pos_iff.mpr ht
    refine ⟨_, (pss_one (ps_ret (pe_op (op_catAK (K := K) rfl) (pe_callTy (call_tupleK (K := K) rfl) (by rfl) T.tuple_ (by decide +kernel) (pa_cons (pe_lc (own := [("_law_entry", 1)]) (g := gName 1) (tt := tYes) rfl sc_L_turned.nd (pi_tupK (K := K) rfl (pe_slice (sl_tupK (K := K) rfl) (pv 0) po_none (po_some pe_int))) (blkOk_by (N := ["_law_row", "_law_entry"]) (sc := defScope s_L_turned) (by decide +kernel)) (fun _ _ _ _ _ => pg_name (i := 1) sc_L_turned.nd rfl (Or.inl rfl)) (fun _ _ _ _ _ => pts_nil) (fun _ _ _ _ _ => (pe_ix (ix_aK (K := K) rfl) (pe_lst (pa_cons pe_str (pa_cons pe_non pa_nil))) (pe_callTy call_int1 (by rfl) T.int_ (by decide +kernel) (pa_cons (pe_cmpR op_eq (pv 1) pe_str (nomark _)) pa_nil)) (fun _ _ => rfl)))) pa_nil)) (pe_slice (sl_tupK (K := K) rfl) (pv 0) (po_some pe_int) po_none)))), ?_⟩
    show tRet _ _ [_, none] _
    walk_at "gox_29"
    refine r_slto (k := 1) hR (by rw [List.length_map, List.length_cons]; omega) (fun p1 n1 => ?_)
    have s1 := same_new (o := .tup (((e0 :: t).map entV).take 1)) n1
    have hS : SqT K (upd H p1 (.tup (((e0 :: t).map entV).take 1))) p1 [entV e0] := .inl (.inl upd_same)
    refine cl_tup (f := fun i H y => y = entV (turn e0)) hS (by show 1 ≤ 1000; decide) (fun i y H H' s h => h) ?_ ?_
    · rintro i x hi H' N sm hN
      have hi0 : i = 0 := by have := (List.getElem?_eq_some_iff.mp hi).1; simpa using this
      subst hi0
      cases hi
      walk_at "gox_29"
      intro l nl
      walk_at "gox_29"
      refine r_eq (by cases e0 <;> rfl) ?_
      walk_at "gox_29"
      refine .inr ⟨_, rfl, ?_⟩
      have hl0 : (upd H' l (.lst [.str "x", .non])) l = some (.lst [.str "x", .non]) := upd_same
      by_cases e : e0 = some xS
      · rw [if_pos (decide_eq_true (show entV e0 = V.str xS by rw [e]; rfl))]
        refine r_ixa (v := .non) (.inl (.inl (.inl hl0))) rfl ?_
        exact hN _ _ (same_new nl) (by unfold turn; rw [if_pos e]; rfl)
      · have e2 : decide (entV e0 = V.str xS) = false := decide_eq_false fun z => e (by
          cases e0 with
          | none => cases z
          | some y => rw [V.str.inj z])
        rw [if_neg (by rw [e2]; exact Bool.false_ne_true)]
        refine r_ixa (v := .str xS) (.inl (.inl (.inl hl0))) rfl ?_
        exact hN _ _ (same_new nl) (by unfold turn; rw [if_neg e]; rfl)
    · rintro H' D ys sm nD hD hyl hy
      have hys : ys = [entV (turn e0)] := by
        match ys, hyl, hy with
        | [y], _, hy => rw [hy 0 y rfl]
      subst hys
      have hR' := same_sqT (s1.trans sm) hR
      walk_at "gox_29"
      refine ⟨D, _, rfl, .inl (.inl hD), fun t1 nt1 => ?_⟩
      have hR2 := same_sqT (same_new (o := .tup [entV (turn e0)]) nt1) hR'
      walk_at "gox_29"
      refine r_slfrom (k := 1) hR2 (by decide) (by rw [List.length_map, List.length_cons]; omega) (fun t2 nt2 => ?_)
      refine r_catU (xs := [entV (turn e0)]) (ys := t.map entV) (.inl (.inl (lk_ne (ne_of_none upd_same nt2) upd_same))) (.inl (.inl upd_same)) (by rw [List.length_map]; show 1 + t.length ≤ sizeLine; exact Nat.le_of_lt (small1000 (by omega))) (fun p H3 s3 hp => ?_)
      exact q _ p (s1.trans (sm.trans ((same_new nt1).trans ((same_new nt2).trans s3)))) hp
theorem ok_L_tells (T : Txt K mg) : FnOk P w K mg base CX0 10 T.f_L_tells T.d_L_tells ["_law_form", "_law_parts_here"] (spTells T) := by
  refine T.F_L_tells.ok sc_L_tells (fun vs H Q E h => ?_) (fun cdv A outer s H vs Q E hr h => ?_)
  · obtain ⟨p, pa, wa, fa, wb, fb, F, rfl, _⟩ := h
    rfl
  · obtain ⟨p, pa, wa, fa, wb, fb, F, rfl, hP, hpa, hwb, hfb, q⟩ := h
    have ok := hP.ok
    have f3 := ok.f3
    have w3 := ok.w3
    refine ⟨_, (pss_cons (ps_set (i := 2) sc_L_tells.nd rfl (Or.inl rfl) (pe_callTy (call_tupleK (K := K) rfl) (by rfl) T.tuple_ (by decide +kernel) (pa_cons (pe_lc (own := [("_law_pair", 3)]) (g := gName 3) (tt := tYes) rfl sc_L_tells.nd (pi_tupK (K := K) rfl (pe_ix (ix_aK (K := K) rfl) (pv 1) pe_int (fun _ _ => rfl))) (blkOk_by (N := ["_law_form", "_law_parts_here", "_law_names_here", "_law_pair", "_law_name", "_law_field_here", "_law_due"]) (sc := defScope s_L_tells) (by decide +kernel)) (fun _ _ _ _ _ => pg_name (i := 3) sc_L_tells.nd rfl (Or.inl rfl)) (fun _ _ _ _ _ => pts_nil) (fun _ _ _ _ _ => (pe_ix (ix_aK (K := K) rfl) (pv 3) pe_int (fun _ _ => rfl)))) pa_nil))) (pss_cons (ps_if (pt_not (pt_val (pe_call (ok_L_same T) (hr.mono (by decide)) (by rfl) T.g_L_same T.F_L_same.kp T.b_L_same .nil pass0 (pa_cons (pe_tup (pa_cons (pe_fldK (K := K) rfl (pv 0) rfl) (pa_cons (pe_fldK (K := K) rfl (pv 0) rfl) (pa_cons (pe_fldK (K := K) rfl (pv 0) rfl) (pa_cons (pe_meth0 (pv 0) T.cl T.m_Form_field_names (ok_Form_field_names T) (hr.mono (by decide)) T.b_Form_field_names .nil pass0) pa_nil))))) (pa_cons (pe_op (op_catAK (K := K) rfl) (pv 1) (pe_tup (pa_cons (pv 2) pa_nil))) pa_nil))))) (pss_one (ps_ret pe_bl)) pss_nil) (pss_cons (ps_for PassesOwn.never rfl (pi_tupK (K := K) rfl (pe_ix (ix_aK (K := K) rfl) (pv 1) pe_int (fun _ _ => rfl))) (pg_tupK (K := K) (n := 2) rfl rfl (pgs_cons (pg_name (i := 4) sc_L_tells.nd rfl (Or.inr rfl)) (pgs_cons (pg_name (i := 5) sc_L_tells.nd rfl (Or.inl rfl)) pgs_nil))) (pss_cons (ps_set (i := 6) sc_L_tells.nd rfl (Or.inl rfl) (pe_callTy (call_tupleK (K := K) rfl) (by rfl) T.tuple_ (by decide +kernel) (pa_cons (pe_lc (own := [("_law_pair", 3)]) (g := gName 3)  rfl sc_L_tells.nd (pi_tupK (K := K) rfl (pe_ix (ix_aK (K := K) rfl) (pv 1) pe_int (fun _ _ => rfl))) (blkOk_by (N := ["_law_form", "_law_parts_here", "_law_names_here", "_law_pair", "_law_name", "_law_field_here", "_law_due"]) (sc := defScope s_L_tells) (by decide +kernel)) (fun _ _ _ _ _ => pg_name (i := 3) sc_L_tells.nd rfl (Or.inl rfl)) (fun _ _ _ _ _ => (pts_one (pt_cmpR op_eq (pe_ix (ix_aK (K := K) rfl) (pe_ix (ix_aK (K := K) rfl) (pv 3) pe_int (fun _ _ => rfl)) pe_int (fun _ _ => rfl)) (pv 4) (nomark _)))) (fun _ _ _ _ _ => (pe_ix (ix_aK (K := K) rfl) (pv 3) pe_int (fun _ _ => rfl)))) pa_nil))) (pss_one (ps_if (PW.pt (pw_or (pt_not (pt_val (pe_call (ok_L_same T) (hr.mono (by decide)) (by rfl) T.g_L_same T.F_L_same.kp T.b_L_same .nil pass0 (pa_cons (pe_meth (pv 0) T.cl T.m_Form_parts_of (ok_Form_parts_of T) (hr.mono (by decide)) T.b_Form_parts_of .nil pass0 (pa_cons (pv 4) pa_nil)) (pa_cons (pv 5) pa_nil))))) (pw_or1 (pt_not (pt_val (pe_call (ok_L_same T) (hr.mono (by decide)) (by rfl) T.g_L_same T.F_L_same.kp T.b_L_same .nil pass0 (pa_cons (pe_meth (pv 0) T.cl T.m_Form_readers (ok_Form_readers T) (hr.mono (by decide)) T.b_Form_readers .nil pass0 (pa_cons (pv 4) pa_nil)) (pa_cons (pv 6) pa_nil)))))))) (pss_one (ps_ret pe_bl)) pss_nil)))) (pss_one (ps_ret pe_bl))))), ?_⟩
    show tSeq _ _ _ [_, _, none, none, none, none, none] _
    walk_at "gox_29"
    obtain ⟨vs, hS, hvl, hx⟩ := hfb.ex
    refine cl_tup (f := fun i H' y => ∃ p, F.fs[i]? = some p ∧ y = .str p.1) hS (by omega) (fun i y H H' s h => h) ?_ ?_
    · rintro i x hi H' N sm hN
      have hlt : i < F.fs.length := by rw [← hvl]; exact (List.getElem?_eq_some_iff.mp hi).1
      have ef : F.fs[i]? = some F.fs[i] := List.getElem?_eq_getElem hlt
      obtain ⟨p, fv, rfl, hp, hfld⟩ := hx i x _ hi ef
      have hp' := same_sqT sm hp
      walk_at "gox_29"
      exact hN _ _ (Same.refl _) ⟨_, ef, rfl⟩
    · rintro H1 D ys s1 nD hD hyl hy
      have hys : ys = (F.fs.map (·.1)).map V.str := by
        refine List.ext_getElem? fun i => ?_
        by_cases h : i < ys.length
        · obtain ⟨p, e1, e2⟩ := hy i _ (List.getElem?_eq_getElem h)
          rw [List.getElem?_eq_getElem h, e2, List.getElem?_map, List.getElem?_map, e1]
          rfl
        · rw [List.getElem?_eq_none (by omega), List.getElem?_eq_none (by rw [List.length_map, List.length_map]; omega)]
      subst hys
      walk_at "gox_29"
      refine ⟨D, _, rfl, .inl (.inl hD), fun t nt => ?_⟩
      have hnt : (upd H1 t (.tup ((F.fs.map (·.1)).map V.str))) t = some (.tup ((F.fs.map (·.1)).map V.str)) := upd_same
      have s2 := s1.trans (same_new (o := .tup ((F.fs.map (·.1)).map V.str)) nt)
      generalize upd H1 t _ = H2 at hnt s2 ⊢
      have hP2 := hP.mono s2
      have hpa2 := same_sqT s2 hpa
      walk_at "gox_29"
      refine ⟨p, wa, fa, F, rfl, hP2, fun H3 na s3 n3 en => ?_⟩
      walk_at "gox_29"
      intro t4 nt4
      walk_at "gox_29"
      intro t5 nt5
      have s35 := s3.trans ((same_new (o := .tup [.ref wa, .ref fa, .int F.room, .ref na]) nt4).trans (same_new (o := .tup [.ref t]) nt5))
      refine r_catU (same_sqT s35 hpa2) (.inl (.inl upd_same)) (by show 4 ≤ sizeLine; decide) (fun p6 H6 s6 hp6 => ?_)
      have s26 := s35.trans s6
      have hP6 := hP.mono (s2.trans s26)
      walk_at "gox_29"
      refine ⟨.ref t4, .ref p6, .tuple [wordsD F.ws, fieldsD F.fs, .int F.room, .tuple ((F.fs.map (·.1)).map PyData.str)], rfl, ?_, ?_, ?_, ?_, fun H7 s7 => ?_⟩
      · refine .tup (.inl (.inl (s6 _ _ (same_new nt5 _ _ upd_same)))) (.cons (words_dp hP6.w) (.cons (fields_dp hP6.f) (.cons (.int _) (.cons (.tup ?_ (strs_dp _)) .nil))))
        exact same_sqT ((same_new nt4).trans ((same_new nt5).trans s6)) (en.sq (K := K))
      · refine .tup hp6 (.cons (words_dp (same_sqT (s2.trans s26) hwb)) (.cons (fields_dp (hfb.mono (s2.trans s26))) (.cons (.int _) (.cons (.tup (.inl (.inl (s26 _ _ hnt))) (strs_dp _)) .nil))))
      · have h1 := words_depth F.ws
        have h2 := fields_depth F.fs
        have h3 := words_depth (F.fs.map Prod.fst)
        show max (wordsD F.ws).depth (max (fieldsD F.fs).depth (max 0 (max (wordsD (F.fs.map Prod.fst)).depth 0))) + 1 < 8
        omega
      · refine tup_dsz (by show 4 ≤ 100000; decide) (dszAll_of fun d hd => ?_)
        simp only [List.mem_cons, List.not_mem_nil, or_false] at hd
        rcases hd with rfl | rfl | rfl | rfl
        · exact words_dsz w3
        · exact fields_dsz f3 ok.fld w3
        · rfl
        · exact words_dsz (by rw [List.length_map]; exact f3)
      have s8 := s2.trans (s26.trans s7)
      have hpa8 := same_sqT s8 hpa
      walk_at "gox_29"
      refine fl_tup (K := K) (a := fb) (xs := vs) (same_sqT s8 hS) (fun i σ H' => Same H H' ∧ ∃ v4 v5 v6, σ = [some (.ref p), some (.ref pa), some (.ref t), none, v4, v5, v6]) ⟨s8, _, _, _, rfl⟩ (fun i σ H' _ h => same_sqT h.1 hS) ?_ ?_
      · rintro i x σ H' hi ⟨sm, v4, v5, v6, rfl⟩
        have hlt : i < F.fs.length := by rw [← hvl]; exact (List.getElem?_eq_some_iff.mp hi).1
        have ef : F.fs[i]? = some F.fs[i] := List.getElem?_eq_getElem hlt
        obtain ⟨pq, fv, rfl, hpq, hfld⟩ := hx i x _ hi ef
        have hpq' := same_sqT sm hpq
        have hpa9 := same_sqT sm hpa
        walk_at "gox_29"
        have hSm := same_sqT sm hS
        have hn : F.fs[i].1 ∈ F.fs.map (·.1) := List.mem_map.mpr ⟨_, List.getElem_mem hlt, rfl⟩
        refine ⟨fb, rfl, ⟨_, hSm⟩, fun D nD => lc_tup (K := K) (a := fb) (xs := vs) (fun j H'' => Same H' H'' ∧ H'' D = some (.lst ((((F.fs.take j).filter fun p => decide (p.2.looks = some F.fs[i].1)).map (·.1)).map V.str))) ⟨same_new nD, upd_same⟩ (fun j H'' _ h => same_sqT h.1 hSm) ?_ ?_⟩
        · rintro j x H'' hj ⟨sm2, hD⟩
          have hltj : j < F.fs.length := by rw [← hvl]; exact (List.getElem?_eq_some_iff.mp hj).1
          have efj : F.fs[j]? = some F.fs[j] := List.getElem?_eq_getElem hltj
          obtain ⟨pp, fv2, rfl, hp2, fa4, nv, rv, rfl, hF4, hnear, hfar⟩ := hx j x _ hj efj
          have hp3 := same_sqT (sm.trans sm2) hp2
          have hF5 := same_sqT (sm.trans sm2) hF4
          have hl : ((F.fs.take j).filter fun p => decide (p.2.looks = some F.fs[i].1)).length ≤ j := Nat.le_trans (List.length_filter_le _ _) (by rw [List.length_take]; exact Nat.min_le_left _ _)
          have step : ((F.fs.take (j + 1)).filter fun p => decide (p.2.looks = some F.fs[i].1)) = ((F.fs.take j).filter fun p => decide (p.2.looks = some F.fs[i].1)) ++ (if decide (F.fs[j].2.looks = some F.fs[i].1) = true then [F.fs[j]] else []) := by
            rw [take_at efj, List.filter_append]
            congr 1
            simp only [List.filter_cons, List.filter_nil]
          walk_at "gox_29"
          refine r_eq (by cases F.fs[j].2.looks <;> rfl) ⟨_, rfl, ?_⟩
          by_cases e : F.fs[j].2.looks = some F.fs[i].1
          · rw [if_pos (decide_eq_true e)] at step
            refine ite_t (decide_eq_true (by rw [e]; rfl)) ?_
            walk_at "gox_29"
            refine ⟨_, hD, ?_, fun b o e => (upd_ne (ne_of_none e nD)).trans (sm2 _ _ e), ?_⟩
            · rw [List.length_map, List.length_map]
              exact small63 (by omega)
            · rw [upd_same, step, List.map_append, List.map_append]
              rfl
          · rw [if_neg (by rw [decide_eq_false e]; exact Bool.false_ne_true), List.append_nil] at step
            refine ite_f (decide_eq_false fun z => e (by
              cases el : F.fs[j].2.looks with
              | none => rw [el] at z; cases z
              | some y => rw [el] at z; rw [V.str.inj z])) ?_
            rw [step]
            exact ⟨sm2, hD⟩
        · rintro H9 ⟨s9, hD⟩
          rw [hvl, List.take_length] at hD
          walk_at "gox_29"
          refine ⟨D, _, rfl, .inl (.inl hD), fun t6 nt6 => ?_⟩
          have hd6 : (upd H9 t6 (.tup ((F.readers F.fs[i].1).map V.str))) t6 = some (.tup ((F.readers F.fs[i].1).map V.str)) := upd_same
          have s10 := s9.trans (same_new (o := .tup ((F.readers F.fs[i].1).map V.str)) nt6)
          have hP10 := hP.mono (sm.trans s10)
          show tSeq _ _ _ _ (upd H9 t6 (.tup ((F.readers F.fs[i].1).map V.str)))
          generalize upd H9 t6 (.tup ((F.readers F.fs[i].1).map V.str)) = H10 at hd6 s10 hP10 ⊢
          walk_at "gox_29"
          refine ⟨p, wa, fa, F, F.fs[i].1, rfl, hP10, hn, fun k f' fv' ef' hfl' => ?_⟩
          have ef2 := fld_uniq ok.fn (f := F.fs[i].2) (List.getElem_mem hlt) ef'
          subst ef2
          walk_at "gox_29"
          refine ⟨fv', fv, fldD F.fs[i].2, rfl, fld_dp hfl', fld_dp (hfld.mono (sm.trans s10)), Nat.lt_of_le_of_lt (fld_depth _) (by decide), fld_dsz (ok.fld _ (List.getElem_mem hlt)) w3, fun H11 s11 => ?_⟩
          have hP11 := hP10.mono s11
          walk_at "gox_29"
          refine ⟨p, wa, fa, F, F.fs[i].1, rfl, hP11, hn, fun H12 q12 s12 n12 e12 => ?_⟩
          walk_at "gox_29"
          refine ⟨.ref q12, .ref t6, wordsD (F.readers F.fs[i].1), rfl, words_dp (.inl (.inl e12)), words_dp (.inl (.inl (s12 _ _ (s11 _ _ hd6)))), Nat.lt_of_le_of_lt (words_depth _) (by decide), words_dsz ?_, fun H13 s13 => ?_⟩
          · unfold Parts.readers
            rw [List.length_map]
            exact Nat.le_trans (List.length_filter_le _ _) f3
          walk_at "gox_29"
          exact ⟨sm.trans (s10.trans (s11.trans (s12.trans s13))), _, _, _, rfl⟩
      · rintro σ H' ⟨sm, v4, v5, v6, rfl⟩
        walk_at "gox_29"
        exact q _ sm
end
end Wn


namespace Wn
open PySem PySem.Spec PyProof.Rows L2
/-! ### forms that are other ones -/
def PairAt (K : PySem.W.Frag) (H : Hp) (x : V) (p : Str × Fld) : Prop := ∃ (q : Addr) (fv : V), x = .ref q ∧ SqT K H q [.str p.1, fv] ∧ FldAt K H fv p.2
def All2 {α : Type} (R : V → α → Prop) (vs : List V) (fs : List α) : Prop := vs.length = fs.length ∧ ∀ (i : Nat) (x : V) (p : α), vs[i]? = some x → fs[i]? = some p → R x p
theorem all2_append {α : Type} {R : V → α → Prop} {v1 v2 : List V} {f1 f2 : List α} (a : All2 R v1 f1) (b : All2 R v2 f2) : All2 R (v1 ++ v2) (f1 ++ f2) := by
  refine ⟨by rw [List.length_append, List.length_append, a.1, b.1], fun i x p h1 h2 => ?_⟩
  by_cases h : i < v1.length
  · rw [List.getElem?_append_left h] at h1
    rw [List.getElem?_append_left (by rw [← a.1]; exact h)] at h2
    exact a.2 i x p h1 h2
  · rw [List.getElem?_append_right (by omega)] at h1
    rw [List.getElem?_append_right (by rw [← a.1]; omega), ← a.1] at h2
    exact b.2 _ x p h1 h2
theorem all2_take {α : Type} {R : V → α → Prop} {vs : List V} {fs : List α} (a : All2 R vs fs) (n : Nat) : All2 R (vs.take n) (fs.take n) := by
  refine ⟨by rw [List.length_take, List.length_take, a.1], fun i x p h1 h2 => ?_⟩
  rw [List.getElem?_take] at h1 h2
  by_cases h : i < n
  · rw [if_pos h] at h1 h2
    exact a.2 i x p h1 h2
  · rw [if_neg h] at h1
    cases h1
theorem all2_drop {α : Type} {R : V → α → Prop} {vs : List V} {fs : List α} (a : All2 R vs fs) (n : Nat) : All2 R (vs.drop n) (fs.drop n) := by
  refine ⟨by rw [List.length_drop, List.length_drop, a.1], fun i x p h1 h2 => ?_⟩
  rw [List.getElem?_drop] at h1 h2
  exact a.2 _ x p h1 h2
theorem all2_one {α : Type} {R : V → α → Prop} {x : V} {p : α} (h : R x p) : All2 R [x] [p] := by
  refine ⟨rfl, fun i y q h1 h2 => ?_⟩
  cases i with
  | zero => cases h1; cases h2; exact h
  | succ i => simp at h1
theorem fieldsAt_of {K : PySem.W.Frag} {H : Hp} {a : Addr} {vs : List V} {fs : List (Str × Fld)} (h : SqT K H a vs) (r : All2 (PairAt K H) vs fs) : FieldsAt K H a fs := ⟨vs, h, r.1, r.2⟩
theorem pairAt_mt {K : PySem.W.Frag} {H H' : Hp} (s : SmT K H H') {x : V} {p : Str × Fld} (h : PairAt K H x p) : PairAt K H' x p := let ⟨q, fv, e, t, f⟩ := h; ⟨q, fv, e, s _ _ t, f.mt s⟩
theorem all2_mt {K : PySem.W.Frag} {H H' : Hp} (s : SmT K H H') {vs : List V} {fs : List (Str × Fld)} (h : All2 (PairAt K H) vs fs) : All2 (PairAt K H') vs fs := ⟨h.1, fun i x p h1 h2 => pairAt_mt s (h.2 i x p h1 h2)⟩
theorem x_name : nameB xS = true := by decide +kernel
theorem turn_ok {e0 : Option Str} {t : List (Option Str)} (h : rowOk (e0 :: t)) : rowOk (turn e0 :: t) := fun z hz => by
  rcases List.mem_cons.mp hz with q | q
  · unfold turn at q
    by_cases e : e0 = some xS
    · rw [if_pos e] at q; cases q
    · rw [if_neg e] at q
      rw [Option.some.inj q]
      exact x_name
  · exact h z (List.mem_cons_of_mem _ q)
theorem turn_ne (e0 : Option Str) : PyData.eqv (entD e0) (entD (turn e0)) = false := by
  unfold turn
  by_cases e : e0 = some xS
  · rw [if_pos e, e]
    show PyData.eqv (.str xS) .none = false
    rw [PyData.eqv]
  · rw [if_neg e]
    cases e0 with
    | none =>
      show PyData.eqv .none (.str xS) = false
      rw [PyData.eqv]
    | some z => exact eqv_str fun h => e (by rw [h])
theorem row_ne (e0 : Option Str) (t : List (Option Str)) : PyData.eqv (rowD (e0 :: t)) (rowD (turn e0 :: t)) = false := eqv_tup (i := 0) rfl rfl (turn_ne e0)
theorem fld_ne {f g : Fld} {i : Nat} {x y : PyData} (h1 : [PyData.str f.first, entD f.looks, nearD f, farD f][i]? = some x) (h2 : [PyData.str g.first, entD g.looks, nearD g, farD g][i]? = some y) (h : PyData.eqv x y = false) : PyData.eqv (fldD f) (fldD g) = false := eqv_tup h1 h2 h
section
variable {f : Fld} {ws names : List Str} {name : Str}
theorem ok_first {z : Str} (ok : f.Ok ws names name) (h : z ∈ ws) : Fld.Ok ws names name { f with first := z } := ⟨h, ok.looks, ok.alone, ok.pairs, ok.far⟩
theorem ok_nearA {e0 : Option Str} {t : List (Option Str)} (ok : f.Ok ws names name) (hl : f.looks = none) (e : f.nearA = e0 :: t) : Fld.Ok ws names name { f with nearA := turn e0 :: t } := by
  refine ⟨ok.first, ok.looks, fun h => ?_, ok.pairs, ok.far⟩
  obtain ⟨h1, h2⟩ := ok.alone h
  rw [e] at h1 h2
  exact ⟨h1, turn_ok h2⟩
theorem ok_nearL {e0 : Option Str} {t : List (Option Str)} {rs : List (List (Option Str))} {l : Str} (ok : f.Ok ws names name) (hl : f.looks = some l) (e : f.nearL = (e0 :: t) :: rs) : Fld.Ok ws names name { f with nearL := (turn e0 :: t) :: rs } := by
  refine ⟨ok.first, ok.looks, ok.alone, fun l h => ?_, ok.far⟩
  obtain ⟨h1, h2⟩ := ok.pairs l h
  rw [e] at h1 h2
  refine ⟨h1, fun r hr => ?_⟩
  rcases List.mem_cons.mp hr with q | q
  · rw [q]
    obtain ⟨a, b⟩ := h2 _ List.mem_cons_self
    exact ⟨a, turn_ok b⟩
  · exact h2 r (List.mem_cons_of_mem _ q)
theorem ok_alone {r0 : List (Option Str)} {rs : List (List (Option Str))} {l : Str} (ok : f.Ok ws names name) (hl : f.looks = some l) (e : f.nearL = r0 :: rs) : Fld.Ok ws names name { f with looks := none, nearA := r0 } := by
  obtain ⟨h1, h2⟩ := ok.pairs l hl
  exact ⟨ok.first, fun l h => (nomatch h), fun _ => h2 r0 (by rw [e]; exact List.mem_cons_self), fun l h => (nomatch h), ok.far⟩
theorem ok_far {r : Option (List (Option Str))} (ok : f.Ok ws names name) (h : ∀ x, r = some x → x.length = ws.length ∧ rowOk x) : Fld.Ok ws names name { f with far := r } := ⟨ok.first, ok.looks, ok.alone, ok.pairs, h⟩
theorem ok_names {names' : List Str} (ok : f.Ok ws names name) (h : ∀ l ∈ names, l ∈ names') : f.Ok ws names' name := ⟨ok.first, fun l e => ⟨(ok.looks l e).1, h l (ok.looks l e).2⟩, ok.alone, ok.pairs, ok.far⟩
theorem ok_words {ws' : List Str} (ok : f.Ok ws names name) (h : ∀ l ∈ ws, l ∈ ws') (hl : ws'.length = ws.length) : f.Ok ws' names name :=
  ⟨h _ ok.first, ok.looks, fun e => by rw [hl]; exact ok.alone e, fun l e => by rw [hl]; exact ok.pairs l e, fun r e => by rw [hl]; exact ok.far r e⟩
end
/-- the other word -/
theorem other_ne {ws : List Str} {z : Str} (nd : ws.Nodup) (h2 : 2 ≤ ws.length) (hz : z ∈ ws) : ∃ y, ws[(idx ws z + 1) % ws.length]? = some y ∧ y ∈ ws ∧ y ≠ z := by
  have e := idx_at hz
  have hi : idx ws z < ws.length := (List.getElem?_eq_some_iff.mp e).1
  have hm : (idx ws z + 1) % ws.length < ws.length := Nat.mod_lt _ (by omega)
  refine ⟨_, List.getElem?_eq_getElem hm, List.getElem_mem hm, fun q => ?_⟩
  have e2 : ws[(idx ws z + 1) % ws.length]? = ws[idx ws z]? := by rw [List.getElem?_eq_getElem hm, e, q]
  have e3 := (List.getElem?_inj hm nd).mp e2
  by_cases c : idx ws z + 1 < ws.length
  · rw [Nat.mod_eq_of_lt c] at e3
    omega
  · have : idx ws z + 1 = ws.length := by omega
    rw [this, Nat.mod_self] at e3
    omega
def rot {α : Type} (l : List α) : List α := l.drop 1 ++ l.take 1
theorem rot_perm {α : Type} (l : List α) : (rot l).Perm l := by
  have h := (List.perm_append_comm (l₁ := l.drop 1) (l₂ := l.take 1))
  rw [List.take_append_drop] at h
  exact h
theorem same_fw {F G : Parts} (h : PyData.eqv (wordsD F.ws) (wordsD G.ws) = false) : F.same G = false := by unfold Parts.same; rw [h]; rfl
theorem same_ff {F G : Parts} (h : PyData.eqv (fieldsD F.fs) (fieldsD G.fs) = false) : F.same G = false := by unfold Parts.same; rw [h]; simp
theorem same_fr {F G : Parts} (h : F.room ≠ G.room) : F.same G = false := by unfold Parts.same; rw [decide_eq_false h]; simp
theorem room_other {F : Parts} (ok : F.Ok) : Parts.Ok ⟨F.ws, F.fs, 1 + F.room % 3⟩ ∧ F.same ⟨F.ws, F.fs, 1 + F.room % 3⟩ = false := by
  have r1 := ok.r1
  have r3 := ok.r3
  refine ⟨⟨ok.w2, ok.w3, ok.wn, ok.wk, ok.f1, ok.f3, ok.fn, ok.fk, ok.fld, ?_, ?_⟩, same_fr ?_⟩
  · show 1 ≤ 1 + F.room % 3
    omega
  · show 1 + F.room % 3 ≤ 3
    omega
  · show F.room ≠ 1 + F.room % 3
    omega
theorem words_other {F : Parts} (ok : F.Ok) : Parts.Ok ⟨rot F.ws, F.fs, F.room⟩ ∧ F.same ⟨rot F.ws, F.fs, F.room⟩ = false := by
  have w2 := ok.w2
  have hp := rot_perm F.ws
  have hl : (rot F.ws).length = F.ws.length := hp.length_eq
  refine ⟨⟨by rw [hl]; exact w2, by rw [hl]; exact ok.w3, hp.nodup_iff.mpr ok.wn, fun z hz => ok.wk z (hp.mem_iff.mp hz), ok.f1, ok.f3, ok.fn, ok.fk, fun p hp2 => ok_words (ok.fld p hp2) (fun l hl => hp.mem_iff.mpr hl) hl, ok.r1, ok.r3⟩, same_fw ?_⟩
  obtain ⟨a, b, t, e⟩ : ∃ a b t, F.ws = a :: b :: t := by
    match h : F.ws, w2 with
    | a :: b :: t, _ => exact ⟨a, b, t, rfl⟩
  have nd := ok.wn
  show PyData.eqv (wordsD F.ws) (wordsD (rot F.ws)) = false
  rw [e] at nd ⊢
  refine eqv_tup (i := 0) (x := .str a) (y := .str b) rfl rfl (eqv_str fun h => ?_)
  exact (List.nodup_cons.mp nd).1 (by rw [h]; exact List.mem_cons_self)
theorem fields_other {F : Parts} (ok : F.Ok) (h : 1 < F.fs.length) : Parts.Ok ⟨F.ws, rot F.fs, F.room⟩ ∧ F.same ⟨F.ws, rot F.fs, F.room⟩ = false := by
  have hp := rot_perm F.fs
  have hl : (rot F.fs).length = F.fs.length := hp.length_eq
  have hpm := hp.map Prod.fst
  refine ⟨⟨ok.w2, ok.w3, ok.wn, ok.wk, by show 1 ≤ (rot F.fs).length; rw [hl]; exact ok.f1, by show (rot F.fs).length ≤ 3; rw [hl]; exact ok.f3, hpm.nodup_iff.mpr ok.fn, fun z hz => ok.fk z (hpm.mem_iff.mp hz), fun p hp2 => ok_names (ok.fld p (hp.mem_iff.mp hp2)) (fun l hl => hpm.mem_iff.mpr hl), ok.r1, ok.r3⟩, same_ff ?_⟩
  obtain ⟨a, b, t, e⟩ : ∃ a b t, F.fs = a :: b :: t := by
    match h2 : F.fs, h with
    | a :: b :: t, _ => exact ⟨a, b, t, rfl⟩
  have nd := ok.fn
  show PyData.eqv (fieldsD F.fs) (fieldsD (rot F.fs)) = false
  rw [e] at nd ⊢
  refine eqv_tup (i := 0) (x := pairD a) (y := pairD b) rfl rfl (eqv_tup (i := 0) (x := .str a.1) (y := .str b.1) rfl rfl (eqv_str fun h => ?_))
  refine (List.nodup_cons.mp nd).1 ?_
  show a.1 ∈ (b :: t).map (·.1)
  rw [h]
  exact List.mem_cons_self
/-- the fields with another one at a place -/
def put (fs : List (Str × Fld)) (i : Nat) (p : Str × Fld) : List (Str × Fld) := fs.take i ++ [p] ++ fs.drop (i + 1)
theorem put_set {fs : List (Str × Fld)} {i : Nat} {p : Str × Fld} (h : i < fs.length) : put fs i p = fs.set i p := by
  unfold put
  rw [List.set_eq_take_append_cons_drop, if_pos h, List.append_assoc]
  rfl
theorem field_other {F : Parts} {i : Nat} {g : Fld} (ok : F.Ok) (h : i < F.fs.length) (og : g.Ok F.ws (F.fs.map (·.1)) F.fs[i].1) (ne : PyData.eqv (fldD F.fs[i].2) (fldD g) = false) :
    Parts.Ok ⟨F.ws, put F.fs i (F.fs[i].1, g), F.room⟩ ∧ F.same ⟨F.ws, put F.fs i (F.fs[i].1, g), F.room⟩ = false := by
  rw [put_set h]
  have hm : (F.fs.set i (F.fs[i].1, g)).map Prod.fst = F.fs.map Prod.fst := by
    rw [List.map_set]
    refine List.ext_getElem? fun k => ?_
    rw [List.getElem?_set]
    by_cases e : i = k
    · subst e
      rw [if_pos rfl, List.length_map, if_pos h, List.getElem?_map, List.getElem?_eq_getElem h]
      rfl
    · rw [if_neg e]
  refine ⟨⟨ok.w2, ok.w3, ok.wn, ok.wk, by show 1 ≤ (F.fs.set i _).length; rw [List.length_set]; exact ok.f1, by show (F.fs.set i _).length ≤ 3; rw [List.length_set]; exact ok.f3, ?_, ?_, ?_, ok.r1, ok.r3⟩, same_ff ?_⟩
  · show ((F.fs.set i (F.fs[i].1, g)).map Prod.fst).Nodup
    rw [hm]; exact ok.fn
  · show ∀ z ∈ (F.fs.set i (F.fs[i].1, g)).map Prod.fst, nameB z = true
    rw [hm]; exact ok.fk
  · show ∀ p ∈ F.fs.set i (F.fs[i].1, g), p.2.Ok F.ws ((F.fs.set i (F.fs[i].1, g)).map Prod.fst) p.1
    rw [hm]
    intro p hp
    rcases List.mem_or_eq_of_mem_set hp with q | q
    · exact ok.fld p q
    · rw [q]; exact og
  · refine eqv_tup (i := i) (x := pairD F.fs[i]) (y := pairD (F.fs[i].1, g)) (by rw [List.getElem?_map, List.getElem?_eq_getElem h]; rfl) ?_ (eqv_tup (i := 1) rfl rfl ne)
    rw [List.getElem?_map, List.getElem?_set, if_pos rfl, if_pos h]
    rfl
end Wn


namespace Wn
open PySem PySem.Spec PyProof.Rows L2

local macro_rules | `(tactic| walk_at "gox1_31") => `(tactic| (first
  | walk_at "go1"
  | (with_reducible apply Wn.r_bm)
  | ((with_reducible apply Wn.r_tyl); (focus (walk_at "lk"; done)))
  | ((with_reducible apply Wn.r_ext); (focus (walk_at "lk"; done)); (focus (walk_at "lk"; done)); (focus ((with_unfolding_all first | (simp only [List.length_cons, List.length_nil, List.length_append]; decide) | fail); done)))
  | ((with_reducible apply Wn.r_cat); (focus (walk_at "lk"; done)); (focus (walk_at "lk"; done)); (focus ((with_unfolding_all first | (simp only [List.length_cons, List.length_nil, List.length_append]; decide) | fail); done)))
  | ((with_reducible apply Wn.r_inF); (focus ((first | exact Or.inl (by assumption) | exact Or.inr (by assumption) | fail); done)))
  | ((with_reducible apply Wn.r_inT); (focus ((first | exact Or.inl (by assumption) | exact Or.inr (by assumption) | fail); done)))
  | (with_reducible apply Wn.r_chain)
  | (with_reducible apply Wn.r_bt)
  | (with_reducible apply Wn.r_fld)
  | (with_reducible apply Wn.r_meth)
  | ((with_reducible apply Wn.r_pt); (focus ((first | assumption | fail); done)))
  | ((with_reducible apply Wn.r_ti); (focus ((first | assumption | exact Wn.PTup.sq (by assumption) | fail); done)); (focus ((first | assumption | fail); done)))
  | ((with_reducible apply Wn.r_tupT); (focus ((assumption); done)))
  | ((with_reducible apply Wn.r_gtup); (focus ((first | assumption | fail); done)); (focus ((with_unfolding_all first | exact rfl | fail); done)))
  | (with_reducible apply Wn.r_gcons)
  | (with_reducible apply Wn.r_gnil)
  | (with_reducible apply Wn.r_for)
  | ((with_reducible apply Wn.r_ixa); (focus ((first | exact Or.inl (L2.SqL.of (by walk_at "lk")) | exact Or.inr (L2.SqT.of (by walk_at "lk")) | exact Or.inr (by assumption) | exact Or.inl (by assumption) | fail); done)); (focus ((with_unfolding_all first | exact rfl | fail); done)))
  | (with_reducible apply Wn.r_lc)
  | (with_reducible apply Wn.r_rng1)
  | (with_reducible apply Wn.r_ilist)
  | (with_reducible apply Wn.r_itup)
  | (with_reducible apply Wn.r_istr)
  | (with_reducible apply Wn.r_tsl)
  | (with_reducible apply Wn.r_nopart)
  | (with_reducible apply Wn.r_part)
  | (with_reducible apply Wn.r_exint)))
local macro_rules | `(tactic| walk_at "gox_31") => `(tactic| repeat (walk_at "gox1_31"))
def ChAt (K : PySem.W.Frag) (H : Hp) (cs : List V) (ws names : List Str) (name : Str) (f : Fld) (n : Nat) : Prop := cs.length ≤ n ∧ ∀ v ∈ cs, ∃ g : Fld, FldAt K H v g ∧ Fld.Ok ws names name g ∧ PyData.eqv (fldD f) (fldD g) = false
theorem ChAt.mt {K : PySem.W.Frag} {H H' : Hp} {cs : List V} {ws names : List Str} {name : Str} {f : Fld} {n : Nat} (s : SmT K H H') (h : ChAt K H cs ws names name f n) : ChAt K H' cs ws names name f n :=
  ⟨h.1, fun v hv => let ⟨g, a, b, c⟩ := h.2 v hv; ⟨g, a.mt s, b, c⟩⟩
theorem ChAt.add {K : PySem.W.Frag} {H : Hp} {cs : List V} {ws names : List Str} {name : Str} {f g : Fld} {n : Nat} {v : V} (h : ChAt K H cs ws names name f n) (a : FldAt K H v g) (b : Fld.Ok ws names name g) (c : PyData.eqv (fldD f) (fldD g) = false) : ChAt K H (cs ++ [v]) ws names name f (n + 1) := by
  refine ⟨by have := h.1; rw [List.length_append, List.length_singleton]; omega, fun x hx => ?_⟩
  rcases List.mem_append.mp hx with q | q
  · exact h.2 x q
  · rw [List.mem_singleton.mp q]
    exact ⟨g, a, b, c⟩
def OthAt (K : PySem.W.Frag) (H : Hp) (rs : List V) (F : Parts) (n : Nat) : Prop := rs.length ≤ n ∧ ∀ v ∈ rs, ∃ (a wa fa : Addr) (G : Parts), v = .ref a ∧ SqT K H a [.ref wa, .ref fa, .int G.room] ∧ SqT K H wa (G.ws.map V.str) ∧ FieldsAt K H fa G.fs ∧ G.Ok ∧ F.same G = false
theorem OthAt.mt {K : PySem.W.Frag} {H H' : Hp} {rs : List V} {F : Parts} {n : Nat} (s : SmT K H H') (h : OthAt K H rs F n) : OthAt K H' rs F n :=
  ⟨h.1, fun v hv => let ⟨a, wa, fa, G, e, t1, t2, t3, o⟩ := h.2 v hv; ⟨a, wa, fa, G, e, s _ _ t1, s _ _ t2, t3.mt s, o⟩⟩
theorem OthAt.add {K : PySem.W.Frag} {H : Hp} {rs : List V} {F G : Parts} {n : Nat} {a wa fa : Addr} (h : OthAt K H rs F n) (t1 : SqT K H a [.ref wa, .ref fa, .int G.room]) (t2 : SqT K H wa (G.ws.map V.str)) (t3 : FieldsAt K H fa G.fs) (o : G.Ok ∧ F.same G = false) : OthAt K H (rs ++ [.ref a]) F (n + 1) := by
  refine ⟨by have := h.1; rw [List.length_append, List.length_singleton]; omega, fun x hx => ?_⟩
  rcases List.mem_append.mp hx with q | q
  · exact h.2 x q
  · rw [List.mem_singleton.mp q]
    exact ⟨a, wa, fa, G, rfl, t1, t2, t3, o⟩
/-- where the two lists stand -/
structure OInv (K : PySem.W.Frag) (H1 H' : Hp) (Fo Co : Addr) (rs cs : List V) (F : Parts) (name : Str) (f : Fld) (m n : Nat) : Prop where
  s : Same H1 H'
  eF : H' Fo = some (.lst rs)
  o : OthAt K H' rs F m
  eC : H' Co = some (.lst cs)
  c : ChAt K H' cs F.ws (F.fs.map (·.1)) name f n
section
variable {K : PySem.W.Frag} {H1 H' H'' : Hp} {Fo Co : Addr} {rs cs : List V} {F : Parts} {name : Str} {f : Fld} {m n : Nat}
theorem OInv.same (x : OInv K H1 H' Fo Co rs cs F name f m n) (s : Same H' H'') : OInv K H1 H'' Fo Co rs cs F name f m n := ⟨x.s.trans s, s _ _ x.eF, x.o.mt (same_smT s), s _ _ x.eC, x.c.mt (same_smT s)⟩
theorem OInv.le {n' m' : Nat} (x : OInv K H1 H' Fo Co rs cs F name f m n) (h : n ≤ n') (h2 : m ≤ m') : OInv K H1 H' Fo Co rs cs F name f m' n' := ⟨x.s, x.eF, ⟨Nat.le_trans x.o.1 h2, x.o.2⟩, x.eC, ⟨Nat.le_trans x.c.1 h, x.c.2⟩⟩
theorem OInv.push {v : V} {g : Fld} (x : OInv K H1 H' Fo Co rs cs F name f m n) (fCo : H1 Co = none) (ne : Fo ≠ Co) (a : FldAt K H' v g) (b : Fld.Ok F.ws (F.fs.map (·.1)) name g) (c : PyData.eqv (fldD f) (fldD g) = false) :
    OInv K H1 (upd H' Co (.lst (cs ++ [v]))) Fo Co rs (cs ++ [v]) F name f m (n + 1) :=
  ⟨fun y o e => (upd_ne (ne_of_none e fCo)).trans (x.s y o e), (upd_ne ne).trans x.eF, x.o.mt (smT_upd x.eC), upd_same, (x.c.mt (smT_upd x.eC)).add (a.mt (smT_upd x.eC)) b c⟩
theorem OInv.pushF {a wa fa : Addr} {G : Parts} (x : OInv K H1 H' Fo Co rs cs F name f m n) (fFo : H1 Fo = none) (ne : Fo ≠ Co) (t1 : SqT K H' a [.ref wa, .ref fa, .int G.room]) (t2 : SqT K H' wa (G.ws.map V.str)) (t3 : FieldsAt K H' fa G.fs) (o : G.Ok ∧ F.same G = false) :
    OInv K H1 (upd H' Fo (.lst (rs ++ [.ref a]))) Fo Co (rs ++ [.ref a]) cs F name f (m + 1) n :=
  ⟨fun y o e => (upd_ne (ne_of_none e fFo)).trans (x.s y o e), upd_same, (x.o.mt (smT_upd x.eF)).add (smT_upd x.eF _ _ t1) (smT_upd x.eF _ _ t2) (t3.mt (smT_upd x.eF)) o, (upd_ne ne.symm).trans x.eC, x.c.mt (smT_upd x.eF)⟩
end
def spOthers (K : PySem.W.Frag) : Sp := fun vs H Q _ => ∃ (b c pa wa fa : Addr) (F : Parts), vs = [.ref b, .ref pa] ∧ BoxAt H b c ∧ F.Ok ∧ SqT K H pa [.ref wa, .ref fa, .int F.room] ∧ PTup H wa (F.ws.map V.str) ∧ FieldsAt K H fa F.fs ∧
  ∀ (H' : Hp) (q : Addr) (rs : List V), Same (hid H b) H' → H' q = some (.lst rs) → OthAt K H' rs F 8 → Q (.ref q) H'
abbrev OSt (b pa wa fa : Addr) (room : Int) (k : Nat) (name : Str) (fv : V) (first : Str) (looks : Option Str) (nv rv : V) (other : Str) (Fo Co : Addr) (made : Option V) : L2.St :=
  [some (.ref b), some (.ref pa), some (.ref wa), some (.ref fa), some (.int room), some (.int (k : Nat)), some (.str name), some fv, some (.str first), some (entV looks), some nv, some rv, some (.str other), some (.ref Fo), some (.ref Co), made]
section
variable {P : Program} {w : World} {K : PySem.W.Frag} {mg : Str → Option Value} {base : Heap}
theorem ok_L_others (T : Txt K mg) : FnOk P w K mg base CX0 3 T.f_L_others T.d_L_others ["_law_box_here", "_law_parts_here"] (spOthers K) := by
  refine T.F_L_others.ok sc_L_others (fun vs H Q E h => ?_) (fun cdv A outer s H vs Q E hr h => ?_)
  · obtain ⟨b, c, pa, wa, fa, F, rfl, _⟩ := h
    rfl
  · obtain ⟨b, c, pa, wa, fa, F, rfl, hB, ok, hpa, hW, hFs, q⟩ := h
    have f1 := ok.f1
    have f3 := ok.f3
    have w2 := ok.w2
    have w3 := ok.w3
    have lW : (F.ws.map V.str).length = F.ws.length := List.length_map _
    obtain ⟨vs, hS, hvl, hx⟩ := hFs.ex
    refine ⟨_, (pss_cons (ps_asg (pv 1) (pg_tupK (K := K) (n := 3) rfl rfl (pgs_cons (pg_name (i := 2) sc_L_others.nd rfl (Or.inl rfl)) (pgs_cons (pg_name (i := 3) sc_L_others.nd rfl (Or.inl rfl)) (pgs_cons (pg_name (i := 4) sc_L_others.nd rfl (Or.inl rfl)) pgs_nil))))) (pss_cons (ps_set (i := 5) sc_L_others.nd rfl (Or.inl rfl) (pe_call (ok_L_draw T) (hr.mono (by decide)) (by rfl) T.g_L_draw T.F_L_draw.kp T.b_L_draw .nil pass0 (pa_cons (pv 0) (pa_cons (pe_callB (call_lenK (K := K) rfl) (by rfl) T.len PySem.boot_len (pa_cons (pv 3) pa_nil)) pa_nil)))) (pss_cons (ps_asg (pe_ix (ix_aK (K := K) rfl) (pv 3) (pv 5) (fun _ _ => rfl)) (pg_tupK (K := K) (n := 2) rfl rfl (pgs_cons (pg_name (i := 6) sc_L_others.nd rfl (Or.inl rfl)) (pgs_cons (pg_name (i := 7) sc_L_others.nd rfl (Or.inl rfl)) pgs_nil)))) (pss_cons (ps_asg (pv 7) (pg_tupK (K := K) (n := 4) rfl rfl (pgs_cons (pg_name (i := 8) sc_L_others.nd rfl (Or.inl rfl)) (pgs_cons (pg_name (i := 9) sc_L_others.nd rfl (Or.inl rfl)) (pgs_cons (pg_name (i := 10) sc_L_others.nd rfl (Or.inl rfl)) (pgs_cons (pg_name (i := 11) sc_L_others.nd rfl (Or.inl rfl)) pgs_nil)))))) (pss_cons (ps_set (i := 12) sc_L_others.nd rfl (Or.inl rfl) (pe_ix (ix_aK (K := K) rfl) (pv 2) (pe_op op_mod (pe_op op_add (pe_bt PySem.F.slot_tuple_index PySem.F.type_tuple_index (mt_tiK (K := K) rfl) (pv 2) (pa_cons (pv 8) pa_nil)) pe_int) (pe_callB (call_lenK (K := K) rfl) (by rfl) T.len PySem.boot_len (pa_cons (pv 2) pa_nil))) (fun _ _ => rfl))) (pss_cons (ps_set (i := 13) sc_L_others.nd rfl (Or.inl rfl) (pe_lst (pa_cons (pe_tup (pa_cons (pv 2) (pa_cons (pv 3) (pa_cons (pe_op op_add pe_int (pe_op op_mod (pv 4) pe_int)) pa_nil)))) pa_nil))) (pss_cons (ps_set (i := 14) sc_L_others.nd rfl (Or.inl rfl) (pe_lst (pa_cons (pe_tup (pa_cons (pv 12) (pa_cons (pv 9) (pa_cons (pv 10) (pa_cons (pv 11) pa_nil))))) pa_nil))) (pss_cons (ps_ifk (pt_cmpR op_isN (pv 9) pe_non (nomark _)) (pss_one (ps_expr (pe_bm PySem.F.plainAttrs_list PySem.F.slot_list_append PySem.F.type_list_append mt_append (pv 14) (pa_cons (pe_tup (pa_cons (pv 8) (pa_cons (pv 9) (pa_cons (pe_call (ok_L_turned T) (hr.mono (by decide)) (by rfl) T.g_L_turned T.F_L_turned.kp T.b_L_turned .nil pass0 (pa_cons (pv 10) pa_nil)) (pa_cons (pv 11) pa_nil))))) pa_nil)))) (pss_cons (ps_expr (pe_bm PySem.F.plainAttrs_list PySem.F.slot_list_append PySem.F.type_list_append mt_append (pv 14) (pa_cons (pe_tup (pa_cons (pv 8) (pa_cons (pv 9) (pa_cons (pe_op (op_catAK (K := K) rfl) (pe_tup (pa_cons (pe_call (ok_L_turned T) (hr.mono (by decide)) (by rfl) T.g_L_turned T.F_L_turned.kp T.b_L_turned .nil pass0 (pa_cons (pe_ix (ix_aK (K := K) rfl) (pv 10) pe_int (fun _ _ => rfl)) pa_nil)) pa_nil)) (pe_slice (sl_tupK (K := K) rfl) (pv 10) (po_some pe_int) po_none)) (pa_cons (pv 11) pa_nil))))) pa_nil))) (pss_one (ps_expr (pe_bm PySem.F.plainAttrs_list PySem.F.slot_list_append PySem.F.type_list_append mt_append (pv 14) (pa_cons (pe_tup (pa_cons (pv 8) (pa_cons pe_non (pa_cons (pe_ix (ix_aK (K := K) rfl) (pv 10) pe_int (fun _ _ => rfl)) (pa_cons (pv 11) pa_nil))))) pa_nil)))))) (pss_cons (ps_ifk (pt_cmpR op_isN (pv 11) pe_non (nomark _)) (pss_one (ps_expr (pe_bm PySem.F.plainAttrs_list PySem.F.slot_list_append PySem.F.type_list_append mt_append (pv 14) (pa_cons (pe_tup (pa_cons (pv 8) (pa_cons (pv 9) (pa_cons (pv 10) (pa_cons (pe_op (op_repTK (K := K) rfl) (pe_tup (pa_cons pe_non pa_nil)) (pe_callB (call_lenK (K := K) rfl) (by rfl) T.len PySem.boot_len (pa_cons (pv 2) pa_nil))) pa_nil))))) pa_nil)))) (pss_cons (ps_expr (pe_bm PySem.F.plainAttrs_list PySem.F.slot_list_append PySem.F.type_list_append mt_append (pv 14) (pa_cons (pe_tup (pa_cons (pv 8) (pa_cons (pv 9) (pa_cons (pv 10) (pa_cons pe_non pa_nil))))) pa_nil))) (pss_one (ps_expr (pe_bm PySem.F.plainAttrs_list PySem.F.slot_list_append PySem.F.type_list_append mt_append (pv 14) (pa_cons (pe_tup (pa_cons (pv 8) (pa_cons (pv 9) (pa_cons (pv 10) (pa_cons (pe_call (ok_L_turned T) (hr.mono (by decide)) (by rfl) T.g_L_turned T.F_L_turned.kp T.b_L_turned .nil pass0 (pa_cons (pv 11) pa_nil)) pa_nil))))) pa_nil)))))) (pss_cons (ps_for PassesOwn.never rfl (pi_listK (K := K) rfl (pv 14)) (pg_name (i := 15) sc_L_others.nd rfl (Or.inl rfl)) (pss_one (ps_expr (pe_bm PySem.F.plainAttrs_list PySem.F.slot_list_append PySem.F.type_list_append mt_append (pv 13) (pa_cons (pe_tup (pa_cons (pv 2) (pa_cons (pe_op (op_catAK (K := K) rfl) (pe_op (op_catAK (K := K) rfl) (pe_slice (sl_tupK (K := K) rfl) (pv 3) po_none (po_some (pv 5))) (pe_tup (pa_cons (pe_tup (pa_cons (pv 6) (pa_cons (pv 15) pa_nil))) pa_nil))) (pe_slice (sl_tupK (K := K) rfl) (pv 3) (po_some (pe_op op_add (pv 5) pe_int)) po_none)) (pa_cons (pv 4) pa_nil)))) pa_nil))))) (pss_cons (ps_expr (pe_bm PySem.F.plainAttrs_list PySem.F.slot_list_append PySem.F.type_list_append mt_append (pv 13) (pa_cons (pe_tup (pa_cons (pe_op (op_catAK (K := K) rfl) (pe_slice (sl_tupK (K := K) rfl) (pv 2) (po_some pe_int) po_none) (pe_slice (sl_tupK (K := K) rfl) (pv 2) po_none (po_some pe_int))) (pa_cons (pv 3) (pa_cons (pv 4) pa_nil)))) pa_nil))) (pss_cons (ps_if (pt_cmpR op_gt (pe_callB (call_lenK (K := K) rfl) (by rfl) T.len PySem.boot_len (pa_cons (pv 3) pa_nil)) pe_int (nomark _)) (pss_one (ps_expr (pe_bm PySem.F.plainAttrs_list PySem.F.slot_list_append PySem.F.type_list_append mt_append (pv 13) (pa_cons (pe_tup (pa_cons (pv 2) (pa_cons (pe_op (op_catAK (K := K) rfl) (pe_slice (sl_tupK (K := K) rfl) (pv 3) (po_some pe_int) po_none) (pe_slice (sl_tupK (K := K) rfl) (pv 3) po_none (po_some pe_int))) (pa_cons (pv 4) pa_nil)))) pa_nil)))) pss_nil) (pss_one (ps_ret (pv 13))))))))))))))), ?_⟩
    show tSeq _ _ _ [_, _, none, none, none, none, none, none, none, none, none, none, none, none, none, none] _
    walk_at "gox_31"
    refine ⟨b, c, _, rfl, by rw [hvl]; omega, by rw [hvl]; omega, hB, fun d H1 d0 d1 hx1 hB1 => ?_⟩
    obtain ⟨k, rfl⟩ : ∃ k : Nat, d = (k : Int) := ⟨d.toNat, by omega⟩
    have hk : k < F.fs.length := by rw [hvl] at d1; omega
    have s1 : Same (hid H b) H1 := hid_but hid_same hx1
    have sT1 : SmT K H H1 := hB.smT s1
    have hS1 := sT1 _ _ hS
    have hW1 := hB.smP s1 hW
    have hWs1 := hW1.sq (K := K)
    have hA1 : All2 (PairAt K H1) vs F.fs := all2_mt sT1 ⟨hvl, hx⟩
    have hkv : k < vs.length := by rw [hvl]; exact hk
    have ef : F.fs[k]? = some F.fs[k] := List.getElem?_eq_getElem hk
    obtain ⟨pq, fv, ep, hpq, hfld⟩ := hA1.2 k vs[k] F.fs[k] (List.getElem?_eq_getElem hkv) ef
    obtain ⟨fa4, nv, rv, rfl, hF4, hnear, hfar⟩ := hfld
    have hok := ok.fld _ (List.getElem_mem hk)
    have hfirst := hok.first
    obtain ⟨oth, eo, hoth, hne⟩ := other_ne ok.wn w2 hok.first
    walk_at "gox_31"
    refine r_ixa (.inr hS1) (atI_nat (by rw [List.getElem?_eq_getElem hkv, ep])) ?_
    walk_at "gox_31"
    have em : (((idx F.ws F.fs[k].2.first : Nat) : Int) + 1) % ((F.ws.map V.str).length : Int) = (((idx F.ws F.fs[k].2.first + 1) % F.ws.length : Nat) : Int) := by rw [lW]; rfl
    rw [em]
    refine r_ixa (.inr hWs1) (atI_nat (by rw [List.getElem?_map, eo]; rfl)) ?_
    walk_at "gox_31"
    intro t0 nt0
    walk_at "gox_31"
    intro Fo nFo
    walk_at "gox_31"
    intro t1 nt1
    walk_at "gox_31"
    intro Co nCo
    have sA : Same H1 (upd (upd H1 t0 (.tup [.ref wa, .ref fa, .int (1 + F.room % 3)])) Fo (.lst [.ref t0])) := (same_new nt0).trans (same_new nFo)
    have sB := sA.trans (same_new (o := .tup [.str oth, entV F.fs[k].2.looks, nv, rv]) nt1)
    have sC := sB.trans (same_new (o := .lst [.ref t1]) nCo)
    have fFo : H1 Fo = none := (same_new nt0).free nFo
    have fCo : H1 Co = none := sB.free nCo
    have eC : (upd (upd (upd (upd H1 t0 (.tup [.ref wa, .ref fa, .int (1 + F.room % 3)])) Fo (.lst [.ref t0])) t1 (.tup [.str oth, entV F.fs[k].2.looks, nv, rv])) Co (.lst [.ref t1])) Co = some (.lst [.ref t1]) := upd_same
    have eF : (upd (upd (upd (upd H1 t0 (.tup [.ref wa, .ref fa, .int (1 + F.room % 3)])) Fo (.lst [.ref t0])) t1 (.tup [.str oth, entV F.fs[k].2.looks, nv, rv])) Co (.lst [.ref t1])) Fo = some (.lst [.ref t0]) := same_new nCo _ _ (same_new nt1 _ _ upd_same)
    have eT : (upd (upd (upd (upd H1 t0 (.tup [.ref wa, .ref fa, .int (1 + F.room % 3)])) Fo (.lst [.ref t0])) t1 (.tup [.str oth, entV F.fs[k].2.looks, nv, rv])) Co (.lst [.ref t1])) t1 = some (.tup [.str oth, entV F.fs[k].2.looks, nv, rv]) := same_new nCo _ _ upd_same
    have eT0 : (upd (upd (upd (upd H1 t0 (.tup [.ref wa, .ref fa, .int (1 + F.room % 3)])) Fo (.lst [.ref t0])) t1 (.tup [.str oth, entV F.fs[k].2.looks, nv, rv])) Co (.lst [.ref t1])) t0 = some (.tup [.ref wa, .ref fa, .int (1 + F.room % 3)]) := same_new nCo _ _ (same_new nt1 _ _ (same_new nFo _ _ upd_same))
    generalize upd (upd (upd (upd H1 t0 _) Fo _) t1 _) Co _ = H5 at sC eC eF eT eT0 ⊢
    have hFC : Fo ≠ Co := fun h => by rw [h, eC] at eF; exact absurd (V.ref.inj (List.cons.inj (HO.lst.inj (Option.some.inj eF))).1) (fun h2 => by rw [h2, eT0] at eT; cases eT)
    have hRo : OthAt K H5 [.ref t0] F 1 := by
      refine ⟨Nat.le_refl _, fun v hv => ?_⟩
      rw [List.mem_singleton.mp hv]
      exact ⟨t0, wa, fa, ⟨F.ws, F.fs, 1 + F.room % 3⟩, rfl, .inl (.inl eT0), same_sqT sC hWs1, (fieldsAt_of hS1 hA1).mono sC, room_other ok⟩
    have hCh : ChAt K H5 [.ref t1] F.ws (F.fs.map (·.1)) F.fs[k].1 F.fs[k].2 1 := by
      refine ⟨Nat.le_refl _, fun v hv => ?_⟩
      rw [List.mem_singleton.mp hv]
      exact ⟨{ F.fs[k].2 with first := oth }, ⟨t1, nv, rv, rfl, .inl (.inl eT), hnear.mono sC, hfar.mono sC⟩, ok_first hok hoth, fld_ne (i := 0) rfl rfl (eqv_str fun h => hne h.symm)⟩
    have I5 : OInv K H1 H5 Fo Co [.ref t0] [.ref t1] F F.fs[k].1 F.fs[k].2 1 1 := ⟨sC, eF, hRo, eC, hCh⟩
    walk_at "gox_31"
    refine if_cut (fun σ' H' => ∃ cs, OInv K H1 H' Fo Co [.ref t0] cs F F.fs[k].1 F.fs[k].2 1 3 ∧ σ' = OSt b pa wa fa F.room k F.fs[k].1 (.ref fa4) F.fs[k].2.first F.fs[k].2.looks nv rv oth Fo Co none) (fun σ' H6 hP => ?_) (fun J => ?_)
    · obtain ⟨cs, I6, rfl⟩ := hP
      walk_at "gox_31"
      refine if_cut (fun σ' H' => ∃ cs, OInv K H1 H' Fo Co [.ref t0] cs F F.fs[k].1 F.fs[k].2 1 5 ∧ σ' = OSt b pa wa fa F.room k F.fs[k].1 (.ref fa4) F.fs[k].2.first F.fs[k].2.looks nv rv oth Fo Co none) (fun σ' H7 hP => ?_) (fun J => ?_)
      · obtain ⟨cs2, I7, rfl⟩ := hP
        walk_at "gox_31"
        refine fl_list (K := K) (a := Co) (xs := cs2) (.inl (.inl I7.eC)) (fun i σ H' => ∃ rs made, OInv K H1 H' Fo Co rs cs2 F F.fs[k].1 F.fs[k].2 (1 + i) 5 ∧ σ = OSt b pa wa fa F.room k F.fs[k].1 (.ref fa4) F.fs[k].2.first F.fs[k].2.looks nv rv oth Fo Co made) ⟨[.ref t0], _, I7, rfl⟩ (fun i σ H' _ h => by obtain ⟨_, _, h, _⟩ := h; exact .inl (.inl h.eC)) ?_ ?_
        · rintro i v σ H' hi ⟨rs, made, I, rfl⟩
          obtain ⟨g, hg, og, ng⟩ := I.c.2 v (List.mem_of_getElem? hi)
          have hi5 : i < 5 := by have h1 := (List.getElem?_eq_some_iff.mp hi).1; have h2 := I.c.1; omega
          have eFo := I.eF
          have hS' := same_sqT I.s hS1
          walk_at "gox_31"
          refine r_slto (k := k) hS' hkv (fun p1 n1 => ?_)
          walk_at "gox_31"
          intro u1 m1
          walk_at "gox_31"
          intro u2 m2
          have sa := (same_new (o := .tup (vs.take k)) n1).trans ((same_new (o := .tup [.str F.fs[k].1, v]) m1).trans (same_new (o := .tup [.ref u1]) m2))
          refine r_catU (xs := vs.take k) (ys := [.ref u1]) (same_sqT ((same_new (o := .tup [.str F.fs[k].1, v]) m1).trans (same_new (o := .tup [.ref u1]) m2)) (.inl (.inl upd_same))) (.inl (.inl upd_same)) (by rw [List.length_take]; show _ + 1 ≤ sizeLine; exact Nat.le_of_lt (small63 (by omega))) (fun p3 H3 s3 hp3 => ?_)
          have hu1 : H3 u1 = some (.tup [.str F.fs[k].1, v]) := s3 _ _ (same_new m2 _ _ upd_same)
          have sb := sa.trans s3
          have hS3 := same_sqT sb hS'
          walk_at "gox_31"
          rw [show ((k : Int) + 1) = ((k + 1 : Nat) : Int) from rfl]
          refine r_slfrom (k := k + 1) hS3 (by omega) (by omega) (fun p4 n4 => ?_)
          refine r_catU (xs := vs.take k ++ [.ref u1]) (ys := vs.drop (k + 1)) (same_sqT (same_new n4) hp3) (.inl (.inl upd_same)) (by rw [List.length_append, List.length_take, List.length_drop]; show _ + 1 + _ ≤ sizeLine; exact Nat.le_of_lt (small63 (by omega))) (fun p5 H5 s5 hp5 => ?_)
          have sc := sb.trans ((same_new n4).trans s5)
          walk_at "gox_31"
          intro t6 nt6
          have sd := sc.trans (same_new (o := .tup [.ref wa, .ref p5, .int F.room]) nt6)
          have I6 := I.same sd
          walk_at "gox_31"
          refine r_app I6.eF (by have := I6.o.1; exact small63 (by omega)) ?_
          walk_at "gox_31"
          have hA6 := all2_mt (same_smT I6.s) hA1
          have hP6 : PairAt K (upd H5 t6 (.tup [.ref wa, .ref p5, .int F.room])) (.ref u1) (F.fs[k].1, g) := ⟨u1, v, rfl, .inl (.inl (same_new nt6 _ _ (s5 _ _ (same_new n4 _ _ hu1)))), hg.mt (same_smT sd)⟩
          refine ⟨_, _, (I6.pushF (G := ⟨F.ws, put F.fs k (F.fs[k].1, g), F.room⟩) fFo hFC (.inl (.inl upd_same)) (same_sqT I6.s hWs1) (fieldsAt_of (same_sqT (same_new nt6) hp5) (all2_append (all2_append (all2_take hA6 k) (all2_one hP6)) (all2_drop hA6 (k + 1)))) (field_other ok hk og ng)).le (Nat.le_refl _) (by omega), rfl⟩
        · rintro σ H' ⟨rs, made, I, rfl⟩
          have hcs := I.c.1
          have eFo := I.eF
          have hS' := same_sqT I.s hS1
          have hW' := same_sqT I.s hWs1
          walk_at "gox_31"
          refine r_slfrom (k := 1) hW' (by decide) (by omega) (fun p1 n1 => ?_)
          have hW2 := same_sqT (same_new (o := .tup ((F.ws.map V.str).drop 1)) n1) hW'
          walk_at "gox_31"
          refine r_slto (k := 1) hW2 (by omega) (fun p2 n2 => ?_)
          refine r_catU (xs := (F.ws.map V.str).drop 1) (ys := (F.ws.map V.str).take 1) (same_sqT (same_new n2) (.inl (.inl upd_same))) (.inl (.inl upd_same)) (by rw [List.length_take, List.length_drop]; exact Nat.le_of_lt (small63 (by omega))) (fun p3 H3 s3 hp3 => ?_)
          have sb := (same_new (o := .tup ((F.ws.map V.str).drop 1)) n1).trans ((same_new (o := .tup ((F.ws.map V.str).take 1)) n2).trans s3)
          walk_at "gox_31"
          intro t4 nt4
          have I4 := I.same (sb.trans (same_new (o := .tup [.ref p3, .ref fa, .int F.room]) nt4))
          walk_at "gox_31"
          refine r_app I4.eF (by have := I4.o.1; exact small63 (by omega)) ?_
          have hrw : (F.ws.map V.str).drop 1 ++ (F.ws.map V.str).take 1 = (rot F.ws).map V.str := by unfold rot; rw [List.map_append, List.map_drop, List.map_take]
          rw [hrw] at hp3
          have I5b := I4.pushF (G := ⟨rot F.ws, F.fs, F.room⟩) fFo hFC (.inl (.inl upd_same)) (same_sqT (same_new nt4) hp3) (fieldsAt_of (same_sqT I4.s hS1) (all2_mt (same_smT I4.s) hA1)) (words_other ok)
          generalize upd (upd H3 t4 _) Fo _ = H6 at I5b ⊢
          have eF6 := I5b.eF
          have hS6 := same_sqT I5b.s hS1
          walk_at "gox_31"
          by_cases h1 : 1 < F.fs.length
          · refine ite_t (decide_eq_true (by rw [hvl]; omega)) ?_
            walk_at "gox_31"
            refine r_slfrom (k := 1) hS6 (by decide) (by omega) (fun q1 m1 => ?_)
            have hS7 := same_sqT (same_new (o := .tup (vs.drop 1)) m1) hS6
            walk_at "gox_31"
            refine r_slto (k := 1) hS7 (by omega) (fun q2 m2 => ?_)
            refine r_catU (xs := vs.drop 1) (ys := vs.take 1) (same_sqT (same_new m2) (.inl (.inl upd_same))) (.inl (.inl upd_same)) (by rw [List.length_take, List.length_drop]; exact Nat.le_of_lt (small63 (by omega))) (fun q3 H7 s7 hq3 => ?_)
            have sc := (same_new (o := .tup (vs.drop 1)) m1).trans ((same_new (o := .tup (vs.take 1)) m2).trans s7)
            walk_at "gox_31"
            intro t8 nt8
            have I8 := I5b.same (sc.trans (same_new (o := .tup [.ref wa, .ref q3, .int F.room]) nt8))
            walk_at "gox_31"
            refine r_app I8.eF (by have := I8.o.1; exact small63 (by omega)) ?_
            walk_at "gox_31"
            have hA8 := all2_mt (same_smT I8.s) hA1
            have I9 := I8.pushF (G := ⟨F.ws, rot F.fs, F.room⟩) fFo hFC (.inl (.inl upd_same)) (same_sqT I8.s hWs1) (fieldsAt_of (same_sqT (same_new nt8) hq3) (all2_append (all2_drop hA8 1) (all2_take hA8 1))) (fields_other ok h1)
            exact q _ Fo _ (s1.trans I9.s) I9.eF ⟨Nat.le_trans I9.o.1 (by omega), I9.o.2⟩
          · refine ite_f (decide_eq_false (by rw [hvl]; omega)) ?_
            walk_at "gox_31"
            exact q _ Fo _ (s1.trans I5b.s) I5b.eF ⟨Nat.le_trans I5b.o.1 (by omega), I5b.o.2⟩
      · have I6' := I6
        unfold FarAt at hfar
        cases er : F.fs[k].2.far with
        | none =>
          rw [er] at hfar
          subst hfar
          have eC6 := I6.eC
          walk_at "gox_31"
          intro t2 nt2
          have hT2 : SqT K (upd H6 t2 (.tup [.non])) t2 [.non] := .inl (.inl upd_same)
          have hWs6 := same_sqT (I6.s.trans (same_new (o := .tup [.non]) nt2)) hWs1
          have eC7 := same_new (o := .tup [.non]) nt2 _ _ eC6
          walk_at "gox_31"
          refine ⟨t2, _, [.non], rfl, rfl, hT2, by simp, by rw [lW]; omega, by rw [lW]; omega, by decide, fun t3 nt3 => ?_⟩
          walk_at "gox_31"
          intro t4 nt4
          have sX := (same_new (o := .tup [.non]) nt2).trans ((same_new (o := .tup (List.replicate ((F.ws.map V.str).length : Int).toNat [V.non]).flatten) nt3).trans (same_new (o := .tup [.str F.fs[k].2.first, entV F.fs[k].2.looks, nv, .ref t3]) nt4))
          have I8 := I6.same sX
          walk_at "gox_31"
          refine r_app I8.eC (by have := I8.c.1; exact small63 (by omega)) ?_
          walk_at "gox_31"
          have hrep : (List.replicate ((F.ws.map V.str).length : Int).toNat [V.non]).flatten = (List.replicate F.ws.length (none : Option Str)).map entV := by
            rw [List.map_replicate, Int.toNat_natCast, lW]
            exact List.flatten_replicate_singleton
          refine J _ _ ⟨_, (I8.push fCo hFC (g := { F.fs[k].2 with far := some (List.replicate F.ws.length none) }) ⟨t4, nv, .ref t3, rfl, .inl (.inl upd_same), hnear.mt (same_smT I8.s), t3, rfl, ?_⟩ (ok_far hok fun x hx => ?_) (fld_ne (i := 3) (x := farD F.fs[k].2) rfl rfl ?_)).le (by omega) (Nat.le_refl _), rfl⟩
          · rw [← hrep]
            exact same_sqT (same_new nt4) (.inl (.inl upd_same))
          · cases hx
            exact ⟨List.length_replicate, fun z hz => by cases (List.mem_replicate.mp hz).2⟩
          · unfold farD
            rw [er]
            show PyData.eqv .none (rowD _) = false
            unfold rowD
            rw [PyData.eqv]
        | some r =>
          rw [er] at hfar
          obtain ⟨xa2, rfl, hX⟩ := hfar
          have eC6 := I6.eC
          have hrl := hok.far r er
          obtain ⟨e0, t, rfl⟩ : ∃ e0 t, r = e0 :: t := by
            match r, hrl.1 with
            | [], h => exact absurd h (by simp; omega)
            | e0 :: t, _ => exact ⟨e0, t, rfl⟩
          have htl : t.length + 1 = F.ws.length := hrl.1
          walk_at "gox_31"
          intro t2 nt2
          have I7 := I6.same (same_new (o := .tup [.str F.fs[k].2.first, entV F.fs[k].2.looks, nv, .non]) nt2)
          walk_at "gox_31"
          refine r_app I7.eC (by have := I7.c.1; exact small63 (by omega)) ?_
          have I8 := I7.push fCo hFC (v := .ref t2) (g := { F.fs[k].2 with far := none }) ⟨t2, nv, .non, rfl, .inl (.inl upd_same), hnear.mt (same_smT I7.s), rfl⟩ (ok_far hok fun x hx => (nomatch hx)) (fld_ne (i := 3) (x := farD F.fs[k].2) rfl rfl (by
            unfold farD
            rw [er]
            show PyData.eqv (rowD _) .none = false
            unfold rowD
            rw [PyData.eqv]))
          generalize upd (upd H6 t2 _) Co _ = H8 at I8 ⊢
          have eC8 := I8.eC
          walk_at "gox_31"
          refine ⟨xa2, e0, t, rfl, same_sqT I8.s hX, by intro h; subst h; simp at htl; omega, by omega, fun H9 p9 s9 hp9 => ?_⟩
          have I9 := I8.same s9
          walk_at "gox_31"
          intro t4 nt4
          have I10 := I9.same (same_new (o := .tup [.str F.fs[k].2.first, entV F.fs[k].2.looks, nv, .ref p9]) nt4)
          walk_at "gox_31"
          refine r_app I10.eC (by have := I10.c.1; exact small63 (by omega)) ?_
          walk_at "gox_31"
          exact J _ _ ⟨_, I10.push fCo hFC (g := { F.fs[k].2 with far := some (turn e0 :: t) }) ⟨t4, nv, .ref p9, rfl, .inl (.inl upd_same), hnear.mt (same_smT I10.s), p9, rfl, same_sqT (same_new nt4) hp9⟩ (ok_far hok fun x hx => by cases hx; exact ⟨hrl.1, turn_ok hrl.2⟩) (fld_ne (i := 3) (x := farD F.fs[k].2) rfl rfl (by
            unfold farD
            rw [er]
            exact row_ne e0 t)), rfl⟩
    · unfold NearAt at hnear
      have eC5 := I5.eC
      cases el : F.fs[k].2.looks with
      | none =>
        rw [el] at hnear
        obtain ⟨xa, rfl, hX⟩ := hnear
        have hnl := hok.alone el
        obtain ⟨e0, t, en⟩ : ∃ e0 t, F.fs[k].2.nearA = e0 :: t := by
          match h : F.fs[k].2.nearA, hnl.1 with
          | [], h2 => exact absurd h2 (by simp; omega)
          | e0 :: t, _ => exact ⟨e0, t, rfl⟩
        have htl : t.length + 1 = F.ws.length := by rw [← hnl.1, en]; rfl
        rw [en] at hX
        walk_at "gox_31"
        refine ⟨xa, e0, t, rfl, same_sqT I5.s hX, by intro h; subst h; simp at htl; omega, by omega, fun H9 p9 s9 hp9 => ?_⟩
        have I9 := I5.same s9
        walk_at "gox_31"
        intro t4 nt4
        have I10 := I9.same (same_new (o := .tup [.str F.fs[k].2.first, .non, .ref p9, rv]) nt4)
        walk_at "gox_31"
        refine r_app I10.eC (by have := I10.c.1; exact small63 (by omega)) ?_
        walk_at "gox_31"
        refine J _ _ ⟨_, (I10.push fCo hFC (g := { F.fs[k].2 with nearA := turn e0 :: t }) ⟨t4, .ref p9, rv, rfl, .inl (.inl ?_), ?_, hfar.mt (same_smT I10.s)⟩ (ok_nearA hok el en) (fld_ne (i := 2) (x := nearD F.fs[k].2) rfl rfl ?_)).le (by omega) (Nat.le_refl _), by rw [el]; rfl⟩
        · show _ = some (HO.tup [.str F.fs[k].2.first, entV F.fs[k].2.looks, .ref p9, rv])
          rw [el]
          exact upd_same
        · unfold NearAt
          show match F.fs[k].2.looks with | none => _ | some _ => _
          rw [el]
          exact ⟨p9, rfl, same_sqT (same_new nt4) hp9⟩
        · unfold nearD
          show PyData.eqv _ (match F.fs[k].2.looks with | none => _ | some _ => _) = false
          rw [el, en]
          exact row_ne e0 t
      | some l =>
        rw [el] at hnear
        obtain ⟨xa, xs, rfl, hX, hxl, hrow⟩ := hnear
        obtain ⟨hnl, hnr⟩ := hok.pairs l el
        obtain ⟨e0, t, rs, en⟩ : ∃ e0 t rs, F.fs[k].2.nearL = (e0 :: t) :: rs := by
          match h : F.fs[k].2.nearL, hnl, hnr with
          | [], h2, _ => exact absurd h2 (by simp; omega)
          | [] :: rs, _, h3 => exact absurd (h3 [] List.mem_cons_self).1 (by simp; omega)
          | (e0 :: t) :: rs, _, _ => exact ⟨e0, t, rs, rfl⟩
        have htl : t.length + 1 = F.ws.length := by have := (hnr (e0 :: t) (by rw [en]; exact List.mem_cons_self)).1; exact this
        obtain ⟨x0, xt, rfl⟩ : ∃ x0 xt, xs = x0 :: xt := by
          match xs, hxl with
          | [], h => rw [en] at h; exact absurd h (by simp)
          | x0 :: xt, _ => exact ⟨x0, xt, rfl⟩
        have hxt : xt.length = rs.length := by rw [en] at hxl; simpa using hxl
        have hrs : rs.length + 1 = F.ws.length := by rw [← hnl, en]; rfl
        obtain ⟨ya, rfl, hY⟩ := hrow 0 x0 (e0 :: t) rfl (by rw [en]; rfl)
        have hX5 := same_sqT I5.s hX
        walk_at "gox_31"
        refine r_ixa (.inr hX5) (show atI (.ref ya :: xt) ((0 : Nat) : Int) = some (.ref ya) from atI_nat rfl) ?_
        walk_at "gox_31"
        refine ⟨ya, e0, t, rfl, same_sqT I5.s hY, by intro h; subst h; simp at htl; omega, by omega, fun H9 p9 s9 hp9 => ?_⟩
        have I9 := I5.same s9
        walk_at "gox_31"
        intro t2 nt2
        have hX9 := same_sqT (I9.s.trans (same_new (o := .tup [.ref p9]) nt2)) hX
        walk_at "gox_31"
        refine r_slfrom (k := 1) hX9 (by decide) (by simp) (fun t3 nt3 => ?_)
        refine r_catU (xs := [.ref p9]) (ys := xt) (.inl (.inl (lk_ne (ne_of_none upd_same nt3) upd_same))) (.inl (.inl upd_same)) (by show 1 + xt.length ≤ sizeLine; exact Nat.le_of_lt (small63 (by omega))) (fun p4 H4 s4 hp4 => ?_)
        have sX := (same_new (o := .tup [.ref p9]) nt2).trans ((same_new nt3).trans s4)
        have I4 := I9.same sX
        walk_at "gox_31"
        intro t5 nt5
        have sY := sX.trans (same_new (o := .tup [.str F.fs[k].2.first, entV (some l), .ref p4, rv]) nt5)
        have I10 := I9.same sY
        walk_at "gox_31"
        refine r_app I10.eC (by have := I10.c.1; exact small63 (by omega)) ?_
        have hF10 : FldAt K (upd H4 t5 (.tup [.str F.fs[k].2.first, entV (some l), .ref p4, rv])) (.ref t5) { F.fs[k].2 with nearL := (turn e0 :: t) :: rs } := by
          refine ⟨t5, .ref p4, rv, rfl, .inl (.inl ?_), ?_, hfar.mt (same_smT I10.s)⟩
          · show _ = some (HO.tup [.str F.fs[k].2.first, entV F.fs[k].2.looks, .ref p4, rv])
            rw [el]
            exact upd_same
          · unfold NearAt
            show match F.fs[k].2.looks with | none => _ | some _ => _
            rw [el]
            refine ⟨p4, .ref p9 :: xt, rfl, same_sqT (same_new nt5) hp4, by rw [List.length_cons, List.length_cons, hxt], fun i x r h1 h2 => ?_⟩
            cases i with
            | zero =>
              cases h1
              cases h2
              exact ⟨p9, rfl, same_sqT sY hp9⟩
            | succ i => exact RowAt.mono I10.s (hrow (i + 1) x r (by simpa using h1) (by rw [en]; simpa using h2))
        have I11 := I10.push fCo hFC hF10 (ok_nearL hok el en) (fld_ne (i := 2) (x := nearD F.fs[k].2) rfl rfl (by
          unfold nearD
          show PyData.eqv _ (match F.fs[k].2.looks with | none => _ | some _ => _) = false
          rw [el, en]
          exact eqv_tup (i := 0) rfl rfl (row_ne e0 t)))
        generalize upd (upd H4 t5 _) Co _ = H11 at I11 ⊢
        have eC11 := I11.eC
        have hX11 := same_sqT I11.s hX
        walk_at "gox_31"
        refine r_ixa (.inr hX11) (show atI (.ref ya :: xt) ((0 : Nat) : Int) = some (.ref ya) from atI_nat rfl) ?_
        walk_at "gox_31"
        intro t6 nt6
        have I12 := I11.same (same_new (o := .tup [.str F.fs[k].2.first, .non, .ref ya, rv]) nt6)
        walk_at "gox_31"
        refine r_app I12.eC (by have := I12.c.1; exact small63 (by omega)) ?_
        walk_at "gox_31"
        exact J _ _ ⟨_, I12.push fCo hFC (g := { F.fs[k].2 with looks := none, nearA := e0 :: t }) ⟨t6, .ref ya, rv, rfl, .inl (.inl upd_same), ⟨ya, rfl, same_sqT I12.s hY⟩, hfar.mt (same_smT I12.s)⟩ (ok_alone hok el en) (fld_ne (i := 1) (x := entD F.fs[k].2.looks) rfl rfl (by
          rw [el]
          show PyData.eqv (.str l) .none = false
          rw [PyData.eqv])), by rw [el]; rfl⟩
end
end Wn


namespace Wn
open PySem PySem.Spec PyProof.Rows L2

local macro_rules | `(tactic| walk_at "gox1_32") => `(tactic| (first
  | walk_at "go1"
  | (with_reducible apply Wn.r_bm)
  | ((with_reducible apply Wn.r_tyl); (focus (walk_at "lk"; done)))
  | ((with_reducible apply Wn.r_ext); (focus (walk_at "lk"; done)); (focus (walk_at "lk"; done)); (focus ((with_unfolding_all first | (simp only [List.length_cons, List.length_nil, List.length_append]; decide) | fail); done)))
  | ((with_reducible apply Wn.r_cat); (focus (walk_at "lk"; done)); (focus (walk_at "lk"; done)); (focus ((with_unfolding_all first | (simp only [List.length_cons, List.length_nil, List.length_append]; decide) | fail); done)))
  | (with_reducible apply Wn.r_make)
  | ((with_reducible apply Wn.r_inF); (focus ((first | exact Or.inl (by assumption) | exact Or.inr (by assumption) | fail); done)))
  | ((with_reducible apply Wn.r_inT); (focus ((first | exact Or.inl (by assumption) | exact Or.inr (by assumption) | fail); done)))
  | (with_reducible apply Wn.r_chain)
  | (with_reducible apply Wn.r_bt)
  | (with_reducible apply Wn.r_fld)
  | (with_reducible apply Wn.r_meth)
  | ((with_reducible apply Wn.r_pt); (focus ((first | assumption | fail); done)))
  | ((with_reducible apply Wn.r_ti); (focus ((first | assumption | exact Wn.PTup.sq (by assumption) | fail); done)); (focus ((first | assumption | fail); done)))
  | ((with_reducible apply Wn.r_tupT); (focus ((assumption); done)))
  | ((with_reducible apply Wn.r_gtup); (focus ((first | assumption | fail); done)); (focus ((with_unfolding_all first | exact rfl | fail); done)))
  | (with_reducible apply Wn.r_gcons)
  | (with_reducible apply Wn.r_gnil)
  | (with_reducible apply Wn.r_for)
  | ((with_reducible apply Wn.r_ixa); (focus ((first | exact Or.inl (L2.SqL.of (by walk_at "lk")) | exact Or.inr (L2.SqT.of (by walk_at "lk")) | exact Or.inr (by assumption) | exact Or.inl (by assumption) | fail); done)); (focus ((with_unfolding_all first | exact rfl | fail); done)))
  | (with_reducible apply Wn.r_lc)
  | (with_reducible apply Wn.r_rng1)
  | (with_reducible apply Wn.r_ilist)
  | (with_reducible apply Wn.r_itup)
  | (with_reducible apply Wn.r_istr)
  | (with_reducible apply Wn.r_tsl)
  | (with_reducible apply Wn.r_nopart)
  | (with_reducible apply Wn.r_part)
  | (with_reducible apply Wn.r_exint)))
local macro_rules | `(tactic| walk_at "gox_32") => `(tactic| repeat (walk_at "gox1_32"))
def spLaw (K : PySem.W.Frag) : Sp := fun vs H Q _ => ∃ (a : Addr) (ns : List Int), vs = [.ref a] ∧ SqL K H a (ns.map V.int) ∧ ns.length ≤ 63 ∧ ∀ H', Q (.bl true) H'
section
variable {K : PySem.W.Frag} {mg : Str → Option Value} {T : Txt K mg} {H H' : Hp} {Q : VK}
theorem FormS.hid {p wa fa b c : Addr} {F : Parts} (x : FormS T H p wa fa F) (hB : BoxAt H b c) (s : Same (hid H b) H') : FormS T H' p wa fa F := by
  obtain ⟨ys, eb⟩ := hB.lst
  obtain ⟨dx, e⟩ := x.ob
  exact ⟨x.ok, ⟨dx, s _ _ (hid_some e (ne_of e eb (by intro z; cases z)))⟩, hB.smT s _ _ x.w, x.f.mt (hB.smT s)⟩
theorem r_eqI {E : XK} {a b wa fa wb fb : Addr} {F G : Parts} {neg : Bool} (hA : FormS T H a wa fa F) (hB : FormS T H b wb fb G) (q : Q (.bl (if neg = true then !F.same G else F.same G)) H) : rOwnI T.C (spEq T) E neg (.ref a) (.ref b) H Q :=
  let ⟨dx, ea⟩ := hA.ob
  let ⟨dy, eb⟩ := hB.ob
  ⟨a, dx, _, b, dy, _, rfl, rfl, ea, eb, a, b, wa, fa, F, wb, fb, G, rfl, hA, hB, _, rfl, q⟩
end
section
variable {P : Program} {w : World} {K : PySem.W.Frag} {mg : Str → Option Value} {base : Heap}
theorem ok_law (T : Txt K mg) {f : Addr} {fd : FuncData} (F : Fun K "law" "law" s_law f fd) : FnOk P w K mg base CX0 13 f fd ["_law_script"] (spLaw K) := by
  refine F.ok sc_law (fun vs H Q E h => ?_) (fun cdv A outer s H vs Q E hr h => ?_)
  · obtain ⟨a, ns, rfl, _⟩ := h
    rfl
  · obtain ⟨a, ns, rfl, hS, h63, q⟩ := h
    obtain ⟨mv, hbP⟩ := kb_plain T.F_init
    refine ⟨_, (pss_cons (ps_set (i := 1) sc_law.nd rfl (Or.inl rfl) (pe_call (ok_L_box T) (hr.mono (by decide)) (by rfl) T.g_L_box T.F_L_box.kp T.b_L_box .nil pass0 (pa_cons (pv 0) pa_nil))) (pss_cons (ps_set (i := 2) sc_law.nd rfl (Or.inl rfl) (pe_call (ok_L_parts T) (hr.mono (by decide)) (by rfl) T.g_L_parts T.F_L_parts.kp T.b_L_parts .nil pass0 (pa_cons (pv 1) pa_nil))) (pss_cons (ps_set (i := 3) sc_law.nd rfl (Or.inl rfl) (pe_makeK T.M (ok_Form_init T) (hr.mono (by decide)) (by rfl) T.g_Form (kb_room T.F_init) pass0 (pa_cons (pe_ix (ix_aK (K := K) rfl) (pv 2) pe_int (fun _ _ => rfl)) (pa_cons (pe_ix (ix_aK (K := K) rfl) (pv 2) pe_int (fun _ _ => rfl)) pa_nil)) (pk_cons (pe_ix (ix_aK (K := K) rfl) (pv 2) pe_int (fun _ _ => rfl)) pk_nil))) (pss_cons (ps_set (i := 4) sc_law.nd rfl (Or.inl rfl) (pe_makeK T.M (ok_Form_init T) (hr.mono (by decide)) (by rfl) T.g_Form hbP pass0 (pa_cons (pe_ix (ix_aK (K := K) rfl) (pv 2) pe_int (fun _ _ => rfl)) (pa_cons (pe_ix (ix_aK (K := K) rfl) (pv 2) pe_int (fun _ _ => rfl)) pa_nil)) pk_nil)) (pss_cons (ps_if (PW.pt (pw_or (pt_not (pt_val (pe_call (ok_L_tells T) (hr.mono (by decide)) (by rfl) T.g_L_tells T.F_L_tells.kp T.b_L_tells .nil pass0 (pa_cons (pv 3) (pa_cons (pv 2) pa_nil))))) (pw_or1 (pt_not (pt_val (pe_call (ok_L_tells T) (hr.mono (by decide)) (by rfl) T.g_L_tells T.F_L_tells.kp T.b_L_tells .nil pass0 (pa_cons (pv 4) (pa_cons (pe_op (op_catAK (K := K) rfl) (pe_slice (sl_tupK (K := K) rfl) (pv 2) po_none (po_some pe_int)) (pe_tup (pa_cons pe_int pa_nil))) pa_nil)))))))) (pss_one (ps_ret pe_bl)) pss_nil) (pss_cons (ps_set (i := 5) sc_law.nd rfl (Or.inl rfl) (pe_makeK T.M (ok_Form_init T) (hr.mono (by decide)) (by rfl) T.g_Form (kb_room T.F_init) pass0 (pa_cons (pe_ix (ix_aK (K := K) rfl) (pv 2) pe_int (fun _ _ => rfl)) (pa_cons (pe_ix (ix_aK (K := K) rfl) (pv 2) pe_int (fun _ _ => rfl)) pa_nil)) (pk_cons (pe_ix (ix_aK (K := K) rfl) (pv 2) pe_int (fun _ _ => rfl)) pk_nil))) (pss_cons (ps_if (PW.pt (pw_or (pt_not (pt_cmpR (op_eqI (K := K) rfl T.oe (ok_Form_eq T) T.b_Form_eq (hr.mono (by decide)) pass0) (pv 3) (pv 5) (nomark _))) (pw_or (pt_cmpR (op_neI (K := K) rfl T.oe (ok_Form_eq T) T.b_Form_eq (hr.mono (by decide)) pass0) (pv 3) (pv 5) (nomark _)) (pw_or1 (pt_cmpR op_ne (pe_cmpR (op_eqI (K := K) rfl T.oe (ok_Form_eq T) T.b_Form_eq (hr.mono (by decide)) pass0) (pv 4) (pv 3) (nomark _)) (pe_cmpR op_eq (pe_ix (ix_aK (K := K) rfl) (pv 2) pe_int (fun _ _ => rfl)) pe_int (nomark _)) (nomark _)))))) (pss_one (ps_ret pe_bl)) pss_nil) (pss_cons (ps_for PassesOwn.never rfl (pi_listK (K := K) rfl (pe_call (ok_L_others T) (hr.mono (by decide)) (by rfl) T.g_L_others T.F_L_others.kp T.b_L_others .nil pass0 (pa_cons (pv 1) (pa_cons (pv 2) pa_nil)))) (pg_name (i := 6) sc_law.nd rfl (Or.inl rfl)) (pss_cons (ps_set (i := 7) sc_law.nd rfl (Or.inl rfl) (pe_makeK T.M (ok_Form_init T) (hr.mono (by decide)) (by rfl) T.g_Form (kb_room T.F_init) pass0 (pa_cons (pe_ix (ix_aK (K := K) rfl) (pv 6) pe_int (fun _ _ => rfl)) (pa_cons (pe_ix (ix_aK (K := K) rfl) (pv 6) pe_int (fun _ _ => rfl)) pa_nil)) (pk_cons (pe_ix (ix_aK (K := K) rfl) (pv 6) pe_int (fun _ _ => rfl)) pk_nil))) (pss_one (ps_if (PW.pt (pw_or (pt_cmpR (op_eqI (K := K) rfl T.oe (ok_Form_eq T) T.b_Form_eq (hr.mono (by decide)) pass0) (pv 3) (pv 7) (nomark _)) (pw_or (pt_cmpR (op_eqI (K := K) rfl T.oe (ok_Form_eq T) T.b_Form_eq (hr.mono (by decide)) pass0) (pv 7) (pv 3) (nomark _)) (pw_or1 (pt_not (pt_val (pe_call (ok_L_tells T) (hr.mono (by decide)) (by rfl) T.g_L_tells T.F_L_tells.kp T.b_L_tells .nil pass0 (pa_cons (pv 7) (pa_cons (pv 6) pa_nil))))))))) (pss_one (ps_ret pe_bl)) pss_nil)))) (pss_one (ps_ret (pe_and (pe_call (ok_L_tells T) (hr.mono (by decide)) (by rfl) T.g_L_tells T.F_L_tells.kp T.b_L_tells .nil pass0 (pa_cons (pv 3) (pa_cons (pv 2) pa_nil))) (pe_one (pe_cmpR (op_eqI (K := K) rfl T.oe (ok_Form_eq T) T.b_Form_eq (hr.mono (by decide)) pass0) (pv 3) (pv 5) (nomark _)))))))))))))), ?_⟩
    show tSeq _ _ _ [_, none, none, none, none, none, none, none] _
    walk_at "gox_32"
    refine ⟨a, ns, rfl, hS, h63, fun H1 b c s1 nb nc hB => ?_⟩
    walk_at "gox_32"
    refine ⟨b, c, rfl, hB, fun H2 q2 wa fa F ok s2 hB2 n2 hW hF e2 => ?_⟩
    have hq2 : SqT K H2 q2 [.ref wa, .ref fa, .int F.room] := .inl (.inl e2)
    walk_at "gox_32"
    refine ⟨rfl, rfl, fun x dx nx ndx ne => ?_⟩
    have sx := (same_new (o := .own x) ndx).trans (same_new (o := .ins T.C dx []) (by rw [upd_ne ne.symm]; exact nx))
    refine ⟨x, dx, wa, fa, F, rfl, upd_same, ok, same_sqT sx hW.sq, hF.mono sx, fun H4 k4 e4 => ⟨rfl, ?_⟩⟩
    obtain ⟨s4, hP⟩ := make_formS ok hW.sq hF nx ndx ne k4 e4
    have hW4 := hW.mono s4
    have hF4 := hF.mono s4
    have hq4 := same_sqT s4 hq2
    have hB4 := hB2.mono s4
    walk_at "gox_32"
    refine ⟨rfl, rfl, fun y dy ny ndy ney => ?_⟩
    have sy := (same_new (o := .own y) ndy).trans (same_new (o := .ins T.C dy []) (by rw [upd_ne ney.symm]; exact ny))
    have ok3 : Parts.Ok ⟨F.ws, F.fs, 3⟩ := ⟨ok.w2, ok.w3, ok.wn, ok.wk, ok.f1, ok.f3, ok.fn, ok.fk, ok.fld, by show (1 : Int) ≤ 3; decide, by show (3 : Int) ≤ 3; decide⟩
    refine ⟨y, dy, wa, fa, ⟨F.ws, F.fs, 3⟩, rfl, upd_same, ok3, same_sqT sy hW4.sq, hF4.mono sy, fun H5 k5 e5 => ⟨rfl, ?_⟩⟩
    obtain ⟨s5, hY⟩ := make_formS ok3 hW4.sq hF4 ny ndy ney k5 e5
    have hX5 := hP.mono s5
    have hW5 := hW4.mono s5
    have hF5 := hF4.mono s5
    have hq5 := same_sqT s5 hq4
    have hB5 := hB4.mono s5
    walk_at "gox_32"
    refine ⟨x, q2, wa, fa, wa, fa, F, rfl, hX5, hq5, hW5.sq, hF5, fun H6 s6 => ?_⟩
    have hq6 := same_sqT s6 hq5
    walk_at "gox_32"
    refine r_slto (k := 2) hq6 (by show 2 < 3; decide) (fun p1 n1 => ?_)
    walk_at "gox_32"
    intro p2 n2'
    refine r_catU (xs := [.ref wa, .ref fa]) (ys := [.int 3]) (same_sqT (same_new n2') (.inl (.inl upd_same))) (.inl (.inl upd_same)) (by show 3 ≤ sizeLine; decide) (fun p3 H7 s7 hp3 => ?_)
    have s57 := s6.trans ((same_new (o := .tup [.ref wa, .ref fa]) n1).trans ((same_new (o := .tup [.int 3]) n2').trans s7))
    walk_at "gox_32"
    refine ⟨y, p3, wa, fa, wa, fa, ⟨F.ws, F.fs, 3⟩, rfl, hY.mono s57, hp3, hW5.sq.elim (fun h => same_sqT s57 (.inl h)) (fun h => .inr h), hF5.mono s57, fun H8 s8 => ?_⟩
    have s58 := s57.trans s8
    have hX8 := hX5.mono s58
    have hY8 := hY.mono s58
    have hW8 := hW5.mono s58
    have hF8 := hF5.mono s58
    have hq8 := same_sqT s58 hq5
    have hB8 := hB5.mono s58
    walk_at "gox_32"
    refine ⟨rfl, rfl, fun z dz nz ndz nez => ?_⟩
    have sz := (same_new (o := .own z) ndz).trans (same_new (o := .ins T.C dz []) (by rw [upd_ne nez.symm]; exact nz))
    refine ⟨z, dz, wa, fa, F, rfl, upd_same, ok, same_sqT sz hW8.sq, hF8.mono sz, fun H9 k9 e9 => ⟨rfl, ?_⟩⟩
    obtain ⟨s9, hZ⟩ := make_formS ok hW8.sq hF8 nz ndz nez k9 e9
    have hX9 := hX8.mono s9
    have hY9 := hY8.mono s9
    have hW9 := hW8.mono s9
    have hF9 := hF8.mono s9
    have hq9 := same_sqT s9 hq8
    have hB9 := hB8.mono s9
    walk_at "gox_32"
    refine r_eqI hX9 hZ ?_
    rw [if_neg Bool.false_ne_true, same_refl ok]
    walk_at "gox_32"
    refine r_eqI hX9 hZ ?_
    rw [if_pos rfl, same_refl ok]
    walk_at "gox_32"
    refine r_eqI hY9 hX9 ?_
    have e3 : (⟨F.ws, F.fs, 3⟩ : Parts).same F = decide (V.int F.room = V.int 3) := by
      unfold Parts.same
      rw [SeqAt.eqv_refl _ (words_lay ok.wk), SeqAt.eqv_refl _ (fields_lay ok)]
      show decide ((3 : Int) = F.room) = _
      exact decide_eq_decide.mpr ⟨fun h => by rw [h], fun h => (V.int.inj h).symm⟩
    rw [if_neg Bool.false_ne_true, e3]
    walk_at "gox_32"
    refine ⟨b, c, q2, wa, fa, F, rfl, hB9, ok, hq9, hW9, hF9, fun H10 ql rs s10 eql hO => ?_⟩
    have hX10 := hX9.hid hB9 s10
    have hZ10 := hZ.hid hB9 s10
    have hq10 := hB9.smT s10 _ _ hq9
    have hW10 := hB9.smP s10 hW9
    have hF10 := hF9.mt (hB9.smT s10)
    walk_at "gox_32"
    refine fl_list (K := K) (a := ql) (xs := rs) (.inl (.inl eql)) (fun i σ H' => Same H10 H' ∧ ∃ v6 v7, σ = [some (.ref a), some (.ref b), some (.ref q2), some (.ref x), some (.ref y), some (.ref z), v6, v7]) ⟨Same.refl _, _, _, rfl⟩ (fun i σ H' _ h => .inl (.inl (h.1 _ _ eql))) ?_ ?_
    · rintro i v σ H' hi ⟨sm, v6, v7, rfl⟩
      obtain ⟨ao, wo, fo, G, rfl, ho, hwo, hfo, okG, neG⟩ := (hO.mt (same_smT sm)).2 v (List.mem_of_getElem? hi)
      have hX' := hX10.mono sm
      walk_at "gox_32"
      refine ⟨rfl, rfl, fun u du nu ndu neu => ?_⟩
      have su := (same_new (o := .own u) ndu).trans (same_new (o := .ins T.C du []) (by rw [upd_ne neu.symm]; exact nu))
      refine ⟨u, du, wo, fo, G, rfl, upd_same, okG, same_sqT su hwo, hfo.mono su, fun H12 k12 e12 => ⟨rfl, ?_⟩⟩
      obtain ⟨s12, hU⟩ := make_formS okG hwo hfo nu ndu neu k12 e12
      have hX12 := hX'.mono s12
      walk_at "gox_32"
      refine r_eqI hX12 hU ?_
      rw [if_neg Bool.false_ne_true, neG]
      walk_at "gox_32"
      refine r_eqI hU hX12 ?_
      rw [if_neg Bool.false_ne_true, same_comm, neG]
      walk_at "gox_32"
      refine ⟨u, ao, wo, fo, wo, fo, G, rfl, hU, same_sqT s12 ho, same_sqT s12 hwo, hfo.mono s12, fun H13 s13 => ?_⟩
      walk_at "gox_32"
      exact ⟨sm.trans (s12.trans s13), _, _, rfl⟩
    · rintro σ H' ⟨sm, v6, v7, rfl⟩
      have hX' := hX10.mono sm
      walk_at "gox_32"
      refine ⟨x, q2, wa, fa, wa, fa, F, rfl, hX', same_sqT sm hq10, same_sqT sm hW10.sq, hF10.mono sm, fun H13 s13 => ?_⟩
      walk_at "gox_32"
      refine r_eqI (hX'.mono s13) ((hZ10.mono sm).mono s13) ?_
      rw [if_neg Bool.false_ne_true, same_refl ok]
      exact q _
end
end Wn


namespace Wn
open PySem PySem.Spec PyProof.Rows L2
theorem all_mk {l : PySem.W.OpenLaw} {w : World} {K : PySem.W.Frag} {h : Heap} {mg : Str → Option Value} {fa : Addr} {C KD f0 f1 f2 f3 f4 f5 f6 f7 f8 f9 f10 f11 f12 f13 f14 f15 f16 f17 f18 f19 f20 f21 f22 g0 g1 g2 g3 g4 : Addr} {kt : Tok}
    {od0 an0 od1 an1 od2 an2 od3 an3 od4 an4 od5 an5 od6 an6 od7 an7 od8 an8 od9 an9 od10 an10 od11 an11 od12 an12 od13 an13 od14 an14 od15 an15 od16 an16 od17 an17 od18 an18 od19 an19 od20 an20 od21 an21 od22 an22 gd0 gn0 gd1 gn1 gd2 gn2 gd3 gn3 gd4 gn4 : Option Addr} {sl0 sl1 sl2 sl3 sl4 sl5 sl6 sl7 sl8 sl9 sl10 sl11 sl12 sl13 sl14 sl15 sl16 sl17 sl18 sl19 sl20 sl21 sl22 gs0 gs1 gs2 gs3 gs4 : Array (Option Value)} {oc0 kV0 dc0 pm0 cd0 ct0 oc1 kV1 dc1 pm1 cd1 ct1 oc2 kV2 dc2 pm2 cd2 ct2 oc3 kV3 dc3 pm3 cd3 ct3 oc4 kV4 dc4 pm4 cd4 ct4 oc5 kV5 dc5 pm5 cd5 ct5 oc6 kV6 dc6 pm6 cd6 ct6 oc7 kV7 dc7 pm7 cd7 ct7 oc8 kV8 dc8 pm8 cd8 ct8 oc9 kV9 dc9 pm9 cd9 ct9 oc10 kV10 dc10 pm10 cd10 ct10 oc11 kV11 dc11 pm11 cd11 ct11 oc12 kV12 dc12 pm12 cd12 ct12 oc13 kV13 dc13 pm13 cd13 ct13 oc14 kV14 dc14 pm14 cd14 ct14 oc15 kV15 dc15 pm15 cd15 ct15 oc16 kV16 dc16 pm16 cd16 ct16 oc17 kV17 dc17 pm17 cd17 ct17 oc18 kV18 dc18 pm18 cd18 ct18 oc19 kV19 dc19 pm19 cd19 ct19 oc20 kV20 dc20 pm20 cd20 ct20 oc21 kV21 dc21 pm21 cd21 ct21 oc22 kV22 dc22 pm22 cd22 ct22 go0 gc0 gp0 ge0 gt0 go1 gk1 gc1 gp1 ge1 gt1 go2 gk2 gc2 gp2 ge2 gt2 go3 gk3 gc3 gp3 ge3 gt3 go4 gk4 gc4 gp4 ge4 gt4 : Value}
    (X : K.In h) (G : h.Ns mainGlobals mg) (hfa : mg "law" = some (.ref fa))
    (a0 : PySem.W.nsIn K mainGlobals "is_name" = some (some (.ref f0)))
    (l0 : K.lookup f0 = some ⟨oc0, od0, .func (PySem.W.fnOf "is_name" "is_name" (defArgs s_is_name) (defBody s_is_name) (defScope s_is_name) .none kV0 dc0 pm0 an0 cd0 ct0), sl0⟩)
    (c0 : PySem.W.codeIn K cd0 "is_name" = true)
    (k0 : PySem.W.keepIn K (.ref f0) = true)
    (a1 : PySem.W.nsIn K mainGlobals "is_whole" = some (some (.ref f1)))
    (l1 : K.lookup f1 = some ⟨oc1, od1, .func (PySem.W.fnOf "is_whole" "is_whole" (defArgs s_is_whole) (defBody s_is_whole) (defScope s_is_whole) .none kV1 dc1 pm1 an1 cd1 ct1), sl1⟩)
    (c1 : PySem.W.codeIn K cd1 "is_whole" = true)
    (k1 : PySem.W.keepIn K (.ref f1) = true)
    (a2 : PySem.W.nsIn K mainGlobals "has_items" = some (some (.ref f2)))
    (l2 : K.lookup f2 = some ⟨oc2, od2, .func (PySem.W.fnOf "has_items" "has_items" (defArgs s_has_items) (defBody s_has_items) (defScope s_has_items) .none kV2 dc2 pm2 an2 cd2 ct2), sl2⟩)
    (c2 : PySem.W.codeIn K cd2 "has_items" = true)
    (k2 : PySem.W.keepIn K (.ref f2) = true)
    (a3 : PySem.W.nsIn K mainGlobals "are_names" = some (some (.ref f3)))
    (l3 : K.lookup f3 = some ⟨oc3, od3, .func (PySem.W.fnOf "are_names" "are_names" (defArgs s_are_names) (defBody s_are_names) (defScope s_are_names) .none kV3 dc3 pm3 an3 cd3 ct3), sl3⟩)
    (c3 : PySem.W.codeIn K cd3 "are_names" = true)
    (k3 : PySem.W.keepIn K (.ref f3) = true)
    (a4 : PySem.W.nsIn K mainGlobals "names_of" = some (some (.ref f4)))
    (l4 : K.lookup f4 = some ⟨oc4, od4, .func (PySem.W.fnOf "names_of" "names_of" (defArgs s_names_of) (defBody s_names_of) (defScope s_names_of) .none kV4 dc4 pm4 an4 cd4 ct4), sl4⟩)
    (c4 : PySem.W.codeIn K cd4 "names_of" = true)
    (k4 : PySem.W.keepIn K (.ref f4) = true)
    (a5 : PySem.W.nsIn K mainGlobals "check_parts" = some (some (.ref f5)))
    (l5 : K.lookup f5 = some ⟨oc5, od5, .func (PySem.W.fnOf "check_parts" "check_parts" (defArgs s_check_parts) (defBody s_check_parts) (defScope s_check_parts) .none kV5 dc5 pm5 an5 cd5 ct5), sl5⟩)
    (c5 : PySem.W.codeIn K cd5 "check_parts" = true)
    (k5 : PySem.W.keepIn K (.ref f5) = true)
    (a6 : PySem.W.nsIn K mainGlobals "are_form_words" = some (some (.ref f6)))
    (l6 : K.lookup f6 = some ⟨oc6, od6, .func (PySem.W.fnOf "are_form_words" "are_form_words" (defArgs s_are_form_words) (defBody s_are_form_words) (defScope s_are_form_words) .none kV6 dc6 pm6 an6 cd6 ct6), sl6⟩)
    (c6 : PySem.W.codeIn K cd6 "are_form_words" = true)
    (k6 : PySem.W.keepIn K (.ref f6) = true)
    (a7 : PySem.W.nsIn K mainGlobals "are_form_fields" = some (some (.ref f7)))
    (l7 : K.lookup f7 = some ⟨oc7, od7, .func (PySem.W.fnOf "are_form_fields" "are_form_fields" (defArgs s_are_form_fields) (defBody s_are_form_fields) (defScope s_are_form_fields) .none kV7 dc7 pm7 an7 cd7 ct7), sl7⟩)
    (c7 : PySem.W.codeIn K cd7 "are_form_fields" = true)
    (k7 : PySem.W.keepIn K (.ref f7) = true)
    (a8 : PySem.W.nsIn K mainGlobals "wrong_part" = some (some (.ref f8)))
    (l8 : K.lookup f8 = some ⟨oc8, od8, .func (PySem.W.fnOf "wrong_part" "wrong_part" (defArgs s_wrong_part) (defBody s_wrong_part) (defScope s_wrong_part) .none kV8 dc8 pm8 an8 cd8 ct8), sl8⟩)
    (c8 : PySem.W.codeIn K cd8 "wrong_part" = true)
    (k8 : PySem.W.keepIn K (.ref f8) = true)
    (a9 : PySem.W.nsIn K mainGlobals "is_near" = some (some (.ref f9)))
    (l9 : K.lookup f9 = some ⟨oc9, od9, .func (PySem.W.fnOf "is_near" "is_near" (defArgs s_is_near) (defBody s_is_near) (defScope s_is_near) .none kV9 dc9 pm9 an9 cd9 ct9), sl9⟩)
    (c9 : PySem.W.codeIn K cd9 "is_near" = true)
    (k9 : PySem.W.keepIn K (.ref f9) = true)
    (a10 : PySem.W.nsIn K mainGlobals "is_entry_row" = some (some (.ref f10)))
    (l10 : K.lookup f10 = some ⟨oc10, od10, .func (PySem.W.fnOf "is_entry_row" "is_entry_row" (defArgs s_is_entry_row) (defBody s_is_entry_row) (defScope s_is_entry_row) .none kV10 dc10 pm10 an10 cd10 ct10), sl10⟩)
    (c10 : PySem.W.codeIn K cd10 "is_entry_row" = true)
    (k10 : PySem.W.keepIn K (.ref f10) = true)
    (a11 : PySem.W.nsIn K mainGlobals "_law_mix" = some (some (.ref f11)))
    (l11 : K.lookup f11 = some ⟨oc11, od11, .func (PySem.W.fnOf "_law_mix" "_law_mix" (defArgs sMix) (defBody sMix) (defScope sMix) .none kV11 dc11 pm11 an11 cd11 ct11), sl11⟩)
    (c11 : PySem.W.codeIn K cd11 "_law_mix" = true)
    (k11 : PySem.W.keepIn K (.ref f11) = true)
    (a12 : PySem.W.nsIn K mainGlobals "_law_box" = some (some (.ref f12)))
    (l12 : K.lookup f12 = some ⟨oc12, od12, .func (PySem.W.fnOf "_law_box" "_law_box" (defArgs sBox) (defBody sBox) (defScope sBox) .none kV12 dc12 pm12 an12 cd12 ct12), sl12⟩)
    (c12 : PySem.W.codeIn K cd12 "_law_box" = true)
    (k12 : PySem.W.keepIn K (.ref f12) = true)
    (a13 : PySem.W.nsIn K mainGlobals "_law_draw" = some (some (.ref f13)))
    (l13 : K.lookup f13 = some ⟨oc13, od13, .func (PySem.W.fnOf "_law_draw" "_law_draw" (defArgs sDraw) (defBody sDraw) (defScope sDraw) .none kV13 dc13 pm13 an13 cd13 ct13), sl13⟩)
    (c13 : PySem.W.codeIn K cd13 "_law_draw" = true)
    (k13 : PySem.W.keepIn K (.ref f13) = true)
    (a14 : PySem.W.nsIn K mainGlobals "_law_same" = some (some (.ref f14)))
    (l14 : K.lookup f14 = some ⟨oc14, od14, .func (PySem.W.fnOf "_law_same" "_law_same" (defArgs sSame) (defBody sSame) (defScope sSame) .none kV14 dc14 pm14 an14 cd14 ct14), sl14⟩)
    (c14 : PySem.W.codeIn K cd14 "_law_same" = true)
    (k14 : PySem.W.keepIn K (.ref f14) = true)
    (a15 : PySem.W.nsIn K mainGlobals "_law_names" = some (some (.ref f15)))
    (l15 : K.lookup f15 = some ⟨oc15, od15, .func (PySem.W.fnOf "_law_names" "_law_names" (defArgs s_L_names) (defBody s_L_names) (defScope s_L_names) .none kV15 dc15 pm15 an15 cd15 ct15), sl15⟩)
    (c15 : PySem.W.codeIn K cd15 "_law_names" = true)
    (k15 : PySem.W.keepIn K (.ref f15) = true)
    (a16 : PySem.W.nsIn K mainGlobals "_law_entries" = some (some (.ref f16)))
    (l16 : K.lookup f16 = some ⟨oc16, od16, .func (PySem.W.fnOf "_law_entries" "_law_entries" (defArgs s_L_entries) (defBody s_L_entries) (defScope s_L_entries) .none kV16 dc16 pm16 an16 cd16 ct16), sl16⟩)
    (c16 : PySem.W.codeIn K cd16 "_law_entries" = true)
    (k16 : PySem.W.keepIn K (.ref f16) = true)
    (a17 : PySem.W.nsIn K mainGlobals "_law_field" = some (some (.ref f17)))
    (l17 : K.lookup f17 = some ⟨oc17, od17, .func (PySem.W.fnOf "_law_field" "_law_field" (defArgs s_L_field) (defBody s_L_field) (defScope s_L_field) .none kV17 dc17 pm17 an17 cd17 ct17), sl17⟩)
    (c17 : PySem.W.codeIn K cd17 "_law_field" = true)
    (k17 : PySem.W.keepIn K (.ref f17) = true)
    (a18 : PySem.W.nsIn K mainGlobals "_law_parts" = some (some (.ref f18)))
    (l18 : K.lookup f18 = some ⟨oc18, od18, .func (PySem.W.fnOf "_law_parts" "_law_parts" (defArgs s_L_parts) (defBody s_L_parts) (defScope s_L_parts) .none kV18 dc18 pm18 an18 cd18 ct18), sl18⟩)
    (c18 : PySem.W.codeIn K cd18 "_law_parts" = true)
    (k18 : PySem.W.keepIn K (.ref f18) = true)
    (a19 : PySem.W.nsIn K mainGlobals "_law_tells" = some (some (.ref f19)))
    (l19 : K.lookup f19 = some ⟨oc19, od19, .func (PySem.W.fnOf "_law_tells" "_law_tells" (defArgs s_L_tells) (defBody s_L_tells) (defScope s_L_tells) .none kV19 dc19 pm19 an19 cd19 ct19), sl19⟩)
    (c19 : PySem.W.codeIn K cd19 "_law_tells" = true)
    (k19 : PySem.W.keepIn K (.ref f19) = true)
    (a20 : PySem.W.nsIn K mainGlobals "_law_turned" = some (some (.ref f20)))
    (l20 : K.lookup f20 = some ⟨oc20, od20, .func (PySem.W.fnOf "_law_turned" "_law_turned" (defArgs s_L_turned) (defBody s_L_turned) (defScope s_L_turned) .none kV20 dc20 pm20 an20 cd20 ct20), sl20⟩)
    (c20 : PySem.W.codeIn K cd20 "_law_turned" = true)
    (k20 : PySem.W.keepIn K (.ref f20) = true)
    (a21 : PySem.W.nsIn K mainGlobals "_law_others" = some (some (.ref f21)))
    (l21 : K.lookup f21 = some ⟨oc21, od21, .func (PySem.W.fnOf "_law_others" "_law_others" (defArgs s_L_others) (defBody s_L_others) (defScope s_L_others) .none kV21 dc21 pm21 an21 cd21 ct21), sl21⟩)
    (c21 : PySem.W.codeIn K cd21 "_law_others" = true)
    (k21 : PySem.W.keepIn K (.ref f21) = true)
    (a22 : PySem.W.nsIn K mainGlobals "law" = some (some (.ref f22)))
    (l22 : K.lookup f22 = some ⟨oc22, od22, .func (PySem.W.fnOf "law" "law" (defArgs s_law) (defBody s_law) (defScope s_law) .none kV22 dc22 pm22 an22 cd22 ct22), sl22⟩)
    (c22 : PySem.W.codeIn K cd22 "law" = true)
    (k22 : PySem.W.keepIn K (.ref f22) = true)
    (aC : PySem.W.nsIn K mainGlobals "Form" = some (some (.ref C)))
    (pg : PySem.W.plainGet K C Str.empty = true)
    (hd : PySem.W.hasDictIn K C = true)
    (po : PySem.W.plainOver K C = true)
    (sa : PySem.W.findIn K (.ref C) "__setattr__" = some (some (.builtin "object.__setattr__")))
    (n_words : PySem.W.findIn K (.ref C) "words" = some none)
    (n_fields : PySem.W.findIn K (.ref C) "fields" = some none)
    (n_room : PySem.W.findIn K (.ref C) "room" = some none)
    (mk : PySem.W.makesIn K C = true)
    (kc : PySem.W.keepIn K (.ref C) = true)
    (ia0 : PySem.W.findIn K (.ref C) "__init__" = some (some (.ref g0)))
    (ii0 : PySem.W.isFn K (.ref g0) = true)
    (il0 : K.lookup g0 = some ⟨go0, gd0, .func (PySem.W.fnOf "__init__" "Form.__init__" (defArgs s_Form_init) (defBody s_Form_init) (defScope s_Form_init) .none (.ref KD) gc0 gp0 gn0 ge0 gt0), gs0⟩)
    (ic0 : PySem.W.codeIn K ge0 "Form.__init__" = true)
    (ik0 : PySem.W.keepIn K (.ref g0) = true)
    (ia1 : PySem.W.findIn K (.ref C) "__eq__" = some (some (.ref g1)))
    (ii1 : PySem.W.isFn K (.ref g1) = true)
    (il1 : K.lookup g1 = some ⟨go1, gd1, .func (PySem.W.fnOf "__eq__" "Form.__eq__" (defArgs s_Form_eq) (defBody s_Form_eq) (defScope s_Form_eq) .none gk1 gc1 gp1 gn1 ge1 gt1), gs1⟩)
    (ic1 : PySem.W.codeIn K ge1 "Form.__eq__" = true)
    (ik1 : PySem.W.keepIn K (.ref g1) = true)
    (ia2 : PySem.W.findIn K (.ref C) "field_names" = some (some (.ref g2)))
    (ii2 : PySem.W.isFn K (.ref g2) = true)
    (il2 : K.lookup g2 = some ⟨go2, gd2, .func (PySem.W.fnOf "field_names" "Form.field_names" (defArgs s_Form_field_names) (defBody s_Form_field_names) (defScope s_Form_field_names) .none gk2 gc2 gp2 gn2 ge2 gt2), gs2⟩)
    (ic2 : PySem.W.codeIn K ge2 "Form.field_names" = true)
    (ik2 : PySem.W.keepIn K (.ref g2) = true)
    (ia3 : PySem.W.findIn K (.ref C) "parts_of" = some (some (.ref g3)))
    (ii3 : PySem.W.isFn K (.ref g3) = true)
    (il3 : K.lookup g3 = some ⟨go3, gd3, .func (PySem.W.fnOf "parts_of" "Form.parts_of" (defArgs s_Form_parts_of) (defBody s_Form_parts_of) (defScope s_Form_parts_of) .none gk3 gc3 gp3 gn3 ge3 gt3), gs3⟩)
    (ic3 : PySem.W.codeIn K ge3 "Form.parts_of" = true)
    (ik3 : PySem.W.keepIn K (.ref g3) = true)
    (ia4 : PySem.W.findIn K (.ref C) "readers" = some (some (.ref g4)))
    (ii4 : PySem.W.isFn K (.ref g4) = true)
    (il4 : K.lookup g4 = some ⟨go4, gd4, .func (PySem.W.fnOf "readers" "Form.readers" (defArgs s_Form_readers) (defBody s_Form_readers) (defScope s_Form_readers) .none gk4 gc4 gp4 gn4 ge4 gt4), gs4⟩)
    (ic4 : PySem.W.codeIn K ge4 "Form.readers" = true)
    (ik4 : PySem.W.keepIn K (.ref g4) = true)
    (kwd : PySem.W.nsIn K KD "room" = some (some (.int 3 kt)))
    (z_isinstance : PySem.W.nsIn K mainGlobals "isinstance" = some none)
    (z_tuple : PySem.W.nsIn K mainGlobals "tuple" = some none)
    (z_list : PySem.W.nsIn K mainGlobals "list" = some none)
    (z_len : PySem.W.nsIn K mainGlobals "len" = some none)
    (z_all : PySem.W.nsIn K mainGlobals "all" = some none)
    (z_range : PySem.W.nsIn K mainGlobals "range" = some none)
    (z_bool : PySem.W.nsIn K mainGlobals "bool" = some none)
    (z_int : PySem.W.nsIn K mainGlobals "int" = some none)
    (z_str : PySem.W.nsIn K mainGlobals "str" = some none)
    (z_set : PySem.W.nsIn K mainGlobals "set" = some none)
    (hne : PySem.W.findIn K (.ref C) "__ne__" = some (some (.builtin "object.__ne__")))
    (hob : PySem.W.mroIn K C (.type "object") = some true)
    (hca : PySem.W.findIn K (.ref C) "__class__" = some (some (.builtin "object.__class__")))
    (hcn : PySem.W.specialIn K (.builtin "object.__class__") "__get__" = some (some (.builtin "getset_descriptor.__get__")))
    (hct : PySem.W.takesIn K (.builtin "object.__class__") = some true)
    (hkf : (PySem.W.kitOne K (.ref C) (.ref C) == some true) = true)
    : ∃ fd : FuncData, (∀ (s : Shared) (v : Value), BindsTo s fd ⟨[v], []⟩ [("_law_script", v)]) ∧ ∀ base : Heap, K.In base → base.Ns mainGlobals mg → FnOk l.prog w K mg base CX0 13 fa fd ["_law_script"] (spLaw K) := by
  have e := hfa.symm.trans (PySem.W.mg_of X G a22)
  cases e
  have F0 := fun_mk (st := s_is_name) l0 c0 k0
  have b0 := F0.binds (ps := ["value"]) fun _ _ _ _ _ _ us hl => match us, hl with | [_], _ => rfl
  have F1 := fun_mk (st := s_is_whole) l1 c1 k1
  have b1 := F1.binds (ps := ["value", "low", "high"]) fun _ _ _ _ _ _ us hl => match us, hl with | [_, _, _], _ => rfl
  have F2 := fun_mk (st := s_has_items) l2 c2 k2
  have b2 := F2.binds (ps := ["value", "count"]) fun _ _ _ _ _ _ us hl => match us, hl with | [_, _], _ => rfl
  have F3 := fun_mk (st := s_are_names) l3 c3 k3
  have b3 := F3.binds (ps := ["values"]) fun _ _ _ _ _ _ us hl => match us, hl with | [_], _ => rfl
  have F4 := fun_mk (st := s_names_of) l4 c4 k4
  have b4 := F4.binds (ps := ["fields"]) fun _ _ _ _ _ _ us hl => match us, hl with | [_], _ => rfl
  have F5 := fun_mk (st := s_check_parts) l5 c5 k5
  have b5 := F5.binds (ps := ["words", "fields", "room"]) fun _ _ _ _ _ _ us hl => match us, hl with | [_, _, _], _ => rfl
  have F6 := fun_mk (st := s_are_form_words) l6 c6 k6
  have b6 := F6.binds (ps := ["value"]) fun _ _ _ _ _ _ us hl => match us, hl with | [_], _ => rfl
  have F7 := fun_mk (st := s_are_form_fields) l7 c7 k7
  have b7 := F7.binds (ps := ["value"]) fun _ _ _ _ _ _ us hl => match us, hl with | [_], _ => rfl
  have F8 := fun_mk (st := s_wrong_part) l8 c8 k8
  have b8 := F8.binds (ps := ["words", "names", "name", "field"]) fun _ _ _ _ _ _ us hl => match us, hl with | [_, _, _, _], _ => rfl
  have F9 := fun_mk (st := s_is_near) l9 c9 k9
  have b9 := F9.binds (ps := ["value", "looks", "count"]) fun _ _ _ _ _ _ us hl => match us, hl with | [_, _, _], _ => rfl
  have F10 := fun_mk (st := s_is_entry_row) l10 c10 k10
  have b10 := F10.binds (ps := ["value", "count"]) fun _ _ _ _ _ _ us hl => match us, hl with | [_, _], _ => rfl
  have F11 := fun_mk (st := sMix) l11 c11 k11
  have b11 := F11.binds (ps := ["_law_value", "_law_k"]) fun _ _ _ _ _ _ us hl => match us, hl with | [_, _], _ => rfl
  have F12 := fun_mk (st := sBox) l12 c12 k12
  have b12 := F12.binds (ps := ["_law_script"]) fun _ _ _ _ _ _ us hl => match us, hl with | [_], _ => rfl
  have F13 := fun_mk (st := sDraw) l13 c13 k13
  have b13 := F13.binds (ps := ["_law_box_here", "_law_many"]) fun _ _ _ _ _ _ us hl => match us, hl with | [_, _], _ => rfl
  have F14 := fun_mk (st := sSame) l14 c14 k14
  have b14 := F14.binds (ps := ["_law_told", "_law_due"]) fun _ _ _ _ _ _ us hl => match us, hl with | [_, _], _ => rfl
  have F15 := fun_mk (st := s_L_names) l15 c15 k15
  have b15 := F15.binds (ps := ["_law_box_here", "_law_many"]) fun _ _ _ _ _ _ us hl => match us, hl with | [_, _], _ => rfl
  have F16 := fun_mk (st := s_L_entries) l16 c16 k16
  have b16 := F16.binds (ps := ["_law_box_here", "_law_notes", "_law_size"]) fun _ _ _ _ _ _ us hl => match us, hl with | [_, _, _], _ => rfl
  have F17 := fun_mk (st := s_L_field) l17 c17 k17
  have b17 := F17.binds (ps := ["_law_box_here", "_law_words", "_law_names_here", "_law_name", "_law_notes"]) fun _ _ _ _ _ _ us hl => match us, hl with | [_, _, _, _, _], _ => rfl
  have F18 := fun_mk (st := s_L_parts) l18 c18 k18
  have b18 := F18.binds (ps := ["_law_box_here"]) fun _ _ _ _ _ _ us hl => match us, hl with | [_], _ => rfl
  have F19 := fun_mk (st := s_L_tells) l19 c19 k19
  have b19 := F19.binds (ps := ["_law_form", "_law_parts_here"]) fun _ _ _ _ _ _ us hl => match us, hl with | [_, _], _ => rfl
  have F20 := fun_mk (st := s_L_turned) l20 c20 k20
  have b20 := F20.binds (ps := ["_law_row"]) fun _ _ _ _ _ _ us hl => match us, hl with | [_], _ => rfl
  have F21 := fun_mk (st := s_L_others) l21 c21 k21
  have b21 := F21.binds (ps := ["_law_box_here", "_law_parts_here"]) fun _ _ _ _ _ _ us hl => match us, hl with | [_, _], _ => rfl
  have F22 := fun_mk (st := s_law) l22 c22 k22
  have J1 := fun_mk (st := s_Form_eq) il1 ic1 ik1
  have j1 := J1.binds (ps := ["self", "other"]) fun _ _ _ _ _ _ us hl => match us, hl with | [_, _], _ => rfl
  have J2 := fun_mk (st := s_Form_field_names) il2 ic2 ik2
  have j2 := J2.binds (ps := ["self"]) fun _ _ _ _ _ _ us hl => match us, hl with | [_], _ => rfl
  have J3 := fun_mk (st := s_Form_parts_of) il3 ic3 ik3
  have j3 := J3.binds (ps := ["self", "name"]) fun _ _ _ _ _ _ us hl => match us, hl with | [_, _], _ => rfl
  have J4 := fun_mk (st := s_Form_readers) il4 ic4 ik4
  have j4 := J4.binds (ps := ["self", "name"]) fun _ _ _ _ _ _ us hl => match us, hl with | [_, _], _ => rfl
  have D0 : FunD K "__init__" "Form.__init__" (defArgs s_Form_init) (defBody s_Form_init) (defScope s_Form_init) [] [("room", .int 3)] g0 (PySem.W.fnOf "__init__" "Form.__init__" (defArgs s_Form_init) (defBody s_Form_init) (defScope s_Form_init) .none (.ref KD) gc0 gp0 gn0 ge0 gt0) := ⟨⟨go0, gd0, .none, .ref KD, gc0, gp0, gn0, ge0, gt0, gs0, rfl, il0, ic0, .inl ⟨rfl, rfl⟩, .inr ⟨KD, rfl, fun q hq => by
    have hq := List.mem_singleton.mp hq
    subst hq
    exact ⟨_, kwd, ⟨_, rfl⟩⟩⟩⟩, ik0⟩
  have T : Txt K mg := {
    B := ⟨PySem.W.mg_none_of X G z_isinstance, PySem.W.mg_none_of X G z_tuple, PySem.W.mg_none_of X G z_list, PySem.W.mg_none_of X G z_len, PySem.W.mg_none_of X G z_all, PySem.W.mg_none_of X G z_range, PySem.W.mg_none_of X G z_bool, PySem.W.mg_none_of X G z_int, PySem.W.mg_none_of X G z_str⟩
    set := PySem.W.mg_none_of X G z_set
    f_is_name := f0
    d_is_name := _
    F_is_name := F0
    b_is_name := b0
    g_is_name := PySem.W.mg_of X G a0
    f_is_whole := f1
    d_is_whole := _
    F_is_whole := F1
    b_is_whole := b1
    g_is_whole := PySem.W.mg_of X G a1
    f_has_items := f2
    d_has_items := _
    F_has_items := F2
    b_has_items := b2
    g_has_items := PySem.W.mg_of X G a2
    f_are_names := f3
    d_are_names := _
    F_are_names := F3
    b_are_names := b3
    g_are_names := PySem.W.mg_of X G a3
    f_names_of := f4
    d_names_of := _
    F_names_of := F4
    b_names_of := b4
    g_names_of := PySem.W.mg_of X G a4
    f_check_parts := f5
    d_check_parts := _
    F_check_parts := F5
    b_check_parts := b5
    g_check_parts := PySem.W.mg_of X G a5
    f_are_form_words := f6
    d_are_form_words := _
    F_are_form_words := F6
    b_are_form_words := b6
    g_are_form_words := PySem.W.mg_of X G a6
    f_are_form_fields := f7
    d_are_form_fields := _
    F_are_form_fields := F7
    b_are_form_fields := b7
    g_are_form_fields := PySem.W.mg_of X G a7
    f_wrong_part := f8
    d_wrong_part := _
    F_wrong_part := F8
    b_wrong_part := b8
    g_wrong_part := PySem.W.mg_of X G a8
    f_is_near := f9
    d_is_near := _
    F_is_near := F9
    b_is_near := b9
    g_is_near := PySem.W.mg_of X G a9
    f_is_entry_row := f10
    d_is_entry_row := _
    F_is_entry_row := F10
    b_is_entry_row := b10
    g_is_entry_row := PySem.W.mg_of X G a10
    f_L_mix := f11
    d_L_mix := _
    F_L_mix := F11
    b_L_mix := b11
    g_L_mix := PySem.W.mg_of X G a11
    f_L_box := f12
    d_L_box := _
    F_L_box := F12
    b_L_box := b12
    g_L_box := PySem.W.mg_of X G a12
    f_L_draw := f13
    d_L_draw := _
    F_L_draw := F13
    b_L_draw := b13
    g_L_draw := PySem.W.mg_of X G a13
    f_L_same := f14
    d_L_same := _
    F_L_same := F14
    b_L_same := b14
    g_L_same := PySem.W.mg_of X G a14
    f_L_names := f15
    d_L_names := _
    F_L_names := F15
    b_L_names := b15
    g_L_names := PySem.W.mg_of X G a15
    f_L_entries := f16
    d_L_entries := _
    F_L_entries := F16
    b_L_entries := b16
    g_L_entries := PySem.W.mg_of X G a16
    f_L_field := f17
    d_L_field := _
    F_L_field := F17
    b_L_field := b17
    g_L_field := PySem.W.mg_of X G a17
    f_L_parts := f18
    d_L_parts := _
    F_L_parts := F18
    b_L_parts := b18
    g_L_parts := PySem.W.mg_of X G a18
    f_L_tells := f19
    d_L_tells := _
    F_L_tells := F19
    b_L_tells := b19
    g_L_tells := PySem.W.mg_of X G a19
    f_L_turned := f20
    d_L_turned := _
    F_L_turned := F20
    b_L_turned := b20
    g_L_turned := PySem.W.mg_of X G a20
    f_L_others := f21
    d_L_others := _
    F_L_others := F21
    b_L_others := b21
    g_L_others := PySem.W.mg_of X G a21
    C := C
    g_Form := PySem.W.mg_of X G aC
    cl := ⟨pg, hd, po, sa⟩
    na_words := n_words
    na_fields := n_fields
    na_room := n_room
    f_Form_eq := g1
    d_Form_eq := _
    F_Form_eq := J1
    b_Form_eq := j1
    m_Form_eq := ⟨ia1, ii1, ik1⟩
    f_Form_field_names := g2
    d_Form_field_names := _
    F_Form_field_names := J2
    b_Form_field_names := j2
    m_Form_field_names := ⟨ia2, ii2, ik2⟩
    f_Form_parts_of := g3
    d_Form_parts_of := _
    F_Form_parts_of := J3
    b_Form_parts_of := j3
    m_Form_parts_of := ⟨ia3, ii3, ik3⟩
    f_Form_readers := g4
    d_Form_readers := _
    F_Form_readers := J4
    b_Form_readers := j4
    m_Form_readers := ⟨ia4, ii4, ik4⟩
    f_init := g0
    d_init := _
    F_init := D0
    M := ⟨mk, ia0, ii0, kc⟩
    oe := ⟨ia1, ii1, hne, hob⟩
    si := ⟨hca, hcn, hct, hob⟩
    kf := beq_iff_eq.mp hkf }
  exact ⟨_, fun s v => .of_eq rfl, fun base _ _ => ok_law T F22⟩
end Wn
open PySem PySem.W PyProof.Rows
set_option maxHeartbeats 0 in
theorem PySem.Challenge.cw_wrongshown_k01_form_parts_holds : PySem.Challenge.rw_wrongshown_k01_form_parts.Holds := by
  w_on; o_law; k_head; (case hw => w_witness2)
  k_fill
  refine L2.walk_of (l := PySem.Challenge.rw_wrongshown_k01_form_parts) (n := 63) (k := 13) (x := "_law_script") (CX := fun _ => L2.CX0) (sp := fun w => Wn.spLaw _) rfl (by decide) rfl ⟨rfl, by decide, by decide⟩ (fun w h Y => PySem.W.kIn_of Y) ?F (fun _ _ a ns hl _ hS => ⟨a, ns, rfl, hS, hl, fun _ => rfl⟩) (fun _ _ _ _ _ h => h)
  case F =>
    intro w mg fa h KX G hmg
    refine' Wn.all_mk KX G hmg ?a0 ?l0 ?c0 ?k0 ?a1 ?l1 ?c1 ?k1 ?a2 ?l2 ?c2 ?k2 ?a3 ?l3 ?c3 ?k3 ?a4 ?l4 ?c4 ?k4 ?a5 ?l5 ?c5 ?k5 ?a6 ?l6 ?c6 ?k6 ?a7 ?l7 ?c7 ?k7 ?a8 ?l8 ?c8 ?k8 ?a9 ?l9 ?c9 ?k9 ?a10 ?l10 ?c10 ?k10 ?a11 ?l11 ?c11 ?k11 ?a12 ?l12 ?c12 ?k12 ?a13 ?l13 ?c13 ?k13 ?a14 ?l14 ?c14 ?k14 ?a15 ?l15 ?c15 ?k15 ?a16 ?l16 ?c16 ?k16 ?a17 ?l17 ?c17 ?k17 ?a18 ?l18 ?c18 ?k18 ?a19 ?l19 ?c19 ?k19 ?a20 ?l20 ?c20 ?k20 ?a21 ?l21 ?c21 ?k21 ?a22 ?l22 ?c22 ?k22 ?aC ?pg ?hd ?po ?sa ?n_words ?n_fields ?n_room ?mk ?kc ?ia0 ?ii0 ?il0 ?ic0 ?ik0 ?ia1 ?ii1 ?il1 ?ic1 ?ik1 ?ia2 ?ii2 ?il2 ?ic2 ?ik2 ?ia3 ?ii3 ?il3 ?ic3 ?ik3 ?ia4 ?ii4 ?il4 ?ic4 ?ik4 ?kwd ?z_isinstance ?z_tuple ?z_list ?z_len ?z_all ?z_range ?z_bool ?z_int ?z_str ?z_set ?hne ?hob ?hca ?hcn ?hct ?hkf
    (case a0 => k_is)
    (case l0 => k_is)
    (case c0 => k_is)
    (case k0 => k_is)
    (case a1 => k_is)
    (case l1 => k_is)
    (case c1 => k_is)
    (case k1 => k_is)
    (case a2 => k_is)
    (case l2 => k_is)
    (case c2 => k_is)
    (case k2 => k_is)
    (case a3 => k_is)
    (case l3 => k_is)
    (case c3 => k_is)
    (case k3 => k_is)
    (case a4 => k_is)
    (case l4 => k_is)
    (case c4 => k_is)
    (case k4 => k_is)
    (case a5 => k_is)
    (case l5 => k_is)
    (case c5 => k_is)
    (case k5 => k_is)
    (case a6 => k_is)
    (case l6 => k_is)
    (case c6 => k_is)
    (case k6 => k_is)
    (case a7 => k_is)
    (case l7 => k_is)
    (case c7 => k_is)
    (case k7 => k_is)
    (case a8 => k_is)
    (case l8 => k_is)
    (case c8 => k_is)
    (case k8 => k_is)
    (case a9 => k_is)
    (case l9 => k_is)
    (case c9 => k_is)
    (case k9 => k_is)
    (case a10 => k_is)
    (case l10 => k_is)
    (case c10 => k_is)
    (case k10 => k_is)
    (case a11 => k_is)
    (case l11 => k_is)
    (case c11 => k_is)
    (case k11 => k_is)
    (case a12 => k_is)
    (case l12 => k_is)
    (case c12 => k_is)
    (case k12 => k_is)
    (case a13 => k_is)
    (case l13 => k_is)
    (case c13 => k_is)
    (case k13 => k_is)
    (case a14 => k_is)
    (case l14 => k_is)
    (case c14 => k_is)
    (case k14 => k_is)
    (case a15 => k_is)
    (case l15 => k_is)
    (case c15 => k_is)
    (case k15 => k_is)
    (case a16 => k_is)
    (case l16 => k_is)
    (case c16 => k_is)
    (case k16 => k_is)
    (case a17 => k_is)
    (case l17 => k_is)
    (case c17 => k_is)
    (case k17 => k_is)
    (case a18 => k_is)
    (case l18 => k_is)
    (case c18 => k_is)
    (case k18 => k_is)
    (case a19 => k_is)
    (case l19 => k_is)
    (case c19 => k_is)
    (case k19 => k_is)
    (case a20 => k_is)
    (case l20 => k_is)
    (case c20 => k_is)
    (case k20 => k_is)
    (case a21 => k_is)
    (case l21 => k_is)
    (case c21 => k_is)
    (case k21 => k_is)
    (case a22 => k_is)
    (case l22 => k_is)
    (case c22 => k_is)
    (case k22 => k_is)
    (case aC => k_is)
    (case pg => k_is)
    (case hd => k_is)
    (case po => k_is)
    (case sa => k_is)
    (case n_words => k_is)
    (case n_fields => k_is)
    (case n_room => k_is)
    (case mk => k_is)
    (case kc => k_is)
    (case ia0 => k_is)
    (case ii0 => k_is)
    (case il0 => k_is)
    (case ic0 => k_is)
    (case ik0 => k_is)
    (case ia1 => k_is)
    (case ii1 => k_is)
    (case il1 => k_is)
    (case ic1 => k_is)
    (case ik1 => k_is)
    (case ia2 => k_is)
    (case ii2 => k_is)
    (case il2 => k_is)
    (case ic2 => k_is)
    (case ik2 => k_is)
    (case ia3 => k_is)
    (case ii3 => k_is)
    (case il3 => k_is)
    (case ic3 => k_is)
    (case ik3 => k_is)
    (case ia4 => k_is)
    (case ii4 => k_is)
    (case il4 => k_is)
    (case ic4 => k_is)
    (case ik4 => k_is)
    (case kwd => k_is)
    (case z_isinstance => k_is)
    (case z_tuple => k_is)
    (case z_list => k_is)
    (case z_len => k_is)
    (case z_all => k_is)
    (case z_range => k_is)
    (case z_bool => k_is)
    (case z_int => k_is)
    (case z_str => k_is)
    (case z_set => k_is)
    (case hne => k_is)
    (case hob => k_is)
    (case hca => k_is)
    (case hcn => k_is)
    (case hct => k_is)
    (case hkf => kernel_rfl)
