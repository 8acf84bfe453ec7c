import PyProof.Rows.All
import Wide.All
import OpenK.AllK
import Wide.FinOn
import PySem.Challenge.RW_wrongshown_k43_errors_apart
import HandS.ForMost
import HandS.IsInst
import HandS.Flow
import HandS.ForExc
import HandS.ExcIs
import HandS.ExcInit
import HandS.ExcOwn
import HandS.ExcValue
set_option Elab.async false
set_option linter.all false
set_option maxRecDepth 100000
set_option maxHeartbeats 4000000
/-! Wn: rules whose reading is decided by what is tracked, and the steps that answer a reading from the left. -/
namespace Wn
open PySem PySem.Spec PyProof.Rows L2
/-! ### operations by what is tracked alone -/
def rIx' : R2 := fun x y H Q => ∃ p xs i v, x = .ref p ∧ y = .int i ∧ H p = some (.lst xs) ∧ atI xs i = some v ∧ Q v H
theorem ix_l {X : Cx} : IxR X rIx' := fun a b c d e f g h i j k l m o ⟨p, xs, n, v, h1, h2, h3, h4, q⟩ => ix_list a b c d e f g h i j k l m o ⟨p, xs, n, v, h1, h2, SqL.of h3, h4, q⟩
def rIxT' : R2 := fun x y H Q => ∃ p xs i v, x = .ref p ∧ y = .int i ∧ H p = some (.tup xs) ∧ atI xs i = some v ∧ Q v H
theorem ix_t {X : Cx} : IxR X rIxT' := fun a b c d e f g h i j k l m o ⟨p, xs, n, v, h1, h2, h3, h4, q⟩ => ix_tup a b c d e f g h i j k l m o ⟨p, xs, n, v, h1, h2, SqT.of h3, h4, q⟩
def rLenL : List V → Hp → VK → Prop := fun xs H Q => ∃ p ys, xs = [.ref p] ∧ H p = some (.lst ys) ∧ Q (.int ys.length) H
theorem call_lenL {X : Cx} : CallR X (.builtin "len") rLenL := fun a b c d e f g h i ⟨p, ys, h1, h2, q⟩ => call_len_seq a b c d e f g h i ⟨p, ys, h1, .inl (SqL.of h2), q⟩
def rLenT : List V → Hp → VK → Prop := fun xs H Q => ∃ p ys, xs = [.ref p] ∧ H p = some (.tup ys) ∧ Q (.int ys.length) H
theorem call_lenT {X : Cx} : CallR X (.builtin "len") rLenT := fun a b c d e f g h i ⟨p, ys, h1, h2, q⟩ => call_len_seq a b c d e f g h i ⟨p, ys, h1, .inr (SqT.of h2), q⟩
def rInt1 : List V → Hp → VK → Prop := fun xs H Q => ∃ i, xs = [.int i] ∧ Q (.int i) H
theorem call_intI {X : Cx} : CallR X (.type "int") rInt1 := fun a b c d e f g h i ⟨n, h1, q⟩ => call_int1 a b c d e f g h i (.inl ⟨n, h1, q⟩)
/-- an if whose ways meet again: where they do, the steps halt -/
def tJoin (p : L2.St → Hp → Prop) : L2.St → Hp → Prop := p
def tIfJ (c : TT) (t u : TS) : TS := fun D σ H => c σ H fun b H1 => if b = true then t { D with nx := tJoin D.nx } σ H1 else u { D with nx := tJoin D.nx } σ H1
theorem ps_ifj {X : Cx} {c : Expr} {a b : List Stmt} {pos : Pos} {tc : TT} {t u : TS} (hc : PT X c tc) (ha : PSs X a t) (hb : PSs X b u) : PS X (.If c a b pos) (tIfJ tc t u) := ps_if hc ha hb
/-! ### answers -/
section
variable {σ σ' : L2.St} {H : Hp} {Q : VK} {D : Ends} {ta tb te : TE} {tl : TA} {g : TG} {t u : TS} {c : TT}
theorem r_seq (h : t { D with nx := u D } σ H) : tSeq t u D σ H := h
theorem r_asg (h : te σ H fun x H1 => g x σ H1 D.nx) : tAsg te g D σ H := h
theorem r_op {r : R2} (h : ta σ H fun x H1 => tb σ H1 fun y H2 => r x y H2 Q) : tOp r ta tb σ H Q := h
theorem r_un {r : V → Hp → VK → Prop} (h : ta σ H fun x H1 => r x H1 Q) : tUn r ta σ H Q := h
theorem r_var {i : Nat} {v : V} (e : σ[i]? = some (some v)) (h : Q v H) : tVar i σ H Q := ⟨v, e, h⟩
theorem r_c {v : V} (h : Q v H) : tC v σ H Q := h
theorem r_test {Q : Bool → Hp → Prop} (h : te σ H fun x H' => ∃ k, x = .bl k ∧ Q k H') : tTest te σ H Q := h
theorem r_tb {Q : Bool → Hp → Prop} (h : te σ H fun x H' => ∃ k, x = .bl k ∧ Q k H') : tB te σ H Q := h
theorem r_bl {Q : Bool → Prop} {b : Bool} (h : Q b) : ∃ k, V.bl b = V.bl k ∧ Q k := ⟨b, rfl, h⟩
theorem r_ifs (h : c σ H fun b H1 => if b = true then t D σ H1 else u D σ H1) : tIfS c t u D σ H := h
theorem r_ifj (h : c σ H fun b H1 => if b = true then t { D with nx := tJoin D.nx } σ H1 else u { D with nx := tJoin D.nx } σ H1) : tIfJ c t u D σ H := h
theorem r_join {p : L2.St → Hp → Prop} (h : p σ H) : tJoin p σ H := h
theorem r_yes {Q : Bool → Hp → Prop} (h : Q true H) : tYes σ H Q := h
theorem r_wipe {s1 s2 : L2.St} {vs : List Nat} {P : Prop} (e : wipe s1 vs = wipe s2 vs) (h : P) : wipe s1 vs = wipe s2 vs ∧ P := ⟨e, h⟩
theorem r_lst (h : tl σ H fun xs H1 => xs.length ≤ sizeLine ∧ ∀ p, H1 p = none → Q (.ref p) (upd H1 p (.lst xs))) : tLst tl σ H Q := h
theorem r_tup (h : tl σ H fun xs H1 => xs.length ≤ sizeLine ∧ ∀ p, H1 p = none → Q (.ref p) (upd H1 p (.tup xs))) : tTup tl σ H Q := h
theorem r_sz {xs : List V} {P : Prop} (e : xs.length ≤ sizeLine) (h : P) : xs.length ≤ sizeLine ∧ P := ⟨e, h⟩
theorem r_ret (h : te σ H D.rt) : tRet te D σ H := h
theorem r_next (h : D.nx σ H) : tNext D σ H := h
theorem r_drop (h : te σ H fun _ H1 => D.nx σ H1) : tDrop te D σ H := h
theorem r_nil {Q : List V → Hp → Prop} (h : Q [] H) : tNil σ H Q := h
theorem r_cons {Q : List V → Hp → Prop} (h : te σ H fun x H1 => tl σ H1 fun xs H2 => Q (x :: xs) H2) : tCons te tl σ H Q := h
theorem r_cb {r : List V → Hp → VK → Prop} (h : tl σ H fun vs H1 => r vs H1 Q) : tCB r tl σ H Q := h
theorem r_call {sp : Sp} {dvs : List V} {E : XK} (h : tl σ H fun vs H1 => sp (vs ++ dvs) H1 Q E) : tCall sp dvs E tl σ H Q := h
theorem r_gname {i : Nat} {v : V} {Q : L2.St → Hp → Prop} (e : σ.set i (some v) = σ') (h : Q σ' H) : gName i v σ H Q := by subst e; exact h
theorem r_gsub {to ti : TE} {r : TSet} {v : V} {Q : L2.St → Hp → Prop} (h : to σ H fun o H1 => ti σ H1 fun i H2 => r o i v H2 fun H3 => Q σ H3) : gSub to ti r v σ H Q := h
theorem r_setl {p : Addr} {k : Int} {j : Nat} {xs ys : List V} {v : V} {Q : Hp → Prop} (e : H p = some (.lst xs)) (hi : ixN xs.length k = some j) (hs : xs.set j v = ys) (h : Q (upd H p (.lst ys))) : rSetL (.ref p) (.int k) v H Q :=
  ⟨p, xs, k, j, rfl, rfl, e, hi, by rw [hs]; exact h⟩
theorem r_I0 {f : Int → Int → V} {i j : Int} (h : Q (f i j) H) : rI0 f (.int i) (.int j) H Q := ⟨i, j, rfl, rfl, h⟩
theorem r_I {C : Int → Int → Prop} {f : Int → Int → V} {i j : Int} (hc : C i j) (h : Q (f i j) H) : rI C f (.int i) (.int j) H Q := ⟨i, j, rfl, rfl, hc, h⟩
theorem r_ix {p : Addr} {i : Int} {xs : List V} {v : V} (e : H p = some (.lst xs)) (hi : atI xs i = some v) (h : Q v H) : rIx' (.ref p) (.int i) H Q := ⟨p, xs, i, v, rfl, rfl, e, hi, h⟩
theorem r_ixt {p : Addr} {i : Int} {xs : List V} {v : V} (e : H p = some (.tup xs)) (hi : atI xs i = some v) (h : Q v H) : rIxT' (.ref p) (.int i) H Q := ⟨p, xs, i, v, rfl, rfl, e, hi, h⟩
theorem r_lenl {p : Addr} {xs : List V} (e : H p = some (.lst xs)) (h : Q (.int xs.length) H) : rLenL [.ref p] H Q := ⟨p, xs, rfl, e, h⟩
theorem r_lent {p : Addr} {xs : List V} (e : H p = some (.tup xs)) (h : Q (.int xs.length) H) : rLenT [.ref p] H Q := ⟨p, xs, rfl, e, h⟩
theorem r_int1 {i : Int} (h : Q (.int i) H) : rInt1 [.int i] H Q := ⟨i, rfl, h⟩
theorem r_eq {x y : V} (hs : scal x y = true) (h : Q (.bl (decide (x = y))) H) : rEq x y H Q := ⟨hs, h⟩
theorem r_ne {x y : V} (hs : scal x y = true) (h : Q (.bl (!decide (x = y))) H) : rNe x y H Q := ⟨hs, h⟩
theorem r_and {a b : TT} {Q : Bool → Hp → Prop} (h : a σ H fun c H1 => if c = true then b σ H1 Q else Q false H1) : tAnd a b σ H Q := h
theorem r_or {a b : TT} {Q : Bool → Hp → Prop} (h : a σ H fun c H1 => if c = true then Q true H1 else b σ H1 Q) : tOr a b σ H Q := h
theorem r_not {a : TT} {Q : Bool → Hp → Prop} (h : a σ H fun c H1 => Q (!c) H1) : tNot a σ H Q := h
theorem r_ife {a : TT} (h : a σ H fun c H1 => if c = true then ta σ H1 Q else tb σ H1 Q) : tIf a ta tb σ H Q := h
/-- an if over a decided test -/
theorem ifd {p A B : Prop} [Decidable p] (h1 : p → A) (h2 : ¬ p → B) : if decide p = true then A else B := by
  by_cases h : p
  · rw [if_pos (decide_eq_true h)]; exact h1 h
  · rw [if_neg (by rw [decide_eq_false h]; exact Bool.false_ne_true)]; exact h2 h
theorem ifd_int {i j : Int} {A B : Prop} (h1 : i = j → A) (h2 : i ≠ j → B) : if decide (V.int i = V.int j) = true then A else B :=
  ifd (fun e => h1 (V.int.inj e)) fun e => h2 fun z => e (by rw [z])
theorem map_at {ns : List Int} {i : Nat} {x : V} (h : (ns.map V.int)[i]? = some x) : ∃ z, ns[i]? = some z ∧ x = V.int z := by
  rw [List.getElem?_map] at h
  cases e : ns[i]? with
  | none => rw [e] at h; cases h
  | some z => rw [e] at h; exact ⟨z, rfl, (Option.some.inj h).symm⟩
theorem same_new {H : Hp} {p : Addr} {o : HO} (h : H p = none) : Same H (upd H p o) := fun b x e => (upd_ne (ne_of_none e h)).trans e
theorem take_at {α : Type} {l : List α} {i : Nat} {x : α} (h : l[i]? = some x) : l.take (i + 1) = l.take i ++ [x] := by
  rw [List.take_add_one, h]; rfl
theorem ite_t {c : Bool} {A B : Prop} (e : c = true) (h : A) : if c = true then A else B := by rw [if_pos e]; exact h
theorem ite_f {c : Bool} {A B : Prop} (e : c = false) (h : B) : if c = true then A else B := by rw [if_neg (by rw [e]; exact Bool.false_ne_true)]; exact h
def vk : V → Nat
  | .non => 0 | .bl _ => 1 | .int _ => 2 | .str _ => 3 | .byt _ => 4 | .flt _ => 5 | .ref _ => 6 | .ty _ => 7
theorem clash_ne {x y : V} (h : (vk x != vk y) = true) : ¬ x = y := fun e => by
  subst e
  simp at h
theorem qdec {Q : VK} {H : Hp} {p : Prop} [Decidable p] (h : p) (q : Q (.bl true) H) : Q (.bl (decide p)) H := by rw [decide_eq_true h]; exact q
theorem nd_t {p : Prop} [Decidable p] (h : ¬ p) : (!decide p) = true := by rw [decide_eq_false h]; rfl
theorem nd_f {p : Prop} [Decidable p] (h : p) : (!decide p) = false := by rw [decide_eq_true h]; rfl
theorem r_andr {α : Sort _} {a : α} {P : Prop} (h : P) : a = a ∧ P := ⟨rfl, h⟩
theorem r_andv (h : ta σ H fun x H1 => ∃ c, x = .bl c ∧ if c = true then tb σ H1 Q else Q (.bl false) H1) : tAndV ta tb σ H Q := h
theorem r_orv (h : ta σ H fun x H1 => ∃ c, x = .bl c ∧ if c = true then Q (.bl true) H1 else tb σ H1 Q) : tOrV ta tb σ H Q := h
theorem r_notv (h : ta σ H fun x H1 => ∃ c, x = .bl c ∧ Q (.bl (!c)) H1) : tNotV ta σ H Q := h
/-! ### look-ups -/
theorem ne_ex {H : Hp} {a b : Addr} (h : ∃ o, H a = some o) (h' : H b = none) : a ≠ b := let ⟨_, e⟩ := h; ne_of_none e h'
theorem lk_ne {a b : Addr} {o u : HO} (h : b ≠ a) (e : H b = some o) : upd H a u b = some o := (upd_ne h).trans e
theorem lkn_ne {a b : Addr} {u : HO} (h : b ≠ a) (e : H b = none) : upd H a u b = none := (upd_ne h).trans e
end
/-! ### data -/
mutual
theorem dp_mono {K : PySem.W.Frag} {H H' : Hp} (e : Same H H') : ∀ {x : V} {d : PyData}, Dp K H x d → Dp K H' x d
  | _, _, .non => .non
  | _, _, .bl b => .bl b
  | _, _, .int i => .int i
  | _, _, .str x => .str x
  | _, _, .lst h a => .lst (e.seq h) (dpAll_mono e a)
  | _, _, .tup h a => .tup (by
      rcases h with (h | ⟨o, h⟩) | h
      · exact .inl (.inl (e _ _ h))
      · exact .inl (.inr ⟨o, e _ _ h⟩)
      · exact .inr h) (dpAll_mono e a)
theorem dpAll_mono {K : PySem.W.Frag} {H H' : Hp} (e : Same H H') : ∀ {xs : List V} {ds : List PyData}, DpAll K H xs ds → DpAll K H' xs ds
  | _, _, .nil => .nil
  | _, _, .cons a b => .cons (dp_mono e a) (dpAll_mono e b)
end
theorem dpAll_len {K : PySem.W.Frag} {H : Hp} : ∀ {xs : List V} {ds : List PyData}, DpAll K H xs ds → xs.length = ds.length
  | _, _, .nil => rfl
  | _, _, .cons _ b => by rw [List.length_cons, List.length_cons, dpAll_len b]
theorem dpAll_at {K : PySem.W.Frag} {H : Hp} : ∀ {xs : List V} {ds : List PyData} {i : Nat} {x : V}, DpAll K H xs ds → xs[i]? = some x → ∃ d, ds[i]? = some d ∧ Dp K H x d
  | _, _, _, _, .nil, e => by simp at e
  | _, _, 0, _, .cons a _, e => by simp at e; subst e; exact ⟨_, rfl, a⟩
  | _, _, i + 1, x, .cons _ b, e => by
    obtain ⟨d, h1, h2⟩ := dpAll_at (i := i) (x := x) b (by simpa using e)
    exact ⟨d, by simpa using h1, h2⟩
def tyN : PyData → String
  | .none => "NoneType" | .bool _ => "bool" | .int _ => "int" | .str _ => "str" | .list _ => "list" | .tuple _ => "tuple" | .dict _ => "dict"
theorem ty_of {K : PySem.W.Frag} {H : Hp} {x : V} {d : PyData} (h : Dp K H x d) : TyX K H x (.type (tyN d)) := by
  cases h with
  | non => exact .base .non
  | bl b => exact .base (.bl b)
  | int i => exact .base (.int i)
  | str x => exact .base (.str x)
  | lst h a =>
    rcases h with (h | ⟨o, h⟩) | ⟨o, its, n, l, c, _⟩
    · exact .base (.lst h)
    · exact .base (.frz h)
    · exact .kList l c
  | tup h a =>
    rcases h with (h | ⟨o, h⟩) | ⟨o, its, n, l, c, _⟩
    · exact .base (.tup h)
    · exact .fTuple h
    · exact .kTuple l c
def isTup : PyData → Bool
  | .tuple _ => true
  | _ => false
theorem kit_isTup {K : PySem.W.Frag} {H : Hp} {x : V} {d : PyData} (h : Dp K H x d) : PySem.W.kitOne K (.type (tyN d)) (.type "tuple") = some (isTup d) := by
  cases h with
  | non => exact kit_ty (show kitB "NoneType" "tuple" = some false by decide +kernel)
  | bl => exact kit_ty (show kitB "bool" "tuple" = some false by decide +kernel)
  | int => exact kit_ty (show kitB "int" "tuple" = some false by decide +kernel)
  | str => exact kit_ty (show kitB "str" "tuple" = some false by decide +kernel)
  | lst => exact kit_ty (show kitB "list" "tuple" = some false by decide +kernel)
  | tup => exact kit_ty (show kitB "tuple" "tuple" = some true by decide +kernel)
theorem r_isTup {K : PySem.W.Frag} {H : Hp} {x : V} {d : PyData} {b : Bool} {Q : VK} (h : Dp K H x d) (e : isTup d = b) (q : Q (.bl b) H) : rIsi K [x, .ty "tuple"] H Q :=
  ⟨x, .ty "tuple", _, _, b, rfl, .ty _, ty_of h, by rw [← e]; exact kit_isTup h, q⟩
def isLst : PyData → Bool
  | .list _ => true
  | _ => false
theorem kit_isLst {K : PySem.W.Frag} {H : Hp} {x : V} {d : PyData} (h : Dp K H x d) : PySem.W.kitOne K (.type (tyN d)) (.type "list") = some (isLst d) := by
  cases h with
  | non => exact kit_ty (show kitB "NoneType" "list" = some false by decide +kernel)
  | bl => exact kit_ty (show kitB "bool" "list" = some false by decide +kernel)
  | int => exact kit_ty (show kitB "int" "list" = some false by decide +kernel)
  | str => exact kit_ty (show kitB "str" "list" = some false by decide +kernel)
  | lst => exact kit_ty (show kitB "list" "list" = some true by decide +kernel)
  | tup => exact kit_ty (show kitB "tuple" "list" = some false by decide +kernel)
theorem r_isLst {K : PySem.W.Frag} {H : Hp} {x : V} {d : PyData} {b : Bool} {Q : VK} (h : Dp K H x d) (e : isLst d = b) (q : Q (.bl b) H) : rIsi K [x, .ty "list"] H Q :=
  ⟨x, .ty "list", _, _, b, rfl, .ty _, ty_of h, by rw [← e]; exact kit_isLst h, q⟩
def isBl : PyData → Bool
  | .bool _ => true
  | _ => false
theorem kit_isBl {K : PySem.W.Frag} {H : Hp} {x : V} {d : PyData} (h : Dp K H x d) : PySem.W.kitOne K (.type (tyN d)) (.type "bool") = some (isBl d) := by
  cases h with
  | non => exact kit_ty (show kitB "NoneType" "bool" = some false by decide +kernel)
  | bl => exact kit_ty (show kitB "bool" "bool" = some true by decide +kernel)
  | int => exact kit_ty (show kitB "int" "bool" = some false by decide +kernel)
  | str => exact kit_ty (show kitB "str" "bool" = some false by decide +kernel)
  | lst => exact kit_ty (show kitB "list" "bool" = some false by decide +kernel)
  | tup => exact kit_ty (show kitB "tuple" "bool" = some false by decide +kernel)
theorem r_isBl {K : PySem.W.Frag} {H : Hp} {x : V} {d : PyData} {b : Bool} {Q : VK} (h : Dp K H x d) (e : isBl d = b) (q : Q (.bl b) H) : rIsi K [x, .ty "bool"] H Q :=
  ⟨x, .ty "bool", _, _, b, rfl, .ty _, ty_of h, by rw [← e]; exact kit_isBl h, q⟩
def isIn : PyData → Bool
  | .bool _ => true
  | .int _ => true
  | _ => false
theorem kit_isIn {K : PySem.W.Frag} {H : Hp} {x : V} {d : PyData} (h : Dp K H x d) : PySem.W.kitOne K (.type (tyN d)) (.type "int") = some (isIn d) := by
  cases h with
  | non => exact kit_ty (show kitB "NoneType" "int" = some false by decide +kernel)
  | bl => exact kit_ty (show kitB "bool" "int" = some true by decide +kernel)
  | int => exact kit_ty (show kitB "int" "int" = some true by decide +kernel)
  | str => exact kit_ty (show kitB "str" "int" = some false by decide +kernel)
  | lst => exact kit_ty (show kitB "list" "int" = some false by decide +kernel)
  | tup => exact kit_ty (show kitB "tuple" "int" = some false by decide +kernel)
theorem r_isIn {K : PySem.W.Frag} {H : Hp} {x : V} {d : PyData} {b : Bool} {Q : VK} (h : Dp K H x d) (e : isIn d = b) (q : Q (.bl b) H) : rIsi K [x, .ty "int"] H Q :=
  ⟨x, .ty "int", _, _, b, rfl, .ty _, ty_of h, by rw [← e]; exact kit_isIn h, q⟩
def isSt : PyData → Bool
  | .str _ => true
  | _ => false
theorem kit_isSt {K : PySem.W.Frag} {H : Hp} {x : V} {d : PyData} (h : Dp K H x d) : PySem.W.kitOne K (.type (tyN d)) (.type "str") = some (isSt d) := by
  cases h with
  | non => exact kit_ty (show kitB "NoneType" "str" = some false by decide +kernel)
  | bl => exact kit_ty (show kitB "bool" "str" = some false by decide +kernel)
  | int => exact kit_ty (show kitB "int" "str" = some false by decide +kernel)
  | str => exact kit_ty (show kitB "str" "str" = some true by decide +kernel)
  | lst => exact kit_ty (show kitB "list" "str" = some false by decide +kernel)
  | tup => exact kit_ty (show kitB "tuple" "str" = some false by decide +kernel)
theorem r_isSt {K : PySem.W.Frag} {H : Hp} {x : V} {d : PyData} {b : Bool} {Q : VK} (h : Dp K H x d) (e : isSt d = b) (q : Q (.bl b) H) : rIsi K [x, .ty "str"] H Q :=
  ⟨x, .ty "str", _, _, b, rfl, .ty _, ty_of h, by rw [← e]; exact kit_isSt h, q⟩
/-- an item of a list or a tuple -/
def rIxA (K : PySem.W.Frag) : R2 := fun x y H Q => ∃ p xs i v, x = .ref p ∧ y = .int i ∧ (SqL K H p xs ∨ SqT K H p xs) ∧ atI xs i = some v ∧ Q v H
theorem ix_a {X : Cx} : IxR X (rIxA X.K) := fun a b c d e f g h i j k l m o ⟨p, xs, n, v, h1, h2, h3, h4, q⟩ => by
  rcases h3 with h3 | h3
  · exact ix_list a b c d e f g h i j k l m o ⟨p, xs, n, v, h1, h2, h3, h4, q⟩
  · exact ix_tup a b c d e f g h i j k l m o ⟨p, xs, n, v, h1, h2, h3, h4, q⟩
theorem ix_aK {X : Cx} {K : PySem.W.Frag} (e : X.K = K) : IxR X (rIxA K) := by subst e; exact ix_a
def rLenS (K : PySem.W.Frag) : List V → Hp → VK → Prop := fun xs H Q => ∃ p ys, xs = [.ref p] ∧ (SqL K H p ys ∨ SqT K H p ys) ∧ Q (.int ys.length) H
theorem call_lenK {X : Cx} {K : PySem.W.Frag} (e : X.K = K) : CallR X (.builtin "len") (rLenS K) := by subst e; exact call_len_seq
theorem r_lens {K : PySem.W.Frag} {H : Hp} {p : Addr} {xs : List V} {Q : VK} (e : SqL K H p xs ∨ SqT K H p xs) (h : Q (.int xs.length) H) : rLenS K [.ref p] H Q := ⟨p, xs, rfl, e, h⟩
theorem cr_allK {X : Cx} {K : PySem.W.Frag} (e : X.K = K) (hc : X.calm = true) : CallR X (.builtin "all") (rAll K) := by subst e; exact cr_all hc
theorem call_isiK' {X : Cx} {K : PySem.W.Frag} (e : X.K = K) : CallR X (.builtin "isinstance") (rIsi K) := by subst e; exact call_isi
theorem r_ixa {K : PySem.W.Frag} {H : Hp} {p : Addr} {i : Int} {xs : List V} {v : V} {Q : VK} (e : SqL K H p xs ∨ SqT K H p xs) (hi : atI xs i = some v) (h : Q v H) : rIxA K (.ref p) (.int i) H Q := ⟨p, xs, i, v, rfl, rfl, e, hi, h⟩
/-- a list or a tuple of data -/
inductive DSeq (K : PySem.W.Frag) (H : Hp) : V → List PyData → Prop
  | mk {a : Addr} {xs : List V} {ds : List PyData} : (SqL K H a xs ∨ SqT K H a xs) → DpAll K H xs ds → DSeq K H (.ref a) ds
end Wn
namespace Wn
open PySem PySem.Spec PyProof.Rows L2
theorem has_ne {H : Hp} {a b : Addr} {u : HO} (h : b ≠ a) (e : ∃ o, H b = some o) : ∃ o, upd H a u b = some o := let ⟨o, z⟩ := e; ⟨o, (upd_ne h).trans z⟩
section
variable {σ σ' : L2.St} {H : Hp} {Q : VK} {D : Ends} {ta tb te to : TE} {tl : TA} {K : PySem.W.Frag}
theorem r_bm {T : String} {r : V → List V → Hp → VK → Prop} (h : to σ H fun x H1 => tyV K T x H1 ∧ tl σ H1 fun xs H2 => r x xs H2 Q) : tBM K T r to tl σ H Q := h
theorem r_tyl {p : Addr} {xs : List V} {P : Prop} (e : H p = some (.lst xs)) (h : P) : tyV K "list" (.ref p) H ∧ P := ⟨.inl ⟨rfl, xs, SqL.of e⟩, h⟩
theorem r_ext {l b : Addr} {xs zs : List V} (h1 : H l = some (.lst xs)) (h2 : H b = some (.lst zs)) (hz : xs.length + zs.length ≤ sizeLine) (q : Q .non (upd H l (.lst (xs ++ zs)))) : rExtend (.ref l) [.ref b] H Q :=
  ⟨l, b, xs, zs, rfl, rfl, h1, h2, hz, q⟩
theorem r_cat {l b : Addr} {xs zs : List V} (h1 : H l = some (.lst xs)) (h2 : H b = some (.lst zs)) (hz : xs.length + zs.length ≤ sizeLine) (q : ∀ p, H p = none → Q (.ref p) (upd H p (.lst (xs ++ zs)))) : rCat (.ref l) (.ref b) H Q :=
  ⟨l, b, xs, zs, rfl, rfl, h1, h2, hz, q⟩
theorem same_upd {H H' : Hp} {p : Addr} {o : HO} (s : Same H H') (n : H p = none) : Same H (upd H' p o) := fun b x e => (upd_ne (ne_of_none e n)).trans (s b x e)
end
end Wn
/-! Wn: exceptions of own classes as values: made, asked for their kind, read. -/
namespace Wn
open PySem PySem.Spec PyProof.Rows L2
open PySem.W (Frag findIn subIn hasDictIn specialIn takesIn mroIn InstAt KitX)
/-- what the written part tells of an own exception class -/
structure XCls (K : Frag) (D : Addr) : Prop where
  o : OexC K D
  c : ExcC K D
section
variable {prog : Program} {w : World} {A : Around} {E : Value → Shared → Prop} {s : Shared} {K : Frag} {x D : Addr} {ox : Obj} {od : Option Obj}
theorem xclass (T : ExcC K D) {Q : Option Value → Shared → Prop} (KI : K.In s.heap) (J : InstAt s.heap x ox D od) (q : Q (some (.ref D)) { s with toks := s.toks + 1 }) :
    wpAny (model prog w) A (getAttr? (.ref x) "__class__") Q E s := by
  have fo : PySem.W.findObj K D od "__class__" = some (.bind (.builtin "getset_descriptor.__get__") (.builtin "object.__class__")) := by
    have cs : (PySem.W.clsIn K D).isSome = true := by
      obtain ⟨cd, e, _⟩ := PySem.W.any_some T.hd
      rw [e]
      rfl
    cases od with
    | none => exact PySem.W.findObj_dataN cs T.ha T.hn T.ht
    | some o => exact PySem.W.findObj_data cs T.ha T.hn T.ht
  obtain ⟨hh, gg, dd, tt, oo⟩ := s
  have l0 := J.type (M := model prog w)
  have l1 := PySem.W.looks_findIn (M := model prog w) KI T.hg
  have l2 := PySem.W.looks_findIn (M := model prog w) KI T.hk
  have l3 := PySem.W.looks_find (M := model prog w) KI J fo
  have lsub : PySem.W.Looks (model prog w) hh (isInstance (.ref x) (.type "BaseException")) true :=
    l0.andThen (PySem.W.looks_subIn KI T.hs)
  have b0 : (false && onTheHeap (Value.builtin "BaseException.__getattribute__")) = false := rfl
  have b2 : (Value.builtin "BaseException.__getattribute__"
      == Value.builtin "object.__getattribute__") = false := by decide +kernel
  have b1 : (onTheHeap (Value.ref D) && Value.builtin "BaseException.__getattribute__"
      == Value.builtin "object.__getattribute__") = false := by
    rw [b2]
    rfl
  unfold getAttr? getAttrBy? getAttrBy
  refine wpAny_bind (wpAny_mkText (wpAny_bind (wpAny_attempt
    (wpAny_holding (wpAny_bind (l0.at (wpAny_bind (l1.at ?_))))))))
  show wpAny _ _ (if (onTheHeap (Value.ref D) && Value.builtin "BaseException.__getattribute__"
    == Value.builtin "object.__getattribute__") = true then _ else _) _ _ _
  rw [b1, if_neg Bool.false_ne_true]
  unfold getAttrByItsOwn hookBefore
  refine wpAny_bind ?_
  have ht : onTheHeap (Value.ref D) = true := rfl
  rw [if_pos ht]
  refine l2.at ?_
  refine wpAny_bind (wpAny_attempt
    (wpAny_holding ?_))
  unfold callGetattribute
  rw [b0, if_neg Bool.false_ne_true]
  unfold boundAndCalled
  rw [PySem.F.excAttr_ValueError.ga.bind
    (.ref x)]
  refine wpAny_bind (wpAny_pure ?_)
  show wpAny _ _ (call (.builtin "BaseException.__getattribute__")
    [.ref x, .str "__class__" tt]) _ _ _
  refine wpAny_call (codeAny_call_builtin PySem.F.excAttr_ValueError.ga.plain
    PySem.F.entry_bexc_ga ?_)
  refine @PySem.W.check_slot (model prog w) _ _ ⟨hh, gg, dd, tt + 1, oo⟩ "BaseException.__getattribute__" "BaseException" "__getattribute__" (.ref x) [.str "__class__" tt] [] _ (by decide +kernel) (by decide +kernel) lsub (PySem.F.args_bexc_ga (.ref x) (.str "__class__" tt)) ?_
  unfold Builtin.«object.__getattribute__»
  refine wpAny_bind (wpAny_of_eq (a := ((Value.ref x : Value), [Value.str "__class__" tt]))
    (by first | rfl | (simp only [slotArgs]; rfl)) ?_)
  refine wpAny_bind (wpAny_pure (wpAny_bind
    (l0.at (wpAny_bind (l3.at ?_)))))
  show wpAny _ _ (holding [Value.builtin "object.__class__"] (call (.builtin "getset_descriptor.__get__")
    [.builtin "object.__class__", .ref x, .ref D]) >>= ret) _ _ _
  refine wpAny_bind (wpAny_holding (wpAny_call (PySem.W.class_get (s := ⟨hh, gg, dd, tt + 1, oo⟩) (ox := ox) (od := od) KI J T.hm ?_)))
  refine wpAny_pure ?_
  show wpAny _ _ (handedOut (.ref D)) _ _ _
  rw [PySem.W.handedOut_of (v := .ref D) rfl]
  first
    | exact wpAny_pure (wpAny_pure q)
    | exact wpAny_pure q
    | exact wpAny_pure (wpAny_bind
        (wpAny_pure (wpAny_pure q)))
theorem cls_there (T : ExcC K D) : ∃ d' cd' sl' c', K.lookup D = some ⟨c', d', .cls cd', sl'⟩ := by
  obtain ⟨cd, e, _⟩ := PySem.W.any_some T.hd
  unfold PySem.W.clsIn at e
  split at e
  · rename_i c1 d1 cd1 sl1 ho
    exact ⟨_, _, _, _, ho⟩
  · cases e
theorem xkit (T : ExcC K D) : KitX K (.ref x) (.ref D) (fun h => InstAt h x ox D od) where
  ty := fun _ _ _ J => J.type
  it := fun _ h KI _ => by
    obtain ⟨d', cd', sl', c', ho⟩ := cls_there T
    intro A1 Q1 E1 s1 kp q
    unfold isType loadHead
    refine wpAny_bind (wpAny_loadPart (kp _ _ (KI _ _ ho)) ?_)
    exact wpAny_pure q
  ne := fun h tp d1 its n sl KI e => by
    obtain ⟨d', cd', sl', c', ho⟩ := cls_there T
    cases hq : (Value.ref D == Value.ref tp) with
    | false => rfl
    | true =>
      have e2 : D = tp := Value.ref.inj (beq_iff_eq.mp hq)
      have z := KI _ _ ho
      rw [e2, e] at z
      cases z
  ca := fun KI J q => xclass T KI J q
end
/-! ### rules -/
/-- C(e, ..) as a value, C's own __init__ keeping sp -/
def tMkV (C : Addr) (sp : Sp) (dvs : List V) (ta : TA) : TE := fun σ H Q => ta σ H fun vs H1 => vs.length ≤ 1000 ∧ ∀ a, H1 a = none →
  sp (.ref a :: (vs ++ dvs)) (upd H1 a (exo a C none)) (fun v H2 => v = .non ∧ Q (.ref a) H2) (fun _ _ _ => False)
section
variable {X : Cx} {e : Expr} {es : List Expr} {ta : TA} {te : TE} {p pos : Pos}
theorem pe_mkV {CX : CXT} {x : Str} {C fI : Addr} {k : Nat} {fd : FuncData} {ps : List Str} {sp : Sp} {ds : List Value} {dvs : List V} (T : OexC X.K C)
    (iC : findIn X.K (.ref C) "__init__" = some (some (.ref fI))) (tI : PySem.W.typeIn X.K (.ref fI) = some (.type "function"))
    (G : FnOk X.prog X.w X.K X.mg X.base CX k fI fd ps sp) (hr : Room (k + 1) X.A) (hb : Binds X.K fd ps ds) (hd : Vals dvs ds) (hx : Passes CX X (fun _ _ _ => False))
    (hg : Gl X x) (hm : X.mg x = some (.ref C)) (ha : PA X (e :: es) ta) (hdb : (x == ("__debug__" : Str)) = false := by decide)
    (he : starEach (e :: es) X.env = (false, eval e X.env) :: starEach es X.env := by rfl) (hpl : (backTo pos (starEach es X.env)).any (·.1) = false := by rfl) :
    PE X (.Call (.Name x p) (e :: es) [] pos) (tMkV C sp dvs ta) := by
  refine ⟨fun pins s σ H Q I h => ?_⟩
  obtain ⟨nm, q, N, bs, bm, sn, sub, ab, col, dd, k0, k1, k2, k3, k5, lC, rbm⟩ := T.cls
  refine wpAny_Call_Name_kw (ld_glob I hg hm ?_ hdb)
  refine PySem.W.callWith_K (h₀ := X.base) I.ok.mod.kin T.kC
    (thn (ha.run pos pins s σ H _ I h) fun us s1 ⟨vs, H1, I1, rv, hz, q1⟩ => ⟨I1.kIn, ?_⟩) he hpl
  show wpAny _ _ (call (.ref C) us) _ _ _
  obtain ⟨hp, gg, dr, tk, os⟩ := s1
  have big : hp.objs.size ≤ hp.objs.size + 1 := Nat.le_succ _
  have fresh : H1 (hp.objs.size + 1) = none := I1.hok.fresh big
  have want := q1 (hp.objs.size + 1) fresh
  generalize hE : (hp.push (PySem.W.kdv_tup us)).push (PySem.HandSPX.excO C hp.objs.size) = hp2
  have keep2 : ∀ b o, hp.get? b = some o → hp2.get? b = some o := fun b o z => by
    rw [← hE]
    exact Heap.get?_push_of_some _ (Heap.get?_push_of_some _ z)
  have at2 : hp2.get? (hp.objs.size + 1) = some (PySem.HandSPX.excO C hp.objs.size) := by
    rw [← hE]
    heap_get
  have I2 : Inv X pins σ (upd H1 (hp.objs.size + 1) (exo (hp.objs.size + 1) C none)) ⟨hp2, gg, dr, tk, os⟩ :=
    I1.laid (t' := tk) (a := hp.objs.size + 1) (o := exo (hp.objs.size + 1) C none) (h' := hp2) keep2 big (exo_ok at2)
  have vals2 : Vals (V.ref (hp.objs.size + 1) :: (vs ++ dvs)) (Value.ref (hp.objs.size + 1) :: (us ++ ds)) := .cons rfl (rv.append hd)
  have len2 : (Value.ref (hp.objs.size + 1) :: us ++ ds).length = ps.length := by
    have z := vals2.length
    rw [G.len _ _ _ _ want] at z
    exact z.symm
  have few : us.length ≤ sizeLine := by
    rw [← Paired.length rv, sizeLine_eq]
    omega
  have run := G.run _ X.stack _ _ ⟨Value.ref (hp.objs.size + 1) :: us, []⟩ (Value.ref (hp.objs.size + 1) :: (us ++ ds)) _ _ (fun _ _ _ => False) (hr.make C us []) (I2.env0.make C us [])
    (hb _ (Value.ref (hp.objs.size + 1) :: us) I2.kIn len2) vals2 want
  refine wpAny_call (PySem.HandSPX.call_own F.excBase_ValueError (fun Y => PySem.HandSPX.refsVE_contains Y bm rbm) (I1.kIn _ _ lC)
    (PySem.W.looks_findIn I1.kIn iC) (fun self => PySem.W.bind_fn I1.kIn self tI) few (by
      rw [hE]
      refine codeAny_mono run fun r s' hq' => ?_
      cases r with
      | error er => exact hx pins σ _ _ er s' I2 hq'
      | ok fl =>
        cases fl with
        | ret u =>
          obtain ⟨v, H2, I3, rv', ev, q2⟩ := I2.after hq'
          subst ev
          exact ⟨rv', ⟨V.ref (hp.objs.size + 1), H2, I3, rfl, q2⟩⟩
        | next => exact False.elim hq'
        | brk => exact False.elim hq'
        | cont => exact False.elim hq'))
/-- C() as a value, C an own class without own __init__ -/
theorem pe_mkV0 {C : Addr} {bmB : List Value} {B newId initId : String} {x : Str} (F : ExcBaseFacts B newId initId bmB) (q : PySem.W.excIn X.K C bmB newId = true)
    (hg : Gl X x) (hm : X.mg x = some (.ref C)) (kC : PySem.W.keepIn X.K (.ref C) = true) (hdb : (x == ("__debug__" : Str)) = false := by decide) :
    PE X (.Call (.Name x p) [] [] pos) (fun _ H Q => ∀ a, H a = none → Q (.ref a) (upd H a (exo a C none))) := by
  refine ⟨fun pins s σ H Q I h => ?_⟩
  refine wpAny_Call_Name_kw (ld_glob I hg hm ?_ hdb)
  refine PySem.W.callWith_K0 I.kIn kC ?_
  obtain ⟨bm, N, nm, qn, bs, hdct, sn, sub, ab, col, dd, k0, k1, k2, k3, k5, mN, lC, nN, nI, T⟩ := exc_obj I.kIn q
  refine wpAny_call_exc_subT F T lC nN nI (fun h' a md => ?_) (by show 0 ≤ sizeLine; exact Nat.zero_le _)
  have fresh : H a = none := I.hok.gone md.new
  obtain ⟨t, at', _, _⟩ := md.there
  exact ⟨.ref a, upd H a (exo a C none), I.laidN md.keeps md.new fresh (exo_ok at'), rfl, h a fresh⟩
/-- isinstance(e, c), e an own exception that is tracked -/
def rIsX (K : Frag) : List V → Hp → VK → Prop := fun xs H Q => ∃ (a D : Addr) (od : Option Addr) (c : V) (cv : Value) (b : Bool), xs = [.ref a, c] ∧ H a = some (exo a D od) ∧ (∀ d, od = some d → ∃ fs, H d = some (exd d fs)) ∧ ExcC K D ∧
  ClsV c cv ∧ PySem.W.kitOne K (.ref D) cv = some b ∧ Q (.bl b) H
theorem inst_of {pins : List (Addr × Obj)} {σ : L2.St} {H : Hp} {s : Shared} {a D : Addr} {od : Option Addr} (I : Inv X pins σ H s) (ea : H a = some (exo a D od)) (ed : ∀ d, od = some d → ∃ fs, H d = some (exd d fs)) :
    ∃ ox oo, InstAt s.heap a ox D oo ∧ ∀ d, od = some d → ∃ o, oo = some o ∧ s.heap.get? d = some o := by
  obtain ⟨t1, ho⟩ := exo_at I.hok ea
  cases od with
  | none => exact ⟨_, none, ⟨ho, rfl, rfl, trivial⟩, fun d z => nomatch z⟩
  | some d =>
    obtain ⟨fs, e2⟩ := ed d rfl
    obtain ⟨mA, hns, rel⟩ := exd_at I.hok e2
    obtain ⟨oD, ho2, _⟩ := lookIn_ns hns
    exact ⟨_, some oD, ⟨ho, rfl, rfl, ho2⟩, fun d' z => by
      cases z
      exact ⟨oD, rfl, ho2⟩⟩
theorem call_isX : CallR X (.builtin "isinstance") (rIsX X.K) := by
  intro pins s σ H xs us Q I r h
  obtain ⟨a, D, od, c, cv, b, rfl, ea, ed, T, hc, e, q⟩ := h
  obtain ⟨u1, u2, rfl, r1, r2⟩ := vals2 r
  cases (show u1 = Value.ref a from r1)
  have e2 := hc.eq r2
  subst e2
  obtain ⟨ox, oo, J, _⟩ := inst_of I ea ed
  exact PySem.W.kia_one (xkit (x := a) (ox := ox) (od := oo) T) I.kIn J e (fun z => nomatch z) fun tk => ⟨.bl b, H, I.tok tk, rfl, q⟩
/-- e.f, e an own exception that is tracked -/
def tFldX (K : Frag) (f : Str) (te : TE) : TE := fun σ H Q => te σ H fun x H1 => ∃ (a D d : Addr) (fs : List (Str × V)) (v : V), x = .ref a ∧ H1 a = some (exo a D (some d)) ∧ H1 d = some (exd d fs) ∧ fs.lookup f = some v ∧
  ExcC K D ∧ findIn K (.ref D) f = some none ∧ Q v H1
theorem pe_fldX {f : Str} (he : PE X e te) (hb : attributeBase e f X.env (eval e X.env) = eval e X.env := by rfl) : PE X (.Attribute e f pos) (tFldX X.K f te) := by
  refine ⟨fun pins s σ H Q I h => ?_⟩
  refine attr_of hb (thn (he.run pins s σ H _ I h) fun u s1 hh => ?_)
  obtain ⟨x, H1, I1, rx, a, D, d, fs, v, ex, ea, ed, lk, T, nf, q⟩ := hh
  subst ex
  obtain rfl : u = Value.ref a := rx
  obtain ⟨mA, hns, rel⟩ := exd_at I1.hok ed
  obtain ⟨oD, ho2, hl⟩ := lookIn_ns hns
  obtain ⟨t1, ho⟩ := exo_at I1.hok ea
  obtain ⟨uv, hu, ru⟩ := RelO.some_of (v := v) (o := mA f) (by rw [← lk]; exact rel f)
  have J : InstAt s1.heap a ({ cls := .ref D, dict := some d, data := .fields #[.ref t1, .none, .none, .none, .bool false, .none] } : Obj) D (some oD) := ⟨ho, rfl, rfl, ho2⟩
  exact HandSPX.exc_get I1.kIn J T.hg T.hk T.hs (PySem.W.findObj_own T.hd nf rfl (by rw [hl, hu])) (handed_of ru) ⟨v, H1, I1.tok _, ru, q⟩
end
end Wn
local macro_rules | `(tactic| walk_at "hs") => `(tactic| (first | exact ⟨_, L2.upd_same⟩ | exact ⟨_, by assumption⟩ | (refine Wn.has_ne ?_ ?_; (focus (walk_at "ne")); walk_at "hs")))
local macro_rules | `(tactic| walk_at "ne") => `(tactic| (first | assumption | (refine Ne.symm ?_; assumption) | (refine Wn.ne_ex ?_ (by assumption); walk_at "hs") | (refine Ne.symm ?_; refine Wn.ne_ex ?_ (by assumption); walk_at "hs")))
local macro_rules | `(tactic| walk_at "lk") => `(tactic| with_unfolding_all (first | assumption | exact L2.upd_same | (refine Wn.lk_ne ?_ ?_; (focus (walk_at "ne")); walk_at "lk") ))
local macro_rules | `(tactic| walk_at "sm") => `(tactic| (first | exact L2.Same.refl _ | assumption | (refine Wn.same_upd ?_ ?_; (focus (walk_at "sm")); assumption)))
local macro_rules | `(tactic| walk_at "sc") => `(tactic| with_unfolding_all (first | exact .inl ⟨by decide, by decide⟩ | exact .inr ⟨by decide, by decide⟩ | (show (0:Int) < _; first | decide | omega) | (constructor <;> first | decide | omega) | (refine ⟨?_, ?_, ?_⟩ <;> decide) | exact .inl ⟨by omega, by omega⟩ | exact .inr ⟨by omega, by omega⟩))
local macro_rules | `(tactic| walk_at "go1") => `(tactic| (first
  | with_reducible refine L2.iteT ?_
  | with_reducible refine L2.iteF ?_
  | with_reducible refine Wn.r_seq ?_
  | with_reducible refine Wn.r_asg ?_
  | with_reducible refine Wn.r_op ?_
  | with_reducible refine Wn.r_un ?_
  | with_reducible refine Wn.r_c ?_
  | with_reducible refine Wn.r_test ?_
  | with_reducible refine Wn.r_tb ?_
  | with_reducible refine Wn.r_bl ?_
  | with_reducible refine Wn.r_ifs ?_
  | with_reducible refine Wn.r_ifj ?_
  | with_reducible refine Wn.r_yes ?_
  | with_reducible refine Wn.r_lst ?_
  | with_reducible refine Wn.r_tup ?_
  | with_reducible refine Wn.r_ret ?_
  | with_reducible refine Wn.r_next ?_
  | with_reducible refine Wn.r_drop ?_
  | with_reducible refine Wn.r_nil ?_
  | with_reducible refine Wn.r_cons ?_
  | with_reducible refine Wn.r_cb ?_
  | with_reducible refine Wn.r_gsub ?_
  | with_reducible refine Wn.r_I0 ?_
  | with_reducible refine Wn.r_int1 ?_
  | with_reducible refine Wn.r_call ?_
  | with_reducible refine Wn.r_andr ?_
  | with_reducible refine Wn.r_andv ?_
  | with_reducible refine Wn.r_orv ?_
  | with_reducible refine Wn.r_notv ?_
  | with_reducible refine Wn.r_and ?_
  | with_reducible refine Wn.r_or ?_
  | with_reducible refine Wn.r_not ?_
  | with_reducible refine Wn.r_ife ?_
  | with_reducible refine Wn.r_wipe (by with_unfolding_all exact rfl) ?_
  | with_reducible refine Wn.ite_t (by with_unfolding_all first | decide | exact decide_eq_true rfl | exact Wn.nd_t (Wn.clash_ne rfl) | fail) ?_
  | with_reducible refine Wn.ite_f (by with_unfolding_all first | decide | exact decide_eq_false (Wn.clash_ne rfl) | exact Wn.nd_f rfl | fail) ?_
  | with_reducible refine Wn.r_lens (by first | exact Or.inl (by assumption) | exact Or.inr (by assumption) | exact Or.inl (L2.SqL.of (by walk_at "lk")) | exact Or.inr (L2.SqT.of (by walk_at "lk")) | fail) ?_
  | with_reducible refine Wn.r_isTup (b := true) (by first | assumption | fail) (by with_unfolding_all first | exact rfl | fail) ?_
  | with_reducible refine Wn.r_isTup (b := false) (by first | assumption | fail) (by with_unfolding_all first | exact rfl | fail) ?_
  | with_reducible refine Wn.r_isLst (b := true) (by first | assumption | fail) (by with_unfolding_all first | exact rfl | fail) ?_
  | with_reducible refine Wn.r_isLst (b := false) (by first | assumption | fail) (by with_unfolding_all first | exact rfl | fail) ?_
  | with_reducible refine Wn.r_isBl (b := true) (by first | assumption | fail) (by with_unfolding_all first | exact rfl | fail) ?_
  | with_reducible refine Wn.r_isBl (b := false) (by first | assumption | fail) (by with_unfolding_all first | exact rfl | fail) ?_
  | with_reducible refine Wn.r_isIn (b := true) (by first | assumption | fail) (by with_unfolding_all first | exact rfl | fail) ?_
  | with_reducible refine Wn.r_isIn (b := false) (by first | assumption | fail) (by with_unfolding_all first | exact rfl | fail) ?_
  | with_reducible refine Wn.r_isSt (b := true) (by first | assumption | fail) (by with_unfolding_all first | exact rfl | fail) ?_
  | with_reducible refine Wn.r_isSt (b := false) (by first | assumption | fail) (by with_unfolding_all first | exact rfl | fail) ?_
  | with_reducible refine Wn.r_sz (by with_unfolding_all first | (simp only [List.length_cons, List.length_nil]; decide) | fail) ?_
  | with_reducible refine Wn.r_var (by with_unfolding_all exact rfl) ?_
  | with_reducible refine Wn.r_gname (by with_unfolding_all exact rfl) ?_
  | with_reducible refine Wn.r_ix (by walk_at "lk") (by with_unfolding_all exact rfl) ?_
  | with_reducible refine Wn.r_ixt (by walk_at "lk") (by with_unfolding_all exact rfl) ?_
  | with_reducible refine Wn.r_lenl (by walk_at "lk") ?_
  | with_reducible refine Wn.r_lent (by walk_at "lk") ?_
  | with_reducible refine Wn.r_setl (by walk_at "lk") (by with_unfolding_all exact rfl) (by (dsimp only [Int.reduceToNat, List.set]; try exact rfl)) ?_
  | with_reducible refine Wn.r_eq (by with_unfolding_all exact rfl) ?_
  | with_reducible refine Wn.r_ne (by with_unfolding_all exact rfl) ?_
  | with_reducible refine Wn.r_I (by walk_at "sc") ?_))
local macro_rules | `(tactic| walk_at "go") => `(tactic| repeat (walk_at "go1"))


namespace Wn
open PySem PySem.Spec PyProof.Rows L2
def top (i : Nat) : Stmt := PySem.Challenge.pw_wrongshown_k43_errors_apart.main.body.getD i (.Pass ⟨0, 0, 0, 0⟩)
abbrev sMix : Stmt := top 23
abbrev sBox : Stmt := top 24
abbrev sDraw : Stmt := top 25
abbrev sSame : Stmt := top 26
theorem scMix : FnScope ["_law_value", "_law_k", "_law_number"] ["_law_value", "_law_k"] (defScope sMix) := ⟨rfl, rfl, rfl, by decide +kernel, rfl, by decide +kernel, by decide +kernel⟩
theorem scBox : FnScope ["_law_script", "_law_cell", "_law_cells", "_law_seed"] ["_law_script"] (defScope sBox) := ⟨rfl, rfl, rfl, by decide +kernel, rfl, by decide +kernel, by decide +kernel⟩
theorem scDraw : FnScope ["_law_box_here", "_law_many", "_law_cell", "_law_digit"] ["_law_box_here", "_law_many"] (defScope sDraw) := ⟨rfl, rfl, rfl, by decide +kernel, rfl, by decide +kernel, by decide +kernel⟩
/-! ### promises -/
def spMix : Sp := fun vs H Q _ => ∃ v k : Int, vs = [.int v, .int k] ∧ ∀ r : Int, 0 ≤ r → Q (.int r) H
structure BoxAt (H : Hp) (b c : Addr) : Prop where
  ne : b ≠ c
  ex : ∃ (cs : List Int) (i d sd n : Int), H b = some (.lst [.ref c, .int i, .int d, .int sd, .int n]) ∧ H c = some (.lst (cs.map V.int)) ∧ 0 ≤ i ∧ 0 ≤ d
def spBox (K : PySem.W.Frag) : Sp := fun vs H Q _ => ∃ (a : Addr) (ns : List Int), vs = [.ref a] ∧ SqL K H a (ns.map V.int) ∧ ns.length ≤ 63 ∧
  ∀ H' b c, Same H H' → H b = none → H c = none → BoxAt H' b c → Q (.ref b) H'
def spDraw : Sp := fun vs H Q _ => ∃ (b c : Addr) (m : Int), vs = [.ref b, .int m] ∧ 0 < m ∧ m < 1073741824 ∧ BoxAt H b c ∧
  ∀ (r : Int) (H' : Hp), 0 ≤ r → r < m → (∀ x, x ≠ b → H' x = H x) → BoxAt H' b c → Q (.int r) H'
theorem boxAt_upd {H H0 : Hp} {b c : Addr} {cs : List Int} {i d sd n : Int} (ne : b ≠ c) (hc : H c = some (.lst (cs.map V.int))) (hb : H b = some (.lst [.ref c, .int i, .int d, .int sd, .int n])) (hi : 0 ≤ i) (hd : 0 ≤ d) : BoxAt H b c := ⟨ne, cs, i, d, sd, n, hb, hc, hi, hd⟩
section
variable {P : Program} {w : World} {K : PySem.W.Frag} {mg : Str → Option Value} {base : Heap}
theorem ok_mix {f : Addr} {fd : FuncData} {k : Nat} (F : Fun K "_law_mix" "_law_mix" sMix f fd) (mi : mg "int" = none) : FnOk P w K mg base CX0 (k + 1) f fd ["_law_value", "_law_k"] spMix := by
  refine F.ok scMix (fun vs H Q E h => ?_) (fun cdv A outer s H vs Q E hr h => ?_)
  · obtain ⟨v, k, rfl, _⟩ := h
    rfl
  · obtain ⟨v, k, rfl, q⟩ := h
    refine ⟨_, pss_cons (ps_set (i := 2) scMix.nd rfl (.inl rfl) (pe_op op_mod (pe_op op_mul (pe_op op_add (pe_op op_add (pe_callTy call_intI (by rfl) mi (by decide +kernel) (pa_cons (pv 0) pa_nil)) (pe_op op_mul pe_int (pv 1))) pe_int) pe_int) pe_int))
      (pss_cons (ps_set (i := 2) scMix.nd rfl (.inl rfl) (pe_op op_mod (pe_op op_mul (pv 2) (pe_op op_add (pe_op op_fdiv (pv 2) pe_int) pe_int)) pe_int))
      (pss_one (ps_ret (pe_op op_mod (pe_op op_mul (pv 2) (pe_op op_add (pe_op op_fdiv (pv 2) pe_int) pe_int)) pe_int)))), ?_⟩
    show tSeq _ _ _ [_, _, none] _
    walk_at "go"
    exact q _ (Int.emod_nonneg _ (by decide))
theorem ok_draw {f fM : Addr} {fd fdM : FuncData} (F : Fun K "_law_draw" "_law_draw" sDraw f fd) (FM : Fun K "_law_mix" "_law_mix" sMix fM fdM) (bM : Binds K fdM ["_law_value", "_law_k"] []) (gM : mg "_law_mix" = some (.ref fM))
    (mi : mg "int" = none) (ml : mg "len" = none) : FnOk P w K mg base CX0 2 f fd ["_law_box_here", "_law_many"] spDraw := by
  have GM : FnOk P w K mg base CX0 1 fM fdM ["_law_value", "_law_k"] spMix := ok_mix FM mi
  refine F.ok scDraw (fun vs H Q E h => ?_) (fun cdv A outer s H vs Q E hr h => ?_)
  · obtain ⟨b, c, m, rfl, _⟩ := h
    rfl
  · obtain ⟨b, c, m, rfl, hm, hm2, ⟨hbc, cs, i, d, sd, n, hb, hc, hi, hd⟩, q⟩ := h
    refine ⟨_, pss_cons (ps_asg (pe_op op_add (pe_ix ix_l (pv 0) pe_int (fun _ _ => rfl)) pe_int) (pg_sub (pv 0) pe_int set_list))
      (pss_cons (ps_ifj (PW.pt (pw_and (pt_cmpR op_eq (pe_ix ix_l (pv 0) pe_int (fun _ _ => rfl)) pe_int (nomark _)) (pw_and1 (pt_cmpR op_lt (pe_ix ix_l (pv 0) pe_int (fun _ _ => rfl)) (pe_callB call_lenL (by rfl) ml PySem.boot_len (pa_cons (pe_ix ix_l (pv 0) pe_int (fun _ _ => rfl)) pa_nil)) (nomark _)))))
        (pss_cons (ps_set (i := 2) scDraw.nd rfl (.inl rfl) (pe_ix ix_l (pe_ix ix_l (pv 0) pe_int (fun _ _ => rfl)) (pe_ix ix_l (pv 0) pe_int (fun _ _ => rfl)) (fun _ _ => rfl)))
        (pss_cons (ps_asg (pe_op op_add (pe_ix ix_l (pv 0) pe_int (fun _ _ => rfl)) pe_int) (pg_sub (pv 0) pe_int set_list))
        (pss_cons (ps_if (pt_cmpR op_lt (pv 2) (pe_op op_pow pe_int pe_int) (nomark _))
          (pss_one (ps_ret (pe_op op_mod (pe_callTy call_intI (by rfl) mi (by decide +kernel) (pa_cons (pe_call GM hr (by rfl) gM FM.kp bM .nil pass0 (pa_cons (pv 2) (pa_cons (pe_ix ix_l (pv 0) pe_int (fun _ _ => rfl)) pa_nil))) pa_nil)) (pv 1)))) pss_nil)
        (pss_one (ps_asg (pv 2) (pg_sub (pv 0) pe_int set_list)))))) pss_nil)
      (pss_cons (ps_if (pt_cmpR op_eq (pe_ix ix_l (pv 0) pe_int (fun _ _ => rfl)) pe_int (nomark _))
          (pss_one (ps_ret (pe_op op_mod (pe_callTy call_intI (by rfl) mi (by decide +kernel) (pa_cons (pe_call GM hr (by rfl) gM FM.kp bM .nil pass0 (pa_cons (pe_ix ix_l (pv 0) pe_int (fun _ _ => rfl)) (pa_cons (pe_ix ix_l (pv 0) pe_int (fun _ _ => rfl)) pa_nil))) pa_nil)) (pv 1)))) pss_nil)
      (pss_cons (ps_set (i := 3) scDraw.nd rfl (.inl rfl) (pe_op op_mod (pe_callTy call_intI (by rfl) mi (by decide +kernel) (pa_cons (pe_ix ix_l (pv 0) pe_int (fun _ _ => rfl)) pa_nil)) (pv 1)))
      (pss_cons (ps_asg (pe_op op_fdivN (pe_callTy call_intI (by rfl) mi (by decide +kernel) (pa_cons (pe_ix ix_l (pv 0) pe_int (fun _ _ => rfl)) pa_nil)) (pv 1)) (pg_sub (pv 0) pe_int set_list))
      (pss_one (ps_ret (pv 3))))))), ?_⟩
    show tSeq _ _ _ [_, _, none, none] _
    walk_at "go"
    have fin : ∀ (H' : Hp) (i' d' sd' n' r : Int), 0 ≤ r → (∀ x, x ≠ b → H' x = H x) → H' b = some (.lst [.ref c, .int i', .int d', .int sd', .int n']) → 0 ≤ i' → 0 ≤ d' → Q (.int (r % m)) H' := fun H' i' d' sd' n' r hr0 hx hb' hi' hd' =>
      q _ H' (Int.emod_nonneg _ (by omega)) (Int.emod_lt_of_pos _ hm) hx ⟨hbc, cs, i', d', sd', n', hb', (hx c hbc.symm).trans hc, hi', hd'⟩
    have tail : ∀ (H' : Hp) (i' d' sd' n' : Int) (D : Ends) (c2 : Option V), (∀ x, x ≠ b → H' x = H x) → H' b = some (.lst [.ref c, .int i', .int d', .int sd', .int n']) → 0 ≤ i' → 0 ≤ d' → D.rt = Q →
      tSeq (tIfS (tTest (tOp rEq (tOp rIx' (tVar 0) (tC (V.int 2))) (tC (V.int 0))))
              (tRet (tOp (rI (fun x j => 0 < j) fun i j => V.int (i % j)) (tCB rInt1 (tCons (tCall spMix [] E0 (tCons (tOp rIx' (tVar 0) (tC (V.int 3))) (tCons (tOp rIx' (tVar 0) (tC (V.int 4))) tNil))) tNil)) (tVar 1))) tNext)
        (tSeq (tAsg (tOp (rI (fun x j => 0 < j) fun i j => V.int (i % j)) (tCB rInt1 (tCons (tOp rIx' (tVar 0) (tC (V.int 2))) tNil)) (tVar 1)) (gName 3))
        (tSeq (tAsg (tOp (rI CDivN fun i j => V.int (i.fdiv j)) (tCB rInt1 (tCons (tOp rIx' (tVar 0) (tC (V.int 2))) tNil)) (tVar 1)) (gSub (tVar 0) (tC (V.int 2)) rSetL))
        (tRet (tVar 3)))) D [some (V.ref b), some (V.int m), c2, none] H' := by
      intro H' i' d' sd' n' D c2 hx hb' hi' hd' hD
      walk_at "go"
      first | refine Wn.ifd_int (fun e1 => ?_) (fun e1 => ?_) | refine Wn.ifd (fun e1 => ?_) (fun e1 => ?_)
      · walk_at "go"
        refine ⟨_, _, rfl, fun r hr0 => ?_⟩
        walk_at "go"
        rw [hD]
        exact fin H' i' d' sd' n' r hr0 hx hb' hi' hd'
      · walk_at "go"
        rw [hD]
        refine q _ _ (Int.emod_nonneg _ (by omega)) (Int.emod_lt_of_pos _ hm) (fun x hne => (upd_ne hne).trans (hx x hne)) ⟨hbc, cs, _, _, _, _, upd_same, (upd_ne hbc.symm).trans ((hx c hbc.symm).trans hc), hi', ?_⟩
        rw [Int.fdiv_eq_ediv_of_nonneg _ (by omega)]
        exact Int.ediv_nonneg hd' (by omega)
    first | refine Wn.ifd_int (fun e0 => ?_) (fun e0 => ?_) | refine Wn.ifd (fun e0 => ?_) (fun e0 => ?_)
    · walk_at "go"
      first | refine Wn.ifd_int (fun e1 => ?_) (fun e1 => ?_) | refine Wn.ifd (fun e1 => ?_) (fun e1 => ?_)
      · walk_at "go"
        have e2 : i < (cs.length : Int) := by rw [List.length_map] at e1; exact e1
        obtain ⟨j, rfl⟩ : ∃ j : Nat, i = (j : Int) := ⟨i.toNat, by omega⟩
        have hj : j < cs.length := by omega
        refine r_ix (xs := cs.map V.int) (v := .int cs[j]) (by walk_at "lk") (atI_nat (by rw [List.getElem?_map, List.getElem?_eq_getElem hj]; rfl)) ?_
        generalize cs[j] = z
        walk_at "go"
        first | refine Wn.ifd_int (fun e3 => ?_) (fun e3 => ?_) | refine Wn.ifd (fun e3 => ?_) (fun e3 => ?_)
        · walk_at "go"
          refine ⟨_, _, rfl, fun r hr0 => ?_⟩
          walk_at "go"
          exact fin _ _ _ _ _ _ hr0 (fun x hne => (upd_ne hne).trans (upd_ne hne)) upd_same (by omega) hd
        · walk_at "go"
          have e4 : (1000000000000000000 : Int) ≤ z := by
            have e5 : (10 : Int) ^ (Int.toNat 18) = 1000000000000000000 := by decide
            omega
          refine r_join ?_
          refine tail _ _ _ _ _ { nx := fun _ H' => Q .non H', rt := Q } _ ?_ (by exact upd_same) ?_ ?_ rfl
          · exact fun x hne => (upd_ne hne).trans ((upd_ne hne).trans (upd_ne hne))
          · omega
          · omega
      · walk_at "go"
        refine r_join ?_
        refine tail _ _ _ _ _ { nx := fun _ H' => Q .non H', rt := Q } _ ?_ (by exact upd_same) ?_ ?_ rfl
        · exact fun x hne => upd_ne hne
        · omega
        · omega
    · walk_at "go"
      refine r_join ?_
      refine tail _ _ _ _ _ { nx := fun _ H' => Q .non H', rt := Q } _ ?_ (by exact upd_same) ?_ ?_ rfl
      · exact fun x hne => upd_ne hne
      · omega
      · omega
end
end Wn


namespace Wn
open PySem PySem.Spec PyProof.Rows L2
theorem cut63 {ns : List Int} (h : ns.length ≤ 63) : cutV (ns.map V.int) none (some 63) = ns.map V.int := by
  unfold cutV
  rw [show HT.sIx (ns.map V.int).length (ns.map V.int).length (some 63) = min 63 (ns.map V.int).length from HT.sIx_nat _ _ 63, HT.sIx_none]
  rw [List.drop_zero, Nat.sub_zero, List.length_map, Nat.min_eq_right h]
  exact List.take_of_length_le (by rw [List.length_map]; exact Nat.le_refl _)
theorem small63 {n : Nat} (h : n ≤ 63) : n < sizeLine := Nat.lt_of_le_of_lt h (by decide)
section
variable {P : Program} {w : World} {K : PySem.W.Frag} {mg : Str → Option Value} {base : Heap}
theorem ok_box {f fM : Addr} {fd fdM : FuncData} (F : Fun K "_law_box" "_law_box" sBox f fd) (FM : Fun K "_law_mix" "_law_mix" sMix fM fdM) (bM : Binds K fdM ["_law_value", "_law_k"] []) (gM : mg "_law_mix" = some (.ref fM))
    (mi : mg "int" = none) : FnOk P w K mg base CX0 2 f fd ["_law_script"] (spBox K) := by
  have GM : FnOk P w K mg base CX0 1 fM fdM ["_law_value", "_law_k"] spMix := ok_mix FM mi
  refine F.ok scBox (fun vs H Q E h => ?_) (fun cdv A outer s H vs Q E hr h => ?_)
  · obtain ⟨a, ns, rfl, _⟩ := h
    rfl
  · obtain ⟨a, ns, rfl, hS, h63, q⟩ := h
    refine ⟨_, pss_cons (ps_setLc (i := 2) (own := [("_law_cell", 1)]) (g := gName 1) (tt := tYes) rfl scBox.nd rfl rfl (sw_true rfl rfl rfl (by decide +kernel)) (pi_list (pe_slice sl_list (pv 0) po_none (po_some pe_int))) (blkOk_by (N := ["_law_script", "_law_cell", "_law_cells", "_law_seed"]) (sc := defScope sBox) (by decide +kernel)) (fun _ _ _ _ _ => pg_name (i := 1) scBox.nd rfl (Or.inl rfl)) (fun _ _ _ _ _ => pts_nil) (fun _ _ _ _ _ => pe_callTy call_intI (by rfl) mi (by decide +kernel) (pa_cons (pv 1) pa_nil)))
      (pss_cons (ps_set (i := 3) scBox.nd rfl (.inl rfl) pe_int)
      (pss_cons (ps_for PassesOwn.never rfl (pi_list (pv 2)) (pg_name (i := 1) scBox.nd rfl (.inl rfl)) (pss_one (ps_set (i := 3) scBox.nd rfl (.inl rfl) (pe_call GM hr (by rfl) gM FM.kp bM .nil pass0 (pa_cons (pe_op op_add (pv 3) (pv 1)) (pa_cons pe_int pa_nil))))))
      (pss_one (ps_ret (pe_lst (pa_cons (pv 2) (pa_cons pe_int (pa_cons pe_int (pa_cons (pv 3) (pa_cons pe_int pa_nil)))))))))), ?_⟩
    show tSeq _ _ _ [_, none, none, none] _
    walk_at "go"
    refine ⟨.ref a, rfl, 63, rfl, a, ns.map V.int, rfl, hS, fun c0 n0 => ?_⟩
    rw [cut63 h63]
    have s0 : Same H (upd H c0 (.lst (ns.map V.int))) := fun b o e => (upd_ne (ne_of_none e n0)).trans e
    generalize hH1 : upd H c0 (.lst (ns.map V.int)) = H1
    rw [hH1] at s0
    have e0 : H1 c0 = some (.lst (ns.map V.int)) := by rw [← hH1]; exact upd_same
    refine ⟨c0, rfl, ⟨_, .inl (.inl e0)⟩, fun D nD => ?_⟩
    refine lc_list (K := K) (a := c0) (xs := ns.map V.int) (fun i H' => Same H1 H' ∧ H' D = some (.lst ((ns.take i).map V.int))) ⟨fun b o e => (upd_ne (ne_of_none e nD)).trans e, upd_same⟩ (fun i H' _ h => h.1.seq (.inl (.inl e0))) ?_ ?_
    · rintro i x H' hi ⟨sm, hD⟩
      obtain ⟨z, hz, rfl⟩ := map_at hi
      walk_at "go"
      refine ⟨_, hD, ?_, fun b o e => ?_, ?_⟩
      · rw [List.length_map, List.length_take]
        exact small63 (by omega)
      · exact (upd_ne (ne_of_none e nD)).trans (sm _ _ e)
      · rw [upd_same, take_at hz, List.map_append]
        rfl
    · rintro H2 ⟨sm, hD⟩
      rw [List.length_map, List.take_length] at hD
      walk_at "go"
      refine ⟨_, rfl, D, rfl, ⟨_, .inl (.inl hD)⟩, for_list (K := K) (a := D) (xs := ns.map V.int) (fun i σ H' => H' = H2 ∧ ∃ (c : Option V) (sd : Int), σ = [some (.ref a), c, some (.ref D), some (.int sd)]) ⟨rfl, _, _, rfl⟩ (fun i σ H' _ h => by rw [h.1]; exact .inl (.inl hD)) ?_ ?_⟩
      · rintro i x σ H' hi ⟨rfl, c, sd, rfl⟩
        obtain ⟨z, hz, rfl⟩ := map_at hi
        walk_at "go"
        refine ⟨_, _, rfl, fun r _ => ?_⟩
        walk_at "go"
        exact ⟨_, _, rfl⟩
      · rintro σ H' ⟨rfl, c, sd, rfl⟩
        walk_at "go"
        intro p np
        have hne : p ≠ D := fun e => by rw [e, hD] at np; cases np
        refine q _ p D (fun b o e => (upd_ne (ne_of_none (sm _ _ (s0 _ _ e)) np)).trans (sm _ _ (s0 _ _ e))) ((s0.trans sm).free np) (s0.free nD) ⟨hne, ns, 0, 0, sd, 0, upd_same, (upd_ne hne.symm).trans hD, by decide, by decide⟩
end
end Wn


namespace Wn
open PySem PySem.Spec PyProof.Rows L2
theorem scSame : FnScope ["_law_told", "_law_due", "_law_k"] ["_law_told", "_law_due"] (defScope sSame) := ⟨rfl, rfl, rfl, by decide +kernel, rfl, by decide +kernel, by decide +kernel⟩
mutual
/-- no list or tuple in it is long; no dict is in it -/
def dsz : PyData → Bool
  | .list xs => decide (xs.length ≤ 100000) && dszAll xs
  | .tuple xs => decide (xs.length ≤ 100000) && dszAll xs
  | .dict _ => false
  | _ => true
def dszAll : List PyData → Bool
  | [] => true
  | x :: xs => dsz x && dszAll xs
end
theorem dszAll_at : ∀ {ds : List PyData} {i : Nat} {d : PyData}, dszAll ds = true → ds[i]? = some d → dsz d = true
  | [], _, _, _, e => by simp at e
  | x :: xs, 0, d, h, e => by
    simp at e; subst e
    unfold dszAll at h
    exact (Bool.and_eq_true_iff.mp h).1
  | x :: xs, i + 1, d, h, e => by
    unfold dszAll at h
    exact dszAll_at (i := i) (Bool.and_eq_true_iff.mp h).2 (by simpa using e)
theorem depthAll_at : ∀ {ds : List PyData} {i : Nat} {d : PyData}, ds[i]? = some d → d.depth ≤ PyData.depthAll ds
  | [], _, _, e => by simp at e
  | x :: xs, 0, d, e => by
    simp at e; subst e
    unfold PyData.depthAll
    exact Nat.le_max_left _ _
  | x :: xs, i + 1, d, e => by
    unfold PyData.depthAll
    exact Nat.le_trans (depthAll_at (i := i) (by simpa using e)) (Nat.le_max_right _ _)
theorem same_sqT {K : PySem.W.Frag} {H H' : Hp} {a : Addr} {xs : List V} (e : Same H H') (h : SqT K H a xs) : SqT K H' a xs := by
  rcases h with (h | ⟨o, h⟩) | h
  · exact .inl (.inl (e _ _ h))
  · exact .inl (.inr ⟨o, e _ _ h⟩)
  · exact .inr h
/-- of depth below n -/
def spSame (K : PySem.W.Frag) (n : Nat) : Sp := fun vs H Q _ => ∃ (x y : V) (d : PyData), vs = [x, y] ∧ Dp K H x d ∧ Dp K H y d ∧ d.depth < n ∧ dsz d = true ∧ ∀ H', Same H H' → Q (.bl true) H'
structure Blt (mg : Str → Option Value) : Prop where
  isi : mg "isinstance" = none
  tuple : mg "tuple" = none
  list : mg "list" = none
  len : mg "len" = none
  all : mg "all" = none
  range : mg "range" = none
  bool : mg "bool" = none
  int : mg "int" = none
  str : mg "str" = none
section
variable {P : Program} {w : World} {K : PySem.W.Frag} {mg : Str → Option Value} {base : Heap}
theorem ok_same {f : Addr} {fd : FuncData} (F : Fun K "_law_same" "_law_same" sSame f fd) (bF : Binds K fd ["_law_told", "_law_due"] []) (gF : mg "_law_same" = some (.ref f)) (B : Blt mg) : ∀ n : Nat, FnOk P w K mg base CX0 (n + 1) f fd ["_law_told", "_law_due"] (spSame K n) := by
  intro n
  induction n with
  | zero =>
    refine F.ok scSame (fun vs H Q E h => ?_) (fun cdv A outer s H vs Q E hr h => ?_)
    · obtain ⟨x, y, d, rfl, _⟩ := h
      rfl
    · obtain ⟨x, y, d, _, _, _, hd, _⟩ := h
      exact absurd hd (Nat.not_lt_zero _)
  | succ n ih =>
    refine F.ok scSame (fun vs H Q E h => ?_) (fun cdv A outer s H vs Q E hr h => ?_)
    · obtain ⟨x, y, d, rfl, _⟩ := h
      rfl
    · obtain ⟨x, y, d, rfl, hx, hy, hd, hsh, q⟩ := h
      refine ⟨_, pss_cons (ps_if (PW.pt (pw_or (pt_val (pe_callB (call_isiK' (K := K) rfl) (by rfl) B.isi boot_isinstance (pa_cons (pv 1) (pa_cons (pe_bltn (v := .ty "tuple") (by rfl) B.tuple (by decide +kernel) rfl) pa_nil)))) (pw_or1 (pt_val (pe_callB (call_isiK' (K := K) rfl) (by rfl) B.isi boot_isinstance (pa_cons (pv 1) (pa_cons (pe_bltn (v := .ty "list") (by rfl) B.list (by decide +kernel) rfl) pa_nil)))))))
        (pss_cons (ps_if (PW.pt (pw_or (pt_cmpR op_ne (pe_callB (call_isiK' (K := K) rfl) (by rfl) B.isi boot_isinstance (pa_cons (pv 1) (pa_cons (pe_bltn (v := .ty "tuple") (by rfl) B.tuple (by decide +kernel) rfl) pa_nil))) (pe_callB (call_isiK' (K := K) rfl) (by rfl) B.isi boot_isinstance (pa_cons (pv 0) (pa_cons (pe_bltn (v := .ty "tuple") (by rfl) B.tuple (by decide +kernel) rfl) pa_nil))) (nomark _))
            (pw_or1 (pt_cmpR op_ne (pe_callB (call_isiK' (K := K) rfl) (by rfl) B.isi boot_isinstance (pa_cons (pv 1) (pa_cons (pe_bltn (v := .ty "list") (by rfl) B.list (by decide +kernel) rfl) pa_nil))) (pe_callB (call_isiK' (K := K) rfl) (by rfl) B.isi boot_isinstance (pa_cons (pv 0) (pa_cons (pe_bltn (v := .ty "list") (by rfl) B.list (by decide +kernel) rfl) pa_nil))) (nomark _)))))
          (pss_one (ps_ret pe_bl)) pss_nil)
        (pss_cons (ps_if (pt_cmpR op_ne (pe_callB (call_lenK (K := K) rfl) (by rfl) B.len PySem.boot_len (pa_cons (pv 0) pa_nil)) (pe_callB (call_lenK (K := K) rfl) (by rfl) B.len PySem.boot_len (pa_cons (pv 1) pa_nil)) (nomark _)) (pss_one (ps_ret pe_bl)) pss_nil)
        (pss_one (ps_ret (pe_callB (cr_allK (K := K) rfl rfl) (by rfl) B.all boot_all (pa_cons (pe_lc (own := [("_law_k", 2)]) (g := gName 2) (tt := tYes) rfl scSame.nd (pi_range1 (by rfl) B.range (pa_cons (pe_callB (call_lenK (K := K) rfl) (by rfl) B.len PySem.boot_len (pa_cons (pv 1) pa_nil)) pa_nil)) (blkOk_by (N := ["_law_told", "_law_due", "_law_k"]) (sc := defScope sSame) (by decide +kernel)) (fun _ _ _ _ _ => pg_name (i := 2) scSame.nd rfl (Or.inl rfl)) (fun _ _ _ _ _ => pts_nil)
          (fun _ _ _ _ _ => pe_call ih hr (by rfl) gF F.kp bF .nil pass0 (pa_cons (pe_ix (ix_aK (K := K) rfl) (pv 0) (pv 2) (fun _ _ => rfl)) (pa_cons (pe_ix (ix_aK (K := K) rfl) (pv 1) (pv 2) (fun _ _ => rfl)) pa_nil)))) pa_nil)))))) pss_nil)
        (pss_cons (ps_if (pt_cmpR op_isN (pv 1) pe_non (nomark _)) (pss_one (ps_ret (pe_cmpR op_isN (pv 0) pe_non (nomark _)))) pss_nil)
        (pss_cons (ps_if (PW.pt (pw_or (pt_val (pe_callB (call_isiK' (K := K) rfl) (by rfl) B.isi boot_isinstance (pa_cons (pv 1) (pa_cons (pe_bltn (v := .ty "bool") (by rfl) B.bool (by decide +kernel) rfl) pa_nil)))) (pw_or1 (pt_val (pe_callB (call_isiK' (K := K) rfl) (by rfl) B.isi boot_isinstance (pa_cons (pv 0) (pa_cons (pe_bltn (v := .ty "bool") (by rfl) B.bool (by decide +kernel) rfl) pa_nil)))))))
          (pss_one (ps_ret (pe_and (pe_callB (call_isiK' (K := K) rfl) (by rfl) B.isi boot_isinstance (pa_cons (pv 1) (pa_cons (pe_bltn (v := .ty "bool") (by rfl) B.bool (by decide +kernel) rfl) pa_nil))) (pe_and (pe_callB (call_isiK' (K := K) rfl) (by rfl) B.isi boot_isinstance (pa_cons (pv 0) (pa_cons (pe_bltn (v := .ty "bool") (by rfl) B.bool (by decide +kernel) rfl) pa_nil))) (pe_one (pe_cmpR op_eq (pv 1) (pv 0) (nomark _))))))) pss_nil)
        (pss_cons (ps_if (pt_val (pe_callB (call_isiK' (K := K) rfl) (by rfl) B.isi boot_isinstance (pa_cons (pv 1) (pa_cons (pe_bltn (v := .ty "int") (by rfl) B.int (by decide +kernel) rfl) pa_nil))))
          (pss_one (ps_ret (pe_and (pe_callB (call_isiK' (K := K) rfl) (by rfl) B.isi boot_isinstance (pa_cons (pv 0) (pa_cons (pe_bltn (v := .ty "int") (by rfl) B.int (by decide +kernel) rfl) pa_nil))) (pe_one (pe_cmpR op_eq (pv 0) (pv 1) (nomark _)))))) pss_nil)
        (pss_one (ps_ret (pe_and (pe_callB (call_isiK' (K := K) rfl) (by rfl) B.isi boot_isinstance (pa_cons (pv 0) (pa_cons (pe_bltn (v := .ty "str") (by rfl) B.str (by decide +kernel) rfl) pa_nil))) (pe_one (pe_cmpR op_eq (pv 0) (pv 1) (nomark _))))))))), ?_⟩
      show tSeq _ _ _ [_, _, none] _
      cases d with
      | none =>
        cases hx; cases hy
        have h1 : Dp K H .non .none := .non
        walk_at "go"
        exact qdec rfl (q _ (Same.refl _))
      | bool b =>
        cases hx; cases hy
        have h1 : Dp K H (.bl b) (.bool b) := .bl b
        walk_at "go"
        exact qdec rfl (q _ (Same.refl _))
      | int i =>
        cases hx; cases hy
        have h1 : Dp K H (.int i) (.int i) := .int i
        walk_at "go"
        exact qdec rfl (q _ (Same.refl _))
      | str x =>
        cases hx; cases hy
        have h1 : Dp K H (.str x) (.str x) := .str x
        walk_at "go"
        exact qdec rfl (q _ (Same.refl _))
      | list ds =>
        have h1 := hx
        have h2 := hy
        cases hx with
        | lst hs1 ha1 =>
        rename_i a1 xs1
        cases hy with
        | lst hs2 ha2 =>
        rename_i a2 xs2
        have l1 := dpAll_len ha1
        have l2 := dpAll_len ha2
        walk_at "go"
        refine ite_f (nd_f (by rw [l1, l2])) ?_
        walk_at "go"
        have hdd : PyData.depthAll ds < n := by
          have h3 : PyData.depthAll ds + 1 < n + 1 := by simpa [PyData.depth] using hd
          omega
        have hsz : ds.length ≤ 100000 ∧ dszAll ds = true := by
          have hsh : (decide (ds.length ≤ 100000) && dszAll ds) = true := by simpa [dsz] using hsh
          exact ⟨of_decide_eq_true (Bool.and_eq_true_iff.mp hsh).1, (Bool.and_eq_true_iff.mp hsh).2⟩
        obtain ⟨hsz, hsa⟩ := hsz
        have hsz2 : 100000 < sizeLine := by decide
        refine ⟨.ref a2, rfl, a2, xs2, rfl, .inl hs2, xs2.length, rfl, by omega, by omega, fun D nD => ?_⟩
        refine lc_range (lo := 0) (n := xs2.length) (fun i H' => Same H H' ∧ H' D = some (.lst ((List.replicate i true).map V.bl))) ⟨same_new nD, upd_same⟩ ?_ ?_
        · rintro i H' hi ⟨sm, hD⟩
          have hi1 : i < xs1.length := by omega
          obtain ⟨d1, e1, p1⟩ := dpAll_at ha1 (List.getElem?_eq_getElem hi1)
          obtain ⟨d2, e2, p2⟩ := dpAll_at ha2 (List.getElem?_eq_getElem hi)
          have e12 : d1 = d2 := Option.some.inj (e1.symm.trans e2)
          subst e12
          have k1 : SqL K H' a1 xs1 ∨ SqT K H' a1 xs1 := .inl (sm.seq hs1)
          have k2 : SqL K H' a2 xs2 ∨ SqT K H' a2 xs2 := .inl (sm.seq hs2)
          walk_at "go"
          refine r_ixa k1 (by rw [Int.zero_add]; exact atI_nat (List.getElem?_eq_getElem hi1)) ?_
          walk_at "go"
          refine r_ixa k2 (by rw [Int.zero_add]; exact atI_nat (List.getElem?_eq_getElem hi)) ?_
          walk_at "go"
          refine ⟨_, _, d1, rfl, dp_mono sm p1, dp_mono sm p2, Nat.lt_of_le_of_lt (depthAll_at e1) hdd, dszAll_at hsa e1, fun H2 s2 => ?_⟩
          refine ⟨_, s2 _ _ hD, ?_, fun b o e => (upd_ne (ne_of_none e nD)).trans (s2 _ _ (sm _ _ e)), ?_⟩
          · rw [List.length_map, List.length_replicate]; omega
          · rw [upd_same, List.replicate_succ', List.map_append]; rfl
        · rintro H' ⟨sm, hD⟩
          walk_at "go"
          refine ⟨D, _, rfl, .inl (.inl hD), ?_⟩
          rw [show (List.replicate xs2.length true).all id = true by simp]
          exact q _ sm
      | tuple ds =>
        have h1 := hx
        have h2 := hy
        cases hx with
        | tup hs1 ha1 =>
        rename_i a1 xs1
        cases hy with
        | tup hs2 ha2 =>
        rename_i a2 xs2
        have l1 := dpAll_len ha1
        have l2 := dpAll_len ha2
        walk_at "go"
        refine ite_f (nd_f (by rw [l1, l2])) ?_
        walk_at "go"
        have hdd : PyData.depthAll ds < n := by
          have h3 : PyData.depthAll ds + 1 < n + 1 := by simpa [PyData.depth] using hd
          omega
        have hsz : ds.length ≤ 100000 ∧ dszAll ds = true := by
          have hsh : (decide (ds.length ≤ 100000) && dszAll ds) = true := by simpa [dsz] using hsh
          exact ⟨of_decide_eq_true (Bool.and_eq_true_iff.mp hsh).1, (Bool.and_eq_true_iff.mp hsh).2⟩
        obtain ⟨hsz, hsa⟩ := hsz
        have hsz2 : 100000 < sizeLine := by decide
        refine ⟨.ref a2, rfl, a2, xs2, rfl, .inr hs2, xs2.length, rfl, by omega, by omega, fun D nD => ?_⟩
        refine lc_range (lo := 0) (n := xs2.length) (fun i H' => Same H H' ∧ H' D = some (.lst ((List.replicate i true).map V.bl))) ⟨same_new nD, upd_same⟩ ?_ ?_
        · rintro i H' hi ⟨sm, hD⟩
          have hi1 : i < xs1.length := by omega
          obtain ⟨d1, e1, p1⟩ := dpAll_at ha1 (List.getElem?_eq_getElem hi1)
          obtain ⟨d2, e2, p2⟩ := dpAll_at ha2 (List.getElem?_eq_getElem hi)
          have e12 : d1 = d2 := Option.some.inj (e1.symm.trans e2)
          subst e12
          have k1 : SqL K H' a1 xs1 ∨ SqT K H' a1 xs1 := .inr (same_sqT sm hs1)
          have k2 : SqL K H' a2 xs2 ∨ SqT K H' a2 xs2 := .inr (same_sqT sm hs2)
          walk_at "go"
          refine r_ixa k1 (by rw [Int.zero_add]; exact atI_nat (List.getElem?_eq_getElem hi1)) ?_
          walk_at "go"
          refine r_ixa k2 (by rw [Int.zero_add]; exact atI_nat (List.getElem?_eq_getElem hi)) ?_
          walk_at "go"
          refine ⟨_, _, d1, rfl, dp_mono sm p1, dp_mono sm p2, Nat.lt_of_le_of_lt (depthAll_at e1) hdd, dszAll_at hsa e1, fun H2 s2 => ?_⟩
          refine ⟨_, s2 _ _ hD, ?_, fun b o e => (upd_ne (ne_of_none e nD)).trans (s2 _ _ (sm _ _ e)), ?_⟩
          · rw [List.length_map, List.length_replicate]; omega
          · rw [upd_same, List.replicate_succ', List.map_append]; rfl
        · rintro H' ⟨sm, hD⟩
          walk_at "go"
          refine ⟨D, _, rfl, .inl (.inl hD), ?_⟩
          rw [show (List.replicate xs2.length true).all id = true by simp]
          exact q _ sm
      | dict ds => cases hx
end
end Wn


namespace Wn
open PySem PySem.Spec PyProof.Rows L2
abbrev s_L_classes : Stmt := top 27
theorem sc_L_classes : FnScope ["_law_error", "_law_found"] ["_law_error"] (defScope s_L_classes) := ⟨rfl, rfl, rfl, by decide +kernel, rfl, by decide +kernel, by decide +kernel⟩
abbrev s_L_errors : Stmt := top 28
theorem sc_L_errors : FnScope ["_law_one", "_law_two", "_law_found"] ["_law_one", "_law_two"] (defScope s_L_errors) := ⟨rfl, rfl, rfl, by decide +kernel, rfl, by decide +kernel, by decide +kernel⟩
abbrev s_L_held : Stmt := top 29
theorem sc_L_held : FnScope ["_law_found", "_law_held_here"] ["_law_found"] (defScope s_L_held) := ⟨rfl, rfl, rfl, by decide +kernel, rfl, by decide +kernel, by decide +kernel⟩
abbrev s_law : Stmt := top 30
theorem sc_law : FnScope ["_law_script", "_law_box_here", "_law_k", "_law_menu", "_law_one", "_law_two", "_law_found", "_law_at", "_law_due", "_law_number"] ["_law_script"] (defScope s_law) := ⟨rfl, rfl, rfl, by decide +kernel, rfl, by decide +kernel, by decide +kernel⟩
abbrev s_InvalidBound : Stmt := inClass (top 14) 0
theorem sc_InvalidBound : FnScope ["self", "value"] ["self", "value"] (defScope s_InvalidBound) := ⟨rfl, rfl, rfl, by decide +kernel, rfl, by decide +kernel, by decide +kernel⟩
abbrev s_InvalidChange : Stmt := inClass (top 20) 0
theorem sc_InvalidChange : FnScope ["self", "index"] ["self", "index"] (defScope s_InvalidChange) := ⟨rfl, rfl, rfl, by decide +kernel, rfl, by decide +kernel, by decide +kernel⟩
abbrev s_InvalidDeed : Stmt := inClass (top 6) 0
theorem sc_InvalidDeed : FnScope ["self", "deed"] ["self", "deed"] (defScope s_InvalidDeed) := ⟨rfl, rfl, rfl, by decide +kernel, rfl, by decide +kernel, by decide +kernel⟩
abbrev s_InvalidForm : Stmt := inClass (top 2) 0
theorem sc_InvalidForm : FnScope ["self", "part", "field"] ["self", "part", "field"] (defScope s_InvalidForm) := ⟨rfl, rfl, rfl, by decide +kernel, rfl, by decide +kernel, by decide +kernel⟩
abbrev s_InvalidKind : Stmt := inClass (top 18) 0
theorem sc_InvalidKind : FnScope ["self", "kind"] ["self", "kind"] (defScope s_InvalidKind) := ⟨rfl, rfl, rfl, by decide +kernel, rfl, by decide +kernel, by decide +kernel⟩
abbrev s_InvalidRule : Stmt := inClass (top 3) 0
theorem sc_InvalidRule : FnScope ["self", "part"] ["self", "part"] (defScope s_InvalidRule) := ⟨rfl, rfl, rfl, by decide +kernel, rfl, by decide +kernel, by decide +kernel⟩
abbrev s_InvalidTable : Stmt := inClass (top 7) 0
theorem sc_InvalidTable : FnScope ["self", "kind"] ["self", "kind"] (defScope s_InvalidTable) := ⟨rfl, rfl, rfl, by decide +kernel, rfl, by decide +kernel, by decide +kernel⟩
abbrev s_InvalidText : Stmt := inClass (top 8) 0
theorem sc_InvalidText : FnScope ["self", "line"] ["self", "line"] (defScope s_InvalidText) := ⟨rfl, rfl, rfl, by decide +kernel, rfl, by decide +kernel, by decide +kernel⟩
abbrev s_InvalidWords : Stmt := inClass (top 4) 0
theorem sc_InvalidWords : FnScope ["self", "words"] ["self", "words"] (defScope s_InvalidWords) := ⟨rfl, rfl, rfl, by decide +kernel, rfl, by decide +kernel, by decide +kernel⟩
abbrev s_LimitExceeded : Stmt := inClass (top 15) 0
theorem sc_LimitExceeded : FnScope ["self", "limit"] ["self", "limit"] (defScope s_LimitExceeded) := ⟨rfl, rfl, rfl, by decide +kernel, rfl, by decide +kernel, by decide +kernel⟩
abbrev s_NoFault : Stmt := inClass (top 17) 0
theorem sc_NoFault : FnScope ["self", "kind", "field"] ["self", "kind", "field"] (defScope s_NoFault) := ⟨rfl, rfl, rfl, by decide +kernel, rfl, by decide +kernel, by decide +kernel⟩
abbrev s_NotComparable : Stmt := inClass (top 19) 0
theorem sc_NotComparable : FnScope ["self", "part"] ["self", "part"] (defScope s_NotComparable) := ⟨rfl, rfl, rfl, by decide +kernel, rfl, by decide +kernel, by decide +kernel⟩
abbrev s_TooManyAsked : Stmt := inClass (top 11) 0
theorem sc_TooManyAsked : FnScope ["self", "field"] ["self", "field"] (defScope s_TooManyAsked) := ⟨rfl, rfl, rfl, by decide +kernel, rfl, by decide +kernel, by decide +kernel⟩
abbrev s_UnknownField : Stmt := inClass (top 9) 0
theorem sc_UnknownField : FnScope ["self", "field"] ["self", "field"] (defScope s_UnknownField) := ⟨rfl, rfl, rfl, by decide +kernel, rfl, by decide +kernel, by decide +kernel⟩
abbrev s_UnknownWord : Stmt := inClass (top 10) 0
theorem sc_UnknownWord : FnScope ["self", "word"] ["self", "word"] (defScope s_UnknownWord) := ⟨rfl, rfl, rfl, by decide +kernel, rfl, by decide +kernel, by decide +kernel⟩
theorem call_isXK {X : Cx} {K : PySem.W.Frag} (e : X.K = K) : CallR X (.builtin "isinstance") (rIsX K) := by subst e; exact call_isX
theorem pe_globR {X : Cx} {x : Str} {a : Addr} {pos : Pos} (hg : Gl X x) (hm : X.mg x = some (.ref a)) (hd : (x == ("__debug__" : Str)) = false := by decide) : PE X (.Name x pos) (tC (.ref a)) := pe_glob hg hm rfl hd
structure Txt (K : PySem.W.Frag) (mg : Str → Option Value) where
  C : Nat → Addr
  CS : Addr
  fI : Nat → Addr
  dI : Nat → FuncData
  B : Blt mg
  ValueError_ : mg "ValueError" = none
  g_ShownError : mg "ShownError" = some (.ref CS)
  f_L_mix : Addr
  d_L_mix : FuncData
  F_L_mix : Fun K "_law_mix" "_law_mix" sMix f_L_mix d_L_mix
  b_L_mix : Binds K d_L_mix ["_law_value", "_law_k"] []
  g_L_mix : mg "_law_mix" = some (.ref f_L_mix)
  f_L_box : Addr
  d_L_box : FuncData
  F_L_box : Fun K "_law_box" "_law_box" sBox f_L_box d_L_box
  b_L_box : Binds K d_L_box ["_law_script"] []
  g_L_box : mg "_law_box" = some (.ref f_L_box)
  f_L_draw : Addr
  d_L_draw : FuncData
  F_L_draw : Fun K "_law_draw" "_law_draw" sDraw f_L_draw d_L_draw
  b_L_draw : Binds K d_L_draw ["_law_box_here", "_law_many"] []
  g_L_draw : mg "_law_draw" = some (.ref f_L_draw)
  f_L_same : Addr
  d_L_same : FuncData
  F_L_same : Fun K "_law_same" "_law_same" sSame f_L_same d_L_same
  b_L_same : Binds K d_L_same ["_law_told", "_law_due"] []
  g_L_same : mg "_law_same" = some (.ref f_L_same)
  f_L_classes : Addr
  d_L_classes : FuncData
  F_L_classes : Fun K "_law_classes" "_law_classes" s_L_classes f_L_classes d_L_classes
  b_L_classes : Binds K d_L_classes ["_law_error"] []
  g_L_classes : mg "_law_classes" = some (.ref f_L_classes)
  f_L_errors : Addr
  d_L_errors : FuncData
  F_L_errors : Fun K "_law_errors" "_law_errors" s_L_errors f_L_errors d_L_errors
  b_L_errors : Binds K d_L_errors ["_law_one", "_law_two"] []
  g_L_errors : mg "_law_errors" = some (.ref f_L_errors)
  f_L_held : Addr
  d_L_held : FuncData
  F_L_held : Fun K "_law_held" "_law_held" s_L_held f_L_held d_L_held
  b_L_held : Binds K d_L_held ["_law_found"] []
  g_L_held : mg "_law_held" = some (.ref f_L_held)
  g_InvalidBound : mg "InvalidBound" = some (.ref (C 0))
  x_InvalidBound : XCls K (C 0)
  F_InvalidBound : Fun K "__init__" "InvalidBound.__init__" s_InvalidBound (fI 0) (dI 0)
  b_InvalidBound : Binds K (dI 0) ["self", "value"] []
  i_InvalidBound : PySem.W.findIn K (.ref (C 0)) "__init__" = some (some (.ref (fI 0)))
  t_InvalidBound : PySem.W.typeIn K (.ref (fI 0)) = some (.type "function")
  n_InvalidBound0 : PySem.W.findIn K (.ref (C 0)) "value" = some none
  g_InvalidChange : mg "InvalidChange" = some (.ref (C 1))
  x_InvalidChange : XCls K (C 1)
  F_InvalidChange : Fun K "__init__" "InvalidChange.__init__" s_InvalidChange (fI 1) (dI 1)
  b_InvalidChange : Binds K (dI 1) ["self", "index"] []
  i_InvalidChange : PySem.W.findIn K (.ref (C 1)) "__init__" = some (some (.ref (fI 1)))
  t_InvalidChange : PySem.W.typeIn K (.ref (fI 1)) = some (.type "function")
  n_InvalidChange0 : PySem.W.findIn K (.ref (C 1)) "index" = some none
  g_InvalidDeed : mg "InvalidDeed" = some (.ref (C 2))
  x_InvalidDeed : XCls K (C 2)
  F_InvalidDeed : Fun K "__init__" "InvalidDeed.__init__" s_InvalidDeed (fI 2) (dI 2)
  b_InvalidDeed : Binds K (dI 2) ["self", "deed"] []
  i_InvalidDeed : PySem.W.findIn K (.ref (C 2)) "__init__" = some (some (.ref (fI 2)))
  t_InvalidDeed : PySem.W.typeIn K (.ref (fI 2)) = some (.type "function")
  n_InvalidDeed0 : PySem.W.findIn K (.ref (C 2)) "deed" = some none
  g_InvalidForm : mg "InvalidForm" = some (.ref (C 3))
  x_InvalidForm : XCls K (C 3)
  F_InvalidForm : Fun K "__init__" "InvalidForm.__init__" s_InvalidForm (fI 3) (dI 3)
  b_InvalidForm : Binds K (dI 3) ["self", "part", "field"] []
  i_InvalidForm : PySem.W.findIn K (.ref (C 3)) "__init__" = some (some (.ref (fI 3)))
  t_InvalidForm : PySem.W.typeIn K (.ref (fI 3)) = some (.type "function")
  n_InvalidForm0 : PySem.W.findIn K (.ref (C 3)) "part" = some none
  n_InvalidForm1 : PySem.W.findIn K (.ref (C 3)) "field" = some none
  g_InvalidKind : mg "InvalidKind" = some (.ref (C 4))
  x_InvalidKind : XCls K (C 4)
  F_InvalidKind : Fun K "__init__" "InvalidKind.__init__" s_InvalidKind (fI 4) (dI 4)
  b_InvalidKind : Binds K (dI 4) ["self", "kind"] []
  i_InvalidKind : PySem.W.findIn K (.ref (C 4)) "__init__" = some (some (.ref (fI 4)))
  t_InvalidKind : PySem.W.typeIn K (.ref (fI 4)) = some (.type "function")
  n_InvalidKind0 : PySem.W.findIn K (.ref (C 4)) "kind" = some none
  g_InvalidRule : mg "InvalidRule" = some (.ref (C 5))
  x_InvalidRule : XCls K (C 5)
  F_InvalidRule : Fun K "__init__" "InvalidRule.__init__" s_InvalidRule (fI 5) (dI 5)
  b_InvalidRule : Binds K (dI 5) ["self", "part"] []
  i_InvalidRule : PySem.W.findIn K (.ref (C 5)) "__init__" = some (some (.ref (fI 5)))
  t_InvalidRule : PySem.W.typeIn K (.ref (fI 5)) = some (.type "function")
  n_InvalidRule0 : PySem.W.findIn K (.ref (C 5)) "part" = some none
  g_InvalidRules : mg "InvalidRules" = some (.ref (C 6))
  x_InvalidRules : XCls K (C 6)
  k_InvalidRules : PySem.W.keepIn K (.ref (C 6)) = true
  e_InvalidRules : PySem.W.excIn K (C 6) [.type "ValueError", .type "Exception", .type "BaseException", .type "object"] "ValueError.__new__" = true
  g_InvalidStanding : mg "InvalidStanding" = some (.ref (C 7))
  x_InvalidStanding : XCls K (C 7)
  k_InvalidStanding : PySem.W.keepIn K (.ref (C 7)) = true
  e_InvalidStanding : PySem.W.excIn K (C 7) [.type "ValueError", .type "Exception", .type "BaseException", .type "object"] "ValueError.__new__" = true
  g_InvalidTable : mg "InvalidTable" = some (.ref (C 8))
  x_InvalidTable : XCls K (C 8)
  F_InvalidTable : Fun K "__init__" "InvalidTable.__init__" s_InvalidTable (fI 8) (dI 8)
  b_InvalidTable : Binds K (dI 8) ["self", "kind"] []
  i_InvalidTable : PySem.W.findIn K (.ref (C 8)) "__init__" = some (some (.ref (fI 8)))
  t_InvalidTable : PySem.W.typeIn K (.ref (fI 8)) = some (.type "function")
  n_InvalidTable0 : PySem.W.findIn K (.ref (C 8)) "kind" = some none
  g_InvalidText : mg "InvalidText" = some (.ref (C 9))
  x_InvalidText : XCls K (C 9)
  F_InvalidText : Fun K "__init__" "InvalidText.__init__" s_InvalidText (fI 9) (dI 9)
  b_InvalidText : Binds K (dI 9) ["self", "line"] []
  i_InvalidText : PySem.W.findIn K (.ref (C 9)) "__init__" = some (some (.ref (fI 9)))
  t_InvalidText : PySem.W.typeIn K (.ref (fI 9)) = some (.type "function")
  n_InvalidText0 : PySem.W.findIn K (.ref (C 9)) "line" = some none
  g_InvalidWords : mg "InvalidWords" = some (.ref (C 10))
  x_InvalidWords : XCls K (C 10)
  F_InvalidWords : Fun K "__init__" "InvalidWords.__init__" s_InvalidWords (fI 10) (dI 10)
  b_InvalidWords : Binds K (dI 10) ["self", "words"] []
  i_InvalidWords : PySem.W.findIn K (.ref (C 10)) "__init__" = some (some (.ref (fI 10)))
  t_InvalidWords : PySem.W.typeIn K (.ref (fI 10)) = some (.type "function")
  n_InvalidWords0 : PySem.W.findIn K (.ref (C 10)) "words" = some none
  g_LimitExceeded : mg "LimitExceeded" = some (.ref (C 11))
  x_LimitExceeded : XCls K (C 11)
  F_LimitExceeded : Fun K "__init__" "LimitExceeded.__init__" s_LimitExceeded (fI 11) (dI 11)
  b_LimitExceeded : Binds K (dI 11) ["self", "limit"] []
  i_LimitExceeded : PySem.W.findIn K (.ref (C 11)) "__init__" = some (some (.ref (fI 11)))
  t_LimitExceeded : PySem.W.typeIn K (.ref (fI 11)) = some (.type "function")
  n_LimitExceeded0 : PySem.W.findIn K (.ref (C 11)) "limit" = some none
  g_NoFault : mg "NoFault" = some (.ref (C 12))
  x_NoFault : XCls K (C 12)
  F_NoFault : Fun K "__init__" "NoFault.__init__" s_NoFault (fI 12) (dI 12)
  b_NoFault : Binds K (dI 12) ["self", "kind", "field"] []
  i_NoFault : PySem.W.findIn K (.ref (C 12)) "__init__" = some (some (.ref (fI 12)))
  t_NoFault : PySem.W.typeIn K (.ref (fI 12)) = some (.type "function")
  n_NoFault0 : PySem.W.findIn K (.ref (C 12)) "kind" = some none
  n_NoFault1 : PySem.W.findIn K (.ref (C 12)) "field" = some none
  g_NoStanding : mg "NoStanding" = some (.ref (C 13))
  x_NoStanding : XCls K (C 13)
  k_NoStanding : PySem.W.keepIn K (.ref (C 13)) = true
  e_NoStanding : PySem.W.excIn K (C 13) [.type "ValueError", .type "Exception", .type "BaseException", .type "object"] "ValueError.__new__" = true
  g_NotComparable : mg "NotComparable" = some (.ref (C 14))
  x_NotComparable : XCls K (C 14)
  F_NotComparable : Fun K "__init__" "NotComparable.__init__" s_NotComparable (fI 14) (dI 14)
  b_NotComparable : Binds K (dI 14) ["self", "part"] []
  i_NotComparable : PySem.W.findIn K (.ref (C 14)) "__init__" = some (some (.ref (fI 14)))
  t_NotComparable : PySem.W.typeIn K (.ref (fI 14)) = some (.type "function")
  n_NotComparable0 : PySem.W.findIn K (.ref (C 14)) "part" = some none
  g_NothingToRedo : mg "NothingToRedo" = some (.ref (C 15))
  x_NothingToRedo : XCls K (C 15)
  k_NothingToRedo : PySem.W.keepIn K (.ref (C 15)) = true
  e_NothingToRedo : PySem.W.excIn K (C 15) [.type "ValueError", .type "Exception", .type "BaseException", .type "object"] "ValueError.__new__" = true
  g_NothingToUndo : mg "NothingToUndo" = some (.ref (C 16))
  x_NothingToUndo : XCls K (C 16)
  k_NothingToUndo : PySem.W.keepIn K (.ref (C 16)) = true
  e_NothingToUndo : PySem.W.excIn K (C 16) [.type "ValueError", .type "Exception", .type "BaseException", .type "object"] "ValueError.__new__" = true
  g_TooManyAsked : mg "TooManyAsked" = some (.ref (C 17))
  x_TooManyAsked : XCls K (C 17)
  F_TooManyAsked : Fun K "__init__" "TooManyAsked.__init__" s_TooManyAsked (fI 17) (dI 17)
  b_TooManyAsked : Binds K (dI 17) ["self", "field"] []
  i_TooManyAsked : PySem.W.findIn K (.ref (C 17)) "__init__" = some (some (.ref (fI 17)))
  t_TooManyAsked : PySem.W.typeIn K (.ref (fI 17)) = some (.type "function")
  n_TooManyAsked0 : PySem.W.findIn K (.ref (C 17)) "field" = some none
  g_UnknownField : mg "UnknownField" = some (.ref (C 18))
  x_UnknownField : XCls K (C 18)
  F_UnknownField : Fun K "__init__" "UnknownField.__init__" s_UnknownField (fI 18) (dI 18)
  b_UnknownField : Binds K (dI 18) ["self", "field"] []
  i_UnknownField : PySem.W.findIn K (.ref (C 18)) "__init__" = some (some (.ref (fI 18)))
  t_UnknownField : PySem.W.typeIn K (.ref (fI 18)) = some (.type "function")
  n_UnknownField0 : PySem.W.findIn K (.ref (C 18)) "field" = some none
  g_UnknownWord : mg "UnknownWord" = some (.ref (C 19))
  x_UnknownWord : XCls K (C 19)
  F_UnknownWord : Fun K "__init__" "UnknownWord.__init__" s_UnknownWord (fI 19) (dI 19)
  b_UnknownWord : Binds K (dI 19) ["self", "word"] []
  i_UnknownWord : PySem.W.findIn K (.ref (C 19)) "__init__" = some (some (.ref (fI 19)))
  t_UnknownWord : PySem.W.typeIn K (.ref (fI 19)) = some (.type "function")
  n_UnknownWord0 : PySem.W.findIn K (.ref (C 19)) "word" = some none
  kit : ∀ i j : Nat, i < 20 → j < 20 → PySem.W.kitOne K (.ref (C j)) (.ref (C i)) = some (decide (i = j))
  kS : ∀ j : Nat, j < 20 → PySem.W.kitOne K (.ref (C j)) (.ref CS) = some true
  kV : ∀ j : Nat, j < 20 → PySem.W.kitOne K (.ref (C j)) (.type "ValueError") = some true
  xs : ∀ j : Nat, j < 20 → ExcC K (C j)
abbrev Txt.isinstance {K : PySem.W.Frag} {mg : Str → Option Value} (T : Txt K mg) : mg "isinstance" = none := T.B.isi
abbrev Txt.len {K : PySem.W.Frag} {mg : Str → Option Value} (T : Txt K mg) : mg "len" = none := T.B.len
abbrev Txt.range {K : PySem.W.Frag} {mg : Str → Option Value} (T : Txt K mg) : mg "range" = none := T.B.range
def spI1 (C : Addr) (f : Str) : Sp := fun vs H Q _ => ∃ (a : Addr) (v : V), vs = [.ref a, v] ∧ H a = some (exo a C none) ∧ ∀ d, H d = none → d ≠ a → Q .non (upd (upd H d (exd d [(f, v)])) a (exo a C (some d)))
def spI2 (C : Addr) (f g : Str) : Sp := fun vs H Q _ => ∃ (a : Addr) (v w : V), vs = [.ref a, v, w] ∧ H a = some (exo a C none) ∧ ∀ d, H d = none → d ≠ a → Q .non (upd (upd (upd H d (exd d [(f, v)])) a (exo a C (some d))) d (exd d [(g, w), (f, v)]))
section
variable {P : Program} {w : World} {K : PySem.W.Frag} {mg : Str → Option Value} {base : Heap}
theorem ok_i_InvalidBound (T : Txt K mg) : FnOk P w K mg base CX0 1 (T.fI 0) (T.dI 0) ["self", "value"] (spI1 (T.C 0) "value") := by
  refine T.F_InvalidBound.ok sc_InvalidBound (fun vs H Q E h => ?_) (fun cdv A outer s H vs Q E hr h => ?_)
  · obtain ⟨a, v, rfl, _⟩ := h
    rfl
  · obtain ⟨a, v, rfl, ha, q⟩ := h
    refine ⟨_, pss_one (ps_ost (pv 0) (pv 1)), ?_⟩
    exact ⟨v, rfl, .ref a, rfl, a, T.C 0, rfl, T.x_InvalidBound.o, T.n_InvalidBound0, .inl ⟨ha, fun d nd ne => q d nd ne⟩⟩
theorem ok_i_InvalidChange (T : Txt K mg) : FnOk P w K mg base CX0 1 (T.fI 1) (T.dI 1) ["self", "index"] (spI1 (T.C 1) "index") := by
  refine T.F_InvalidChange.ok sc_InvalidChange (fun vs H Q E h => ?_) (fun cdv A outer s H vs Q E hr h => ?_)
  · obtain ⟨a, v, rfl, _⟩ := h
    rfl
  · obtain ⟨a, v, rfl, ha, q⟩ := h
    refine ⟨_, pss_one (ps_ost (pv 0) (pv 1)), ?_⟩
    exact ⟨v, rfl, .ref a, rfl, a, T.C 1, rfl, T.x_InvalidChange.o, T.n_InvalidChange0, .inl ⟨ha, fun d nd ne => q d nd ne⟩⟩
theorem ok_i_InvalidDeed (T : Txt K mg) : FnOk P w K mg base CX0 1 (T.fI 2) (T.dI 2) ["self", "deed"] (spI1 (T.C 2) "deed") := by
  refine T.F_InvalidDeed.ok sc_InvalidDeed (fun vs H Q E h => ?_) (fun cdv A outer s H vs Q E hr h => ?_)
  · obtain ⟨a, v, rfl, _⟩ := h
    rfl
  · obtain ⟨a, v, rfl, ha, q⟩ := h
    refine ⟨_, pss_one (ps_ost (pv 0) (pv 1)), ?_⟩
    exact ⟨v, rfl, .ref a, rfl, a, T.C 2, rfl, T.x_InvalidDeed.o, T.n_InvalidDeed0, .inl ⟨ha, fun d nd ne => q d nd ne⟩⟩
theorem ok_i_InvalidForm (T : Txt K mg) : FnOk P w K mg base CX0 1 (T.fI 3) (T.dI 3) ["self", "part", "field"] (spI2 (T.C 3) "part" "field") := by
  refine T.F_InvalidForm.ok sc_InvalidForm (fun vs H Q E h => ?_) (fun cdv A outer s H vs Q E hr h => ?_)
  · obtain ⟨a, v, z, rfl, _⟩ := h
    rfl
  · obtain ⟨a, v, z, rfl, ha, q⟩ := h
    refine ⟨_, pss_cons (ps_ost (pv 0) (pv 1)) (pss_one (ps_ost (pv 0) (pv 2))), ?_⟩
    refine ⟨v, rfl, .ref a, rfl, a, T.C 3, rfl, T.x_InvalidForm.o, T.n_InvalidForm0, .inl ⟨ha, fun d nd ne => ?_⟩⟩
    exact ⟨z, rfl, .ref a, rfl, a, T.C 3, rfl, T.x_InvalidForm.o, T.n_InvalidForm1, .inr ⟨d, _, upd_same, (upd_ne ne).trans upd_same, (by show 1 ≤ 900; decide), q d nd ne⟩⟩
theorem ok_i_InvalidKind (T : Txt K mg) : FnOk P w K mg base CX0 1 (T.fI 4) (T.dI 4) ["self", "kind"] (spI1 (T.C 4) "kind") := by
  refine T.F_InvalidKind.ok sc_InvalidKind (fun vs H Q E h => ?_) (fun cdv A outer s H vs Q E hr h => ?_)
  · obtain ⟨a, v, rfl, _⟩ := h
    rfl
  · obtain ⟨a, v, rfl, ha, q⟩ := h
    refine ⟨_, pss_one (ps_ost (pv 0) (pv 1)), ?_⟩
    exact ⟨v, rfl, .ref a, rfl, a, T.C 4, rfl, T.x_InvalidKind.o, T.n_InvalidKind0, .inl ⟨ha, fun d nd ne => q d nd ne⟩⟩
theorem ok_i_InvalidRule (T : Txt K mg) : FnOk P w K mg base CX0 1 (T.fI 5) (T.dI 5) ["self", "part"] (spI1 (T.C 5) "part") := by
  refine T.F_InvalidRule.ok sc_InvalidRule (fun vs H Q E h => ?_) (fun cdv A outer s H vs Q E hr h => ?_)
  · obtain ⟨a, v, rfl, _⟩ := h
    rfl
  · obtain ⟨a, v, rfl, ha, q⟩ := h
    refine ⟨_, pss_one (ps_ost (pv 0) (pv 1)), ?_⟩
    exact ⟨v, rfl, .ref a, rfl, a, T.C 5, rfl, T.x_InvalidRule.o, T.n_InvalidRule0, .inl ⟨ha, fun d nd ne => q d nd ne⟩⟩
theorem ok_i_InvalidTable (T : Txt K mg) : FnOk P w K mg base CX0 1 (T.fI 8) (T.dI 8) ["self", "kind"] (spI1 (T.C 8) "kind") := by
  refine T.F_InvalidTable.ok sc_InvalidTable (fun vs H Q E h => ?_) (fun cdv A outer s H vs Q E hr h => ?_)
  · obtain ⟨a, v, rfl, _⟩ := h
    rfl
  · obtain ⟨a, v, rfl, ha, q⟩ := h
    refine ⟨_, pss_one (ps_ost (pv 0) (pv 1)), ?_⟩
    exact ⟨v, rfl, .ref a, rfl, a, T.C 8, rfl, T.x_InvalidTable.o, T.n_InvalidTable0, .inl ⟨ha, fun d nd ne => q d nd ne⟩⟩
theorem ok_i_InvalidText (T : Txt K mg) : FnOk P w K mg base CX0 1 (T.fI 9) (T.dI 9) ["self", "line"] (spI1 (T.C 9) "line") := by
  refine T.F_InvalidText.ok sc_InvalidText (fun vs H Q E h => ?_) (fun cdv A outer s H vs Q E hr h => ?_)
  · obtain ⟨a, v, rfl, _⟩ := h
    rfl
  · obtain ⟨a, v, rfl, ha, q⟩ := h
    refine ⟨_, pss_one (ps_ost (pv 0) (pv 1)), ?_⟩
    exact ⟨v, rfl, .ref a, rfl, a, T.C 9, rfl, T.x_InvalidText.o, T.n_InvalidText0, .inl ⟨ha, fun d nd ne => q d nd ne⟩⟩
theorem ok_i_InvalidWords (T : Txt K mg) : FnOk P w K mg base CX0 1 (T.fI 10) (T.dI 10) ["self", "words"] (spI1 (T.C 10) "words") := by
  refine T.F_InvalidWords.ok sc_InvalidWords (fun vs H Q E h => ?_) (fun cdv A outer s H vs Q E hr h => ?_)
  · obtain ⟨a, v, rfl, _⟩ := h
    rfl
  · obtain ⟨a, v, rfl, ha, q⟩ := h
    refine ⟨_, pss_one (ps_ost (pv 0) (pv 1)), ?_⟩
    exact ⟨v, rfl, .ref a, rfl, a, T.C 10, rfl, T.x_InvalidWords.o, T.n_InvalidWords0, .inl ⟨ha, fun d nd ne => q d nd ne⟩⟩
theorem ok_i_LimitExceeded (T : Txt K mg) : FnOk P w K mg base CX0 1 (T.fI 11) (T.dI 11) ["self", "limit"] (spI1 (T.C 11) "limit") := by
  refine T.F_LimitExceeded.ok sc_LimitExceeded (fun vs H Q E h => ?_) (fun cdv A outer s H vs Q E hr h => ?_)
  · obtain ⟨a, v, rfl, _⟩ := h
    rfl
  · obtain ⟨a, v, rfl, ha, q⟩ := h
    refine ⟨_, pss_one (ps_ost (pv 0) (pv 1)), ?_⟩
    exact ⟨v, rfl, .ref a, rfl, a, T.C 11, rfl, T.x_LimitExceeded.o, T.n_LimitExceeded0, .inl ⟨ha, fun d nd ne => q d nd ne⟩⟩
theorem ok_i_NoFault (T : Txt K mg) : FnOk P w K mg base CX0 1 (T.fI 12) (T.dI 12) ["self", "kind", "field"] (spI2 (T.C 12) "kind" "field") := by
  refine T.F_NoFault.ok sc_NoFault (fun vs H Q E h => ?_) (fun cdv A outer s H vs Q E hr h => ?_)
  · obtain ⟨a, v, z, rfl, _⟩ := h
    rfl
  · obtain ⟨a, v, z, rfl, ha, q⟩ := h
    refine ⟨_, pss_cons (ps_ost (pv 0) (pv 1)) (pss_one (ps_ost (pv 0) (pv 2))), ?_⟩
    refine ⟨v, rfl, .ref a, rfl, a, T.C 12, rfl, T.x_NoFault.o, T.n_NoFault0, .inl ⟨ha, fun d nd ne => ?_⟩⟩
    exact ⟨z, rfl, .ref a, rfl, a, T.C 12, rfl, T.x_NoFault.o, T.n_NoFault1, .inr ⟨d, _, upd_same, (upd_ne ne).trans upd_same, (by show 1 ≤ 900; decide), q d nd ne⟩⟩
theorem ok_i_NotComparable (T : Txt K mg) : FnOk P w K mg base CX0 1 (T.fI 14) (T.dI 14) ["self", "part"] (spI1 (T.C 14) "part") := by
  refine T.F_NotComparable.ok sc_NotComparable (fun vs H Q E h => ?_) (fun cdv A outer s H vs Q E hr h => ?_)
  · obtain ⟨a, v, rfl, _⟩ := h
    rfl
  · obtain ⟨a, v, rfl, ha, q⟩ := h
    refine ⟨_, pss_one (ps_ost (pv 0) (pv 1)), ?_⟩
    exact ⟨v, rfl, .ref a, rfl, a, T.C 14, rfl, T.x_NotComparable.o, T.n_NotComparable0, .inl ⟨ha, fun d nd ne => q d nd ne⟩⟩
theorem ok_i_TooManyAsked (T : Txt K mg) : FnOk P w K mg base CX0 1 (T.fI 17) (T.dI 17) ["self", "field"] (spI1 (T.C 17) "field") := by
  refine T.F_TooManyAsked.ok sc_TooManyAsked (fun vs H Q E h => ?_) (fun cdv A outer s H vs Q E hr h => ?_)
  · obtain ⟨a, v, rfl, _⟩ := h
    rfl
  · obtain ⟨a, v, rfl, ha, q⟩ := h
    refine ⟨_, pss_one (ps_ost (pv 0) (pv 1)), ?_⟩
    exact ⟨v, rfl, .ref a, rfl, a, T.C 17, rfl, T.x_TooManyAsked.o, T.n_TooManyAsked0, .inl ⟨ha, fun d nd ne => q d nd ne⟩⟩
theorem ok_i_UnknownField (T : Txt K mg) : FnOk P w K mg base CX0 1 (T.fI 18) (T.dI 18) ["self", "field"] (spI1 (T.C 18) "field") := by
  refine T.F_UnknownField.ok sc_UnknownField (fun vs H Q E h => ?_) (fun cdv A outer s H vs Q E hr h => ?_)
  · obtain ⟨a, v, rfl, _⟩ := h
    rfl
  · obtain ⟨a, v, rfl, ha, q⟩ := h
    refine ⟨_, pss_one (ps_ost (pv 0) (pv 1)), ?_⟩
    exact ⟨v, rfl, .ref a, rfl, a, T.C 18, rfl, T.x_UnknownField.o, T.n_UnknownField0, .inl ⟨ha, fun d nd ne => q d nd ne⟩⟩
theorem ok_i_UnknownWord (T : Txt K mg) : FnOk P w K mg base CX0 1 (T.fI 19) (T.dI 19) ["self", "word"] (spI1 (T.C 19) "word") := by
  refine T.F_UnknownWord.ok sc_UnknownWord (fun vs H Q E h => ?_) (fun cdv A outer s H vs Q E hr h => ?_)
  · obtain ⟨a, v, rfl, _⟩ := h
    rfl
  · obtain ⟨a, v, rfl, ha, q⟩ := h
    refine ⟨_, pss_one (ps_ost (pv 0) (pv 1)), ?_⟩
    exact ⟨v, rfl, .ref a, rfl, a, T.C 19, rfl, T.x_UnknownWord.o, T.n_UnknownWord0, .inl ⟨ha, fun d nd ne => q d nd ne⟩⟩
end
end Wn


namespace Wn
open PySem PySem.Spec PyProof.Rows L2
def blsOf (j : Nat) : List V := (List.range 20).map fun i => V.bl (decide (i = j))
structure XAt {K : PySem.W.Frag} {mg : Str → Option Value} (T : Txt K mg) (H : Hp) (a : Addr) (j : Nat) (od : Option Addr) : Prop where
  lt : j < 20
  at_ : H a = some (exo a (T.C j) od)
  dict : ∀ d, od = some d → ∃ fs, H d = some (exd d fs)
theorem XAt.mono {K : PySem.W.Frag} {mg : Str → Option Value} {T : Txt K mg} {H H' : Hp} {a : Addr} {j : Nat} {od : Option Addr} (x : XAt T H a j od) (s : Same H H') : XAt T H' a j od :=
  ⟨x.lt, s _ _ x.at_, fun d e => let ⟨fs, h⟩ := x.dict d e; ⟨fs, s _ _ h⟩⟩
theorem r_isx {K : PySem.W.Frag} {mg : Str → Option Value} {T : Txt K mg} {H H' : Hp} {a : Addr} {i j : Nat} {od : Option Addr} {Q : VK} (x : XAt T H a j od) (s : Same H H') (hi : i < 20) (q : Q (.bl (decide (i = j))) H') :
    rIsX K [.ref a, .ref (T.C i)] H' Q :=
  ⟨a, T.C j, od, .ref (T.C i), .ref (T.C i), _, rfl, (x.mono s).at_, (x.mono s).dict, T.xs j x.lt, .own _, T.kit i j hi x.lt, q⟩

local macro_rules | `(tactic| walk_at "gox1D") => `(tactic| (first
  | walk_at "go1"
  | with_reducible refine Wn.r_bm ?_
  | with_reducible refine Wn.r_tyl (by walk_at "lk") ?_
  | with_reducible refine Wn.r_ext (by walk_at "lk") (by walk_at "lk") (by with_unfolding_all first | (simp only [List.length_cons, List.length_nil, List.length_append]; decide) | fail) ?_
  | with_reducible refine Wn.r_cat (by walk_at "lk") (by walk_at "lk") (by with_unfolding_all first | (simp only [List.length_cons, List.length_nil, List.length_append]; decide) | fail) ?_
  | with_reducible refine Wn.r_isx (by assumption) (by walk_at "sm") (by decide) ?_))
local macro_rules | `(tactic| walk_at "goxD") => `(tactic| repeat (walk_at "gox1D"))
def spClasses {K : PySem.W.Frag} {mg : Str → Option Value} (T : Txt K mg) : Sp := fun vs H Q _ => ∃ (a : Addr) (j : Nat) (od : Option Addr), vs = [.ref a] ∧ XAt T H a j od ∧
  ∀ H' p, Same H H' → H p = none → H' p = some (.lst (blsOf j)) → Q (.ref p) H'
section
variable {P : Program} {w : World} {K : PySem.W.Frag} {mg : Str → Option Value} {base : Heap}
theorem ok_L_classes (T : Txt K mg) : FnOk P w K mg base CX0 1 T.f_L_classes T.d_L_classes ["_law_error"] (spClasses T) := by
  refine T.F_L_classes.ok sc_L_classes (fun vs H Q E h => ?_) (fun cdv A outer s H vs Q E hr h => ?_)
  · obtain ⟨a, j, od, rfl, _⟩ := h
    rfl
  · obtain ⟨a, j, od, rfl, x, q⟩ := h
    refine ⟨_, (pss_cons (ps_set (i := 1) sc_L_classes.nd rfl (Or.inl rfl) (pe_lst (pa_cons (pe_callB (call_isXK (K := K) rfl) (by rfl) T.isinstance boot_isinstance (pa_cons (pv 0) (pa_cons (pe_globR (by rfl) T.g_InvalidBound) pa_nil))) (pa_cons (pe_callB (call_isXK (K := K) rfl) (by rfl) T.isinstance boot_isinstance (pa_cons (pv 0) (pa_cons (pe_globR (by rfl) T.g_InvalidChange) pa_nil))) (pa_cons (pe_callB (call_isXK (K := K) rfl) (by rfl) T.isinstance boot_isinstance (pa_cons (pv 0) (pa_cons (pe_globR (by rfl) T.g_InvalidDeed) pa_nil))) pa_nil))))) (pss_cons (ps_expr (pe_bm PySem.F.plainAttrs_list PySem.F.slot_list_extend PySem.F.type_list_extend mt_extend (pv 1) (pa_cons (pe_lst (pa_cons (pe_callB (call_isXK (K := K) rfl) (by rfl) T.isinstance boot_isinstance (pa_cons (pv 0) (pa_cons (pe_globR (by rfl) T.g_InvalidForm) pa_nil))) (pa_cons (pe_callB (call_isXK (K := K) rfl) (by rfl) T.isinstance boot_isinstance (pa_cons (pv 0) (pa_cons (pe_globR (by rfl) T.g_InvalidKind) pa_nil))) (pa_cons (pe_callB (call_isXK (K := K) rfl) (by rfl) T.isinstance boot_isinstance (pa_cons (pv 0) (pa_cons (pe_globR (by rfl) T.g_InvalidRule) pa_nil))) pa_nil)))) pa_nil))) (pss_cons (ps_expr (pe_bm PySem.F.plainAttrs_list PySem.F.slot_list_extend PySem.F.type_list_extend mt_extend (pv 1) (pa_cons (pe_lst (pa_cons (pe_callB (call_isXK (K := K) rfl) (by rfl) T.isinstance boot_isinstance (pa_cons (pv 0) (pa_cons (pe_globR (by rfl) T.g_InvalidRules) pa_nil))) (pa_cons (pe_callB (call_isXK (K := K) rfl) (by rfl) T.isinstance boot_isinstance (pa_cons (pv 0) (pa_cons (pe_globR (by rfl) T.g_InvalidStanding) pa_nil))) pa_nil))) pa_nil))) (pss_cons (ps_expr (pe_bm PySem.F.plainAttrs_list PySem.F.slot_list_extend PySem.F.type_list_extend mt_extend (pv 1) (pa_cons (pe_lst (pa_cons (pe_callB (call_isXK (K := K) rfl) (by rfl) T.isinstance boot_isinstance (pa_cons (pv 0) (pa_cons (pe_globR (by rfl) T.g_InvalidTable) pa_nil))) (pa_cons (pe_callB (call_isXK (K := K) rfl) (by rfl) T.isinstance boot_isinstance (pa_cons (pv 0) (pa_cons (pe_globR (by rfl) T.g_InvalidText) pa_nil))) (pa_cons (pe_callB (call_isXK (K := K) rfl) (by rfl) T.isinstance boot_isinstance (pa_cons (pv 0) (pa_cons (pe_globR (by rfl) T.g_InvalidWords) pa_nil))) pa_nil)))) pa_nil))) (pss_cons (ps_expr (pe_bm PySem.F.plainAttrs_list PySem.F.slot_list_extend PySem.F.type_list_extend mt_extend (pv 1) (pa_cons (pe_lst (pa_cons (pe_callB (call_isXK (K := K) rfl) (by rfl) T.isinstance boot_isinstance (pa_cons (pv 0) (pa_cons (pe_globR (by rfl) T.g_LimitExceeded) pa_nil))) (pa_cons (pe_callB (call_isXK (K := K) rfl) (by rfl) T.isinstance boot_isinstance (pa_cons (pv 0) (pa_cons (pe_globR (by rfl) T.g_NoFault) pa_nil))) (pa_cons (pe_callB (call_isXK (K := K) rfl) (by rfl) T.isinstance boot_isinstance (pa_cons (pv 0) (pa_cons (pe_globR (by rfl) T.g_NoStanding) pa_nil))) pa_nil)))) pa_nil))) (pss_cons (ps_expr (pe_bm PySem.F.plainAttrs_list PySem.F.slot_list_extend PySem.F.type_list_extend mt_extend (pv 1) (pa_cons (pe_lst (pa_cons (pe_callB (call_isXK (K := K) rfl) (by rfl) T.isinstance boot_isinstance (pa_cons (pv 0) (pa_cons (pe_globR (by rfl) T.g_NotComparable) pa_nil))) (pa_cons (pe_callB (call_isXK (K := K) rfl) (by rfl) T.isinstance boot_isinstance (pa_cons (pv 0) (pa_cons (pe_globR (by rfl) T.g_NothingToRedo) pa_nil))) pa_nil))) pa_nil))) (pss_cons (ps_expr (pe_bm PySem.F.plainAttrs_list PySem.F.slot_list_extend PySem.F.type_list_extend mt_extend (pv 1) (pa_cons (pe_lst (pa_cons (pe_callB (call_isXK (K := K) rfl) (by rfl) T.isinstance boot_isinstance (pa_cons (pv 0) (pa_cons (pe_globR (by rfl) T.g_NothingToUndo) pa_nil))) (pa_cons (pe_callB (call_isXK (K := K) rfl) (by rfl) T.isinstance boot_isinstance (pa_cons (pv 0) (pa_cons (pe_globR (by rfl) T.g_TooManyAsked) pa_nil))) pa_nil))) pa_nil))) (pss_one (ps_ret (pe_op op_cat (pv 1) (pe_lst (pa_cons (pe_callB (call_isXK (K := K) rfl) (by rfl) T.isinstance boot_isinstance (pa_cons (pv 0) (pa_cons (pe_globR (by rfl) T.g_UnknownField) pa_nil))) (pa_cons (pe_callB (call_isXK (K := K) rfl) (by rfl) T.isinstance boot_isinstance (pa_cons (pv 0) (pa_cons (pe_globR (by rfl) T.g_UnknownWord) pa_nil))) pa_nil))))))))))))), ?_⟩
    show tSeq _ _ _ [_, none] _
    walk_at "goxD"
    intro p n_p; have z_p := L2.Same.free (H := H) (by walk_at "sm") n_p; have m_p := n_p
    walk_at "goxD"
    intro q0 n_q0; have z_q0 := L2.Same.free (H := H) (by walk_at "sm") n_q0; have m_q0 := n_q0
    walk_at "goxD"
    intro q1 n_q1; have z_q1 := L2.Same.free (H := H) (by walk_at "sm") n_q1; have m_q1 := n_q1
    walk_at "goxD"
    intro q2 n_q2; have z_q2 := L2.Same.free (H := H) (by walk_at "sm") n_q2; have m_q2 := n_q2
    walk_at "goxD"
    intro q3 n_q3; have z_q3 := L2.Same.free (H := H) (by walk_at "sm") n_q3; have m_q3 := n_q3
    walk_at "goxD"
    intro q4 n_q4; have z_q4 := L2.Same.free (H := H) (by walk_at "sm") n_q4; have m_q4 := n_q4
    walk_at "goxD"
    intro q5 n_q5; have z_q5 := L2.Same.free (H := H) (by walk_at "sm") n_q5; have m_q5 := n_q5
    walk_at "goxD"
    intro r n_r; have z_r := L2.Same.free (H := H) (by walk_at "sm") n_r; have m_r := n_r
    walk_at "goxD"
    intro r2 n_r2; have z_r2 := L2.Same.free (H := H) (by walk_at "sm") n_r2; have m_r2 := n_r2
    walk_at "goxD"
    refine q _ r2 (by walk_at "sm") z_r2 ?_
    rw [upd_same]
    rfl
end
end Wn



local macro_rules | `(tactic| walk_at "gox1E") => `(tactic| (first
  | walk_at "go1"
  | with_reducible refine Wn.r_bm ?_
  | with_reducible refine Wn.r_tyl (by walk_at "lk") ?_
  | with_reducible refine Wn.r_ext (by walk_at "lk") (by walk_at "lk") (by with_unfolding_all first | (simp only [List.length_cons, List.length_nil, List.length_append]; decide) | fail) ?_
  | with_reducible refine Wn.r_cat (by walk_at "lk") (by walk_at "lk") (by with_unfolding_all first | (simp only [List.length_cons, List.length_nil, List.length_append]; decide) | fail) ?_
  | with_reducible refine Wn.r_bm ?_))
local macro_rules | `(tactic| walk_at "goxE") => `(tactic| repeat (walk_at "gox1E"))
namespace Wn
open PySem PySem.Spec PyProof.Rows L2
/-- the attributes of the errors, in the order of the list -/
def fsOf (x y : V) (i : Nat) : List (Str × V) := ([[("value", x)], [("index", x)], [("deed", x)], [("field", y), ("part", x)], [("kind", x)], [("part", x)], [], [], [("kind", x)], [("line", x)], [("words", x)], [("limit", x)], [("field", y), ("kind", x)], [], [("part", x)], [], [], [("field", x)], [("field", x)], [("word", x)]] : List (List (Str × V))).getD i []
/-- the i-th error at a -/
structure ErrAt {K : PySem.W.Frag} {mg : Str → Option Value} (T : Txt K mg) (x y : V) (H : Hp) (i : Nat) (a : Addr) : Prop where
  lt : i < 20
  ex : (fsOf x y i = [] ∧ H a = some (exo a (T.C i) none)) ∨ ∃ d, H a = some (exo a (T.C i) (some d)) ∧ H d = some (exd d (fsOf x y i))
theorem ErrAt.mono {K : PySem.W.Frag} {mg : Str → Option Value} {T : Txt K mg} {x y : V} {H H' : Hp} {i : Nat} {a : Addr} (e : ErrAt T x y H i a) (s : Same H H') : ErrAt T x y H' i a :=
  ⟨e.lt, e.ex.imp (fun h => ⟨h.1, s _ _ h.2⟩) fun ⟨d, h1, h2⟩ => ⟨d, s _ _ h1, s _ _ h2⟩⟩
theorem exo_lst {e C : Addr} {d : Option Addr} {xs : List V} : exo e C d ≠ .lst xs := fun z => by
  have z' : HO.ext _ = HO.lst xs := z
  cases z'
theorem exd_lst {e : Addr} {fs : List (Str × V)} {xs : List V} : exd e fs ≠ .lst xs := fun z => by
  have z' : HO.ext _ = HO.lst xs := z
  cases z'
theorem ErrAt.lst {K : PySem.W.Frag} {mg : Str → Option Value} {T : Txt K mg} {x y : V} {H : Hp} {i : Nat} {a p : Addr} {xs ys : List V} (e : ErrAt T x y H i a) (h : H p = some (.lst xs)) : ErrAt T x y (upd H p (.lst ys)) i a :=
  ⟨e.lt, e.ex.imp (fun q => ⟨q.1, (upd_ne (ne_of q.2 h exo_lst)).trans q.2⟩) fun ⟨d, h1, h2⟩ => ⟨d, (upd_ne (ne_of h1 h exo_lst)).trans h1, (upd_ne (ne_of h2 h exd_lst)).trans h2⟩⟩
/-- all of them, from the first on -/
def Errs {K : PySem.W.Frag} {mg : Str → Option Value} (T : Txt K mg) (x y : V) (H : Hp) (as : List Addr) : Prop := ∀ i a, as[i]? = some a → ErrAt T x y H i a
theorem Errs.mono {K : PySem.W.Frag} {mg : Str → Option Value} {T : Txt K mg} {x y : V} {H H' : Hp} {as : List Addr} (e : Errs T x y H as) (s : Same H H') : Errs T x y H' as := fun i a h => (e i a h).mono s
theorem Errs.lst {K : PySem.W.Frag} {mg : Str → Option Value} {T : Txt K mg} {x y : V} {H : Hp} {as : List Addr} {p : Addr} {xs ys : List V} (e : Errs T x y H as) (h : H p = some (.lst xs)) : Errs T x y (upd H p (.lst ys)) as := fun i a z => (e i a z).lst h
theorem Errs.snoc {K : PySem.W.Frag} {mg : Str → Option Value} {T : Txt K mg} {x y : V} {H : Hp} {as : List Addr} {a : Addr} (e : Errs T x y H as) (h : ErrAt T x y H as.length a) : Errs T x y H (as ++ [a]) := fun i b z => by
  by_cases hi : i < as.length
  · rw [List.getElem?_append_left hi] at z
    exact e i b z
  · rw [List.getElem?_append_right (by omega)] at z
    have h0 : i - as.length = 0 := by
      have := (List.getElem?_eq_some_iff.mp z).1
      simp at this
      omega
    rw [h0] at z
    have e1 : a = b := by simpa using z
    have e2 : i = as.length := by omega
    subst e1 e2
    exact h
section
variable {K : PySem.W.Frag} {mg : Str → Option Value} {T : Txt K mg} {σ : L2.St} {H : Hp} {Q : VK} {x y : V} {i : Nat}
theorem r_mk1 {f : Str} {k : Nat} (hv : σ[k]? = some (some x)) (hi : i < 20) (hf : fsOf x y i = [(f, x)]) (h : ∀ H' a, Same H H' → ErrAt T x y H' i a → Q (.ref a) H') :
    tMkV (T.C i) (spI1 (T.C i) f) [] (tCons (tVar k) tNil) σ H Q := by
  refine ⟨x, hv, by show 1 ≤ 1000; decide, fun a na => ⟨a, x, rfl, upd_same, fun d nd ne => ⟨rfl, ?_⟩⟩⟩
  have nd0 : H d = none := by rw [upd_ne ne] at nd; exact nd
  refine h _ a (fun b o e => ?_) ⟨hi, .inr ⟨d, upd_same, ?_⟩⟩
  · rw [upd_ne (ne_of_none e na), upd_ne (ne_of_none e nd0), upd_ne (ne_of_none e na)]
    exact e
  · rw [upd_ne ne, upd_same, hf]
theorem r_mk2 {f g : Str} {k l : Nat} (hv : σ[k]? = some (some x)) (hw : σ[l]? = some (some y)) (hi : i < 20) (hf : fsOf x y i = [(g, y), (f, x)]) (h : ∀ H' a, Same H H' → ErrAt T x y H' i a → Q (.ref a) H') :
    tMkV (T.C i) (spI2 (T.C i) f g) [] (tCons (tVar k) (tCons (tVar l) tNil)) σ H Q := by
  refine ⟨x, hv, y, hw, by show 2 ≤ 1000; decide, fun a na => ⟨a, x, y, rfl, upd_same, fun d nd ne => ⟨rfl, ?_⟩⟩⟩
  have nd0 : H d = none := by rw [upd_ne ne] at nd; exact nd
  refine h _ a (fun b o e => ?_) ⟨hi, .inr ⟨d, ?_, ?_⟩⟩
  · rw [upd_ne (ne_of_none e nd0), upd_ne (ne_of_none e na), upd_ne (ne_of_none e nd0), upd_ne (ne_of_none e na)]
    exact e
  · rw [upd_ne ne.symm, upd_same]
  · rw [upd_same, hf]
theorem same_of_mk {H H' : Hp} {a : Addr} {o : HO} (e : upd H a o = H') (n : H a = none) : Same H H' := by rw [← e]; exact same_new n
end
def spErrors {K : PySem.W.Frag} {mg : Str → Option Value} (T : Txt K mg) : Sp := fun vs H Q _ => ∃ x y : V, vs = [x, y] ∧
  ∀ H' p as, Same H H' → H p = none → H' p = some (.lst (as.map V.ref)) → as.length = 20 → Errs T x y H' as → Q (.ref p) H'
section
variable {P : Program} {w : World} {K : PySem.W.Frag} {mg : Str → Option Value} {base : Heap}
theorem ok_L_errors (T : Txt K mg) : FnOk P w K mg base CX0 3 T.f_L_errors T.d_L_errors ["_law_one", "_law_two"] (spErrors T) := by
  refine T.F_L_errors.ok sc_L_errors (fun vs H Q E h => ?_) (fun cdv A outer s H vs Q E hr h => ?_)
  · obtain ⟨x, y, rfl, _⟩ := h
    rfl
  · obtain ⟨x, y, rfl, q⟩ := h
    refine ⟨_, (pss_cons (ps_set (i := 2) sc_L_errors.nd rfl (Or.inl rfl) (pe_lst (pa_cons (pe_mkV T.x_InvalidBound.o T.i_InvalidBound T.t_InvalidBound (ok_i_InvalidBound T) (hr.mono (by decide)) T.b_InvalidBound .nil pass0 (by rfl) T.g_InvalidBound (pa_cons (pv 0) pa_nil)) (pa_cons (pe_mkV T.x_InvalidChange.o T.i_InvalidChange T.t_InvalidChange (ok_i_InvalidChange T) (hr.mono (by decide)) T.b_InvalidChange .nil pass0 (by rfl) T.g_InvalidChange (pa_cons (pv 0) pa_nil)) (pa_cons (pe_mkV T.x_InvalidDeed.o T.i_InvalidDeed T.t_InvalidDeed (ok_i_InvalidDeed T) (hr.mono (by decide)) T.b_InvalidDeed .nil pass0 (by rfl) T.g_InvalidDeed (pa_cons (pv 0) pa_nil)) (pa_cons (pe_mkV T.x_InvalidForm.o T.i_InvalidForm T.t_InvalidForm (ok_i_InvalidForm T) (hr.mono (by decide)) T.b_InvalidForm .nil pass0 (by rfl) T.g_InvalidForm (pa_cons (pv 0) (pa_cons (pv 1) pa_nil))) pa_nil)))))) (pss_cons (ps_expr (pe_bm PySem.F.plainAttrs_list PySem.F.slot_list_extend PySem.F.type_list_extend mt_extend (pv 2) (pa_cons (pe_lst (pa_cons (pe_mkV T.x_InvalidKind.o T.i_InvalidKind T.t_InvalidKind (ok_i_InvalidKind T) (hr.mono (by decide)) T.b_InvalidKind .nil pass0 (by rfl) T.g_InvalidKind (pa_cons (pv 0) pa_nil)) (pa_cons (pe_mkV T.x_InvalidRule.o T.i_InvalidRule T.t_InvalidRule (ok_i_InvalidRule T) (hr.mono (by decide)) T.b_InvalidRule .nil pass0 (by rfl) T.g_InvalidRule (pa_cons (pv 0) pa_nil)) (pa_cons (pe_mkV0 PySem.F.excBase_ValueError T.e_InvalidRules (by rfl) T.g_InvalidRules T.k_InvalidRules) (pa_cons (pe_mkV0 PySem.F.excBase_ValueError T.e_InvalidStanding (by rfl) T.g_InvalidStanding T.k_InvalidStanding) pa_nil))))) pa_nil))) (pss_cons (ps_expr (pe_bm PySem.F.plainAttrs_list PySem.F.slot_list_extend PySem.F.type_list_extend mt_extend (pv 2) (pa_cons (pe_lst (pa_cons (pe_mkV T.x_InvalidTable.o T.i_InvalidTable T.t_InvalidTable (ok_i_InvalidTable T) (hr.mono (by decide)) T.b_InvalidTable .nil pass0 (by rfl) T.g_InvalidTable (pa_cons (pv 0) pa_nil)) (pa_cons (pe_mkV T.x_InvalidText.o T.i_InvalidText T.t_InvalidText (ok_i_InvalidText T) (hr.mono (by decide)) T.b_InvalidText .nil pass0 (by rfl) T.g_InvalidText (pa_cons (pv 0) pa_nil)) (pa_cons (pe_mkV T.x_InvalidWords.o T.i_InvalidWords T.t_InvalidWords (ok_i_InvalidWords T) (hr.mono (by decide)) T.b_InvalidWords .nil pass0 (by rfl) T.g_InvalidWords (pa_cons (pv 0) pa_nil)) (pa_cons (pe_mkV T.x_LimitExceeded.o T.i_LimitExceeded T.t_LimitExceeded (ok_i_LimitExceeded T) (hr.mono (by decide)) T.b_LimitExceeded .nil pass0 (by rfl) T.g_LimitExceeded (pa_cons (pv 0) pa_nil)) pa_nil))))) pa_nil))) (pss_cons (ps_expr (pe_bm PySem.F.plainAttrs_list PySem.F.slot_list_extend PySem.F.type_list_extend mt_extend (pv 2) (pa_cons (pe_lst (pa_cons (pe_mkV T.x_NoFault.o T.i_NoFault T.t_NoFault (ok_i_NoFault T) (hr.mono (by decide)) T.b_NoFault .nil pass0 (by rfl) T.g_NoFault (pa_cons (pv 0) (pa_cons (pv 1) pa_nil))) (pa_cons (pe_mkV0 PySem.F.excBase_ValueError T.e_NoStanding (by rfl) T.g_NoStanding T.k_NoStanding) (pa_cons (pe_mkV T.x_NotComparable.o T.i_NotComparable T.t_NotComparable (ok_i_NotComparable T) (hr.mono (by decide)) T.b_NotComparable .nil pass0 (by rfl) T.g_NotComparable (pa_cons (pv 0) pa_nil)) (pa_cons (pe_mkV0 PySem.F.excBase_ValueError T.e_NothingToRedo (by rfl) T.g_NothingToRedo T.k_NothingToRedo) pa_nil))))) pa_nil))) (pss_cons (ps_expr (pe_bm PySem.F.plainAttrs_list PySem.F.slot_list_extend PySem.F.type_list_extend mt_extend (pv 2) (pa_cons (pe_lst (pa_cons (pe_mkV0 PySem.F.excBase_ValueError T.e_NothingToUndo (by rfl) T.g_NothingToUndo T.k_NothingToUndo) (pa_cons (pe_mkV T.x_TooManyAsked.o T.i_TooManyAsked T.t_TooManyAsked (ok_i_TooManyAsked T) (hr.mono (by decide)) T.b_TooManyAsked .nil pass0 (by rfl) T.g_TooManyAsked (pa_cons (pv 0) pa_nil)) (pa_cons (pe_mkV T.x_UnknownField.o T.i_UnknownField T.t_UnknownField (ok_i_UnknownField T) (hr.mono (by decide)) T.b_UnknownField .nil pass0 (by rfl) T.g_UnknownField (pa_cons (pv 0) pa_nil)) (pa_cons (pe_mkV T.x_UnknownWord.o T.i_UnknownWord T.t_UnknownWord (ok_i_UnknownWord T) (hr.mono (by decide)) T.b_UnknownWord .nil pass0 (by rfl) T.g_UnknownWord (pa_cons (pv 0) pa_nil)) pa_nil))))) pa_nil))) (pss_one (ps_ret (pv 2)))))))), ?_⟩
    show tSeq _ _ _ [_, _, none] _
    have g0 : Errs T x y H [] := fun i a z => by simp at z
    walk_at "goxE"
    refine r_mk1 (x := x) (y := y) (i := 0) rfl (by decide) rfl (fun H1 a1 s1 e1 => ?_)
    have g1 : Errs T x y H1 [a1] := Errs.snoc (as := []) (g0.mono s1) e1
    have m1 : Same H H1 := s1
    walk_at "goxE"
    refine r_mk1 (x := x) (y := y) (i := 1) rfl (by decide) rfl (fun H2 a2 s2 e2 => ?_)
    have g2 : Errs T x y H2 [a1, a2] := Errs.snoc (as := [a1]) (g1.mono s2) e2
    have m2 : Same H H2 := m1.trans s2
    walk_at "goxE"
    refine r_mk1 (x := x) (y := y) (i := 2) rfl (by decide) rfl (fun H3 a3 s3 e3 => ?_)
    have g3 : Errs T x y H3 [a1, a2, a3] := Errs.snoc (as := [a1, a2]) (g2.mono s3) e3
    have m3 : Same H H3 := m2.trans s3
    walk_at "goxE"
    refine r_mk2 (x := x) (y := y) (i := 3) rfl rfl (by decide) rfl (fun H4 a4 s4 e4 => ?_)
    have g4 : Errs T x y H4 [a1, a2, a3, a4] := Errs.snoc (as := [a1, a2, a3]) (g3.mono s4) e4
    have m4 : Same H H4 := m3.trans s4
    walk_at "goxE"
    intro p np
    have zp : H p = none := m4.free np
    have g4x := g4.mono (same_new (o := .lst ([a1, a2, a3, a4].map V.ref)) np)
    have p4x : (upd H4 p (.lst ([a1, a2, a3, a4].map V.ref))) p = some (.lst ([a1, a2, a3, a4].map V.ref)) := upd_same
    have m4x := m4.trans (same_new (o := .lst ([a1, a2, a3, a4].map V.ref)) np)
    walk_at "goxE"
    refine r_mk1 (x := x) (y := y) (i := 4) rfl (by decide) rfl (fun H5 a5 s5 e5 => ?_)
    have g5 : Errs T x y H5 [a1, a2, a3, a4, a5] := Errs.snoc (as := [a1, a2, a3, a4]) (g4x.mono s5) e5
    have p5 : H5 p = some (.lst ([a1, a2, a3, a4].map V.ref)) := s5 _ _ p4x
    have m5 : Same H H5 := m4x.trans s5
    walk_at "goxE"
    refine r_mk1 (x := x) (y := y) (i := 5) rfl (by decide) rfl (fun H6 a6 s6 e6 => ?_)
    have g6 : Errs T x y H6 [a1, a2, a3, a4, a5, a6] := Errs.snoc (as := [a1, a2, a3, a4, a5]) (g5.mono s6) e6
    have p6 : H6 p = some (.lst ([a1, a2, a3, a4].map V.ref)) := s6 _ _ p5
    have m6 : Same H H6 := m5.trans s6
    walk_at "goxE"
    intro a7 n7
    generalize hG7 : upd _ a7 (exo a7 (T.C 6) none) = H7
    have s7 := same_of_mk hG7 n7
    have e7 : ErrAt T x y H7 6 a7 := ⟨by decide, .inl ⟨rfl, by rw [← hG7]; exact upd_same⟩⟩
    have g7 : Errs T x y H7 [a1, a2, a3, a4, a5, a6, a7] := Errs.snoc (as := [a1, a2, a3, a4, a5, a6]) (g6.mono s7) e7
    have p7 : H7 p = some (.lst ([a1, a2, a3, a4].map V.ref)) := s7 _ _ p6
    have m7 : Same H H7 := m6.trans s7
    walk_at "goxE"
    intro a8 n8
    generalize hG8 : upd _ a8 (exo a8 (T.C 7) none) = H8
    have s8 := same_of_mk hG8 n8
    have e8 : ErrAt T x y H8 7 a8 := ⟨by decide, .inl ⟨rfl, by rw [← hG8]; exact upd_same⟩⟩
    have g8 : Errs T x y H8 [a1, a2, a3, a4, a5, a6, a7, a8] := Errs.snoc (as := [a1, a2, a3, a4, a5, a6, a7]) (g7.mono s8) e8
    have p8 : H8 p = some (.lst ([a1, a2, a3, a4].map V.ref)) := s8 _ _ p7
    have m8 : Same H H8 := m7.trans s8
    walk_at "goxE"
    intro q1 nq1
    have zq1 : H q1 = none := m8.free nq1
    have pq1 : (upd H8 q1 (.lst ([a5, a6, a7, a8].map V.ref))) p = some (.lst ([a1, a2, a3, a4].map V.ref)) := (upd_ne (ne_of_none p8 nq1)).trans p8
    walk_at "goxE"
    refine r_ext pq1 upd_same (by show _ ≤ sizeLine; simp only [List.length_map, List.length_cons, List.length_nil]; decide) ?_
    have g8x := (g8.mono (same_new (o := .lst ([a5, a6, a7, a8].map V.ref)) nq1)).lst (ys := [a1, a2, a3, a4, a5, a6, a7, a8].map V.ref) pq1
    have p8x : (upd (upd H8 q1 (.lst ([a5, a6, a7, a8].map V.ref))) p (.lst ([a1, a2, a3, a4, a5, a6, a7, a8].map V.ref))) p = some (.lst ([a1, a2, a3, a4, a5, a6, a7, a8].map V.ref)) := upd_same
    have m8x : Same H (upd (upd H8 q1 (.lst ([a5, a6, a7, a8].map V.ref))) p (.lst ([a1, a2, a3, a4, a5, a6, a7, a8].map V.ref))) := same_upd (same_upd m8 zq1) zp
    walk_at "goxE"
    refine r_mk1 (x := x) (y := y) (i := 8) rfl (by decide) rfl (fun H9 a9 s9 e9 => ?_)
    have g9 : Errs T x y H9 [a1, a2, a3, a4, a5, a6, a7, a8, a9] := Errs.snoc (as := [a1, a2, a3, a4, a5, a6, a7, a8]) (g8x.mono s9) e9
    have p9 : H9 p = some (.lst ([a1, a2, a3, a4, a5, a6, a7, a8].map V.ref)) := s9 _ _ p8x
    have m9 : Same H H9 := m8x.trans s9
    walk_at "goxE"
    refine r_mk1 (x := x) (y := y) (i := 9) rfl (by decide) rfl (fun H10 a10 s10 e10 => ?_)
    have g10 : Errs T x y H10 [a1, a2, a3, a4, a5, a6, a7, a8, a9, a10] := Errs.snoc (as := [a1, a2, a3, a4, a5, a6, a7, a8, a9]) (g9.mono s10) e10
    have p10 : H10 p = some (.lst ([a1, a2, a3, a4, a5, a6, a7, a8].map V.ref)) := s10 _ _ p9
    have m10 : Same H H10 := m9.trans s10
    walk_at "goxE"
    refine r_mk1 (x := x) (y := y) (i := 10) rfl (by decide) rfl (fun H11 a11 s11 e11 => ?_)
    have g11 : Errs T x y H11 [a1, a2, a3, a4, a5, a6, a7, a8, a9, a10, a11] := Errs.snoc (as := [a1, a2, a3, a4, a5, a6, a7, a8, a9, a10]) (g10.mono s11) e11
    have p11 : H11 p = some (.lst ([a1, a2, a3, a4, a5, a6, a7, a8].map V.ref)) := s11 _ _ p10
    have m11 : Same H H11 := m10.trans s11
    walk_at "goxE"
    refine r_mk1 (x := x) (y := y) (i := 11) rfl (by decide) rfl (fun H12 a12 s12 e12 => ?_)
    have g12 : Errs T x y H12 [a1, a2, a3, a4, a5, a6, a7, a8, a9, a10, a11, a12] := Errs.snoc (as := [a1, a2, a3, a4, a5, a6, a7, a8, a9, a10, a11]) (g11.mono s12) e12
    have p12 : H12 p = some (.lst ([a1, a2, a3, a4, a5, a6, a7, a8].map V.ref)) := s12 _ _ p11
    have m12 : Same H H12 := m11.trans s12
    walk_at "goxE"
    intro q2 nq2
    have zq2 : H q2 = none := m12.free nq2
    have pq2 : (upd H12 q2 (.lst ([a9, a10, a11, a12].map V.ref))) p = some (.lst ([a1, a2, a3, a4, a5, a6, a7, a8].map V.ref)) := (upd_ne (ne_of_none p12 nq2)).trans p12
    walk_at "goxE"
    refine r_ext pq2 upd_same (by show _ ≤ sizeLine; simp only [List.length_map, List.length_cons, List.length_nil]; decide) ?_
    have g12x := (g12.mono (same_new (o := .lst ([a9, a10, a11, a12].map V.ref)) nq2)).lst (ys := [a1, a2, a3, a4, a5, a6, a7, a8, a9, a10, a11, a12].map V.ref) pq2
    have p12x : (upd (upd H12 q2 (.lst ([a9, a10, a11, a12].map V.ref))) p (.lst ([a1, a2, a3, a4, a5, a6, a7, a8, a9, a10, a11, a12].map V.ref))) p = some (.lst ([a1, a2, a3, a4, a5, a6, a7, a8, a9, a10, a11, a12].map V.ref)) := upd_same
    have m12x : Same H (upd (upd H12 q2 (.lst ([a9, a10, a11, a12].map V.ref))) p (.lst ([a1, a2, a3, a4, a5, a6, a7, a8, a9, a10, a11, a12].map V.ref))) := same_upd (same_upd m12 zq2) zp
    walk_at "goxE"
    refine r_mk2 (x := x) (y := y) (i := 12) rfl rfl (by decide) rfl (fun H13 a13 s13 e13 => ?_)
    have g13 : Errs T x y H13 [a1, a2, a3, a4, a5, a6, a7, a8, a9, a10, a11, a12, a13] := Errs.snoc (as := [a1, a2, a3, a4, a5, a6, a7, a8, a9, a10, a11, a12]) (g12x.mono s13) e13
    have p13 : H13 p = some (.lst ([a1, a2, a3, a4, a5, a6, a7, a8, a9, a10, a11, a12].map V.ref)) := s13 _ _ p12x
    have m13 : Same H H13 := m12x.trans s13
    walk_at "goxE"
    intro a14 n14
    generalize hG14 : upd _ a14 (exo a14 (T.C 13) none) = H14
    have s14 := same_of_mk hG14 n14
    have e14 : ErrAt T x y H14 13 a14 := ⟨by decide, .inl ⟨rfl, by rw [← hG14]; exact upd_same⟩⟩
    have g14 : Errs T x y H14 [a1, a2, a3, a4, a5, a6, a7, a8, a9, a10, a11, a12, a13, a14] := Errs.snoc (as := [a1, a2, a3, a4, a5, a6, a7, a8, a9, a10, a11, a12, a13]) (g13.mono s14) e14
    have p14 : H14 p = some (.lst ([a1, a2, a3, a4, a5, a6, a7, a8, a9, a10, a11, a12].map V.ref)) := s14 _ _ p13
    have m14 : Same H H14 := m13.trans s14
    walk_at "goxE"
    refine r_mk1 (x := x) (y := y) (i := 14) rfl (by decide) rfl (fun H15 a15 s15 e15 => ?_)
    have g15 : Errs T x y H15 [a1, a2, a3, a4, a5, a6, a7, a8, a9, a10, a11, a12, a13, a14, a15] := Errs.snoc (as := [a1, a2, a3, a4, a5, a6, a7, a8, a9, a10, a11, a12, a13, a14]) (g14.mono s15) e15
    have p15 : H15 p = some (.lst ([a1, a2, a3, a4, a5, a6, a7, a8, a9, a10, a11, a12].map V.ref)) := s15 _ _ p14
    have m15 : Same H H15 := m14.trans s15
    walk_at "goxE"
    intro a16 n16
    generalize hG16 : upd _ a16 (exo a16 (T.C 15) none) = H16
    have s16 := same_of_mk hG16 n16
    have e16 : ErrAt T x y H16 15 a16 := ⟨by decide, .inl ⟨rfl, by rw [← hG16]; exact upd_same⟩⟩
    have g16 : Errs T x y H16 [a1, a2, a3, a4, a5, a6, a7, a8, a9, a10, a11, a12, a13, a14, a15, a16] := Errs.snoc (as := [a1, a2, a3, a4, a5, a6, a7, a8, a9, a10, a11, a12, a13, a14, a15]) (g15.mono s16) e16
    have p16 : H16 p = some (.lst ([a1, a2, a3, a4, a5, a6, a7, a8, a9, a10, a11, a12].map V.ref)) := s16 _ _ p15
    have m16 : Same H H16 := m15.trans s16
    walk_at "goxE"
    intro q3 nq3
    have zq3 : H q3 = none := m16.free nq3
    have pq3 : (upd H16 q3 (.lst ([a13, a14, a15, a16].map V.ref))) p = some (.lst ([a1, a2, a3, a4, a5, a6, a7, a8, a9, a10, a11, a12].map V.ref)) := (upd_ne (ne_of_none p16 nq3)).trans p16
    walk_at "goxE"
    refine r_ext pq3 upd_same (by show _ ≤ sizeLine; simp only [List.length_map, List.length_cons, List.length_nil]; decide) ?_
    have g16x := (g16.mono (same_new (o := .lst ([a13, a14, a15, a16].map V.ref)) nq3)).lst (ys := [a1, a2, a3, a4, a5, a6, a7, a8, a9, a10, a11, a12, a13, a14, a15, a16].map V.ref) pq3
    have p16x : (upd (upd H16 q3 (.lst ([a13, a14, a15, a16].map V.ref))) p (.lst ([a1, a2, a3, a4, a5, a6, a7, a8, a9, a10, a11, a12, a13, a14, a15, a16].map V.ref))) p = some (.lst ([a1, a2, a3, a4, a5, a6, a7, a8, a9, a10, a11, a12, a13, a14, a15, a16].map V.ref)) := upd_same
    have m16x : Same H (upd (upd H16 q3 (.lst ([a13, a14, a15, a16].map V.ref))) p (.lst ([a1, a2, a3, a4, a5, a6, a7, a8, a9, a10, a11, a12, a13, a14, a15, a16].map V.ref))) := same_upd (same_upd m16 zq3) zp
    walk_at "goxE"
    intro a17 n17
    generalize hG17 : upd _ a17 (exo a17 (T.C 16) none) = H17
    have s17 := same_of_mk hG17 n17
    have e17 : ErrAt T x y H17 16 a17 := ⟨by decide, .inl ⟨rfl, by rw [← hG17]; exact upd_same⟩⟩
    have g17 : Errs T x y H17 [a1, a2, a3, a4, a5, a6, a7, a8, a9, a10, a11, a12, a13, a14, a15, a16, a17] := Errs.snoc (as := [a1, a2, a3, a4, a5, a6, a7, a8, a9, a10, a11, a12, a13, a14, a15, a16]) (g16x.mono s17) e17
    have p17 : H17 p = some (.lst ([a1, a2, a3, a4, a5, a6, a7, a8, a9, a10, a11, a12, a13, a14, a15, a16].map V.ref)) := s17 _ _ p16x
    have m17 : Same H H17 := m16x.trans s17
    walk_at "goxE"
    refine r_mk1 (x := x) (y := y) (i := 17) rfl (by decide) rfl (fun H18 a18 s18 e18 => ?_)
    have g18 : Errs T x y H18 [a1, a2, a3, a4, a5, a6, a7, a8, a9, a10, a11, a12, a13, a14, a15, a16, a17, a18] := Errs.snoc (as := [a1, a2, a3, a4, a5, a6, a7, a8, a9, a10, a11, a12, a13, a14, a15, a16, a17]) (g17.mono s18) e18
    have p18 : H18 p = some (.lst ([a1, a2, a3, a4, a5, a6, a7, a8, a9, a10, a11, a12, a13, a14, a15, a16].map V.ref)) := s18 _ _ p17
    have m18 : Same H H18 := m17.trans s18
    walk_at "goxE"
    refine r_mk1 (x := x) (y := y) (i := 18) rfl (by decide) rfl (fun H19 a19 s19 e19 => ?_)
    have g19 : Errs T x y H19 [a1, a2, a3, a4, a5, a6, a7, a8, a9, a10, a11, a12, a13, a14, a15, a16, a17, a18, a19] := Errs.snoc (as := [a1, a2, a3, a4, a5, a6, a7, a8, a9, a10, a11, a12, a13, a14, a15, a16, a17, a18]) (g18.mono s19) e19
    have p19 : H19 p = some (.lst ([a1, a2, a3, a4, a5, a6, a7, a8, a9, a10, a11, a12, a13, a14, a15, a16].map V.ref)) := s19 _ _ p18
    have m19 : Same H H19 := m18.trans s19
    walk_at "goxE"
    refine r_mk1 (x := x) (y := y) (i := 19) rfl (by decide) rfl (fun H20 a20 s20 e20 => ?_)
    have g20 : Errs T x y H20 [a1, a2, a3, a4, a5, a6, a7, a8, a9, a10, a11, a12, a13, a14, a15, a16, a17, a18, a19, a20] := Errs.snoc (as := [a1, a2, a3, a4, a5, a6, a7, a8, a9, a10, a11, a12, a13, a14, a15, a16, a17, a18, a19]) (g19.mono s20) e20
    have p20 : H20 p = some (.lst ([a1, a2, a3, a4, a5, a6, a7, a8, a9, a10, a11, a12, a13, a14, a15, a16].map V.ref)) := s20 _ _ p19
    have m20 : Same H H20 := m19.trans s20
    walk_at "goxE"
    intro q4 nq4
    have zq4 : H q4 = none := m20.free nq4
    have pq4 : (upd H20 q4 (.lst ([a17, a18, a19, a20].map V.ref))) p = some (.lst ([a1, a2, a3, a4, a5, a6, a7, a8, a9, a10, a11, a12, a13, a14, a15, a16].map V.ref)) := (upd_ne (ne_of_none p20 nq4)).trans p20
    walk_at "goxE"
    refine r_ext pq4 upd_same (by show _ ≤ sizeLine; simp only [List.length_map, List.length_cons, List.length_nil]; decide) ?_
    have g20x := (g20.mono (same_new (o := .lst ([a17, a18, a19, a20].map V.ref)) nq4)).lst (ys := [a1, a2, a3, a4, a5, a6, a7, a8, a9, a10, a11, a12, a13, a14, a15, a16, a17, a18, a19, a20].map V.ref) pq4
    have p20x : (upd (upd H20 q4 (.lst ([a17, a18, a19, a20].map V.ref))) p (.lst ([a1, a2, a3, a4, a5, a6, a7, a8, a9, a10, a11, a12, a13, a14, a15, a16, a17, a18, a19, a20].map V.ref))) p = some (.lst ([a1, a2, a3, a4, a5, a6, a7, a8, a9, a10, a11, a12, a13, a14, a15, a16, a17, a18, a19, a20].map V.ref)) := upd_same
    have m20x : Same H (upd (upd H20 q4 (.lst ([a17, a18, a19, a20].map V.ref))) p (.lst ([a1, a2, a3, a4, a5, a6, a7, a8, a9, a10, a11, a12, a13, a14, a15, a16, a17, a18, a19, a20].map V.ref))) := same_upd (same_upd m20 zq4) zp
    walk_at "goxE"
    exact q _ p [a1, a2, a3, a4, a5, a6, a7, a8, a9, a10, a11, a12, a13, a14, a15, a16, a17, a18, a19, a20] m20x zp p20x rfl g20x
end
end Wn



local macro_rules | `(tactic| walk_at "gox1F") => `(tactic| (first
  | walk_at "go1"
  | with_reducible refine Wn.r_bm ?_
  | with_reducible refine Wn.r_tyl (by walk_at "lk") ?_
  | with_reducible refine Wn.r_ext (by walk_at "lk") (by walk_at "lk") (by with_unfolding_all first | (simp only [List.length_cons, List.length_nil, List.length_append]; decide) | fail) ?_
  | with_reducible refine Wn.r_cat (by walk_at "lk") (by walk_at "lk") (by with_unfolding_all first | (simp only [List.length_cons, List.length_nil, List.length_append]; decide) | fail) ?_
  | with_reducible refine Wn.r_bm ?_))
local macro_rules | `(tactic| walk_at "goxF") => `(tactic| repeat (walk_at "gox1F"))
namespace Wn
open PySem PySem.Spec PyProof.Rows L2
def spHeld {K : PySem.W.Frag} {mg : Str → Option Value} (T : Txt K mg) : Sp := fun vs H Q _ => ∃ (p : Addr) (as : List Addr) (x y : V), vs = [.ref p] ∧ H p = some (.lst (as.map V.ref)) ∧ as.length = 20 ∧ Errs T x y H as ∧
  ∀ H' r r1 r2, Same H H' → H' r = some (.lst [.ref r1, .ref r2]) → H' r1 = some (.lst (List.replicate 15 x)) → H' r2 = some (.lst [y, y]) → Q (.ref r) H'
section
variable {K : PySem.W.Frag} {mg : Str → Option Value} {T : Txt K mg} {σ : L2.St} {H H0 : Hp} {Q : VK} {x y v : V} {i : Nat} {f : Str} {p : Addr} {as : List Addr}
theorem r_heldS (hE : Errs T x y H0 as) (hp : H0 p = some (.lst (as.map V.ref))) (hl : as.length = 20) (s : Same H0 H) (hv : σ[0]? = some (some (.ref p))) (hi : i < 20) (hf : (fsOf x y i).lookup f = some v) (nf : PySem.W.findIn K (.ref (T.C i)) f = some none) (q : Q v H) :
    tFldX K f (tOp (rIxA K) (tVar 0) (tC (.int (i : Nat)))) σ H Q := by
  have ha : as[i]? = some as[i] := List.getElem?_eq_getElem (by omega)
  have e := (hE i _ ha).mono s
  refine ⟨.ref p, hv, p, as.map V.ref, i, .ref as[i], rfl, rfl, .inl (SqL.of (s _ _ hp)), atI_nat (by rw [List.getElem?_map, ha]; rfl), ?_⟩
  rcases e.ex with ⟨h0, _⟩ | ⟨d, h1, h2⟩
  · rw [h0] at hf
    cases hf
  · exact ⟨as[i], T.C i, d, _, v, rfl, h1, h2, hf, T.xs i hi, nf, q⟩
end
section
variable {P : Program} {w : World} {K : PySem.W.Frag} {mg : Str → Option Value} {base : Heap}
theorem ok_L_held (T : Txt K mg) : FnOk P w K mg base CX0 1 T.f_L_held T.d_L_held ["_law_found"] (spHeld T) := by
  refine T.F_L_held.ok sc_L_held (fun vs H Q E h => ?_) (fun cdv A outer s H vs Q E hr h => ?_)
  · obtain ⟨p, as, x, y, rfl, _⟩ := h
    rfl
  · obtain ⟨p, as, x, y, rfl, hp, hl, hE, q⟩ := h
    refine ⟨_, (pss_cons (ps_set (i := 1) sc_L_held.nd rfl (Or.inl rfl) (pe_lst (pa_cons (pe_fldX (pe_ix (ix_aK (K := K) rfl) (pv 0) pe_int (fun _ _ => rfl))) (pa_cons (pe_fldX (pe_ix (ix_aK (K := K) rfl) (pv 0) pe_int (fun _ _ => rfl))) (pa_cons (pe_fldX (pe_ix (ix_aK (K := K) rfl) (pv 0) pe_int (fun _ _ => rfl))) (pa_cons (pe_fldX (pe_ix (ix_aK (K := K) rfl) (pv 0) pe_int (fun _ _ => rfl))) pa_nil)))))) (pss_cons (ps_expr (pe_bm PySem.F.plainAttrs_list PySem.F.slot_list_extend PySem.F.type_list_extend mt_extend (pv 1) (pa_cons (pe_lst (pa_cons (pe_fldX (pe_ix (ix_aK (K := K) rfl) (pv 0) pe_int (fun _ _ => rfl))) (pa_cons (pe_fldX (pe_ix (ix_aK (K := K) rfl) (pv 0) pe_int (fun _ _ => rfl))) (pa_cons (pe_fldX (pe_ix (ix_aK (K := K) rfl) (pv 0) pe_int (fun _ _ => rfl))) (pa_cons (pe_fldX (pe_ix (ix_aK (K := K) rfl) (pv 0) pe_int (fun _ _ => rfl))) pa_nil))))) pa_nil))) (pss_cons (ps_expr (pe_bm PySem.F.plainAttrs_list PySem.F.slot_list_extend PySem.F.type_list_extend mt_extend (pv 1) (pa_cons (pe_lst (pa_cons (pe_fldX (pe_ix (ix_aK (K := K) rfl) (pv 0) pe_int (fun _ _ => rfl))) (pa_cons (pe_fldX (pe_ix (ix_aK (K := K) rfl) (pv 0) pe_int (fun _ _ => rfl))) (pa_cons (pe_fldX (pe_ix (ix_aK (K := K) rfl) (pv 0) pe_int (fun _ _ => rfl))) (pa_cons (pe_fldX (pe_ix (ix_aK (K := K) rfl) (pv 0) pe_int (fun _ _ => rfl))) pa_nil))))) pa_nil))) (pss_cons (ps_expr (pe_bm PySem.F.plainAttrs_list PySem.F.slot_list_extend PySem.F.type_list_extend mt_extend (pv 1) (pa_cons (pe_lst (pa_cons (pe_fldX (pe_ix (ix_aK (K := K) rfl) (pv 0) pe_int (fun _ _ => rfl))) (pa_cons (pe_fldX (pe_ix (ix_aK (K := K) rfl) (pv 0) pe_int (fun _ _ => rfl))) (pa_cons (pe_fldX (pe_ix (ix_aK (K := K) rfl) (pv 0) pe_int (fun _ _ => rfl))) pa_nil)))) pa_nil))) (pss_one (ps_ret (pe_lst (pa_cons (pv 1) (pa_cons (pe_lst (pa_cons (pe_fldX (pe_ix (ix_aK (K := K) rfl) (pv 0) pe_int (fun _ _ => rfl))) (pa_cons (pe_fldX (pe_ix (ix_aK (K := K) rfl) (pv 0) pe_int (fun _ _ => rfl))) pa_nil))) pa_nil))))))))), ?_⟩
    show tSeq _ _ _ [_, none] _
    walk_at "goxF"
    refine r_heldS hE hp hl (i := 0) (v := x) (by walk_at "sm") rfl (by decide) (by kernel_rfl) T.n_InvalidBound0 ?_
    walk_at "goxF"
    refine r_heldS hE hp hl (i := 1) (v := x) (by walk_at "sm") rfl (by decide) (by kernel_rfl) T.n_InvalidChange0 ?_
    walk_at "goxF"
    refine r_heldS hE hp hl (i := 2) (v := x) (by walk_at "sm") rfl (by decide) (by kernel_rfl) T.n_InvalidDeed0 ?_
    walk_at "goxF"
    refine r_heldS hE hp hl (i := 3) (v := x) (by walk_at "sm") rfl (by decide) (by kernel_rfl) T.n_InvalidForm0 ?_
    walk_at "goxF"
    intro h n_h; have z_h := L2.Same.free (H := H) (by walk_at "sm") n_h; have m_h := n_h
    walk_at "goxF"
    refine r_heldS hE hp hl (i := 4) (v := x) (by walk_at "sm") rfl (by decide) (by kernel_rfl) T.n_InvalidKind0 ?_
    walk_at "goxF"
    refine r_heldS hE hp hl (i := 5) (v := x) (by walk_at "sm") rfl (by decide) (by kernel_rfl) T.n_InvalidRule0 ?_
    walk_at "goxF"
    refine r_heldS hE hp hl (i := 8) (v := x) (by walk_at "sm") rfl (by decide) (by kernel_rfl) T.n_InvalidTable0 ?_
    walk_at "goxF"
    refine r_heldS hE hp hl (i := 9) (v := x) (by walk_at "sm") rfl (by decide) (by kernel_rfl) T.n_InvalidText0 ?_
    walk_at "goxF"
    intro q1 n_q1; have z_q1 := L2.Same.free (H := H) (by walk_at "sm") n_q1; have m_q1 := n_q1
    walk_at "goxF"
    refine r_heldS hE hp hl (i := 10) (v := x) (by walk_at "sm") rfl (by decide) (by kernel_rfl) T.n_InvalidWords0 ?_
    walk_at "goxF"
    refine r_heldS hE hp hl (i := 11) (v := x) (by walk_at "sm") rfl (by decide) (by kernel_rfl) T.n_LimitExceeded0 ?_
    walk_at "goxF"
    refine r_heldS hE hp hl (i := 12) (v := x) (by walk_at "sm") rfl (by decide) (by kernel_rfl) T.n_NoFault0 ?_
    walk_at "goxF"
    refine r_heldS hE hp hl (i := 14) (v := x) (by walk_at "sm") rfl (by decide) (by kernel_rfl) T.n_NotComparable0 ?_
    walk_at "goxF"
    intro q2 n_q2; have z_q2 := L2.Same.free (H := H) (by walk_at "sm") n_q2; have m_q2 := n_q2
    walk_at "goxF"
    refine r_heldS hE hp hl (i := 17) (v := x) (by walk_at "sm") rfl (by decide) (by kernel_rfl) T.n_TooManyAsked0 ?_
    walk_at "goxF"
    refine r_heldS hE hp hl (i := 18) (v := x) (by walk_at "sm") rfl (by decide) (by kernel_rfl) T.n_UnknownField0 ?_
    walk_at "goxF"
    refine r_heldS hE hp hl (i := 19) (v := x) (by walk_at "sm") rfl (by decide) (by kernel_rfl) T.n_UnknownWord0 ?_
    walk_at "goxF"
    intro q3 n_q3; have z_q3 := L2.Same.free (H := H) (by walk_at "sm") n_q3; have m_q3 := n_q3
    walk_at "goxF"
    refine r_heldS hE hp hl (i := 3) (v := y) (by walk_at "sm") rfl (by decide) (by kernel_rfl) T.n_InvalidForm1 ?_
    walk_at "goxF"
    refine r_heldS hE hp hl (i := 12) (v := y) (by walk_at "sm") rfl (by decide) (by kernel_rfl) T.n_NoFault1 ?_
    walk_at "goxF"
    intro r2 n_r2; have z_r2 := L2.Same.free (H := H) (by walk_at "sm") n_r2; have m_r2 := n_r2
    walk_at "goxF"
    intro r n_r; have z_r := L2.Same.free (H := H) (by walk_at "sm") n_r; have m_r := n_r
    walk_at "goxF"
    refine q _ r h r2 (by walk_at "sm") upd_same ?_ ?_
    · exact lk_ne (Wn.ne_ex ⟨_, lk_ne (Wn.ne_ex ⟨_, upd_same⟩ m_r2) upd_same⟩ m_r) (lk_ne (Wn.ne_ex ⟨_, upd_same⟩ m_r2) upd_same)
    · exact lk_ne (Wn.ne_ex ⟨_, upd_same⟩ m_r) upd_same
end
end Wn


namespace Wn
open PySem PySem.Spec PyProof.Rows L2
/-- the heap without b -/
def hid (H : Hp) (b : Addr) : Hp := fun x => if x = b then none else H x
theorem hid_some {H : Hp} {b x : Addr} {o : HO} (e : H x = some o) (ne : x ≠ b) : hid H b x = some o := by unfold hid; rw [if_neg ne]; exact e
theorem hid_same {H : Hp} {b : Addr} : Same (hid H b) H := fun x o e => by
  unfold hid at e
  by_cases h : x = b
  · rw [if_pos h] at e; cases e
  · rw [if_neg h] at e; exact e
theorem hid_but {H H' H0 : Hp} {b : Addr} (s : Same (hid H0 b) H) (h : ∀ x, x ≠ b → H' x = H x) : Same (hid H0 b) H' := fun x o e => by
  have ne : x ≠ b := fun z => by
    unfold hid at e
    rw [if_pos z] at e
    cases e
  rw [h x ne]
  exact s x o e
theorem BoxAt.mono {H H' : Hp} {b c : Addr} (x : BoxAt H b c) (s : Same H H') : BoxAt H' b c :=
  let ⟨cs, i, d, sd, n, hb, hc, hi, hd⟩ := x.ex
  ⟨x.ne, cs, i, d, sd, n, s _ _ hb, s _ _ hc, hi, hd⟩
theorem BoxAt.lst {H : Hp} {b c : Addr} (x : BoxAt H b c) : ∃ xs, H b = some (.lst xs) := let ⟨_, _, _, _, _, hb, _⟩ := x.ex; ⟨_, hb⟩
/-- a datum that is no deeper than n -/
def Nice (K : PySem.W.Frag) (H : Hp) (v : V) : Prop := ∃ d, Dp K H v d ∧ d.depth ≤ 3 ∧ dsz d = true
theorem Nice.mono {K : PySem.W.Frag} {H H' : Hp} {v : V} (s : Same H H') (n : Nice K H v) : Nice K H' v := let ⟨d, h1, h2⟩ := n; ⟨d, dp_mono s h1, h2⟩
theorem dp_bools {K : PySem.W.Frag} {H : Hp} : ∀ bs : List Bool, DpAll K H (bs.map V.bl) (bs.map PyData.bool)
  | [] => .nil
  | b :: bs => .cons (.bl b) (dp_bools bs)
theorem depth_bools : ∀ bs : List Bool, PyData.depthAll (bs.map PyData.bool) = 0
  | [] => rfl
  | b :: bs => by
    show max (PyData.depth (.bool b)) (PyData.depthAll (bs.map PyData.bool)) = 0
    rw [depth_bools bs]
    rfl
theorem dsz_bools : ∀ bs : List Bool, dszAll (bs.map PyData.bool) = true
  | [] => rfl
  | b :: bs => by
    show (dsz (.bool b) && dszAll (bs.map PyData.bool)) = true
    rw [dsz_bools bs]
    rfl
theorem dpAll_rep {K : PySem.W.Frag} {H : Hp} {v : V} {d : PyData} (h : Dp K H v d) : ∀ n : Nat, DpAll K H (List.replicate n v) (List.replicate n d)
  | 0 => .nil
  | n + 1 => .cons h (dpAll_rep h n)
theorem depth_rep {d : PyData} {m : Nat} (h : d.depth ≤ m) : ∀ n : Nat, PyData.depthAll (List.replicate n d) ≤ m
  | 0 => Nat.zero_le _
  | n + 1 => Nat.max_le.mpr ⟨h, depth_rep h n⟩
theorem dsz_rep {d : PyData} (h : dsz d = true) : ∀ n : Nat, dszAll (List.replicate n d) = true
  | 0 => rfl
  | n + 1 => by
    show (dsz d && dszAll (List.replicate n d)) = true
    rw [h, dsz_rep h n]
    rfl
def bsOf (j : Nat) : List Bool := (List.range 20).map fun i => decide (i = j)
theorem bls_bs (j : Nat) : blsOf j = (bsOf j).map V.bl := by
  unfold blsOf bsOf
  rw [List.map_map]
  rfl
def bsD (j : Nat) : PyData := .list ((bsOf j).map PyData.bool)
theorem bs_dp {K : PySem.W.Frag} {H : Hp} {p : Addr} {j : Nat} (e : H p = some (.lst (blsOf j))) : Dp K H (.ref p) (bsD j) := .lst (.inl (.inl e)) (by rw [bls_bs]; exact dp_bools _)
theorem bs_depth (j : Nat) : (bsD j).depth < 8 := by
  show PyData.depthAll ((bsOf j).map PyData.bool) + 1 < 8
  rw [depth_bools]
  decide
theorem bs_sz (j : Nat) : dsz (bsD j) = true := by
  show (decide (((bsOf j).map PyData.bool).length ≤ 100000) && dszAll ((bsOf j).map PyData.bool)) = true
  rw [dsz_bools, Bool.and_true, decide_eq_true_iff]
  unfold bsOf
  rw [List.length_map, List.length_map, List.length_range]
  decide
theorem r_isxS {K : PySem.W.Frag} {mg : Str → Option Value} {T : Txt K mg} {H H' : Hp} {a : Addr} {j : Nat} {od : Option Addr} {Q : VK} (x : XAt T H a j od) (s : Same H H') (q : Q (.bl true) H') :
    rIsX K [.ref a, .ref T.CS] H' Q :=
  ⟨a, T.C j, od, .ref T.CS, .ref T.CS, _, rfl, (x.mono s).at_, (x.mono s).dict, T.xs j x.lt, .own _, T.kS j x.lt, q⟩
theorem r_isxV {K : PySem.W.Frag} {mg : Str → Option Value} {T : Txt K mg} {H H' : Hp} {a : Addr} {j : Nat} {od : Option Addr} {Q : VK} (x : XAt T H a j od) (s : Same H H') (q : Q (.bl true) H') :
    rIsX K [.ref a, .ty "ValueError"] H' Q :=
  ⟨a, T.C j, od, .ty "ValueError", .type "ValueError", _, rfl, (x.mono s).at_, (x.mono s).dict, T.xs j x.lt, .ty _, T.kV j x.lt, q⟩
theorem ErrAt.xat {K : PySem.W.Frag} {mg : Str → Option Value} {T : Txt K mg} {x y : V} {H : Hp} {i : Nat} {a : Addr} (e : ErrAt T x y H i a) : ∃ od, XAt T H a i od := by
  rcases e.ex with ⟨_, h⟩ | ⟨d, h1, h2⟩
  · exact ⟨none, e.lt, h, fun d z => nomatch z⟩
  · exact ⟨some d, e.lt, h1, fun d' z => by cases z; exact ⟨_, h2⟩⟩
theorem pick {K : PySem.W.Frag} {H : Hp} {pm : Addr} {items : List V} {r : Int} {Q : VK} (e : H pm = some (.lst items)) (h0 : 0 ≤ r) (h1 : r < (items.length : Int)) (h : ∀ v ∈ items, Q v H) : rIxA K (.ref pm) (.int r) H Q := by
  obtain ⟨k, rfl⟩ : ∃ k : Nat, r = (k : Int) := ⟨r.toNat, by omega⟩
  have hk : k < items.length := by omega
  exact r_ixa (.inl (.inl (.inl e))) (atI_nat (List.getElem?_eq_getElem hk)) (h _ (List.getElem_mem hk))
theorem dec_at (k j : Nat) : decide (V.int (0 + (k : Int)) = V.int (0 + (j : Int))) = decide (k = j) := by
  by_cases h : k = j
  · subst h
    rw [decide_eq_true rfl, decide_eq_true rfl]
  · rw [decide_eq_false h, decide_eq_false]
    intro z
    have := V.int.inj z
    omega
theorem r_U {g : Int → V} {i : Int} {H : Hp} {Q : VK} (h : Q (g i) H) : rU g (.int i) H Q := ⟨i, rfl, h⟩

local macro_rules | `(tactic| walk_at "gox1G") => `(tactic| (first
  | walk_at "go1"
  | with_reducible refine Wn.r_bm ?_
  | with_reducible refine Wn.r_tyl (by walk_at "lk") ?_
  | with_reducible refine Wn.r_ext (by walk_at "lk") (by walk_at "lk") (by with_unfolding_all first | (simp only [List.length_cons, List.length_nil, List.length_append]; decide) | fail) ?_
  | with_reducible refine Wn.r_cat (by walk_at "lk") (by walk_at "lk") (by with_unfolding_all first | (simp only [List.length_cons, List.length_nil, List.length_append]; decide) | fail) ?_
  | with_reducible refine Wn.r_U ?_
  | with_reducible refine Wn.r_isxS (by assumption) (by walk_at "sm") ?_
  | with_reducible refine Wn.r_isxV (by assumption) (by walk_at "sm") ?_))
local macro_rules | `(tactic| walk_at "goxG") => `(tactic| repeat (walk_at "gox1G"))
def spLaw (K : PySem.W.Frag) : Sp := fun vs H Q _ => ∃ (a : Addr) (ns : List Int), vs = [.ref a] ∧ SqL K H a (ns.map V.int) ∧ ns.length ≤ 63 ∧ ∀ H', Q (.bl true) H'
section
variable {P : Program} {w : World} {K : PySem.W.Frag} {mg : Str → Option Value} {base : Heap}
theorem ok_law (T : Txt K mg) {f : Addr} {fd : FuncData} (F : Fun K "law" "law" s_law f fd) : FnOk P w K mg base CX0 13 f fd ["_law_script"] (spLaw K) := by
  have ok_L_box : ∀ _ : Txt K mg, FnOk P w K mg base CX0 2 T.f_L_box T.d_L_box ["_law_script"] (spBox K) := fun _ => ok_box T.F_L_box T.F_L_mix T.b_L_mix T.g_L_mix T.B.int
  have ok_L_draw : ∀ _ : Txt K mg, FnOk P w K mg base CX0 2 T.f_L_draw T.d_L_draw ["_law_box_here", "_law_many"] spDraw := fun _ => ok_draw T.F_L_draw T.F_L_mix T.b_L_mix T.g_L_mix T.B.int T.B.len
  have ok_L_same : ∀ _ : Txt K mg, FnOk P w K mg base CX0 9 T.f_L_same T.d_L_same ["_law_told", "_law_due"] (spSame K 8) := fun _ => ok_same T.F_L_same T.b_L_same T.g_L_same T.B 8
  refine F.ok sc_law (fun vs H Q E h => ?_) (fun cdv A outer s H vs Q E hr h => ?_)
  · obtain ⟨a, ns, rfl, _⟩ := h
    rfl
  · obtain ⟨a, ns, rfl, hS, h63, q⟩ := h
    refine ⟨_, (pss_cons (ps_set (i := 1) sc_law.nd rfl (Or.inl rfl) (pe_call (ok_L_box T) (hr.mono (by decide)) (by rfl) T.g_L_box T.F_L_box.kp T.b_L_box .nil pass0 (pa_cons (pv 0) pa_nil))) (pss_cons (ps_for PassesOwn.never rfl (pi_range1 (by rfl) T.range (pa_cons pe_int pa_nil)) (pg_name (i := 2) sc_law.nd rfl (Or.inl rfl)) (pss_cons (ps_set (i := 3) sc_law.nd rfl (Or.inl rfl) (pe_lst (pa_cons pe_str (pa_cons pe_str (pa_cons pe_int (pa_cons pe_int (pa_cons (pe_un un_neg pe_int) (pa_cons (pe_op op_pow pe_int pe_int) (pa_cons pe_bl (pa_cons pe_bl (pa_cons pe_non (pa_cons (pe_tup pa_nil) (pa_cons (pe_tup (pa_cons pe_str (pa_cons pe_int pa_nil))) (pa_cons (pe_lst (pa_cons pe_str pa_nil)) (pa_cons (pe_tup (pa_cons (pe_tup (pa_cons pe_str pa_nil)) pa_nil)) (pa_cons pe_str pa_nil)))))))))))))))) (pss_cons (ps_set (i := 4) sc_law.nd rfl (Or.inl rfl) (pe_ix (ix_aK (K := K) rfl) (pv 3) (pe_call (ok_L_draw T) (hr.mono (by decide)) (by rfl) T.g_L_draw T.F_L_draw.kp T.b_L_draw .nil pass0 (pa_cons (pv 1) (pa_cons pe_int pa_nil))) (fun _ _ => rfl))) (pss_cons (ps_set (i := 5) sc_law.nd rfl (Or.inl rfl) (pe_ix (ix_aK (K := K) rfl) (pv 3) (pe_call (ok_L_draw T) (hr.mono (by decide)) (by rfl) T.g_L_draw T.F_L_draw.kp T.b_L_draw .nil pass0 (pa_cons (pv 1) (pa_cons pe_int pa_nil))) (fun _ _ => rfl))) (pss_cons (ps_set (i := 6) sc_law.nd rfl (Or.inl rfl) (pe_call (ok_L_errors T) (hr.mono (by decide)) (by rfl) T.g_L_errors T.F_L_errors.kp T.b_L_errors .nil pass0 (pa_cons (pv 4) (pa_cons (pv 5) pa_nil)))) (pss_cons (ps_for PassesOwn.never rfl (pi_range1 (by rfl) T.range (pa_cons pe_int pa_nil)) (pg_name (i := 7) sc_law.nd rfl (Or.inr rfl)) (pss_cons (ps_setLc (i := 8) (own := [("_law_number", 9)]) (g := gName 9) (tt := tYes) rfl sc_law.nd rfl rfl (sw_true rfl rfl rfl (by decide +kernel)) (pi_range1 (by rfl) T.range (pa_cons pe_int pa_nil)) (blkOk_by (N := ["_law_script", "_law_box_here", "_law_k", "_law_menu", "_law_one", "_law_two", "_law_found", "_law_at", "_law_due", "_law_number"]) (sc := defScope s_law) (by decide +kernel)) (fun _ _ _ _ _ => pg_name (i := 9) sc_law.nd rfl (Or.inl rfl)) (fun _ _ _ _ _ => pts_nil) (fun _ _ _ _ _ => (pe_cmpR op_eq (pv 9) (pv 7) (nomark _)))) (pss_cons (ps_if (pt_not (pt_val (pe_call (ok_L_same T) (hr.mono (by decide)) (by rfl) T.g_L_same T.F_L_same.kp T.b_L_same .nil pass0 (pa_cons (pe_call (ok_L_classes T) (hr.mono (by decide)) (by rfl) T.g_L_classes T.F_L_classes.kp T.b_L_classes .nil pass0 (pa_cons (pe_ix (ix_aK (K := K) rfl) (pv 6) (pv 7) (fun _ _ => rfl)) pa_nil)) (pa_cons (pv 8) pa_nil))))) (pss_one (ps_ret pe_bl)) pss_nil) (pss_one (ps_if (PW.pt (pw_or (pt_not (pt_val (pe_callB (call_isXK (K := K) rfl) (by rfl) T.isinstance boot_isinstance (pa_cons (pe_ix (ix_aK (K := K) rfl) (pv 6) (pv 7) (fun _ _ => rfl)) (pa_cons (pe_globR (by rfl) T.g_ShownError) pa_nil))))) (pw_or1 (pt_not (pt_val (pe_callB (call_isXK (K := K) rfl) (by rfl) T.isinstance boot_isinstance (pa_cons (pe_ix (ix_aK (K := K) rfl) (pv 6) (pv 7) (fun _ _ => rfl)) (pa_cons (pe_bltn (v := .ty "ValueError") (by rfl) T.ValueError_ (by decide +kernel) rfl) pa_nil)))))))) (pss_one (ps_ret pe_bl)) pss_nil))))) (pss_one (ps_if (pt_not (pt_val (pe_call (ok_L_same T) (hr.mono (by decide)) (by rfl) T.g_L_same T.F_L_same.kp T.b_L_same .nil pass0 (pa_cons (pe_call (ok_L_held T) (hr.mono (by decide)) (by rfl) T.g_L_held T.F_L_held.kp T.b_L_held .nil pass0 (pa_cons (pv 6) pa_nil)) (pa_cons (pe_lst (pa_cons (pe_op op_rep (pe_lst (pa_cons (pv 4) pa_nil)) pe_int) (pa_cons (pe_lst (pa_cons (pv 5) (pa_cons (pv 5) pa_nil))) pa_nil))) pa_nil))))) (pss_one (ps_ret pe_bl)) pss_nil)))))))) (pss_one (ps_ret pe_bl)))), ?_⟩
    show tSeq _ _ _ [_, none, none, none, none, none, none, none, none, none] _
    walk_at "goxG"
    refine ⟨a, ns, rfl, hS, h63, fun H1 b c s1 nb nc hB => ?_⟩
    walk_at "goxG"
    refine ⟨4, rfl, by decide, by decide, for_range (lo := 0) (n := 4) (fun i σ H' => ∃ v2 v3 v4 v5 v6 v7 v8 v9, σ = [some (.ref a), some (.ref b), v2, v3, v4, v5, v6, v7, v8, v9] ∧ BoxAt H' b c) ⟨_, _, _, _, _, _, _, _, rfl, hB⟩ ?_ ?_⟩
    · rintro i σ H hi ⟨v2, v3, v4, v5, v6, v7, v8, v9, rfl, hB⟩
      walk_at "goxG"
      intro t1 n_t1; have z_t1 := L2.Same.free (H := H) (by walk_at "sm") n_t1; have m_t1 := n_t1
      walk_at "goxG"
      intro t2 n_t2; have z_t2 := L2.Same.free (H := H) (by walk_at "sm") n_t2; have m_t2 := n_t2
      walk_at "goxG"
      intro l1 n_l1; have z_l1 := L2.Same.free (H := H) (by walk_at "sm") n_l1; have m_l1 := n_l1
      walk_at "goxG"
      intro t3 n_t3; have z_t3 := L2.Same.free (H := H) (by walk_at "sm") n_t3; have m_t3 := n_t3
      walk_at "goxG"
      intro t4 n_t4; have z_t4 := L2.Same.free (H := H) (by walk_at "sm") n_t4; have m_t4 := n_t4
      walk_at "goxG"
      intro pm n_pm; have z_pm := L2.Same.free (H := H) (by walk_at "sm") n_pm; have m_pm := n_pm
      obtain ⟨xsb, hb⟩ := hB.lst
      have bl1 : b ≠ l1 := by walk_at "ne"
      have bpm : b ≠ pm := by walk_at "ne"
      generalize hG : upd _ pm _ = Hm
      have sHm : Same H Hm := by rw [← hG]; walk_at "sm"
      have eb := sHm _ _ hb
      have et1 : Hm t1 = some (.tup []) := by rw [← hG]; walk_at "lk"
      have et2 : Hm t2 = some (.tup [.str "a", .int 1]) := by rw [← hG]; walk_at "lk"
      have el1 : Hm l1 = some (.lst [.str "a"]) := by rw [← hG]; walk_at "lk"
      have et3 : Hm t3 = some (.tup [.str "b"]) := by rw [← hG]; walk_at "lk"
      have et4 : Hm t4 = some (.tup [.ref t3]) := by rw [← hG]; walk_at "lk"
      have epm : Hm pm = some (.lst [.str "near", .str "", .int 0, .int 7, .int (-1), .int (10 ^ Int.toNat 20), .bl true, .bl false, .non, .ref t1, .ref t2, .ref l1, .ref t4, .str "room"]) := by rw [← hG]; exact upd_same
      have hBm : BoxAt Hm b c := hB.mono sHm
      have k1 := hid_some et1 (ne_of et1 eb (by intro z; cases z))
      have k2 := hid_some et2 (ne_of et2 eb (by intro z; cases z))
      have k3 := hid_some el1 bl1.symm
      have k4 := hid_some et3 (ne_of et3 eb (by intro z; cases z))
      have k5 := hid_some et4 (ne_of et4 eb (by intro z; cases z))
      have nice : ∀ v ∈ ([.str "near", .str "", .int 0, .int 7, .int (-1), .int (10 ^ Int.toNat 20), .bl true, .bl false, .non, .ref t1, .ref t2, .ref l1, .ref t4, .str "room"] : List V), Nice K (hid Hm b) v := by
        intro v hv
        simp only [List.mem_cons, List.not_mem_nil, or_false] at hv
        rcases hv with rfl | rfl | rfl | rfl | rfl | rfl | rfl | rfl | rfl | rfl | rfl | rfl | rfl | rfl
        · exact ⟨_, .str _, Nat.zero_le _, rfl⟩
        · exact ⟨_, .str _, Nat.zero_le _, rfl⟩
        · exact ⟨_, .int _, Nat.zero_le _, rfl⟩
        · exact ⟨_, .int _, Nat.zero_le _, rfl⟩
        · exact ⟨_, .int _, Nat.zero_le _, rfl⟩
        · exact ⟨_, .int _, Nat.zero_le _, rfl⟩
        · exact ⟨_, .bl _, Nat.zero_le _, rfl⟩
        · exact ⟨_, .bl _, Nat.zero_le _, rfl⟩
        · exact ⟨_, .non, Nat.zero_le _, rfl⟩
        · exact ⟨.tuple [], .tup (.inl (.inl k1)) .nil, by decide, by decide⟩
        · exact ⟨.tuple [.str "a", .int 1], .tup (.inl (.inl k2)) (.cons (.str _) (.cons (.int _) .nil)), by decide, by decide⟩
        · exact ⟨.list [.str "a"], .lst (.inl (.inl k3)) (.cons (.str _) .nil), by decide, by decide⟩
        · exact ⟨.tuple [.tuple [.str "b"]], .tup (.inl (.inl k5)) (.cons (.tup (.inl (.inl k4)) (.cons (.str _) .nil)) .nil), by decide, by decide⟩
        · exact ⟨_, .str _, Nat.zero_le _, rfl⟩
      walk_at "goxG"
      -- one = menu[draw], two = menu[draw]
      refine ⟨b, c, 14, rfl, by decide, by decide, hBm, fun r1 H2 r10 r11 hx1 hB1 => ?_⟩
      have e2 := (hx1 pm bpm.symm).trans epm
      refine pick e2 r10 (by exact r11) (fun x hx => ?_)
      walk_at "goxG"
      refine ⟨b, c, 14, rfl, by decide, by decide, hB1, fun r2 H3 r20 r21 hx2 hB2 => ?_⟩
      have e3 := (hx2 pm bpm.symm).trans e2
      refine pick e3 r20 (by exact r21) (fun y hy => ?_)
      have s3 : Same (hid Hm b) H3 := hid_but (hid_but hid_same hx1) hx2
      have nx := (nice x hx).mono s3
      have ny := (nice y hy).mono s3
      walk_at "goxG"
      refine ⟨x, y, rfl, fun H4 p as s4 np hp hl hE => ?_⟩
      walk_at "goxG"
      refine ⟨20, rfl, by decide, by decide, for_range (lo := 0) (n := 20) (fun j σ H' => Same H4 H' ∧ ∃ v7 v8 v9, σ = [some (.ref a), some (.ref b), some (.int (0 + ↑i)), some (.ref pm), some x, some y, some (.ref p), v7, v8, v9]) ⟨Same.refl _, _, _, _, rfl⟩ ?_ ?_⟩
      · rintro j σ H hj ⟨sj, v7, v8, v9, rfl⟩
        have ha : as[j]? = some as[j] := List.getElem?_eq_getElem (by omega)
        obtain ⟨od, hX⟩ := ((hE j _ ha).mono sj).xat
        walk_at "goxG"
        refine ⟨20, rfl, by decide, by decide, fun D nD => lc_range (lo := 0) (n := 20) (fun k H' => Same H H' ∧ H' D = some (.lst ((List.range k).map fun n => V.bl (decide (n = j))))) ⟨same_new nD, upd_same⟩ ?_ ?_⟩
        · rintro k H' hk ⟨sm, hD⟩
          walk_at "goxG"
          refine ⟨_, hD, ?_, fun z o e => (upd_ne (ne_of_none e nD)).trans (sm _ _ e), ?_⟩
          · rw [List.length_map, List.length_range]
            exact small63 (by omega)
          · rw [upd_same, List.range_succ, List.map_append, dec_at]
            rfl
        · rintro H5 ⟨s5, hD⟩
          walk_at "goxG"
          refine r_ixa (.inl (.inl (.inl (s5 _ _ (sj _ _ hp))))) (by rw [Int.zero_add]; exact atI_nat (by rw [List.getElem?_map, ha]; rfl)) ?_
          walk_at "goxG"
          refine ⟨as[j], j, od, rfl, hX.mono s5, fun H6 p2 s6 np2 hp2 => ?_⟩
          walk_at "goxG"
          refine ⟨.ref p2, .ref D, bsD j, rfl, bs_dp hp2, bs_dp (s6 _ _ hD), bs_depth j, bs_sz j, fun H7 s7 => ?_⟩
          have s07 : Same H H7 := s5.trans (s6.trans s7)
          walk_at "goxG"
          refine r_ixa (.inl (.inl (.inl (s07 _ _ (sj _ _ hp))))) (by rw [Int.zero_add]; exact atI_nat (by rw [List.getElem?_map, ha]; rfl)) ?_
          walk_at "goxG"
          refine r_ixa (.inl (.inl (.inl (s07 _ _ (sj _ _ hp))))) (by rw [Int.zero_add]; exact atI_nat (by rw [List.getElem?_map, ha]; rfl)) ?_
          walk_at "goxG"
          exact ⟨sj.trans s07, _, _, _, rfl⟩
      · rintro σ H ⟨sj, v7, v8, v9, rfl⟩
        walk_at "goxG"
        refine ⟨p, as, x, y, rfl, sj _ _ hp, hl, hE.mono sj, fun H6 r q1 q2 s6 e1 e2 e3 => ?_⟩
        walk_at "goxG"
        intro p1 n1
        walk_at "goxG"
        refine ⟨p1, 15, [x], rfl, rfl, upd_same, by decide, by decide, (by show 1 * 15 ≤ sizeLine; decide), fun p2 n2 => ?_⟩
        walk_at "goxG"
        intro p3 n3
        walk_at "goxG"
        intro p4 n4
        have sd := (same_new (o := .lst [x]) n1).trans ((same_new (o := .lst (List.replicate (15 : Int).toNat [x]).flatten) n2).trans ((same_new (o := .lst [y, y]) n3).trans (same_new (o := .lst [.ref p2, .ref p3]) n4)))
        obtain ⟨dx, hdx, depx, szx⟩ := nx.mono (s4.trans (sj.trans (s6.trans sd)))
        obtain ⟨dy, hdy, depy, szy⟩ := ny.mono (s4.trans (sj.trans (s6.trans sd)))
        walk_at "goxG"
        refine ⟨.ref r, .ref p4, .list [.list (List.replicate 15 dx), .list [dy, dy]], rfl, ?_, ?_, ?_, ?_, fun H7 s7 => ?_⟩
        · exact .lst (.inl (.inl (sd _ _ e1))) (.cons (.lst (.inl (.inl (sd _ _ e2))) (dpAll_rep hdx 15)) (.cons (.lst (.inl (.inl (sd _ _ e3))) (.cons hdy (.cons hdy .nil))) .nil))
        · exact .lst (.inl (.inl upd_same)) (.cons (.lst (.inl (.inl (lk_ne (Wn.ne_ex ⟨_, lk_ne (Wn.ne_ex ⟨_, upd_same⟩ n3) upd_same⟩ n4) (lk_ne (Wn.ne_ex ⟨_, upd_same⟩ n3) upd_same)))) (dpAll_rep hdx 15)) (.cons (.lst (.inl (.inl (lk_ne (Wn.ne_ex ⟨_, upd_same⟩ n4) upd_same))) (.cons hdy (.cons hdy .nil))) .nil))
        · have dr := depth_rep depx 15
          show max (PyData.depthAll (List.replicate 15 dx) + 1) (max (max dy.depth (max dy.depth 0) + 1) 0) + 1 < 8
          omega
        · show (decide (2 ≤ 100000) && ((decide ((List.replicate 15 dx).length ≤ 100000) && dszAll (List.replicate 15 dx)) && ((decide (2 ≤ 100000) && (dsz dy && (dsz dy && true))) && true))) = true
          rw [dsz_rep szx, szy, List.length_replicate]
          decide
        walk_at "goxG"
        exact ⟨_, _, _, _, _, _, _, _, rfl, hB2.mono (s4.trans (sj.trans (s6.trans (sd.trans s7))))⟩
    · rintro σ H' ⟨v2, v3, v4, v5, v6, v7, v8, v9, rfl, hB⟩
      walk_at "goxG"
      exact q _
end
end Wn
namespace Wn
open PySem PySem.Spec PyProof.Rows L2
/-! ### the end: what the top has written -/
def kitAllB (K : PySem.W.Frag) (cs : List Addr) (CS : Addr) : Bool := (List.range 20).all fun j =>
  (List.range 20).all (fun i => PySem.W.kitOne K (.ref (cs.getD j 0)) (.ref (cs.getD i 0)) == some (decide (i = j))) &&
    (PySem.W.kitOne K (.ref (cs.getD j 0)) (.ref CS) == some true && PySem.W.kitOne K (.ref (cs.getD j 0)) (.type "ValueError") == some true)
theorem kitAll_ij {K : PySem.W.Frag} {cs : List Addr} {CS : Addr} (h : kitAllB K cs CS = true) (i j : Nat) (hi : i < 20) (hj : j < 20) : PySem.W.kitOne K (.ref (cs.getD j 0)) (.ref (cs.getD i 0)) = some (decide (i = j)) := by
  have h1 := (List.all_eq_true.mp h) j (List.mem_range.mpr hj)
  have h2 := (List.all_eq_true.mp (Bool.and_eq_true_iff.mp h1).1) i (List.mem_range.mpr hi)
  exact beq_iff_eq.mp h2
theorem kitAll_s {K : PySem.W.Frag} {cs : List Addr} {CS : Addr} (h : kitAllB K cs CS = true) (j : Nat) (hj : j < 20) : PySem.W.kitOne K (.ref (cs.getD j 0)) (.ref CS) = some true := by
  have h1 := (List.all_eq_true.mp h) j (List.mem_range.mpr hj)
  exact beq_iff_eq.mp (Bool.and_eq_true_iff.mp (Bool.and_eq_true_iff.mp h1).2).1
theorem kitAll_v {K : PySem.W.Frag} {cs : List Addr} {CS : Addr} (h : kitAllB K cs CS = true) (j : Nat) (hj : j < 20) : PySem.W.kitOne K (.ref (cs.getD j 0)) (.type "ValueError") = some true := by
  have h1 := (List.all_eq_true.mp h) j (List.mem_range.mpr hj)
  exact beq_iff_eq.mp (Bool.and_eq_true_iff.mp (Bool.and_eq_true_iff.mp h1).2).2
theorem xcls_mk {K : PySem.W.Frag} {C CS N : Addr} {nm q : Str} {bs sub : List Value} {sn : List Str} {ab : Bool} {col : Option Bool} {dd : Option Addr} {m0 m1 m2 m3 m5 : Option Value}
    (xL : K.lookup C = some (excClassObj nm q C N bs [.ref CS, .type "ValueError", .type "Exception", .type "BaseException", .type "object"] true sn sub ab col dd m0 m1 m2 m3 m5 "ValueError.__new__"))
    (sa : PySem.W.findIn K (.ref C) "__setattr__" = some (some (.builtin "object.__setattr__"))) (ex : PySem.W.subIn K (.ref C) (.type "BaseException") = some true) (ty : PySem.W.typeIn K (.ref C) = some (.type "type")) (kC : PySem.W.keepIn K (.ref C) = true)
    (ga : PySem.W.findIn K (.ref C) "__getattribute__" = some (some (.builtin "BaseException.__getattribute__"))) (gg : PySem.W.findIn K (.ref C) "__getattr__" = some none) (hd : PySem.W.hasDictIn K C = true)
    (ha : PySem.W.findIn K (.ref C) "__class__" = some (some (.builtin "object.__class__"))) (hn : PySem.W.specialIn K (.builtin "object.__class__") "__get__" = some (some (.builtin "getset_descriptor.__get__")))
    (ht : PySem.W.takesIn K (.builtin "object.__class__") = some true) (hm : PySem.W.mroIn K C (.type "object") = some true) : XCls K C :=
  ⟨⟨⟨nm, q, N, bs, _, sn, sub, ab, col, dd, m0, m1, m2, m3, m5, xL, rfl⟩, sa, ex, ty, kC⟩, ⟨ga, gg, ex, hd, ha, hn, ht, hm⟩⟩
theorem all_xs {K : PySem.W.Frag} {cs : List Addr} (h : ∀ c ∈ cs, ExcC K c) (n : Nat) (hn : cs.length = n) (j : Nat) (hj : j < n) : ExcC K (cs.getD j 0) := by
  have hl : j < cs.length := by omega
  have e : cs.getD j 0 = cs[j] := by simp [List.getD, hl]
  rw [e]
  exact h _ (List.getElem_mem hl)
theorem all_mk {l : PySem.W.OpenLaw} {w : World} {K : PySem.W.Frag} {h : Heap} {mg : Str → Option Value} {fa : Addr} {CS f0 f1 f2 f3 f4 f5 f6 f7 C0 N0 g0 C1 N1 g1 C2 N2 g2 C3 N3 g3 C4 N4 g4 C5 N5 g5 C6 N6 C7 N7 C8 N8 g8 C9 N9 g9 C10 N10 g10 C11 N11 g11 C12 N12 g12 C13 N13 C14 N14 g14 C15 N15 C16 N16 C17 N17 g17 C18 N18 g18 C19 N19 g19 : Addr}
    {od0 an0 od1 an1 od2 an2 od3 an3 od4 an4 od5 an5 od6 an6 od7 an7 gd0 gn0 gd1 gn1 gd2 gn2 gd3 gn3 gd4 gn4 gd5 gn5 gd8 gn8 gd9 gn9 gd10 gn10 gd11 gn11 gd12 gn12 gd14 gn14 gd17 gn17 gd18 gn18 gd19 gn19 : Option Addr} {sl0 sl1 sl2 sl3 sl4 sl5 sl6 sl7 gs0 gs1 gs2 gs3 gs4 gs5 gs8 gs9 gs10 gs11 gs12 gs14 gs17 gs18 gs19 : Array (Option Value)} {oc0 kV0 dc0 pm0 cd0 ct0 oc1 kV1 dc1 pm1 cd1 ct1 oc2 kV2 dc2 pm2 cd2 ct2 oc3 kV3 dc3 pm3 cd3 ct3 oc4 kV4 dc4 pm4 cd4 ct4 oc5 kV5 dc5 pm5 cd5 ct5 oc6 kV6 dc6 pm6 cd6 ct6 oc7 kV7 dc7 pm7 cd7 ct7 go0 gk0 gc0 gp0 ge0 gt0 go1 gk1 gc1 gp1 ge1 gt1 go2 gk2 gc2 gp2 ge2 gt2 go3 gk3 gc3 gp3 ge3 gt3 go4 gk4 gc4 gp4 ge4 gt4 go5 gk5 gc5 gp5 ge5 gt5 go8 gk8 gc8 gp8 ge8 gt8 go9 gk9 gc9 gp9 ge9 gt9 go10 gk10 gc10 gp10 ge10 gt10 go11 gk11 gc11 gp11 ge11 gt11 go12 gk12 gc12 gp12 ge12 gt12 go14 gk14 gc14 gp14 ge14 gt14 go17 gk17 gc17 gp17 ge17 gt17 go18 gk18 gc18 gp18 ge18 gt18 go19 gk19 gc19 gp19 ge19 gt19 : Value}
    {nm0 q0 nm1 q1 nm2 q2 nm3 q3 nm4 q4 nm5 q5 nm6 q6 nm7 q7 nm8 q8 nm9 q9 nm10 q10 nm11 q11 nm12 q12 nm13 q13 nm14 q14 nm15 q15 nm16 q16 nm17 q17 nm18 q18 nm19 q19 : Str} {bs0 sub0 bs1 sub1 bs2 sub2 bs3 sub3 bs4 sub4 bs5 sub5 bs6 sub6 bs7 sub7 bs8 sub8 bs9 sub9 bs10 sub10 bs11 sub11 bs12 sub12 bs13 sub13 bs14 sub14 bs15 sub15 bs16 sub16 bs17 sub17 bs18 sub18 bs19 sub19 : List Value} {sn0 sn1 sn2 sn3 sn4 sn5 sn6 sn7 sn8 sn9 sn10 sn11 sn12 sn13 sn14 sn15 sn16 sn17 sn18 sn19 : List Str} {ab0 ab1 ab2 ab3 ab4 ab5 ab6 ab7 ab8 ab9 ab10 ab11 ab12 ab13 ab14 ab15 ab16 ab17 ab18 ab19 : Bool} {col0 col1 col2 col3 col4 col5 col6 col7 col8 col9 col10 col11 col12 col13 col14 col15 col16 col17 col18 col19 : Option Bool} {dd0 dd1 dd2 dd3 dd4 dd5 dd6 dd7 dd8 dd9 dd10 dd11 dd12 dd13 dd14 dd15 dd16 dd17 dd18 dd19 : Option Addr} {m00 m10 m20 m30 m50 m01 m11 m21 m31 m51 m02 m12 m22 m32 m52 m03 m13 m23 m33 m53 m04 m14 m24 m34 m54 m05 m15 m25 m35 m55 m06 m16 m26 m36 m56 m07 m17 m27 m37 m57 m08 m18 m28 m38 m58 m09 m19 m29 m39 m59 m010 m110 m210 m310 m510 m011 m111 m211 m311 m511 m012 m112 m212 m312 m512 m013 m113 m213 m313 m513 m014 m114 m214 m314 m514 m015 m115 m215 m315 m515 m016 m116 m216 m316 m516 m017 m117 m217 m317 m517 m018 m118 m218 m318 m518 m019 m119 m219 m319 m519 : Option Value}
    (X : K.In h) (G : h.Ns mainGlobals mg) (hfa : mg "law" = some (.ref fa))
    (aS : PySem.W.nsIn K mainGlobals "ShownError" = some (some (.ref CS)))
    (a0 : PySem.W.nsIn K mainGlobals "_law_mix" = some (some (.ref f0)))
    (l0 : K.lookup f0 = some ⟨oc0, od0, .func (PySem.W.fnOf "_law_mix" "_law_mix" (defArgs sMix) (defBody sMix) (defScope sMix) .none kV0 dc0 pm0 an0 cd0 ct0), sl0⟩)
    (c0 : PySem.W.codeIn K cd0 "_law_mix" = true)
    (k0 : PySem.W.keepIn K (.ref f0) = true)
    (a1 : PySem.W.nsIn K mainGlobals "_law_box" = some (some (.ref f1)))
    (l1 : K.lookup f1 = some ⟨oc1, od1, .func (PySem.W.fnOf "_law_box" "_law_box" (defArgs sBox) (defBody sBox) (defScope sBox) .none kV1 dc1 pm1 an1 cd1 ct1), sl1⟩)
    (c1 : PySem.W.codeIn K cd1 "_law_box" = true)
    (k1 : PySem.W.keepIn K (.ref f1) = true)
    (a2 : PySem.W.nsIn K mainGlobals "_law_draw" = some (some (.ref f2)))
    (l2 : K.lookup f2 = some ⟨oc2, od2, .func (PySem.W.fnOf "_law_draw" "_law_draw" (defArgs sDraw) (defBody sDraw) (defScope sDraw) .none kV2 dc2 pm2 an2 cd2 ct2), sl2⟩)
    (c2 : PySem.W.codeIn K cd2 "_law_draw" = true)
    (k2 : PySem.W.keepIn K (.ref f2) = true)
    (a3 : PySem.W.nsIn K mainGlobals "_law_same" = some (some (.ref f3)))
    (l3 : K.lookup f3 = some ⟨oc3, od3, .func (PySem.W.fnOf "_law_same" "_law_same" (defArgs sSame) (defBody sSame) (defScope sSame) .none kV3 dc3 pm3 an3 cd3 ct3), sl3⟩)
    (c3 : PySem.W.codeIn K cd3 "_law_same" = true)
    (k3 : PySem.W.keepIn K (.ref f3) = true)
    (a4 : PySem.W.nsIn K mainGlobals "_law_classes" = some (some (.ref f4)))
    (l4 : K.lookup f4 = some ⟨oc4, od4, .func (PySem.W.fnOf "_law_classes" "_law_classes" (defArgs s_L_classes) (defBody s_L_classes) (defScope s_L_classes) .none kV4 dc4 pm4 an4 cd4 ct4), sl4⟩)
    (c4 : PySem.W.codeIn K cd4 "_law_classes" = true)
    (k4 : PySem.W.keepIn K (.ref f4) = true)
    (a5 : PySem.W.nsIn K mainGlobals "_law_errors" = some (some (.ref f5)))
    (l5 : K.lookup f5 = some ⟨oc5, od5, .func (PySem.W.fnOf "_law_errors" "_law_errors" (defArgs s_L_errors) (defBody s_L_errors) (defScope s_L_errors) .none kV5 dc5 pm5 an5 cd5 ct5), sl5⟩)
    (c5 : PySem.W.codeIn K cd5 "_law_errors" = true)
    (k5 : PySem.W.keepIn K (.ref f5) = true)
    (a6 : PySem.W.nsIn K mainGlobals "_law_held" = some (some (.ref f6)))
    (l6 : K.lookup f6 = some ⟨oc6, od6, .func (PySem.W.fnOf "_law_held" "_law_held" (defArgs s_L_held) (defBody s_L_held) (defScope s_L_held) .none kV6 dc6 pm6 an6 cd6 ct6), sl6⟩)
    (c6 : PySem.W.codeIn K cd6 "_law_held" = true)
    (k6 : PySem.W.keepIn K (.ref f6) = true)
    (a7 : PySem.W.nsIn K mainGlobals "law" = some (some (.ref f7)))
    (l7 : K.lookup f7 = some ⟨oc7, od7, .func (PySem.W.fnOf "law" "law" (defArgs s_law) (defBody s_law) (defScope s_law) .none kV7 dc7 pm7 an7 cd7 ct7), sl7⟩)
    (c7 : PySem.W.codeIn K cd7 "law" = true)
    (k7 : PySem.W.keepIn K (.ref f7) = true)
    (hn : PySem.W.specialIn K (.builtin "object.__class__") "__get__" = some (some (.builtin "getset_descriptor.__get__")))
    (ht : PySem.W.takesIn K (.builtin "object.__class__") = some true)
    (aC0 : PySem.W.nsIn K mainGlobals "InvalidBound" = some (some (.ref C0)))
    (xL0 : K.lookup C0 = some (excClassObj nm0 q0 C0 N0 bs0 [.ref CS, .type "ValueError", .type "Exception", .type "BaseException", .type "object"] true sn0 sub0 ab0 col0 dd0 m00 m10 m20 m30 m50 "ValueError.__new__"))
    (sa0 : PySem.W.findIn K (.ref C0) "__setattr__" = some (some (.builtin "object.__setattr__")))
    (ex0 : PySem.W.subIn K (.ref C0) (.type "BaseException") = some true)
    (ty0 : PySem.W.typeIn K (.ref C0) = some (.type "type"))
    (kC0 : PySem.W.keepIn K (.ref C0) = true)
    (ga0 : PySem.W.findIn K (.ref C0) "__getattribute__" = some (some (.builtin "BaseException.__getattribute__")))
    (gg0 : PySem.W.findIn K (.ref C0) "__getattr__" = some none)
    (hd0 : PySem.W.hasDictIn K C0 = true)
    (ha0 : PySem.W.findIn K (.ref C0) "__class__" = some (some (.builtin "object.__class__")))
    (hm0 : PySem.W.mroIn K C0 (.type "object") = some true)
    (ia0 : PySem.W.findIn K (.ref C0) "__init__" = some (some (.ref g0)))
    (it0 : PySem.W.typeIn K (.ref g0) = some (.type "function"))
    (il0 : K.lookup g0 = some ⟨go0, gd0, .func (PySem.W.fnOf "__init__" "InvalidBound.__init__" (defArgs s_InvalidBound) (defBody s_InvalidBound) (defScope s_InvalidBound) .none gk0 gc0 gp0 gn0 ge0 gt0), gs0⟩)
    (ic0 : PySem.W.codeIn K ge0 "InvalidBound.__init__" = true)
    (ik0 : PySem.W.keepIn K (.ref g0) = true)
    (nf0a : PySem.W.findIn K (.ref C0) "value" = some none)
    (aC1 : PySem.W.nsIn K mainGlobals "InvalidChange" = some (some (.ref C1)))
    (xL1 : K.lookup C1 = some (excClassObj nm1 q1 C1 N1 bs1 [.ref CS, .type "ValueError", .type "Exception", .type "BaseException", .type "object"] true sn1 sub1 ab1 col1 dd1 m01 m11 m21 m31 m51 "ValueError.__new__"))
    (sa1 : PySem.W.findIn K (.ref C1) "__setattr__" = some (some (.builtin "object.__setattr__")))
    (ex1 : PySem.W.subIn K (.ref C1) (.type "BaseException") = some true)
    (ty1 : PySem.W.typeIn K (.ref C1) = some (.type "type"))
    (kC1 : PySem.W.keepIn K (.ref C1) = true)
    (ga1 : PySem.W.findIn K (.ref C1) "__getattribute__" = some (some (.builtin "BaseException.__getattribute__")))
    (gg1 : PySem.W.findIn K (.ref C1) "__getattr__" = some none)
    (hd1 : PySem.W.hasDictIn K C1 = true)
    (ha1 : PySem.W.findIn K (.ref C1) "__class__" = some (some (.builtin "object.__class__")))
    (hm1 : PySem.W.mroIn K C1 (.type "object") = some true)
    (ia1 : PySem.W.findIn K (.ref C1) "__init__" = some (some (.ref g1)))
    (it1 : PySem.W.typeIn K (.ref g1) = some (.type "function"))
    (il1 : K.lookup g1 = some ⟨go1, gd1, .func (PySem.W.fnOf "__init__" "InvalidChange.__init__" (defArgs s_InvalidChange) (defBody s_InvalidChange) (defScope s_InvalidChange) .none gk1 gc1 gp1 gn1 ge1 gt1), gs1⟩)
    (ic1 : PySem.W.codeIn K ge1 "InvalidChange.__init__" = true)
    (ik1 : PySem.W.keepIn K (.ref g1) = true)
    (nf1a : PySem.W.findIn K (.ref C1) "index" = some none)
    (aC2 : PySem.W.nsIn K mainGlobals "InvalidDeed" = some (some (.ref C2)))
    (xL2 : K.lookup C2 = some (excClassObj nm2 q2 C2 N2 bs2 [.ref CS, .type "ValueError", .type "Exception", .type "BaseException", .type "object"] true sn2 sub2 ab2 col2 dd2 m02 m12 m22 m32 m52 "ValueError.__new__"))
    (sa2 : PySem.W.findIn K (.ref C2) "__setattr__" = some (some (.builtin "object.__setattr__")))
    (ex2 : PySem.W.subIn K (.ref C2) (.type "BaseException") = some true)
    (ty2 : PySem.W.typeIn K (.ref C2) = some (.type "type"))
    (kC2 : PySem.W.keepIn K (.ref C2) = true)
    (ga2 : PySem.W.findIn K (.ref C2) "__getattribute__" = some (some (.builtin "BaseException.__getattribute__")))
    (gg2 : PySem.W.findIn K (.ref C2) "__getattr__" = some none)
    (hd2 : PySem.W.hasDictIn K C2 = true)
    (ha2 : PySem.W.findIn K (.ref C2) "__class__" = some (some (.builtin "object.__class__")))
    (hm2 : PySem.W.mroIn K C2 (.type "object") = some true)
    (ia2 : PySem.W.findIn K (.ref C2) "__init__" = some (some (.ref g2)))
    (it2 : PySem.W.typeIn K (.ref g2) = some (.type "function"))
    (il2 : K.lookup g2 = some ⟨go2, gd2, .func (PySem.W.fnOf "__init__" "InvalidDeed.__init__" (defArgs s_InvalidDeed) (defBody s_InvalidDeed) (defScope s_InvalidDeed) .none gk2 gc2 gp2 gn2 ge2 gt2), gs2⟩)
    (ic2 : PySem.W.codeIn K ge2 "InvalidDeed.__init__" = true)
    (ik2 : PySem.W.keepIn K (.ref g2) = true)
    (nf2a : PySem.W.findIn K (.ref C2) "deed" = some none)
    (aC3 : PySem.W.nsIn K mainGlobals "InvalidForm" = some (some (.ref C3)))
    (xL3 : K.lookup C3 = some (excClassObj nm3 q3 C3 N3 bs3 [.ref CS, .type "ValueError", .type "Exception", .type "BaseException", .type "object"] true sn3 sub3 ab3 col3 dd3 m03 m13 m23 m33 m53 "ValueError.__new__"))
    (sa3 : PySem.W.findIn K (.ref C3) "__setattr__" = some (some (.builtin "object.__setattr__")))
    (ex3 : PySem.W.subIn K (.ref C3) (.type "BaseException") = some true)
    (ty3 : PySem.W.typeIn K (.ref C3) = some (.type "type"))
    (kC3 : PySem.W.keepIn K (.ref C3) = true)
    (ga3 : PySem.W.findIn K (.ref C3) "__getattribute__" = some (some (.builtin "BaseException.__getattribute__")))
    (gg3 : PySem.W.findIn K (.ref C3) "__getattr__" = some none)
    (hd3 : PySem.W.hasDictIn K C3 = true)
    (ha3 : PySem.W.findIn K (.ref C3) "__class__" = some (some (.builtin "object.__class__")))
    (hm3 : PySem.W.mroIn K C3 (.type "object") = some true)
    (ia3 : PySem.W.findIn K (.ref C3) "__init__" = some (some (.ref g3)))
    (it3 : PySem.W.typeIn K (.ref g3) = some (.type "function"))
    (il3 : K.lookup g3 = some ⟨go3, gd3, .func (PySem.W.fnOf "__init__" "InvalidForm.__init__" (defArgs s_InvalidForm) (defBody s_InvalidForm) (defScope s_InvalidForm) .none gk3 gc3 gp3 gn3 ge3 gt3), gs3⟩)
    (ic3 : PySem.W.codeIn K ge3 "InvalidForm.__init__" = true)
    (ik3 : PySem.W.keepIn K (.ref g3) = true)
    (nf3a : PySem.W.findIn K (.ref C3) "part" = some none)
    (nf3b : PySem.W.findIn K (.ref C3) "field" = some none)
    (aC4 : PySem.W.nsIn K mainGlobals "InvalidKind" = some (some (.ref C4)))
    (xL4 : K.lookup C4 = some (excClassObj nm4 q4 C4 N4 bs4 [.ref CS, .type "ValueError", .type "Exception", .type "BaseException", .type "object"] true sn4 sub4 ab4 col4 dd4 m04 m14 m24 m34 m54 "ValueError.__new__"))
    (sa4 : PySem.W.findIn K (.ref C4) "__setattr__" = some (some (.builtin "object.__setattr__")))
    (ex4 : PySem.W.subIn K (.ref C4) (.type "BaseException") = some true)
    (ty4 : PySem.W.typeIn K (.ref C4) = some (.type "type"))
    (kC4 : PySem.W.keepIn K (.ref C4) = true)
    (ga4 : PySem.W.findIn K (.ref C4) "__getattribute__" = some (some (.builtin "BaseException.__getattribute__")))
    (gg4 : PySem.W.findIn K (.ref C4) "__getattr__" = some none)
    (hd4 : PySem.W.hasDictIn K C4 = true)
    (ha4 : PySem.W.findIn K (.ref C4) "__class__" = some (some (.builtin "object.__class__")))
    (hm4 : PySem.W.mroIn K C4 (.type "object") = some true)
    (ia4 : PySem.W.findIn K (.ref C4) "__init__" = some (some (.ref g4)))
    (it4 : PySem.W.typeIn K (.ref g4) = some (.type "function"))
    (il4 : K.lookup g4 = some ⟨go4, gd4, .func (PySem.W.fnOf "__init__" "InvalidKind.__init__" (defArgs s_InvalidKind) (defBody s_InvalidKind) (defScope s_InvalidKind) .none gk4 gc4 gp4 gn4 ge4 gt4), gs4⟩)
    (ic4 : PySem.W.codeIn K ge4 "InvalidKind.__init__" = true)
    (ik4 : PySem.W.keepIn K (.ref g4) = true)
    (nf4a : PySem.W.findIn K (.ref C4) "kind" = some none)
    (aC5 : PySem.W.nsIn K mainGlobals "InvalidRule" = some (some (.ref C5)))
    (xL5 : K.lookup C5 = some (excClassObj nm5 q5 C5 N5 bs5 [.ref CS, .type "ValueError", .type "Exception", .type "BaseException", .type "object"] true sn5 sub5 ab5 col5 dd5 m05 m15 m25 m35 m55 "ValueError.__new__"))
    (sa5 : PySem.W.findIn K (.ref C5) "__setattr__" = some (some (.builtin "object.__setattr__")))
    (ex5 : PySem.W.subIn K (.ref C5) (.type "BaseException") = some true)
    (ty5 : PySem.W.typeIn K (.ref C5) = some (.type "type"))
    (kC5 : PySem.W.keepIn K (.ref C5) = true)
    (ga5 : PySem.W.findIn K (.ref C5) "__getattribute__" = some (some (.builtin "BaseException.__getattribute__")))
    (gg5 : PySem.W.findIn K (.ref C5) "__getattr__" = some none)
    (hd5 : PySem.W.hasDictIn K C5 = true)
    (ha5 : PySem.W.findIn K (.ref C5) "__class__" = some (some (.builtin "object.__class__")))
    (hm5 : PySem.W.mroIn K C5 (.type "object") = some true)
    (ia5 : PySem.W.findIn K (.ref C5) "__init__" = some (some (.ref g5)))
    (it5 : PySem.W.typeIn K (.ref g5) = some (.type "function"))
    (il5 : K.lookup g5 = some ⟨go5, gd5, .func (PySem.W.fnOf "__init__" "InvalidRule.__init__" (defArgs s_InvalidRule) (defBody s_InvalidRule) (defScope s_InvalidRule) .none gk5 gc5 gp5 gn5 ge5 gt5), gs5⟩)
    (ic5 : PySem.W.codeIn K ge5 "InvalidRule.__init__" = true)
    (ik5 : PySem.W.keepIn K (.ref g5) = true)
    (nf5a : PySem.W.findIn K (.ref C5) "part" = some none)
    (aC6 : PySem.W.nsIn K mainGlobals "InvalidRules" = some (some (.ref C6)))
    (xL6 : K.lookup C6 = some (excClassObj nm6 q6 C6 N6 bs6 [.ref CS, .type "ValueError", .type "Exception", .type "BaseException", .type "object"] true sn6 sub6 ab6 col6 dd6 m06 m16 m26 m36 m56 "ValueError.__new__"))
    (sa6 : PySem.W.findIn K (.ref C6) "__setattr__" = some (some (.builtin "object.__setattr__")))
    (ex6 : PySem.W.subIn K (.ref C6) (.type "BaseException") = some true)
    (ty6 : PySem.W.typeIn K (.ref C6) = some (.type "type"))
    (kC6 : PySem.W.keepIn K (.ref C6) = true)
    (ga6 : PySem.W.findIn K (.ref C6) "__getattribute__" = some (some (.builtin "BaseException.__getattribute__")))
    (gg6 : PySem.W.findIn K (.ref C6) "__getattr__" = some none)
    (hd6 : PySem.W.hasDictIn K C6 = true)
    (ha6 : PySem.W.findIn K (.ref C6) "__class__" = some (some (.builtin "object.__class__")))
    (hm6 : PySem.W.mroIn K C6 (.type "object") = some true)
    (ei6 : PySem.W.excIn K C6 [.type "ValueError", .type "Exception", .type "BaseException", .type "object"] "ValueError.__new__" = true)
    (aC7 : PySem.W.nsIn K mainGlobals "InvalidStanding" = some (some (.ref C7)))
    (xL7 : K.lookup C7 = some (excClassObj nm7 q7 C7 N7 bs7 [.ref CS, .type "ValueError", .type "Exception", .type "BaseException", .type "object"] true sn7 sub7 ab7 col7 dd7 m07 m17 m27 m37 m57 "ValueError.__new__"))
    (sa7 : PySem.W.findIn K (.ref C7) "__setattr__" = some (some (.builtin "object.__setattr__")))
    (ex7 : PySem.W.subIn K (.ref C7) (.type "BaseException") = some true)
    (ty7 : PySem.W.typeIn K (.ref C7) = some (.type "type"))
    (kC7 : PySem.W.keepIn K (.ref C7) = true)
    (ga7 : PySem.W.findIn K (.ref C7) "__getattribute__" = some (some (.builtin "BaseException.__getattribute__")))
    (gg7 : PySem.W.findIn K (.ref C7) "__getattr__" = some none)
    (hd7 : PySem.W.hasDictIn K C7 = true)
    (ha7 : PySem.W.findIn K (.ref C7) "__class__" = some (some (.builtin "object.__class__")))
    (hm7 : PySem.W.mroIn K C7 (.type "object") = some true)
    (ei7 : PySem.W.excIn K C7 [.type "ValueError", .type "Exception", .type "BaseException", .type "object"] "ValueError.__new__" = true)
    (aC8 : PySem.W.nsIn K mainGlobals "InvalidTable" = some (some (.ref C8)))
    (xL8 : K.lookup C8 = some (excClassObj nm8 q8 C8 N8 bs8 [.ref CS, .type "ValueError", .type "Exception", .type "BaseException", .type "object"] true sn8 sub8 ab8 col8 dd8 m08 m18 m28 m38 m58 "ValueError.__new__"))
    (sa8 : PySem.W.findIn K (.ref C8) "__setattr__" = some (some (.builtin "object.__setattr__")))
    (ex8 : PySem.W.subIn K (.ref C8) (.type "BaseException") = some true)
    (ty8 : PySem.W.typeIn K (.ref C8) = some (.type "type"))
    (kC8 : PySem.W.keepIn K (.ref C8) = true)
    (ga8 : PySem.W.findIn K (.ref C8) "__getattribute__" = some (some (.builtin "BaseException.__getattribute__")))
    (gg8 : PySem.W.findIn K (.ref C8) "__getattr__" = some none)
    (hd8 : PySem.W.hasDictIn K C8 = true)
    (ha8 : PySem.W.findIn K (.ref C8) "__class__" = some (some (.builtin "object.__class__")))
    (hm8 : PySem.W.mroIn K C8 (.type "object") = some true)
    (ia8 : PySem.W.findIn K (.ref C8) "__init__" = some (some (.ref g8)))
    (it8 : PySem.W.typeIn K (.ref g8) = some (.type "function"))
    (il8 : K.lookup g8 = some ⟨go8, gd8, .func (PySem.W.fnOf "__init__" "InvalidTable.__init__" (defArgs s_InvalidTable) (defBody s_InvalidTable) (defScope s_InvalidTable) .none gk8 gc8 gp8 gn8 ge8 gt8), gs8⟩)
    (ic8 : PySem.W.codeIn K ge8 "InvalidTable.__init__" = true)
    (ik8 : PySem.W.keepIn K (.ref g8) = true)
    (nf8a : PySem.W.findIn K (.ref C8) "kind" = some none)
    (aC9 : PySem.W.nsIn K mainGlobals "InvalidText" = some (some (.ref C9)))
    (xL9 : K.lookup C9 = some (excClassObj nm9 q9 C9 N9 bs9 [.ref CS, .type "ValueError", .type "Exception", .type "BaseException", .type "object"] true sn9 sub9 ab9 col9 dd9 m09 m19 m29 m39 m59 "ValueError.__new__"))
    (sa9 : PySem.W.findIn K (.ref C9) "__setattr__" = some (some (.builtin "object.__setattr__")))
    (ex9 : PySem.W.subIn K (.ref C9) (.type "BaseException") = some true)
    (ty9 : PySem.W.typeIn K (.ref C9) = some (.type "type"))
    (kC9 : PySem.W.keepIn K (.ref C9) = true)
    (ga9 : PySem.W.findIn K (.ref C9) "__getattribute__" = some (some (.builtin "BaseException.__getattribute__")))
    (gg9 : PySem.W.findIn K (.ref C9) "__getattr__" = some none)
    (hd9 : PySem.W.hasDictIn K C9 = true)
    (ha9 : PySem.W.findIn K (.ref C9) "__class__" = some (some (.builtin "object.__class__")))
    (hm9 : PySem.W.mroIn K C9 (.type "object") = some true)
    (ia9 : PySem.W.findIn K (.ref C9) "__init__" = some (some (.ref g9)))
    (it9 : PySem.W.typeIn K (.ref g9) = some (.type "function"))
    (il9 : K.lookup g9 = some ⟨go9, gd9, .func (PySem.W.fnOf "__init__" "InvalidText.__init__" (defArgs s_InvalidText) (defBody s_InvalidText) (defScope s_InvalidText) .none gk9 gc9 gp9 gn9 ge9 gt9), gs9⟩)
    (ic9 : PySem.W.codeIn K ge9 "InvalidText.__init__" = true)
    (ik9 : PySem.W.keepIn K (.ref g9) = true)
    (nf9a : PySem.W.findIn K (.ref C9) "line" = some none)
    (aC10 : PySem.W.nsIn K mainGlobals "InvalidWords" = some (some (.ref C10)))
    (xL10 : K.lookup C10 = some (excClassObj nm10 q10 C10 N10 bs10 [.ref CS, .type "ValueError", .type "Exception", .type "BaseException", .type "object"] true sn10 sub10 ab10 col10 dd10 m010 m110 m210 m310 m510 "ValueError.__new__"))
    (sa10 : PySem.W.findIn K (.ref C10) "__setattr__" = some (some (.builtin "object.__setattr__")))
    (ex10 : PySem.W.subIn K (.ref C10) (.type "BaseException") = some true)
    (ty10 : PySem.W.typeIn K (.ref C10) = some (.type "type"))
    (kC10 : PySem.W.keepIn K (.ref C10) = true)
    (ga10 : PySem.W.findIn K (.ref C10) "__getattribute__" = some (some (.builtin "BaseException.__getattribute__")))
    (gg10 : PySem.W.findIn K (.ref C10) "__getattr__" = some none)
    (hd10 : PySem.W.hasDictIn K C10 = true)
    (ha10 : PySem.W.findIn K (.ref C10) "__class__" = some (some (.builtin "object.__class__")))
    (hm10 : PySem.W.mroIn K C10 (.type "object") = some true)
    (ia10 : PySem.W.findIn K (.ref C10) "__init__" = some (some (.ref g10)))
    (it10 : PySem.W.typeIn K (.ref g10) = some (.type "function"))
    (il10 : K.lookup g10 = some ⟨go10, gd10, .func (PySem.W.fnOf "__init__" "InvalidWords.__init__" (defArgs s_InvalidWords) (defBody s_InvalidWords) (defScope s_InvalidWords) .none gk10 gc10 gp10 gn10 ge10 gt10), gs10⟩)
    (ic10 : PySem.W.codeIn K ge10 "InvalidWords.__init__" = true)
    (ik10 : PySem.W.keepIn K (.ref g10) = true)
    (nf10a : PySem.W.findIn K (.ref C10) "words" = some none)
    (aC11 : PySem.W.nsIn K mainGlobals "LimitExceeded" = some (some (.ref C11)))
    (xL11 : K.lookup C11 = some (excClassObj nm11 q11 C11 N11 bs11 [.ref CS, .type "ValueError", .type "Exception", .type "BaseException", .type "object"] true sn11 sub11 ab11 col11 dd11 m011 m111 m211 m311 m511 "ValueError.__new__"))
    (sa11 : PySem.W.findIn K (.ref C11) "__setattr__" = some (some (.builtin "object.__setattr__")))
    (ex11 : PySem.W.subIn K (.ref C11) (.type "BaseException") = some true)
    (ty11 : PySem.W.typeIn K (.ref C11) = some (.type "type"))
    (kC11 : PySem.W.keepIn K (.ref C11) = true)
    (ga11 : PySem.W.findIn K (.ref C11) "__getattribute__" = some (some (.builtin "BaseException.__getattribute__")))
    (gg11 : PySem.W.findIn K (.ref C11) "__getattr__" = some none)
    (hd11 : PySem.W.hasDictIn K C11 = true)
    (ha11 : PySem.W.findIn K (.ref C11) "__class__" = some (some (.builtin "object.__class__")))
    (hm11 : PySem.W.mroIn K C11 (.type "object") = some true)
    (ia11 : PySem.W.findIn K (.ref C11) "__init__" = some (some (.ref g11)))
    (it11 : PySem.W.typeIn K (.ref g11) = some (.type "function"))
    (il11 : K.lookup g11 = some ⟨go11, gd11, .func (PySem.W.fnOf "__init__" "LimitExceeded.__init__" (defArgs s_LimitExceeded) (defBody s_LimitExceeded) (defScope s_LimitExceeded) .none gk11 gc11 gp11 gn11 ge11 gt11), gs11⟩)
    (ic11 : PySem.W.codeIn K ge11 "LimitExceeded.__init__" = true)
    (ik11 : PySem.W.keepIn K (.ref g11) = true)
    (nf11a : PySem.W.findIn K (.ref C11) "limit" = some none)
    (aC12 : PySem.W.nsIn K mainGlobals "NoFault" = some (some (.ref C12)))
    (xL12 : K.lookup C12 = some (excClassObj nm12 q12 C12 N12 bs12 [.ref CS, .type "ValueError", .type "Exception", .type "BaseException", .type "object"] true sn12 sub12 ab12 col12 dd12 m012 m112 m212 m312 m512 "ValueError.__new__"))
    (sa12 : PySem.W.findIn K (.ref C12) "__setattr__" = some (some (.builtin "object.__setattr__")))
    (ex12 : PySem.W.subIn K (.ref C12) (.type "BaseException") = some true)
    (ty12 : PySem.W.typeIn K (.ref C12) = some (.type "type"))
    (kC12 : PySem.W.keepIn K (.ref C12) = true)
    (ga12 : PySem.W.findIn K (.ref C12) "__getattribute__" = some (some (.builtin "BaseException.__getattribute__")))
    (gg12 : PySem.W.findIn K (.ref C12) "__getattr__" = some none)
    (hd12 : PySem.W.hasDictIn K C12 = true)
    (ha12 : PySem.W.findIn K (.ref C12) "__class__" = some (some (.builtin "object.__class__")))
    (hm12 : PySem.W.mroIn K C12 (.type "object") = some true)
    (ia12 : PySem.W.findIn K (.ref C12) "__init__" = some (some (.ref g12)))
    (it12 : PySem.W.typeIn K (.ref g12) = some (.type "function"))
    (il12 : K.lookup g12 = some ⟨go12, gd12, .func (PySem.W.fnOf "__init__" "NoFault.__init__" (defArgs s_NoFault) (defBody s_NoFault) (defScope s_NoFault) .none gk12 gc12 gp12 gn12 ge12 gt12), gs12⟩)
    (ic12 : PySem.W.codeIn K ge12 "NoFault.__init__" = true)
    (ik12 : PySem.W.keepIn K (.ref g12) = true)
    (nf12a : PySem.W.findIn K (.ref C12) "kind" = some none)
    (nf12b : PySem.W.findIn K (.ref C12) "field" = some none)
    (aC13 : PySem.W.nsIn K mainGlobals "NoStanding" = some (some (.ref C13)))
    (xL13 : K.lookup C13 = some (excClassObj nm13 q13 C13 N13 bs13 [.ref CS, .type "ValueError", .type "Exception", .type "BaseException", .type "object"] true sn13 sub13 ab13 col13 dd13 m013 m113 m213 m313 m513 "ValueError.__new__"))
    (sa13 : PySem.W.findIn K (.ref C13) "__setattr__" = some (some (.builtin "object.__setattr__")))
    (ex13 : PySem.W.subIn K (.ref C13) (.type "BaseException") = some true)
    (ty13 : PySem.W.typeIn K (.ref C13) = some (.type "type"))
    (kC13 : PySem.W.keepIn K (.ref C13) = true)
    (ga13 : PySem.W.findIn K (.ref C13) "__getattribute__" = some (some (.builtin "BaseException.__getattribute__")))
    (gg13 : PySem.W.findIn K (.ref C13) "__getattr__" = some none)
    (hd13 : PySem.W.hasDictIn K C13 = true)
    (ha13 : PySem.W.findIn K (.ref C13) "__class__" = some (some (.builtin "object.__class__")))
    (hm13 : PySem.W.mroIn K C13 (.type "object") = some true)
    (ei13 : PySem.W.excIn K C13 [.type "ValueError", .type "Exception", .type "BaseException", .type "object"] "ValueError.__new__" = true)
    (aC14 : PySem.W.nsIn K mainGlobals "NotComparable" = some (some (.ref C14)))
    (xL14 : K.lookup C14 = some (excClassObj nm14 q14 C14 N14 bs14 [.ref CS, .type "ValueError", .type "Exception", .type "BaseException", .type "object"] true sn14 sub14 ab14 col14 dd14 m014 m114 m214 m314 m514 "ValueError.__new__"))
    (sa14 : PySem.W.findIn K (.ref C14) "__setattr__" = some (some (.builtin "object.__setattr__")))
    (ex14 : PySem.W.subIn K (.ref C14) (.type "BaseException") = some true)
    (ty14 : PySem.W.typeIn K (.ref C14) = some (.type "type"))
    (kC14 : PySem.W.keepIn K (.ref C14) = true)
    (ga14 : PySem.W.findIn K (.ref C14) "__getattribute__" = some (some (.builtin "BaseException.__getattribute__")))
    (gg14 : PySem.W.findIn K (.ref C14) "__getattr__" = some none)
    (hd14 : PySem.W.hasDictIn K C14 = true)
    (ha14 : PySem.W.findIn K (.ref C14) "__class__" = some (some (.builtin "object.__class__")))
    (hm14 : PySem.W.mroIn K C14 (.type "object") = some true)
    (ia14 : PySem.W.findIn K (.ref C14) "__init__" = some (some (.ref g14)))
    (it14 : PySem.W.typeIn K (.ref g14) = some (.type "function"))
    (il14 : K.lookup g14 = some ⟨go14, gd14, .func (PySem.W.fnOf "__init__" "NotComparable.__init__" (defArgs s_NotComparable) (defBody s_NotComparable) (defScope s_NotComparable) .none gk14 gc14 gp14 gn14 ge14 gt14), gs14⟩)
    (ic14 : PySem.W.codeIn K ge14 "NotComparable.__init__" = true)
    (ik14 : PySem.W.keepIn K (.ref g14) = true)
    (nf14a : PySem.W.findIn K (.ref C14) "part" = some none)
    (aC15 : PySem.W.nsIn K mainGlobals "NothingToRedo" = some (some (.ref C15)))
    (xL15 : K.lookup C15 = some (excClassObj nm15 q15 C15 N15 bs15 [.ref CS, .type "ValueError", .type "Exception", .type "BaseException", .type "object"] true sn15 sub15 ab15 col15 dd15 m015 m115 m215 m315 m515 "ValueError.__new__"))
    (sa15 : PySem.W.findIn K (.ref C15) "__setattr__" = some (some (.builtin "object.__setattr__")))
    (ex15 : PySem.W.subIn K (.ref C15) (.type "BaseException") = some true)
    (ty15 : PySem.W.typeIn K (.ref C15) = some (.type "type"))
    (kC15 : PySem.W.keepIn K (.ref C15) = true)
    (ga15 : PySem.W.findIn K (.ref C15) "__getattribute__" = some (some (.builtin "BaseException.__getattribute__")))
    (gg15 : PySem.W.findIn K (.ref C15) "__getattr__" = some none)
    (hd15 : PySem.W.hasDictIn K C15 = true)
    (ha15 : PySem.W.findIn K (.ref C15) "__class__" = some (some (.builtin "object.__class__")))
    (hm15 : PySem.W.mroIn K C15 (.type "object") = some true)
    (ei15 : PySem.W.excIn K C15 [.type "ValueError", .type "Exception", .type "BaseException", .type "object"] "ValueError.__new__" = true)
    (aC16 : PySem.W.nsIn K mainGlobals "NothingToUndo" = some (some (.ref C16)))
    (xL16 : K.lookup C16 = some (excClassObj nm16 q16 C16 N16 bs16 [.ref CS, .type "ValueError", .type "Exception", .type "BaseException", .type "object"] true sn16 sub16 ab16 col16 dd16 m016 m116 m216 m316 m516 "ValueError.__new__"))
    (sa16 : PySem.W.findIn K (.ref C16) "__setattr__" = some (some (.builtin "object.__setattr__")))
    (ex16 : PySem.W.subIn K (.ref C16) (.type "BaseException") = some true)
    (ty16 : PySem.W.typeIn K (.ref C16) = some (.type "type"))
    (kC16 : PySem.W.keepIn K (.ref C16) = true)
    (ga16 : PySem.W.findIn K (.ref C16) "__getattribute__" = some (some (.builtin "BaseException.__getattribute__")))
    (gg16 : PySem.W.findIn K (.ref C16) "__getattr__" = some none)
    (hd16 : PySem.W.hasDictIn K C16 = true)
    (ha16 : PySem.W.findIn K (.ref C16) "__class__" = some (some (.builtin "object.__class__")))
    (hm16 : PySem.W.mroIn K C16 (.type "object") = some true)
    (ei16 : PySem.W.excIn K C16 [.type "ValueError", .type "Exception", .type "BaseException", .type "object"] "ValueError.__new__" = true)
    (aC17 : PySem.W.nsIn K mainGlobals "TooManyAsked" = some (some (.ref C17)))
    (xL17 : K.lookup C17 = some (excClassObj nm17 q17 C17 N17 bs17 [.ref CS, .type "ValueError", .type "Exception", .type "BaseException", .type "object"] true sn17 sub17 ab17 col17 dd17 m017 m117 m217 m317 m517 "ValueError.__new__"))
    (sa17 : PySem.W.findIn K (.ref C17) "__setattr__" = some (some (.builtin "object.__setattr__")))
    (ex17 : PySem.W.subIn K (.ref C17) (.type "BaseException") = some true)
    (ty17 : PySem.W.typeIn K (.ref C17) = some (.type "type"))
    (kC17 : PySem.W.keepIn K (.ref C17) = true)
    (ga17 : PySem.W.findIn K (.ref C17) "__getattribute__" = some (some (.builtin "BaseException.__getattribute__")))
    (gg17 : PySem.W.findIn K (.ref C17) "__getattr__" = some none)
    (hd17 : PySem.W.hasDictIn K C17 = true)
    (ha17 : PySem.W.findIn K (.ref C17) "__class__" = some (some (.builtin "object.__class__")))
    (hm17 : PySem.W.mroIn K C17 (.type "object") = some true)
    (ia17 : PySem.W.findIn K (.ref C17) "__init__" = some (some (.ref g17)))
    (it17 : PySem.W.typeIn K (.ref g17) = some (.type "function"))
    (il17 : K.lookup g17 = some ⟨go17, gd17, .func (PySem.W.fnOf "__init__" "TooManyAsked.__init__" (defArgs s_TooManyAsked) (defBody s_TooManyAsked) (defScope s_TooManyAsked) .none gk17 gc17 gp17 gn17 ge17 gt17), gs17⟩)
    (ic17 : PySem.W.codeIn K ge17 "TooManyAsked.__init__" = true)
    (ik17 : PySem.W.keepIn K (.ref g17) = true)
    (nf17a : PySem.W.findIn K (.ref C17) "field" = some none)
    (aC18 : PySem.W.nsIn K mainGlobals "UnknownField" = some (some (.ref C18)))
    (xL18 : K.lookup C18 = some (excClassObj nm18 q18 C18 N18 bs18 [.ref CS, .type "ValueError", .type "Exception", .type "BaseException", .type "object"] true sn18 sub18 ab18 col18 dd18 m018 m118 m218 m318 m518 "ValueError.__new__"))
    (sa18 : PySem.W.findIn K (.ref C18) "__setattr__" = some (some (.builtin "object.__setattr__")))
    (ex18 : PySem.W.subIn K (.ref C18) (.type "BaseException") = some true)
    (ty18 : PySem.W.typeIn K (.ref C18) = some (.type "type"))
    (kC18 : PySem.W.keepIn K (.ref C18) = true)
    (ga18 : PySem.W.findIn K (.ref C18) "__getattribute__" = some (some (.builtin "BaseException.__getattribute__")))
    (gg18 : PySem.W.findIn K (.ref C18) "__getattr__" = some none)
    (hd18 : PySem.W.hasDictIn K C18 = true)
    (ha18 : PySem.W.findIn K (.ref C18) "__class__" = some (some (.builtin "object.__class__")))
    (hm18 : PySem.W.mroIn K C18 (.type "object") = some true)
    (ia18 : PySem.W.findIn K (.ref C18) "__init__" = some (some (.ref g18)))
    (it18 : PySem.W.typeIn K (.ref g18) = some (.type "function"))
    (il18 : K.lookup g18 = some ⟨go18, gd18, .func (PySem.W.fnOf "__init__" "UnknownField.__init__" (defArgs s_UnknownField) (defBody s_UnknownField) (defScope s_UnknownField) .none gk18 gc18 gp18 gn18 ge18 gt18), gs18⟩)
    (ic18 : PySem.W.codeIn K ge18 "UnknownField.__init__" = true)
    (ik18 : PySem.W.keepIn K (.ref g18) = true)
    (nf18a : PySem.W.findIn K (.ref C18) "field" = some none)
    (aC19 : PySem.W.nsIn K mainGlobals "UnknownWord" = some (some (.ref C19)))
    (xL19 : K.lookup C19 = some (excClassObj nm19 q19 C19 N19 bs19 [.ref CS, .type "ValueError", .type "Exception", .type "BaseException", .type "object"] true sn19 sub19 ab19 col19 dd19 m019 m119 m219 m319 m519 "ValueError.__new__"))
    (sa19 : PySem.W.findIn K (.ref C19) "__setattr__" = some (some (.builtin "object.__setattr__")))
    (ex19 : PySem.W.subIn K (.ref C19) (.type "BaseException") = some true)
    (ty19 : PySem.W.typeIn K (.ref C19) = some (.type "type"))
    (kC19 : PySem.W.keepIn K (.ref C19) = true)
    (ga19 : PySem.W.findIn K (.ref C19) "__getattribute__" = some (some (.builtin "BaseException.__getattribute__")))
    (gg19 : PySem.W.findIn K (.ref C19) "__getattr__" = some none)
    (hd19 : PySem.W.hasDictIn K C19 = true)
    (ha19 : PySem.W.findIn K (.ref C19) "__class__" = some (some (.builtin "object.__class__")))
    (hm19 : PySem.W.mroIn K C19 (.type "object") = some true)
    (ia19 : PySem.W.findIn K (.ref C19) "__init__" = some (some (.ref g19)))
    (it19 : PySem.W.typeIn K (.ref g19) = some (.type "function"))
    (il19 : K.lookup g19 = some ⟨go19, gd19, .func (PySem.W.fnOf "__init__" "UnknownWord.__init__" (defArgs s_UnknownWord) (defBody s_UnknownWord) (defScope s_UnknownWord) .none gk19 gc19 gp19 gn19 ge19 gt19), gs19⟩)
    (ic19 : PySem.W.codeIn K ge19 "UnknownWord.__init__" = true)
    (ik19 : PySem.W.keepIn K (.ref g19) = true)
    (nf19a : PySem.W.findIn K (.ref C19) "word" = some none)
    (z_isinstance : PySem.W.nsIn K mainGlobals "isinstance" = some none)
    (z_tuple : PySem.W.nsIn K mainGlobals "tuple" = some none)
    (z_list : PySem.W.nsIn K mainGlobals "list" = some none)
    (z_len : PySem.W.nsIn K mainGlobals "len" = some none)
    (z_all : PySem.W.nsIn K mainGlobals "all" = some none)
    (z_range : PySem.W.nsIn K mainGlobals "range" = some none)
    (z_bool : PySem.W.nsIn K mainGlobals "bool" = some none)
    (z_int : PySem.W.nsIn K mainGlobals "int" = some none)
    (z_str : PySem.W.nsIn K mainGlobals "str" = some none)
    (z_ValueError : PySem.W.nsIn K mainGlobals "ValueError" = some none)
    (kk : kitAllB K [C0, C1, C2, C3, C4, C5, C6, C7, C8, C9, C10, C11, C12, C13, C14, C15, C16, C17, C18, C19] CS = true)
    : ∃ fd : FuncData, (∀ (s : Shared) (v : Value), BindsTo s fd ⟨[v], []⟩ [("_law_script", v)]) ∧ ∀ base : Heap, K.In base → base.Ns mainGlobals mg → FnOk l.prog w K mg base CX0 13 fa fd ["_law_script"] (spLaw K) := by
  have e := hfa.symm.trans (PySem.W.mg_of X G a7)
  cases e
  have F0 := fun_mk (st := sMix) l0 c0 k0
  have b0 := F0.binds (ps := ["_law_value", "_law_k"]) fun _ _ _ _ _ _ us hl => match us, hl with | [_, _], _ => rfl
  have F1 := fun_mk (st := sBox) l1 c1 k1
  have b1 := F1.binds (ps := ["_law_script"]) fun _ _ _ _ _ _ us hl => match us, hl with | [_], _ => rfl
  have F2 := fun_mk (st := sDraw) l2 c2 k2
  have b2 := F2.binds (ps := ["_law_box_here", "_law_many"]) fun _ _ _ _ _ _ us hl => match us, hl with | [_, _], _ => rfl
  have F3 := fun_mk (st := sSame) l3 c3 k3
  have b3 := F3.binds (ps := ["_law_told", "_law_due"]) fun _ _ _ _ _ _ us hl => match us, hl with | [_, _], _ => rfl
  have F4 := fun_mk (st := s_L_classes) l4 c4 k4
  have b4 := F4.binds (ps := ["_law_error"]) fun _ _ _ _ _ _ us hl => match us, hl with | [_], _ => rfl
  have F5 := fun_mk (st := s_L_errors) l5 c5 k5
  have b5 := F5.binds (ps := ["_law_one", "_law_two"]) fun _ _ _ _ _ _ us hl => match us, hl with | [_, _], _ => rfl
  have F6 := fun_mk (st := s_L_held) l6 c6 k6
  have b6 := F6.binds (ps := ["_law_found"]) fun _ _ _ _ _ _ us hl => match us, hl with | [_], _ => rfl
  have F7 := fun_mk (st := s_law) l7 c7 k7
  have x0 : XCls K C0 := xcls_mk xL0 sa0 ex0 ty0 kC0 ga0 gg0 hd0 ha0 hn ht hm0
  have J0 := fun_mk (st := s_InvalidBound) il0 ic0 ik0
  have j0 := J0.binds (ps := ["self", "value"]) fun _ _ _ _ _ _ us hl => match us, hl with | [_, _], _ => rfl
  have x1 : XCls K C1 := xcls_mk xL1 sa1 ex1 ty1 kC1 ga1 gg1 hd1 ha1 hn ht hm1
  have J1 := fun_mk (st := s_InvalidChange) il1 ic1 ik1
  have j1 := J1.binds (ps := ["self", "index"]) fun _ _ _ _ _ _ us hl => match us, hl with | [_, _], _ => rfl
  have x2 : XCls K C2 := xcls_mk xL2 sa2 ex2 ty2 kC2 ga2 gg2 hd2 ha2 hn ht hm2
  have J2 := fun_mk (st := s_InvalidDeed) il2 ic2 ik2
  have j2 := J2.binds (ps := ["self", "deed"]) fun _ _ _ _ _ _ us hl => match us, hl with | [_, _], _ => rfl
  have x3 : XCls K C3 := xcls_mk xL3 sa3 ex3 ty3 kC3 ga3 gg3 hd3 ha3 hn ht hm3
  have J3 := fun_mk (st := s_InvalidForm) il3 ic3 ik3
  have j3 := J3.binds (ps := ["self", "part", "field"]) fun _ _ _ _ _ _ us hl => match us, hl with | [_, _, _], _ => rfl
  have x4 : XCls K C4 := xcls_mk xL4 sa4 ex4 ty4 kC4 ga4 gg4 hd4 ha4 hn ht hm4
  have J4 := fun_mk (st := s_InvalidKind) il4 ic4 ik4
  have j4 := J4.binds (ps := ["self", "kind"]) fun _ _ _ _ _ _ us hl => match us, hl with | [_, _], _ => rfl
  have x5 : XCls K C5 := xcls_mk xL5 sa5 ex5 ty5 kC5 ga5 gg5 hd5 ha5 hn ht hm5
  have J5 := fun_mk (st := s_InvalidRule) il5 ic5 ik5
  have j5 := J5.binds (ps := ["self", "part"]) fun _ _ _ _ _ _ us hl => match us, hl with | [_, _], _ => rfl
  have x6 : XCls K C6 := xcls_mk xL6 sa6 ex6 ty6 kC6 ga6 gg6 hd6 ha6 hn ht hm6
  have x7 : XCls K C7 := xcls_mk xL7 sa7 ex7 ty7 kC7 ga7 gg7 hd7 ha7 hn ht hm7
  have x8 : XCls K C8 := xcls_mk xL8 sa8 ex8 ty8 kC8 ga8 gg8 hd8 ha8 hn ht hm8
  have J8 := fun_mk (st := s_InvalidTable) il8 ic8 ik8
  have j8 := J8.binds (ps := ["self", "kind"]) fun _ _ _ _ _ _ us hl => match us, hl with | [_, _], _ => rfl
  have x9 : XCls K C9 := xcls_mk xL9 sa9 ex9 ty9 kC9 ga9 gg9 hd9 ha9 hn ht hm9
  have J9 := fun_mk (st := s_InvalidText) il9 ic9 ik9
  have j9 := J9.binds (ps := ["self", "line"]) fun _ _ _ _ _ _ us hl => match us, hl with | [_, _], _ => rfl
  have x10 : XCls K C10 := xcls_mk xL10 sa10 ex10 ty10 kC10 ga10 gg10 hd10 ha10 hn ht hm10
  have J10 := fun_mk (st := s_InvalidWords) il10 ic10 ik10
  have j10 := J10.binds (ps := ["self", "words"]) fun _ _ _ _ _ _ us hl => match us, hl with | [_, _], _ => rfl
  have x11 : XCls K C11 := xcls_mk xL11 sa11 ex11 ty11 kC11 ga11 gg11 hd11 ha11 hn ht hm11
  have J11 := fun_mk (st := s_LimitExceeded) il11 ic11 ik11
  have j11 := J11.binds (ps := ["self", "limit"]) fun _ _ _ _ _ _ us hl => match us, hl with | [_, _], _ => rfl
  have x12 : XCls K C12 := xcls_mk xL12 sa12 ex12 ty12 kC12 ga12 gg12 hd12 ha12 hn ht hm12
  have J12 := fun_mk (st := s_NoFault) il12 ic12 ik12
  have j12 := J12.binds (ps := ["self", "kind", "field"]) fun _ _ _ _ _ _ us hl => match us, hl with | [_, _, _], _ => rfl
  have x13 : XCls K C13 := xcls_mk xL13 sa13 ex13 ty13 kC13 ga13 gg13 hd13 ha13 hn ht hm13
  have x14 : XCls K C14 := xcls_mk xL14 sa14 ex14 ty14 kC14 ga14 gg14 hd14 ha14 hn ht hm14
  have J14 := fun_mk (st := s_NotComparable) il14 ic14 ik14
  have j14 := J14.binds (ps := ["self", "part"]) fun _ _ _ _ _ _ us hl => match us, hl with | [_, _], _ => rfl
  have x15 : XCls K C15 := xcls_mk xL15 sa15 ex15 ty15 kC15 ga15 gg15 hd15 ha15 hn ht hm15
  have x16 : XCls K C16 := xcls_mk xL16 sa16 ex16 ty16 kC16 ga16 gg16 hd16 ha16 hn ht hm16
  have x17 : XCls K C17 := xcls_mk xL17 sa17 ex17 ty17 kC17 ga17 gg17 hd17 ha17 hn ht hm17
  have J17 := fun_mk (st := s_TooManyAsked) il17 ic17 ik17
  have j17 := J17.binds (ps := ["self", "field"]) fun _ _ _ _ _ _ us hl => match us, hl with | [_, _], _ => rfl
  have x18 : XCls K C18 := xcls_mk xL18 sa18 ex18 ty18 kC18 ga18 gg18 hd18 ha18 hn ht hm18
  have J18 := fun_mk (st := s_UnknownField) il18 ic18 ik18
  have j18 := J18.binds (ps := ["self", "field"]) fun _ _ _ _ _ _ us hl => match us, hl with | [_, _], _ => rfl
  have x19 : XCls K C19 := xcls_mk xL19 sa19 ex19 ty19 kC19 ga19 gg19 hd19 ha19 hn ht hm19
  have J19 := fun_mk (st := s_UnknownWord) il19 ic19 ik19
  have j19 := J19.binds (ps := ["self", "word"]) fun _ _ _ _ _ _ us hl => match us, hl with | [_, _], _ => rfl
  have T : Txt K mg := {
    C := fun i => [C0, C1, C2, C3, C4, C5, C6, C7, C8, C9, C10, C11, C12, C13, C14, C15, C16, C17, C18, C19].getD i 0
    CS := CS
    fI := fun i => [g0, g1, g2, g3, g4, g5, 0, 0, g8, g9, g10, g11, g12, 0, g14, 0, 0, g17, g18, g19].getD i 0
    dI := fun i => [PySem.W.fnOf "__init__" "InvalidBound.__init__" (defArgs s_InvalidBound) (defBody s_InvalidBound) (defScope s_InvalidBound) .none gk0 gc0 gp0 gn0 ge0 gt0, PySem.W.fnOf "__init__" "InvalidChange.__init__" (defArgs s_InvalidChange) (defBody s_InvalidChange) (defScope s_InvalidChange) .none gk1 gc1 gp1 gn1 ge1 gt1, PySem.W.fnOf "__init__" "InvalidDeed.__init__" (defArgs s_InvalidDeed) (defBody s_InvalidDeed) (defScope s_InvalidDeed) .none gk2 gc2 gp2 gn2 ge2 gt2, PySem.W.fnOf "__init__" "InvalidForm.__init__" (defArgs s_InvalidForm) (defBody s_InvalidForm) (defScope s_InvalidForm) .none gk3 gc3 gp3 gn3 ge3 gt3, PySem.W.fnOf "__init__" "InvalidKind.__init__" (defArgs s_InvalidKind) (defBody s_InvalidKind) (defScope s_InvalidKind) .none gk4 gc4 gp4 gn4 ge4 gt4, PySem.W.fnOf "__init__" "InvalidRule.__init__" (defArgs s_InvalidRule) (defBody s_InvalidRule) (defScope s_InvalidRule) .none gk5 gc5 gp5 gn5 ge5 gt5, PySem.W.fnOf "__init__" "InvalidBound.__init__" (defArgs s_InvalidBound) (defBody s_InvalidBound) (defScope s_InvalidBound) .none gk0 gc0 gp0 gn0 ge0 gt0, PySem.W.fnOf "__init__" "InvalidBound.__init__" (defArgs s_InvalidBound) (defBody s_InvalidBound) (defScope s_InvalidBound) .none gk0 gc0 gp0 gn0 ge0 gt0, PySem.W.fnOf "__init__" "InvalidTable.__init__" (defArgs s_InvalidTable) (defBody s_InvalidTable) (defScope s_InvalidTable) .none gk8 gc8 gp8 gn8 ge8 gt8, PySem.W.fnOf "__init__" "InvalidText.__init__" (defArgs s_InvalidText) (defBody s_InvalidText) (defScope s_InvalidText) .none gk9 gc9 gp9 gn9 ge9 gt9, PySem.W.fnOf "__init__" "InvalidWords.__init__" (defArgs s_InvalidWords) (defBody s_InvalidWords) (defScope s_InvalidWords) .none gk10 gc10 gp10 gn10 ge10 gt10, PySem.W.fnOf "__init__" "LimitExceeded.__init__" (defArgs s_LimitExceeded) (defBody s_LimitExceeded) (defScope s_LimitExceeded) .none gk11 gc11 gp11 gn11 ge11 gt11, PySem.W.fnOf "__init__" "NoFault.__init__" (defArgs s_NoFault) (defBody s_NoFault) (defScope s_NoFault) .none gk12 gc12 gp12 gn12 ge12 gt12, PySem.W.fnOf "__init__" "InvalidBound.__init__" (defArgs s_InvalidBound) (defBody s_InvalidBound) (defScope s_InvalidBound) .none gk0 gc0 gp0 gn0 ge0 gt0, PySem.W.fnOf "__init__" "NotComparable.__init__" (defArgs s_NotComparable) (defBody s_NotComparable) (defScope s_NotComparable) .none gk14 gc14 gp14 gn14 ge14 gt14, PySem.W.fnOf "__init__" "InvalidBound.__init__" (defArgs s_InvalidBound) (defBody s_InvalidBound) (defScope s_InvalidBound) .none gk0 gc0 gp0 gn0 ge0 gt0, PySem.W.fnOf "__init__" "InvalidBound.__init__" (defArgs s_InvalidBound) (defBody s_InvalidBound) (defScope s_InvalidBound) .none gk0 gc0 gp0 gn0 ge0 gt0, PySem.W.fnOf "__init__" "TooManyAsked.__init__" (defArgs s_TooManyAsked) (defBody s_TooManyAsked) (defScope s_TooManyAsked) .none gk17 gc17 gp17 gn17 ge17 gt17, PySem.W.fnOf "__init__" "UnknownField.__init__" (defArgs s_UnknownField) (defBody s_UnknownField) (defScope s_UnknownField) .none gk18 gc18 gp18 gn18 ge18 gt18, PySem.W.fnOf "__init__" "UnknownWord.__init__" (defArgs s_UnknownWord) (defBody s_UnknownWord) (defScope s_UnknownWord) .none gk19 gc19 gp19 gn19 ge19 gt19].getD i (PySem.W.fnOf "__init__" "InvalidBound.__init__" (defArgs s_InvalidBound) (defBody s_InvalidBound) (defScope s_InvalidBound) .none gk0 gc0 gp0 gn0 ge0 gt0)
    B := ⟨PySem.W.mg_none_of X G z_isinstance, PySem.W.mg_none_of X G z_tuple, PySem.W.mg_none_of X G z_list, PySem.W.mg_none_of X G z_len, PySem.W.mg_none_of X G z_all, PySem.W.mg_none_of X G z_range, PySem.W.mg_none_of X G z_bool, PySem.W.mg_none_of X G z_int, PySem.W.mg_none_of X G z_str⟩
    ValueError_ := PySem.W.mg_none_of X G z_ValueError
    g_ShownError := PySem.W.mg_of X G aS
    f_L_mix := f0
    d_L_mix := _
    F_L_mix := F0
    b_L_mix := b0
    g_L_mix := PySem.W.mg_of X G a0
    f_L_box := f1
    d_L_box := _
    F_L_box := F1
    b_L_box := b1
    g_L_box := PySem.W.mg_of X G a1
    f_L_draw := f2
    d_L_draw := _
    F_L_draw := F2
    b_L_draw := b2
    g_L_draw := PySem.W.mg_of X G a2
    f_L_same := f3
    d_L_same := _
    F_L_same := F3
    b_L_same := b3
    g_L_same := PySem.W.mg_of X G a3
    f_L_classes := f4
    d_L_classes := _
    F_L_classes := F4
    b_L_classes := b4
    g_L_classes := PySem.W.mg_of X G a4
    f_L_errors := f5
    d_L_errors := _
    F_L_errors := F5
    b_L_errors := b5
    g_L_errors := PySem.W.mg_of X G a5
    f_L_held := f6
    d_L_held := _
    F_L_held := F6
    b_L_held := b6
    g_L_held := PySem.W.mg_of X G a6
    g_InvalidBound := PySem.W.mg_of X G aC0
    x_InvalidBound := x0
    F_InvalidBound := J0
    b_InvalidBound := j0
    i_InvalidBound := ia0
    t_InvalidBound := it0
    n_InvalidBound0 := nf0a
    g_InvalidChange := PySem.W.mg_of X G aC1
    x_InvalidChange := x1
    F_InvalidChange := J1
    b_InvalidChange := j1
    i_InvalidChange := ia1
    t_InvalidChange := it1
    n_InvalidChange0 := nf1a
    g_InvalidDeed := PySem.W.mg_of X G aC2
    x_InvalidDeed := x2
    F_InvalidDeed := J2
    b_InvalidDeed := j2
    i_InvalidDeed := ia2
    t_InvalidDeed := it2
    n_InvalidDeed0 := nf2a
    g_InvalidForm := PySem.W.mg_of X G aC3
    x_InvalidForm := x3
    F_InvalidForm := J3
    b_InvalidForm := j3
    i_InvalidForm := ia3
    t_InvalidForm := it3
    n_InvalidForm0 := nf3a
    n_InvalidForm1 := nf3b
    g_InvalidKind := PySem.W.mg_of X G aC4
    x_InvalidKind := x4
    F_InvalidKind := J4
    b_InvalidKind := j4
    i_InvalidKind := ia4
    t_InvalidKind := it4
    n_InvalidKind0 := nf4a
    g_InvalidRule := PySem.W.mg_of X G aC5
    x_InvalidRule := x5
    F_InvalidRule := J5
    b_InvalidRule := j5
    i_InvalidRule := ia5
    t_InvalidRule := it5
    n_InvalidRule0 := nf5a
    g_InvalidRules := PySem.W.mg_of X G aC6
    x_InvalidRules := x6
    k_InvalidRules := kC6
    e_InvalidRules := ei6
    g_InvalidStanding := PySem.W.mg_of X G aC7
    x_InvalidStanding := x7
    k_InvalidStanding := kC7
    e_InvalidStanding := ei7
    g_InvalidTable := PySem.W.mg_of X G aC8
    x_InvalidTable := x8
    F_InvalidTable := J8
    b_InvalidTable := j8
    i_InvalidTable := ia8
    t_InvalidTable := it8
    n_InvalidTable0 := nf8a
    g_InvalidText := PySem.W.mg_of X G aC9
    x_InvalidText := x9
    F_InvalidText := J9
    b_InvalidText := j9
    i_InvalidText := ia9
    t_InvalidText := it9
    n_InvalidText0 := nf9a
    g_InvalidWords := PySem.W.mg_of X G aC10
    x_InvalidWords := x10
    F_InvalidWords := J10
    b_InvalidWords := j10
    i_InvalidWords := ia10
    t_InvalidWords := it10
    n_InvalidWords0 := nf10a
    g_LimitExceeded := PySem.W.mg_of X G aC11
    x_LimitExceeded := x11
    F_LimitExceeded := J11
    b_LimitExceeded := j11
    i_LimitExceeded := ia11
    t_LimitExceeded := it11
    n_LimitExceeded0 := nf11a
    g_NoFault := PySem.W.mg_of X G aC12
    x_NoFault := x12
    F_NoFault := J12
    b_NoFault := j12
    i_NoFault := ia12
    t_NoFault := it12
    n_NoFault0 := nf12a
    n_NoFault1 := nf12b
    g_NoStanding := PySem.W.mg_of X G aC13
    x_NoStanding := x13
    k_NoStanding := kC13
    e_NoStanding := ei13
    g_NotComparable := PySem.W.mg_of X G aC14
    x_NotComparable := x14
    F_NotComparable := J14
    b_NotComparable := j14
    i_NotComparable := ia14
    t_NotComparable := it14
    n_NotComparable0 := nf14a
    g_NothingToRedo := PySem.W.mg_of X G aC15
    x_NothingToRedo := x15
    k_NothingToRedo := kC15
    e_NothingToRedo := ei15
    g_NothingToUndo := PySem.W.mg_of X G aC16
    x_NothingToUndo := x16
    k_NothingToUndo := kC16
    e_NothingToUndo := ei16
    g_TooManyAsked := PySem.W.mg_of X G aC17
    x_TooManyAsked := x17
    F_TooManyAsked := J17
    b_TooManyAsked := j17
    i_TooManyAsked := ia17
    t_TooManyAsked := it17
    n_TooManyAsked0 := nf17a
    g_UnknownField := PySem.W.mg_of X G aC18
    x_UnknownField := x18
    F_UnknownField := J18
    b_UnknownField := j18
    i_UnknownField := ia18
    t_UnknownField := it18
    n_UnknownField0 := nf18a
    g_UnknownWord := PySem.W.mg_of X G aC19
    x_UnknownWord := x19
    F_UnknownWord := J19
    b_UnknownWord := j19
    i_UnknownWord := ia19
    t_UnknownWord := it19
    n_UnknownWord0 := nf19a
    kit := fun i j hi hj => kitAll_ij kk i j hi hj
    kS := fun j hj => kitAll_s kk j hj
    kV := fun j hj => kitAll_v kk j hj
    xs := fun j hj => all_xs (cs := [C0, C1, C2, C3, C4, C5, C6, C7, C8, C9, C10, C11, C12, C13, C14, C15, C16, C17, C18, C19]) (by
      intro c hc
      simp only [List.mem_cons, List.not_mem_nil, or_false] at hc
      rcases hc with rfl | rfl | rfl | rfl | rfl | rfl | rfl | rfl | rfl | rfl | rfl | rfl | rfl | rfl | rfl | rfl | rfl | rfl | rfl | rfl
      · exact x0.c
      · exact x1.c
      · exact x2.c
      · exact x3.c
      · exact x4.c
      · exact x5.c
      · exact x6.c
      · exact x7.c
      · exact x8.c
      · exact x9.c
      · exact x10.c
      · exact x11.c
      · exact x12.c
      · exact x13.c
      · exact x14.c
      · exact x15.c
      · exact x16.c
      · exact x17.c
      · exact x18.c
      · exact x19.c) 20 rfl j hj }
  exact ⟨_, fun s v => .of_eq rfl, fun base _ _ => ok_law T F7⟩
end Wn
open PySem PySem.W PyProof.Rows
set_option maxHeartbeats 0 in
theorem PySem.Challenge.cw_wrongshown_k43_errors_apart_holds : PySem.Challenge.rw_wrongshown_k43_errors_apart.Holds := by
  w_on; o_law; k_head; (case hw => w_witness2)
  k_fill
  refine L2.walk_of (l := PySem.Challenge.rw_wrongshown_k43_errors_apart) (n := 63) (k := 13) (x := "_law_script") (CX := fun _ => L2.CX0) (sp := fun w => Wn.spLaw _) rfl (by decide) rfl ⟨rfl, by decide, by decide⟩ (fun w h Y => PySem.W.kIn_of Y) ?F (fun _ _ a ns hl _ hS => ⟨a, ns, rfl, hS, hl, fun _ => rfl⟩) (fun _ _ _ _ _ h => h)
  case F =>
    intro w mg fa h KX G hmg
    refine' Wn.all_mk KX G hmg ?aS ?a0 ?l0 ?c0 ?k0 ?a1 ?l1 ?c1 ?k1 ?a2 ?l2 ?c2 ?k2 ?a3 ?l3 ?c3 ?k3 ?a4 ?l4 ?c4 ?k4 ?a5 ?l5 ?c5 ?k5 ?a6 ?l6 ?c6 ?k6 ?a7 ?l7 ?c7 ?k7 ?hn ?ht ?aC0 ?xL0 ?sa0 ?ex0 ?ty0 ?kC0 ?ga0 ?gg0 ?hd0 ?ha0 ?hm0 ?ia0 ?it0 ?il0 ?ic0 ?ik0 ?nf0a ?aC1 ?xL1 ?sa1 ?ex1 ?ty1 ?kC1 ?ga1 ?gg1 ?hd1 ?ha1 ?hm1 ?ia1 ?it1 ?il1 ?ic1 ?ik1 ?nf1a ?aC2 ?xL2 ?sa2 ?ex2 ?ty2 ?kC2 ?ga2 ?gg2 ?hd2 ?ha2 ?hm2 ?ia2 ?it2 ?il2 ?ic2 ?ik2 ?nf2a ?aC3 ?xL3 ?sa3 ?ex3 ?ty3 ?kC3 ?ga3 ?gg3 ?hd3 ?ha3 ?hm3 ?ia3 ?it3 ?il3 ?ic3 ?ik3 ?nf3a ?nf3b ?aC4 ?xL4 ?sa4 ?ex4 ?ty4 ?kC4 ?ga4 ?gg4 ?hd4 ?ha4 ?hm4 ?ia4 ?it4 ?il4 ?ic4 ?ik4 ?nf4a ?aC5 ?xL5 ?sa5 ?ex5 ?ty5 ?kC5 ?ga5 ?gg5 ?hd5 ?ha5 ?hm5 ?ia5 ?it5 ?il5 ?ic5 ?ik5 ?nf5a ?aC6 ?xL6 ?sa6 ?ex6 ?ty6 ?kC6 ?ga6 ?gg6 ?hd6 ?ha6 ?hm6 ?ei6 ?aC7 ?xL7 ?sa7 ?ex7 ?ty7 ?kC7 ?ga7 ?gg7 ?hd7 ?ha7 ?hm7 ?ei7 ?aC8 ?xL8 ?sa8 ?ex8 ?ty8 ?kC8 ?ga8 ?gg8 ?hd8 ?ha8 ?hm8 ?ia8 ?it8 ?il8 ?ic8 ?ik8 ?nf8a ?aC9 ?xL9 ?sa9 ?ex9 ?ty9 ?kC9 ?ga9 ?gg9 ?hd9 ?ha9 ?hm9 ?ia9 ?it9 ?il9 ?ic9 ?ik9 ?nf9a ?aC10 ?xL10 ?sa10 ?ex10 ?ty10 ?kC10 ?ga10 ?gg10 ?hd10 ?ha10 ?hm10 ?ia10 ?it10 ?il10 ?ic10 ?ik10 ?nf10a ?aC11 ?xL11 ?sa11 ?ex11 ?ty11 ?kC11 ?ga11 ?gg11 ?hd11 ?ha11 ?hm11 ?ia11 ?it11 ?il11 ?ic11 ?ik11 ?nf11a ?aC12 ?xL12 ?sa12 ?ex12 ?ty12 ?kC12 ?ga12 ?gg12 ?hd12 ?ha12 ?hm12 ?ia12 ?it12 ?il12 ?ic12 ?ik12 ?nf12a ?nf12b ?aC13 ?xL13 ?sa13 ?ex13 ?ty13 ?kC13 ?ga13 ?gg13 ?hd13 ?ha13 ?hm13 ?ei13 ?aC14 ?xL14 ?sa14 ?ex14 ?ty14 ?kC14 ?ga14 ?gg14 ?hd14 ?ha14 ?hm14 ?ia14 ?it14 ?il14 ?ic14 ?ik14 ?nf14a ?aC15 ?xL15 ?sa15 ?ex15 ?ty15 ?kC15 ?ga15 ?gg15 ?hd15 ?ha15 ?hm15 ?ei15 ?aC16 ?xL16 ?sa16 ?ex16 ?ty16 ?kC16 ?ga16 ?gg16 ?hd16 ?ha16 ?hm16 ?ei16 ?aC17 ?xL17 ?sa17 ?ex17 ?ty17 ?kC17 ?ga17 ?gg17 ?hd17 ?ha17 ?hm17 ?ia17 ?it17 ?il17 ?ic17 ?ik17 ?nf17a ?aC18 ?xL18 ?sa18 ?ex18 ?ty18 ?kC18 ?ga18 ?gg18 ?hd18 ?ha18 ?hm18 ?ia18 ?it18 ?il18 ?ic18 ?ik18 ?nf18a ?aC19 ?xL19 ?sa19 ?ex19 ?ty19 ?kC19 ?ga19 ?gg19 ?hd19 ?ha19 ?hm19 ?ia19 ?it19 ?il19 ?ic19 ?ik19 ?nf19a ?z_isinstance ?z_tuple ?z_list ?z_len ?z_all ?z_range ?z_bool ?z_int ?z_str ?z_ValueError ?kk
    (case aS => k_is)
    (case a0 => k_is)
    (case l0 => k_is)
    (case c0 => k_is)
    (case k0 => k_is)
    (case a1 => k_is)
    (case l1 => k_is)
    (case c1 => k_is)
    (case k1 => k_is)
    (case a2 => k_is)
    (case l2 => k_is)
    (case c2 => k_is)
    (case k2 => k_is)
    (case a3 => k_is)
    (case l3 => k_is)
    (case c3 => k_is)
    (case k3 => k_is)
    (case a4 => k_is)
    (case l4 => k_is)
    (case c4 => k_is)
    (case k4 => k_is)
    (case a5 => k_is)
    (case l5 => k_is)
    (case c5 => k_is)
    (case k5 => k_is)
    (case a6 => k_is)
    (case l6 => k_is)
    (case c6 => k_is)
    (case k6 => k_is)
    (case a7 => k_is)
    (case l7 => k_is)
    (case c7 => k_is)
    (case k7 => k_is)
    (case hn => k_is)
    (case ht => k_is)
    (case aC0 => k_is)
    (case xL0 => k_is)
    (case sa0 => k_is)
    (case ex0 => k_is)
    (case ty0 => k_is)
    (case kC0 => k_is)
    (case ga0 => k_is)
    (case gg0 => k_is)
    (case hd0 => k_is)
    (case ha0 => k_is)
    (case hm0 => k_is)
    (case ia0 => k_is)
    (case it0 => k_is)
    (case il0 => k_is)
    (case ic0 => k_is)
    (case ik0 => k_is)
    (case nf0a => k_is)
    (case aC1 => k_is)
    (case xL1 => k_is)
    (case sa1 => k_is)
    (case ex1 => k_is)
    (case ty1 => k_is)
    (case kC1 => k_is)
    (case ga1 => k_is)
    (case gg1 => k_is)
    (case hd1 => k_is)
    (case ha1 => k_is)
    (case hm1 => k_is)
    (case ia1 => k_is)
    (case it1 => k_is)
    (case il1 => k_is)
    (case ic1 => k_is)
    (case ik1 => k_is)
    (case nf1a => k_is)
    (case aC2 => k_is)
    (case xL2 => k_is)
    (case sa2 => k_is)
    (case ex2 => k_is)
    (case ty2 => k_is)
    (case kC2 => k_is)
    (case ga2 => k_is)
    (case gg2 => k_is)
    (case hd2 => k_is)
    (case ha2 => k_is)
    (case hm2 => k_is)
    (case ia2 => k_is)
    (case it2 => k_is)
    (case il2 => k_is)
    (case ic2 => k_is)
    (case ik2 => k_is)
    (case nf2a => k_is)
    (case aC3 => k_is)
    (case xL3 => k_is)
    (case sa3 => k_is)
    (case ex3 => k_is)
    (case ty3 => k_is)
    (case kC3 => k_is)
    (case ga3 => k_is)
    (case gg3 => k_is)
    (case hd3 => k_is)
    (case ha3 => k_is)
    (case hm3 => k_is)
    (case ia3 => k_is)
    (case it3 => k_is)
    (case il3 => k_is)
    (case ic3 => k_is)
    (case ik3 => k_is)
    (case nf3a => k_is)
    (case nf3b => k_is)
    (case aC4 => k_is)
    (case xL4 => k_is)
    (case sa4 => k_is)
    (case ex4 => k_is)
    (case ty4 => k_is)
    (case kC4 => k_is)
    (case ga4 => k_is)
    (case gg4 => k_is)
    (case hd4 => k_is)
    (case ha4 => k_is)
    (case hm4 => k_is)
    (case ia4 => k_is)
    (case it4 => k_is)
    (case il4 => k_is)
    (case ic4 => k_is)
    (case ik4 => k_is)
    (case nf4a => k_is)
    (case aC5 => k_is)
    (case xL5 => k_is)
    (case sa5 => k_is)
    (case ex5 => k_is)
    (case ty5 => k_is)
    (case kC5 => k_is)
    (case ga5 => k_is)
    (case gg5 => k_is)
    (case hd5 => k_is)
    (case ha5 => k_is)
    (case hm5 => k_is)
    (case ia5 => k_is)
    (case it5 => k_is)
    (case il5 => k_is)
    (case ic5 => k_is)
    (case ik5 => k_is)
    (case nf5a => k_is)
    (case aC6 => k_is)
    (case xL6 => k_is)
    (case sa6 => k_is)
    (case ex6 => k_is)
    (case ty6 => k_is)
    (case kC6 => k_is)
    (case ga6 => k_is)
    (case gg6 => k_is)
    (case hd6 => k_is)
    (case ha6 => k_is)
    (case hm6 => k_is)
    (case ei6 => k_exc)
    (case aC7 => k_is)
    (case xL7 => k_is)
    (case sa7 => k_is)
    (case ex7 => k_is)
    (case ty7 => k_is)
    (case kC7 => k_is)
    (case ga7 => k_is)
    (case gg7 => k_is)
    (case hd7 => k_is)
    (case ha7 => k_is)
    (case hm7 => k_is)
    (case ei7 => k_exc)
    (case aC8 => k_is)
    (case xL8 => k_is)
    (case sa8 => k_is)
    (case ex8 => k_is)
    (case ty8 => k_is)
    (case kC8 => k_is)
    (case ga8 => k_is)
    (case gg8 => k_is)
    (case hd8 => k_is)
    (case ha8 => k_is)
    (case hm8 => k_is)
    (case ia8 => k_is)
    (case it8 => k_is)
    (case il8 => k_is)
    (case ic8 => k_is)
    (case ik8 => k_is)
    (case nf8a => k_is)
    (case aC9 => k_is)
    (case xL9 => k_is)
    (case sa9 => k_is)
    (case ex9 => k_is)
    (case ty9 => k_is)
    (case kC9 => k_is)
    (case ga9 => k_is)
    (case gg9 => k_is)
    (case hd9 => k_is)
    (case ha9 => k_is)
    (case hm9 => k_is)
    (case ia9 => k_is)
    (case it9 => k_is)
    (case il9 => k_is)
    (case ic9 => k_is)
    (case ik9 => k_is)
    (case nf9a => k_is)
    (case aC10 => k_is)
    (case xL10 => k_is)
    (case sa10 => k_is)
    (case ex10 => k_is)
    (case ty10 => k_is)
    (case kC10 => k_is)
    (case ga10 => k_is)
    (case gg10 => k_is)
    (case hd10 => k_is)
    (case ha10 => k_is)
    (case hm10 => k_is)
    (case ia10 => k_is)
    (case it10 => k_is)
    (case il10 => k_is)
    (case ic10 => k_is)
    (case ik10 => k_is)
    (case nf10a => k_is)
    (case aC11 => k_is)
    (case xL11 => k_is)
    (case sa11 => k_is)
    (case ex11 => k_is)
    (case ty11 => k_is)
    (case kC11 => k_is)
    (case ga11 => k_is)
    (case gg11 => k_is)
    (case hd11 => k_is)
    (case ha11 => k_is)
    (case hm11 => k_is)
    (case ia11 => k_is)
    (case it11 => k_is)
    (case il11 => k_is)
    (case ic11 => k_is)
    (case ik11 => k_is)
    (case nf11a => k_is)
    (case aC12 => k_is)
    (case xL12 => k_is)
    (case sa12 => k_is)
    (case ex12 => k_is)
    (case ty12 => k_is)
    (case kC12 => k_is)
    (case ga12 => k_is)
    (case gg12 => k_is)
    (case hd12 => k_is)
    (case ha12 => k_is)
    (case hm12 => k_is)
    (case ia12 => k_is)
    (case it12 => k_is)
    (case il12 => k_is)
    (case ic12 => k_is)
    (case ik12 => k_is)
    (case nf12a => k_is)
    (case nf12b => k_is)
    (case aC13 => k_is)
    (case xL13 => k_is)
    (case sa13 => k_is)
    (case ex13 => k_is)
    (case ty13 => k_is)
    (case kC13 => k_is)
    (case ga13 => k_is)
    (case gg13 => k_is)
    (case hd13 => k_is)
    (case ha13 => k_is)
    (case hm13 => k_is)
    (case ei13 => k_exc)
    (case aC14 => k_is)
    (case xL14 => k_is)
    (case sa14 => k_is)
    (case ex14 => k_is)
    (case ty14 => k_is)
    (case kC14 => k_is)
    (case ga14 => k_is)
    (case gg14 => k_is)
    (case hd14 => k_is)
    (case ha14 => k_is)
    (case hm14 => k_is)
    (case ia14 => k_is)
    (case it14 => k_is)
    (case il14 => k_is)
    (case ic14 => k_is)
    (case ik14 => k_is)
    (case nf14a => k_is)
    (case aC15 => k_is)
    (case xL15 => k_is)
    (case sa15 => k_is)
    (case ex15 => k_is)
    (case ty15 => k_is)
    (case kC15 => k_is)
    (case ga15 => k_is)
    (case gg15 => k_is)
    (case hd15 => k_is)
    (case ha15 => k_is)
    (case hm15 => k_is)
    (case ei15 => k_exc)
    (case aC16 => k_is)
    (case xL16 => k_is)
    (case sa16 => k_is)
    (case ex16 => k_is)
    (case ty16 => k_is)
    (case kC16 => k_is)
    (case ga16 => k_is)
    (case gg16 => k_is)
    (case hd16 => k_is)
    (case ha16 => k_is)
    (case hm16 => k_is)
    (case ei16 => k_exc)
    (case aC17 => k_is)
    (case xL17 => k_is)
    (case sa17 => k_is)
    (case ex17 => k_is)
    (case ty17 => k_is)
    (case kC17 => k_is)
    (case ga17 => k_is)
    (case gg17 => k_is)
    (case hd17 => k_is)
    (case ha17 => k_is)
    (case hm17 => k_is)
    (case ia17 => k_is)
    (case it17 => k_is)
    (case il17 => k_is)
    (case ic17 => k_is)
    (case ik17 => k_is)
    (case nf17a => k_is)
    (case aC18 => k_is)
    (case xL18 => k_is)
    (case sa18 => k_is)
    (case ex18 => k_is)
    (case ty18 => k_is)
    (case kC18 => k_is)
    (case ga18 => k_is)
    (case gg18 => k_is)
    (case hd18 => k_is)
    (case ha18 => k_is)
    (case hm18 => k_is)
    (case ia18 => k_is)
    (case it18 => k_is)
    (case il18 => k_is)
    (case ic18 => k_is)
    (case ik18 => k_is)
    (case nf18a => k_is)
    (case aC19 => k_is)
    (case xL19 => k_is)
    (case sa19 => k_is)
    (case ex19 => k_is)
    (case ty19 => k_is)
    (case kC19 => k_is)
    (case ga19 => k_is)
    (case gg19 => k_is)
    (case hd19 => k_is)
    (case ha19 => k_is)
    (case hm19 => k_is)
    (case ia19 => k_is)
    (case it19 => k_is)
    (case il19 => k_is)
    (case ic19 => k_is)
    (case ik19 => k_is)
    (case nf19a => k_is)
    (case z_isinstance => k_is)
    (case z_tuple => k_is)
    (case z_list => k_is)
    (case z_len => k_is)
    (case z_all => k_is)
    (case z_range => k_is)
    (case z_bool => k_is)
    (case z_int => k_is)
    (case z_str => k_is)
    (case z_ValueError => k_is)
    (case kk => kernel_rfl)
