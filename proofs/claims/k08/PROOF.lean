import PyProof.Rows.All
import Wide.All
import OpenK.AllK
import Wide.FinOn
import PySem.Challenge.RW_wrongshown_k08_rule_with_part
import HandS.ForMost
import HandS.IsInst
import HandS.Flow
import PyProof.EqAt
import PyProof.EqKinds
import PyProof.TupleCall
import HandS.Strs
import HandS.SetKeys
import HandS.Text
import HandS.TupAny
import HandS.TupMul
import PyProof.InstNe
import HandS.SlotsOwn
import HandS.ForExc
import HandS.ExcIs
import HandS.ExcInit
import HandS.ExcOwn
import HandS.ExcValue
import HandS.Deep
import HandS.TryMany
import HandS.ExcField
import HandS.NoneIn
import HandS.Wide
import HandS.Defaults
import HandS.MakeKwOnly
import HandS.Zip
import KE.KEqDict
import HandS.TupLe
import HandS.DictComp
import HandS.TryOnly
import HandS.TupSets
import HandS.SortRule
import PyProof.Rows.SortKeyStr
import HandS.RevTup
import HandS.More
import HandS.Star
import HandS.Keys
import KE.KDictZip
import PyProof.ListNew
import HandS.Style
import PyProof.Rows.SeqMore
import HandS.Small
import HandS.NamedTupGet
import HandS.Property
import HandS.Head0
import HandS.Head1
import HandS.Head2
import HandS.HeadEnd
import HandS.HeadHook4
set_option Elab.async false
set_option linter.all false
set_option maxRecDepth 100000
set_option maxHeartbeats 4000000
/-! Wn: rules whose reading is decided by what is tracked, and the steps that answer a reading from the left. -/
namespace Wn
open PySem PySem.Spec PyProof.Rows L2
/-! ### operations by what is tracked alone -/
def rIx' : R2 := fun x y H Q => ∃ p xs i v, x = .ref p ∧ y = .int i ∧ H p = some (.lst xs) ∧ atI xs i = some v ∧ Q v H
theorem ix_l {X : Cx} : IxR X rIx' := fun a b c d e f g h i j k l m o ⟨p, xs, n, v, h1, h2, h3, h4, q⟩ => ix_list a b c d e f g h i j k l m o ⟨p, xs, n, v, h1, h2, SqL.of h3, h4, q⟩
def rIxT' : R2 := fun x y H Q => ∃ p xs i v, x = .ref p ∧ y = .int i ∧ H p = some (.tup xs) ∧ atI xs i = some v ∧ Q v H
theorem ix_t {X : Cx} : IxR X rIxT' := fun a b c d e f g h i j k l m o ⟨p, xs, n, v, h1, h2, h3, h4, q⟩ => ix_tup a b c d e f g h i j k l m o ⟨p, xs, n, v, h1, h2, SqT.of h3, h4, q⟩
def rLenL : List V → Hp → VK → Prop := fun xs H Q => ∃ p ys, xs = [.ref p] ∧ H p = some (.lst ys) ∧ Q (.int ys.length) H
theorem call_lenL {X : Cx} : CallR X (.builtin "len") rLenL := fun a b c d e f g h i ⟨p, ys, h1, h2, q⟩ => call_len_seq a b c d e f g h i ⟨p, ys, h1, .inl (SqL.of h2), q⟩
def rLenT : List V → Hp → VK → Prop := fun xs H Q => ∃ p ys, xs = [.ref p] ∧ H p = some (.tup ys) ∧ Q (.int ys.length) H
theorem call_lenT {X : Cx} : CallR X (.builtin "len") rLenT := fun a b c d e f g h i ⟨p, ys, h1, h2, q⟩ => call_len_seq a b c d e f g h i ⟨p, ys, h1, .inr (SqT.of h2), q⟩
def rInt1 : List V → Hp → VK → Prop := fun xs H Q => ∃ i, xs = [.int i] ∧ Q (.int i) H
theorem call_intI {X : Cx} : CallR X (.type "int") rInt1 := fun a b c d e f g h i ⟨n, h1, q⟩ => call_int1 a b c d e f g h i (.inl ⟨n, h1, q⟩)
/-- an if whose ways meet again: where they do, the steps halt -/
def tJoin (p : L2.St → Hp → Prop) : L2.St → Hp → Prop := p
def tIfJ (c : TT) (t u : TS) : TS := fun D σ H => c σ H fun b H1 => if b = true then t { D with nx := tJoin D.nx } σ H1 else u { D with nx := tJoin D.nx } σ H1
theorem ps_ifj {X : Cx} {c : Expr} {a b : List Stmt} {pos : Pos} {tc : TT} {t u : TS} (hc : PT X c tc) (ha : PSs X a t) (hb : PSs X b u) : PS X (.If c a b pos) (tIfJ tc t u) := ps_if hc ha hb
/-! ### answers -/
section
variable {σ σ' : L2.St} {H : Hp} {Q : VK} {D : Ends} {ta tb te : TE} {tl : TA} {g : TG} {t u : TS} {c : TT}
theorem r_seq (h : t { D with nx := u D } σ H) : tSeq t u D σ H := h
theorem r_asg (h : te σ H fun x H1 => g x σ H1 D.nx) : tAsg te g D σ H := h
theorem r_op {r : R2} (h : ta σ H fun x H1 => tb σ H1 fun y H2 => r x y H2 Q) : tOp r ta tb σ H Q := h
theorem r_un {r : V → Hp → VK → Prop} (h : ta σ H fun x H1 => r x H1 Q) : tUn r ta σ H Q := h
theorem r_var {i : Nat} {v : V} (e : σ[i]? = some (some v)) (h : Q v H) : tVar i σ H Q := ⟨v, e, h⟩
theorem r_c {v : V} (h : Q v H) : tC v σ H Q := h
theorem r_test {Q : Bool → Hp → Prop} (h : te σ H fun x H' => ∃ k, x = .bl k ∧ Q k H') : tTest te σ H Q := h
theorem r_tb {Q : Bool → Hp → Prop} (h : te σ H fun x H' => ∃ k, x = .bl k ∧ Q k H') : tB te σ H Q := h
theorem r_bl {Q : Bool → Prop} {b : Bool} (h : Q b) : ∃ k, V.bl b = V.bl k ∧ Q k := ⟨b, rfl, h⟩
theorem r_ifs (h : c σ H fun b H1 => if b = true then t D σ H1 else u D σ H1) : tIfS c t u D σ H := h
theorem r_ifj (h : c σ H fun b H1 => if b = true then t { D with nx := tJoin D.nx } σ H1 else u { D with nx := tJoin D.nx } σ H1) : tIfJ c t u D σ H := h
theorem r_join {p : L2.St → Hp → Prop} (h : p σ H) : tJoin p σ H := h
theorem r_yes {Q : Bool → Hp → Prop} (h : Q true H) : tYes σ H Q := h
theorem r_wipe {s1 s2 : L2.St} {vs : List Nat} {P : Prop} (e : wipe s1 vs = wipe s2 vs) (h : P) : wipe s1 vs = wipe s2 vs ∧ P := ⟨e, h⟩
theorem r_lst (h : tl σ H fun xs H1 => xs.length ≤ sizeLine ∧ ∀ p, H1 p = none → Q (.ref p) (upd H1 p (.lst xs))) : tLst tl σ H Q := h
theorem r_tup (h : tl σ H fun xs H1 => xs.length ≤ sizeLine ∧ ∀ p, H1 p = none → Q (.ref p) (upd H1 p (.tup xs))) : tTup tl σ H Q := h
theorem r_sz {xs : List V} {P : Prop} (e : xs.length ≤ sizeLine) (h : P) : xs.length ≤ sizeLine ∧ P := ⟨e, h⟩
theorem r_ret (h : te σ H D.rt) : tRet te D σ H := h
theorem r_next (h : D.nx σ H) : tNext D σ H := h
theorem r_drop (h : te σ H fun _ H1 => D.nx σ H1) : tDrop te D σ H := h
theorem r_nil {Q : List V → Hp → Prop} (h : Q [] H) : tNil σ H Q := h
theorem r_cons {Q : List V → Hp → Prop} (h : te σ H fun x H1 => tl σ H1 fun xs H2 => Q (x :: xs) H2) : tCons te tl σ H Q := h
theorem r_cb {r : List V → Hp → VK → Prop} (h : tl σ H fun vs H1 => r vs H1 Q) : tCB r tl σ H Q := h
theorem r_call {sp : Sp} {dvs : List V} {E : XK} (h : tl σ H fun vs H1 => sp (vs ++ dvs) H1 Q E) : tCall sp dvs E tl σ H Q := h
theorem r_gname {i : Nat} {v : V} {Q : L2.St → Hp → Prop} (e : σ.set i (some v) = σ') (h : Q σ' H) : gName i v σ H Q := by subst e; exact h
theorem r_gsub {to ti : TE} {r : TSet} {v : V} {Q : L2.St → Hp → Prop} (h : to σ H fun o H1 => ti σ H1 fun i H2 => r o i v H2 fun H3 => Q σ H3) : gSub to ti r v σ H Q := h
theorem r_setl {p : Addr} {k : Int} {j : Nat} {xs ys : List V} {v : V} {Q : Hp → Prop} (e : H p = some (.lst xs)) (hi : ixN xs.length k = some j) (hs : xs.set j v = ys) (h : Q (upd H p (.lst ys))) : rSetL (.ref p) (.int k) v H Q :=
  ⟨p, xs, k, j, rfl, rfl, e, hi, by rw [hs]; exact h⟩
theorem r_I0 {f : Int → Int → V} {i j : Int} (h : Q (f i j) H) : rI0 f (.int i) (.int j) H Q := ⟨i, j, rfl, rfl, h⟩
theorem r_I {C : Int → Int → Prop} {f : Int → Int → V} {i j : Int} (hc : C i j) (h : Q (f i j) H) : rI C f (.int i) (.int j) H Q := ⟨i, j, rfl, rfl, hc, h⟩
theorem r_ix {p : Addr} {i : Int} {xs : List V} {v : V} (e : H p = some (.lst xs)) (hi : atI xs i = some v) (h : Q v H) : rIx' (.ref p) (.int i) H Q := ⟨p, xs, i, v, rfl, rfl, e, hi, h⟩
theorem r_ixt {p : Addr} {i : Int} {xs : List V} {v : V} (e : H p = some (.tup xs)) (hi : atI xs i = some v) (h : Q v H) : rIxT' (.ref p) (.int i) H Q := ⟨p, xs, i, v, rfl, rfl, e, hi, h⟩
theorem r_lenl {p : Addr} {xs : List V} (e : H p = some (.lst xs)) (h : Q (.int xs.length) H) : rLenL [.ref p] H Q := ⟨p, xs, rfl, e, h⟩
theorem r_lent {p : Addr} {xs : List V} (e : H p = some (.tup xs)) (h : Q (.int xs.length) H) : rLenT [.ref p] H Q := ⟨p, xs, rfl, e, h⟩
theorem r_int1 {i : Int} (h : Q (.int i) H) : rInt1 [.int i] H Q := ⟨i, rfl, h⟩
theorem r_eq {x y : V} (hs : scal x y = true) (h : Q (.bl (decide (x = y))) H) : rEq x y H Q := ⟨hs, h⟩
theorem r_ne {x y : V} (hs : scal x y = true) (h : Q (.bl (!decide (x = y))) H) : rNe x y H Q := ⟨hs, h⟩
theorem r_and {a b : TT} {Q : Bool → Hp → Prop} (h : a σ H fun c H1 => if c = true then b σ H1 Q else Q false H1) : tAnd a b σ H Q := h
theorem r_or {a b : TT} {Q : Bool → Hp → Prop} (h : a σ H fun c H1 => if c = true then Q true H1 else b σ H1 Q) : tOr a b σ H Q := h
theorem r_not {a : TT} {Q : Bool → Hp → Prop} (h : a σ H fun c H1 => Q (!c) H1) : tNot a σ H Q := h
theorem r_ife {a : TT} (h : a σ H fun c H1 => if c = true then ta σ H1 Q else tb σ H1 Q) : tIf a ta tb σ H Q := h
/-- an if over a decided test -/
theorem ifd {p A B : Prop} [Decidable p] (h1 : p → A) (h2 : ¬ p → B) : if decide p = true then A else B := by
  by_cases h : p
  · rw [if_pos (decide_eq_true h)]; exact h1 h
  · rw [if_neg (by rw [decide_eq_false h]; exact Bool.false_ne_true)]; exact h2 h
theorem ifd_int {i j : Int} {A B : Prop} (h1 : i = j → A) (h2 : i ≠ j → B) : if decide (V.int i = V.int j) = true then A else B :=
  ifd (fun e => h1 (V.int.inj e)) fun e => h2 fun z => e (by rw [z])
theorem map_at {ns : List Int} {i : Nat} {x : V} (h : (ns.map V.int)[i]? = some x) : ∃ z, ns[i]? = some z ∧ x = V.int z := by
  rw [List.getElem?_map] at h
  cases e : ns[i]? with
  | none => rw [e] at h; cases h
  | some z => rw [e] at h; exact ⟨z, rfl, (Option.some.inj h).symm⟩
theorem same_new {H : Hp} {p : Addr} {o : HO} (h : H p = none) : Same H (upd H p o) := fun b x e => (upd_ne (ne_of_none e h)).trans e
theorem take_at {α : Type} {l : List α} {i : Nat} {x : α} (h : l[i]? = some x) : l.take (i + 1) = l.take i ++ [x] := by
  rw [List.take_add_one, h]; rfl
theorem ite_t {c : Bool} {A B : Prop} (e : c = true) (h : A) : if c = true then A else B := by rw [if_pos e]; exact h
theorem ite_f {c : Bool} {A B : Prop} (e : c = false) (h : B) : if c = true then A else B := by rw [if_neg (by rw [e]; exact Bool.false_ne_true)]; exact h
def vk : V → Nat
  | .non => 0 | .bl _ => 1 | .int _ => 2 | .str _ => 3 | .byt _ => 4 | .flt _ => 5 | .ref _ => 6 | .ty _ => 7
theorem clash_ne {x y : V} (h : (vk x != vk y) = true) : ¬ x = y := fun e => by
  subst e
  simp at h
theorem qdec {Q : VK} {H : Hp} {p : Prop} [Decidable p] (h : p) (q : Q (.bl true) H) : Q (.bl (decide p)) H := by rw [decide_eq_true h]; exact q
theorem nd_t {p : Prop} [Decidable p] (h : ¬ p) : (!decide p) = true := by rw [decide_eq_false h]; rfl
theorem nd_f {p : Prop} [Decidable p] (h : p) : (!decide p) = false := by rw [decide_eq_true h]; rfl
theorem r_andr {α : Sort _} {a : α} {P : Prop} (h : P) : a = a ∧ P := ⟨rfl, h⟩
theorem r_andv (h : ta σ H fun x H1 => ∃ c, x = .bl c ∧ if c = true then tb σ H1 Q else Q (.bl false) H1) : tAndV ta tb σ H Q := h
theorem r_orv (h : ta σ H fun x H1 => ∃ c, x = .bl c ∧ if c = true then Q (.bl true) H1 else tb σ H1 Q) : tOrV ta tb σ H Q := h
theorem r_notv (h : ta σ H fun x H1 => ∃ c, x = .bl c ∧ Q (.bl (!c)) H1) : tNotV ta σ H Q := h
/-! ### look-ups -/
theorem ne_ex {H : Hp} {a b : Addr} (h : ∃ o, H a = some o) (h' : H b = none) : a ≠ b := let ⟨_, e⟩ := h; ne_of_none e h'
theorem lk_ne {a b : Addr} {o u : HO} (h : b ≠ a) (e : H b = some o) : upd H a u b = some o := (upd_ne h).trans e
theorem lkn_ne {a b : Addr} {u : HO} (h : b ≠ a) (e : H b = none) : upd H a u b = none := (upd_ne h).trans e
end
/-! ### data -/
mutual
theorem dp_mono {K : PySem.W.Frag} {H H' : Hp} (e : Same H H') : ∀ {x : V} {d : PyData}, Dp K H x d → Dp K H' x d
  | _, _, .non => .non
  | _, _, .bl b => .bl b
  | _, _, .int i => .int i
  | _, _, .str x => .str x
  | _, _, .lst h a => .lst (e.seq h) (dpAll_mono e a)
  | _, _, .tup h a => .tup (by
      rcases h with (h | ⟨o, h⟩) | h
      · exact .inl (.inl (e _ _ h))
      · exact .inl (.inr ⟨o, e _ _ h⟩)
      · exact .inr h) (dpAll_mono e a)
theorem dpAll_mono {K : PySem.W.Frag} {H H' : Hp} (e : Same H H') : ∀ {xs : List V} {ds : List PyData}, DpAll K H xs ds → DpAll K H' xs ds
  | _, _, .nil => .nil
  | _, _, .cons a b => .cons (dp_mono e a) (dpAll_mono e b)
end
theorem dpAll_len {K : PySem.W.Frag} {H : Hp} : ∀ {xs : List V} {ds : List PyData}, DpAll K H xs ds → xs.length = ds.length
  | _, _, .nil => rfl
  | _, _, .cons _ b => by rw [List.length_cons, List.length_cons, dpAll_len b]
theorem dpAll_at {K : PySem.W.Frag} {H : Hp} : ∀ {xs : List V} {ds : List PyData} {i : Nat} {x : V}, DpAll K H xs ds → xs[i]? = some x → ∃ d, ds[i]? = some d ∧ Dp K H x d
  | _, _, _, _, .nil, e => by simp at e
  | _, _, 0, _, .cons a _, e => by simp at e; subst e; exact ⟨_, rfl, a⟩
  | _, _, i + 1, x, .cons _ b, e => by
    obtain ⟨d, h1, h2⟩ := dpAll_at (i := i) (x := x) b (by simpa using e)
    exact ⟨d, by simpa using h1, h2⟩
def tyN : PyData → String
  | .none => "NoneType" | .bool _ => "bool" | .int _ => "int" | .str _ => "str" | .list _ => "list" | .tuple _ => "tuple" | .dict _ => "dict"
theorem ty_of {K : PySem.W.Frag} {H : Hp} {x : V} {d : PyData} (h : Dp K H x d) : TyX K H x (.type (tyN d)) := by
  cases h with
  | non => exact .base .non
  | bl b => exact .base (.bl b)
  | int i => exact .base (.int i)
  | str x => exact .base (.str x)
  | lst h a =>
    rcases h with (h | ⟨o, h⟩) | ⟨o, its, n, l, c, _⟩
    · exact .base (.lst h)
    · exact .base (.frz h)
    · exact .kList l c
  | tup h a =>
    rcases h with (h | ⟨o, h⟩) | ⟨o, its, n, l, c, _⟩
    · exact .base (.tup h)
    · exact .fTuple h
    · exact .kTuple l c
def isTup : PyData → Bool
  | .tuple _ => true
  | _ => false
theorem kit_isTup {K : PySem.W.Frag} {H : Hp} {x : V} {d : PyData} (h : Dp K H x d) : PySem.W.kitOne K (.type (tyN d)) (.type "tuple") = some (isTup d) := by
  cases h with
  | non => exact kit_ty (show kitB "NoneType" "tuple" = some false by decide +kernel)
  | bl => exact kit_ty (show kitB "bool" "tuple" = some false by decide +kernel)
  | int => exact kit_ty (show kitB "int" "tuple" = some false by decide +kernel)
  | str => exact kit_ty (show kitB "str" "tuple" = some false by decide +kernel)
  | lst => exact kit_ty (show kitB "list" "tuple" = some false by decide +kernel)
  | tup => exact kit_ty (show kitB "tuple" "tuple" = some true by decide +kernel)
theorem r_isTup {K : PySem.W.Frag} {H : Hp} {x : V} {d : PyData} {b : Bool} {Q : VK} (h : Dp K H x d) (e : isTup d = b) (q : Q (.bl b) H) : rIsi K [x, .ty "tuple"] H Q :=
  ⟨x, .ty "tuple", _, _, b, rfl, .ty _, ty_of h, by rw [← e]; exact kit_isTup h, q⟩
def isLst : PyData → Bool
  | .list _ => true
  | _ => false
theorem kit_isLst {K : PySem.W.Frag} {H : Hp} {x : V} {d : PyData} (h : Dp K H x d) : PySem.W.kitOne K (.type (tyN d)) (.type "list") = some (isLst d) := by
  cases h with
  | non => exact kit_ty (show kitB "NoneType" "list" = some false by decide +kernel)
  | bl => exact kit_ty (show kitB "bool" "list" = some false by decide +kernel)
  | int => exact kit_ty (show kitB "int" "list" = some false by decide +kernel)
  | str => exact kit_ty (show kitB "str" "list" = some false by decide +kernel)
  | lst => exact kit_ty (show kitB "list" "list" = some true by decide +kernel)
  | tup => exact kit_ty (show kitB "tuple" "list" = some false by decide +kernel)
theorem r_isLst {K : PySem.W.Frag} {H : Hp} {x : V} {d : PyData} {b : Bool} {Q : VK} (h : Dp K H x d) (e : isLst d = b) (q : Q (.bl b) H) : rIsi K [x, .ty "list"] H Q :=
  ⟨x, .ty "list", _, _, b, rfl, .ty _, ty_of h, by rw [← e]; exact kit_isLst h, q⟩
def isBl : PyData → Bool
  | .bool _ => true
  | _ => false
theorem kit_isBl {K : PySem.W.Frag} {H : Hp} {x : V} {d : PyData} (h : Dp K H x d) : PySem.W.kitOne K (.type (tyN d)) (.type "bool") = some (isBl d) := by
  cases h with
  | non => exact kit_ty (show kitB "NoneType" "bool" = some false by decide +kernel)
  | bl => exact kit_ty (show kitB "bool" "bool" = some true by decide +kernel)
  | int => exact kit_ty (show kitB "int" "bool" = some false by decide +kernel)
  | str => exact kit_ty (show kitB "str" "bool" = some false by decide +kernel)
  | lst => exact kit_ty (show kitB "list" "bool" = some false by decide +kernel)
  | tup => exact kit_ty (show kitB "tuple" "bool" = some false by decide +kernel)
theorem r_isBl {K : PySem.W.Frag} {H : Hp} {x : V} {d : PyData} {b : Bool} {Q : VK} (h : Dp K H x d) (e : isBl d = b) (q : Q (.bl b) H) : rIsi K [x, .ty "bool"] H Q :=
  ⟨x, .ty "bool", _, _, b, rfl, .ty _, ty_of h, by rw [← e]; exact kit_isBl h, q⟩
def isIn : PyData → Bool
  | .bool _ => true
  | .int _ => true
  | _ => false
theorem kit_isIn {K : PySem.W.Frag} {H : Hp} {x : V} {d : PyData} (h : Dp K H x d) : PySem.W.kitOne K (.type (tyN d)) (.type "int") = some (isIn d) := by
  cases h with
  | non => exact kit_ty (show kitB "NoneType" "int" = some false by decide +kernel)
  | bl => exact kit_ty (show kitB "bool" "int" = some true by decide +kernel)
  | int => exact kit_ty (show kitB "int" "int" = some true by decide +kernel)
  | str => exact kit_ty (show kitB "str" "int" = some false by decide +kernel)
  | lst => exact kit_ty (show kitB "list" "int" = some false by decide +kernel)
  | tup => exact kit_ty (show kitB "tuple" "int" = some false by decide +kernel)
theorem r_isIn {K : PySem.W.Frag} {H : Hp} {x : V} {d : PyData} {b : Bool} {Q : VK} (h : Dp K H x d) (e : isIn d = b) (q : Q (.bl b) H) : rIsi K [x, .ty "int"] H Q :=
  ⟨x, .ty "int", _, _, b, rfl, .ty _, ty_of h, by rw [← e]; exact kit_isIn h, q⟩
def isSt : PyData → Bool
  | .str _ => true
  | _ => false
theorem kit_isSt {K : PySem.W.Frag} {H : Hp} {x : V} {d : PyData} (h : Dp K H x d) : PySem.W.kitOne K (.type (tyN d)) (.type "str") = some (isSt d) := by
  cases h with
  | non => exact kit_ty (show kitB "NoneType" "str" = some false by decide +kernel)
  | bl => exact kit_ty (show kitB "bool" "str" = some false by decide +kernel)
  | int => exact kit_ty (show kitB "int" "str" = some false by decide +kernel)
  | str => exact kit_ty (show kitB "str" "str" = some true by decide +kernel)
  | lst => exact kit_ty (show kitB "list" "str" = some false by decide +kernel)
  | tup => exact kit_ty (show kitB "tuple" "str" = some false by decide +kernel)
theorem r_isSt {K : PySem.W.Frag} {H : Hp} {x : V} {d : PyData} {b : Bool} {Q : VK} (h : Dp K H x d) (e : isSt d = b) (q : Q (.bl b) H) : rIsi K [x, .ty "str"] H Q :=
  ⟨x, .ty "str", _, _, b, rfl, .ty _, ty_of h, by rw [← e]; exact kit_isSt h, q⟩
/-- an item of a list or a tuple -/
def rIxA (K : PySem.W.Frag) : R2 := fun x y H Q => ∃ p xs i v, x = .ref p ∧ y = .int i ∧ (SqL K H p xs ∨ SqT K H p xs) ∧ atI xs i = some v ∧ Q v H
theorem ix_a {X : Cx} : IxR X (rIxA X.K) := fun a b c d e f g h i j k l m o ⟨p, xs, n, v, h1, h2, h3, h4, q⟩ => by
  rcases h3 with h3 | h3
  · exact ix_list a b c d e f g h i j k l m o ⟨p, xs, n, v, h1, h2, h3, h4, q⟩
  · exact ix_tup a b c d e f g h i j k l m o ⟨p, xs, n, v, h1, h2, h3, h4, q⟩
theorem ix_aK {X : Cx} {K : PySem.W.Frag} (e : X.K = K) : IxR X (rIxA K) := by subst e; exact ix_a
def rLenS (K : PySem.W.Frag) : List V → Hp → VK → Prop := fun xs H Q => ∃ p ys, xs = [.ref p] ∧ (SqL K H p ys ∨ SqT K H p ys) ∧ Q (.int ys.length) H
theorem call_lenK {X : Cx} {K : PySem.W.Frag} (e : X.K = K) : CallR X (.builtin "len") (rLenS K) := by subst e; exact call_len_seq
theorem r_lens {K : PySem.W.Frag} {H : Hp} {p : Addr} {xs : List V} {Q : VK} (e : SqL K H p xs ∨ SqT K H p xs) (h : Q (.int xs.length) H) : rLenS K [.ref p] H Q := ⟨p, xs, rfl, e, h⟩
theorem cr_allK {X : Cx} {K : PySem.W.Frag} (e : X.K = K) (hc : X.calm = true) : CallR X (.builtin "all") (rAll K) := by subst e; exact cr_all hc
theorem call_isiK' {X : Cx} {K : PySem.W.Frag} (e : X.K = K) : CallR X (.builtin "isinstance") (rIsi K) := by subst e; exact call_isi
theorem r_ixa {K : PySem.W.Frag} {H : Hp} {p : Addr} {i : Int} {xs : List V} {v : V} {Q : VK} (e : SqL K H p xs ∨ SqT K H p xs) (hi : atI xs i = some v) (h : Q v H) : rIxA K (.ref p) (.int i) H Q := ⟨p, xs, i, v, rfl, rfl, e, hi, h⟩
/-- a list or a tuple of data -/
inductive DSeq (K : PySem.W.Frag) (H : Hp) : V → List PyData → Prop
  | mk {a : Addr} {xs : List V} {ds : List PyData} : (SqL K H a xs ∨ SqT K H a xs) → DpAll K H xs ds → DSeq K H (.ref a) ds
end Wn
namespace Wn
open PySem PySem.Spec PyProof.Rows L2
theorem has_ne {H : Hp} {a b : Addr} {u : HO} (h : b ≠ a) (e : ∃ o, H b = some o) : ∃ o, upd H a u b = some o := let ⟨o, z⟩ := e; ⟨o, (upd_ne h).trans z⟩
section
variable {σ σ' : L2.St} {H : Hp} {Q : VK} {D : Ends} {ta tb te to : TE} {tl : TA} {K : PySem.W.Frag}
theorem r_bm {T : String} {r : V → List V → Hp → VK → Prop} (h : to σ H fun x H1 => tyV K T x H1 ∧ tl σ H1 fun xs H2 => r x xs H2 Q) : tBM K T r to tl σ H Q := h
theorem r_tyl {p : Addr} {xs : List V} {P : Prop} (e : H p = some (.lst xs)) (h : P) : tyV K "list" (.ref p) H ∧ P := ⟨.inl ⟨rfl, xs, SqL.of e⟩, h⟩
theorem r_ext {l b : Addr} {xs zs : List V} (h1 : H l = some (.lst xs)) (h2 : H b = some (.lst zs)) (hz : xs.length + zs.length ≤ sizeLine) (q : Q .non (upd H l (.lst (xs ++ zs)))) : rExtend (.ref l) [.ref b] H Q :=
  ⟨l, b, xs, zs, rfl, rfl, h1, h2, hz, q⟩
theorem r_cat {l b : Addr} {xs zs : List V} (h1 : H l = some (.lst xs)) (h2 : H b = some (.lst zs)) (hz : xs.length + zs.length ≤ sizeLine) (q : ∀ p, H p = none → Q (.ref p) (upd H p (.lst (xs ++ zs)))) : rCat (.ref l) (.ref b) H Q :=
  ⟨l, b, xs, zs, rfl, rfl, h1, h2, hz, q⟩
theorem same_upd {H H' : Hp} {p : Addr} {o : HO} (s : Same H H') (n : H p = none) : Same H (upd H' p o) := fun b x e => (upd_ne (ne_of_none e n)).trans (s b x e)
end
end Wn
/-! Wn: set(xs) of a list or a tuple whose items have any kind of key. -/
namespace WnSet
open PySem PySem.Spec PyProof.Rows
section
variable {κ : Type} [DecidableEq κ] [BEq κ] [LawfulBEq κ]
/-- how many different ones are among the first i -/
def cnt (xs : List κ) : Nat → Nat
  | 0 => 0
  | i + 1 => match xs[i]? with
    | some x => if (xs.take i).any (· == x) then cnt xs i else cnt xs i + 1
    | none => cnt xs i
theorem cnt_le (xs : List κ) : ∀ i, cnt xs i ≤ i
  | 0 => Nat.le_refl _
  | i + 1 => by
    have ih := cnt_le xs i
    unfold cnt
    split
    · split <;> omega
    · omega
theorem cnt_nodup {xs : List κ} (h : xs.Nodup) : ∀ i, i ≤ xs.length → cnt xs i = i
  | 0, _ => rfl
  | i + 1, hi => by
    have ih := cnt_nodup h i (by omega)
    have e : xs[i]? = some xs[i] := List.getElem?_eq_getElem (by omega)
    unfold cnt
    rw [e]
    dsimp only
    rw [ih, if_neg]
    intro q
    obtain ⟨y, hy, z⟩ := List.any_eq_true.mp q
    have z' : y = xs[i] := beq_iff_eq.mp z
    rw [z'] at hy
    obtain ⟨j, hj, ej⟩ := List.mem_take_iff_getElem.mp hy
    have hj' : j < i := by omega
    exact (List.pairwise_iff_getElem.mp h) j i (by omega) (by omega) hj' ej
theorem take_any {xs : List κ} {i : Nat} {x : κ} (e : xs[i]? = some x) (y : κ) : (xs.take (i + 1)).any (· == y) = ((xs.take i).any (· == y) || decide (y = x)) := by
  rw [List.take_add_one, e, List.any_append]
  by_cases h : y = x
  · subst h
    simp
  · have hb : (x == y) = false := by simpa [beq_iff_eq] using fun q : x = y => h q.symm
    simp [hb, h]
end
section
variable {prog : Program} {w : World} {A : Around} {R : Result → Shared → Prop} {I : Addr} {fp wr : List Addr} {G : Array GenState → Array GenState → Prop} {n : Nat} {P : Nat → Value → Prop} {St : Nat → Shared → Prop}
  {κ : Type} [DecidableEq κ] [BEq κ] [LawfulBEq κ]
theorem turns (knd : KeyKind prog w κ) (W : WalksS prog w A.in1 I fp wr G n P St) (S : Addr) (away : S ∉ fp) (xs : List κ) (room : n + 1 < scanBound)
    (item : ∀ i v, P i v → ∃ k, xs[i]? = some k ∧ knd.is k v = true ∧ v.scannable = true) :
    ∀ (k i : Nat) (s : Shared), n - i = k → i ≤ n → St i s → s.heap.SetOf knd S (fun y => (xs.take i).any (· == y)) (cnt xs i) →
      (∀ s', Moved (S :: wr) G s s' → s'.heap.SetOf knd S (fun y => (xs.take n).any (· == y)) (cnt xs n) → R (.ok (.ret .none)) s') →
      codeAny (model prog w) A (.builtin "set.update.loop" ⟨[.ref S, .ref I], []⟩) R s := by
  have away2 : S ∉ wr := fun z => away (W.sub _ z)
  have more : ∀ b ∈ wr, b ∈ S :: wr := fun b z => List.mem_cons_of_mem _ z
  intro k
  induction k with
  | zero =>
    intro i s hk hi st hS fin
    obtain rfl : i = n := by omega
    refine codeAny_builtin PyProof.Rows.F.entry_set_update_loop ?_
    rw [Around.under_plainId
      PyProof.Rows.F.plain_set_update_loop _]
    show wpAny _ A.in1 (pyNext (.ref I) >>= _)
      _ _ s
    refine wpAny_bind (W.done s _ _ st fun s2 mv => ?_)
    show wpAny _ A.in1 (ret Value.none) _ _ s2
    obtain ⟨o, es, ep, t, ho, tail⟩ := hS
    exact wpAny_pure (fin s2 (mv.mono more) ⟨o, es, ep, t, mv.heap S _ away2 ho, tail⟩)
  | succ k ih =>
    intro i s hk hi st hS fin
    have lt : i < n := by omega
    refine codeAny_builtin PyProof.Rows.F.entry_set_update_loop ?_
    rw [Around.under_plainId
      PyProof.Rows.F.plain_set_update_loop _]
    show wpAny _ A.in1 (pyNext (.ref I) >>= _)
      _ _ s
    refine wpAny_bind (W.item i s _ _ lt st fun v s2 pv st2 mv => ?_)
    obtain ⟨x, ex, ix, sx⟩ := item i v pv
    have hS2 : s2.heap.SetOf knd S (fun y => (xs.take i).any (· == y)) (cnt xs i) := by
      obtain ⟨o, es, ep, t, ho, tail⟩ := hS
      exact ⟨o, es, ep, t, mv.heap S _ away2 ho, tail⟩
    show wpAny _ A.in1 (holding [v] (setAdd S v) >>= _) _ _ s2
    refine wpAny_bind (wpAny_holding ?_)
    unfold setAdd
    refine wpAny_holding ?_
    refine wpAny_bind (knd.pyHash (k := x) ix ?_)
    have few := cnt_le xs i
    refine wpAny_setAddHashed_of (knd := knd) (s := { s2 with toks := s2.toks + 1 }) ix sx hS2 (by omega) fun h2 sb hS3 => ?_
    have hS4 : h2.SetOf knd S (fun y => (xs.take (i + 1)).any (· == y)) (cnt xs (i + 1)) := by
      refine SetOf_congr hS3 (fun y => (take_any ex y).symm) ?_
      rw [show cnt xs (i + 1) = if (xs.take i).any (· == x) then cnt xs i else cnt xs i + 1 by
        rw [cnt, ex]]
    refine wpAny_pure ⟨plainId_quiet PyProof.Rows.F.plain_set_update_loop _, ih (i + 1) _ (by omega) lt (W.frame _ s2 _ _ st2 (Nat.le_succ _) fun b hb o e => ?_) hS4 fun s3 mv3 hS5 => ?_⟩
    · rw [sb.2 b fun z : b = S => away (by rw [← z]; exact hb)]
      exact e
    · refine fin s3 (Moved.trans W.gtrans ((mv.mono more).then_heap (Nat.le_succ _) fun b o hb e => ?_) mv3) hS5
      rw [sb.2 b fun z : b = S => hb (by rw [z]; exact List.mem_cons_self)]
      exact e
end
section
/-- the new set -/
def fresh (led : Bool) : Obj := { cls := .type "set", dict := none, data := .set #[] 0 (.fresh 0 0 led) }
variable {prog : Program} {w : World} {A : Around} {E : Value → Shared → Prop} {s : Shared} {κ : Type} [DecidableEq κ] [BEq κ] [LawfulBEq κ]
set_option maxHeartbeats 8000000 in
theorem call_set_list {l : Addr} {its : Array Value} (knd : KeyKind prog w κ) {xs : List κ} {Q : Value → Shared → Prop} (calm : A.handled = none) (hl : s.heap.IsList l its) (room : its.size + 1 < scanBound)
    (item : ∀ (i : Nat) (v : Value), its[i]? = some v → ∃ k, xs[i]? = some k ∧ knd.is k v = true ∧ v.scannable = true)
    (h : ∀ (h' : Heap) (tk : Nat), h'.SetOf knd s.heap.objs.size (fun y => (xs.take its.size).any (· == y)) (cnt xs its.size) →
      (∀ b o, b < s.heap.objs.size → s.heap.get? b = some o → h'.get? b = some o) → Q (.ref s.heap.objs.size) { s with heap := h', toks := tk }) :
    wpAny (model prog w) A (call (.type "set") [.ref l]) Q E s := by
  obtain ⟨c, tl, m1⟩ := PySem.F.called_set.mro
  have m2 := PySem.F.called_set.made
  have m3 := PySem.F.called_set.sub
  refine wpAny_call
    (codeAny_of_tree ?_)
  show wpAny _ _ (callAny (.type "set")
    _) _ _ _
  refine wpAny_pure ⟨Code.quiet_builtin _
    (by decide +kernel), codeAny_builtin PySem.F.entry_type_call ?_⟩
  rw [Around.under_plain (weight_type_call_type "set"
    [.ref l] []) rfl]
  have m4 := PySem.F.called_set.notType
  have m5 := PySem.F.called_set.canCreate
  have m6 := PySem.F.typeCall_set_1 (.ref l)
  repeat (any_goals
    (first | assumption | wp_step))
  refine codeAny_mono (code_set_new_1 (.ref l) (E := E) (Q₁ := fun ob s2 => ∃ led : Bool, ob = .ref s.heap.objs.size ∧
    s2 = { s with heap := s.heap.push (fresh led) }) fun led => ⟨led, rfl, rfl⟩) fun r s2 hr => ?_
  cases r with
  | error e => exact hr
  | ok fl =>
    cases fl with
    | ret ob =>
      obtain ⟨led, rfl, rfl⟩ := hr
      have eS : (s.heap.push (fresh led)).get? s.heap.objs.size = some (fresh led) := Heap.get?_push_size _ rfl
      have tS : Shared.TypeIs { s with heap := s.heap.push (fresh led) } (.ref s.heap.objs.size) "set" := ⟨_, eS, rfl⟩
      have m7 := PySem.F.called_set.init.lookup
      have m8 := PySem.F.called_set.init.bind
        (.ref s.heap.objs.size)
      repeat (any_goals
        (first | assumption | wp_step))
      refine codeAny_mono (codeAny_call_builtin (R := wants (fun r s3 => r = .none ∧ ∃ h' tk, s3 = { s with heap := h', toks := tk } ∧ h'.SetOf knd s.heap.objs.size (fun y => (xs.take its.size).any (· == y)) (cnt xs its.size) ∧
        (∀ b o, b < s.heap.objs.size → s.heap.get? b = some o → h'.get? b = some o)) E) PySem.F.called_set.init.plain
          PySem.F.entry_set_init (check_set_init_1 tS ?_)) fun r3 s3 hr3 => ?_
      · obtain ⟨ol, e1, e2, nl, e3⟩ := hl
        obtain ⟨oc, od, odt, osl⟩ := ol
        simp only at e2 e3
        subst e2
        subst e3
        have e4 : (s.heap.push (fresh led)).get? l = some { cls := .type "list", dict := od, data := .seq its nl, slots := osl } := Heap.get?_push_of_some _ e1
        have m9 := PySem.F.sub_list_set
        have m10 := PySem.F.sub_list_frozenset
        have m11 : (Value.type "list"
          == Value.type "dict") = false := by decide
        have hl1 : (s.heap.push (fresh led)).IsList l its := ⟨_, e4, rfl, nl, rfl⟩
        have m12 : (fresh led).cls = .type "set" := rfl
        unfold fresh at *
        unfold Builtin.«set.__init__» noKeywords
          Builtin.Frozenset.updateFrom
        generalize hPI : pyIter = PI
        wp_walk
        subst hPI
        refine wpAny_pyIter_list hl1 ?_
        refine wpAny_bind
          (wpAny_runValue ?_)
        have below : l < s.heap.objs.size := Heap.lt_size e1
        have calm3 : A.in1.in1.in1.handled = none := by
          simp [calm]
        have apart : l ≠ (s.heap.push { cls := .type "set", dict := none, data := .set #[] 0 (.fresh 0 0 led) } : Heap).objs.size := by
          rw [Heap.size_push]
          exact Nat.ne_of_lt (Nat.lt_succ_of_lt below)
        have away : s.heap.objs.size ∉ [(s.heap.push { cls := .type "set", dict := none, data := .set #[] 0 (.fresh 0 0 led) } : Heap).objs.size, l] := by
          rw [Heap.size_push]
          simp only [List.mem_cons,List.not_mem_nil, or_false, not_or]
          exact ⟨Nat.ne_of_lt (Nat.lt_succ_self _), Nat.ne_of_gt below⟩
        refine turns knd ((Walks.list calm3 _ l apart its).toS) s.heap.objs.size away xs room item
          (its.size - 0) 0 _ (by omega) (Nat.zero_le _) ⟨⟨_, Heap.get?_push_size _ rfl, rfl, rfl⟩, (hl1.push _)⟩ ?g1 ?g2
        case g1 =>
          have e5 := Heap.get?_push_of_some ({ cls := .type "list_iterator", data := .fields #[.ref l, .int 0 0] } : Obj) eS
          exact PyProof.Rows.SetOf_congr ((PyProof.Rows.setObjOf_fresh (knd := knd) led).setOf e5
            (by unfold scanBound; omega)) (fun _ => rfl) rfl
        case g2 =>
          intro s4 mv hS4
          obtain ⟨h4, g4, d4, t4, os4⟩ := s4
          obtain rfl : g4 = s.gens := mv.gens
          obtain rfl : d4 = s.drawn := mv.drawn
          obtain rfl : os4 = s.os := mv.os
          show wpAny _ _ _ _ _ _
          refine wpAny_pure ?_
          show wpAny _ _ (ret Value.none)
            _ _ _
          refine wpAny_pure ⟨rfl, h4, t4, rfl, hS4, fun b o hb e => ?_⟩
          have n1 : b ≠ s.heap.objs.size := Nat.ne_of_lt hb
          have n2 : b ≠ (s.heap.push { cls := .type "set", dict := none, data := .set #[] 0 (.fresh 0 0 led) } : Heap).objs.size := by
            rw [Heap.size_push]
            exact Nat.ne_of_lt (Nat.lt_succ_of_lt hb)
          refine mv.heap b o ?_ (Heap.get?_push_of_some _ (Heap.get?_push_of_some _ e))
          simp only [List.mem_cons,List.not_mem_nil, or_false, not_or]
          exact ⟨n1, n2⟩
      · cases r3 with
        | error e => exact hr3
        | ok f3 =>
          cases f3 with
          | ret r =>
            obtain ⟨rfl, h', tk, rfl, hS', keep⟩ := hr3
            repeat (any_goals
              (first | assumption | wp_step))
            exact h _ _ hS' keep
          | _ => exact hr3.elim
    | _ => exact hr.elim
set_option maxHeartbeats 8000000 in
theorem call_set_tuple {l : Addr} {its : Array Value} (knd : KeyKind prog w κ) {xs : List κ} {Q : Value → Shared → Prop} (calm : A.handled = none) (hl : s.heap.IsTuple l its) (room : its.size + 1 < scanBound)
    (item : ∀ (i : Nat) (v : Value), its[i]? = some v → ∃ k, xs[i]? = some k ∧ knd.is k v = true ∧ v.scannable = true)
    (h : ∀ (h' : Heap) (tk : Nat), h'.SetOf knd s.heap.objs.size (fun y => (xs.take its.size).any (· == y)) (cnt xs its.size) →
      (∀ b o, b < s.heap.objs.size → s.heap.get? b = some o → h'.get? b = some o) → Q (.ref s.heap.objs.size) { s with heap := h', toks := tk }) :
    wpAny (model prog w) A (call (.type "set") [.ref l]) Q E s := by
  obtain ⟨c, tl, m1⟩ := PySem.F.called_set.mro
  have m2 := PySem.F.called_set.made
  have m3 := PySem.F.called_set.sub
  refine wpAny_call
    (codeAny_of_tree ?_)
  show wpAny _ _ (callAny (.type "set")
    _) _ _ _
  refine wpAny_pure ⟨Code.quiet_builtin _
    (by decide +kernel), codeAny_builtin PySem.F.entry_type_call ?_⟩
  rw [Around.under_plain (weight_type_call_type "set"
    [.ref l] []) rfl]
  have m4 := PySem.F.called_set.notType
  have m5 := PySem.F.called_set.canCreate
  have m6 := PySem.F.typeCall_set_1 (.ref l)
  repeat (any_goals
    (first | assumption | wp_step))
  refine codeAny_mono (code_set_new_1 (.ref l) (E := E) (Q₁ := fun ob s2 => ∃ led : Bool, ob = .ref s.heap.objs.size ∧
    s2 = { s with heap := s.heap.push (fresh led) }) fun led => ⟨led, rfl, rfl⟩) fun r s2 hr => ?_
  cases r with
  | error e => exact hr
  | ok fl =>
    cases fl with
    | ret ob =>
      obtain ⟨led, rfl, rfl⟩ := hr
      have eS : (s.heap.push (fresh led)).get? s.heap.objs.size = some (fresh led) := Heap.get?_push_size _ rfl
      have tS : Shared.TypeIs { s with heap := s.heap.push (fresh led) } (.ref s.heap.objs.size) "set" := ⟨_, eS, rfl⟩
      have m7 := PySem.F.called_set.init.lookup
      have m8 := PySem.F.called_set.init.bind
        (.ref s.heap.objs.size)
      repeat (any_goals
        (first | assumption | wp_step))
      refine codeAny_mono (codeAny_call_builtin (R := wants (fun r s3 => r = .none ∧ ∃ h' tk, s3 = { s with heap := h', toks := tk } ∧ h'.SetOf knd s.heap.objs.size (fun y => (xs.take its.size).any (· == y)) (cnt xs its.size) ∧
        (∀ b o, b < s.heap.objs.size → s.heap.get? b = some o → h'.get? b = some o)) E) PySem.F.called_set.init.plain
          PySem.F.entry_set_init (check_set_init_1 tS ?_)) fun r3 s3 hr3 => ?_
      · obtain ⟨ol, e1, e2, nl, e3⟩ := hl
        obtain ⟨oc, od, odt, osl⟩ := ol
        simp only at e2 e3
        subst e2
        subst e3
        have e4 : (s.heap.push (fresh led)).get? l = some { cls := .type "tuple", dict := od, data := .seq its nl, slots := osl } := Heap.get?_push_of_some _ e1
        have m9 := PySem.F.sub_tuple_set
        have m10 := PySem.F.sub_tuple_frozenset
        have m11 : (Value.type "tuple"
          == Value.type "dict") = false := by decide
        have hl1 : (s.heap.push (fresh led)).IsTuple l its := ⟨_, e4, rfl, nl, rfl⟩
        have m12 : (fresh led).cls = .type "set" := rfl
        unfold fresh at *
        unfold Builtin.«set.__init__» noKeywords
          Builtin.Frozenset.updateFrom
        generalize hPI : pyIter = PI
        wp_walk
        subst hPI
        refine wpAny_pyIter_tuple hl1 ?_
        refine wpAny_bind
          (wpAny_runValue ?_)
        have below : l < s.heap.objs.size := Heap.lt_size e1
        have calm3 : A.in1.in1.in1.handled = none := by
          simp [calm]
        have apart : l ≠ (s.heap.push { cls := .type "set", dict := none, data := .set #[] 0 (.fresh 0 0 led) } : Heap).objs.size := by
          rw [Heap.size_push]
          exact Nat.ne_of_lt (Nat.lt_succ_of_lt below)
        have away : s.heap.objs.size ∉ [(s.heap.push { cls := .type "set", dict := none, data := .set #[] 0 (.fresh 0 0 led) } : Heap).objs.size, l] := by
          rw [Heap.size_push]
          simp only [List.mem_cons,List.not_mem_nil, or_false, not_or]
          exact ⟨Nat.ne_of_lt (Nat.lt_succ_self _), Nat.ne_of_gt below⟩
        refine turns knd ((Walks.tuple calm3 _ l apart its).toS) s.heap.objs.size away xs room item
          (its.size - 0) 0 _ (by omega) (Nat.zero_le _) ⟨⟨_, Heap.get?_push_size _ rfl, rfl, rfl⟩, (hl1.push _)⟩ ?g1 ?g2
        case g1 =>
          have e5 := Heap.get?_push_of_some ({ cls := .type "tuple_iterator", data := .fields #[.ref l, .int 0 0] } : Obj) eS
          exact PyProof.Rows.SetOf_congr ((PyProof.Rows.setObjOf_fresh (knd := knd) led).setOf e5
            (by unfold scanBound; omega)) (fun _ => rfl) rfl
        case g2 =>
          intro s4 mv hS4
          obtain ⟨h4, g4, d4, t4, os4⟩ := s4
          obtain rfl : g4 = s.gens := mv.gens
          obtain rfl : d4 = s.drawn := mv.drawn
          obtain rfl : os4 = s.os := mv.os
          show wpAny _ _ _ _ _ _
          refine wpAny_pure ?_
          show wpAny _ _ (ret Value.none)
            _ _ _
          refine wpAny_pure ⟨rfl, h4, t4, rfl, hS4, fun b o hb e => ?_⟩
          have n1 : b ≠ s.heap.objs.size := Nat.ne_of_lt hb
          have n2 : b ≠ (s.heap.push { cls := .type "set", dict := none, data := .set #[] 0 (.fresh 0 0 led) } : Heap).objs.size := by
            rw [Heap.size_push]
            exact Nat.ne_of_lt (Nat.lt_succ_of_lt hb)
          refine mv.heap b o ?_ (Heap.get?_push_of_some _ (Heap.get?_push_of_some _ e))
          simp only [List.mem_cons,List.not_mem_nil, or_false, not_or]
          exact ⟨n1, n2⟩
      · cases r3 with
        | error e => exact hr3
        | ok f3 =>
          cases f3 with
          | ret r =>
            obtain ⟨rfl, h', tk, rfl, hS', keep⟩ := hr3
            repeat (any_goals
              (first | assumption | wp_step))
            exact h _ _ hS' keep
          | _ => exact hr3.elim
    | _ => exact hr.elim
end
end WnSet
/-! Wn: len(set(xs)) of texts, any number of them. -/
namespace Wn
open PySem PySem.Spec PyProof.Rows L2
theorem boot_setT : bootBuiltins "set" = some (.type "set") := by decide +kernel
def tLenSetN (K : PySem.W.Frag) (ta : TE) : TE := fun σ H Q => ta σ H fun x H1 => ∃ (l : Addr) (xs : List Str), x = .ref l ∧ (SqL K H1 l (xs.map V.str) ∨ SqT K H1 l (xs.map V.str)) ∧ xs.length ≤ 1000 ∧ Q (.int (WnSet.cnt xs xs.length)) H1
theorem key_at : ∀ {xs : List Str} {us : List Value} {P : Program} {w : World} (i : Nat) (v : Value), Vals (xs.map V.str) us → us[i]? = some v → ∃ k, xs[i]? = some k ∧ (strKind P w).is k v = true ∧ v.scannable = true
  | [], _, _, _, i, v, .nil, h => by simp at h
  | x :: xs, _, P, w, 0, v, .cons r t, h => by
    obtain ⟨tk, rfl⟩ := r
    simp at h
    subst h
    exact ⟨x, rfl, strKind_is _ _ _ _, rfl⟩
  | x :: xs, _, P, w, i + 1, v, .cons r t, h => by
    obtain ⟨k, h1, h2⟩ := key_at (xs := xs) (P := P) (w := w) i v t (by simpa using h)
    exact ⟨k, by simpa using h1, h2⟩
section
variable {X : Cx} {a : Expr} {ta : TE} {p p2 q pos : Pos}
theorem pe_lenSetK {K : PySem.W.Frag} (eK : X.K = K) (hc : X.calm = true) (hg : Gl X "len") (hm : X.mg "len" = none) (hg2 : Gl X "set") (hm2 : X.mg "set" = none) (ha : PE X a ta)
    (na : starEach [a] X.env = (false, eval a X.env) :: starEach [] X.env := by rfl) : PE X (.Call (.Name "len" p) [.Call (.Name "set" p2) [a] [] q] [] pos) (tLenSetN K ta) := by
  subst eK
  refine ⟨fun pins s σ H Q I h => ?_⟩
  refine Call_ (ld_blt I hg hm PySem.boot_len ?_)
  refine PyProof.Rows.callWith_builtin1 (PyProof.Rows.args_cons ?_ rfl) rfl rfl
  refine Call_ (ld_blt I hg2 hm2 (boot_setT) ?_)
  refine PyProof.Rows.callWith_type1
    (PyProof.Rows.args_cons (thn (ha.run pins s σ H _ I h) fun v s1 ⟨x, H1, I1, r1, q1⟩ => PyProof.Rows.args_nil ?_) na) na rfl
  obtain ⟨l, xs, rfl, hq, few, q1⟩ := q1
  cases r1
  have last : ∀ (its : List Value), Vals (xs.map V.str) its → ∀ (h' : Heap) (tk : Nat), h'.SetOf (strKind X.prog X.w) s1.heap.objs.size (fun y => (xs.take its.toArray.size).any (· == y)) (WnSet.cnt xs its.toArray.size) →
      (∀ b o, b < s1.heap.objs.size → s1.heap.get? b = some o → h'.get? b = some o) →
      wpAny (model X.prog X.w) X.A (spliced (backTo pos (starEach [] X.env)))
        (fun vs s2 => wpAny (model X.prog X.w) X.A (call (.builtin "len") (Value.ref s1.heap.objs.size :: vs)) (EP X pins σ Q) X.xe s2) X.xe { s1 with heap := h', toks := tk } := fun its r h' tk hS keep => by
    refine PyProof.Rows.args_nil ?_
    have e1 : its.toArray.size = xs.length := by
      rw [List.size_toArray, ← r.length, List.length_map]
    rw [e1] at hS
    obtain ⟨o, es, ep, t, ho, hex, hd, _, _, _, hf, hn⟩ := hS
    have I2 : Inv X pins σ H1 { s1 with heap := h', toks := tk } := I1.kept fun b o e => keep b o (Heap.lt_size e) e
    have c1 := WnSet.cnt_le xs xs.length
    refine call_len_set ho hex hd hf (by rw [hn] <;> omega) ⟨.int (WnSet.cnt xs xs.length), H1, I2.tok _, ⟨_, by rw [hn]⟩, q1⟩
  have room : ∀ its : List Value, Vals (xs.map V.str) its → its.toArray.size + 1 < scanBound := fun its r => by
    rw [List.size_toArray, ← r.length, List.length_map]
    unfold scanBound
    omega
  rcases hq with hq | hq
  · obtain ⟨its, r, pl, hz⟩ := I1.list hq
    exact WnSet.call_set_list (strKind X.prog X.w) (I1.ok.hd hc) pl.isList (room its r) (fun i v e => key_at i v r (by simpa using e)) fun h' tk hS k => last its r h' tk hS k
  · obtain ⟨its, r, pl, hz⟩ := I1.tuple hq
    exact WnSet.call_set_tuple (strKind X.prog X.w) (I1.ok.hd hc) pl (room its r) (fun i v e => key_at i v r (by simpa using e)) fun h' tk hS k => last its r h' tk hS k
end
end Wn
/-! Wn: rules with the written part named (so that a block of a comprehension may use them), and their answers. -/
namespace Wn
open PySem PySem.Spec PyProof.Rows L2
section
variable {X : Cx} {K : PySem.W.Frag} {tg l : Expr} {tl : TE}
theorem pi_listK (e : X.K = K) (h : PE X l tl) : PI X tg l (iList K tl) := by subst e; exact pi_list h
theorem pi_tupK (e : X.K = K) (h : PE X l tl) : PI X tg l (iTup K tl) := by subst e; exact pi_tup h
theorem pg_tupK {es : List Expr} {k n : Nat} {t : TGs} {pos : Pos} (e : X.K = K) (hc : X.calm = true) (h : PGs X es t)
    (hn : (assignEach es X.env).length = n := by rfl) (hst : (assignEach es X.env).findIdx? (·.1) = none := by rfl) : PG X (.Tuple es k pos) (gTup K n t) := by subst e; exact pg_tup hc h hn hst
def rTupL (K : PySem.W.Frag) : List V → Hp → VK → Prop := fun xs H Q => ∃ p ys, xs = [.ref p] ∧ SqL K H p ys ∧ ∀ q, H q = none → Q (.ref q) (upd H q (.tup ys))
theorem call_tupleK (e : X.K = K) : CallR X (.type "tuple") (rTupL K) := by
  subst e
  exact fun a b c d f g h i j ⟨p, ys, h1, h2, q⟩ => call_tuple_of a b c d f g h i j ⟨p, ys, h1, .inl ⟨h2, q⟩⟩
/-- a text in a list or tuple of texts -/
def rInS (K : PySem.W.Frag) (neg : Bool) : R2 := fun x y H Q => ∃ (p : Addr) (z : Str) (zs : List Str), x = .str z ∧ y = .ref p ∧ (SqL K H p (zs.map V.str) ∨ SqT K H p (zs.map V.str)) ∧ Q (.bl (if neg then !decide (z ∈ zs) else decide (z ∈ zs))) H
theorem inV_str (z : Str) : ∀ zs : List Str, inV (.str z) (zs.map V.str) = decide (z ∈ zs)
  | [] => rfl
  | y :: zs => by
    have ih := inV_str z zs
    unfold inV at ih ⊢
    rw [List.map_cons, List.any_cons, ih]
    by_cases h : y = z
    · subst h
      simp [eqV]
    · have h' : ¬ z = y := fun q => h q.symm
      simp [eqV, h, h']
theorem flat_strs : ∀ zs : List Str, (zs.map V.str).all flatV = true
  | [] => rfl
  | y :: zs => by rw [List.map_cons, List.all_cons, flat_strs zs]; rfl
theorem op_in_strsK (e : X.K = K) : OpR X (compareOp .In) (rInS K false) := by
  subst e
  exact fun a b c d f g h i j k m n ⟨p, z, zs, h1, h2, h3, q⟩ => op_in_seq a b c d f g h i j k m n ⟨p, _, h2, h3, by rw [h1]; rfl, flat_strs zs, by rw [h1]; simp only [inV_str]; exact q⟩
theorem op_notin_strsK (e : X.K = K) : OpR X (compareOp .NotIn) (rInS K true) := by
  subst e
  exact fun a b c d f g h i j k m n ⟨p, z, zs, h1, h2, h3, q⟩ => op_notIn_seq a b c d f g h i j k m n ⟨p, _, h2, h3, by rw [h1]; rfl, flat_strs zs, by rw [h1]; simp only [inV_str]; exact q⟩
end
section
variable {σ : L2.St} {H : Hp} {Q : VK} {K : PySem.W.Frag} {ta tb tc te : TE}
theorem r_chain {r r' : R2} (h : ta σ H fun x H1 => tb σ H1 fun y H2 => r x y H2 fun z H3 => ∃ k, z = .bl k ∧ (if k = true then tc σ H3 fun w' H4 => r' y w' H4 Q else Q (.bl false) H3)) : tChain r r' ta tb tc σ H Q := h
theorem r_ins {neg : Bool} {p : Addr} {z : Str} {zs : List Str} (e : SqL K H p (zs.map V.str) ∨ SqT K H p (zs.map V.str)) (q : Q (.bl (if neg then !decide (z ∈ zs) else decide (z ∈ zs))) H) : rInS K neg (.str z) (.ref p) H Q := ⟨p, z, zs, rfl, rfl, e, q⟩
end
/-! ### names -/
def nameB (z : Str) : Bool := decide (1 ≤ z.length) && decide (z.length ≤ 8) && z.cps.toList.all fun c => decide (97 ≤ c) && decide (c ≤ 122)
theorem nameB_len {z : Str} (h : nameB z = true) : 1 ≤ z.length ∧ z.length ≤ 8 := by
  unfold nameB at h
  simp only [Bool.and_eq_true, decide_eq_true_eq] at h
  exact h.1
theorem nameB_at {z : Str} (h : nameB z = true) {i : Nat} {c : Nat} (e : z.cps[i]? = some c) : 97 ≤ c ∧ c ≤ 122 := by
  unfold nameB at h
  simp only [Bool.and_eq_true, decide_eq_true_eq,List.all_eq_true] at h
  refine h.2 c ?_
  rw [Array.mem_toList_iff]
  exact Array.mem_of_getElem? e
end Wn
namespace Wn
open PySem PySem.Spec PyProof.Rows L2
/-- a comprehension over a text's signs -/
theorem lc_text {z : Str} {g : TG} {tt : TT} {te : TE} {vs : List Nat} {σ : L2.St} {H1 : Hp} {D : Addr} {Qd : Hp → Prop} (Pv : Nat → Hp → Prop) (h0 : Pv 0 (upd H1 D (.lst [])))
    (turn : ∀ i c H, z.cps[i]? = some c → Pv i H → g (.str ⟨#[c]⟩) (wipe σ vs) H fun σ2 H2 => wipe σ2 vs = wipe σ vs ∧ tt σ2 H2 fun b H3 =>
      if b = true then te σ2 H3 fun y H4 => ∃ acc, H4 D = some (.lst acc) ∧ acc.length < sizeLine ∧ Pv (i + 1) (upd H4 D (.lst (acc ++ [y]))) else Pv (i + 1) H3)
    (last : ∀ H, Pv z.cps.size H → Qd H) :
    ∃ W : Nat → Nat → Hp → Prop, (∃ m, W 0 m (upd H1 D (.lst []))) ∧ ∀ i m H, W i m H →
      ((Its z).stop i H ∧ Qd H) ∨ ((Its z).go i H ∧ ∃ Nx : Hp → Prop, (∀ H', Nx H' → ∃ m', m' < m ∧ W (i + 1) m' H') ∧ ∀ x H', (Its z).yld i H x H' → g x (wipe σ vs) H' fun σ2 H2 => wipe σ2 vs = wipe σ vs ∧
        tt σ2 H2 fun b H3 => if b = true then te σ2 H3 fun y H4 => ∃ acc, H4 D = some (.lst acc) ∧ acc.length < sizeLine ∧ Nx (upd H4 D (.lst (acc ++ [y]))) else Nx H3) := by
  refine ⟨fun i m H => m = z.cps.size - i ∧ i ≤ z.cps.size ∧ Pv i H, ⟨z.cps.size, by simp, Nat.zero_le _, h0⟩, ?_⟩
  intro i m H hW
  obtain ⟨e, hi, p⟩ := hW
  subst e
  by_cases lt : i < z.cps.size
  · refine .inr ⟨lt, Pv (i + 1), fun H' p' => ⟨z.cps.size - (i + 1), by omega, rfl, lt, p'⟩, fun x H' y => ?_⟩
    obtain ⟨e1, c, ec, e2⟩ := y
    subst e1 e2
    exact turn i c _ ec p
  · have e : i = z.cps.size := by omega
    subst e
    exact .inl ⟨Nat.le_refl _, last H p⟩
def rLenStr : List V → Hp → VK → Prop := fun xs H Q => ∃ z, xs = [.str z] ∧ z.length ≤ sizeLine ∧ Q (.int z.length) H
theorem call_lenStr {X : Cx} : CallR X (.builtin "len") rLenStr := fun a b c d e f g h i ⟨z, h1, h2, q⟩ => call_len_str a b c d e f g h i ⟨z, h1, h2, q⟩
theorem r_lenstr {H : Hp} {Q : VK} {z : Str} (e : z.length ≤ sizeLine) (q : Q (.int z.length) H) : rLenStr [.str z] H Q := ⟨z, rfl, e, q⟩
end Wn
/-! Wn: tuples known to the object (no dict of their own), so that their methods may be called. -/
namespace Wn
open PySem PySem.Spec PyProof.Rows L2
/-- a plain tuple stands at p -/
def PTup (H : Hp) (p : Addr) (xs : List V) : Prop := ∃ o, H p = some (.frz o (.tup xs)) ∧ o.dict = none ∧ o.cls = .type "tuple"
theorem PTup.sq {K : PySem.W.Frag} {H : Hp} {p : Addr} {xs : List V} (h : PTup H p xs) : SqT K H p xs := let ⟨o, e, _⟩ := h; .inl (.inr ⟨o, e⟩)
theorem PTup.mono {H H' : Hp} {p : Addr} {xs : List V} (s : Same H H') (h : PTup H p xs) : PTup H' p xs := let ⟨o, e, r⟩ := h; ⟨o, s _ _ e, r⟩
section
variable {X : Cx} {K : PySem.W.Frag}
def rTupF (K : PySem.W.Frag) : List V → Hp → VK → Prop := fun xs H Q => ∃ p ys, xs = [.ref p] ∧ SqL K H p ys ∧ ∀ (q : Addr) (o : Obj), H q = none → o.dict = none → o.cls = .type "tuple" → Q (.ref q) (upd H q (.frz o (.tup ys)))
theorem call_tupleFK (e : X.K = K) : CallR X (.type "tuple") (rTupF K) := by
  subst e
  intro pins s σ H xs us Q I r h
  obtain ⟨p, ys, rfl, hq, q⟩ := h
  obtain ⟨u, rfl, rx⟩ := vals1 r
  cases rx
  obtain ⟨its, rv, pl, hz⟩ := I.list hq
  have hlen := rv.length
  refine call_tuple_list pl.isList (fun h2 kp => ?_)
    (by simp only [List.size_toArray] <;> omega)
  have I1 : Inv X pins σ H { s with heap := h2 } := I.kept (t' := s.toks) kp
  let ob : Obj := { cls := .type "tuple", data := .seq its.toArray }
  have at' : (h2.push ob).get? h2.objs.size = some ob := Heap.get?_push_size _ rfl
  have I2 : Inv X pins σ (upd H h2.objs.size (.frz ob (.tup ys))) { s with heap := h2.push ob } :=
    I1.laid (t' := s.toks) (fun b o e => Heap.get?_push_of_some _ e) (Nat.le_refl _) ⟨at', hz, its, rv, IsTup.new _ _⟩
  exact ⟨.ref h2.objs.size, _, I2, rfl, q _ ob (I1.hok.fresh (Nat.le_refl _)) rfl rfl⟩
def tBT (r : V → List V → Hp → VK → Prop) (to : TE) (t : TA) : TE := fun σ H Q => to σ H fun x H1 => (∃ p xs, x = .ref p ∧ PTup H1 p xs) ∧ t σ H1 fun vs H2 => r x vs H2 Q
variable {o e : Expr} {es : List Expr} {to : TE} {t : TA} {name : Str} {apos cpos : Pos} {id : String} {r : V → List V → Hp → VK → Prop}
/-- t.m(e, ..), t a plain tuple -/
theorem pe_bt (slot : Slot "tuple" name id) (hty : typeOf (.builtin id) = pure (.type "method_descriptor")) (hm : MtR X id r) (ho : PE X o to) (ha : PA X (e :: es) t)
    (hbase : attributeBase o name X.env (eval o X.env) = eval o X.env := by rfl)
    (hfew : ((backTo cpos (starEach (e :: es) X.env)).all (fun x => !x.1) && (backToKw cpos (keywordEach [] X.env)).all (fun x => x.1.isSome) && decide ((e :: es).length + ([] : List Keyword).length + (if ([] : List Keyword).isEmpty then 0 else 1) < 30)) = true := by rfl)
    (hline : (apos.endLine == cpos.line) = true := by rfl) (hs : starEach (e :: es) X.env = (false, eval e X.env) :: starEach es X.env := by rfl)
    (hplain : (backTo cpos (starEach es X.env)).any (·.1) = false := by rfl) : PE X (.Call (.Attribute o name apos) (e :: es) [] cpos) (tBT r to t) := by
  refine ⟨fun pins s σ H Q I h => ?_⟩
  refine wpAny_Call_method_late hbase hfew hline rfl
    (thn (ho.run pins s σ H _ I h) fun v s1 ⟨x, H1, I1, r1, ty, q1⟩ => ?_)
  obtain ⟨p, xs, rfl, ob, ep, hd, hcl⟩ := ty
  obtain rfl : v = Value.ref p := r1
  have hat := (I1.hok p _ ep).1
  refine ⟨"tuple", id, PySem.F.plainAttrs_tuple, slot, hty, ⟨ob, hat, hcl⟩, fun a e2 => ?_, ?_⟩
  · cases e2
    exact ⟨ob, hat, hd⟩
  · have hA := ha.run cpos pins s1 σ H1 _ I1 q1
    rw [hs] at hA ⊢
    refine Calls.callWith_builtin (by
      show (false || (backTo cpos (starEach es X.env)).any (·.1)) = false
      rw [hplain]
      rfl) (Calls.evalArgs_plain ?_)
    exact thn hA fun us s2 ⟨vs, H2, I2, r2, q2⟩ => hm pins s2 σ H2 (.ref p) vs (.ref p) us Q I2 rfl r2 q2
/-- the first place of a text -/
def idx : List Str → Str → Nat
  | [], _ => 0
  | y :: ys, z => if y = z then 0 else idx ys z + 1
theorem idx_at : ∀ {ys : List Str} {z : Str}, z ∈ ys → ys[idx ys z]? = some z
  | y :: ys, z, h => by
    unfold idx
    by_cases e : y = z
    · rw [if_pos e, e]; rfl
    · rw [if_neg e]
      have h2 : z ∈ ys := by
        rcases List.mem_cons.mp h with q | q
        · exact absurd q.symm e
        · exact q
      simpa using idx_at h2
theorem idx_min : ∀ {ys : List Str} {z : Str} {m : Nat}, m < idx ys z → ys[m]? ≠ some z
  | [], z, m, h => by simp
  | y :: ys, z, m, h => by
    unfold idx at h
    by_cases e : y = z
    · rw [if_pos e] at h
      exact absurd h (Nat.not_lt_zero _)
    · rw [if_neg e] at h
      cases m with
      | zero => simpa using e
      | succ m => simpa using idx_min (ys := ys) (z := z) (m := m) (by omega)
theorem idx_of {ys : List Str} {z : Str} {i : Nat} (n : ys.Nodup) (h : ys[i]? = some z) : idx ys z = i := by
  have m : z ∈ ys := List.mem_of_getElem? h
  have h2 := idx_at m
  have hi : i < ys.length := (List.getElem?_eq_some_iff.mp h).1
  have hj : idx ys z < ys.length := (List.getElem?_eq_some_iff.mp h2).1
  exact (List.getElem?_inj hj n).mp (by rw [h2, h])
def rTI (K : PySem.W.Frag) : V → List V → Hp → VK → Prop := fun x xs H Q => ∃ (p : Addr) (ys : List Str) (z : Str), x = .ref p ∧ xs = [.str z] ∧ SqT K H p (ys.map V.str) ∧ z ∈ ys ∧ Q (.int (idx ys z : Nat)) H
theorem mt_tiK (eK : X.K = K) : MtR X "tuple.index" (rTI K) := by
  subst eK
  exact fun a b c d f g h i j k l n ⟨p, ys, z, h1, h2, h3, h4, q⟩ => mt_tup_index a b c d f g h i j k l n ⟨p, ys, z, idx ys z, h1, h2, h3, idx_at h4, fun m hm => idx_min hm, q⟩
def rLI (K : PySem.W.Frag) : V → List V → Hp → VK → Prop := fun x xs H Q => ∃ (p : Addr) (ys : List Str) (z : Str), x = .ref p ∧ xs = [.str z] ∧ SqL K H p (ys.map V.str) ∧ z ∈ ys ∧ Q (.int (idx ys z : Nat)) H
theorem eqV_str {y z : Str} : eqV (.str y) (.str z) = decide (y = z) := by
  by_cases h : y = z
  · subst h; simp [eqV]
  · simp [eqV, h]
theorem mt_liK (eK : X.K = K) : MtR X "list.index" (rLI K) := by
  subst eK
  exact fun a b c d f g h i j k l n ⟨p, ys, z, h1, h2, h3, h4, q⟩ => mt_index a b c d f g h i j k l n ⟨p, _, .str z, idx ys z, .str z, h1, h2, h3, rfl, flat_strs ys, by rw [List.getElem?_map, idx_at h4]; rfl, by rw [eqV_str]; exact decide_eq_true rfl, fun m z' hm e => by
    rw [List.getElem?_map] at e
    cases e2 : ys[m]? with
    | none => rw [e2] at e; cases e
    | some y =>
      rw [e2] at e
      have e3 : V.str y = z' := Option.some.inj e
      subst e3
      rw [eqV_str]
      exact decide_eq_false fun e4 => idx_min hm (by rw [e2, e4]), q⟩
theorem pe_fldK {f : Str} {pos : Pos} {e : Expr} {ta : TE} (eK : X.K = K) (he : PE X e ta) (hb : attributeBase e f X.env (eval e X.env) = eval e X.env) : PE X (.Attribute e f pos) (tFld K ta f) := by
  subst eK
  exact pe_fld he hb
end
section
variable {K : PySem.W.Frag} {H : Hp} {Q : VK} {σ : L2.St} {to : TE} {t : TA}
theorem r_bt {r : V → List V → Hp → VK → Prop} (h : to σ H fun x H1 => (∃ p xs, x = .ref p ∧ PTup H1 p xs) ∧ t σ H1 fun vs H2 => r x vs H2 Q) : tBT r to t σ H Q := h
theorem r_pt {p : Addr} {xs : List V} {A : Prop} (e : PTup H p xs) (h : A) : (∃ q ys, V.ref p = .ref q ∧ PTup H q ys) ∧ A := ⟨⟨p, xs, rfl, e⟩, h⟩
theorem r_ti {p : Addr} {ys : List Str} {z : Str} (e : SqT K H p (ys.map V.str)) (m : z ∈ ys) (q : Q (.int (idx ys z : Nat)) H) : rTI K (.ref p) [.str z] H Q := ⟨p, ys, z, rfl, rfl, e, m, q⟩
theorem r_li {p : Addr} {ys : List Str} {z : Str} (e : SqL K H p (ys.map V.str)) (m : z ∈ ys) (q : Q (.int (idx ys z : Nat)) H) : rLI K (.ref p) [.str z] H Q := ⟨p, ys, z, rfl, rfl, e, m, q⟩
def FldW (K : PySem.W.Frag) (f : Str) (x : V) (H1 : Hp) (Q : VK) : Prop := ∃ a C dx fs v, x = .ref a ∧ H1 a = some (.ins C dx fs) ∧ Cls K C ∧ NoAttr K C f ∧ fs.lookup f = some v ∧ Q v H1
theorem r_fld {f : Str} (h : to σ H fun x H1 => FldW K f x H1 Q) : tFld K to f σ H Q := h
def MthW (C : Addr) (m : Str) (x : V) (H1 : Hp) (A : Prop) : Prop := ∃ a dx fs, x = .ref a ∧ H1 a = some (.ins C dx fs) ∧ fs.lookup m = none ∧ A
theorem r_meth {C : Addr} {m : Str} {sp : Sp} {dvs : List V} {E : XK} (h : to σ H fun x H1 => MthW C m x H1 (t σ H1 fun vs H2 => sp (x :: (vs ++ dvs)) H2 Q E)) : tMeth C m sp dvs E to t σ H Q := h
end
end Wn
/-! Wn: an if whose ways meet again in one place. -/
namespace Wn
open PySem PySem.Spec PyProof.Rows L2
/-- as tIfJ, but no step goes into it before the meeting place is named -/
def tIfK (c : TT) (t u : TS) : TS := tIfJ c t u
theorem ps_ifk {X : Cx} {c : Expr} {a b : List Stmt} {pos : Pos} {tc : TT} {t u : TS} (hc : PT X c tc) (ha : PSs X a t) (hb : PSs X b u) : PS X (.If c a b pos) (tIfK tc t u) := ps_if hc ha hb
theorem if_cut {c : TT} {t u : TS} {D : Ends} {σ : L2.St} {H : Hp} (P : L2.St → Hp → Prop) (h1 : ∀ σ' H', P σ' H' → D.nx σ' H') (h2 : (∀ σ' H', P σ' H' → tJoin D.nx σ' H') → tIfJ c t u D σ H) : tIfK c t u D σ H := h2 h1
section
variable {σ : L2.St} {H : Hp} {K : PySem.W.Frag} {tl : TA} {te : TE} {R : It → Hp → Prop}
theorem r_rng1 (h : tl σ H fun vs H1 => ∃ j : Int, vs = [.int j] ∧ -(2 ^ 62) ≤ j ∧ j < 2 ^ 62 ∧ R (Itr 0 j.toNat) H1) : iRng1 tl σ H R := h
theorem r_ilist (h : te σ H fun x H1 => ∃ a, x = .ref a ∧ (∃ xs, SqL K H1 a xs) ∧ R (Itl K a) H1) : iList K te σ H R := h
theorem r_itup (h : te σ H fun x H1 => ∃ a, x = .ref a ∧ (∃ xs, SqT K H1 a xs) ∧ R (Itt K a) H1) : iTup K te σ H R := h
theorem r_istr (h : te σ H fun v H1 => ∃ x, v = .str x ∧ R (Its x) H1) : iStr te σ H R := h
end
def ForW (J : It) (g : TG) (tb : TS) (D : Ends) (σ : L2.St) (H1 : Hp) : Prop := ∃ W : Nat → Nat → L2.St → Hp → Prop, (∃ m, W 0 m σ H1) ∧ ∀ i m σ H, W i m σ H →
  (J.stop i H ∧ D.nx σ H) ∨ (J.go i H ∧ ∃ N : L2.St → Hp → Prop, (∀ σ' H', N σ' H' → ∃ m', m' < m ∧ W (i + 1) m' σ' H') ∧ ∀ x H', J.yld i H x H' → g x σ H' fun σ2 H2 => tb { D with nx := N, ct := N, bk := D.nx } σ2 H2)
def LcW (J : It) (g : TG) (tt : TT) (te : TE) (vs : List Nat) (σ : L2.St) (H1 : Hp) (Q : VK) : Prop := ∀ D, H1 D = none → ∃ W : Nat → Nat → Hp → Prop, (∃ m, W 0 m (upd H1 D (.lst []))) ∧ ∀ i m H, W i m H →
  (J.stop i H ∧ Q (.ref D) H) ∨ (J.go i H ∧ ∃ Nx : Hp → Prop, (∀ H', Nx H' → ∃ m', m' < m ∧ W (i + 1) m' H') ∧ ∀ x H', J.yld i H x H' → g x (wipe σ vs) H' fun σ2 H2 => wipe σ2 vs = wipe σ vs ∧ tt σ2 H2 fun b H3 =>
    if b = true then te σ2 H3 fun y H4 => ∃ acc, H4 D = some (.lst acc) ∧ acc.length < sizeLine ∧ Nx (upd H4 D (.lst (acc ++ [y]))) else Nx H3)
section
variable {σ : L2.St} {H : Hp} {K : PySem.W.Frag} {Q : VK} {D : Ends} {wi : TI} {g : TG} {tb : TS} {tt : TT} {te : TE} {vs : List Nat}
theorem r_for (h : wi σ H fun J H1 => ForW J g tb D σ H1) : tFor wi g tb D σ H := h
theorem r_lc (h : wi σ H fun J H1 => LcW J g tt te vs σ H1 Q) : tLc wi g tt te vs σ H Q := h
theorem fl_list {a : Addr} {xs : List V} (hS : SqL K H a xs) (Pv : Nat → L2.St → Hp → Prop) (h0 : Pv 0 σ H) (hl : ∀ i σ H, i ≤ xs.length → Pv i σ H → SqL K H a xs) (hs : ∀ i x σ H, xs[i]? = some x → Pv i σ H → g x σ H fun σ2 H2 => tb { D with nx := Pv (i + 1), ct := Pv (i + 1), bk := D.nx } σ2 H2)
    (hd : ∀ σ H, Pv xs.length σ H → D.nx σ H) : ∃ a', V.ref a = .ref a' ∧ (∃ xs, SqL K H a' xs) ∧ ForW (Itl K a') g tb D σ H := ⟨a, rfl, ⟨_, hS⟩, for_list Pv h0 hl hs hd⟩
theorem fl_tup {a : Addr} {xs : List V} (hS : SqT K H a xs) (Pv : Nat → L2.St → Hp → Prop) (h0 : Pv 0 σ H) (hl : ∀ i σ H, i ≤ xs.length → Pv i σ H → SqT K H a xs) (hs : ∀ i x σ H, xs[i]? = some x → Pv i σ H → g x σ H fun σ2 H2 => tb { D with nx := Pv (i + 1), ct := Pv (i + 1), bk := D.nx } σ2 H2)
    (hd : ∀ σ H, Pv xs.length σ H → D.nx σ H) : ∃ a', V.ref a = .ref a' ∧ (∃ xs, SqT K H a' xs) ∧ ForW (Itt K a') g tb D σ H := ⟨a, rfl, ⟨_, hS⟩, for_tup Pv h0 hl hs hd⟩
theorem fl_rng {x : Int} {n : Nat} (hn : x.toNat = n) (h1 : -(2 ^ 62) ≤ x) (h2 : x < 2 ^ 62) (Pv : Nat → L2.St → Hp → Prop) (h0 : Pv 0 σ H) (hs : ∀ i σ H, i < n → Pv i σ H → g (.int (0 + i)) σ H fun σ2 H2 => tb { D with nx := Pv (i + 1), ct := Pv (i + 1), bk := D.nx } σ2 H2)
    (hd : ∀ σ H, Pv n σ H → D.nx σ H) : ∃ j : Int, [V.int x] = [.int j] ∧ -(2 ^ 62) ≤ j ∧ j < 2 ^ 62 ∧ ForW (Itr 0 j.toNat) g tb D σ H := ⟨x, rfl, h1, h2, by rw [hn]; exact for_range Pv h0 hs hd⟩
/-- what is a tuple stays one -/
def SmT (K : PySem.W.Frag) (H H' : Hp) : Prop := ∀ (a : Addr) (xs : List V), SqT K H a xs → SqT K H' a xs
theorem same_smT {K : PySem.W.Frag} {H H' : Hp} (s : Same H H') : SmT K H H' := fun a xs h => by
  rcases h with (h | ⟨o, h⟩) | h
  · exact .inl (.inl (s _ _ h))
  · exact .inl (.inr ⟨o, s _ _ h⟩)
  · exact .inr h
theorem smT_upd {H : Hp} {D : Addr} {ys zs : List V} (e : H D = some (.lst ys)) : SmT K H (upd H D (.lst zs)) := fun a xs h => by
  rcases h with (h | ⟨o, h⟩) | h
  · exact .inl (.inl (lk_ne (ne_of h e (by intro z; cases z)) h))
  · exact .inl (.inr ⟨o, lk_ne (ne_of h e (by intro z; cases z)) h⟩)
  · exact .inr h
theorem map_at_app {f : Nat → Hp → V → Prop} {H4 : Hp} {ys : List V} {y : V} {i : Nat} (hl : ys.length = i) (h1 : ∀ (j : Nat) (z : V), ys[j]? = some z → f j H4 z) (h2 : f i H4 y) : ∀ (j : Nat) (z : V), (ys ++ [y])[j]? = some z → f j H4 z := fun j z hz => by
  by_cases hj : j < i
  · rw [List.getElem?_append_left (by rw [hl]; exact hj)] at hz
    exact h1 j z hz
  · have hji : j = i := by
      have := (List.getElem?_eq_some_iff.mp hz).1
      rw [List.length_append, hl] at this
      have : j < i + 1 := this
      omega
    subst hji
    rw [List.getElem?_append_right (by rw [hl]; exact Nat.le_refl _), hl, Nat.sub_self] at hz
    cases hz
    exact h2
/-! comprehensions without a test whose items are made one by one, all else staying -/
theorem cl_turn {D : Addr} {H0 H' : Hp} {ys : List V} {i : Nat} (f : Nat → Hp → V → Prop) (mono : ∀ i y H H', SmT K H H' → f i H y → f i H' y) (hi : i < 1000) (nD : H0 D = none) (sm : Same H0 H') (hD : H' D = some (.lst ys)) (hl : ys.length = i) (hf : ∀ (j : Nat) (y : V), ys[j]? = some y → f j H' y)
    (y : V) (H4 : Hp) (s4 : Same H' H4) (fy : f i H4 y) : ∃ acc, H4 D = some (.lst acc) ∧ acc.length < sizeLine ∧ Same H0 (upd H4 D (.lst (acc ++ [y]))) ∧ ∃ ys, (upd H4 D (.lst (acc ++ [y]))) D = some (.lst ys) ∧ ys.length = i + 1 ∧ ∀ (j : Nat) (z : V), ys[j]? = some z → f j (upd H4 D (.lst (acc ++ [y]))) z := by
  have h4 := s4 _ _ hD
  refine ⟨ys, h4, by rw [hl]; exact Nat.lt_of_lt_of_le hi (by decide), fun b o e => (upd_ne (ne_of_none e nD)).trans (s4 _ _ (sm _ _ e)), ys ++ [y], upd_same, by rw [List.length_append, hl]; rfl, ?_⟩
  refine map_at_app (f := f) hl (fun j z hz => mono _ _ _ _ (smT_upd h4) (mono _ _ _ _ (same_smT s4) (hf j z hz))) (mono _ _ _ _ (smT_upd h4) fy)
theorem cl_list {a : Addr} {xs : List V} (hS : SqL K H a xs) (h3 : xs.length ≤ 1000) (f : Nat → Hp → V → Prop) (mono : ∀ i y H H', SmT K H H' → f i H y → f i H' y)
    (turn : ∀ i x, xs[i]? = some x → ∀ (H' : Hp) (N : VK), Same H H' → (∀ y H4, Same H' H4 → f i H4 y → N y H4) → g x (wipe σ vs) H' fun σ2 H2 => wipe σ2 vs = wipe σ vs ∧ te σ2 H2 N)
    (last : ∀ (H' : Hp) (D : Addr) (ys : List V), Same H H' → H D = none → H' D = some (.lst ys) → ys.length = xs.length → (∀ (j : Nat) (y : V), ys[j]? = some y → f j H' y) → Q (.ref D) H') :
    ∃ a', V.ref a = .ref a' ∧ (∃ xs, SqL K H a' xs) ∧ LcW (Itl K a') g tYes te vs σ H Q :=
  ⟨a, rfl, ⟨_, hS⟩, fun D nD => lc_list (fun i H' => Same H H' ∧ ∃ ys, H' D = some (.lst ys) ∧ ys.length = i ∧ ∀ (j : Nat) (y : V), ys[j]? = some y → f j H' y) ⟨same_new nD, [], upd_same, rfl, fun j y h => by simp at h⟩ (fun i H' _ h => h.1.seq hS)
    (fun i x H' hi ⟨sm, ys, hD, hl, hf⟩ => turn i x hi H' _ sm (fun y H4 s4 fy => cl_turn (K := K) f mono (Nat.lt_of_lt_of_le (List.getElem?_eq_some_iff.mp hi).1 h3) nD sm hD hl hf y H4 s4 fy))
    (fun H' ⟨sm, ys, hD, hl, hf⟩ => last H' D ys sm nD hD hl hf)⟩
theorem cl_tup {a : Addr} {xs : List V} (hS : SqT K H a xs) (h3 : xs.length ≤ 1000) (f : Nat → Hp → V → Prop) (mono : ∀ i y H H', SmT K H H' → f i H y → f i H' y)
    (turn : ∀ i x, xs[i]? = some x → ∀ (H' : Hp) (N : VK), Same H H' → (∀ y H4, Same H' H4 → f i H4 y → N y H4) → g x (wipe σ vs) H' fun σ2 H2 => wipe σ2 vs = wipe σ vs ∧ te σ2 H2 N)
    (last : ∀ (H' : Hp) (D : Addr) (ys : List V), Same H H' → H D = none → H' D = some (.lst ys) → ys.length = xs.length → (∀ (j : Nat) (y : V), ys[j]? = some y → f j H' y) → Q (.ref D) H') :
    ∃ a', V.ref a = .ref a' ∧ (∃ xs, SqT K H a' xs) ∧ LcW (Itt K a') g tYes te vs σ H Q :=
  ⟨a, rfl, ⟨_, hS⟩, fun D nD => lc_tup (fun i H' => Same H H' ∧ ∃ ys, H' D = some (.lst ys) ∧ ys.length = i ∧ ∀ (j : Nat) (y : V), ys[j]? = some y → f j H' y) ⟨same_new nD, [], upd_same, rfl, fun j y h => by simp at h⟩ (fun i H' _ h => same_smT h.1 _ _ hS)
    (fun i x H' hi ⟨sm, ys, hD, hl, hf⟩ => turn i x hi H' _ sm (fun y H4 s4 fy => cl_turn (K := K) f mono (Nat.lt_of_lt_of_le (List.getElem?_eq_some_iff.mp hi).1 h3) nD sm hD hl hf y H4 s4 fy))
    (fun H' ⟨sm, ys, hD, hl, hf⟩ => last H' D ys sm nD hD hl hf)⟩
theorem cl_rng {x : Int} {n : Nat} (hn : x.toNat = n) (h3 : n ≤ 1000) (h1 : -(2 ^ 62) ≤ x) (h2 : x < 2 ^ 62) (f : Nat → Hp → V → Prop) (mono : ∀ i y H H', SmT K H H' → f i H y → f i H' y)
    (turn : ∀ i, i < n → ∀ (H' : Hp) (N : VK), Same H H' → (∀ y H4, Same H' H4 → f i H4 y → N y H4) → g (.int (0 + i)) (wipe σ vs) H' fun σ2 H2 => wipe σ2 vs = wipe σ vs ∧ te σ2 H2 N)
    (last : ∀ (H' : Hp) (D : Addr) (ys : List V), Same H H' → H D = none → H' D = some (.lst ys) → ys.length = n → (∀ (j : Nat) (y : V), ys[j]? = some y → f j H' y) → Q (.ref D) H') :
    ∃ j : Int, [V.int x] = [.int j] ∧ -(2 ^ 62) ≤ j ∧ j < 2 ^ 62 ∧ LcW (Itr 0 j.toNat) g tYes te vs σ H Q :=
  ⟨x, rfl, h1, h2, by
    rw [hn]
    exact fun D nD => lc_range (fun i H' => Same H H' ∧ ∃ ys, H' D = some (.lst ys) ∧ ys.length = i ∧ ∀ (j : Nat) (y : V), ys[j]? = some y → f j H' y) ⟨same_new nD, [], upd_same, rfl, fun j y h => by simp at h⟩
      (fun i H' hi ⟨sm, ys, hD, hl, hf⟩ => turn i hi H' _ sm (fun y H4 s4 fy => cl_turn (K := K) f mono (Nat.lt_of_lt_of_le hi h3) nD sm hD hl hf y H4 s4 fy))
      (fun H' ⟨sm, ys, hD, hl, hf⟩ => last H' D ys sm nD hD hl hf)⟩
theorem upd_upd {H : Hp} {D : Addr} {o u : HO} (h : H D = some o) : H = upd H D o := by
  funext x
  by_cases e : x = D
  · rw [e, upd_same, h]
  · rw [upd_ne e]
end
end Wn
/-! Wn: texts put together, names drawn. -/
namespace Wn
open PySem PySem.Spec PyProof.Rows L2
section
variable {H : Hp} {Q : VK} {K : PySem.W.Frag}
theorem r_adds {i j : Str} (e : i.length + j.length ≤ sizeLine) (q : Q (.str (i ++ j)) H) : (fun (x y : V) (H : Hp) (Q : VK) => ∃ i j, x = .str i ∧ y = .str j ∧ i.length + j.length ≤ sizeLine ∧ Q (.str (i ++ j)) H) (.str i) (.str j) H Q := ⟨i, j, rfl, rfl, e, q⟩
theorem r_ixs {z : Str} {i : Int} {c : Nat} (hz : z.length ≤ sizeLine) (e : atI z.cps.toList i = some c) (q : Q (.str ⟨#[c]⟩) H) : rIxS (.str z) (.int i) H Q := ⟨z, i, c, rfl, rfl, hz, e, q⟩
theorem r_sls {z : Str} {lo hi : Option Int} (hz : z.length ≤ sizeLine) (q : Q (.str (cutS z lo hi)) H) : rSlS (.str z) lo hi H Q := ⟨z, rfl, hz, q⟩
end
section
variable {σ : L2.St} {H : Hp} {Q : VK} {te : TE} {tl th : TO} {QO : Option Int → Hp → Prop}
theorem r_tsl {r : V → Option Int → Option Int → Hp → VK → Prop} (h : te σ H fun x H1 => tl σ H1 fun l H2 => th σ H2 fun u H3 => r x l u H3 Q) : L2.tSl r te tl th σ H Q := h
theorem r_nopart (h : QO none H) : tNoPart σ H QO := h
theorem r_part (h : te σ H fun x H1 => ∃ i, x = .int i ∧ QO (some i) H1) : tPart te σ H QO := h
theorem r_exint {i : Int} {P : Int → Prop} (h : P i) : ∃ j, V.int i = .int j ∧ P j := ⟨i, rfl, h⟩
theorem r_app {l : Addr} {xs : List V} {y : V} (e : H l = some (.lst xs)) (hz : xs.length < sizeLine) (q : Q .non (upd H l (.lst (xs ++ [y])))) : rAppend (.ref l) [y] H Q := ⟨l, xs, y, rfl, rfl, e, hz, q⟩
end
def lowB (z : Str) : Bool := z.cps.toList.all fun c => decide (97 ≤ c) && decide (c ≤ 122)
theorem nameB_mk {z : Str} (h1 : 1 ≤ z.length) (h8 : z.length ≤ 8) (h : lowB z = true) : nameB z = true := by
  unfold nameB
  unfold lowB at h
  rw [h, decide_eq_true h1, decide_eq_true h8]
  rfl
theorem nameB_low {z : Str} (h : nameB z = true) : lowB z = true := by
  unfold nameB at h
  simp only [Bool.and_eq_true] at h
  exact h.2
theorem app_len (z : Str) (c : Nat) : (z ++ (⟨#[c]⟩ : Str)).length = z.length + 1 := by
  show (z.cps ++ #[c]).size = z.cps.size + 1
  simp
theorem app_list (z : Str) (c : Nat) : (z ++ (⟨#[c]⟩ : Str)).cps.toList = z.cps.toList ++ [c] := by
  show (z.cps ++ #[c]).toList = z.cps.toList ++ [c]
  simp
theorem app_low {z : Str} {c : Nat} (h : lowB z = true) (h1 : 97 ≤ c) (h2 : c ≤ 122) : lowB (z ++ (⟨#[c]⟩ : Str)) = true := by
  unfold lowB at h ⊢
  rw [app_list, List.all_append, h]
  simp [h1, h2]
theorem app_inj {z : Str} {c d : Nat} (h : z ++ (⟨#[c]⟩ : Str) = z ++ (⟨#[d]⟩ : Str)) : c = d := by
  have e := congrArg (fun s : Str => s.cps.toList) h
  simp only [app_list] at e
  simpa using e
theorem sIx_cut (n : Nat) : HT.sIx n n (some 7) ≤ 7 := by
  rw [show HT.sIx n n (some 7) = min 7 n from HT.sIx_nat _ _ 7]
  exact Nat.min_le_left _ _
theorem cut7_len (z : Str) : (cutS z none (some 7)).length ≤ 7 := by
  show (((z.cps.toList.drop (HT.sIx z.length 0 none)).take (HT.sIx z.length z.length (some 7) - HT.sIx z.length 0 none)).toArray).size ≤ 7
  rw [List.size_toArray, List.length_take]
  have := sIx_cut z.length
  omega
theorem cut7_low {z : Str} (h : lowB z = true) : lowB (cutS z none (some 7)) = true := by
  unfold lowB at h ⊢
  rw [List.all_eq_true] at h ⊢
  intro c hc
  refine h c ?_
  have hc' : c ∈ ((z.cps.toList.drop (HT.sIx z.length 0 none)).take (HT.sIx z.length z.length (some 7) - HT.sIx z.length 0 none)) := by
    unfold cutS at hc
    simpa using hc
  exact List.mem_of_mem_drop (List.mem_of_mem_take hc')
theorem abc_list : (PySem.Str.ofString "abcdefghijklmnopqrstuvwxyz").cps.toList = (List.range 26).map (97 + ·) := by decide +kernel
theorem abc_len : (PySem.Str.ofString "abcdefghijklmnopqrstuvwxyz").length ≤ sizeLine := by decide +kernel
theorem abc_at {i : Int} (h0 : 0 ≤ i) (h : i < 26) : atI (PySem.Str.ofString "abcdefghijklmnopqrstuvwxyz").cps.toList i = some (97 + i.toNat) := by
  obtain ⟨k, rfl⟩ : ∃ k : Nat, i = (k : Int) := ⟨i.toNat, by omega⟩
  rw [abc_list]
  refine atI_nat ?_
  have hk : k < 26 := by omega
  rw [List.getElem?_map, List.getElem?_range hk]
  rfl
theorem r_ixabc {H : Hp} {Q : VK} {i : Int} (h0 : 0 ≤ i) (h : i < 26) (q : Q (.str ⟨#[97 + i.toNat]⟩) H) : rIxS (.str (PySem.Str.ofString "abcdefghijklmnopqrstuvwxyz")) (.int i) H Q := r_ixs abc_len (abc_at h0 h) q
theorem pig : ∀ (l zs : List Str), l.Nodup → (∀ x ∈ l, x ∈ zs) → l.length ≤ zs.length
  | [], _, _, _ => Nat.zero_le _
  | x :: t, zs, nd, s => by
    have hx := s x (List.mem_cons_self)
    have h2 := pig t (zs.erase x) (List.nodup_cons.mp nd).2 fun y hy => by
      have hne : y ≠ x := fun e => (List.nodup_cons.mp nd).1 (e ▸ hy)
      exact (List.mem_erase_of_ne hne).mpr (s y (List.mem_cons_of_mem _ hy))
    have h3 := List.length_erase_of_mem hx
    have h4 : 0 < zs.length := List.length_pos_of_mem hx
    rw [List.length_cons]
    omega
/-- the free names: one of 26 is free where at most three are taken -/
def cand (z : Str) (i : Nat) : Str := z ++ (⟨#[97 + i]⟩ : Str)
def freeL (z : Str) (zs : List Str) (n : Nat) : List Str := ((List.range n).map (cand z)).filter fun x => !decide (x ∈ zs)
theorem freeL_succ (z : Str) (zs : List Str) (n : Nat) : freeL z zs (n + 1) = freeL z zs n ++ (if (!decide (cand z n ∈ zs)) = true then [cand z n] else []) := by
  unfold freeL
  rw [List.range_succ, List.map_append, List.filter_append]
  congr 1
  simp only [List.map_cons,List.map_nil,List.filter_cons,List.filter_nil]
theorem freeL_len (z : Str) (zs : List Str) (n : Nat) : (freeL z zs n).length ≤ n := by
  unfold freeL
  refine Nat.le_trans (List.length_filter_le _ _) ?_
  simp
theorem freeL_ne {z : Str} {zs : List Str} (h : zs.length ≤ 3) : ∃ x t, freeL z zs 26 = x :: t := by
  cases e : freeL z zs 26 with
  | cons x t => exact ⟨x, t, rfl⟩
  | nil =>
    exfalso
    have h2 : ∀ x ∈ (List.range 26).map (cand z), x ∈ zs := fun x hx => by
      unfold freeL at e
      rw [List.filter_eq_nil_iff] at e
      have := e x hx
      simpa using this
    have nd : ((List.range 26).map (cand z)).Nodup := by
      unfold List.Nodup
      rw [List.pairwise_map]
      refine List.Pairwise.imp ?_ (List.pairwise_lt_range (n := 26))
      intro a b lt hab
      have := app_inj hab
      omega
    have := pig _ _ nd h2
    rw [List.length_map, List.length_range] at this
    omega
theorem freeL_mem {z x : Str} {zs : List Str} (h : x ∈ freeL z zs 26) : x ∉ zs ∧ ∃ i, i < 26 ∧ x = cand z i := by
  unfold freeL at h
  rw [List.mem_filter, List.mem_map] at h
  obtain ⟨⟨i, hi, rfl⟩, h2⟩ := h
  exact ⟨by simpa using h2, i, List.mem_range.mp hi, rfl⟩
theorem cand_name {z : Str} {i : Nat} (hz : lowB z = true) (h : i < 26) : nameB (cand (cutS z none (some 7)) i) = true := by
  have h7 := cut7_len z
  refine nameB_mk ?_ ?_ (app_low (cut7_low hz) (by omega) (by omega))
  · rw [cand, app_len]; omega
  · rw [cand, app_len]; omega
end Wn
/-! Wn: tuples put together. -/
namespace Wn
open PySem PySem.Spec PyProof.Rows L2
section
variable {X : Cx} {K : PySem.W.Frag} {H : Hp} {Q : VK}
theorem op_catAK (e : X.K = K) : OpR X (binaryOp .Add) (rCatA K) := by subst e; exact op_catA
/-- t + u: a tuple of both, somewhere -/
theorem r_catU {a b : Addr} {xs ys : List V} (h1 : SqT K H a xs) (h2 : SqT K H b ys) (hz : xs.length + ys.length ≤ sizeLine) (q : ∀ p H', Same H H' → SqT K H' p (xs ++ ys) → Q (.ref p) H') : rCatA K (.ref a) (.ref b) H Q := by
  refine ⟨a, b, xs, ys, rfl, rfl, h1, h2, hz, fun e => ?_, fun e1 e2 => ?_, fun e1 e2 p np => q p _ (same_new np) (.inl (.inl upd_same))⟩
  · subst e
    exact q b H (Same.refl _) h2
  · subst e2
    exact q a H (Same.refl _) (by rw [List.append_nil]; exact h1)
end
section
variable {X : Cx} {K : PySem.W.Frag} {H : Hp} {Q : VK}
theorem sl_tupK (e : X.K = K) : SlR X (rSlT K) := by subst e; exact sl_tup
theorem cutV_to {xs : List V} {k : Nat} (hk : k ≤ xs.length) : cutV xs none (some (k : Int)) = xs.take k := by
  unfold cutV
  rw [show HT.sIx xs.length xs.length (some (k : Int)) = min k xs.length from HT.sIx_nat _ _ k, HT.sIx_none]
  rw [List.drop_zero, Nat.sub_zero, Nat.min_eq_left hk]
theorem cutV_from {xs : List V} {k : Nat} (hk : k ≤ xs.length) : cutV xs (some (k : Int)) none = xs.drop k := by
  unfold cutV
  rw [show HT.sIx xs.length 0 (some (k : Int)) = min k xs.length from HT.sIx_nat _ _ k, HT.sIx_none]
  rw [Nat.min_eq_left hk]
  exact List.take_of_length_le (by rw [List.length_drop]; exact Nat.le_refl _)
theorem r_slto {a : Addr} {xs : List V} {k : Nat} (h : SqT K H a xs) (hk : k < xs.length) (q : ∀ p, H p = none → Q (.ref p) (upd H p (.tup (xs.take k)))) : rSlT K (.ref a) none (some (k : Int)) H Q := by
  refine ⟨a, xs, rfl, h, fun z => ?_, fun p np => by rw [cutV_to (Nat.le_of_lt hk)]; exact q p np⟩
  have z2 := z.2
  rw [show HT.sIx xs.length xs.length (some (k : Int)) = min k xs.length from HT.sIx_nat _ _ k, Nat.min_eq_left (Nat.le_of_lt hk)] at z2
  omega
theorem r_slfrom {a : Addr} {xs : List V} {k : Nat} (h : SqT K H a xs) (h0 : 0 < k) (hk : k ≤ xs.length) (q : ∀ p, H p = none → Q (.ref p) (upd H p (.tup (xs.drop k)))) : rSlT K (.ref a) (some (k : Int)) none H Q := by
  refine ⟨a, xs, rfl, h, fun z => ?_, fun p np => by rw [cutV_from hk]; exact q p np⟩
  have z1 := z.1
  rw [show HT.sIx xs.length 0 (some (k : Int)) = min k xs.length from HT.sIx_nat _ _ k, Nat.min_eq_left hk] at z1
  omega
end
theorem op_repTK {X : Cx} {K : PySem.W.Frag} (e : X.K = K) : OpR X (binaryOp .Mult) (rRepT K) := by subst e; exact op_repT
end Wn
/-! Wn: == and != of instances of an own class with its own __eq__ and no __ne__. -/
namespace Wn
open PySem PySem.Spec PyProof.Rows L2
section
open PySem.W (Frag findIn InstAt isFn notFirst Looks looks_findIn mroIn looks_mroIn)
variable {prog : Program} {w : World} {A : Around} {E : Value → Shared → Prop} {s : Shared} {K : Frag} {x C f : Addr} {ox : Obj} {od : Option Obj} {h₀ : Heap} {L : Addr} {m : Str → Option Value} {b tb : Value}
theorem ifBound_ne {M : Model} {args : List Value} {Q : Option Value → Shared → Prop} (X : K.In s.heap) (I : InstAt s.heap x ox C od) (hs : findIn K (.ref C) "__ne__" = some (some (.builtin "object.__ne__")))
    (h : wpAny M A (call (.builtin "object.__ne__") (.ref x :: args)) (fun v => Q (some v)) E s) : wpAny M A (callSpecialIfBound? (.ref x) "__ne__" args) Q E s := by
  simp only [callSpecialIfBound?, bindSpecialIfBound?]
  refine wpAny_holding (wpAny_bind (wpAny_bind (wpAny_bind (I.type.here ((looks_findIn X hs).here ?_)))))
  simp only [PySem.F.cmp_object.ne.bind]
  refine wpAny_bind (wpAny_askSetting (wpAny_ite ?_))
  have fin : wpAny M A (call (.builtin "object.__ne__") ([.ref x] ++ args) >>= fun v => pure (some v)) Q E s := wpAny_bind (wpAny_mono h (fun v s' h' => wpAny_pure h') fun _ _ h' => h')
  split
  · exact wpAny_bind (wpAny_pure (wpAny_pure fin))
  · exact wpAny_tryCatch (wpAny_bind (wpAny_pure (wpAny_pure fin)))
theorem ne_entry (X : K.In s.heap) (I : InstAt s.heap x ox C od) (hs : findIn K (.ref C) "__eq__" = some (some (.ref f))) (hf : isFn K (.ref f) = true) (hu : A.units < cLine) {Q : Fin → Shared → Prop}
    (hcall : wpAny (model prog w) A (call (.ref f) [.ref x, b]) (fun v s' => ∃ r, v = .bool r ∧ Q (.done (.ret (.bool (!r)))) s') E s) :
    wpAny (model prog w) A (Builtin.«object.__ne__» ⟨[.ref x, b], []⟩) Q E s := by
  unfold Builtin.«object.__ne__»
  repeat (first
    | with_reducible refine wpAny_cRoomFor hu ?_
    | (refine wpAny_bind (m := callSpecialIfBound? (.ref x) (Str.ofString "__eq__") [b])
        (PySem.W.ifBound_K X I hs hf (wpAny_mono hcall (fun r s' hr => by
          obtain ⟨b, rfl, hq⟩ := hr
          repeat (first | exact hq | exact wpAny_pure hq | exact wpAny_truthy_bool hq | (refine wpAny_bind (m := truthy (.bool _)) (wpAny_truthy_bool ?_)) | wp_step)) fun _ _ e => e)))
    | wp_step)
theorem cmp_ne {Q : Value → Shared → Prop} (hu : A.units + 1 < cLine) (F : Fr h₀ L s.heap m) (X₀ : K.In h₀) (I : InstAt s.heap x ox C od) (hb : Looks (model prog w) s.heap (typeOf b) tb) (hn : notFirst K C tb = true)
    (he : findIn K (.ref C) "__eq__" = some (some (.ref f))) (hf : isFn K (.ref f) = true) (hs : findIn K (.ref C) "__ne__" = some (some (.builtin "object.__ne__"))) (hm : mroIn K C (.type "object") = some true)
    (h : wpAny (model prog w) A.in1 (call (.ref f) [.ref x, b]) (fun v s' => ∃ r, v = .bool r ∧ Q (.bool (!r)) s') E s) : wpAny (model prog w) A (richCompare .NotEq (.ref x) b) Q E s := by
  have X := X₀.keeps F.keep
  have sub : Looks (model prog w) s.heap (isInstance (.ref x) (.type "object")) true := I.type.andThen (looks_mroIn X hm)
  have one : wpAny (model prog w) A (tryCompare (.ref x) "__ne__" b) (fun r s' => ∃ v, r = some v ∧ Q v s') E s := by
    unfold tryCompare
    refine wpAny_bind (ifBound_ne X I hs (wpAny_call (codeAny_call_builtin PySem.F.cmp_object.ne.plain PySem.F.cmpEntry_ne
      (@PySem.W.check_slot (model prog w) _ _ s "object.__ne__" "object" "__ne__" (.ref x) [b] [] _ PySem.F.cmpKind_ne PySem.F.cmpSplit_ne sub (PySem.F.cmpArgs_ne _ _)
        (ne_entry (A := A.in1) X I he hf hu (wpAny_mono h (fun v s' hv => ?_) fun _ _ e => e))))))
    obtain ⟨r, rfl, hq⟩ := hv
    first | exact ⟨r, rfl, wpAny_pure ⟨_, rfl, hq⟩⟩ | exact ⟨r, rfl, wpAny_pure (wpAny_pure ⟨_, rfl, hq⟩)⟩ | exact ⟨r, rfl, _, rfl, hq⟩
  unfold richCompare
  simp only [oneThing_ref]
  refine wpAny_holding (wpAny_bind (wpAny_cRoomFor (Nat.lt_of_succ_lt hu) ?_))
  rw [cmpInfo_NotEq]
  dsimp only
  refine wpAny_bind (I.type.here (wpAny_bind (hb.here ?_)))
  split
  · rename_i q
    have e : PySem.W.subIn K tb (.ref C) = some false := by
      rcases Bool.or_eq_true_iff.mp hn with e | e
      · rw [beq_iff_eq.mp e] at q; simp at q
      · exact beq_iff_eq.mp e
    refine wpAny_bind ((PySem.W.looks_subIn X e).here ?_)
    simp only [Bool.false_eq_true, if_false]
    refine wpAny_bind (wpAny_mono one (fun r s' z => ?_) fun _ _ e => e)
    obtain ⟨v, rfl, hq⟩ := z
    exact wpAny_pure hq
  · refine wpAny_bind (wpAny_pure ?_)
    simp only [Bool.false_eq_true, if_false]
    refine wpAny_bind (wpAny_mono one (fun r s' z => ?_) fun _ _ e => e)
    obtain ⟨v, rfl, hq⟩ := z
    exact wpAny_pure hq
end
theorem op_eqDK {X : Cx} {K : PySem.W.Frag} (e : X.K = K) (hu : X.A.units + 64 < cLine) : OpR X (compareOp .Eq) (rEqD K) := by subst e; exact op_eqD hu
theorem pe_globR {X : Cx} {x : Str} {a : Addr} {pos : Pos} (hg : Gl X x) (hm : X.mg x = some (.ref a)) (hd : (x == ("__debug__" : Str)) = false := by decide) : PE X (.Name x pos) (tC (.ref a)) := pe_glob hg hm rfl hd
section
variable {X : Cx} {CX : CXT} {C g : Addr} {n : Nat} {sp : Sp} {E : XK} {fd : FuncData} {ps : List Str}
/-- x == y, both instances of the class at C whose __eq__ is at g -/
def rOwnI (C : Addr) (sp : Sp) (E : XK) (neg : Bool) : R2 := fun x y H Q => ∃ a dx fs b dy gs, x = .ref a ∧ y = .ref b ∧ H a = some (.ins C dx fs) ∧ H b = some (.ins C dy gs) ∧ sp [x, y] H (fun z H' => ∃ r, z = .bl r ∧ Q (.bl (if neg then !r else r)) H') E
/-- what == asks of the class -/
structure OwnEq (K : PySem.W.Frag) (C g : Addr) : Prop where
  eq : PySem.W.findIn K (.ref C) "__eq__" = some (some (.ref g))
  fn : PySem.W.isFn K (.ref g) = true
  ne : PySem.W.findIn K (.ref C) "__ne__" = some (some (.builtin "object.__ne__"))
  ob : PySem.W.mroIn K C (.type "object") = some true
theorem op_eqI {K : PySem.W.Frag} (eK : X.K = K) (T : OwnEq K C g) (F : FnOk X.prog X.w X.K X.mg X.base CX n g fd ps sp) (hb : Binds K fd ps []) (hr : Room n X.A) (hx : Passes CX X E) : OpR X (compareOp .Eq) (rOwnI C sp E false) := by
  subst eK
  intro pins s σ H x y v u Q I rx ry h
  obtain ⟨a, dx, fs, b, dy, gs, rfl, rfl, ha, hb2, q⟩ := h
  cases (show v = Value.ref a from rx)
  cases (show u = Value.ref b from ry)
  obtain ⟨mA, O, _⟩ := ins_get I.hok ha
  obtain ⟨mB, O', _⟩ := ins_get I.hok hb2
  obtain ⟨od, J, _⟩ := O.look
  obtain ⟨od', J', _⟩ := O'.look
  obtain ⟨m, hF⟩ := I.fr
  show wpAny _ _ (richCompare .Eq _ _) _ _ _
  refine PySem.W.cmp_K (op := .Eq) (tb := .ref C) hr.units0 hF I.ok.mod.kin J J'.type (by simp [PySem.W.notFirst]) T.eq T.fn ?_
  refine wpAny_mono (run_fn (us := [.ref a, .ref b]) (vs := [.ref a, .ref b]) (dvs := []) F hr hb .nil hx I (.cons rfl (.cons rfl .nil)) q) (fun w s' z => ?_) fun _ _ x => x
  obtain ⟨z', H', I', rz, r, er, qz⟩ := z
  subst er
  cases (show w = Value.bool r from rz)
  exact ⟨.bl r, H', I', rfl, qz⟩
theorem run_fn1 {pins : List (Addr × Obj)} {σ : L2.St} {H : Hp} {s : Shared} {Q : VK} {us : List Value} {vs : List V} (F : FnOk X.prog X.w X.K X.mg X.base CX n g fd ps sp) (hr : Room (n + 1) X.A) (hb : Binds X.K fd ps []) (hx : Passes CX X E)
    (I : Inv X pins σ H s) (r : Vals vs us) (h : sp vs H Q E) : wpAny (model X.prog X.w) X.A.in1 (call (.ref g) us) (EP X pins σ Q) X.xe s := by
  have hl : us.length = ps.length := by rw [← r.length]; exact F.len _ _ _ _ h
  refine wpAny_call (codeAny_mono (F.run X.A.in1 X.stack s H ⟨us, []⟩ us vs Q E hr.in1 I.env0.in1 (by have := hb s us I.kIn (by rw [List.append_nil]; exact hl); rw [List.append_nil] at this; exact this) r h) fun r s' hq => ?_)
  cases r with
  | error e => exact hx pins σ H s e s' I hq
  | ok fl =>
    cases fl with
    | ret u => exact I.after hq
    | next => exact False.elim hq
    | brk => exact False.elim hq
    | cont => exact False.elim hq
theorem op_neI {K : PySem.W.Frag} (eK : X.K = K) (T : OwnEq K C g) (F : FnOk X.prog X.w X.K X.mg X.base CX n g fd ps sp) (hb : Binds K fd ps []) (hr : Room (n + 1) X.A) (hx : Passes CX X E) : OpR X (compareOp .NotEq) (rOwnI C sp E true) := by
  subst eK
  intro pins s σ H x y v u Q I rx ry h
  obtain ⟨a, dx, fs, b, dy, gs, rfl, rfl, ha, hb2, q⟩ := h
  cases (show v = Value.ref a from rx)
  cases (show u = Value.ref b from ry)
  obtain ⟨mA, O, _⟩ := ins_get I.hok ha
  obtain ⟨mB, O', _⟩ := ins_get I.hok hb2
  obtain ⟨od, J, _⟩ := O.look
  obtain ⟨od', J', _⟩ := O'.look
  obtain ⟨m, hF⟩ := I.fr
  have hu : X.A.units + 1 < cLine := by have := hr.units; omega
  show wpAny _ _ (richCompare .NotEq _ _) _ _ _
  refine cmp_ne (tb := .ref C) hu hF I.ok.mod.kin J J'.type (by simp [PySem.W.notFirst]) T.eq T.fn T.ne T.ob ?_
  refine wpAny_mono (run_fn1 (us := [.ref a, .ref b]) (vs := [.ref a, .ref b]) F hr hb hx I (.cons rfl (.cons rfl .nil)) q) (fun w s' z => ?_) fun _ _ x => x
  · obtain ⟨z', H', I', rz, r, er, qz⟩ := z
    subst er
    cases (show w = Value.bool r from rz)
    exact ⟨r, rfl, .bl (!r), H', I', rfl, qz⟩
end
end Wn
/-! Wn: exceptions of own classes as values: made, asked for their kind, read. -/
namespace Wn
open PySem PySem.Spec PyProof.Rows L2
open PySem.W (Frag findIn subIn hasDictIn specialIn takesIn mroIn InstAt KitX)
/-- what the written part tells of an own exception class -/
structure XCls (K : Frag) (D : Addr) : Prop where
  o : OexC K D
  c : ExcC K D
section
variable {prog : Program} {w : World} {A : Around} {E : Value → Shared → Prop} {s : Shared} {K : Frag} {x D : Addr} {ox : Obj} {od : Option Obj}
theorem xclass (T : ExcC K D) {Q : Option Value → Shared → Prop} (KI : K.In s.heap) (J : InstAt s.heap x ox D od) (q : Q (some (.ref D)) { s with toks := s.toks + 1 }) :
    wpAny (model prog w) A (getAttr? (.ref x) "__class__") Q E s := by
  have fo : PySem.W.findObj K D od "__class__" = some (.bind (.builtin "getset_descriptor.__get__") (.builtin "object.__class__")) := by
    have cs : (PySem.W.clsIn K D).isSome = true := by
      obtain ⟨cd, e, _⟩ := PySem.W.any_some T.hd
      rw [e]
      rfl
    cases od with
    | none => exact PySem.W.findObj_dataN cs T.ha T.hn T.ht
    | some o => exact PySem.W.findObj_data cs T.ha T.hn T.ht
  obtain ⟨hh, gg, dd, tt, oo⟩ := s
  have l0 := J.type (M := model prog w)
  have l1 := PySem.W.looks_findIn (M := model prog w) KI T.hg
  have l2 := PySem.W.looks_findIn (M := model prog w) KI T.hk
  have l3 := PySem.W.looks_find (M := model prog w) KI J fo
  have lsub : PySem.W.Looks (model prog w) hh (isInstance (.ref x) (.type "BaseException")) true :=
    l0.andThen (PySem.W.looks_subIn KI T.hs)
  have b0 : (false && onTheHeap (Value.builtin "BaseException.__getattribute__")) = false := rfl
  have b2 : (Value.builtin "BaseException.__getattribute__"
      == Value.builtin "object.__getattribute__") = false := by decide +kernel
  have b1 : (onTheHeap (Value.ref D) && Value.builtin "BaseException.__getattribute__"
      == Value.builtin "object.__getattribute__") = false := by
    rw [b2]
    rfl
  unfold getAttr? getAttrBy? getAttrBy
  refine wpAny_bind (wpAny_mkText (wpAny_bind (wpAny_attempt
    (wpAny_holding (wpAny_bind (l0.at (wpAny_bind (l1.at ?_))))))))
  show wpAny _ _ (if (onTheHeap (Value.ref D) && Value.builtin "BaseException.__getattribute__"
    == Value.builtin "object.__getattribute__") = true then _ else _) _ _ _
  rw [b1, if_neg Bool.false_ne_true]
  unfold getAttrByItsOwn hookBefore
  refine wpAny_bind ?_
  have ht : onTheHeap (Value.ref D) = true := rfl
  rw [if_pos ht]
  refine l2.at ?_
  refine wpAny_bind (wpAny_attempt
    (wpAny_holding ?_))
  unfold callGetattribute
  rw [b0, if_neg Bool.false_ne_true]
  unfold boundAndCalled
  rw [PySem.F.excAttr_ValueError.ga.bind
    (.ref x)]
  refine wpAny_bind (wpAny_pure ?_)
  show wpAny _ _ (call (.builtin "BaseException.__getattribute__")
    [.ref x, .str "__class__" tt]) _ _ _
  refine wpAny_call (codeAny_call_builtin PySem.F.excAttr_ValueError.ga.plain
    PySem.F.entry_bexc_ga ?_)
  refine @PySem.W.check_slot (model prog w) _ _ ⟨hh, gg, dd, tt + 1, oo⟩ "BaseException.__getattribute__" "BaseException" "__getattribute__" (.ref x) [.str "__class__" tt] [] _ (by decide +kernel) (by decide +kernel) lsub (PySem.F.args_bexc_ga (.ref x) (.str "__class__" tt)) ?_
  unfold Builtin.«object.__getattribute__»
  refine wpAny_bind (wpAny_of_eq (a := ((Value.ref x : Value), [Value.str "__class__" tt]))
    (by first | rfl | (simp only [slotArgs]; rfl)) ?_)
  refine wpAny_bind (wpAny_pure (wpAny_bind
    (l0.at (wpAny_bind (l3.at ?_)))))
  show wpAny _ _ (holding [Value.builtin "object.__class__"] (call (.builtin "getset_descriptor.__get__")
    [.builtin "object.__class__", .ref x, .ref D]) >>= ret) _ _ _
  refine wpAny_bind (wpAny_holding (wpAny_call (PySem.W.class_get (s := ⟨hh, gg, dd, tt + 1, oo⟩) (ox := ox) (od := od) KI J T.hm ?_)))
  refine wpAny_pure ?_
  show wpAny _ _ (handedOut (.ref D)) _ _ _
  rw [PySem.W.handedOut_of (v := .ref D) rfl]
  first
    | exact wpAny_pure (wpAny_pure q)
    | exact wpAny_pure q
    | exact wpAny_pure (wpAny_bind
        (wpAny_pure (wpAny_pure q)))
theorem cls_there (T : ExcC K D) : ∃ d' cd' sl' c', K.lookup D = some ⟨c', d', .cls cd', sl'⟩ := by
  obtain ⟨cd, e, _⟩ := PySem.W.any_some T.hd
  unfold PySem.W.clsIn at e
  split at e
  · rename_i c1 d1 cd1 sl1 ho
    exact ⟨_, _, _, _, ho⟩
  · cases e
theorem xkit (T : ExcC K D) : KitX K (.ref x) (.ref D) (fun h => InstAt h x ox D od) where
  ty := fun _ _ _ J => J.type
  it := fun _ h KI _ => by
    obtain ⟨d', cd', sl', c', ho⟩ := cls_there T
    intro A1 Q1 E1 s1 kp q
    unfold isType loadHead
    refine wpAny_bind (wpAny_loadPart (kp _ _ (KI _ _ ho)) ?_)
    exact wpAny_pure q
  ne := fun h tp d1 its n sl KI e => by
    obtain ⟨d', cd', sl', c', ho⟩ := cls_there T
    cases hq : (Value.ref D == Value.ref tp) with
    | false => rfl
    | true =>
      have e2 : D = tp := Value.ref.inj (beq_iff_eq.mp hq)
      have z := KI _ _ ho
      rw [e2, e] at z
      cases z
  ca := fun KI J q => xclass T KI J q
end
/-! ### rules -/
/-- C(e, ..) as a value, C's own __init__ keeping sp -/
def tMkV (C : Addr) (sp : Sp) (dvs : List V) (ta : TA) : TE := fun σ H Q => ta σ H fun vs H1 => vs.length ≤ 1000 ∧ ∀ a, H1 a = none →
  sp (.ref a :: (vs ++ dvs)) (upd H1 a (exo a C none)) (fun v H2 => v = .non ∧ Q (.ref a) H2) (fun _ _ _ => False)
section
variable {X : Cx} {e : Expr} {es : List Expr} {ta : TA} {te : TE} {p pos : Pos}
theorem pe_mkV {CX : CXT} {x : Str} {C fI : Addr} {k : Nat} {fd : FuncData} {ps : List Str} {sp : Sp} {ds : List Value} {dvs : List V} (T : OexC X.K C)
    (iC : findIn X.K (.ref C) "__init__" = some (some (.ref fI))) (tI : PySem.W.typeIn X.K (.ref fI) = some (.type "function"))
    (G : FnOk X.prog X.w X.K X.mg X.base CX k fI fd ps sp) (hr : Room (k + 1) X.A) (hb : Binds X.K fd ps ds) (hd : Vals dvs ds) (hx : Passes CX X (fun _ _ _ => False))
    (hg : Gl X x) (hm : X.mg x = some (.ref C)) (ha : PA X (e :: es) ta) (hdb : (x == ("__debug__" : Str)) = false := by decide)
    (he : starEach (e :: es) X.env = (false, eval e X.env) :: starEach es X.env := by rfl) (hpl : (backTo pos (starEach es X.env)).any (·.1) = false := by rfl) :
    PE X (.Call (.Name x p) (e :: es) [] pos) (tMkV C sp dvs ta) := by
  refine ⟨fun pins s σ H Q I h => ?_⟩
  obtain ⟨nm, q, N, bs, bm, sn, sub, ab, col, dd, k0, k1, k2, k3, k5, lC, rbm⟩ := T.cls
  refine wpAny_Call_Name_kw (ld_glob I hg hm ?_ hdb)
  refine PySem.W.callWith_K (h₀ := X.base) I.ok.mod.kin T.kC
    (thn (ha.run pos pins s σ H _ I h) fun us s1 ⟨vs, H1, I1, rv, hz, q1⟩ => ⟨I1.kIn, ?_⟩) he hpl
  show wpAny _ _ (call (.ref C) us) _ _ _
  obtain ⟨hp, gg, dr, tk, os⟩ := s1
  have big : hp.objs.size ≤ hp.objs.size + 1 := Nat.le_succ _
  have fresh : H1 (hp.objs.size + 1) = none := I1.hok.fresh big
  have want := q1 (hp.objs.size + 1) fresh
  generalize hE : (hp.push (PySem.W.kdv_tup us)).push (PySem.HandSPX.excO C hp.objs.size) = hp2
  have keep2 : ∀ b o, hp.get? b = some o → hp2.get? b = some o := fun b o z => by
    rw [← hE]
    exact Heap.get?_push_of_some _ (Heap.get?_push_of_some _ z)
  have at2 : hp2.get? (hp.objs.size + 1) = some (PySem.HandSPX.excO C hp.objs.size) := by
    rw [← hE]
    heap_get
  have I2 : Inv X pins σ (upd H1 (hp.objs.size + 1) (exo (hp.objs.size + 1) C none)) ⟨hp2, gg, dr, tk, os⟩ :=
    I1.laid (t' := tk) (a := hp.objs.size + 1) (o := exo (hp.objs.size + 1) C none) (h' := hp2) keep2 big (exo_ok at2)
  have vals2 : Vals (V.ref (hp.objs.size + 1) :: (vs ++ dvs)) (Value.ref (hp.objs.size + 1) :: (us ++ ds)) := .cons rfl (rv.append hd)
  have len2 : (Value.ref (hp.objs.size + 1) :: us ++ ds).length = ps.length := by
    have z := vals2.length
    rw [G.len _ _ _ _ want] at z
    exact z.symm
  have few : us.length ≤ sizeLine := by
    rw [← Paired.length rv, sizeLine_eq]
    omega
  have run := G.run _ X.stack _ _ ⟨Value.ref (hp.objs.size + 1) :: us, []⟩ (Value.ref (hp.objs.size + 1) :: (us ++ ds)) _ _ (fun _ _ _ => False) (hr.make C us []) (I2.env0.make C us [])
    (hb _ (Value.ref (hp.objs.size + 1) :: us) I2.kIn len2) vals2 want
  refine wpAny_call (PySem.HandSPX.call_own F.excBase_ValueError (fun Y => PySem.HandSPX.refsVE_contains Y bm rbm) (I1.kIn _ _ lC)
    (PySem.W.looks_findIn I1.kIn iC) (fun self => PySem.W.bind_fn I1.kIn self tI) few (by
      rw [hE]
      refine codeAny_mono run fun r s' hq' => ?_
      cases r with
      | error er => exact hx pins σ _ _ er s' I2 hq'
      | ok fl =>
        cases fl with
        | ret u =>
          obtain ⟨v, H2, I3, rv', ev, q2⟩ := I2.after hq'
          subst ev
          exact ⟨rv', ⟨V.ref (hp.objs.size + 1), H2, I3, rfl, q2⟩⟩
        | next => exact False.elim hq'
        | brk => exact False.elim hq'
        | cont => exact False.elim hq'))
/-- C() as a value, C an own class without own __init__ -/
theorem pe_mkV0 {C : Addr} {bmB : List Value} {B newId initId : String} {x : Str} (F : ExcBaseFacts B newId initId bmB) (q : PySem.W.excIn X.K C bmB newId = true)
    (hg : Gl X x) (hm : X.mg x = some (.ref C)) (kC : PySem.W.keepIn X.K (.ref C) = true) (hdb : (x == ("__debug__" : Str)) = false := by decide) :
    PE X (.Call (.Name x p) [] [] pos) (fun _ H Q => ∀ a, H a = none → Q (.ref a) (upd H a (exo a C none))) := by
  refine ⟨fun pins s σ H Q I h => ?_⟩
  refine wpAny_Call_Name_kw (ld_glob I hg hm ?_ hdb)
  refine PySem.W.callWith_K0 I.kIn kC ?_
  obtain ⟨bm, N, nm, qn, bs, hdct, sn, sub, ab, col, dd, k0, k1, k2, k3, k5, mN, lC, nN, nI, T⟩ := exc_obj I.kIn q
  refine wpAny_call_exc_subT F T lC nN nI (fun h' a md => ?_) (by show 0 ≤ sizeLine; exact Nat.zero_le _)
  have fresh : H a = none := I.hok.gone md.new
  obtain ⟨t, at', _, _⟩ := md.there
  exact ⟨.ref a, upd H a (exo a C none), I.laidN md.keeps md.new fresh (exo_ok at'), rfl, h a fresh⟩
/-- isinstance(e, c), e an own exception that is tracked -/
def rIsX (K : Frag) : List V → Hp → VK → Prop := fun xs H Q => ∃ (a D : Addr) (od : Option Addr) (c : V) (cv : Value) (b : Bool), xs = [.ref a, c] ∧ H a = some (exo a D od) ∧ (∀ d, od = some d → ∃ fs, H d = some (exd d fs)) ∧ ExcC K D ∧
  ClsV c cv ∧ PySem.W.kitOne K (.ref D) cv = some b ∧ Q (.bl b) H
theorem inst_of {pins : List (Addr × Obj)} {σ : L2.St} {H : Hp} {s : Shared} {a D : Addr} {od : Option Addr} (I : Inv X pins σ H s) (ea : H a = some (exo a D od)) (ed : ∀ d, od = some d → ∃ fs, H d = some (exd d fs)) :
    ∃ ox oo, InstAt s.heap a ox D oo ∧ ∀ d, od = some d → ∃ o, oo = some o ∧ s.heap.get? d = some o := by
  obtain ⟨t1, ho⟩ := exo_at I.hok ea
  cases od with
  | none => exact ⟨_, none, ⟨ho, rfl, rfl, trivial⟩, fun d z => nomatch z⟩
  | some d =>
    obtain ⟨fs, e2⟩ := ed d rfl
    obtain ⟨mA, hns, rel⟩ := exd_at I.hok e2
    obtain ⟨oD, ho2, _⟩ := lookIn_ns hns
    exact ⟨_, some oD, ⟨ho, rfl, rfl, ho2⟩, fun d' z => by
      cases z
      exact ⟨oD, rfl, ho2⟩⟩
theorem call_isX : CallR X (.builtin "isinstance") (rIsX X.K) := by
  intro pins s σ H xs us Q I r h
  obtain ⟨a, D, od, c, cv, b, rfl, ea, ed, T, hc, e, q⟩ := h
  obtain ⟨u1, u2, rfl, r1, r2⟩ := vals2 r
  cases (show u1 = Value.ref a from r1)
  have e2 := hc.eq r2
  subst e2
  obtain ⟨ox, oo, J, _⟩ := inst_of I ea ed
  exact PySem.W.kia_one (xkit (x := a) (ox := ox) (od := oo) T) I.kIn J e (fun z => nomatch z) fun tk => ⟨.bl b, H, I.tok tk, rfl, q⟩
/-- e.f, e an own exception that is tracked -/
def tFldX (K : Frag) (f : Str) (te : TE) : TE := fun σ H Q => te σ H fun x H1 => ∃ (a D d : Addr) (fs : List (Str × V)) (v : V), x = .ref a ∧ H1 a = some (exo a D (some d)) ∧ H1 d = some (exd d fs) ∧ fs.lookup f = some v ∧
  ExcC K D ∧ findIn K (.ref D) f = some none ∧ Q v H1
theorem pe_fldX {f : Str} (he : PE X e te) (hb : attributeBase e f X.env (eval e X.env) = eval e X.env := by rfl) : PE X (.Attribute e f pos) (tFldX X.K f te) := by
  refine ⟨fun pins s σ H Q I h => ?_⟩
  refine attr_of hb (thn (he.run pins s σ H _ I h) fun u s1 hh => ?_)
  obtain ⟨x, H1, I1, rx, a, D, d, fs, v, ex, ea, ed, lk, T, nf, q⟩ := hh
  subst ex
  obtain rfl : u = Value.ref a := rx
  obtain ⟨mA, hns, rel⟩ := exd_at I1.hok ed
  obtain ⟨oD, ho2, hl⟩ := lookIn_ns hns
  obtain ⟨t1, ho⟩ := exo_at I1.hok ea
  obtain ⟨uv, hu, ru⟩ := RelO.some_of (v := v) (o := mA f) (by rw [← lk]; exact rel f)
  have J : InstAt s1.heap a ({ cls := .ref D, dict := some d, data := .fields #[.ref t1, .none, .none, .none, .bool false, .none] } : Obj) D (some oD) := ⟨ho, rfl, rfl, ho2⟩
  exact HandSPX.exc_get I1.kIn J T.hg T.hk T.hs (PySem.W.findObj_own T.hd nf rfl (by rw [hl, hu])) (handed_of ru) ⟨v, H1, I1.tok _, ru, q⟩
end
end Wn
/-! Wn: own errors with a field raised; x in a tuple of data. -/
namespace Wn
open PySem PySem.Spec PyProof.Rows L2
section
variable {X : Cx} {K : PySem.W.Frag}
def rInDT (K : PySem.W.Frag) (neg : Bool) : R2 := fun x y H Q => ∃ d ds, Dp K H x d ∧ Dp K H y (.tuple ds) ∧ SeqAt.shaped d = true ∧ SeqAt.shaped (.tuple ds) = true ∧ Q (.bl (if neg then !(ds.any fun z => PyData.eqv z d) else ds.any fun z => PyData.eqv z d)) H
theorem op_inDTK (eK : X.K = K) (hu : X.A.units + 65 < cLine) : OpR X (compareOp .In) (rInDT K false) := by
  subst eK
  intro pins s σ H x y v u Q I rx ry h
  obtain ⟨d, ds, hd, he, sd, se, q⟩ := h
  obtain ⟨as, r1⟩ := Dp.reads I d x v hd rx
  obtain ⟨bs, r2⟩ := Dp.reads I (.tuple ds) y u he ry
  exact SeqAt.in_tuple_reads r2 r1 (SeqAt.canLay_of_shaped se) (SeqAt.canLay_of_shaped sd) (room_in_shaped sd hu) ⟨.bl _, H, I, rfl, q⟩
theorem op_notinDTK (eK : X.K = K) (hu : X.A.units + 65 < cLine) : OpR X (compareOp .NotIn) (rInDT K true) := by
  subst eK
  intro pins s σ H x y v u Q I rx ry h
  obtain ⟨d, ds, hd, he, sd, se, q⟩ := h
  obtain ⟨as, r1⟩ := Dp.reads I d x v hd rx
  obtain ⟨bs, r2⟩ := Dp.reads I (.tuple ds) y u he ry
  exact SeqAt.notIn_tuple_reads r2 r1 (SeqAt.canLay_of_shaped se) (SeqAt.canLay_of_shaped sd) (room_in_shaped sd hu) ⟨.bl _, H, I, rfl, q⟩
end
/-- what __init__ of an error with one field does -/
def spE1 (C : Addr) (f : Str) : Sp := fun vs H Q _ => ∃ (a : Addr) (v : V), vs = [.ref a, v] ∧ H a = some (exo a C none) ∧ ∀ d, H d = none → d ≠ a → Q .non (upd (upd H d (exd d [(f, v)])) a (exo a C (some d)))
def spE2 (C : Addr) (f g : Str) : Sp := fun vs H Q _ => ∃ (a : Addr) (v w : V), vs = [.ref a, v, w] ∧ H a = some (exo a C none) ∧ ∀ d, H d = none → d ≠ a → Q .non (upd (upd (upd H d (exd d [(f, v)])) a (exo a C (some d))) d (exd d [(g, w), (f, v)]))
theorem mk_one {C : Addr} {f : Str} {v : V} {H : Hp} {Q : XK} {E : XK} (q : ∀ d H', Same H H' → H d = none → H' d = some (.xd [(f, v)]) → Q (.ref C) (some d) H') :
    [v].length ≤ 1000 ∧ ∀ a, H a = none → spE1 C f (.ref a :: ([v] ++ [])) (upd H a (exo a C none)) (fun v H2 => v = .non ∧ ∃ (d : Addr) (fs : List (Str × V)), H2 a = some (exo a C (some d)) ∧ H2 d = some (exd d fs) ∧ H d = none ∧ Q (.ref C) (some d) (upd (del H2 a) d (.xd fs))) E := by
  refine ⟨by show 1 ≤ 1000; decide, fun a na => ⟨a, v, rfl, upd_same, fun d nd ne => ?_⟩⟩
  have nd2 : H d = none := by rw [upd_ne ne] at nd; exact nd
  refine ⟨rfl, d, [(f, v)], upd_same, (upd_ne ne).trans upd_same, nd2, q d _ (fun b o e => ?_) nd2 upd_same⟩
  have hb : b ≠ a := ne_of_none e na
  have hd : b ≠ d := ne_of_none e nd2
  rw [upd_ne hd]
  show del _ a b = _
  unfold del
  rw [if_neg hb, upd_ne hb, upd_ne hd, upd_ne hb]
  exact e
theorem mk_two {C : Addr} {f g : Str} {v w : V} {H : Hp} {Q : XK} {E : XK} (q : ∀ d H', Same H H' → H d = none → H' d = some (.xd [(g, w), (f, v)]) → Q (.ref C) (some d) H') :
    [v, w].length ≤ 1000 ∧ ∀ a, H a = none → spE2 C f g (.ref a :: ([v, w] ++ [])) (upd H a (exo a C none)) (fun v H2 => v = .non ∧ ∃ (d : Addr) (fs : List (Str × V)), H2 a = some (exo a C (some d)) ∧ H2 d = some (exd d fs) ∧ H d = none ∧ Q (.ref C) (some d) (upd (del H2 a) d (.xd fs))) E := by
  refine ⟨by show 2 ≤ 1000; decide, fun a na => ⟨a, v, w, rfl, upd_same, fun d nd ne => ?_⟩⟩
  have nd2 : H d = none := by rw [upd_ne ne] at nd; exact nd
  refine ⟨rfl, d, [(g, w), (f, v)], (upd_ne ne.symm).trans upd_same, upd_same, nd2, q d _ (fun b o e => ?_) nd2 upd_same⟩
  have hb : b ≠ a := ne_of_none e na
  have hd : b ≠ d := ne_of_none e nd2
  rw [upd_ne hd]
  show del _ a b = _
  unfold del
  rw [if_neg hb, upd_ne hd, upd_ne hb, upd_ne hd, upd_ne hb]
  exact e
theorem room65 {k : Nat} {A : Around} (r : Room (k + 1) A) : A.units + 65 < cLine := by have := r.un; omega
end Wn
/-! Wn: try with several clauses «except C as n». -/
namespace Wn
open PySem PySem.Spec PyProof.Rows L2
abbrev Cl := Value × Nat × (Addr → Value → Option Addr → TS)
/-- clause by clause: the wish of one, and of those behind it where it does not name the class -/
def wMA (K : PySem.W.Frag) (Wout : WX) (D : Ends) : List Cl → WX
  | [] => Wout
  | (c, i, ts) :: r => wAs K c i ts (wMA K Wout D r) D
inductive HdsA (X : Cx) : List ExceptHandler → List Cl → Prop
  | nil : HdsA X [] []
  | cons {x n : Str} {c : Value} {i : Nat} {ts : Addr → Value → Option Addr → TS} {st : Stmt} {sts : List Stmt} {p1 p2 : Pos} {hs : List ExceptHandler} {l : List Cl} (hi : X.N[i]? = some n) (hl : X.env.kindOf n = some .local) (hc : Names X x c)
      (hsu : ∀ (a : Addr) (oe : Obj) (cls : Value) (d : Option Addr) (pn : List (Addr × Obj)), Zc cls d oe → (∃ vs, oe.data = .fields vs) → PSs (X.suite a ((a, oe) :: pn)) (st :: sts) (ts a cls d)) (r : HdsA X hs l) :
      HdsA X (.ExceptHandler (some (.Name x p1)) (some n) (st :: sts) p2 :: hs) ((c, i, ts) :: l)
section
variable {X : Cx} {pins : List (Addr × Obj)} {σ : L2.St} {H : Hp} {D : Ends} {a : Addr} {cls : Value} {d : Option Addr} {Wout : WX} {h3 : Heap} {s' sI : Shared} {B : Heap}
/-- an exception of the body at a: caught, landed -/
structure Got (X : Cx) (pins : List (Addr × Obj)) (σ : L2.St) (H : Hp) (sI s' : Shared) (B h3 : Heap) (a : Addr) (cls : Value) (d : Option Addr) : Prop where
  inv : Inv X pins σ H sI
  nb : ∀ b o, sI.heap.get? b = some o → b ∉ frs X.stack → B.get? b = some o
  up : sI.heap.UpToSlots h3
  fl : HandSPX.FlyingZ B (X.env :: X.outer) a (Zc cls d) h3
  na : H a = none
  os : s'.os = sI.os
  ag : AllBare s'.gens
theorem Got.here (g : Got X pins σ H sI s' B h3 a cls d) : Inv X pins σ H { s' with heap := h3 } := g.inv.landed g.nb g.fl.1 g.up g.os g.ag
/-- none of the frames' records is the exception -/
theorem Got.apart (g : Got X pins σ H sI s' B h3 a cls d) (hf : X.env.frame = some X.env.locals) : a ≠ X.env.locals ∧ a ∉ X.fs := by
  obtain ⟨oe, vs, he, _, hd⟩ := g.fl.there
  have key : a ∉ frs (X.env :: X.outer) := fun hm => by
    obtain ⟨_, o2, e2, bad⟩ := g.fl.2.2.1.mem hm
    cases he.symm.trans e2
    exact bad _ hd
  constructor
  · intro z
    exact key (List.mem_filterMap.mpr ⟨X.env, .head _, by rw [hf, z]⟩)
  · intro hm
    obtain ⟨e, he2, q⟩ := List.mem_filterMap.mp hm
    exact key (List.mem_filterMap.mpr ⟨e, .tail _ he2, q⟩)
theorem Got.suite (g : Got X pins σ H sI s' B h3 a cls d) (hf : X.env.frame = some X.env.locals) : ∃ oe, Zc cls d oe ∧ (∃ vs, oe.data = .fields vs) ∧ h3.get? a = some oe ∧ Inv (X.suite a ((a, oe) :: (X.pn ++ pins))) [] σ H { s' with heap := h3 } := by
  obtain ⟨oe, vs, he, hz, hd⟩ := g.fl.there
  obtain ⟨n1, n2⟩ := g.apart hf
  exact ⟨oe, hz, ⟨vs, hd⟩, he, g.here.suite he hd g.na n1 n2⟩
/-- no clause is left: it goes on outwards -/
theorem Got.out (g : Got X pins σ H sI s' B h3 a cls d) (hs : X.stack = X.env :: X.outer) (hf : X.env.frame = some X.env.locals) (tk : Takes X Wout) (w : Wout cls d σ H) :
    wpAny (model X.prog X.w) X.A (handleBy (.ref a) X.env []) (SP X pins D) X.xe { s' with heap := h3 } := by
  refine wpAny_handleBy_nil ?_
  obtain ⟨_, _, _, oe, vs, T, oT, _, he, _, hd, h1, _⟩ := id g.fl
  unfold PySem.passOn
  refine wpAny_bind (wpAny_field he hd h1 ?_)
  rw [if_neg (by simp : ¬ ((Value.ref T == Value.none) = true))]
  have last : wpAny (model X.prog X.w) X.A (setFlight (.ref a) X.env.frame) (fun _ s4 => wpAny (model X.prog X.w) X.A (throw (.ref a) : Sem Flow) (SP X pins D) X.xe s4) X.xe { s' with heap := h3 } := by
    rw [hf]
    exact HandSPX.setFlight_upZ g.fl fun h4 held u4 => wpAny_throw (tk _ _ ⟨a, B, sI, pins, σ, H, cls, d, rfl, g.inv, g.nb, g.up.trans u4, .inr (.inr (by rw [hs]; exact held)), g.na, g.os, g.ag, w⟩)
  first
    | exact wpAny_bind last
    | exact wpAny_bind (wpAny_pure (wpAny_bind last))
theorem Got.by (hs : X.stack = X.env :: X.outer) (hf : X.env.frame = some X.env.locals) (hN : X.N.Nodup) (ok : X.Ok) (tk : Takes X Wout) {hds : List ExceptHandler} {l : List Cl} (hh : HdsA X hds l) (g : Got X pins σ H sI s' B h3 a cls d) :
    wMA X.K Wout D l cls d σ H → wpAny (model X.prog X.w) X.A (handleBy (.ref a) X.env hds) (SP X pins D) X.xe { s' with heap := h3 } := by
  induction hh with
  | nil => exact fun w => g.out hs hf tk w
  | @cons x n c i ts st sts p1 p2 hs2 l2 hi hl hc hsu r ih =>
    rintro ⟨b, hb, yes, no⟩
    obtain ⟨oe3, hz3, _, he3, S3⟩ := g.suite hf
    refine wpAny_handleBy_cons (codeAny_handlers_test ?_) (by intro q; cases q)
    have looks := PySem.W.exm_one (M := model X.prog X.w) g.here.kIn (fun A Q E s k q => wpAny_typeOf_ref (k _ _ he3) (by rw [hz3.1]; exact q)) hb
    have named : ∀ {Q : Value → Shared → Prop} {E : Value → Shared → Prop}, Q c { s' with heap := h3 } → wpAny (model X.prog X.w) (X.A.mark (some (.ref a))) (eval (.Name x p1) X.env) Q E { s' with heap := h3 } := by
      intro Q E q
      rcases hc with ⟨h1, h2, h3' | ⟨h4, h5, h6⟩⟩
      · exact ld_glob (X := X.suite a ((a, oe3) :: (X.pn ++ pins))) S3 h1 h3' q h2
      · exact ld_blt (X := X.suite a ((a, oe3) :: (X.pn ++ pins))) S3 h1 h4 h5 q h6 h2
    refine named (looks.here ?_)
    cases b with
    | false => exact ih (no rfl)
    | true =>
      refine codeAny_handlers_suite_as ?_
      refine HandSPX.lands_againZ g.fl fun h4 fl4 up4 => ?_
      have g4 : Got X pins σ H sI s' B h4 a cls d := ⟨g.inv, g.nb, g.up.trans up4, fl4, g.na, g.os, g.ag⟩
      obtain ⟨oe4, hz4, hv4, _, S4⟩ := g4.suite hf
      refine store_ok (X := X.suite a ((a, oe4) :: (X.pn ++ pins))) (v := .ref a) S4 hN hi (.inl hl) rfl (fun s5 S5 => ?_) (.inr hl)
      refine wpAny_mono ((hsu a oe4 cls d (X.pn ++ pins) hz4 hv4).run [] s5 _ H _ S5 (yes rfl a g.na)) (fun f s6 hsp => ?_) (fun _ _ z => False.elim z)
      have gone : ∀ {σ6 : L2.St} {H6 : Hp} {Q : Shared → Prop}, Inv (X.suite a ((a, oe4) :: (X.pn ++ pins))) [] σ6 H6 s6 → (∀ s7, Inv X pins (σ6.set i none) H6 s7 → Q s7) →
          wpAny (model X.prog X.w) X.A (do bindName X.env n .none; unbindBehindTheSuite X.env n p2) (fun _ s7 => Q s7) X.xe s6 := fun S6 hq => gone_ok (S6.unsuite ok) hN hi hl hq
      cases f with
      | ret u => obtain ⟨v6, σ6, H6, S6, r6, q6⟩ := hsp; exact gone S6 fun s7 J7 => ⟨_, _, _, J7, r6, q6⟩
      | next => obtain ⟨σ6, H6, S6, q6⟩ := hsp; exact gone S6 fun s7 J7 => ⟨_, _, J7, q6⟩
      | brk => obtain ⟨σ6, H6, S6, q6⟩ := hsp; exact gone S6 fun s7 J7 => ⟨_, _, J7, q6⟩
      | cont => obtain ⟨σ6, H6, S6, q6⟩ := hsp; exact gone S6 fun s7 J7 => ⟨_, _, J7, q6⟩
theorem ps_try_manyA {body : List Stmt} {h₀ : ExceptHandler} {hds : List ExceptHandler} {l : List Cl} {pos : Pos} {tb : WX → TS} (hs : X.stack = X.env :: X.outer) (hf : X.env.frame = some X.env.locals) (hN : X.N.Nodup) (tk : Takes X Wout)
    (hb : ∀ (W : WX) (pn : List (Addr × Obj)) (xe : Value → Shared → Prop), Takes (X.tr pn xe) W → PassesOwn (model X.prog X.w) X.A X.env xe → PSs (X.tr pn xe) body (tb W)) (hh : HdsA X (h₀ :: hds) l) :
    PS X (.Try body (h₀ :: hds) [] [] pos) (fun D σ H => tb (wMA X.K Wout D l) D σ H) := by
  refine ⟨fun pins s σ H D I h => ?_⟩
  have ok := I.ok
  have hfr : X.A.frames = some (X.env :: X.outer) := by rw [ok.frames, hs]
  refine wpAny_Try_except ?_
  let xe' : Value → Shared → Prop := fun e s₁ => wpAny (model X.prog X.w) X.A (noteFrame e X.env) (fun _ s₂ => wpAny (model X.prog X.w) X.A (setFlight e none) (fun _ s₃ => wpAny (model X.prog X.w) X.A (handleBy e X.env (h₀ :: hds)) (SP X pins D) X.xe s₃) X.xe s₂) X.xe s₁
  have take : Takes (X.tr (X.pn ++ pins) xe') (wMA X.K Wout D l) := by
    rintro u s' ⟨a, B, sI, pins', σ', H', cls, d, rfl, J', nb, up, sky, na, os, ag, w⟩
    refine Sky.land Zc.steady hfr hf (show Sky B (X.env :: X.outer) a (Zc cls d) X.env.locals s'.heap by rw [← hs]; exact sky) fun h3 fl3 up3 => ?_
    exact Got.by hs hf hN ok tk hh (Got.mk (J'.ofTry ok) nb (up.trans up3) fl3 na os ag) w
  refine wpAny_mono ((hb _ (X.pn ++ pins) xe' take PassesOwn.looking).run [] s σ H D (I.toTry _) h) (fun f s1 hsp => ?_) (fun e s1 he => he)
  cases f with
  | ret u => obtain ⟨v, σ', H', J', r, q⟩ := hsp; exact ⟨v, σ', H', J'.ofTry ok, r, q⟩
  | next => obtain ⟨σ', H', J', q⟩ := hsp; exact wpAny_execs_nil ⟨σ', H', J'.ofTry ok, q⟩
  | brk => obtain ⟨σ', H', J', q⟩ := hsp; exact ⟨σ', H', J'.ofTry ok, q⟩
  | cont => obtain ⟨σ', H', J', q⟩ := hsp; exact ⟨σ', H', J'.ofTry ok, q⟩
end
end Wn
/-! Wn: isinstance of a caught error, in its suite. -/
namespace Wn
open PySem PySem.Spec PyProof.Rows L2
section
variable {X : Cx} {a : Addr} {oe : Obj} {cls : Value} {d : Option Addr} {pn : List (Addr × Obj)}
/-- the error's dict, if it has one -/
def Dx (H : Hp) : Option Addr → Prop
  | some dd => ∃ fs, H dd = some (.xd fs)
  | none => True
def rIsA (K : PySem.W.Frag) (a : Addr) (cls : Value) (d : Option Addr) : List V → Hp → VK → Prop := fun xs H Q => ∃ (D : Addr) (c : V) (cv : Value) (b : Bool), xs = [.ref a, c] ∧ cls = .ref D ∧ Dx H d ∧ ExcC K D ∧ ClsV c cv ∧ PySem.W.kitOne K (.ref D) cv = some b ∧ Q (.bl b) H
def rIsAT (K : PySem.W.Frag) (a : Addr) (cls : Value) (d : Option Addr) : List V → Hp → VK → Prop := fun xs H Q => ∃ (D : Addr) (tp : Addr) (cs : List V) (us : List Value) (b : Bool), xs = [.ref a, .ref tp] ∧ cls = .ref D ∧ Dx H d ∧ ExcC K D ∧
  H tp = some (.tup cs) ∧ Paired ClsV cs us ∧ PySem.W.kitAny K (.ref D) us = some b ∧ Q (.bl b) H
theorem caught_at {pins : List (Addr × Obj)} {σ : L2.St} {H : Hp} {s : Shared} {D : Addr} (hz : Zc (.ref D) d oe) (hf : ∃ vs, oe.data = .fields vs) (I : Inv (X.suite a ((a, oe) :: pn)) pins σ H s) (e : Dx H d) :
    ∃ od, PySem.W.InstAt s.heap a oe D od := by
  obtain ⟨ha, _⟩ := I.pin (a, oe) (List.mem_append_left _ List.mem_cons_self)
  obtain ⟨vs, hd⟩ := hf
  cases d with
  | none => exact ⟨none, ha, hz.1, by unfold PySem.W.notCls; rw [hd] <;> rfl, by rw [hz.2]; trivial⟩
  | some dd =>
  obtain ⟨fs, e⟩ := e
  obtain ⟨mA, hns, hr⟩ := (I.hok dd _ e : ObjOk _ _ H s.heap dd (.xd fs))
  obtain ⟨od, ho, hl⟩ := lookIn_ns hns
  exact ⟨some od, ha, hz.1, by unfold PySem.W.notCls; rw [hd] <;> rfl, by rw [hz.2]; exact ho⟩
theorem call_isA {K : PySem.W.Frag} (eK : X.K = K) (hz : Zc cls d oe) (hf : ∃ vs, oe.data = .fields vs) : CallR (X.suite a ((a, oe) :: pn)) (.builtin "isinstance") (rIsA K a cls d) := by
  subst eK
  intro pins s σ H xs us Q I r h
  obtain ⟨D, c, cv, b, rfl, rfl, ed, T, hc, e, q⟩ := h
  obtain ⟨u1, u2, rfl, r1, r2⟩ := vals2 r
  cases (show u1 = Value.ref a from r1)
  have e2 := hc.eq r2
  subst e2
  obtain ⟨od, J⟩ := caught_at hz hf I ed
  exact PySem.W.kia_one (xkit (x := a) (ox := oe) (od := od) T) I.kIn J e (fun z => nomatch z) fun tk => ⟨.bl b, H, I.tok tk, rfl, q⟩
theorem call_isAT {K : PySem.W.Frag} (eK : X.K = K) (hz : Zc cls d oe) (hf : ∃ vs, oe.data = .fields vs) : CallR (X.suite a ((a, oe) :: pn)) (.builtin "isinstance") (rIsAT K a cls d) := by
  subst eK
  intro pins s σ H xs us Q I r h
  obtain ⟨D, tp, cs, ws, b, rfl, rfl, ed, T, hT, k, e, q⟩ := h
  obtain ⟨u1, u2, rfl, r1, r2⟩ := vals2 r
  cases (show u1 = Value.ref a from r1)
  cases (show u2 = Value.ref tp from r2)
  obtain ⟨od, J⟩ := caught_at hz hf I ed
  obtain ⟨_, its, rv, ⟨oc, od', dt, sl⟩, at', kind, n, body⟩ := (I.hok tp _ hT : ObjOk _ _ H s.heap tp (.tup cs))
  have same := ClsV.all k rv
  subst same
  dsimp only at kind body
  subst kind body
  exact PySem.W.kia_tup (xkit (x := a) (ox := oe) (od := od) T) I.kIn J at' e (fun z => nomatch z) fun tk => ⟨.bl b, H, I.tok tk, rfl, q⟩
section
variable {σ : L2.St} {H : Hp} {Q : VK} {K : PySem.W.Frag}
theorem r_isA {D dd : Addr} {fs : List (Str × V)} {c : V} {cv : Value} {b : Bool} (ed : H dd = some (.xd fs)) (T : ExcC K D) (hc : ClsV c cv) (e : PySem.W.kitOne K (.ref D) cv = some b) (q : Q (.bl b) H) : rIsA K a (.ref D) (some dd) [.ref a, c] H Q := ⟨D, c, cv, b, rfl, rfl, ⟨fs, ed⟩, T, hc, e, q⟩
theorem r_isAT {D dd tp : Addr} {fs : List (Str × V)} {cs : List V} {us : List Value} {b : Bool} (ed : H dd = some (.xd fs)) (T : ExcC K D) (ht : H tp = some (.tup cs)) (k : Paired ClsV cs us) (e : PySem.W.kitAny K (.ref D) us = some b) (q : Q (.bl b) H) : rIsAT K a (.ref D) (some dd) [.ref a, .ref tp] H Q := ⟨D, tp, cs, us, b, rfl, rfl, ⟨fs, ed⟩, T, ht, k, e, q⟩
theorem r_xfv {C dd : Addr} {f : Str} {fs : List (Str × V)} {v : V} {i : Nat} (hσ : σ[i]? = some (some (.ref a))) (ed : H dd = some (.xd fs)) (l : fs.lookup f = some v) (q : Q v H) : tXf a (.ref C) (some dd) C f (tVar i) σ H Q := ⟨.ref a, hσ, rfl, rfl, dd, fs, v, rfl, ed, l, q⟩
theorem r_calls {sp : Sp} {E : L2.St → XK} {t : TA} (h : t σ H fun vs H1 => sp vs H1 Q (E σ)) : tCallS sp E t σ H Q := h
theorem look1 {f : Str} {v : V} : List.lookup f [(f, v)] = some v := by simp [List.lookup]
end
end
end Wn
/-! Wn: tuple * 1 is the tuple itself. -/
namespace Wn
open PySem PySem.Spec PyProof.Rows L2
theorem mul_one_tup (l : Addr) (items : Array Value) (n : Nat) (dd : Option Addr) (sl : Array (Option Value)) (u : Tok) (ne : items.isEmpty = false) :
    Meets (Builtin.«tuple.__mul__» ⟨[.ref l, .int 1 u], []⟩) (fun _ R s => s.heap.get? l = some { cls := .type "tuple", dict := dd, data := .seq items n, slots := sl } ∧ R (.ok (.ret (Value.ref l))) s) :=
  .of_wp fun prog w A R s h => by
    obtain ⟨hp, g, d, tk, os⟩ := s
    obtain ⟨hl, h⟩ := h
    have f1 := AutoSeq1.idx_int
    have c1 : (items.isEmpty || (1 : Int) == 1) = true := by rw [ne]; rfl
    wp_walk using wpAny_loadPart' hl
    repeat (first
      | (refine wpAny_ite_false (decide_eq_false (by decide)) ?_; wp_walk using wpAny_loadPart' hl)
      | (refine wpAny_ite_true (by rw [c1]; rfl) ?_; wp_walk using wpAny_loadPart' hl))
    exact ⟨_, rfl, h⟩
def rMul1 (K : PySem.W.Frag) : R2 := fun x y H Q => ∃ l xs, x = .ref l ∧ y = .int 1 ∧ SqT K H l xs ∧ xs ≠ [] ∧ Q (.ref l) H
theorem op_mul1 {X : Cx} : OpR X (binaryOp .Mult) (rMul1 X.K) := by
  intro pins s σ H x y v u Q I rx ry h
  obtain ⟨l, xs, rfl, rfl, hT, hne, q⟩ := h
  cases rx
  obtain ⟨t, rfl⟩ := ry
  obtain ⟨its, r, ⟨⟨cls, dd, data, sl⟩, ho, hc, n, hd⟩, _⟩ := I.tuple hT
  dsimp only at hc hd
  subst hc hd
  have filled : its.toArray.isEmpty = false := by
    cases its with
    | cons a b => rfl
    | nil => exact absurd (List.eq_nil_of_length_eq_zero r.length) hne
  exact wpAny_binaryOp_repeat_ref (T := "tuple") (U := "int") (by decide) ⟨_, ho, rfl⟩ (fun s' => typeIs_int s' 1 t) noFill_tuple_mul F.fills_int_mul F.slot_int_rmul repeat_tuple F.slot_int_index.lookup
    (call_meets F.slot_int_rmul (typeIs_int s 1 t) F.entry_int_rmul (F.args_int_rmul_2 _ _) (int_rmul_tuple 1 t l its.toArray n dd sl)
      ⟨ho, rfl, ⟨_, ho, rfl⟩, call_meets F.slot_tuple_mul ⟨_, ho, rfl⟩ F.entry_tuple_mul (F.args_tuple_mul_2 _ _) (mul_one_tup l its.toArray n dd sl t filled) ⟨ho, .ref l, H, I, rfl, q⟩⟩)
/-- tuple * int, the int 1 or more -/
def rMulT (K : PySem.W.Frag) : R2 := fun x y H Q => rMul1 K x y H Q ∨ rRepT K x y H Q
theorem op_mulTK {X : Cx} {K : PySem.W.Frag} (e : X.K = K) : OpR X (binaryOp .Mult) (rMulT K) := by
  subst e
  exact op_mul1.or op_repT
theorem r_mulT {K : PySem.W.Frag} {H : Hp} {Q : VK} {l : Addr} {v : V} {k : Nat} (h : SqT K H l [v]) (k1 : 1 ≤ k) (k2 : k ≤ 1000) (q : ∀ p H', Same H H' → SqT K H' p (List.replicate k v) → Q (.ref p) H') : rMulT K (.ref l) (.int (k : Int)) H Q := by
  by_cases e : k = 1
  · subst e
    exact .inl ⟨l, [v], rfl, rfl, h, by simp, q l H (Same.refl _) h⟩
  · refine .inr ⟨l, k, [v], rfl, rfl, h, by simp, by omega, by omega, by show 1 ≤ 1000; decide, fun p np => q p _ (same_new np) (.inl (.inl ?_))⟩
    rw [upd_same, Int.toNat_natCast, List.flatten_replicate_singleton]
theorem r_mulTs {K : PySem.W.Frag} {H : Hp} {Q : VK} {l : Addr} {xs : List V} {k : Nat} (h : SqT K H l xs) (ne : xs ≠ []) (lx : xs.length ≤ 1000) (k1 : 1 ≤ k) (k2 : k ≤ 1000) (q : ∀ p H', Same H H' → SqT K H' p (List.replicate k xs).flatten → Q (.ref p) H') : rMulT K (.ref l) (.int (k : Int)) H Q := by
  by_cases e : k = 1
  · subst e
    exact .inl ⟨l, xs, rfl, rfl, h, ne, q l H (Same.refl _) (by rw [show (List.replicate 1 xs).flatten = xs by simp]; exact h)⟩
  · refine .inr ⟨l, k, xs, rfl, rfl, h, ne, by omega, by omega, lx, fun p np => q p _ (same_new np) (.inl (.inl ?_))⟩
    rw [upd_same, Int.toNat_natCast]
theorem pg_unlK {X : Cx} {K : PySem.W.Frag} {es : List Expr} {k n : Nat} {t : TGs} {pos : Pos} (e : X.K = K) (hc : X.calm = true) (h : PGs X es t)
    (hn : (assignEach es X.env).length = n := by rfl) (hst : (assignEach es X.env).findIdx? (·.1) = none := by rfl) : PG X (.Tuple es k pos) (gUnl K n t) := by subst e; exact pg_unl hc h hn hst
theorem r_gunl {σ : L2.St} {H : Hp} {K : PySem.W.Frag} {Q : L2.St → Hp → Prop} {n : Nat} {t : TGs} {a : Addr} {xs : List V} (e : SqL K H a xs) (hl : xs.length = n) (h : t xs σ H Q) : gUnl K n t (.ref a) σ H Q := ⟨a, xs, rfl, e, hl, h⟩
def rListT (K : PySem.W.Frag) : List V → Hp → VK → Prop := fun xs H Q => ∃ p ys, xs = [.ref p] ∧ (SqL K H p ys ∨ SqT K H p ys) ∧ ∀ l, H l = none → Q (.ref l) (upd H l (.lst ys))
theorem call_listTK {X : Cx} {K : PySem.W.Frag} (e : X.K = K) : CallR X (.type "list") (rListT K) := by subst e; exact call_list_of
end Wn
/-! Wn: every tuple that is made is known to have no dict of its own. -/
namespace Wn
open PySem PySem.Spec PyProof.Rows L2
def PT (K : PySem.W.Frag) (H : Hp) (p : Addr) (xs : List V) : Prop := PTup H p xs ∨ ∃ (o : Obj) (its : Array Value) (n : Nat), K.lookup p = some o ∧ o.cls = .type "tuple" ∧ o.dict = none ∧ o.data = .seq its n ∧ its.size ≤ sizeLine ∧ Vals xs its.toList
theorem PT.sq {K : PySem.W.Frag} {H : Hp} {p : Addr} {xs : List V} (h : PT K H p xs) : SqT K H p xs := by
  rcases h with h | ⟨o, its, n, h1, h2, _, h3⟩
  · exact h.sq
  · exact .inr ⟨o, its, n, h1, h2, h3⟩
/-- a new tuple at p -/
def NewT (H : Hp) (p : Addr) (xs : List V) (H' : Hp) : Prop := H p = none ∧ ∃ o : Obj, o.dict = none ∧ o.cls = .type "tuple" ∧ H' = upd H p (.frz o (.tup xs))
theorem NewT.same {H H' : Hp} {p : Addr} {xs : List V} (h : NewT H p xs H') : Same H H' := by
  obtain ⟨np, o, _, _, rfl⟩ := h
  exact same_new np
theorem NewT.pt {K : PySem.W.Frag} {H H' : Hp} {p : Addr} {xs : List V} (h : NewT H p xs H') : PT K H' p xs := by
  obtain ⟨np, o, h1, h2, rfl⟩ := h
  exact .inl ⟨o, upd_same, h1, h2⟩
section
variable {X : Cx} {pins : List (Addr × Obj)} {σ : L2.St} {H : Hp} {s : Shared}
/-- the object that stands behind a new tuple -/
theorem new_tup (I : Inv X pins σ H s) {xs : List V} {its : List Value} (r : Vals xs its) (hz : xs.length ≤ sizeLine) : ∃ H', NewT H s.heap.objs.size xs H' ∧ Inv X pins σ H' { s with heap := s.heap.push { cls := .type "tuple", data := .seq its.toArray } } := by
  have np := I.hok.fresh (Nat.le_refl s.heap.objs.size)
  refine ⟨_, ⟨np, { cls := .type "tuple", data := .seq its.toArray }, rfl, rfl, rfl⟩, ?_⟩
  exact I.laid (t' := s.toks) (fun b o e => Heap.get?_push_of_some _ e) (Nat.le_refl _) ⟨Heap.get?_push_size _ rfl, hz, its, r, IsTup.new _ _⟩
end
section
variable {X : Cx} {K : PySem.W.Frag}
def tTupP (t : TA) : TE := fun σ H Q => t σ H fun xs H1 => xs.length ≤ sizeLine ∧ ∀ p H2, NewT H1 p xs H2 → Q (.ref p) H2
theorem pe_tupP {es : List Expr} {t : TA} {x1 : _} {pos : Pos} (h : PA X es t) : PE X (.Tuple es x1 pos) (tTupP t) := by
  refine ⟨fun pins s σ H Q I q => wpAny_Tuple_spliced (thn (h.run pos pins s σ H _ I q) fun us s1 ⟨xs, H1, I1, r, z, k⟩ => ⟨by rw [← r.length]; exact z, ?_⟩)⟩
  obtain ⟨H2, nt, I2⟩ := new_tup I1 r z
  exact ⟨.ref _, H2, I2, rfl, k _ _ nt⟩
/-- tuple(x), x a list or a tuple -/
def rTupP (K : PySem.W.Frag) : List V → Hp → VK → Prop := fun xs H Q => ∃ p ys, xs = [.ref p] ∧ ((SqL K H p ys ∧ ∀ l H2, NewT H l ys H2 → Q (.ref l) H2) ∨ (SqT K H p ys ∧ Q (.ref p) H))
theorem cl_tupP (e : X.K = K) : CallR X (.type "tuple") (rTupP K) := by
  subst e
  intro pins s σ H xs us Q I r ⟨p, ys, hx, h⟩
  subst hx
  obtain ⟨u, rfl, rx⟩ := vals1 r
  cases rx
  rcases h with ⟨hq, q⟩ | ⟨hq, q⟩
  · obtain ⟨its, rv, pl, hz⟩ := I.list hq
    have hlen := rv.length
    refine call_tuple_list pl.isList (fun h2 kp => ?_) (by simp only [List.size_toArray] <;> omega)
    obtain ⟨H2, nt, I2⟩ := new_tup (I.kept (t' := s.toks) kp) rv hz
    exact ⟨.ref _, H2, I2, rfl, q _ _ nt⟩
  · obtain ⟨its, _, pl, _⟩ := I.tuple hq
    exact call_tuple_same (items := its.toArray) pl ⟨.ref p, H, I, rfl, q⟩
/-- t + u -/
def rCatP (K : PySem.W.Frag) : R2 := fun x y H Q => ∃ a b xs ys, x = .ref a ∧ y = .ref b ∧ SqT K H a xs ∧ SqT K H b ys ∧ xs.length + ys.length ≤ sizeLine ∧ (xs = [] → Q (.ref b) H) ∧ (xs ≠ [] → ys = [] → Q (.ref a) H) ∧ ∀ p H2, NewT H p (xs ++ ys) H2 → Q (.ref p) H2
theorem op_catP (e : X.K = K) : OpR X (binaryOp .Add) (rCatP K) := by
  subst e
  intro pins s σ H x y v u Q I rx ry ⟨a, b, xs, ys, hx, hy, ha, hb, hz, q0, q1, q2⟩
  subst hx hy
  cases rx
  cases ry
  obtain ⟨its, r1, p1, _⟩ := I.tuple ha
  obtain ⟨its2, r2, p2, _⟩ := I.tuple hb
  by_cases hn : xs = []
  · subst hn
    cases r1
    exact cat_tup0 p1 p2 ⟨.ref b, H, I, rfl, q0 rfl⟩
  · refine HT.cat_tup p1 p2 (fun z => hn (r1.nil_iff.mp z)) (fun z => ⟨.ref a, H, I, rfl, q1 hn (r2.nil_iff.mp z)⟩) (fun z => ?_) (by rw [← r1.length, ← r2.length]; exact hz)
    obtain ⟨H2, nt, I2⟩ := new_tup I (r1.append r2) (by rw [List.length_append]; exact hz)
    exact ⟨.ref _, H2, I2, rfl, q2 _ _ nt⟩
theorem r_catP {H : Hp} {Q : VK} {a b : Addr} {xs ys : List V} (h1 : PT K H a xs) (h2 : PT K H b ys) (hz : xs.length + ys.length ≤ sizeLine) (q : ∀ p H', Same H H' → PT K H' p (xs ++ ys) → Q (.ref p) H') : rCatP K (.ref a) (.ref b) H Q := by
  refine ⟨a, b, xs, ys, rfl, rfl, h1.sq, h2.sq, hz, fun e => ?_, fun _ e => ?_, fun p H2 nt => q p H2 nt.same nt.pt⟩
  · subst e
    exact q b H (Same.refl _) h2
  · subst e
    exact q a H (Same.refl _) (by rw [List.append_nil]; exact h1)
/-- t[lo:hi] -/
def rSlP (K : PySem.W.Frag) : V → Option Int → Option Int → Hp → VK → Prop := fun x lo hi H Q => ∃ a xs, x = .ref a ∧ SqT K H a xs ∧ (HT.sIx xs.length 0 lo = 0 ∧ HT.sIx xs.length xs.length hi = xs.length → Q (.ref a) H) ∧ ∀ p H2, NewT H p (cutV xs lo hi) H2 → Q (.ref p) H2
theorem sl_tupP (e : X.K = K) : SlR X (rSlP K) := by
  subst e
  intro pins s σ H x v vl vu lo hi sl Q I rx hs pl pu ⟨a, xs, hx, ha, q1, q2⟩
  subst hx
  cases rx
  obtain ⟨its, r, ht, hz⟩ := I.tuple ha
  have hlen : its.toArray.size = xs.length := by rw [List.size_toArray, r.length]
  refine ⟨"tuple", _, PyProof.Rows.slot_tuple_getitem.lookup, ht.typeIs, ?_⟩
  by_cases hw : HT.sIx xs.length 0 lo = 0 ∧ HT.sIx xs.length xs.length hi = xs.length
  · exact getItem_tuple_whole ht hs pl pu (by rw [hlen]; exact hw) ⟨.ref a, H, I, rfl, q1 hw⟩
  · refine HT.getItem_tuple_cut ht hs pl pu (by rw [hlen]; exact hw) ?_ (by rw [hlen]; exact hz)
    rw [hlen]
    obtain ⟨H2, nt, I2⟩ := new_tup I ((r.drop (HT.sIx xs.length 0 lo)).take (HT.sIx xs.length xs.length hi - HT.sIx xs.length 0 lo)) (Nat.le_trans (cutV_length xs lo hi) hz)
    exact ⟨.ref _, H2, I2, rfl, q2 _ _ nt⟩
/-- t * k, k from 2 on -/
def rRepP (K : PySem.W.Frag) : R2 := fun x y H Q => ∃ l k xs, x = .ref l ∧ y = .int k ∧ SqT K H l xs ∧ xs ≠ [] ∧ 2 ≤ k ∧ k ≤ 1000 ∧ xs.length ≤ 1000 ∧ ∀ p H2, NewT H p (List.replicate k.toNat xs).flatten H2 → Q (.ref p) H2
theorem op_repP (e : X.K = K) : OpR X (binaryOp .Mult) (rRepP K) := by
  subst e
  intro pins s σ H x y v u Q I rx ry ⟨l, k, xs, hx, hy, hT, hne, k2, k9, hz, q⟩
  subst hx hy
  cases rx
  obtain ⟨t, rfl⟩ := ry
  obtain ⟨its, r, ⟨⟨cls, dd, data, sl⟩, ho, hc, n, hd⟩, _⟩ := I.tuple hT
  dsimp only at hc hd
  subst hc hd
  have len : its.length = xs.length := r.length.symm
  have filled : its.toArray.isEmpty = false := by
    cases its with
    | cons a b => rfl
    | nil => exact absurd (List.eq_nil_of_length_eq_zero len.symm) hne
  have few : k.toNat * xs.length ≤ 1000000 := Nat.mul_le_mul (show k.toNat ≤ 1000 by omega) hz
  have ik : ((its.toArray.size : Nat) : Int) * k = ((k.toNat * xs.length : Nat) : Int) := by
    rw [List.size_toArray, len, Int.natCast_mul, Int.toNat_of_nonneg (by omega), Int.mul_comm]
  have fl : (List.replicate k.toNat its).flatten.length = k.toNat * xs.length := by rw [PyProof.Rows.lm_len_rep_flat, len]
  have room : (List.foldl (fun x1 x2 => x1 ++ x2) #[] (List.replicate k.toNat its.toArray)).size ≤ sizeLine := by
    rw [size_rep, List.size_toArray, fl, sizeLine_eq]
    omega
  refine wpAny_binaryOp_repeat_ref (T := "tuple") (U := "int") (by decide) ⟨_, ho, rfl⟩ (fun s' => typeIs_int s' k t) noFill_tuple_mul F.fills_int_mul F.slot_int_rmul repeat_tuple F.slot_int_index.lookup ?_
  refine call_meets F.slot_int_rmul (typeIs_int s k t) F.entry_int_rmul (F.args_int_rmul_2 _ _) (int_rmul_tuple k t l its.toArray n dd sl) ⟨ho, rfl, ⟨_, ho, rfl⟩, ?_⟩
  have c0 : (decide (k < -(2 ^ 63)) || decide (k ≥ 2 ^ 63)) = false := Bool.or_eq_false_iff.mpr ⟨decide_eq_false (by omega), decide_eq_false (by omega)⟩
  have c1 : (its.toArray.isEmpty || k == 1) = false := Bool.or_eq_false_iff.mpr ⟨filled, beq_eq_false_iff_ne.mpr (by omega)⟩
  have c2 : (decide (k ≤ 0) || its.toArray.isEmpty) = false := Bool.or_eq_false_iff.mpr ⟨decide_eq_false (by omega), filled⟩
  have c4 : Builtin.Tuple.tupleTooMany (((its.toArray.size : Nat) : Int) * k) = false := by
    rw [ik]
    unfold Builtin.Tuple.tupleTooMany
    rw [sizeLine_eq]
    exact decide_eq_false (by omega)
  refine call_meets F.slot_tuple_mul ⟨_, ho, rfl⟩ F.entry_tuple_mul (F.args_tuple_mul_2 _ _) (tuple_mulW l its.toArray n dd sl k t c0 c1 c2 (by omega) c4 room) ⟨ho, ?_⟩
  rw [size_rep]
  have rr : Vals (List.replicate k.toNat xs).flatten (List.replicate k.toNat its).flatten := r.rep k.toNat
  obtain ⟨H2, nt, I2⟩ := new_tup I rr (by rw [rr.length, fl, sizeLine_eq]; omega)
  exact ⟨.ref _, H2, I2, rfl, q _ _ nt⟩
def rMulP (K : PySem.W.Frag) : R2 := fun x y H Q => rMul1 K x y H Q ∨ rRepP K x y H Q
theorem op_mulP (e : X.K = K) : OpR X (binaryOp .Mult) (rMulP K) := by
  subst e
  exact op_mul1.or (op_repP rfl)
theorem r_mulP {H : Hp} {Q : VK} {l : Addr} {xs : List V} {k : Nat} (h : PT K H l xs) (ne : xs ≠ []) (lx : xs.length ≤ 1000) (k1 : 1 ≤ k) (k2 : k ≤ 1000) (q : ∀ p H', Same H H' → PT K H' p (List.replicate k xs).flatten → Q (.ref p) H') : rMulP K (.ref l) (.int (k : Int)) H Q := by
  by_cases e : k = 1
  · subst e
    exact .inl ⟨l, xs, rfl, rfl, h.sq, ne, q l H (Same.refl _) (by rw [show (List.replicate 1 xs).flatten = xs by simp]; exact h)⟩
  · refine .inr ⟨l, k, xs, rfl, rfl, h.sq, ne, by omega, by omega, lx, fun p H2 nt => q p H2 nt.same ?_⟩
    have := nt.pt (K := K)
    rw [Int.toNat_natCast] at this
    exact this
/-- .index of a tuple of texts -/
def tBP (K : PySem.W.Frag) (r : V → List V → Hp → VK → Prop) (to : TE) (t : TA) : TE := fun σ H Q => to σ H fun x H1 => (∃ p xs, x = .ref p ∧ PT K H1 p xs) ∧ t σ H1 fun vs H2 => r x vs H2 Q
variable {o e : Expr} {es : List Expr} {to : TE} {t : TA} {name : Str} {apos cpos : Pos} {id : String} {r : V → List V → Hp → VK → Prop}
theorem pe_bp (eK : X.K = K) (slot : Slot "tuple" name id) (hty : typeOf (.builtin id) = pure (.type "method_descriptor")) (hm : MtR X id r) (ho : PE X o to) (ha : PA X (e :: es) t)
    (hbase : attributeBase o name X.env (eval o X.env) = eval o X.env := by rfl)
    (hfew : ((backTo cpos (starEach (e :: es) X.env)).all (fun x => !x.1) && (backToKw cpos (keywordEach [] X.env)).all (fun x => x.1.isSome) && decide ((e :: es).length + ([] : List Keyword).length + (if ([] : List Keyword).isEmpty then 0 else 1) < 30)) = true := by rfl)
    (hline : (apos.endLine == cpos.line) = true := by rfl) (hs : starEach (e :: es) X.env = (false, eval e X.env) :: starEach es X.env := by rfl)
    (hplain : (backTo cpos (starEach es X.env)).any (·.1) = false := by rfl) : PE X (.Call (.Attribute o name apos) (e :: es) [] cpos) (tBP K r to t) := by
  subst eK
  refine ⟨fun pins s σ H Q I h => ?_⟩
  refine wpAny_Call_method_late hbase hfew hline rfl (thn (ho.run pins s σ H _ I h) fun v s1 ⟨x, H1, I1, r1, ty, q1⟩ => ?_)
  obtain ⟨p, xs, rfl, hp⟩ := ty
  obtain rfl : v = Value.ref p := r1
  have at' : ∃ ob, s1.heap.get? p = some ob ∧ ob.dict = none ∧ ob.cls = .type "tuple" := by
    rcases hp with ⟨ob, ep, hd, hc⟩ | ⟨ob, its, n, hl, hc, hd, _⟩
    · exact ⟨ob, (I1.hok p _ ep).1, hd, hc⟩
    · exact ⟨ob, I1.kIn p ob hl, hd, hc⟩
  obtain ⟨ob, hat, hd, hc⟩ := at'
  refine ⟨"tuple", id, PySem.F.plainAttrs_tuple, slot, hty, ⟨ob, hat, hc⟩, fun a e2 => by cases e2; exact ⟨ob, hat, hd⟩, ?_⟩
  have hA := ha.run cpos pins s1 σ H1 _ I1 q1
  rw [hs] at hA ⊢
  refine Calls.callWith_builtin (by
    show (false || (backTo cpos (starEach es X.env)).any (·.1)) = false
    rw [hplain]
    rfl) (Calls.evalArgs_plain ?_)
  exact thn hA fun us s2 ⟨vs, H2, I2, r2, q2⟩ => hm pins s2 σ H2 (.ref p) vs (.ref p) us Q I2 rfl r2 q2
end
end Wn
/-! Rl: programs read as functions over values. Values, what stands for them, frames. -/
namespace Rl
open PySem PySem.Spec PyProof.Rows L2 Wn
/-- a value that never changes -/
inductive U where
  | non | bl (b : Bool) | int (i : Int) | str (x : Str)
  | tup (xs : List U) | lst (xs : List U) | ins (c : Nat) (xs : List U) | emp | box | ty (n : String) | cl (c : Nat)
/-- a tree of lists and objects that one name alone owns -/
inductive O where
  | lf (u : U) | ol (xs : List O) | oi (c : Nat) (xs : List O)
/-- what an expression gives: a value, a list that is read, a new tree -/
inductive R where
  | im (u : U) | br (xs : List U) | fr (o : O)
structure Cl where
  C : Addr
  ns : List Str
structure G where
  K : PySem.W.Frag
  ct : Nat → Cl
  im : List Nat
  xt : Nat → Cl
  bad : Option (Addr × Addr)
structure Er where
  c : Nat
  us : List U
/-- what a program does: an end, an error, stuck (no rule), a draw -/
inductive Res (α : Type) where
  | ok (a : α) | ex (e : Er) | st | dm (n : Int) (k : Int → Res α)
def Res.bind {α β : Type} (r : Res α) (f : α → Res β) : Res β :=
  match r with
  | .ok a => f a
  | .ex e => .ex e
  | .st => .st
  | .dm n k => .dm n fun i => (k i).bind f
def Res.post {α : Type} (r : Res α) (P : α → Prop) (X : Er → Prop) : Prop :=
  match r with
  | .ok a => P a
  | .ex e => X e
  | .st => False
  | .dm n k => ∀ i, 0 ≤ i → i < n → (k i).post P X
/-- nothing is raised -/
def Res.calm {α : Type} : Res α → Res α
  | .ok a => .ok a
  | .ex _ => .st
  | .st => .st
  | .dm n k => .dm n fun i => (k i).calm
def Res.opt {α : Type} : Option α → Res α
  | some a => .ok a
  | none => .st
theorem post_bind {α β : Type} {f : α → Res β} {P : β → Prop} {X : Er → Prop} : ∀ {r : Res α}, (r.bind f).post P X ↔ r.post (fun a => (f a).post P X) X
  | .ok _ => Iff.rfl
  | .ex _ => Iff.rfl
  | .st => Iff.rfl
  | .dm n k => ⟨fun h i a b => post_bind.mp (h i a b), fun h i a b => post_bind.mpr (h i a b)⟩
theorem post_mono {α : Type} {P P' : α → Prop} {X X' : Er → Prop} (hP : ∀ a, P a → P' a) (hX : ∀ e, X e → X' e) : ∀ {r : Res α}, r.post P X → r.post P' X'
  | .ok a, h => hP a h
  | .ex e, h => hX e h
  | .st, h => h
  | .dm n k, h => fun i a b => post_mono hP hX (h i a b)
theorem post_calm {α : Type} {P : α → Prop} {X : Er → Prop} : ∀ {r : Res α}, r.calm.post P X ↔ r.post P fun _ => False
  | .ok _ => Iff.rfl
  | .ex _ => Iff.rfl
  | .st => Iff.rfl
  | .dm n k => ⟨fun h i a b => post_calm.mp (h i a b), fun h i a b => post_calm.mpr (h i a b)⟩
theorem post_opt {α : Type} {o : Option α} {P : α → Prop} {X : Er → Prop} (h : (Res.opt o).post P X) : ∃ a, o = some a ∧ P a := by
  cases o with
  | none => exact h.elim
  | some a => exact ⟨a, rfl, h⟩
theorem bind_assoc {α β γ : Type} {f : α → Res β} {k : β → Res γ} : ∀ {r : Res α}, (r.bind f).bind k = r.bind fun a => (f a).bind k
  | .ok _ => rfl
  | .ex _ => rfl
  | .st => rfl
  | .dm n j => by
    show Res.dm n _ = Res.dm n _
    congr 1
    funext i
    exact bind_assoc
theorem bind_ok {α : Type} : ∀ {r : Res α}, r.bind .ok = r
  | .ok _ => rfl
  | .ex _ => rfl
  | .st => rfl
  | .dm n j => by
    show Res.dm n _ = Res.dm n _
    congr 1
    funext i
    exact bind_ok
/-- what is never changed any more -/
def Stay (g : G) : HO → Prop
  | .tup _ => True
  | .frz _ _ => True
  | .xd _ => True
  | .ins C _ fs => ∃ c ∈ g.im, (g.ct c).C = C ∧ fs.length = (g.ct c).ns.length
  | _ => False
def Kp (g : G) (H H' : Hp) : Prop := ∀ a o, H a = some o → Stay g o → H' a = some o
theorem Kp.refl {g : G} (H : Hp) : Kp g H H := fun _ _ e _ => e
theorem Kp.trans {g : G} {H H1 H2 : Hp} (a : Kp g H H1) (b : Kp g H1 H2) : Kp g H H2 := fun x o e s => b x o (a x o e s) s
/-- all but the box stays -/
structure Ext (g : G) (H H' : Hp) : Prop where
  sm : ∀ x o, H x = some o → (∀ b c, g.bad = some (b, c) → x ≠ b) → H' x = some o
  kp : Kp g H H'
theorem Ext.refl {g : G} (H : Hp) : Ext g H H := ⟨fun _ _ e _ => e, Kp.refl H⟩
theorem Ext.trans {g : G} {H H1 H2 : Hp} (a : Ext g H H1) (b : Ext g H1 H2) : Ext g H H2 := ⟨fun x o e n => b.sm x o (a.sm x o e n) n, a.kp.trans b.kp⟩
theorem Ext.of {g : G} {H H' : Hp} (s : Same H H') : Ext g H H' := ⟨fun x o e _ => s x o e, fun x o e _ => s x o e⟩
theorem Ext.new {g : G} {H : Hp} {a : Addr} {o : HO} (h : H a = none) : Ext g H (upd H a o) := .of (same_new h)
/-- a list known to the object, or of the written part -/
def FzL (K : PySem.W.Frag) (H : Hp) (a : Addr) (xs : List V) : Prop :=
  (∃ o, H a = some (.frz o (.lst xs))) ∨
    ∃ (o : Obj) (its : Array Value) (n : Nat), K.lookup a = some o ∧ o.cls = .type "list" ∧ o.dict = none ∧ o.data = .seq its n ∧ its.size ≤ sizeLine ∧ Vals xs its.toList
theorem FzL.sq {K : PySem.W.Frag} {H : Hp} {a : Addr} {xs : List V} (h : FzL K H a xs) : SqL K H a xs := by
  rcases h with ⟨o, h⟩ | h
  · exact .inl (.inr ⟨o, h⟩)
  · exact .inr h
theorem FzL.mono {g : G} {H H' : Hp} {a : Addr} {xs : List V} (k : Kp g H H') (h : FzL g.K H a xs) : FzL g.K H' a xs := by
  rcases h with ⟨o, h⟩ | h
  · exact .inl ⟨o, k _ _ h trivial⟩
  · exact .inr h
theorem sqT_mono {g : G} {H H' : Hp} {a : Addr} {xs : List V} (k : Kp g H H') (h : SqT g.K H a xs) : SqT g.K H' a xs := by
  rcases h with (h | ⟨o, h⟩) | h
  · exact .inl (.inl (k _ _ h trivial))
  · exact .inl (.inr ⟨o, k _ _ h trivial⟩)
  · exact .inr h
theorem pt_mono {g : G} {H H' : Hp} {a : Addr} {xs : List V} (k : Kp g H H') (h : PT g.K H a xs) : PT g.K H' a xs := by
  rcases h with ⟨o, h, r⟩ | h
  · exact .inl ⟨o, k _ _ h trivial, r⟩
  · exact .inr h
mutual
/-- v stands for u -/
inductive RU (g : G) (H : Hp) : V → U → Prop
  | non : RU g H .non .non
  | bl (b : Bool) : RU g H (.bl b) (.bl b)
  | int (i : Int) : RU g H (.int i) (.int i)
  | str (x : Str) : RU g H (.str x) (.str x)
  | tup {a : Addr} {xs : List V} {us : List U} : PT g.K H a xs → RUs g H xs us → RU g H (.ref a) (.tup us)
  | lst {a : Addr} {xs : List V} {us : List U} : FzL g.K H a xs → RUs g H xs us → RU g H (.ref a) (.lst us)
  | ins {a dx : Addr} {c : Nat} {fs : List (Str × V)} {us : List U} : H a = some (.ins (g.ct c).C dx fs) → c ∈ g.im → fs.map Prod.fst = (g.ct c).ns → RUs g H (fs.map Prod.snd) us → RU g H (.ref a) (.ins c us)
  | emp {a : Addr} {o : Obj} : H a = some (.frz o (.dK [])) → RU g H (.ref a) .emp
  | box {b c : Addr} : g.bad = some (b, c) → RU g H (.ref b) .box
  | ty (n : String) : RU g H (.ty n) (.ty n)
  | cl (c : Nat) : RU g H (.ref (g.ct c).C) (.cl c)
inductive RUs (g : G) (H : Hp) : List V → List U → Prop
  | nil : RUs g H [] []
  | cons {v : V} {vs : List V} {u : U} {us : List U} : RU g H v u → RUs g H vs us → RUs g H (v :: vs) (u :: us)
end
mutual
theorem RU.mono {g : G} {H H' : Hp} (k : Kp g H H') : ∀ {v : V} {u : U}, RU g H v u → RU g H' v u
  | _, _, .non => .non
  | _, _, .bl b => .bl b
  | _, _, .int i => .int i
  | _, _, .str x => .str x
  | _, _, .tup h a => .tup (pt_mono k h) (RUs.mono k a)
  | _, _, .lst h a => .lst (h.mono k) (RUs.mono k a)
  | _, _, .ins (c := c) h m n a => .ins (k _ _ h ⟨c, m, rfl, by rw [← n, List.length_map]⟩) m n (RUs.mono k a)
  | _, _, .emp h => .emp (k _ _ h trivial)
  | _, _, .box h => .box h
  | _, _, .ty n => .ty n
  | _, _, .cl c => .cl c
theorem RUs.mono {g : G} {H H' : Hp} (k : Kp g H H') : ∀ {vs : List V} {us : List U}, RUs g H vs us → RUs g H' vs us
  | _, _, .nil => .nil
  | _, _, .cons a b => .cons (RU.mono k a) (RUs.mono k b)
end
theorem RUs.len {g : G} {H : Hp} : ∀ {vs : List V} {us : List U}, RUs g H vs us → vs.length = us.length
  | _, _, .nil => rfl
  | _, _, .cons _ b => by rw [List.length_cons, List.length_cons, b.len]
theorem RUs.at {g : G} {H : Hp} : ∀ {vs : List V} {us : List U} {i : Nat} {u : U}, RUs g H vs us → us[i]? = some u → ∃ v, vs[i]? = some v ∧ RU g H v u
  | _, _, _, _, .nil, e => by simp at e
  | _, _, 0, _, .cons a _, e => by simp at e; subst e; exact ⟨_, rfl, a⟩
  | _, _, i + 1, _, .cons _ b, e => by
    obtain ⟨v, h1, h2⟩ := RUs.at (i := i) b (by simpa using e)
    exact ⟨v, by simpa using h1, h2⟩
theorem RUs.atV {g : G} {H : Hp} : ∀ {vs : List V} {us : List U} {i : Nat} {v : V}, RUs g H vs us → vs[i]? = some v → ∃ u, us[i]? = some u ∧ RU g H v u
  | _, _, _, _, .nil, e => by simp at e
  | _, _, 0, _, .cons a _, e => by simp at e; subst e; exact ⟨_, rfl, a⟩
  | _, _, i + 1, _, .cons _ b, e => by
    obtain ⟨v, h1, h2⟩ := RUs.atV (i := i) b (by simpa using e)
    exact ⟨v, by simpa using h1, h2⟩
theorem RUs.append {g : G} {H : Hp} : ∀ {vs ws : List V} {us zs : List U}, RUs g H vs us → RUs g H ws zs → RUs g H (vs ++ ws) (us ++ zs)
  | _, _, _, _, .nil, b => b
  | _, _, _, _, .cons a c, b => .cons a (c.append b)
theorem RUs.take {g : G} {H : Hp} : ∀ {vs : List V} {us : List U} (n : Nat), RUs g H vs us → RUs g H (vs.take n) (us.take n)
  | _, _, 0, _ => by rw [List.take_zero, List.take_zero]; exact .nil
  | _, _, n + 1, .nil => .nil
  | _, _, n + 1, .cons a b => .cons a (b.take n)
theorem RUs.drop {g : G} {H : Hp} : ∀ {vs : List V} {us : List U} (n : Nat), RUs g H vs us → RUs g H (vs.drop n) (us.drop n)
  | _, _, 0, h => h
  | _, _, n + 1, .nil => .nil
  | _, _, n + 1, .cons a b => b.drop n
mutual
/-- v stands for the tree o, whose cells are A -/
inductive RO (g : G) (H : Hp) : V → O → List Addr → Prop
  | lf {v : V} {u : U} : RU g H v u → RO g H v (.lf u) []
  | ol {a : Addr} {xs : List V} {os : List O} {A : List Addr} : H a = some (.lst xs) → ROs g H xs os A → RO g H (.ref a) (.ol os) (a :: A)
  | oi {a dx : Addr} {c : Nat} {fs : List (Str × V)} {os : List O} {A : List Addr} : H a = some (.ins (g.ct c).C dx fs) → fs.map Prod.fst = (g.ct c).ns.take fs.length → ROs g H (fs.map Prod.snd) os A → RO g H (.ref a) (.oi c os) (a :: A)
inductive ROs (g : G) (H : Hp) : List V → List O → List Addr → Prop
  | nil : ROs g H [] [] []
  | cons {v : V} {vs : List V} {o : O} {os : List O} {A B : List Addr} : RO g H v o A → ROs g H vs os B → ROs g H (v :: vs) (o :: os) (A ++ B)
end
mutual
theorem RO.mono {g : G} {H H' : Hp} (k : Kp g H H') : ∀ {v : V} {o : O} {A : List Addr}, RO g H v o A → (∀ a ∈ A, H' a = H a) → RO g H' v o A
  | _, _, _, .lf h, _ => .lf (h.mono k)
  | _, _, _, .ol h a, s => .ol ((s _ (.head _)).trans h) (ROs.mono k a fun x m => s x (.tail _ m))
  | _, _, _, .oi h n a, s => .oi ((s _ (.head _)).trans h) n (ROs.mono k a fun x m => s x (.tail _ m))
theorem ROs.mono {g : G} {H H' : Hp} (k : Kp g H H') : ∀ {vs : List V} {os : List O} {A : List Addr}, ROs g H vs os A → (∀ a ∈ A, H' a = H a) → ROs g H' vs os A
  | _, _, _, .nil, _ => .nil
  | _, _, _, .cons a b, s => .cons (RO.mono k a fun x m => s x (List.mem_append_left _ m)) (ROs.mono k b fun x m => s x (List.mem_append_right _ m))
end
mutual
theorem RO.there {g : G} {H : Hp} : ∀ {v : V} {o : O} {A : List Addr}, RO g H v o A → ∀ a ∈ A, ∃ u, H a = some u
  | _, _, _, .lf _, _, m => nomatch m
  | _, _, _, .ol h a, x, m => by
    rcases List.mem_cons.mp m with q | q
    · rw [q]; exact ⟨_, h⟩
    · exact ROs.there a x q
  | _, _, _, .oi h n a, x, m => by
    rcases List.mem_cons.mp m with q | q
    · rw [q]; exact ⟨_, h⟩
    · exact ROs.there a x q
theorem ROs.there {g : G} {H : Hp} : ∀ {vs : List V} {os : List O} {A : List Addr}, ROs g H vs os A → ∀ a ∈ A, ∃ u, H a = some u
  | _, _, _, .nil, _, m => nomatch m
  | _, _, _, .cons a b, x, m => by
    rcases List.mem_append.mp m with q | q
    · exact RO.there a x q
    · exact ROs.there b x q
end
/-- the box stands so -/
def BoxR (g : G) (H : Hp) : Prop :=
  ∀ b c, g.bad = some (b, c) → b ≠ c ∧ ∃ (cs : List Int) (i d sd n : Int), H b = some (.lst [.ref c, .int i, .int d, .int sd, .int n]) ∧ H c = some (.lst (cs.map V.int)) ∧ 0 ≤ i ∧ 0 ≤ d
/-- none of the box's -/
def Nb (g : G) (a : Addr) : Prop := ∀ b c, g.bad = some (b, c) → a ≠ b ∧ a ≠ c
theorem BoxR.same {g : G} {H H' : Hp} (h : BoxR g H) (s : Same H H') : BoxR g H' := fun b c e => by
  obtain ⟨ne, cs, i, d, sd, n, h1, h2, h3⟩ := h b c e
  exact ⟨ne, cs, i, d, sd, n, s _ _ h1, s _ _ h2, h3⟩
theorem BoxR.nb {g : G} {H : Hp} {a : Addr} (h : BoxR g H) (n : H a = none) : Nb g a := fun b c e => by
  obtain ⟨ne, cs, i, d, sd, k, h1, h2, h3⟩ := h b c e
  exact ⟨(ne_of_none h1 n).symm, (ne_of_none h2 n).symm⟩
/-- what an expression's end is: its cells A -/
def RV (g : G) (H : Hp) (v : V) (r : R) (A : List Addr) : Prop :=
  match r with
  | .im u => A = [] ∧ RU g H v u
  | .br xs => A = [] ∧ ∃ a vs, v = .ref a ∧ SqL g.K H a vs ∧ RUs g H vs xs ∧ Nb g a
  | .fr o => RO g H v o A ∧ ∀ a ∈ A, Nb g a
inductive RVs (g : G) (H : Hp) : List V → List R → List Addr → Prop
  | nil : RVs g H [] [] []
  | cons {v : V} {vs : List V} {r : R} {rs : List R} {A B : List Addr} : RV g H v r A → RVs g H vs rs B → RVs g H (v :: vs) (r :: rs) (A ++ B)
/-- the entry: the heap, what may be changed of it, names that stay -/
structure Fr where
  H0 : Hp
  M : List Addr
  ps : List (Nat × V)
  xs : List (Option Addr × Er) := []
/-- a name's slot -/
inductive Sl where
  | un | im (u : U) | ow (o : O)
inductive Slots (g : G) (H : Hp) : List (Option V) → List Sl → List Addr → Prop
  | nil : Slots g H [] [] []
  | un {x : Option V} {σ : List (Option V)} {ρ : List Sl} {A : List Addr} : Slots g H σ ρ A → Slots g H (x :: σ) (.un :: ρ) A
  | im {v : V} {u : U} {σ : List (Option V)} {ρ : List Sl} {A : List Addr} : RU g H v u → Slots g H σ ρ A → Slots g H (some v :: σ) (.im u :: ρ) A
  | ow {v : V} {o : O} {σ : List (Option V)} {ρ : List Sl} {A B : List Addr} : RO g H v o A → Slots g H σ ρ B → Slots g H (some v :: σ) (.ow o :: ρ) (A ++ B)
theorem Slots.mono {g : G} {H H' : Hp} (k : Kp g H H') : ∀ {σ : List (Option V)} {ρ : List Sl} {A : List Addr}, Slots g H σ ρ A → (∀ a ∈ A, H' a = H a) → Slots g H' σ ρ A
  | _, _, _, .nil, _ => .nil
  | _, _, _, .un h, s => .un (h.mono k s)
  | _, _, _, .im r h, s => .im (r.mono k) (h.mono k s)
  | _, _, _, .ow r h, s => .ow (r.mono k fun x m => s x (List.mem_append_left _ m)) (h.mono k fun x m => s x (List.mem_append_right _ m))
theorem Slots.there {g : G} {H : Hp} : ∀ {σ : List (Option V)} {ρ : List Sl} {A : List Addr}, Slots g H σ ρ A → ∀ a ∈ A, ∃ u, H a = some u
  | _, _, _, .nil, _, m => nomatch m
  | _, _, _, .un h, x, m => h.there x m
  | _, _, _, .im _ h, x, m => h.there x m
  | _, _, _, .ow r h, x, m => by
    rcases List.mem_append.mp m with q | q
    · exact r.there x q
    · exact h.there x q
theorem Slots.len {g : G} {H : Hp} : ∀ {σ : List (Option V)} {ρ : List Sl} {A : List Addr}, Slots g H σ ρ A → σ.length = ρ.length
  | _, _, _, .nil => rfl
  | _, _, _, .un h => by rw [List.length_cons, List.length_cons, h.len]
  | _, _, _, .im _ h => by rw [List.length_cons, List.length_cons, h.len]
  | _, _, _, .ow _ h => by rw [List.length_cons, List.length_cons, h.len]
theorem Slots.atIm {g : G} {H : Hp} : ∀ {σ : List (Option V)} {ρ : List Sl} {A : List Addr} {i : Nat} {u : U}, Slots g H σ ρ A → ρ[i]? = some (.im u) → ∃ v, σ[i]? = some (some v) ∧ RU g H v u
  | _, _, _, _, _, .nil, e => by simp at e
  | _, _, _, 0, _, .un h, e => by simp at e
  | _, _, _, 0, _, .ow r h, e => by simp at e
  | _, _, _, 0, _, .im r h, e => by simp at e; subst e; exact ⟨_, rfl, r⟩
  | _, _, _, i + 1, _, .un h, e => by obtain ⟨v, a, b⟩ := h.atIm (i := i) (by simpa using e); exact ⟨v, by simpa using a, b⟩
  | _, _, _, i + 1, _, .ow r h, e => by obtain ⟨v, a, b⟩ := h.atIm (i := i) (by simpa using e); exact ⟨v, by simpa using a, b⟩
  | _, _, _, i + 1, _, .im r h, e => by obtain ⟨v, a, b⟩ := h.atIm (i := i) (by simpa using e); exact ⟨v, by simpa using a, b⟩
theorem Slots.atOw {g : G} {H : Hp} : ∀ {σ : List (Option V)} {ρ : List Sl} {A : List Addr} {i : Nat} {o : O}, Slots g H σ ρ A → ρ[i]? = some (.ow o) → ∃ v B, σ[i]? = some (some v) ∧ RO g H v o B ∧ ∀ x ∈ B, x ∈ A
  | _, _, _, _, _, .nil, e => by simp at e
  | _, _, _, 0, _, .un h, e => by simp at e
  | _, _, _, 0, _, .im r h, e => by simp at e
  | _, _, _, 0, _, .ow r h, e => by simp at e; subst e; exact ⟨_, _, rfl, r, fun x m => List.mem_append_left _ m⟩
  | _, _, _, i + 1, _, .un h, e => by obtain ⟨v, B, a, b, c⟩ := h.atOw (i := i) (by simpa using e); exact ⟨v, B, by simpa using a, b, c⟩
  | _, _, _, i + 1, _, .im r h, e => by obtain ⟨v, B, a, b, c⟩ := h.atOw (i := i) (by simpa using e); exact ⟨v, B, by simpa using a, b, c⟩
  | _, _, _, i + 1, _, .ow r h, e => by obtain ⟨v, B, a, b, c⟩ := h.atOw (i := i) (by simpa using e); exact ⟨v, B, by simpa using a, b, fun x m => List.mem_append_right _ (c x m)⟩
/-- an error's record -/
inductive Xd (g : G) (H : Hp) : Option Addr → Er → Prop
  | of {dd : Addr} {e : Er} {fs : List (Str × V)} : H dd = some (.xd fs) → fs.map Prod.fst = (g.xt e.c).ns → RUs g H (fs.map Prod.snd) e.us → Xd g H (some dd) e
  | no {c : Nat} : (g.xt c).ns = [] → Xd g H none ⟨c, []⟩
theorem Xd.mono {g : G} {H H' : Hp} {dd : Option Addr} {e : Er} (k : Kp g H H') (h : Xd g H dd e) : Xd g H' dd e := by
  cases h with
  | of h1 h2 h3 => exact .of (k _ _ h1 trivial) h2 (h3.mono k)
  | no h => exact .no h
structure S (g : G) (t : Fr) (ρ : List Sl) (σ : L2.St) (H : Hp) : Prop where
  sl : ∃ A, Slots g H σ ρ A ∧ A.Nodup ∧ ∀ a ∈ A, (a ∈ t.M ∨ t.H0 a = none) ∧ Nb g a
  bx : BoxR g H
  fr : ∀ x o, t.H0 x = some o → x ∉ t.M → H x = some o
  kp : Kp g t.H0 H
  th : ∀ x o, t.H0 x = some o → ∃ o', H x = some o'
  ps : ∀ p ∈ t.ps, σ[p.1]? = some (some p.2)
  bm : ∀ b c, g.bad = some (b, c) → b ∈ t.M
  xd : ∀ p ∈ t.xs, Xd g H p.1 p.2
theorem S.mono {g : G} {t : Fr} {ρ : List Sl} {σ : L2.St} {H H' : Hp} (s : S g t ρ σ H) (e : Ext g H H') (b : BoxR g H') : S g t ρ σ H' where
  sl := by
    obtain ⟨A, h1, h2, h3⟩ := s.sl
    refine ⟨A, h1.mono e.kp fun a m => ?_, h2, h3⟩
    obtain ⟨u, hu⟩ := h1.there a m
    rw [hu]
    exact e.sm a u hu fun b c hb => ((h3 a m).2 b c hb).1
  bx := b
  fr := fun x o h m => e.sm x o (s.fr x o h m) fun b c hb z => m (by rw [z]; exact s.bm b c hb)
  kp := s.kp.trans e.kp
  th := fun x o h => by
    obtain ⟨o', h'⟩ := s.th x o h
    by_cases hb : ∃ b c, g.bad = some (b, c) ∧ x = b
    · obtain ⟨b', c, hb, rfl⟩ := hb
      obtain ⟨_, cs, i, d, sd, n, h1, _⟩ := b _ _ hb
      exact ⟨_, h1⟩
    · exact ⟨o', e.sm x o' h' fun b' c hb' z => hb ⟨b', c, hb', z⟩⟩
  ps := s.ps
  bm := s.bm
  xd := fun p m => (s.xd p m).mono e.kp
abbrev Env := List Sl
abbrev PEx := Env → Res R
abbrev PTs' := Env → Res Bool
abbrev PAs := Env → Res (List R)
/-- what is wanted of an error -/
def Wx (g : G) (W : WX) (σ : L2.St) (H : Hp) (e : Er) : Prop := ∀ dd H', Ext g H H' → BoxR g H' → Xd g H' dd e → W (.ref (g.xt e.c).C) dd σ H'
theorem Wx.back {g : G} {W : WX} {σ : L2.St} {H H1 : Hp} {e : Er} (x : Ext g H H1) (h : Wx g W σ H e) : Wx g W σ H1 e := fun dd H' y b d => h dd H' (x.trans y) b d
def lE (g : G) (W : WX) (t : Fr) (p : PEx) : TE := fun σ H Q => ∃ ρ, S g t ρ σ H ∧ (p ρ).post (fun r => ∀ v H' A, Ext g H H' → BoxR g H' → RV g H' v r A → A.Nodup → (∀ a ∈ A, H a = none) → Q v H') (Wx g W σ H)
def lT (g : G) (W : WX) (t : Fr) (p : PTs') : TT := fun σ H Q => ∃ ρ, S g t ρ σ H ∧ (p ρ).post (fun b => ∀ H', Ext g H H' → BoxR g H' → Q b H') (Wx g W σ H)
def lA (g : G) (W : WX) (t : Fr) (p : PAs) : TA := fun σ H Q => ∃ ρ, S g t ρ σ H ∧ (p ρ).post (fun rs => ∀ vs H' A, Ext g H H' → BoxR g H' → RVs g H' vs rs A → A.Nodup → (∀ a ∈ A, H a = none) → Q vs H') (Wx g W σ H)
theorem PE.imp {X : Cx} {e : Expr} {t t' : TE} (h : PE X e t) (i : ∀ σ H Q, t' σ H Q → t σ H Q) : PE X e t' := ⟨fun pins s σ H Q I q => h.run pins s σ H Q I (i _ _ _ q)⟩
theorem PT.imp {X : Cx} {e : Expr} {t t' : TT} (h : PT X e t) (i : ∀ σ H Q, t' σ H Q → t σ H Q) : PT X e t' := ⟨fun pins s σ H Q I q => h.run pins s σ H Q I (i _ _ _ q)⟩
theorem PW.imp {X : Cx} {e : Expr} {t t' : TT} (h : PW X e t) (i : ∀ σ H Q, t' σ H Q → t σ H Q) : PW X e t' := ⟨fun whole pins s σ H Q I q => h.run whole pins s σ H Q I (i _ _ _ q)⟩
theorem PA.imp {X : Cx} {es : List Expr} {t t' : TA} (h : PA X es t) (i : ∀ σ H Q, t' σ H Q → t σ H Q) : PA X es t' := ⟨fun pos pins s σ H Q I q => h.run pos pins s σ H Q I (i _ _ _ q)⟩
theorem PS.imp {X : Cx} {st : Stmt} {t t' : TS} (h : PS X st t) (i : ∀ D σ H, t' D σ H → t D σ H) : PS X st t' := ⟨fun pins s σ H D I q => h.run pins s σ H D I (i _ _ _ q)⟩
theorem PSs.imp {X : Cx} {st : List Stmt} {t t' : TS} (h : PSs X st t) (i : ∀ D σ H, t' D σ H → t D σ H) : PSs X st t' := ⟨fun pins s σ H D I q => h.run pins s σ H D I (i _ _ _ q)⟩
theorem RO.ext {g : G} {H H' : Hp} {v : V} {o : O} {A : List Addr} (e : Ext g H H') (h : RO g H v o A) (n : ∀ a ∈ A, Nb g a) : RO g H' v o A := h.mono e.kp fun a m => by
  obtain ⟨u, hu⟩ := h.there a m
  rw [hu]
  exact e.sm a u hu fun b' c hb => (n a m b' c hb).1
theorem RV.mono {g : G} {H H' : Hp} {v : V} {r : R} {A : List Addr} (e : Ext g H H') (h : RV g H v r A) : RV g H' v r A := by
  cases r with
  | im u => exact ⟨h.1, h.2.mono e.kp⟩
  | br xs =>
    obtain ⟨hA, a, vs, rfl, hs, hr, nb⟩ := h
    refine ⟨hA, a, vs, rfl, ?_, hr.mono e.kp, nb⟩
    rcases hs with (hs | ⟨o, hs⟩) | hs
    · exact .inl (.inl (e.sm _ _ hs fun b c z => (nb b c z).1))
    · exact .inl (.inr ⟨o, e.kp _ _ hs trivial⟩)
    · exact .inr hs
  | fr o => exact ⟨h.1.ext e h.2, h.2⟩
theorem RVs.mono {g : G} {H H' : Hp} (e : Ext g H H') : ∀ {vs : List V} {rs : List R} {A : List Addr}, RVs g H vs rs A → RVs g H' vs rs A
  | _, _, _, .nil => .nil
  | _, _, _, .cons a b => .cons (a.mono e) (b.mono e)
/-- new cells of two expressions in a row -/
theorem fresh2 {g : G} {H H1 : Hp} {A1 A2 : List Addr} (x : Ext g H H1) (b : BoxR g H1) (n1 : A1.Nodup) (f1 : ∀ a ∈ A1, H a = none) (t1 : ∀ a ∈ A1, ∃ u, H1 a = some u) (n2 : A2.Nodup) (f2 : ∀ a ∈ A2, H1 a = none) :
    (A1 ++ A2).Nodup ∧ ∀ a ∈ A1 ++ A2, H a = none := by
  refine ⟨List.nodup_append.mpr ⟨n1, n2, fun a ha b hb e => ?_⟩, fun a m => ?_⟩
  · obtain ⟨u, hu⟩ := t1 a ha
    rw [e, f2 b hb] at hu
    cases hu
  · rcases List.mem_append.mp m with q | q
    · exact f1 a q
    · cases h : H a with
      | none => rfl
      | some o =>
        have nb : ∀ b' c, g.bad = some (b', c) → a ≠ b' := fun b' c hb => ((b.nb (f2 a q)) b' c hb).1
        have := x.sm a o h nb
        rw [f2 a q] at this
        cases this
theorem Ext.back {g : G} {H H' : Hp} {a : Addr} (x : Ext g H H') (b : BoxR g H') (n : H' a = none) : H a = none := by
  cases h : H a with
  | none => rfl
  | some o =>
    have := x.sm a o h fun b' c hb => ((b.nb n) b' c hb).1
    rw [n] at this
    cases this
theorem RV.there {g : G} {H : Hp} {v : V} {r : R} {A : List Addr} (h : RV g H v r A) : ∀ a ∈ A, ∃ u, H a = some u := by
  cases r with
  | im u => rw [h.1]; exact fun a m => nomatch m
  | br xs => rw [h.1]; exact fun a m => nomatch m
  | fr o => exact h.1.there
theorem RVs.there {g : G} {H : Hp} : ∀ {vs : List V} {rs : List R} {A : List Addr}, RVs g H vs rs A → ∀ a ∈ A, ∃ u, H a = some u
  | _, _, _, .nil, _, m => nomatch m
  | _, _, _, .cons a b, x, m => by
    rcases List.mem_append.mp m with q | q
    · exact a.there x q
    · exact b.there x q
end Rl
/-! Rl: operations. -/
namespace Rl
open PySem PySem.Spec PyProof.Rows L2 Wn
/-! ### as data -/
mutual
def toPy : U → Option PyData
  | .non => some .none
  | .bl b => some (.bool b)
  | .int i => some (.int i)
  | .str x => some (.str x)
  | .tup xs => (toPys xs).map .tuple
  | .lst xs => (toPys xs).map .list
  | .ins _ _ => none
  | .emp => none
  | .box => none
  | .ty _ => none
  | .cl _ => none
def toPys : List U → Option (List PyData)
  | [] => some []
  | x :: xs => (toPy x).bind fun d => (toPys xs).map fun ds => d :: ds
end
mutual
theorem RU.dp {g : G} {H : Hp} : ∀ {v : V} {u : U} {d : PyData}, RU g H v u → toPy u = some d → Dp g.K H v d
  | _, _, _, .non, e => by cases e; exact .non
  | _, _, _, .bl b, e => by cases e; exact .bl b
  | _, _, _, .int i, e => by cases e; exact .int i
  | _, _, _, .str x, e => by cases e; exact .str x
  | _, _, _, .tup (us := us) h a, e => by
    unfold toPy at e
    cases q : toPys us with
    | none => rw [q] at e; cases e
    | some ds => rw [q] at e; cases e; exact .tup h.sq (RUs.dp a q)
  | _, _, _, .lst (us := us) h a, e => by
    unfold toPy at e
    cases q : toPys us with
    | none => rw [q] at e; cases e
    | some ds => rw [q] at e; cases e; exact .lst h.sq (RUs.dp a q)
  | _, _, _, .ins _ _ _ _, e => by unfold toPy at e; cases e
  | _, _, _, .emp _, e => by unfold toPy at e; cases e
  | _, _, _, .box _, e => by unfold toPy at e; cases e
  | _, _, _, .ty _, e => by unfold toPy at e; cases e
  | _, _, _, .cl _, e => by unfold toPy at e; cases e
theorem RUs.dp {g : G} {H : Hp} : ∀ {vs : List V} {us : List U} {ds : List PyData}, RUs g H vs us → toPys us = some ds → DpAll g.K H vs ds
  | _, _, _, .nil, e => by unfold toPys at e; cases e; exact .nil
  | _, _, _, .cons (u := u) (us := us) a b, e => by
    unfold toPys at e
    cases q : toPy u with
    | none => rw [q] at e; cases e
    | some d =>
      cases q2 : toPys us with
      | none => rw [q, q2] at e; cases e
      | some ds => rw [q, q2] at e; cases e; exact .cons (RU.dp a q) (RUs.dp b q2)
end
def leafs : List O → Option (List U)
  | [] => some []
  | .lf u :: os => (leafs os).map fun us => u :: us
  | _ :: _ => none
theorem leafs_of {g : G} {H : Hp} : ∀ {vs : List V} {os : List O} {A : List Addr} {us : List U}, ROs g H vs os A → leafs os = some us → A = [] ∧ RUs g H vs us
  | _, _, _, _, .nil, e => by cases e; exact ⟨rfl, .nil⟩
  | _, _, _, _, .cons (o := .lf u) (os := os) (.lf a) b, e => by
    unfold leafs at e
    cases q : leafs os with
    | none => rw [q] at e; cases e
    | some ws =>
      rw [q] at e
      cases e
      obtain ⟨h1, h2⟩ := leafs_of b q
      exact ⟨by rw [h1]; rfl, .cons a h2⟩
theorem to_leafs {g : G} {H : Hp} : ∀ {vs : List V} {us : List U}, RUs g H vs us → ROs g H vs (us.map .lf) []
  | _, _, .nil => .nil
  | _, _, .cons a b => by
    have h := ROs.cons (RO.lf a) (to_leafs b)
    exact h
theorem leafs_map : ∀ us : List U, leafs (us.map .lf) = some us
  | [] => rfl
  | u :: us => by
    show (leafs (us.map .lf)).map _ = _
    rw [leafs_map us]
    rfl
/-- the items of a list -/
def lstR : R → Option (List U)
  | .im (.lst xs) => some xs
  | .br xs => some xs
  | .fr (.ol os) => leafs os
  | _ => none
def tupR : R → Option (List U)
  | .im (.tup xs) => some xs
  | _ => none
def pyR : R → Option PyData
  | .im u => toPy u
  | .br xs => (toPys xs).map .list
  | .fr (.ol os) => (leafs os).bind fun us => (toPys us).map .list
  | .fr (.lf u) => toPy u
  | _ => none
section
variable {g : G} {H : Hp} {v : V} {r : R} {A : List Addr}
theorem RV.lst {us : List U} (h : RV g H v r A) (e : lstR r = some us) : ∃ a vs, v = .ref a ∧ SqL g.K H a vs ∧ RUs g H vs us := by
  cases r with
  | im u =>
    cases u with
    | lst xs =>
      cases e
      obtain ⟨_, h⟩ := h
      cases h with
      | lst h1 h2 => exact ⟨_, _, rfl, h1.sq, h2⟩
    | _ => cases e
  | br xs => cases e; exact let ⟨_, a, vs, h1, h2, h3, _⟩ := h; ⟨a, vs, h1, h2, h3⟩
  | fr o =>
    cases o with
    | ol os =>
      obtain ⟨h, _⟩ := h
      cases h with
      | ol h1 h2 => exact ⟨_, _, rfl, .inl (.inl h1), (leafs_of h2 e).2⟩
    | _ => cases e
theorem RV.ptp {us : List U} (h : RV g H v r A) (e : tupR r = some us) : ∃ a vs, v = .ref a ∧ PT g.K H a vs ∧ RUs g H vs us := by
  cases r with
  | im u =>
    cases u with
    | tup xs =>
      cases e
      obtain ⟨_, h⟩ := h
      cases h with
      | tup h1 h2 => exact ⟨_, _, rfl, h1, h2⟩
    | _ => cases e
  | _ => cases e
theorem RV.tup {us : List U} (h : RV g H v r A) (e : tupR r = some us) : ∃ a vs, v = .ref a ∧ SqT g.K H a vs ∧ RUs g H vs us := let ⟨a, vs, h1, h2, h3⟩ := h.ptp e; ⟨a, vs, h1, h2.sq, h3⟩
theorem RV.dp {d : PyData} (h : RV g H v r A) (e : pyR r = some d) : Dp g.K H v d := by
  cases r with
  | im u => exact h.2.dp e
  | br xs =>
    change (toPys xs).map _ = _ at e
    cases q : toPys xs with
    | none => rw [q] at e; cases e
    | some ds =>
      rw [q] at e; cases e
      obtain ⟨_, a, vs, rfl, h2, h3, _⟩ := h
      exact .lst h2 (h3.dp q)
  | fr o =>
    cases o with
    | lf u =>
      obtain ⟨h, _⟩ := h
      cases h with
      | lf h => exact h.dp e
    | ol os =>
      obtain ⟨h, _⟩ := h
      cases h with
      | ol h1 h2 =>
        change (leafs os).bind _ = _ at e
        cases q : leafs os with
        | none => rw [q] at e; cases e
        | some us =>
          cases q2 : toPys us with
          | none => rw [q] at e; change (toPys us).map _ = _ at e; rw [q2] at e; cases e
          | some ds =>
            rw [q] at e; change (toPys us).map _ = _ at e; rw [q2] at e; cases e
            exact .lst (.inl (.inl h1)) ((leafs_of h2 q).2.dp q2)
    | oi c os => cases e
end
/-! ### sound functions -/
def Snd1 (g : G) (r : V → Hp → VK → Prop) (f : R → Option R) : Prop := ∀ (H : Hp) (v : V) (a b : R) (A : List Addr) (Q : VK), BoxR g H → RV g H v a A → f a = some b →
  (∀ w H' B, Same H H' → RV g H' w b B → B.Nodup → (∀ x ∈ B, x ∈ A ∨ H x = none) → Q w H') → r v H Q
def Snd2 (g : G) (r : R2) (f : R → R → Option R) : Prop := ∀ (H : Hp) (v w : V) (a b c : R) (A B : List Addr) (Q : VK), BoxR g H → RV g H v a A → RV g H w b B → f a b = some c →
  (∀ z H' C, Same H H' → RV g H' z c C → C.Nodup → (∀ x ∈ C, H x = none) → Q z H') → r v w H Q
theorem Snd2.or {g : G} {r r' : R2} {f f' : R → R → Option R} (h : Snd2 g r f) (h' : Snd2 g r' f') : Snd2 g (fun x y H Q => r x y H Q ∨ r' x y H Q) (fun a b => (f a b).or (f' a b)) := by
  intro H v w a b c A B Q bx ra rb e q
  change (f a b).or (f' a b) = _ at e
  cases h1 : f a b with
  | none => rw [h1, Option.none_or] at e; exact .inr (h' H v w a b c A B Q bx ra rb e q)
  | some z => rw [h1, Option.some_or] at e; exact .inl (h H v w a b c A B Q bx ra rb (h1.trans e) q)
/-- a result that is a value, the heap as it was -/
theorem imQ {g : G} {H : Hp} {Q : VK} {u : U} {z : V} (q : ∀ z H' C, Same H H' → RV g H' z (.im u) C → C.Nodup → (∀ x ∈ C, H x = none) → Q z H') (h : RU g H z u) : Q z H :=
  q z H [] (Same.refl _) ⟨rfl, h⟩ List.nodup_nil fun x m => nomatch m
theorem imQ' {g : G} {H H' : Hp} {Q : VK} {u : U} {z : V} (q : ∀ z H' C, Same H H' → RV g H' z (.im u) C → C.Nodup → (∀ x ∈ C, H x = none) → Q z H') (s : Same H H') (h : RU g H' z u) : Q z H' :=
  q z H' [] s ⟨rfl, h⟩ List.nodup_nil fun x m => nomatch m
theorem kp_same {g : G} {H H' : Hp} (s : Same H H') : Kp g H H' := fun x o e _ => s x o e
/-- a result that is a new list -/
theorem frQ {g : G} {H : Hp} {Q : VK} {us : List U} {vs : List V} {p : Addr} (b : BoxR g H) (q : ∀ z H' C, Same H H' → RV g H' z (.fr (.ol (us.map .lf))) C → C.Nodup → (∀ x ∈ C, H x = none) → Q z H') (n : H p = none) (h : RUs g H vs us) : Q (.ref p) (upd H p (.lst vs)) :=
  q _ _ [p] (same_new n) ⟨.ol upd_same (to_leafs (h.mono (kp_same (same_new n)))), fun x m => by rw [List.mem_singleton.mp m]; exact b.nb n⟩ (by simp) fun x m => by rw [List.mem_singleton.mp m]; exact n
/-! #### numbers, texts, tuples -/
def iR : R → Option Int
  | .im (.int i) => some i
  | _ => none
theorem iR_of {g : G} {H : Hp} {v : V} {r : R} {A : List Addr} {i : Int} (h : RV g H v r A) (e : iR r = some i) : v = .int i := by
  cases r with
  | im u =>
    cases u with
    | int j => cases e; obtain ⟨_, h⟩ := h; cases h; rfl
    | _ => cases e
  | _ => cases e
def sR : R → Option Str
  | .im (.str i) => some i
  | _ => none
theorem sR_of {g : G} {H : Hp} {v : V} {r : R} {A : List Addr} {i : Str} (h : RV g H v r A) (e : sR r = some i) : v = .str i := by
  cases r with
  | im u =>
    cases u with
    | str j => cases e; obtain ⟨_, h⟩ := h; cases h; rfl
    | _ => cases e
  | _ => cases e
def bR : R → Option Bool
  | .im (.bl i) => some i
  | _ => none
theorem bR_of {g : G} {H : Hp} {v : V} {r : R} {A : List Addr} {i : Bool} (h : RV g H v r A) (e : bR r = some i) : v = .bl i := by
  cases r with
  | im u =>
    cases u with
    | bl j => cases e; obtain ⟨_, h⟩ := h; cases h; rfl
    | _ => cases e
  | _ => cases e
/-- two ints -/
def fI (f : Int → Int → Option U) (a b : R) : Option R := (iR a).bind fun i => (iR b).bind fun j => (f i j).map .im
theorem fI_of {f : Int → Int → Option U} {a b c : R} (e : fI f a b = some c) : ∃ i j u, iR a = some i ∧ iR b = some j ∧ f i j = some u ∧ c = .im u := by
  unfold fI at e
  cases h1 : iR a with
  | none => rw [h1] at e; cases e
  | some i =>
    cases h2 : iR b with
    | none => rw [h1, h2] at e; cases e
    | some j =>
      cases h3 : f i j with
      | none => rw [h1, h2] at e; change (f i j).map _ = _ at e; rw [h3] at e; cases e
      | some u => rw [h1, h2] at e; change (f i j).map _ = _ at e; rw [h3] at e; cases e; exact ⟨i, j, u, rfl, rfl, h3, rfl⟩
theorem snd_I0 {g : G} {k : Int → Int → V} {f : Int → Int → U} (hk : ∀ H i j, RU g H (k i j) (f i j)) : Snd2 g (rI0 k) (fI fun i j => some (f i j)) := by
  intro H v w a b c A B Q bx ra rb e q
  obtain ⟨i, j, u, e1, e2, e3, rfl⟩ := fI_of e
  cases e3
  exact ⟨i, j, iR_of ra e1, iR_of rb e2, imQ q (hk H i j)⟩
theorem snd_I {g : G} {C : Int → Int → Prop} {k : Int → Int → V} {f : Int → Int → Option U} (hk : ∀ H i j u, f i j = some u → C i j ∧ RU g H (k i j) u) : Snd2 g (rI C k) (fI f) := by
  intro H v w a b c A B Q bx ra rb e q
  obtain ⟨i, j, u, e1, e2, e3, rfl⟩ := fI_of e
  obtain ⟨h1, h2⟩ := hk H i j u e3
  exact ⟨i, j, iR_of ra e1, iR_of rb e2, h1, imQ q h2⟩
def pAddI := fI fun i j => some (.int (i + j))
def pSub := fI fun i j => some (.int (i - j))
def pMod := fI fun i j => if 0 < j then some (.int (i % j)) else none
def pDiv := fI fun i j => if 0 < j ∧ j < 1073741824 then some (.int (i / j)) else none
def pMulI := fI fun i j => if -(2 ^ 64) < j ∧ j < 2 ^ 64 then some (.int (i * j)) else none
theorem snd_addI {g : G} : Snd2 g (rI0 fun i j => .int (i + j)) pAddI := snd_I0 fun _ _ _ => .int _
theorem snd_sub {g : G} : Snd2 g (rI0 fun i j => .int (i - j)) pSub := snd_I0 fun _ _ _ => .int _
theorem snd_mod {g : G} : Snd2 g (rI (fun _ j => 0 < j) fun i j => .int (i % j)) pMod := snd_I fun H i j u e => by
  by_cases h : 0 < j
  · rw [if_pos h] at e; cases e; exact ⟨h, .int _⟩
  · rw [if_neg h] at e; cases e
theorem snd_div {g : G} : Snd2 g (rI CDiv fun i j => .int (i / j)) pDiv := snd_I fun H i j u e => by
  by_cases h : 0 < j ∧ j < 1073741824
  · rw [if_pos h] at e; cases e; exact ⟨h, .int _⟩
  · rw [if_neg h] at e; cases e
theorem snd_mulI {g : G} : Snd2 g (rI CMul fun i j => .int (i * j)) pMulI := snd_I fun H i j u e => by
  by_cases h : -(2 ^ 64) < j ∧ j < 2 ^ 64
  · rw [if_pos h] at e; cases e; exact ⟨.inr h, .int _⟩
  · rw [if_neg h] at e; cases e
def pAddS (a b : R) : Option R := (sR a).bind fun x => (sR b).bind fun y => if x.length + y.length ≤ 100000 then some (.im (.str (x ++ y))) else none
theorem sz5 {n : Nat} (h : n ≤ 100000) : n ≤ sizeLine := Nat.le_trans h (by decide)
theorem snd_addS {g : G} : Snd2 g (fun x y H Q => ∃ i j, x = .str i ∧ y = .str j ∧ i.length + j.length ≤ sizeLine ∧ Q (.str (i ++ j)) H) pAddS := by
  intro H v w a b c A B Q bx ra rb e q
  unfold pAddS at e
  cases h1 : sR a with
  | none => rw [h1] at e; cases e
  | some x =>
    cases h2 : sR b with
    | none => rw [h1, h2] at e; cases e
    | some y =>
      rw [h1, h2] at e
      change (if _ then _ else _) = _ at e
      by_cases hl : x.length + y.length ≤ 100000
      · rw [if_pos hl] at e
        cases e
        exact ⟨x, y, sR_of ra h1, sR_of rb h2, sz5 hl, imQ q (.str _)⟩
      · rw [if_neg hl] at e; cases e
def pAddT (a b : R) : Option R := (tupR a).bind fun x => (tupR b).bind fun y => if x.length + y.length ≤ 100000 then some (.im (.tup (x ++ y))) else none
theorem snd_addT {g : G} : Snd2 g (rCatP g.K) pAddT := by
  intro H v w a b c A B Q bx ra rb e q
  unfold pAddT at e
  cases h1 : tupR a with
  | none => rw [h1] at e; cases e
  | some x =>
    cases h2 : tupR b with
    | none => rw [h1, h2] at e; cases e
    | some y =>
      rw [h1, h2] at e
      change (if _ then _ else _) = _ at e
      by_cases hl : x.length + y.length ≤ 100000
      · rw [if_pos hl] at e
        cases e
        obtain ⟨p, vs, rfl, h3, h4⟩ := ra.ptp h1
        obtain ⟨p', ws, rfl, h5, h6⟩ := rb.ptp h2
        exact r_catP h3 h5 (by rw [h4.len, h6.len]; exact sz5 hl) fun p H' s h7 => imQ' q s (.tup h7 ((h4.mono (kp_same s)).append (h6.mono (kp_same s))))
      · rw [if_neg hl] at e; cases e
end Rl
/-! Rl: comparisons, built-ins. -/
namespace Rl
open PySem PySem.Spec PyProof.Rows L2 Wn
/-! ### == -/
mutual
def eqU : U → U → Bool
  | .non, .non => true
  | .bl a, .bl b => a == b
  | .bl a, .int j => (if a then 1 else 0) == j
  | .int i, .bl b => i == (if b then 1 else 0)
  | .int i, .int j => i == j
  | .str x, .str y => x == y
  | .tup xs, .tup ys => eqUs xs ys
  | .lst xs, .lst ys => eqUs xs ys
  | _, _ => false
def eqUs : List U → List U → Bool
  | [], [] => true
  | x :: xs, y :: ys => eqU x y && eqUs xs ys
  | _, _ => false
end
theorem map_some {α β : Type} {f : α → β} {o : Option α} {b : β} (h : o.map f = some b) : ∃ a, o = some a ∧ b = f a := by
  cases o with
  | none => cases h
  | some a => exact ⟨a, rfl, (Option.some.inj h).symm⟩
theorem toPys_cons {u : U} {us : List U} {ds : List PyData} (h : toPys (u :: us) = some ds) : ∃ d es, toPy u = some d ∧ toPys us = some es ∧ ds = d :: es := by
  unfold toPys at h
  cases q : toPy u with
  | none => rw [q] at h; cases h
  | some d =>
    rw [q] at h
    obtain ⟨es, h1, h2⟩ := map_some (show (toPys us).map _ = _ from h)
    exact ⟨d, es, rfl, h1, h2⟩
mutual
theorem eq_py : ∀ {a b : U} {d e : PyData}, toPy a = some d → toPy b = some e → PyData.eqv d e = eqU a b
  | .tup xs, b, d, e, h1, h2 => by
    unfold toPy at h1
    obtain ⟨ds, q1, rfl⟩ := map_some h1
    cases b with
    | tup ys =>
      unfold toPy at h2
      obtain ⟨es, q2, rfl⟩ := map_some h2
      unfold PyData.eqv eqU
      exact eqs_py q1 q2
    | lst ys => unfold toPy at h2; obtain ⟨es, q2, rfl⟩ := map_some h2; unfold PyData.eqv eqU; rfl
    | ins c ys => unfold toPy at h2; cases h2
    | emp => unfold toPy at h2; cases h2
    | box => unfold toPy at h2; cases h2
    | ty => unfold toPy at h2; cases h2
    | cl => unfold toPy at h2; cases h2
    | _ => cases h2; unfold PyData.eqv eqU; rfl
  | .lst xs, b, d, e, h1, h2 => by
    unfold toPy at h1
    obtain ⟨ds, q1, rfl⟩ := map_some h1
    cases b with
    | lst ys =>
      unfold toPy at h2
      obtain ⟨es, q2, rfl⟩ := map_some h2
      unfold PyData.eqv eqU
      exact eqs_py q1 q2
    | tup ys => unfold toPy at h2; obtain ⟨es, q2, rfl⟩ := map_some h2; unfold PyData.eqv eqU; rfl
    | ins c ys => unfold toPy at h2; cases h2
    | emp => unfold toPy at h2; cases h2
    | box => unfold toPy at h2; cases h2
    | ty => unfold toPy at h2; cases h2
    | cl => unfold toPy at h2; cases h2
    | _ => cases h2; unfold PyData.eqv eqU; rfl
  | .non, b, d, e, h1, h2 => by
    cases h1
    cases b with
    | tup ys => unfold toPy at h2; obtain ⟨es, q2, rfl⟩ := map_some h2; unfold PyData.eqv eqU; rfl
    | lst ys => unfold toPy at h2; obtain ⟨es, q2, rfl⟩ := map_some h2; unfold PyData.eqv eqU; rfl
    | ins c ys => unfold toPy at h2; cases h2
    | emp => unfold toPy at h2; cases h2
    | box => unfold toPy at h2; cases h2
    | ty => unfold toPy at h2; cases h2
    | cl => unfold toPy at h2; cases h2
    | _ => cases h2; unfold PyData.eqv eqU; rfl
  | .bl x, b, d, e, h1, h2 => by
    cases h1
    cases b with
    | tup ys => unfold toPy at h2; obtain ⟨es, q2, rfl⟩ := map_some h2; unfold PyData.eqv eqU; rfl
    | lst ys => unfold toPy at h2; obtain ⟨es, q2, rfl⟩ := map_some h2; unfold PyData.eqv eqU; rfl
    | ins c ys => unfold toPy at h2; cases h2
    | emp => unfold toPy at h2; cases h2
    | box => unfold toPy at h2; cases h2
    | ty => unfold toPy at h2; cases h2
    | cl => unfold toPy at h2; cases h2
    | _ => cases h2; unfold PyData.eqv eqU; rfl
  | .int x, b, d, e, h1, h2 => by
    cases h1
    cases b with
    | tup ys => unfold toPy at h2; obtain ⟨es, q2, rfl⟩ := map_some h2; unfold PyData.eqv eqU; rfl
    | lst ys => unfold toPy at h2; obtain ⟨es, q2, rfl⟩ := map_some h2; unfold PyData.eqv eqU; rfl
    | ins c ys => unfold toPy at h2; cases h2
    | emp => unfold toPy at h2; cases h2
    | box => unfold toPy at h2; cases h2
    | ty => unfold toPy at h2; cases h2
    | cl => unfold toPy at h2; cases h2
    | _ => cases h2; unfold PyData.eqv eqU; rfl
  | .str x, b, d, e, h1, h2 => by
    cases h1
    cases b with
    | tup ys => unfold toPy at h2; obtain ⟨es, q2, rfl⟩ := map_some h2; unfold PyData.eqv eqU; rfl
    | lst ys => unfold toPy at h2; obtain ⟨es, q2, rfl⟩ := map_some h2; unfold PyData.eqv eqU; rfl
    | ins c ys => unfold toPy at h2; cases h2
    | emp => unfold toPy at h2; cases h2
    | box => unfold toPy at h2; cases h2
    | ty => unfold toPy at h2; cases h2
    | cl => unfold toPy at h2; cases h2
    | _ => cases h2; unfold PyData.eqv eqU; rfl
  | .ins c xs, b, d, e, h1, h2 => by unfold toPy at h1; cases h1
  | .emp, b, d, e, h1, h2 => by unfold toPy at h1; cases h1
  | .box, b, d, e, h1, h2 => by unfold toPy at h1; cases h1
  | .ty _, b, d, e, h1, h2 => by unfold toPy at h1; cases h1
  | .cl _, b, d, e, h1, h2 => by unfold toPy at h1; cases h1
theorem eqs_py : ∀ {as bs : List U} {ds es : List PyData}, toPys as = some ds → toPys bs = some es → PyData.eqvAll ds es = eqUs as bs
  | [], bs, ds, es, h1, h2 => by
    cases h1
    cases bs with
    | nil => cases h2; unfold PyData.eqvAll eqUs; rfl
    | cons b bs => obtain ⟨e, es', _, _, rfl⟩ := toPys_cons h2; unfold PyData.eqvAll eqUs; rfl
  | a :: as, bs, ds, es, h1, h2 => by
    obtain ⟨d, ds', p1, p2, rfl⟩ := toPys_cons h1
    cases bs with
    | nil => cases h2; unfold PyData.eqvAll eqUs; rfl
    | cons b bs =>
      obtain ⟨e, es', p3, p4, rfl⟩ := toPys_cons h2
      unfold PyData.eqvAll eqUs
      rw [eq_py p1 p3, eqs_py p2 p4]
end
def flatU : U → Bool
  | .non => true
  | .bl _ => true
  | .int _ => true
  | .str _ => true
  | _ => false
theorem flat_V {g : G} {H : Hp} {v : V} {u : U} (h : RU g H v u) (f : flatU u = true) : flatV v = true := by
  cases h <;> first | rfl | cases f
theorem flats_V {g : G} {H : Hp} : ∀ {vs : List V} {us : List U}, RUs g H vs us → us.all flatU = true → vs.all flatV = true
  | _, _, .nil, _ => rfl
  | _, _, .cons a b, f => by
    rw [List.all_cons, Bool.and_eq_true] at f
    rw [List.all_cons, flat_V a f.1, flats_V b f.2]
    rfl
theorem eqV_U {g : G} {H : Hp} {v w : V} {u x : U} (h : RU g H v u) (k : RU g H w x) (f : flatU u = true) (f' : flatU x = true) : eqV v w = eqU u x := by
  cases h <;> first | (cases k <;> first | (unfold eqV eqU; rfl) | cases f') | cases f
theorem any_U {g : G} {H : Hp} {w : V} {x : U} (k : RU g H w x) (f' : flatU x = true) : ∀ {vs : List V} {us : List U}, RUs g H vs us → us.all flatU = true → (vs.any fun y => eqV y w) = us.any fun y => eqU y x
  | _, _, .nil, _ => rfl
  | _, _, .cons a b, f => by
    rw [List.all_cons, Bool.and_eq_true] at f
    rw [List.any_cons, List.any_cons, eqV_U a k f.1 f', any_U k f' b f.2]
theorem any_py {x : U} {d : PyData} (k : toPy x = some d) : ∀ {us : List U} {ds : List PyData}, toPys us = some ds → (ds.any fun z => PyData.eqv z d) = us.any fun y => eqU y x
  | [], ds, h => by cases h; rfl
  | u :: us, ds, h => by
    obtain ⟨e, es, h1, h2, rfl⟩ := toPys_cons h
    rw [List.any_cons, List.any_cons, eq_py h1 k, any_py k h2]
/-- in and not in, a list or a tuple -/
def seqR (r : R) : Option (List U) := (lstR r).or (tupR r)
def uR : R → Option U
  | .im u => some u
  | .br xs => some (.lst xs)
  | .fr (.ol os) => (leafs os).map .lst
  | .fr (.lf u) => some u
  | _ => none
def shp (u : U) : Bool :=
  match toPy u with
  | some d => SeqAt.shaped d
  | none => false
def fits (u : U) (us : List U) : Bool := (flatU u && us.all flatU) || (shp u && shp (.lst us))
def pIn (neg : Bool) (a b : R) : Option R := (uR a).bind fun u => (seqR b).bind fun us => if fits u us = true then some (.im (.bl (if neg then !(us.any fun y => eqU y u) else us.any fun y => eqU y u))) else none
theorem RV.imU {g : G} {H : Hp} {v : V} {r : R} {A : List Addr} {u : U} (h : RV g H v r A) (e : uR r = some u) (f : flatU u = true) : RU g H v u := by
  cases r with
  | im w => cases e; exact h.2
  | br xs => cases e; cases f
  | fr o =>
    cases o with
    | lf w =>
      cases e
      obtain ⟨h, _⟩ := h
      cases h with
      | lf h => exact h
    | ol os =>
      obtain ⟨us, _, rfl⟩ := map_some (show (leafs os).map _ = _ from e)
      cases f
    | oi c os => cases e
theorem py_U {r : R} {u : U} (e : uR r = some u) : pyR r = toPy u := by
  cases r with
  | im w => cases e; rfl
  | br xs => cases e; unfold toPy; rfl
  | fr o =>
    cases o with
    | lf w => cases e; rfl
    | ol os =>
      obtain ⟨us, h, rfl⟩ := map_some (show (leafs os).map _ = _ from e)
      show (leafs os).bind _ = _
      rw [h]
      unfold toPy
      rfl
    | oi c os => cases e
theorem seqR_of {g : G} {H : Hp} {v : V} {r : R} {A : List Addr} {us : List U} (h : RV g H v r A) (e : seqR r = some us) : ∃ a vs, v = .ref a ∧ (SqL g.K H a vs ∨ SqT g.K H a vs) ∧ RUs g H vs us ∧ (lstR r = some us ∨ tupR r = some us) := by
  unfold seqR at e
  cases q : lstR r with
  | some x =>
    rw [q, Option.some_or] at e
    cases e
    obtain ⟨a, vs, h1, h2, h3⟩ := h.lst q
    exact ⟨a, vs, h1, .inl h2, h3, .inl rfl⟩
  | none =>
    rw [q, Option.none_or] at e
    obtain ⟨a, vs, h1, h2, h3⟩ := h.tup e
    exact ⟨a, vs, h1, .inr h2, h3, .inr e⟩
def rInU (K : PySem.W.Frag) (neg : Bool) : R2 := fun x y H Q => rIn K neg x y H Q ∨ rInDT K neg x y H Q ∨ (if neg then rNotInD K x y H Q else rInD K x y H Q)
theorem op_inU {X : Cx} {K : PySem.W.Frag} (eK : X.K = K) (hu : X.A.units + 65 < cLine) : OpR X (compareOp .In) (rInU K false) := by
  subst eK
  intro pins s σ H x y v u Q I rx ry h
  rcases h with h | h | h
  · exact op_in_seq pins s σ H x y v u Q I rx ry h
  · exact op_inDTK rfl hu pins s σ H x y v u Q I rx ry h
  · exact op_inD hu pins s σ H x y v u Q I rx ry h
theorem op_notinU {X : Cx} {K : PySem.W.Frag} (eK : X.K = K) (hu : X.A.units + 65 < cLine) : OpR X (compareOp .NotIn) (rInU K true) := by
  subst eK
  intro pins s σ H x y v u Q I rx ry h
  rcases h with h | h | h
  · exact op_notIn_seq pins s σ H x y v u Q I rx ry h
  · exact op_notinDTK rfl hu pins s σ H x y v u Q I rx ry h
  · exact op_notInD hu pins s σ H x y v u Q I rx ry h
theorem shp_py {u : U} (h : shp u = true) : ∃ d, toPy u = some d ∧ SeqAt.shaped d = true := by
  unfold shp at h
  cases q : toPy u with
  | none => rw [q] at h; cases h
  | some d => rw [q] at h; exact ⟨d, rfl, h⟩
theorem shaped_tl {ds : List PyData} (h : SeqAt.shaped (.list ds) = true) : SeqAt.shaped (.tuple ds) = true := by
  unfold SeqAt.shaped PyData.canLay0 PyData.depth at h ⊢
  exact h
theorem snd_in {g : G} {neg : Bool} : Snd2 g (rInU g.K neg) (pIn neg) := by
  intro H v w a b c A B Q bx ra rb e q
  unfold pIn at e
  cases h1 : uR a with
  | none => rw [h1] at e; cases e
  | some u =>
    cases h2 : seqR b with
    | none => rw [h1, h2] at e; cases e
    | some us =>
      rw [h1, h2] at e
      change (if _ then _ else _) = _ at e
      by_cases hf : fits u us = true
      · rw [if_pos hf] at e
        cases e
        obtain ⟨p, vs, rfl, h3, h4, h5⟩ := seqR_of rb h2
        unfold fits at hf
        rw [Bool.or_eq_true, Bool.and_eq_true, Bool.and_eq_true] at hf
        rcases hf with ⟨f1, f2⟩ | ⟨f1, f2⟩
        · have ru := ra.imU h1 f1
          refine .inl ⟨p, vs, rfl, h3, flat_V ru f1, flats_V h4 f2, ?_⟩
          unfold inV
          rw [any_U ru f1 h4 f2]
          exact imQ q (.bl _)
        · obtain ⟨d, e1, s1⟩ := shp_py f1
          obtain ⟨dl, e2, s2⟩ := shp_py f2
          unfold toPy at e2
          obtain ⟨ds, e3, rfl⟩ := map_some e2
          have dx := ra.dp ((py_U h1).trans e1)
          rcases h3 with h3 | h3
          · refine .inr (.inr ?_)
            have key : Dp g.K H (.ref p) (.list ds) := .lst h3 (h4.dp e3)
            cases neg with
            | false =>
              refine ⟨d, ds, dx, key, s1, s2, ?_⟩
              rw [any_py e1 e3]
              exact imQ q (.bl _)
            | true =>
              refine ⟨d, ds, dx, key, s1, s2, ?_⟩
              rw [any_py e1 e3]
              exact imQ q (.bl _)
          · refine .inr (.inl ⟨d, ds, dx, .tup h3 (h4.dp e3), s1, shaped_tl s2, ?_⟩)
            rw [any_py e1 e3]
            exact imQ q (.bl _)
      · rw [if_neg hf] at e; cases e
/-! ### == and != -/
def mixed : U → U → Bool
  | .bl _, .int _ => true
  | .int _, .bl _ => true
  | _, _ => false
def pEq (neg : Bool) (a b : R) : Option R := (uR a).bind fun u => (uR b).bind fun w => if ((flatU u && flatU w && !mixed u w) || (shp u && shp w)) = true then some (.im (.bl (if neg then !eqU u w else eqU u w))) else none
def rEqU (K : PySem.W.Frag) : R2 := fun x y H Q => rEq x y H Q ∨ rEqD K x y H Q
def rNeU (K : PySem.W.Frag) : R2 := fun x y H Q => rNe x y H Q ∨ rNeD K x y H Q
theorem op_eqU {X : Cx} {K : PySem.W.Frag} (eK : X.K = K) (hu : X.A.units + 65 < cLine) : OpR X (compareOp .Eq) (rEqU K) := by
  subst eK
  exact op_eq.or (op_eqD (by omega))
theorem op_neU {X : Cx} {K : PySem.W.Frag} (eK : X.K = K) (hu : X.A.units + 65 < cLine) : OpR X (compareOp .NotEq) (rNeU K) := by
  subst eK
  exact op_ne.or (op_neD (by omega))
theorem dec_blB {i j : Bool} : decide (V.bl i = V.bl j) = (i == j) := by cases i <;> cases j <;> rfl
theorem dec_strB {i j : Str} : decide (V.str i = V.str j) = (i == j) := by
  by_cases h : i = j
  · subst h; simp
  · rw [decide_eq_false (fun e => h (V.str.inj e)), beq_eq_false_iff_ne.mpr h]
theorem scal_U {g : G} {H : Hp} {v w : V} {u x : U} (h : RU g H v u) (k : RU g H w x) (f : flatU u = true) (f' : flatU x = true) (m : mixed u x = false) : scal v w = true ∧ decide (v = w) = eqU u x := by
  cases h <;> first | (cases k <;> first | (cases f'; done) | (cases m; done) | (refine ⟨rfl, ?_⟩; unfold eqU; first | rfl | exact dec_int | exact dec_blB | exact dec_strB | fail) | (cases f'; done) | (cases m; done)) | (cases f; done)
theorem eq_cases {g : G} {H : Hp} {v w : V} {a b : R} {A B : List Addr} {u x : U} (ra : RV g H v a A) (rb : RV g H w b B) (h1 : uR a = some u) (h2 : uR b = some x) (f : ((flatU u && flatU x && !mixed u x) || (shp u && shp x)) = true) :
    (scal v w = true ∧ decide (v = w) = eqU u x) ∨ ∃ d e, Dp g.K H v d ∧ Dp g.K H w e ∧ SeqAt.shaped d = true ∧ SeqAt.shaped e = true ∧ PyData.eqv d e = eqU u x := by
  rw [Bool.or_eq_true, Bool.and_eq_true, Bool.and_eq_true, Bool.and_eq_true] at f
  rcases f with ⟨⟨f1, f2⟩, f3⟩ | ⟨f1, f2⟩
  · exact .inl (scal_U (ra.imU h1 f1) (rb.imU h2 f2) f1 f2 (by cases q : mixed u x <;> simp_all))
  · obtain ⟨d, e1, s1⟩ := shp_py f1
    obtain ⟨e, e2, s2⟩ := shp_py f2
    exact .inr ⟨d, e, ra.dp ((py_U h1).trans e1), rb.dp ((py_U h2).trans e2), s1, s2, eq_py e1 e2⟩
theorem snd_eq {g : G} : Snd2 g (rEqU g.K) (pEq false) := by
  intro H v w a b c A B Q bx ra rb e q
  unfold pEq at e
  cases h1 : uR a with
  | none => rw [h1] at e; cases e
  | some u =>
    cases h2 : uR b with
    | none => rw [h1, h2] at e; cases e
    | some x =>
      rw [h1, h2] at e
      change (if _ then _ else _) = _ at e
      by_cases hf : ((flatU u && flatU x && !mixed u x) || (shp u && shp x)) = true
      · rw [if_pos hf] at e
        cases e
        rcases eq_cases ra rb h1 h2 hf with ⟨h3, h4⟩ | ⟨d, e, h3, h4, h5, h6, h7⟩
        · exact .inl ⟨h3, by rw [h4]; exact imQ q (.bl _)⟩
        · exact .inr ⟨d, e, h3, h4, h5, h6, by rw [h7]; exact imQ q (.bl _)⟩
      · rw [if_neg hf] at e; cases e
theorem snd_ne {g : G} : Snd2 g (rNeU g.K) (pEq true) := by
  intro H v w a b c A B Q bx ra rb e q
  unfold pEq at e
  cases h1 : uR a with
  | none => rw [h1] at e; cases e
  | some u =>
    cases h2 : uR b with
    | none => rw [h1, h2] at e; cases e
    | some x =>
      rw [h1, h2] at e
      change (if _ then _ else _) = _ at e
      by_cases hf : ((flatU u && flatU x && !mixed u x) || (shp u && shp x)) = true
      · rw [if_pos hf] at e
        cases e
        rcases eq_cases ra rb h1 h2 hf with ⟨h3, h4⟩ | ⟨d, e, h3, h4, h5, h6, h7⟩
        · exact .inl ⟨h3, by rw [h4]; exact imQ q (.bl _)⟩
        · exact .inr ⟨d, e, h3, h4, h5, h6, by rw [h7]; exact imQ q (.bl _)⟩
      · rw [if_neg hf] at e; cases e
/-! ### is None -/
def isNonR : R → Bool
  | .im .non => true
  | .fr (.lf .non) => true
  | _ => false
def pIs (neg : Bool) (a b : R) : Option R :=
  match b with
  | .im .non => some (.im (.bl (if neg then !isNonR a else isNonR a)))
  | _ => none
theorem isNon_V {g : G} {H : Hp} {v : V} {a : R} {A : List Addr} (h : RV g H v a A) : decide (v = .non) = isNonR a := by
  cases a with
  | im u =>
    obtain ⟨_, h⟩ := h
    cases h <;> rfl
  | br xs =>
    obtain ⟨_, a, vs, rfl, _⟩ := h
    rfl
  | fr o =>
    obtain ⟨h, _⟩ := h
    cases h with
    | lf h => cases h <;> rfl
    | ol => rfl
    | oi => rfl
theorem snd_is {g : G} : Snd2 g (fun x y H Q => y = .non ∧ Q (.bl (decide (x = .non))) H) (pIs false) := by
  intro H v w a b c A B Q bx ra rb e q
  cases b with
  | im u =>
    cases u with
    | non =>
      cases e
      obtain ⟨_, rb⟩ := rb
      cases rb
      refine ⟨rfl, ?_⟩
      rw [isNon_V ra]
      exact imQ q (.bl _)
    | _ => cases e
  | _ => cases e
theorem snd_isnot {g : G} : Snd2 g (fun x y H Q => y = .non ∧ Q (.bl (!decide (x = .non))) H) (pIs true) := by
  intro H v w a b c A B Q bx ra rb e q
  cases b with
  | im u =>
    cases u with
    | non =>
      cases e
      obtain ⟨_, rb⟩ := rb
      cases rb
      refine ⟨rfl, ?_⟩
      rw [isNon_V ra]
      exact imQ q (.bl _)
    | _ => cases e
  | _ => cases e
/-! ### < and its like -/
def pLt := fI fun i j => some (.bl (decide (i < j)))
def pLe := fI fun i j => some (.bl (decide (i ≤ j)))
def pGt := fI fun i j => some (.bl (decide (j < i)))
def pGe := fI fun i j => some (.bl (decide (j ≤ i)))
theorem snd_lt {g : G} : Snd2 g (rI0 fun i j => .bl (decide (i < j))) pLt := snd_I0 fun _ _ _ => .bl _
theorem snd_le {g : G} : Snd2 g (rI0 fun i j => .bl (decide (i ≤ j))) pLe := snd_I0 fun _ _ _ => .bl _
theorem snd_gt {g : G} : Snd2 g (rI0 fun i j => .bl (decide (j < i))) pGt := snd_I0 fun _ _ _ => .bl _
theorem snd_ge {g : G} : Snd2 g (rI0 fun i j => .bl (decide (j ≤ i))) pGe := snd_I0 fun _ _ _ => .bl _
end Rl
/-! Rl: expressions. -/
namespace Rl
open PySem PySem.Spec PyProof.Rows L2 Wn
def pUn (f : R → Option R) (pa : PEx) : PEx := fun ρ => (pa ρ).bind fun a => .opt (f a)
def pOp (f : R → R → Option R) (pa pb : PEx) : PEx := fun ρ => (pa ρ).bind fun a => (pb ρ).bind fun b => .opt (f a b)
def pC (u : U) : PEx := fun _ => .ok (.im u)
def readR : Sl → Option R
  | .im u => some (.im u)
  | .ow (.lf u) => some (.im u)
  | .ow (.ol os) => (leafs os).map .br
  | _ => none
def pVar (i : Nat) : PEx := fun ρ => .opt ((ρ[i]?).bind readR)
def pTs (p : PEx) : PTs' := fun ρ => (p ρ).bind fun a => .opt (bR a)
def truR : R → Option Bool
  | .im .non => some false
  | .im (.bl b) => some b
  | .im (.int i) => some (i != 0)
  | a => (seqR a).map fun us => !us.isEmpty
def pTru (p : PEx) : PTs' := fun ρ => (p ρ).bind fun a => .opt (truR a)
def pAnd (a b : PTs') : PTs' := fun ρ => (a ρ).bind fun c => if c = true then b ρ else .ok false
def pOr (a b : PTs') : PTs' := fun ρ => (a ρ).bind fun c => if c = true then .ok true else b ρ
def pNot (a : PTs') : PTs' := fun ρ => (a ρ).bind fun c => .ok (!c)
def pB (a : PTs') : PEx := fun ρ => (a ρ).bind fun c => .ok (.im (.bl c))
def pIf (c : PTs') (a b : PEx) : PEx := fun ρ => (c ρ).bind fun k => if k = true then a ρ else b ρ
def pNil : PAs := fun _ => .ok []
def pCons (a : PEx) (b : PAs) : PAs := fun ρ => (a ρ).bind fun x => (b ρ).bind fun xs => .ok (x :: xs)
def imR : R → Option U
  | .im u => some u
  | .fr (.lf u) => some u
  | _ => none
def imRs : List R → Option (List U)
  | [] => some []
  | r :: rs => (imR r).bind fun u => (imRs rs).map fun us => u :: us
def ownR : R → Option O
  | .im u => some (.lf u)
  | .fr o => some o
  | _ => none
def ownRs : List R → Option (List O)
  | [] => some []
  | r :: rs => (ownR r).bind fun u => (ownRs rs).map fun us => u :: us
def pTup (a : PAs) : PEx := fun ρ => (a ρ).bind fun rs => .opt (if rs.length ≤ 1000 then (imRs rs).map fun us => .im (.tup us) else none)
def pLst (a : PAs) : PEx := fun ρ => (a ρ).bind fun rs => .opt (if rs.length ≤ 1000 then (ownRs rs).map fun os => .fr (.ol os) else none)
/-- with a function over the arguments -/
def pFn (f : List R → Option R) (a : PAs) : PEx := fun ρ => (a ρ).bind fun rs => .opt (f rs)
section
variable {g : G} {W : WX} {t : Fr} {X : Cx} {pos : Pos} {a b c : Expr} {pa pb pc : PEx} {ta tb : PTs'}
theorem im_of {H : Hp} {v : V} {r : R} {A : List Addr} {u : U} (h : RV g H v r A) (e : imR r = some u) : A = [] ∧ RU g H v u := by
  cases r with
  | im w => cases e; exact h
  | br xs => cases e
  | fr o =>
    cases o with
    | lf w =>
      cases e
      obtain ⟨h, _⟩ := h
      cases h with
      | lf h => exact ⟨rfl, h⟩
    | _ => cases e
theorem ims_of {H : Hp} : ∀ {vs : List V} {rs : List R} {A : List Addr} {us : List U}, RVs g H vs rs A → imRs rs = some us → A = [] ∧ RUs g H vs us
  | _, _, _, _, .nil, e => by cases e; exact ⟨rfl, .nil⟩
  | _, _, _, _, .cons (r := r) (rs := rs) h k, e => by
    unfold imRs at e
    cases q : imR r with
    | none => rw [q] at e; cases e
    | some u =>
      rw [q] at e
      obtain ⟨us, q2, rfl⟩ := map_some (show (imRs rs).map _ = _ from e)
      obtain ⟨h1, h2⟩ := im_of h q
      obtain ⟨h3, h4⟩ := ims_of k q2
      exact ⟨by rw [h1, h3]; rfl, .cons h2 h4⟩
theorem own_of {H : Hp} {v : V} {r : R} {A : List Addr} {o : O} (h : RV g H v r A) (e : ownR r = some o) : RO g H v o A ∧ ∀ a ∈ A, Nb g a := by
  cases r with
  | im w => cases e; obtain ⟨rfl, h⟩ := h; exact ⟨.lf h, fun x m => nomatch m⟩
  | br xs => cases e
  | fr o => cases e; exact h
theorem owns_of {H : Hp} : ∀ {vs : List V} {rs : List R} {A : List Addr} {os : List O}, RVs g H vs rs A → ownRs rs = some os → ROs g H vs os A ∧ ∀ a ∈ A, Nb g a
  | _, _, _, _, .nil, e => by cases e; exact ⟨.nil, fun x m => nomatch m⟩
  | _, _, _, _, .cons (r := r) (rs := rs) h k, e => by
    unfold ownRs at e
    cases q : ownR r with
    | none => rw [q] at e; cases e
    | some u =>
      rw [q] at e
      obtain ⟨us, q2, rfl⟩ := map_some (show (ownRs rs).map _ = _ from e)
      obtain ⟨h1, h2⟩ := own_of h q
      obtain ⟨h3, h4⟩ := owns_of k q2
      refine ⟨.cons h1 h3, fun x m => ?_⟩
      rcases List.mem_append.mp m with z | z
      · exact h2 x z
      · exact h4 x z
theorem RVs.len {H : Hp} : ∀ {vs : List V} {rs : List R} {A : List Addr}, RVs g H vs rs A → vs.length = rs.length
  | _, _, _, .nil => rfl
  | _, _, _, .cons _ k => by rw [List.length_cons, List.length_cons, RVs.len k]
theorem lun {r : V → Hp → VK → Prop} {f : R → Option R} (s : Snd1 g r f) {σ : L2.St} {H : Hp} {Q : VK} (h : lE g W t (pUn f pa) σ H Q) : tUn r (lE g W t pa) σ H Q := by
  obtain ⟨ρ, sS, h⟩ := h
  refine ⟨ρ, sS, post_mono (fun a ha => ?_) (fun e x => x) (post_bind.mp h)⟩
  intro v H1 A x1 b1 r1 n1 f1
  obtain ⟨c, ec, q⟩ := post_opt ha
  refine s H1 v a c A Q b1 r1 ec fun z H3 C s3 r3 n3 f3 => q z H3 C (x1.trans (.of s3)) (b1.same s3) r3 n3 fun y m => ?_
  rcases f3 y m with k | k
  · exact f1 y k
  · exact x1.back b1 k
theorem lop {r : R2} {f : R → R → Option R} (s : Snd2 g r f) {σ : L2.St} {H : Hp} {Q : VK} (h : lE g W t (pOp f pa pb) σ H Q) : tOp r (lE g W t pa) (lE g W t pb) σ H Q := by
  obtain ⟨ρ, sS, h⟩ := h
  refine ⟨ρ, sS, post_mono (fun a ha => ?_) (fun e x => x) (post_bind.mp h)⟩
  intro v H1 A x1 b1 r1 n1 f1
  refine ⟨ρ, sS.mono x1 b1, post_mono (fun b hb => ?_) (fun e x => x.back x1) (post_bind.mp ha)⟩
  intro w H2 B x2 b2 r2 n2 f2
  obtain ⟨c, ec, q⟩ := post_opt hb
  exact s H2 v w a b c A B Q b2 (r1.mono x2) r2 ec fun z H3 C s3 r3 n3 f3 => q z H3 C ((x1.trans x2).trans (.of s3)) (b2.same s3) r3 n3 fun y m => (x1.trans x2).back b2 (f3 y m)
theorem ue_op {op : Operator} {r : R2} {f : R → R → Option R} (ho : OpR X (binaryOp op) r) (s : Snd2 g r f) (ha : PE X a (lE g W t pa)) (hb : PE X b (lE g W t pb)) : PE X (.BinOp a op b pos) (lE g W t (pOp f pa pb)) :=
  PE.imp (pe_op ho ha hb) fun _ _ _ h => lop s h
theorem ue_cmp {op : CmpOp} {r : R2} {f : R → R → Option R} (ho : OpR X (compareOp op) r) (s : Snd2 g r f) (ha : PE X a (lE g W t pa)) (hb : PE X b (lE g W t pb)) (hm : behindInMarks op b = false) : PE X (.Compare a [op] [b] pos) (lE g W t (pOp f pa pb)) :=
  PE.imp (pe_cmpR ho ha hb hm) fun _ _ _ h => lop s h
theorem lts {σ : L2.St} {H : Hp} {Q : Bool → Hp → Prop} (h : lT g W t (pTs pa) σ H Q) : tTest (lE g W t pa) σ H Q := by
  obtain ⟨ρ, sS, h⟩ := h
  refine ⟨ρ, sS, post_mono (fun a ha => ?_) (fun e x => x) (post_bind.mp h)⟩
  intro v H1 A x1 b1 r1 n1 f1
  obtain ⟨c, ec, q⟩ := post_opt ha
  exact ⟨c, bR_of r1 ec, q H1 x1 b1⟩
theorem test_imp {te te' : TE} (h : ∀ σ H Q, te' σ H Q → te σ H Q) {σ : L2.St} {H : Hp} {Q : Bool → Hp → Prop} (q : tTest te' σ H Q) : tTest te σ H Q := h _ _ _ q
theorem ut_cmp {op : CmpOp} {r : R2} {f : R → R → Option R} (ho : OpR X (compareOp op) r) (s : Snd2 g r f) (ha : PE X a (lE g W t pa)) (hb : PE X b (lE g W t pb)) (hm : behindInMarks op b = false) : PT X (.Compare a [op] [b] pos) (lT g W t (pTs (pOp f pa pb))) :=
  PT.imp (pt_cmpR ho ha hb hm) fun _ _ _ h => test_imp (te' := lE g W t (pOp f pa pb)) (fun _ _ _ => lop s) (lts h)
theorem ue_var {i : Nat} (h : PE X a (tVar i)) : PE X a (lE g W t (pVar i)) := by
  refine PE.imp h fun σ H Q h => ?_
  obtain ⟨ρ, sS, h⟩ := h
  obtain ⟨r, e, q⟩ := post_opt h
  obtain ⟨A, h1, h2, h3⟩ := sS.sl
  cases e1 : ρ[i]? with
  | none => rw [e1] at e; cases e
  | some sl =>
    rw [e1] at e
    change readR sl = some r at e
    cases sl with
    | un => cases e
    | im u =>
      cases e
      obtain ⟨v, e2, ru⟩ := h1.atIm e1
      exact ⟨v, e2, q v H [] (Ext.refl H) sS.bx ⟨rfl, ru⟩ List.nodup_nil fun x m => nomatch m⟩
    | ow o =>
      obtain ⟨v, B, e2, ro, sub⟩ := h1.atOw e1
      refine ⟨v, e2, ?_⟩
      cases ro with
      | lf ru => cases e; exact q v H [] (Ext.refl H) sS.bx ⟨rfl, ru⟩ List.nodup_nil fun x m => nomatch m
      | ol h4 h5 =>
        obtain ⟨us, e3, rfl⟩ := map_some (show (leafs _).map R.br = some r from e)
        exact q _ H [] (Ext.refl H) sS.bx ⟨rfl, _, _, rfl, .inl (.inl h4), (leafs_of h5 e3).2, (h3 _ (sub _ (.head _))).2⟩ List.nodup_nil fun x m => nomatch m
      | oi => cases e
theorem ue_c {v : V} {u : U} (h : PE X a (tC v)) (ru : ∀ H, RU g H v u) : PE X a (lE g W t (pC u)) := by
  refine PE.imp h fun σ H Q h => ?_
  obtain ⟨ρ, sS, h⟩ := h
  exact h v H [] (Ext.refl H) sS.bx ⟨rfl, ru H⟩ List.nodup_nil fun x m => nomatch m
theorem ue_tt (h : PE X a (lE g W t pa)) (he : ∀ whole, isTrue a X.env whole = (do let v ← whole; standAt a.pos; holding [v] (truthy v))) (eK : X.K = g.K) : PT X a (lT g W t (pTru pa)) := by
  refine PT.imp (pt_truth h he) fun σ H Q h => ?_
  obtain ⟨ρ, sS, h⟩ := h
  refine ⟨ρ, sS, post_mono (fun a ha => ?_) (fun e x => x) (post_bind.mp h)⟩
  intro v H1 A x1 b1 r1 n1 f1
  obtain ⟨c, ec, q⟩ := post_opt ha
  refine ⟨c, ?_, q H1 x1 b1⟩
  rw [eK]
  have seq : ∀ (a : R), RV g H1 v a A → (seqR a).map (fun us => !us.isEmpty) = some c → TruV g.K v H1 c := fun a r1 ec => by
    obtain ⟨us, e1, rfl⟩ := map_some ec
    obtain ⟨p, vs, rfl, h2, h3, _⟩ := seqR_of r1 e1
    have em : (!vs.isEmpty) = !us.isEmpty := by cases h3 <;> rfl
    rcases h2 with h2 | h2
    · exact .inl ⟨vs, h2, em.symm⟩
    · exact .inr (.inl ⟨vs, h2, em.symm⟩)
  cases a with
  | im u =>
    cases u with
    | non => cases ec; obtain ⟨_, r1⟩ := r1; cases r1; rfl
    | bl b => cases ec; obtain ⟨_, r1⟩ := r1; cases r1; rfl
    | int i => cases ec; obtain ⟨_, r1⟩ := r1; cases r1; rfl
    | _ => exact seq _ r1 ec
  | br xs => exact seq _ r1 ec
  | fr o => exact seq _ r1 ec
theorem land {σ : L2.St} {H : Hp} {Q : Bool → Hp → Prop} (h : lT g W t (pAnd ta tb) σ H Q) : tAnd (lT g W t ta) (lT g W t tb) σ H Q := by
  obtain ⟨ρ, sS, h⟩ := h
  refine ⟨ρ, sS, post_mono (fun a ha => ?_) (fun e x => x) (post_bind.mp h)⟩
  intro H1 x1 b1
  cases a with
  | true => exact ⟨ρ, sS.mono x1 b1, post_mono (fun b hb H2 x2 b2 => hb H2 (x1.trans x2) b2) (fun e x => x.back x1) ha⟩
  | false => exact ha H1 x1 b1
theorem lor {σ : L2.St} {H : Hp} {Q : Bool → Hp → Prop} (h : lT g W t (pOr ta tb) σ H Q) : tOr (lT g W t ta) (lT g W t tb) σ H Q := by
  obtain ⟨ρ, sS, h⟩ := h
  refine ⟨ρ, sS, post_mono (fun a ha => ?_) (fun e x => x) (post_bind.mp h)⟩
  intro H1 x1 b1
  cases a with
  | false => exact ⟨ρ, sS.mono x1 b1, post_mono (fun b hb H2 x2 b2 => hb H2 (x1.trans x2) b2) (fun e x => x.back x1) ha⟩
  | true => exact ha H1 x1 b1
theorem lnot {σ : L2.St} {H : Hp} {Q : Bool → Hp → Prop} (h : lT g W t (pNot ta) σ H Q) : tNot (lT g W t ta) σ H Q := by
  obtain ⟨ρ, sS, h⟩ := h
  exact ⟨ρ, sS, post_mono (fun a ha => ha) (fun e x => x) (post_bind.mp h)⟩
variable {rest : List Expr}
theorem uw_and (ha : PT X a (lT g W t ta)) (hb : PW X (.BoolOp .And (b :: rest) pos) (lT g W t tb)) : PW X (.BoolOp .And (a :: b :: rest) pos) (lT g W t (pAnd ta tb)) := PW.imp (pw_and ha hb) fun _ _ _ h => land h
theorem uw_or (ha : PT X a (lT g W t ta)) (hb : PW X (.BoolOp .Or (b :: rest) pos) (lT g W t tb)) : PW X (.BoolOp .Or (a :: b :: rest) pos) (lT g W t (pOr ta tb)) := PW.imp (pw_or ha hb) fun _ _ _ h => lor h
theorem ut_not (ha : PT X a (lT g W t ta)) : PT X (.UnaryOp .Not a pos) (lT g W t (pNot ta)) := PT.imp (pt_not ha) fun _ _ _ h => lnot h
/-- and, or, not as values (bools) -/
theorem ue_one {op : BoolOp} (ha : PE X a (lE g W t pa)) : PE X (.BoolOp op [a] pos) (lE g W t pa) := pe_one ha
theorem ue_and (ha : PE X a (lE g W t pa)) (hb : PE X (.BoolOp .And (b :: rest) pos) (lE g W t pb)) : PE X (.BoolOp .And (a :: b :: rest) pos) (lE g W t (pB (pAnd (pTs pa) (pTs pb)))) := by
  refine PE.imp (pe_and ha hb) fun σ H Q h => ?_
  obtain ⟨ρ, sS, h⟩ := h
  have h := post_bind.mp (post_bind.mp (post_bind.mp h))
  refine ⟨ρ, sS, post_mono (fun a ha => ?_) (fun e x => x) h⟩
  intro v H1 A x1 b1 r1 n1 f1
  obtain ⟨c, ec, q⟩ := post_opt ha
  refine ⟨c, bR_of r1 ec, ?_⟩
  cases c with
  | false => exact q (.bl false) H1 [] x1 b1 ⟨rfl, .bl _⟩ List.nodup_nil fun x m => nomatch m
  | true =>
    refine ⟨ρ, sS.mono x1 b1, post_mono (fun b hb => ?_) (fun e x => x.back x1) (post_bind.mp q)⟩
    intro w H2 B x2 b2 r2 n2 f2
    obtain ⟨d, ed, q⟩ := post_opt hb
    rw [bR_of r2 ed]
    exact q (.bl d) H2 [] (x1.trans x2) b2 ⟨rfl, .bl _⟩ List.nodup_nil fun x m => nomatch m
theorem ue_or (ha : PE X a (lE g W t pa)) (hb : PE X (.BoolOp .Or (b :: rest) pos) (lE g W t pb)) : PE X (.BoolOp .Or (a :: b :: rest) pos) (lE g W t (pB (pOr (pTs pa) (pTs pb)))) := by
  refine PE.imp (pe_or ha hb) fun σ H Q h => ?_
  obtain ⟨ρ, sS, h⟩ := h
  have h := post_bind.mp (post_bind.mp (post_bind.mp h))
  refine ⟨ρ, sS, post_mono (fun a ha => ?_) (fun e x => x) h⟩
  intro v H1 A x1 b1 r1 n1 f1
  obtain ⟨c, ec, q⟩ := post_opt ha
  refine ⟨c, bR_of r1 ec, ?_⟩
  cases c with
  | true => exact q (.bl true) H1 [] x1 b1 ⟨rfl, .bl _⟩ List.nodup_nil fun x m => nomatch m
  | false =>
    refine ⟨ρ, sS.mono x1 b1, post_mono (fun b hb => ?_) (fun e x => x.back x1) (post_bind.mp q)⟩
    intro w H2 B x2 b2 r2 n2 f2
    obtain ⟨d, ed, q⟩ := post_opt hb
    rw [bR_of r2 ed]
    exact q (.bl d) H2 [] (x1.trans x2) b2 ⟨rfl, .bl _⟩ List.nodup_nil fun x m => nomatch m
theorem ue_not (ha : PE X a (lE g W t pa)) : PE X (.UnaryOp .Not a pos) (lE g W t (pB (pNot (pTs pa)))) := by
  refine PE.imp (pe_not ha) fun σ H Q h => ?_
  obtain ⟨ρ, sS, h⟩ := h
  have h := post_bind.mp (post_bind.mp (post_bind.mp h))
  refine ⟨ρ, sS, post_mono (fun a ha => ?_) (fun e x => x) h⟩
  intro v H1 A x1 b1 r1 n1 f1
  obtain ⟨c, ec, q⟩ := post_opt ha
  exact ⟨c, bR_of r1 ec, q (.bl _) H1 [] x1 b1 ⟨rfl, .bl _⟩ List.nodup_nil fun x m => nomatch m⟩
theorem ue_if (hc : PT X c (lT g W t ta)) (ha : PE X a (lE g W t pa)) (hb : PE X b (lE g W t pb)) : PE X (.IfExp c a b pos) (lE g W t (pIf ta pa pb)) := by
  refine PE.imp (pe_ifExp hc ha hb) fun σ H Q h => ?_
  obtain ⟨ρ, sS, h⟩ := h
  refine ⟨ρ, sS, post_mono (fun a ha => ?_) (fun e x => x) (post_bind.mp h)⟩
  intro H1 x1 b1
  cases a with
  | true => exact ⟨ρ, sS.mono x1 b1, post_mono (fun r hr v H2 A x2 b2 r2 n2 f2 => hr v H2 A (x1.trans x2) b2 r2 n2 fun y m => x1.back b1 (f2 y m)) (fun e x => x.back x1) ha⟩
  | false => exact ⟨ρ, sS.mono x1 b1, post_mono (fun r hr v H2 A x2 b2 r2 n2 f2 => hr v H2 A (x1.trans x2) b2 r2 n2 fun y m => x1.back b1 (f2 y m)) (fun e x => x.back x1) ha⟩
variable {es : List Expr} {pas : PAs}
theorem ua_nil : PA X [] (lA g W t pNil) := by
  refine PA.imp pa_nil fun σ H Q h => ?_
  obtain ⟨ρ, sS, h⟩ := h
  exact h [] H [] (Ext.refl H) sS.bx .nil List.nodup_nil fun x m => nomatch m
theorem lcons {σ : L2.St} {H : Hp} {Q : List V → Hp → Prop} (h : lA g W t (pCons pa pas) σ H Q) : tCons (lE g W t pa) (lA g W t pas) σ H Q := by
  obtain ⟨ρ, sS, h⟩ := h
  refine ⟨ρ, sS, post_mono (fun a ha => ?_) (fun e x => x) (post_bind.mp h)⟩
  intro v H1 A x1 b1 r1 n1 f1
  refine ⟨ρ, sS.mono x1 b1, post_mono (fun b hb => ?_) (fun e x => x.back x1) (post_bind.mp ha)⟩
  intro vs H2 B x2 b2 r2 n2 f2
  obtain ⟨h3, h4⟩ := fresh2 x1 b1 n1 f1 r1.there n2 f2
  exact hb (v :: vs) H2 (A ++ B) (x1.trans x2) b2 (.cons (r1.mono x2) r2) h3 h4
theorem ua_cons (ha : PE X a (lE g W t pa)) (hb : PA X es (lA g W t pas)) (hs : starEach (a :: es) X.env = (false, eval a X.env) :: starEach es X.env := by rfl) : PA X (a :: es) (lA g W t (pCons pa pas)) := PA.imp (pa_cons ha hb hs) fun _ _ _ h => lcons h
theorem ue_tup {k : Nat} {x1 : _} (ha : PA X es (lA g W t pas)) : PE X (.Tuple es x1 pos) (lE g W t (pTup pas)) := by
  refine PE.imp (pe_tupP ha) fun σ H Q h => ?_
  obtain ⟨ρ, sS, h⟩ := h
  refine ⟨ρ, sS, post_mono (fun rs hr => ?_) (fun e x => x) (post_bind.mp h)⟩
  intro vs H1 A x1 b1 r1 n1 f1
  obtain ⟨c, ec, q⟩ := post_opt hr
  by_cases hl : rs.length ≤ 1000
  · rw [if_pos hl] at ec
    obtain ⟨us, eu, rfl⟩ := map_some ec
    obtain ⟨rfl, ru⟩ := ims_of r1 eu
    refine ⟨by rw [r1.len]; exact Nat.le_trans hl (by decide), fun p H2 nt => ?_⟩
    exact q _ _ [] (x1.trans (.of nt.same)) (b1.same nt.same) ⟨rfl, .tup nt.pt (ru.mono (kp_same nt.same))⟩ List.nodup_nil fun x m => nomatch m
  · rw [if_neg hl] at ec; cases ec
theorem ue_lst (ha : PA X es (lA g W t pas)) : PE X (.List es pos) (lE g W t (pLst pas)) := by
  refine PE.imp (pe_lst ha) fun σ H Q h => ?_
  obtain ⟨ρ, sS, h⟩ := h
  refine ⟨ρ, sS, post_mono (fun rs hr => ?_) (fun e x => x) (post_bind.mp h)⟩
  intro vs H1 A x1 b1 r1 n1 f1
  obtain ⟨c, ec, q⟩ := post_opt hr
  by_cases hl : rs.length ≤ 1000
  · rw [if_pos hl] at ec
    obtain ⟨os, eu, rfl⟩ := map_some ec
    obtain ⟨ro, nb⟩ := owns_of r1 eu
    refine ⟨by rw [r1.len]; exact Nat.le_trans hl (by decide), fun p np => ?_⟩
    have sm := same_new (o := .lst vs) np
    refine q _ _ (p :: A) (x1.trans (.of sm)) (b1.same sm) ⟨.ol upd_same (ROs.mono (kp_same sm) ro fun x m => ?_), fun x m => ?_⟩ ?_ fun x m => ?_
    · obtain ⟨u, hu⟩ := ro.there x m
      rw [hu]
      exact sm x u hu
    · rcases List.mem_cons.mp m with z | z
      · rw [z]; exact b1.nb np
      · exact nb x z
    · refine List.nodup_cons.mpr ⟨fun m => ?_, n1⟩
      obtain ⟨u, hu⟩ := ro.there p m
      rw [np] at hu
      cases hu
    · rcases List.mem_cons.mp m with z | z
      · rw [z]; exact x1.back b1 np
      · exact f1 x z
  · rw [if_neg hl] at ec; cases ec
/-- a function over arguments: a built-in -/
def SndL (g : G) (r : List V → Hp → VK → Prop) (f : List R → Option R) : Prop := ∀ (H : Hp) (vs : List V) (as : List R) (b : R) (A : List Addr) (Q : VK), BoxR g H → RVs g H vs as A → f as = some b →
  (∀ z H' C, Same H H' → RV g H' z b C → C.Nodup → (∀ x ∈ C, H x = none) → Q z H') → r vs H Q
theorem lfn {r : List V → Hp → VK → Prop} {f : List R → Option R} (s : SndL g r f) {σ : L2.St} {H : Hp} {Q : VK} (h : lE g W t (pFn f pas) σ H Q) : tCB r (lA g W t pas) σ H Q := by
  obtain ⟨ρ, sS, h⟩ := h
  refine ⟨ρ, sS, post_mono (fun rs hr => ?_) (fun e x => x) (post_bind.mp h)⟩
  intro vs H1 A x1 b1 r1 n1 f1
  obtain ⟨c, ec, q⟩ := post_opt hr
  exact s H1 vs rs c A Q b1 r1 ec fun z H3 C s3 r3 n3 f3 => q z H3 C (x1.trans (.of s3)) (b1.same s3) r3 n3 fun y m => x1.back b1 (f3 y m)
theorem ue_fn {e : Expr} {r : List V → Hp → VK → Prop} {f : List R → Option R} (s : SndL g r f) (h : PE X e (tCB r (lA g W t pas))) : PE X e (lE g W t (pFn f pas)) := PE.imp h fun _ _ _ h => lfn s h
end
end Rl
/-! Rl: built-ins, places, calls. -/
namespace Rl
open PySem PySem.Spec PyProof.Rows L2 Wn
/-! ### built-ins -/
def fLen : List R → Option R
  | [a] => match sR a with
    | some x => if x.length ≤ 100000 then some (.im (.int x.length)) else none
    | none => (seqR a).map fun us => .im (.int us.length)
  | _ => none
theorem vals_one {g : G} {H : Hp} {vs : List V} {a : R} {A : List Addr} (h : RVs g H vs [a] A) : ∃ v, vs = [v] ∧ RV g H v a A := by
  cases h with
  | cons h k => cases k; exact ⟨_, rfl, by rw [List.append_nil]; exact h⟩
theorem vals_two {g : G} {H : Hp} {vs : List V} {a b : R} {A : List Addr} (h : RVs g H vs [a, b] A) : ∃ v w B C, vs = [v, w] ∧ RV g H v a B ∧ RV g H w b C ∧ A = B ++ C := by
  cases h with
  | cons h k =>
    obtain ⟨w, rfl, hw⟩ := vals_one k
    exact ⟨_, _, _, _, rfl, h, hw, rfl⟩
theorem snd_len {g : G} : SndL g (fun xs H Q => (∃ z, xs = [.str z] ∧ z.length ≤ sizeLine ∧ Q (.int z.length) H) ∨ ∃ p ys, xs = [.ref p] ∧ (SqL g.K H p ys ∨ SqT g.K H p ys) ∧ Q (.int ys.length) H) fLen := by
  intro H vs as b A Q bx r e q
  have seq : ∀ a v (us : List U), RV g H v a A → seqR a = some us → b = .im (.int us.length) → vs = [v] → ∃ p ys, vs = [.ref p] ∧ (SqL g.K H p ys ∨ SqT g.K H p ys) ∧ Q (.int ys.length) H := fun a v us rv e1 eb ev => by
    obtain ⟨p, ys, rfl, h2, h3, _⟩ := seqR_of rv e1
    refine ⟨p, ys, ev, h2, ?_⟩
    rw [h3.len]
    subst eb
    exact imQ q (.int _)
  cases as with
  | nil => cases e
  | cons a r' =>
    cases r' with
    | cons => cases e
    | nil =>
      obtain ⟨v, rfl, rv⟩ := vals_one r
      unfold fLen at e
      cases e1 : sR a with
      | some x =>
        simp only [e1] at e
        by_cases hl : x.length ≤ 100000
        · rw [if_pos hl] at e
          cases e
          exact .inl ⟨x, by rw [sR_of rv e1], sz5 hl, imQ q (.int _)⟩
        · rw [if_neg hl] at e; cases e
      | none =>
        simp only [e1] at e
        obtain ⟨us, e1, eb⟩ := map_some e
        exact .inr (seq _ v us rv e1 eb rfl)
theorem cl_len {X : Cx} {K : PySem.W.Frag} (e : X.K = K) : CallR X (.builtin "len") (fun xs H Q => (∃ z, xs = [.str z] ∧ z.length ≤ sizeLine ∧ Q (.int z.length) H) ∨ ∃ p ys, xs = [.ref p] ∧ (SqL K H p ys ∨ SqT K H p ys) ∧ Q (.int ys.length) H) := by
  subst e
  exact call_len_str.or call_len_seq
def fTup : List R → Option R
  | [a] => (seqR a).map fun us => .im (.tup us)
  | _ => none
theorem seqR_pt {g : G} {H : Hp} {v : V} {r : R} {A : List Addr} {us : List U} (h : RV g H v r A) (e : seqR r = some us) : ∃ a vs, v = .ref a ∧ (SqL g.K H a vs ∨ PT g.K H a vs) ∧ RUs g H vs us := by
  unfold seqR at e
  cases e1 : lstR r with
  | some ws =>
    rw [e1, Option.some_or] at e
    cases e
    obtain ⟨a, vs, h1, h2, h3⟩ := h.lst e1
    exact ⟨a, vs, h1, .inl h2, h3⟩
  | none =>
    rw [e1, Option.none_or] at e
    obtain ⟨a, vs, h1, h2, h3⟩ := h.ptp e
    exact ⟨a, vs, h1, .inr h2, h3⟩
theorem snd_tup {g : G} : SndL g (rTupP g.K) fTup := by
  intro H vs as b A Q bx r e q
  cases as with
  | nil => cases e
  | cons a r' =>
    cases r' with
    | cons => cases e
    | nil =>
      obtain ⟨v, rfl, rv⟩ := vals_one r
      obtain ⟨us, e1, rfl⟩ := map_some (show (seqR a).map _ = some b from e)
      obtain ⟨p, ys, rfl, h2, h3⟩ := seqR_pt rv e1
      refine ⟨p, ys, rfl, ?_⟩
      rcases h2 with h2 | h2
      · exact .inl ⟨h2, fun l H2 nt => imQ' q nt.same (.tup nt.pt (h3.mono (kp_same nt.same)))⟩
      · exact .inr ⟨h2.sq, imQ q (.tup h2 h3)⟩
theorem cl_tup {X : Cx} {K : PySem.W.Frag} (e : X.K = K) : CallR X (.type "tuple") (rTupP K) := cl_tupP e
def fLst : List R → Option R
  | [a] => (seqR a).map fun us => .fr (.ol (us.map .lf))
  | _ => none
theorem snd_lst {g : G} : SndL g (rListT g.K) fLst := by
  intro H vs as b A Q bx r e q
  cases as with
  | nil => cases e
  | cons a r' =>
    cases r' with
    | cons => cases e
    | nil =>
      obtain ⟨v, rfl, rv⟩ := vals_one r
      obtain ⟨us, e1, rfl⟩ := map_some (show (seqR a).map _ = some b from e)
      obtain ⟨p, ys, rfl, h2, h3, _⟩ := seqR_of rv e1
      exact ⟨p, ys, rfl, h2, fun l nl => frQ bx q nl h3⟩
def bools : List U → Option (List Bool)
  | [] => some []
  | .bl b :: us => (bools us).map fun bs => b :: bs
  | _ :: _ => none
theorem bools_of {g : G} {H : Hp} : ∀ {vs : List V} {us : List U} {bs : List Bool}, RUs g H vs us → bools us = some bs → vs = bs.map V.bl
  | _, _, _, .nil, e => by cases e; rfl
  | _, _, _, .cons (u := .bl b) (us := us) h k, e => by
    obtain ⟨bs, e1, rfl⟩ := map_some (show (bools us).map _ = _ from e)
    cases h
    rw [bools_of k e1]
    rfl
def fAll : List R → Option R
  | [a] => (lstR a).bind fun us => (bools us).map fun bs => .im (.bl (bs.all id))
  | _ => none
def fAny : List R → Option R
  | [a] => (lstR a).bind fun us => (bools us).map fun bs => .im (.bl (bs.any id))
  | _ => none
theorem snd_all {g : G} : SndL g (rAll g.K) fAll := by
  intro H vs as b A Q bx r e q
  cases as with
  | nil => cases e
  | cons a r' =>
    cases r' with
    | cons => cases e
    | nil =>
      obtain ⟨v, rfl, rv⟩ := vals_one r
      change (lstR a).bind _ = some b at e
      cases e1 : lstR a with
      | none => rw [e1] at e; cases e
      | some us =>
        rw [e1] at e
        obtain ⟨bs, e2, rfl⟩ := map_some (show (bools us).map _ = some b from e)
        obtain ⟨p, ys, rfl, h2, h3⟩ := rv.lst e1
        refine ⟨p, bs, rfl, ?_, imQ q (.bl _)⟩
        rw [← bools_of h3 e2]
        exact h2
theorem snd_any {g : G} : SndL g (rAny g.K) fAny := by
  intro H vs as b A Q bx r e q
  cases as with
  | nil => cases e
  | cons a r' =>
    cases r' with
    | cons => cases e
    | nil =>
      obtain ⟨v, rfl, rv⟩ := vals_one r
      change (lstR a).bind _ = some b at e
      cases e1 : lstR a with
      | none => rw [e1] at e; cases e
      | some us =>
        rw [e1] at e
        obtain ⟨bs, e2, rfl⟩ := map_some (show (bools us).map _ = some b from e)
        obtain ⟨p, ys, rfl, h2, h3⟩ := rv.lst e1
        refine ⟨p, bs, rfl, ?_, imQ q (.bl _)⟩
        rw [← bools_of h3 e2]
        exact h2
theorem cl_any {X : Cx} {K : PySem.W.Frag} (e : X.K = K) (hc : X.calm = true) : CallR X (.builtin "any") (rAny K) := by subst e; exact cr_any hc
def fInt : List R → Option R
  | [.im (.int i)] => some (.im (.int i))
  | [.im (.bl k)] => some (.im (.int (if k then 1 else 0)))
  | _ => none
theorem snd_int {g : G} : SndL g (fun xs H Q => (∃ i, xs = [.int i] ∧ Q (.int i) H) ∨ ∃ k, xs = [.bl k] ∧ Q (.int (if k then 1 else 0)) H) fInt := by
  intro H vs as b A Q bx r e q
  cases as with
  | nil => cases e
  | cons a r' =>
    cases r' with
    | cons => cases a with
      | im u => cases u <;> cases e
      | _ => cases e
    | nil =>
      obtain ⟨v, rfl, rv⟩ := vals_one r
      cases a with
      | im u =>
        cases u with
        | int i => cases e; obtain ⟨_, rv⟩ := rv; cases rv; exact .inl ⟨i, rfl, imQ q (.int _)⟩
        | bl k => cases e; obtain ⟨_, rv⟩ := rv; cases rv; exact .inr ⟨k, rfl, imQ q (.int _)⟩
        | _ => cases e
      | _ => cases e
/-! #### isinstance with a built-in type -/
def tyR : R → Option String
  | .im .non => some "NoneType"
  | .im (.bl _) => some "bool"
  | .im (.int _) => some "int"
  | .im (.str _) => some "str"
  | .im (.tup _) => some "tuple"
  | .im (.lst _) => some "list"
  | .im .emp => some "dict"
  | .br _ => some "list"
  | .fr (.ol _) => some "list"
  | _ => none
def tys : List String := ["NoneType", "bool", "int", "str", "tuple", "list", "dict"]
def isT (t n : String) : Bool := t == n || (t == "bool" && n == "int")
theorem kit_all : ∀ t ∈ tys, ∀ n ∈ tys.tail, kitB t n = some (isT t n) := by decide +kernel
def fIsi : List R → Option R
  | [a, .im (.ty n)] => (tyR a).bind fun t => if t ∈ tys ∧ n ∈ tys.tail then some (.im (.bl (isT t n))) else none
  | _ => none
theorem tyX_of {g : G} {H : Hp} {v : V} {a : R} {A : List Addr} {t : String} (h : RV g H v a A) (e : tyR a = some t) : TyX g.K H v (.type t) := by
  have lst : ∀ (p : Addr) (vs : List V), SqL g.K H p vs → TyX g.K H (.ref p) (.type "list") := fun p vs h => by
    rcases h with (h | ⟨o, h⟩) | ⟨o, its, n, l, c, _⟩
    · exact .base (.lst h)
    · exact .base (.frz h)
    · exact .kList l c
  cases a with
  | im u =>
    obtain ⟨_, h⟩ := h
    cases h with
    | non => cases e; exact .base .non
    | bl b => cases e; exact .base (.bl b)
    | int i => cases e; exact .base (.int i)
    | str x => cases e; exact .base (.str x)
    | tup h1 h2 =>
      cases e
      rcases h1 with ⟨o, h, _⟩ | ⟨o, its, n, l, c, _⟩
      · exact .fTuple h
      · exact .kTuple l c
    | lst h1 h2 => cases e; exact lst _ _ h1.sq
    | emp h1 => cases e; exact .fDict h1
    | _ => cases e
  | br xs => cases e; obtain ⟨_, p, vs, rfl, h2, _⟩ := h; exact lst p vs h2
  | fr o =>
    cases o with
    | ol os =>
      cases e
      obtain ⟨h, _⟩ := h
      cases h with
      | ol h1 h2 => exact .base (.lst h1)
    | _ => cases e
theorem snd_isi {g : G} : SndL g (rIsi g.K) fIsi := by
  intro H vs as b A Q bx r e q
  match as, e, r with
  | [a, .im (.ty n)], e, r =>
    obtain ⟨v, w, B, C, rfl, h1, h2, _⟩ := vals_two r
    obtain ⟨_, h2⟩ := h2
    cases h2
    change (tyR a).bind _ = some b at e
    cases e1 : tyR a with
    | none => rw [e1] at e; cases e
    | some ty =>
      rw [e1] at e
      change (if _ then _ else _) = _ at e
      by_cases hm : ty ∈ tys ∧ n ∈ tys.tail
      · rw [if_pos hm] at e
        cases e
        exact ⟨v, .ty n, _, _, isT ty n, rfl, .ty _, tyX_of h1 e1, kit_ty (kit_all ty hm.1 n hm.2), imQ q (.bl _)⟩
      · rw [if_neg hm] at e; cases e
/-! ### an item -/
def pIx (a b : R) : Option R :=
  match a with
  | .im (.str x) => (iR b).bind fun i => if x.length ≤ 100000 then (atI x.cps.toList i).map fun c => .im (.str ⟨#[c]⟩) else none
  | a => (seqR a).bind fun us => (iR b).bind fun i => (atI us i).map .im
theorem atI_RUs {g : G} {H : Hp} {vs : List V} {us : List U} {i : Int} {u : U} (h : RUs g H vs us) (e : atI us i = some u) : ∃ v, atI vs i = some v ∧ RU g H v u := by
  unfold atI at e ⊢
  rw [h.len]
  cases q : ixN us.length i with
  | none => rw [q] at e; cases e
  | some j => rw [q] at e; exact h.at e
theorem ix_U {X : Cx} {K : PySem.W.Frag} (e : X.K = K) : IxR X (fun x y H Q => rIxA K x y H Q ∨ rIxS x y H Q) := by
  subst e
  exact ix_a.or ix_str
theorem snd_ix {g : G} : Snd2 g (fun x y H Q => rIxA g.K x y H Q ∨ rIxS x y H Q) pIx := by
  intro H v w a b c A B Q bx ra rb e q
  have seq : (seqR a).bind (fun us => (iR b).bind fun i => (atI us i).map .im) = some c → rIxA g.K v w H Q ∨ rIxS v w H Q := fun e => by
    cases e1 : seqR a with
    | none => rw [e1] at e; cases e
    | some us =>
      cases e2 : iR b with
      | none => rw [e1, e2] at e; cases e
      | some i =>
        rw [e1, e2] at e
        obtain ⟨u, e3, rfl⟩ := map_some (show (atI us i).map _ = some c from e)
        obtain ⟨p, vs, rfl, h2, h3, _⟩ := seqR_of ra e1
        obtain ⟨z, e4, rz⟩ := atI_RUs h3 e3
        exact .inl ⟨p, vs, i, z, rfl, iR_of rb e2, h2, e4, imQ q rz⟩
  cases a with
  | im u =>
    cases u with
    | str x =>
      change (iR b).bind _ = some c at e
      cases e2 : iR b with
      | none => rw [e2] at e; cases e
      | some i =>
        rw [e2] at e
        change (if _ then _ else _) = _ at e
        by_cases hl : x.length ≤ 100000
        · rw [if_pos hl] at e
          obtain ⟨k, e3, rfl⟩ := map_some e
          obtain ⟨_, ra⟩ := ra
          cases ra
          exact .inr ⟨x, i, k, rfl, iR_of rb e2, sz5 hl, e3, imQ q (.str _)⟩
        · rw [if_neg hl] at e; cases e
    | _ => exact seq e
  | _ => exact seq e
section
variable {g : G} {W : WX} {t : Fr} {X : Cx} {pos : Pos} {a b c : Expr} {pa pb pc : PEx} {pas : PAs}
theorem ue_ix (eK : X.K = g.K) (ha : PE X a (lE g W t pa)) (hb : PE X b (lE g W t pb)) (hs : PlainIx b) : PE X (.Subscript a b pos) (lE g W t (pOp pIx pa pb)) :=
  PE.imp (pe_ix (ix_U eK) ha hb hs) fun _ _ _ h => lop snd_ix h
/-! ### a slice -/
def cutG {α : Type} (xs : List α) (lo hi : Option Int) : List α := (xs.drop (HT.sIx xs.length 0 lo)).take (HT.sIx xs.length xs.length hi - HT.sIx xs.length 0 lo)
theorem cut_RUs {H : Hp} {vs : List V} {us : List U} {lo hi : Option Int} (h : RUs g H vs us) : RUs g H (cutV vs lo hi) (cutG us lo hi) := by
  unfold cutV cutG
  rw [h.len]
  exact (h.drop _).take _
def pCut (lo hi : Option Int) (a : R) : Option R :=
  match a with
  | .im (.str x) => if x.length ≤ 100000 then some (.im (.str (cutS x lo hi))) else none
  | .im (.tup us) => some (.im (.tup (cutG us lo hi)))
  | a => (lstR a).map fun us => .fr (.ol ((cutG us lo hi).map .lf))
def pSlO : Option PEx → Env → Res (Option Int)
  | none, _ => .ok none
  | some p, ρ => (p ρ).bind fun a => .opt ((iR a).map some)
def pSl (pa : PEx) (lo hi : Option PEx) : PEx := fun ρ => (pa ρ).bind fun a => (pSlO lo ρ).bind fun l => (pSlO hi ρ).bind fun h => .opt (pCut l h a)
def lO (g : G) (W : WX) (t : Fr) (p : Env → Res (Option Int)) : TO := fun σ H Q => ∃ ρ, S g t ρ σ H ∧ (p ρ).post (fun o => ∀ H', Ext g H H' → BoxR g H' → Q o H') (Wx g W σ H)
theorem uo_none (h : PO X none tNoPart) : PO X none (lO g W t (pSlO none)) := ⟨fun pins s σ H Q I q => h.run pins s σ H Q I (by
  obtain ⟨ρ, sS, q⟩ := q
  exact q H (Ext.refl H) sS.bx)⟩
theorem uo_some (h : PO X (some a) (tPart (lE g W t pa))) : PO X (some a) (lO g W t (pSlO (some pa))) := ⟨fun pins s σ H Q I q => h.run pins s σ H Q I (by
  obtain ⟨ρ, sS, q⟩ := q
  refine ⟨ρ, sS, post_mono (fun r hr v H1 A x1 b1 r1 n1 f1 => ?_) (fun e x => x) (post_bind.mp q)⟩
  obtain ⟨o, e, q⟩ := post_opt hr
  obtain ⟨i, e2, rfl⟩ := map_some e
  exact ⟨i, iR_of r1 e2, q H1 x1 b1⟩)⟩
def rSlU (K : PySem.W.Frag) : V → Option Int → Option Int → Hp → VK → Prop := fun x lo hi H Q => rSlP K x lo hi H Q ∨ rSlL K x lo hi H Q ∨ rSlS x lo hi H Q
theorem sl_U {K : PySem.W.Frag} (e : X.K = K) : SlR X (rSlU K) := by subst e; exact (sl_tupP rfl).or (sl_list.or sl_str)
theorem slQ {H : Hp} {v : V} {r : R} {A : List Addr} {lo hi : Option Int} {c : R} {Q : VK} (bx : BoxR g H) (ra : RV g H v r A) (e : pCut lo hi r = some c)
    (q : ∀ z H' C, Same H H' → RV g H' z c C → C.Nodup → (∀ x ∈ C, H x = none) → Q z H') : rSlU g.K v lo hi H Q := by
  have seq : (lstR r).map (fun us => R.fr (.ol ((cutG us lo hi).map .lf))) = some c → rSlU g.K v lo hi H Q := fun e => by
    obtain ⟨us, e1, rfl⟩ := map_some e
    obtain ⟨p, vs, rfl, h2, h3⟩ := ra.lst e1
    exact .inr (.inl ⟨p, vs, rfl, h2, fun l nl => frQ bx q nl (cut_RUs h3)⟩)
  cases r with
  | im u =>
    cases u with
    | str x =>
      change (if _ then _ else _) = _ at e
      by_cases hl : x.length ≤ 100000
      · rw [if_pos hl] at e
        cases e
        obtain ⟨_, ra⟩ := ra
        cases ra
        exact .inr (.inr ⟨x, rfl, sz5 hl, imQ q (.str _)⟩)
      · rw [if_neg hl] at e; cases e
    | tup us =>
      cases e
      obtain ⟨_, ra⟩ := ra
      cases ra with
      | tup h2 h3 =>
        refine .inl ⟨_, _, rfl, h2.sq, fun hw => ?_, fun p H2 nt => imQ' q nt.same (.tup nt.pt ((cut_RUs h3).mono (kp_same nt.same)))⟩
        refine imQ q (.tup h2 ?_)
        have := cut_RUs (lo := lo) (hi := hi) h3
        unfold cutV at this
        rw [hw.1, hw.2, List.drop_zero, Nat.sub_zero, List.take_length] at this
        exact this
    | _ => exact seq e
  | _ => exact seq e
theorem ue_sl {p2 : Pos} {lo hi : Option Expr} {pl ph : Option PEx} (eK : X.K = g.K) (ha : PE X a (lE g W t pa)) (hl : PO X lo (lO g W t (pSlO pl))) (hh : PO X hi (lO g W t (pSlO ph))) : PE X (.Subscript a (.Slice lo hi none p2) pos) (lE g W t (pSl pa pl ph)) := by
  refine PE.imp (pe_slice (sl_U eK) ha hl hh) fun σ H Q h => ?_
  obtain ⟨ρ, sS, h⟩ := h
  refine ⟨ρ, sS, post_mono (fun r hr v H1 A x1 b1 r1 n1 f1 => ?_) (fun e x => x) (post_bind.mp h)⟩
  refine ⟨ρ, sS.mono x1 b1, post_mono (fun l hl H2 x2 b2 => ?_) (fun e x => x.back x1) (post_bind.mp hr)⟩
  refine ⟨ρ, (sS.mono x1 b1).mono x2 b2, post_mono (fun u hu H3 x3 b3 => ?_) (fun e x => (x.back x1).back x2) (post_bind.mp hl)⟩
  obtain ⟨c, ec, q⟩ := post_opt hu
  exact slQ b3 ((r1.mono x2).mono x3) ec fun z H4 C s4 r4 n4 f4 => q z H4 C (((x1.trans x2).trans x3).trans (.of s4)) (b3.same s4) r4 n4 fun y m => ((x1.trans x2).trans x3).back b3 (f4 y m)
/-! ### an attribute of a value -/
structure GOk (g : G) : Prop where
  cls : ∀ c ∈ g.im, Cls g.K (g.ct c).C
  na : ∀ c ∈ g.im, ∀ f ∈ (g.ct c).ns, NoAttr g.K (g.ct c).C f
  nd : ∀ c ∈ g.im, (g.ct c).ns.Nodup
/-- tb: which item of which class it is -/
def pAt (tb : List (Nat × Nat)) (a : R) : Option R :=
  match a with
  | .im (.ins c us) => (tb.lookup c).bind fun k => (us[k]?).map .im
  | _ => none
theorem lookup_at {f : Str} : ∀ {fs : List (Str × V)} {k : Nat} {v : V}, (fs.map Prod.fst).Nodup → (fs.map Prod.fst)[k]? = some f → (fs.map Prod.snd)[k]? = some v → fs.lookup f = some v
  | [], _, _, _, h, _ => by simp at h
  | (n, x) :: fs, 0, v, nd, h1, h2 => by
    simp at h1 h2
    subst h1 h2
    simp [List.lookup]
  | (n, x) :: fs, k + 1, v, nd, h1, h2 => by
    rw [List.map_cons, List.nodup_cons] at nd
    have h3 : (fs.map Prod.fst)[k]? = some f := by simpa using h1
    have ne : (f == n) = false := beq_eq_false_iff_ne.mpr fun e => nd.1 (by rw [← e]; exact List.mem_of_getElem? h3)
    rw [List.lookup, ne]
    exact lookup_at nd.2 h3 (by simpa using h2)
theorem tb_mem {tb : List (Nat × Nat)} {c k : Nat} (h : tb.lookup c = some k) : (c, k) ∈ tb := by
  induction tb with
  | nil => cases h
  | cons p tb ih =>
    obtain ⟨c', k'⟩ := p
    rw [List.lookup] at h
    by_cases e : c = c'
    · subst e
      simp at h
      subst h
      exact .head _
    · rw [beq_eq_false_iff_ne.mpr e] at h
      exact .tail _ (ih h)
theorem ue_at {f : Str} {tb : List (Nat × Nat)} (ok : GOk g) (eK : X.K = g.K) (ht : ∀ p ∈ tb, (g.ct p.1).ns[p.2]? = some f) (ha : PE X a (lE g W t pa)) (hb : attributeBase a f X.env (eval a X.env) = eval a X.env := by rfl) : PE X (.Attribute a f pos) (lE g W t (pUn (pAt tb) pa)) := by
  refine PE.imp (pe_fldK eK ha hb) fun σ H Q h => ?_
  obtain ⟨ρ, sS, h⟩ := h
  refine ⟨ρ, sS, post_mono (fun r hr v H1 A x1 b1 r1 n1 f1 => ?_) (fun e x => x) (post_bind.mp h)⟩
  obtain ⟨c, ec, q⟩ := post_opt hr
  cases r with
  | im u =>
    cases u with
    | ins k us =>
      change (tb.lookup k).bind _ = some c at ec
      cases e1 : tb.lookup k with
      | none => rw [e1] at ec; cases ec
      | some j =>
        rw [e1] at ec
        obtain ⟨u, e2, rfl⟩ := map_some (show (us[j]?).map _ = some c from ec)
        obtain ⟨_, r1⟩ := r1
        cases r1 with
        | ins h1 hm hn h2 =>
          obtain ⟨w, e3, rw'⟩ := h2.at e2
          have e4 := ht _ (tb_mem e1)
          refine ⟨_, _, _, _, w, rfl, h1, ok.cls k hm, ok.na k hm f (List.mem_of_getElem? e4), lookup_at (by rw [hn]; exact ok.nd k hm) (by rw [hn]; exact e4) e3, ?_⟩
          exact q w H1 [] x1 b1 ⟨rfl, rw'⟩ List.nodup_nil fun x m => nomatch m
    | _ => cases ec
  | _ => cases ec
end
end Rl
/-! Rl: calls, statements, defs. -/
namespace Rl
open PySem PySem.Spec PyProof.Rows L2 Wn
/-- what a def promises: it does what fn does -/
def spF (g : G) (n : Nat) (fn : List U → Res R) : Sp := fun vs H Q E => ∃ us, RUs g H vs us ∧ us.length = n ∧ BoxR g H ∧ (fn us).post (fun r => ∀ v H' A, Ext g H H' → BoxR g H' → RV g H' v r A → A.Nodup → (∀ a ∈ A, H a = none) → Q v H') (fun e => ∀ dd H', Ext g H H' → BoxR g H' → Xd g H' dd e → E (.ref (g.xt e.c).C) dd H')
def pCall (n : Nat) (fn : List U → Res R) (pas : PAs) : PEx := fun ρ => (pas ρ).bind fun rs => (Res.opt (if rs.length = n then imRs rs else none)).bind fn
def insR (c : Nat) (r : R) : Option U :=
  match r with
  | .im (.ins k us) => if k = c then some (.ins k us) else none
  | _ => none
def pMeth (c n : Nat) (fn : List U → Res R) (po : PEx) (pas : PAs) : PEx := fun ρ => (po ρ).bind fun r => (Res.opt (insR c r)).bind fun u => (pas ρ).bind fun rs => (Res.opt (if rs.length + 1 = n then imRs rs else none)).bind fun us => fn (u :: us)
section
variable {g : G} {W : WX} {t : Fr} {X : Cx} {pos : Pos} {a b c : Expr} {pa pb pc : PEx} {pas : PAs} {σ : L2.St} {H : Hp}
theorem args_of {H : Hp} {vs : List V} {rs : List R} {A : List Addr} {n : Nat} {us : List U} (r : RVs g H vs rs A) (e : (if rs.length = n then imRs rs else none) = some us) : RUs g H vs us ∧ us.length = n := by
  by_cases hl : rs.length = n
  · rw [if_pos hl] at e
    have h := (ims_of r e).2
    exact ⟨h, by rw [← h.len, r.len, hl]⟩
  · rw [if_neg hl] at e; cases e
theorem lcall {n : Nat} {fn : List U → Res R} {Q : VK} (h : lE g W t (pCall n fn pas) σ H Q) : tCallS (spF g n fn) (WE W) (lA g W t pas) σ H Q := by
  obtain ⟨ρ, sS, h⟩ := h
  refine ⟨ρ, sS, post_mono (fun rs hr vs H1 A x1 b1 r1 n1 f1 => ?_) (fun e x => x) (post_bind.mp h)⟩
  obtain ⟨us, eu, hf⟩ := post_opt (post_bind.mp hr)
  obtain ⟨ru, hl⟩ := args_of r1 eu
  exact ⟨us, ru, hl, b1, post_mono (fun r hr v H2 B x2 b2 r2 n2 f2 => hr v H2 B (x1.trans x2) b2 r2 n2 fun y m => x1.back b1 (f2 y m)) (fun e x dd H2 x2 b2 d => x dd H2 (x1.trans x2) b2 d) hf⟩
theorem ue_call {e : Expr} {n : Nat} {fn : List U → Res R} (h : PE X e (tCallS (spF g n fn) (WE W) (lA g W t pas))) : PE X e (lE g W t (pCall n fn pas)) := PE.imp h fun _ _ _ h => lcall h
/-- what a raised error has to meet, whatever the slots -/
def EW (W : WX) : XK := fun cls d H => ∀ σ, W cls d σ H
theorem lookup_no {f : Str} : ∀ {fs : List (Str × V)}, f ∉ fs.map Prod.fst → fs.lookup f = none
  | [], _ => rfl
  | (n, x) :: fs, h => by
    rw [List.map_cons, List.mem_cons, not_or] at h
    rw [List.lookup, beq_eq_false_iff_ne.mpr h.1]
    exact lookup_no h.2
theorem ins_of {H : Hp} {v : V} {r : R} {A : List Addr} {c : Nat} {u : U} (h : RV g H v r A) (e : insR c r = some u) : ∃ a dx fs us, v = .ref a ∧ u = .ins c us ∧ H a = some (.ins (g.ct c).C dx fs) ∧ fs.map Prod.fst = (g.ct c).ns ∧ RU g H v u := by
  cases r with
  | im w =>
    cases w with
    | ins k us =>
      change (if k = c then _ else none) = some u at e
      by_cases hk : k = c
      · rw [if_pos hk] at e
        cases e
        obtain ⟨_, h⟩ := h
        have h0 := h
        cases h with
        | ins h1 hm hn h2 => subst hk; exact ⟨_, _, _, us, rfl, rfl, h1, hn, h0⟩
      · rw [if_neg hk] at e; cases e
    | _ => cases e
  | _ => cases e
theorem lmeth {k n : Nat} {fn : List U → Res R} {m : Str} {Q : VK} {tA : TA} (hA : ∀ σ H Q, lA g W t pas σ H Q → tA σ H Q) (hW : ∀ c d σ σ' H, W c d σ H → W c d σ' H) (hm : m ∉ (g.ct k).ns) (h : lE g W t (pMeth k n fn pa pas) σ H Q) : tMeth (g.ct k).C m (spF g n fn) [] (EW W) (lE g W t pa) tA σ H Q := by
  obtain ⟨ρ, sS, h⟩ := h
  refine ⟨ρ, sS, post_mono (fun r hr v H1 A x1 b1 r1 n1 f1 => ?_) (fun e x => x) (post_bind.mp h)⟩
  obtain ⟨u, eu, hr⟩ := post_opt (post_bind.mp hr)
  obtain ⟨p, dx, fs, ws, rfl, rfl, h1, hn, ru⟩ := ins_of r1 eu
  refine ⟨p, dx, fs, rfl, h1, lookup_no (by rw [hn]; exact hm), hA _ _ _ ⟨ρ, sS.mono x1 b1, post_mono (fun rs hr vs H2 B x2 b2 r2 n2 f2 => ?_) (fun e x => x.back x1) (post_bind.mp hr)⟩⟩
  obtain ⟨us, eu, hf⟩ := post_opt (post_bind.mp hr)
  by_cases hl : rs.length + 1 = n
  · rw [if_pos hl] at eu
    have ru2 := (ims_of r2 eu).2
    refine ⟨.ins k ws :: us, .cons (ru.mono x2.kp) (by rw [List.append_nil]; exact ru2), by rw [List.length_cons, ← ru2.len, r2.len]; exact hl, b2, post_mono (fun r hr v H3 C x3 b3 r3 n3 f3 => hr v H3 C ((x1.trans x2).trans x3) b3 r3 n3 fun y m => (x1.trans x2).back b2 (f3 y m)) (fun e x dd H3 x3 b3 d σ' => hW _ _ _ _ _ (x dd H3 ((x1.trans x2).trans x3) b3 d)) hf⟩
  · rw [if_neg hl] at eu; cases eu
theorem ue_meth {e : Expr} {k n : Nat} {fn : List U → Res R} {m : Str} (hW : ∀ c d σ σ' H, W c d σ H → W c d σ' H) (hm : m ∉ (g.ct k).ns) (h : PE X e (tMeth (g.ct k).C m (spF g n fn) [] (EW W) (lE g W t pa) (lA g W t pas))) : PE X e (lE g W t (pMeth k n fn pa pas)) := PE.imp h fun _ _ _ h => lmeth (fun _ _ _ h => h) hW hm h
theorem ue_meth0 {e : Expr} {k n : Nat} {fn : List U → Res R} {m : Str} (hW : ∀ c d σ σ' H, W c d σ H → W c d σ' H) (hm : m ∉ (g.ct k).ns) (h : PE X e (tMeth (g.ct k).C m (spF g n fn) [] (EW W) (lE g W t pa) tNil)) : PE X e (lE g W t (pMeth k n fn pa pNil)) := PE.imp h fun _ _ _ h => lmeth (tA := tNil) (fun σ H Q ⟨ρ, s, q⟩ => q [] H [] (Ext.refl H) s.bx .nil List.nodup_nil fun x m => nomatch m) hW hm h
/-! ### statements -/
inductive Out where
  | nx (ρ : Env) | rt (r : R) (ρ : Env) | bk (ρ : Env) | ct (ρ : Env)
abbrev PSt := Env → Res Out
/-- what is wanted behind a statement -/
def oS (g : G) (t : Fr) (D : Ends) (H : Hp) : Out → Prop
  | .nx ρ => ∀ σ' H', Kp g H H' → S g t ρ σ' H' → D.nx σ' H'
  | .rt r ρ => ∀ v σ' H' A, Kp g H H' → S g t ρ σ' H' → RV g H' v r A → A.Nodup → (∀ a ∈ A, t.H0 a = none) → D.rt v H'
  | .bk ρ => ∀ σ' H', Kp g H H' → S g t ρ σ' H' → D.bk σ' H'
  | .ct ρ => ∀ σ' H', Kp g H H' → S g t ρ σ' H' → D.ct σ' H'
def xS (g : G) (W : WX) (t : Fr) (H : Hp) (e : Er) : Prop := ∀ dd ρ σ' H', Kp g H H' → S g t ρ σ' H' → Xd g H' dd e → W (.ref (g.xt e.c).C) dd σ' H'
def lS (g : G) (W : WX) (t : Fr) (p : PSt) : TS := fun D σ H => ∃ ρ, S g t ρ σ H ∧ (p ρ).post (oS g t D H) (xS g W t H)
theorem oS.back {D : Ends} {H H1 : Hp} (k : Kp g H H1) : ∀ {o : Out}, oS g t D H o → oS g t D H1 o
  | .nx _, h => fun σ' H' k' s => h σ' H' (k.trans k') s
  | .rt _ _, h => fun v σ' H' A k' s => h v σ' H' A (k.trans k') s
  | .bk _, h => fun σ' H' k' s => h σ' H' (k.trans k') s
  | .ct _, h => fun σ' H' k' s => h σ' H' (k.trans k') s
theorem xS.back {H H1 : Hp} {e : Er} (k : Kp g H H1) (h : xS g W t H e) : xS g W t H1 e := fun dd ρ σ' H' k' s d => h dd ρ σ' H' (k.trans k') s d
/-- an expression's error is the statement's -/
theorem xS.wx {ρ : Env} {e : Er} (s : S g t ρ σ H) (h : xS g W t H e) : Wx g W σ H e := fun dd H' x b d => h dd ρ σ H' x.kp (s.mono x b) d
def pSeq (p q : PSt) : PSt := fun ρ => (p ρ).bind fun o => match o with
  | .nx ρ' => q ρ'
  | o => .ok o
def pSkip : PSt := fun ρ => .ok (.nx ρ)
theorem lseq {p q : PSt} {D : Ends} (h : lS g W t (pSeq p q) D σ H) : tSeq (lS g W t p) (lS g W t q) D σ H := by
  obtain ⟨ρ, sS, h⟩ := h
  refine ⟨ρ, sS, post_mono (fun o ho => ?_) (fun e x => x) (post_bind.mp h)⟩
  cases o with
  | nx ρ' => exact fun σ' H' k s => ⟨ρ', s, post_mono (fun o h => oS.back k h) (fun e h => h.back k) ho⟩
  | rt r ρ' => exact ho
  | bk ρ' => exact ho
  | ct ρ' => exact ho
theorem us_cons {st : Stmt} {sts : List Stmt} {p q : PSt} (h : PS X st (lS g W t p)) (k : PSs X sts (lS g W t q)) : PSs X (st :: sts) (lS g W t (pSeq p q)) :=
  PSs.imp (pss_cons h k) fun _ _ _ h => lseq h
theorem us_one {st : Stmt} {p : PSt} (h : PS X st (lS g W t p)) : PSs X [st] (lS g W t p) := pss_one h
theorem us_nil : PSs X [] (lS g W t pSkip) := by
  refine PSs.imp pss_nil fun D σ H h => ?_
  obtain ⟨ρ, sS, h⟩ := h
  exact h σ H (Kp.refl H) sS
def pIfS (c : PTs') (p q : PSt) : PSt := fun ρ => (c ρ).bind fun b => if b = true then p ρ else q ρ
theorem us_if {c : Expr} {a b : List Stmt} {tc : PTs'} {p q : PSt} (hc : PT X c (lT g W t tc)) (ha : PSs X a (lS g W t p)) (hb : PSs X b (lS g W t q)) : PS X (.If c a b pos) (lS g W t (pIfS tc p q)) := by
  refine PS.imp (ps_if hc ha hb) fun D σ H h => ?_
  obtain ⟨ρ, sS, h⟩ := h
  refine ⟨ρ, sS, post_mono (fun b hb H1 x1 b1 => ?_) (fun e x => x.wx sS) (post_bind.mp h)⟩
  cases b with
  | true => exact ⟨ρ, sS.mono x1 b1, post_mono (fun o h => oS.back x1.kp h) (fun e h => h.back x1.kp) hb⟩
  | false => exact ⟨ρ, sS.mono x1 b1, post_mono (fun o h => oS.back x1.kp h) (fun e h => h.back x1.kp) hb⟩
def pRet (p : PEx) : PSt := fun ρ => (p ρ).bind fun r => .ok (.rt r ρ)
theorem S.out {ρ : Env} (s : S g t ρ σ H) {a : Addr} (n : H a = none) : t.H0 a = none := by
  cases h : t.H0 a with
  | none => rfl
  | some o =>
    obtain ⟨o', h'⟩ := s.th a o h
    rw [n] at h'; cases h'
theorem us_ret {st : Stmt} {p : PEx} (h : PS X st (tRet (lE g W t p))) : PS X st (lS g W t (pRet p)) := by
  refine PS.imp h fun D σ H h => ?_
  obtain ⟨ρ, sS, h⟩ := h
  exact ⟨ρ, sS, post_mono (fun r hr v H1 A x1 b1 r1 n1 f1 => hr v σ H1 A x1.kp (sS.mono x1 b1) r1 n1 fun a m => sS.out (f1 a m)) (fun e x => x.wx sS) (post_bind.mp h)⟩
/-! ### names get values -/
theorem Slots.setIm {v : V} {u : U} (r : RU g H v u) : ∀ {σ : List (Option V)} {ρ : List Sl} {A : List Addr} (i : Nat), Slots g H σ ρ A → ∃ A', Slots g H (σ.set i (some v)) (ρ.set i (.im u)) A' ∧ A'.Sublist A
  | _, _, _, _, .nil => ⟨[], .nil, List.Sublist.refl _⟩
  | _, _, _, 0, .un h => ⟨_, .im r h, List.Sublist.refl _⟩
  | _, _, _, 0, .im _ h => ⟨_, .im r h, List.Sublist.refl _⟩
  | _, _, _, 0, .ow _ h => ⟨_, .im r h, List.sublist_append_right _ _⟩
  | _, _, _, i + 1, .un h => let ⟨A', h1, h2⟩ := Slots.setIm r i h; ⟨A', .un h1, h2⟩
  | _, _, _, i + 1, .im q h => let ⟨A', h1, h2⟩ := Slots.setIm r i h; ⟨A', .im q h1, h2⟩
  | _, _, _, i + 1, .ow q h => let ⟨A', h1, h2⟩ := Slots.setIm r i h; ⟨_, .ow q h1, List.Sublist.append_left h2 _⟩
theorem Slots.setUn : ∀ {σ : List (Option V)} {ρ : List Sl} {A : List Addr} (i : Nat) (x : Option V), Slots g H σ ρ A → ∃ A', Slots g H (σ.set i x) (ρ.set i .un) A' ∧ A'.Sublist A
  | _, _, _, _, _, .nil => ⟨[], .nil, List.Sublist.refl _⟩
  | _, _, _, 0, x, .un h => ⟨_, .un h, List.Sublist.refl _⟩
  | _, _, _, 0, x, .im _ h => ⟨_, .un h, List.Sublist.refl _⟩
  | _, _, _, 0, x, .ow _ h => ⟨_, .un h, List.sublist_append_right _ _⟩
  | _, _, _, i + 1, x, .un h => let ⟨A', h1, h2⟩ := Slots.setUn i x h; ⟨A', .un h1, h2⟩
  | _, _, _, i + 1, x, .im q h => let ⟨A', h1, h2⟩ := Slots.setUn i x h; ⟨A', .im q h1, h2⟩
  | _, _, _, i + 1, x, .ow q h => let ⟨A', h1, h2⟩ := Slots.setUn i x h; ⟨_, .ow q h1, List.Sublist.append_left h2 _⟩
theorem Slots.setOw {v : V} {o : O} {C : List Addr} (r : RO g H v o C) (nC : C.Nodup) : ∀ {σ : List (Option V)} {ρ : List Sl} {A : List Addr} (i : Nat), Slots g H σ ρ A → A.Nodup → (∀ a ∈ A, a ∉ C) → ∃ A', Slots g H (σ.set i (some v)) (ρ.set i (.ow o)) A' ∧ A'.Nodup ∧ ∀ a ∈ A', a ∈ A ∨ a ∈ C
  | _, _, _, _, .nil, _, _ => ⟨[], .nil, List.nodup_nil, fun a m => nomatch m⟩
  | _, _, A, 0, .un h, n, d => ⟨C ++ A, .ow r h, List.nodup_append.mpr ⟨nC, n, fun a ha b hb e => d b hb (e ▸ ha)⟩, fun a m => (List.mem_append.mp m).symm⟩
  | _, _, A, 0, .im _ h, n, d => ⟨C ++ A, .ow r h, List.nodup_append.mpr ⟨nC, n, fun a ha b hb e => d b hb (e ▸ ha)⟩, fun a m => (List.mem_append.mp m).symm⟩
  | _, _, _, 0, .ow (B := B) _ h, n, d => ⟨C ++ B, .ow r h, List.nodup_append.mpr ⟨nC, (List.nodup_append.mp n).2.1, fun a ha b hb e => d b (List.mem_append_right _ hb) (e ▸ ha)⟩, fun a m => by
      rcases List.mem_append.mp m with q | q
      · exact .inr q
      · exact .inl (List.mem_append_right _ q)⟩
  | _, _, _, i + 1, .un h, n, d => let ⟨A', h1, h2, h3⟩ := Slots.setOw r nC i h n d; ⟨A', .un h1, h2, h3⟩
  | _, _, _, i + 1, .im q h, n, d => let ⟨A', h1, h2, h3⟩ := Slots.setOw r nC i h n d; ⟨A', .im q h1, h2, h3⟩
  | _, _, _, i + 1, .ow (A := A1) (B := B) q h, n, d => by
    obtain ⟨n1, n2, n3⟩ := List.nodup_append.mp n
    obtain ⟨A', h1, h2, h3⟩ := Slots.setOw r nC i h n2 fun a m => d a (List.mem_append_right _ m)
    refine ⟨A1 ++ A', .ow q h1, List.nodup_append.mpr ⟨n1, h2, fun a ha b hb e => ?_⟩, fun a m => ?_⟩
    · rcases h3 b hb with z | z
      · exact n3 a ha b z e
      · exact d a (List.mem_append_left _ ha) (e ▸ z)
    · rcases List.mem_append.mp m with z | z
      · exact .inl (List.mem_append_left _ z)
      · rcases h3 a z with y | y
        · exact .inl (List.mem_append_right _ y)
        · exact .inr y
theorem set_ps {t : Fr} {i : Nat} {x : Option V} {σ : L2.St} (hi : ∀ p ∈ t.ps, p.1 ≠ i) (h : ∀ p ∈ t.ps, σ[p.1]? = some (some p.2)) : ∀ p ∈ t.ps, (σ.set i x)[p.1]? = some (some p.2) := fun p m => by
  rw [List.getElem?_set_ne (hi p m).symm]
  exact h p m
theorem S.setIm {ρ : Env} {v : V} {u : U} {i : Nat} (s : S g t ρ σ H) (r : RU g H v u) (hi : ∀ p ∈ t.ps, p.1 ≠ i) : S g t (ρ.set i (.im u)) (σ.set i (some v)) H := by
  obtain ⟨A, h1, h2, h3⟩ := s.sl
  obtain ⟨A', h4, h5⟩ := h1.setIm r i
  exact ⟨⟨A', h4, h5.nodup h2, fun a m => h3 a (h5.subset m)⟩, s.bx, s.fr, s.kp, s.th, set_ps hi s.ps, s.bm, s.xd⟩
theorem S.setUn {ρ : Env} {x : Option V} {i : Nat} (s : S g t ρ σ H) (hi : ∀ p ∈ t.ps, p.1 ≠ i) : S g t (ρ.set i .un) (σ.set i x) H := by
  obtain ⟨A, h1, h2, h3⟩ := s.sl
  obtain ⟨A', h4, h5⟩ := h1.setUn i x
  exact ⟨⟨A', h4, h5.nodup h2, fun a m => h3 a (h5.subset m)⟩, s.bx, s.fr, s.kp, s.th, set_ps hi s.ps, s.bm, s.xd⟩
def bindR (i : Nat) (r : R) (ρ : Env) : Option Env :=
  match r with
  | .im u => some (ρ.set i (.im u))
  | .fr o => some (ρ.set i (.ow o))
  | .br _ => none
theorem S.bind {ρ ρ' : Env} {v : V} {r : R} {A : List Addr} {i : Nat} {H1 : Hp} (s : S g t ρ σ H) (x : Ext g H H1) (b : BoxR g H1) (h : RV g H1 v r A) (n : A.Nodup) (f : ∀ a ∈ A, H a = none) (e : bindR i r ρ = some ρ') (hi : ∀ p ∈ t.ps, p.1 ≠ i) : S g t ρ' (σ.set i (some v)) H1 := by
  cases r with
  | im u => cases e; exact (s.mono x b).setIm h.2 hi
  | br us => cases e
  | fr o =>
    cases e
    obtain ⟨A0, h1, h2, h3⟩ := s.sl
    have h1' : Slots g H1 σ ρ A0 := h1.mono x.kp fun a m => by
      obtain ⟨u, hu⟩ := h1.there a m
      rw [hu]
      exact x.sm a u hu fun b c hb => ((h3 a m).2 b c hb).1
    obtain ⟨A', h4, h5, h6⟩ := h1'.setOw h.1 n i h2 fun a m z => by
      obtain ⟨u, hu⟩ := h1.there a m
      rw [f a z] at hu; cases hu
    have s1 := s.mono x b
    refine ⟨⟨A', h4, h5, fun a m => ?_⟩, b, s1.fr, s1.kp, s1.th, set_ps hi s1.ps, s1.bm, s1.xd⟩
    rcases h6 a m with z | z
    · exact h3 a z
    · exact ⟨.inr (s.out (f a z)), h.2 a z⟩
def pAsg (i : Nat) (p : PEx) : PSt := fun ρ => (p ρ).bind fun r => (Res.opt (bindR i r ρ)).bind fun ρ' => .ok (.nx ρ')
theorem us_asgI {st : Stmt} {te : TE} {p : PEx} {i : Nat} (hi : ∀ p ∈ t.ps, p.1 ≠ i) (hI : ∀ σ H Q, lE g W t p σ H Q → te σ H Q) (h : PS X st (tAsg te (gName i))) : PS X st (lS g W t (pAsg i p)) := by
  refine PS.imp h fun D σ H h => hI σ H _ ?_
  revert D σ H h
  refine fun D σ H h => ?_
  obtain ⟨ρ, sS, h⟩ := h
  refine ⟨ρ, sS, post_mono (fun r hr v H1 A x1 b1 r1 n1 f1 => ?_) (fun e x => x.wx sS) (post_bind.mp h)⟩
  obtain ⟨ρ', e, q⟩ := post_opt (post_bind.mp hr)
  exact q _ _ x1.kp (sS.bind x1 b1 r1 n1 f1 e hi)
theorem us_asg {st : Stmt} {p : PEx} {i : Nat} (hi : ∀ p ∈ t.ps, p.1 ≠ i) (h : PS X st (tAsg (lE g W t p) (gName i))) : PS X st (lS g W t (pAsg i p)) := us_asgI hi (fun _ _ _ h => h) h
/-- what may be changed is there -/
def pDrop (p : PEx) : PSt := fun ρ => (p ρ).bind fun _ => .ok (.nx ρ)
theorem us_drop {st : Stmt} {p : PEx} (h : PS X st (tDrop (lE g W t p))) : PS X st (lS g W t (pDrop p)) := by
  refine PS.imp h fun D σ H h => ?_
  obtain ⟨ρ, sS, h⟩ := h
  exact ⟨ρ, sS, post_mono (fun r hr v H1 A x1 b1 r1 n1 f1 => hr σ H1 x1.kp (sS.mono x1 b1)) (fun e x => x.wx sS) (post_bind.mp h)⟩
end
end Rl
/-! Rl: targets, loops, comprehensions, defs. -/
namespace Rl
open PySem PySem.Spec PyProof.Rows L2 Wn
/-! ### targets -/
inductive Tg where
  | nm (i : Nat) | tp (ts : List Tg) | ls (ts : List Tg)
mutual
def bindT : Tg → U → Env → Option Env
  | .nm i, u, ρ => some (ρ.set i (.im u))
  | .tp ts, .tup us, ρ => if us.length = ts.length then bindTs ts us ρ else none
  | .tp _, _, _ => none
  | .ls ts, .lst us, ρ => if us.length = ts.length then bindTs ts us ρ else none
  | .ls _, _, _ => none
def bindTs : List Tg → List U → Env → Option Env
  | [], [], ρ => some ρ
  | t :: ts, u :: us, ρ => (bindT t u ρ).bind fun ρ' => bindTs ts us ρ'
  | _, _, _ => none
end
mutual
def Tg.ix : Tg → List Nat
  | .nm i => [i]
  | .tp ts => Tg.ixs ts
  | .ls ts => Tg.ixs ts
def Tg.ixs : List Tg → List Nat
  | [] => []
  | t :: ts => t.ix ++ Tg.ixs ts
end
def WpE (I : List Nat) (σ σ' : L2.St) : Prop := ∀ vs : List Nat, (∀ i ∈ I, i ∈ vs) → wipe σ' vs = wipe σ vs
theorem WpE.refl {I : List Nat} {σ : L2.St} : WpE I σ σ := fun _ _ => rfl
theorem WpE.trans {I J : List Nat} {σ σ1 σ2 : L2.St} (a : WpE I σ σ1) (b : WpE J σ1 σ2) : WpE (I ++ J) σ σ2 := fun vs h => (b vs fun i m => h i (List.mem_append_right _ m)).trans (a vs fun i m => h i (List.mem_append_left _ m))
theorem wipe_at (σ : L2.St) (j : Nat) : ∀ vs : List Nat, (wipe σ vs)[j]? = if j ∈ vs then (σ[j]?).map (fun _ => none) else σ[j]?
  | [] => by simp [wipe]
  | v :: vs => by
    unfold wipe
    by_cases h : j = v
    · subst h
      rw [List.getElem?_set_self', wipe_at σ j vs]
      by_cases h2 : j ∈ vs
      · rw [if_pos h2, if_pos (.head _)]
        cases σ[j]? <;> rfl
      · rw [if_neg h2, if_pos (.head _)]
        rfl
    · rw [List.getElem?_set_ne (Ne.symm h), wipe_at σ j vs]
      by_cases h2 : j ∈ vs
      · rw [if_pos h2, if_pos (.tail _ h2)]
      · rw [if_neg h2, if_neg (fun m => (List.mem_cons.mp m).elim h h2)]
theorem wpE_set {σ : L2.St} {i : Nat} {x : Option V} : WpE [i] σ (σ.set i x) := fun vs h => by
  apply List.ext_getElem?
  intro j
  rw [wipe_at, wipe_at]
  by_cases hj : j ∈ vs
  · rw [if_pos hj, if_pos hj]
    by_cases e : i = j
    · subst e
      rw [List.getElem?_set_self']
      cases σ[i]? <;> rfl
    · rw [List.getElem?_set_ne e]
  · have ne : i ≠ j := fun e => hj (e ▸ h i (.head _))
    rw [if_neg hj, if_neg hj, List.getElem?_set_ne ne]
def lG (g : G) (t : Fr) (tg : Tg) : TG := fun v σ H Q => ∃ ρ u ρ', S g t ρ σ H ∧ RU g H v u ∧ bindT tg u ρ = some ρ' ∧ ∀ σ', S g t ρ' σ' H → WpE tg.ix σ σ' → Q σ' H
def lGs (g : G) (t : Fr) (ts : List Tg) : TGs := fun vs σ H Q => ∃ ρ us ρ', S g t ρ σ H ∧ RUs g H vs us ∧ bindTs ts us ρ = some ρ' ∧ ∀ σ', S g t ρ' σ' H → WpE (Tg.ixs ts) σ σ' → Q σ' H
theorem PG.imp {X : Cx} {e : Expr} {t t' : TG} (h : PG X e t) (i : ∀ v σ H Q, t' v σ H Q → t v σ H Q) : PG X e t' := by
  obtain ⟨h⟩ := h
  exact ⟨fun pins s σ H v u Q I r q => h pins s σ H v u Q I r (i _ _ _ _ q)⟩
theorem PGs.imp {X : Cx} {e : List Expr} {t t' : TGs} (h : PGs X e t) (i : ∀ v σ H Q, t' v σ H Q → t v σ H Q) : PGs X e t' := by
  obtain ⟨h⟩ := h
  exact ⟨fun pins s σ H v u Q I r q => h pins s σ H v u Q I r (i _ _ _ _ q)⟩
section
variable {g : G} {W : WX} {t : Fr} {X : Cx} {pos : Pos} {a b c : Expr} {pa pb pc : PEx} {pas : PAs} {σ : L2.St} {H : Hp}
theorem ug_nm {i : Nat} (hi : ∀ p ∈ t.ps, p.1 ≠ i) (h : PG X a (gName i)) : PG X a (lG g t (.nm i)) := PG.imp h fun v σ H Q q => by
  obtain ⟨ρ, u, ρ', s, r, e, q⟩ := q
  cases e
  exact q _ (s.setIm r hi) wpE_set
theorem ug_tp {n : Nat} {ts : List Tg} (hn : ts.length = n) (h : PG X a (gTup g.K n (lGs g t ts))) : PG X a (lG g t (.tp ts)) := PG.imp h fun v σ H Q q => by
  obtain ⟨ρ, u, ρ', s, r, e, q⟩ := q
  cases u with
  | tup us =>
    unfold bindT at e
    by_cases hl : us.length = ts.length
    · rw [if_pos hl] at e
      cases r with
      | tup h1 h2 =>
        refine ⟨_, _, rfl, h1.sq, by rw [h2.len, hl, hn], ρ, us, ρ', s, h2, e, fun σ' s' w => q σ' s' (by unfold Tg.ix; exact w)⟩
    · rw [if_neg hl] at e; cases e
  | _ => unfold bindT at e; cases e
theorem ugs_nil : PGs X [] (lGs g t []) := PGs.imp pgs_nil fun v σ H Q q => by
  obtain ⟨ρ, us, ρ', s, r, e, q⟩ := q
  cases us with
  | nil => unfold bindTs at e; cases e; cases r; exact ⟨rfl, q σ s .refl⟩
  | cons => unfold bindTs at e; cases e
theorem ugs_cons {es : List Expr} {tg : Tg} {ts : List Tg} (h : PGs X (a :: es) (gCons (lG g t tg) (lGs g t ts))) : PGs X (a :: es) (lGs g t (tg :: ts)) := PGs.imp h fun v σ H Q q => by
  obtain ⟨ρ, us, ρ', s, r, e, q⟩ := q
  cases us with
  | nil => unfold bindTs at e; cases e
  | cons u us =>
    unfold bindTs at e
    cases e1 : bindT tg u ρ with
    | none => rw [e1] at e; cases e
    | some ρ1 =>
      rw [e1] at e
      cases r with
      | cons r1 r2 =>
        exact ⟨_, _, rfl, ρ, u, ρ1, s, r1, e1, fun σ1 s1 w1 => ⟨ρ1, us, ρ', s1, r2, e, fun σ2 s2 w2 => q σ2 s2 (by unfold Tg.ixs; exact w1.trans w2)⟩⟩
/-- t = e, t a tuple of names -/
def pAsgT (tg : Tg) (p : PEx) : PSt := fun ρ => (p ρ).bind fun r => (Res.opt (imR r)).bind fun u => (Res.opt (bindT tg u ρ)).bind fun ρ' => .ok (.nx ρ')
theorem us_asgT {st : Stmt} {p : PEx} {tg : Tg} (h : PS X st (tAsg (lE g W t p) (lG g t tg))) : PS X st (lS g W t (pAsgT tg p)) := by
  refine PS.imp h fun D σ H h => ?_
  obtain ⟨ρ, sS, h⟩ := h
  refine ⟨ρ, sS, post_mono (fun r hr v H1 A x1 b1 r1 n1 f1 => ?_) (fun e x => x.wx sS) (post_bind.mp h)⟩
  obtain ⟨u, e1, hr⟩ := post_opt (post_bind.mp hr)
  obtain ⟨ρ', e, q⟩ := post_opt (post_bind.mp hr)
  exact ⟨ρ, u, ρ', sS.mono x1 b1, (im_of r1 e1).2, e, fun σ' s' _ => q σ' H1 x1.kp s'⟩
/-! ### loops -/
def pLoop (bd : U → Env → Option Env) (body : PSt) : List U → PSt
  | [], ρ => .ok (.nx ρ)
  | u :: us, ρ => (Res.opt (bd u ρ)).bind fun ρ1 => (body ρ1).bind fun o => match o with
    | .nx ρ2 => pLoop bd body us ρ2
    | .ct ρ2 => pLoop bd body us ρ2
    | .bk ρ2 => .ok (.nx ρ2)
    | .rt r ρ2 => .ok (.rt r ρ2)
def frzd : R → Option (List U)
  | .im (.lst us) => some us
  | _ => none
def pFor (it : R → Option (List U)) (tg : Tg) (p : PEx) (body : PSt) : PSt := fun ρ => (p ρ).bind fun r => (Res.opt (it r)).bind fun us => pLoop (bindT tg) body us ρ
/-- one turn -/
theorem turn {tg : Tg} {body : PSt} {D : Ends} {H0 : Hp} {us : List U} {i : Nat} {u : U} {v : V} {ρ : Env} {N : L2.St → Hp → Prop}
    (hN : ∀ σ' H' ρ', Kp g H0 H' → S g t ρ' σ' H' → (pLoop (bindT tg) body (us.drop (i + 1)) ρ').post (oS g t D H0) (xS g W t H0) → N σ' H')
    (hi : us[i]? = some u) (k : Kp g H0 H) (s : S g t ρ σ H) (r : RU g H v u) (h : (pLoop (bindT tg) body (us.drop i) ρ).post (oS g t D H0) (xS g W t H0)) :
    lG g t tg v σ H fun σ2 H2 => lS g W t body { D with nx := N, ct := N, bk := D.nx } σ2 H2 := by
  have hd : us.drop i = u :: us.drop (i + 1) := by
    obtain ⟨hlt, e⟩ := List.getElem?_eq_some_iff.mp hi
    rw [← e]
    exact List.drop_eq_getElem_cons hlt
  rw [hd] at h
  unfold pLoop at h
  obtain ⟨ρ1, e1, h⟩ := post_opt (post_bind.mp h)
  refine ⟨ρ, u, ρ1, s, r, e1, fun σ' s' _ => ⟨ρ1, s', post_mono (fun o ho => ?_) (fun e x => x.back k) (post_bind.mp h)⟩⟩
  cases o with
  | nx ρ2 => exact fun σ2 H2 k2 s2 => hN σ2 H2 ρ2 (k.trans k2) s2 ho
  | ct ρ2 => exact fun σ2 H2 k2 s2 => hN σ2 H2 ρ2 (k.trans k2) s2 ho
  | bk ρ2 => exact fun σ2 H2 k2 s2 => ho σ2 H2 (k.trans k2) s2
  | rt r' ρ2 => exact fun v σ2 H2 A k2 s2 => ho v σ2 H2 A (k.trans k2) s2
theorem us_forL {st : Stmt} {tg : Tg} {p : PEx} {body : PSt} (h : PS X st (tFor (iList g.K (lE g W t p)) (lG g t tg) (lS g W t body))) : PS X st (lS g W t (pFor frzd tg p body)) := by
  refine PS.imp h fun D σ H h => ?_
  obtain ⟨ρ, sS, h⟩ := h
  refine ⟨ρ, sS, post_mono (fun r hr v H1 A x1 b1 r1 n1 f1 => ?_) (fun e x => x.wx sS) (post_bind.mp h)⟩
  obtain ⟨us, e1, hr⟩ := post_opt (post_bind.mp hr)
  cases r with
  | im w =>
    cases w with
    | lst ws =>
      have e1 : ws = us := Option.some.inj e1
      subst e1
      obtain ⟨_, r1⟩ := r1
      cases r1 with
      | lst h2 h3 =>
        rename_i a xs
        refine ⟨a, rfl, ⟨xs, h2.sq⟩, for_list (K := g.K) (a := a) (xs := xs) (fun i σ' H' => ∃ ρ', Kp g H1 H' ∧ S g t ρ' σ' H' ∧ (pLoop (bindT tg) body (ws.drop i) ρ').post (oS g t D H1) (xS g W t H1)) ⟨ρ, Kp.refl H1, sS.mono x1 b1, ?_⟩ (fun i σ' H' _ hp => ?_) (fun i x σ' H' hx hp => ?_) (fun σ' H' hp => ?_)⟩
        · exact post_mono (fun o h => oS.back x1.kp h) (fun e h => h.back x1.kp) hr
        · obtain ⟨ρ', k, _⟩ := hp
          exact (h2.mono k).sq
        · obtain ⟨ρ', k, s, hh⟩ := hp
          obtain ⟨u, hu, ru⟩ := (h3.mono k).atV hx
          exact turn (fun σ' H' ρ' k s q => ⟨ρ', k, s, q⟩) hu k s ru hh
        · obtain ⟨ρ', k, s, hh⟩ := hp
          rw [h3.len, List.drop_length] at hh
          exact hh σ' H' k s
    | _ => cases e1
  | _ => cases e1
theorem us_forT {st : Stmt} {tg : Tg} {p : PEx} {body : PSt} (h : PS X st (tFor (iTup g.K (lE g W t p)) (lG g t tg) (lS g W t body))) : PS X st (lS g W t (pFor tupR tg p body)) := by
  refine PS.imp h fun D σ H h => ?_
  obtain ⟨ρ, sS, h⟩ := h
  refine ⟨ρ, sS, post_mono (fun r hr v H1 A x1 b1 r1 n1 f1 => ?_) (fun e x => x.wx sS) (post_bind.mp h)⟩
  obtain ⟨ws, e1, hr⟩ := post_opt (post_bind.mp hr)
  obtain ⟨a, xs, rfl, h2, h3⟩ := r1.tup e1
  refine ⟨a, rfl, ⟨xs, h2⟩, for_tup (K := g.K) (a := a) (xs := xs) (fun i σ' H' => ∃ ρ', Kp g H1 H' ∧ S g t ρ' σ' H' ∧ (pLoop (bindT tg) body (ws.drop i) ρ').post (oS g t D H1) (xS g W t H1)) ⟨ρ, Kp.refl H1, sS.mono x1 b1, ?_⟩ (fun i σ' H' _ hp => ?_) (fun i x σ' H' hx hp => ?_) (fun σ' H' hp => ?_)⟩
  · exact post_mono (fun o h => oS.back x1.kp h) (fun e h => h.back x1.kp) hr
  · obtain ⟨ρ', k, _⟩ := hp
    exact sqT_mono k h2
  · obtain ⟨ρ', k, s, hh⟩ := hp
    obtain ⟨u, hu, ru⟩ := (h3.mono k).atV hx
    exact turn (fun σ' H' ρ' k s q => ⟨ρ', k, s, q⟩) hu k s ru hh
  · obtain ⟨ρ', k, s, hh⟩ := hp
    rw [h3.len, List.drop_length] at hh
    exact hh σ' H' k s
def rng (n : Nat) : List U := (List.range n).map fun i => .int (i : Nat)
def rngR : List R → Option (List U)
  | [a] => (iR a).bind fun j => if -(2 ^ 62) ≤ j ∧ j < 2 ^ 62 then some (rng j.toNat) else none
  | _ => none
def pForR (tg : Tg) (p : PAs) (body : PSt) : PSt := fun ρ => (p ρ).bind fun r => (Res.opt (rngR r)).bind fun us => pLoop (bindT tg) body us ρ
theorem rng_at {n i : Nat} (h : i < n) : (rng n)[i]? = some (.int (0 + (i : Nat))) := by
  unfold rng
  rw [List.getElem?_map, List.getElem?_range h]
  simp
theorem rngR_of {rs : List R} {us : List U} (e : rngR rs = some us) : ∃ a j, rs = [a] ∧ iR a = some j ∧ -(2 ^ 62) ≤ j ∧ j < 2 ^ 62 ∧ us = rng j.toNat := by
  match rs, e with
  | [a], e =>
    change (iR a).bind _ = some us at e
    cases e1 : iR a with
    | none => rw [e1] at e; cases e
    | some j =>
      rw [e1] at e
      change (if _ then _ else _) = _ at e
      by_cases hj : -(2 ^ 62) ≤ j ∧ j < 2 ^ 62
      · rw [if_pos hj] at e
        cases e
        exact ⟨a, j, rfl, e1, hj.1, hj.2, rfl⟩
      · rw [if_neg hj] at e; cases e
theorem us_forR {st : Stmt} {tg : Tg} {body : PSt} (h : PS X st (tFor (iRng1 (lA g W t pas)) (lG g t tg) (lS g W t body))) : PS X st (lS g W t (pForR tg pas body)) := by
  refine PS.imp h fun D σ H h => ?_
  obtain ⟨ρ, sS, h⟩ := h
  refine ⟨ρ, sS, post_mono (fun rs hr vs H1 A x1 b1 r1 n1 f1 => ?_) (fun e x => x.wx sS) (post_bind.mp h)⟩
  obtain ⟨ws, e1, hr⟩ := post_opt (post_bind.mp hr)
  obtain ⟨a, j, rfl, e2, h1, h2, rfl⟩ := rngR_of e1
  obtain ⟨v, rfl, rv⟩ := vals_one r1
  refine ⟨j, by rw [iR_of rv e2], h1, h2, for_range (fun i σ' H' => ∃ ρ', Kp g H1 H' ∧ S g t ρ' σ' H' ∧ (pLoop (bindT tg) body ((rng j.toNat).drop i) ρ').post (oS g t D H1) (xS g W t H1)) ⟨ρ, Kp.refl H1, sS.mono x1 b1, ?_⟩ (fun i σ' H' hx hp => ?_) (fun σ' H' hp => ?_)⟩
  · exact post_mono (fun o h => oS.back x1.kp h) (fun e h => h.back x1.kp) hr
  · obtain ⟨ρ', k, s, hh⟩ := hp
    exact turn (fun σ' H' ρ' k s q => ⟨ρ', k, s, q⟩) (rng_at hx) k s (.int _) hh
  · obtain ⟨ρ', k, s, hh⟩ := hp
    have hl : (rng j.toNat).length = j.toNat := by unfold rng; rw [List.length_map, List.length_range]
    have := List.drop_length (l := rng j.toNat)
    rw [hl] at this
    rw [this] at hh
    exact hh σ' H' k s
def strU (x : Str) : List U := x.cps.toList.map fun c => .str ⟨#[c]⟩
end
end Rl
/-! Rl: comprehensions, freezing, defs. -/
namespace Rl
open PySem PySem.Spec PyProof.Rows L2 Wn
def wipeE : Env → List Nat → Env
  | ρ, [] => ρ
  | ρ, v :: vs => (wipeE ρ vs).set v .un
def mapR (bd : U → Env → Option Env) (cond : PTs') (elt : PEx) (ρ : Env) : List U → Res (List U)
  | [] => .ok []
  | u :: us => (Res.opt (bd u ρ)).bind fun ρ1 => (cond ρ1).bind fun b => if b = true then (elt ρ1).bind fun r => (Res.opt (imR r)).bind fun y => (mapR bd cond elt ρ us).bind fun ys => .ok (y :: ys) else mapR bd cond elt ρ us
def pYes : PTs' := fun _ => .ok true
def W0 : WX := fun _ _ _ _ => False
def lcEnd (us : List U) (r : Res (List U)) : Res R := if us.length ≤ 100000 then r.calm.bind fun ys => .ok (.fr (.ol (ys.map .lf))) else .st
def pLC (it : R → Option (List U)) (tg : Tg) (cond : PTs') (elt : PEx) (vs : List Nat) (p : PEx) : PEx := fun ρ => (p ρ).bind fun r => (Res.opt (it r)).bind fun us => lcEnd us (mapR (bindT tg) cond elt (wipeE ρ vs) us)
def pLCR (tg : Tg) (cond : PTs') (elt : PEx) (vs : List Nat) (p : PAs) : PEx := fun ρ => (p ρ).bind fun r => (Res.opt (rngR r)).bind fun us => lcEnd us (mapR (bindT tg) cond elt (wipeE ρ vs) us)
section
variable {g : G} {W : WX} {t : Fr} {X : Cx} {pos : Pos} {a b c : Expr} {pa pb pc : PEx} {pas : PAs} {σ : L2.St} {H H1 : Hp}
theorem S.wipe {ρ : Env} (s : S g t ρ σ H) : ∀ {vs : List Nat}, (∀ p ∈ t.ps, p.1 ∉ vs) → S g t (wipeE ρ vs) (wipe σ vs) H
  | [], _ => s
  | v :: vs, h => (S.wipe s fun p m q => h p m (.tail _ q)).setUn fun p m e => h p m (e ▸ .head _)
theorem ut_yes : PTs X [] (lT g W t pYes) := by
  obtain ⟨h⟩ := (pts_nil : PTs X [] tYes)
  refine ⟨fun pins s σ H Q I q => h pins s σ H Q I ?_⟩
  obtain ⟨ρ, sS, q⟩ := q
  exact q H (Ext.refl H) sS.bx
/-- how far a comprehension is -/
def LcP (g : G) (H1 : Hp) (D : Addr) (m : List U → Res (List U)) (us : List U) (Fin : List U → Prop) (i : Nat) (H' : Hp) : Prop :=
  Ext g H1 H' ∧ BoxR g H' ∧ ∃ acc ys, H' D = some (.lst acc) ∧ RUs g H' acc ys ∧ ys.length ≤ i ∧ (m (us.drop i)).post (fun zs => Fin (ys ++ zs)) fun _ => False
theorem lc_start {D : Addr} {m : List U → Res (List U)} {us : List U} {Fin : List U → Prop} (b : BoxR g H1) (n : H1 D = none) (h : (m us).post Fin fun _ => False) : LcP g H1 D m us Fin 0 (upd H1 D (.lst [])) :=
  ⟨.new n, b.same (same_new n), [], [], upd_same, .nil, Nat.le_refl _, h⟩
theorem lc_turn {D : Addr} {tg : Tg} {cond : PTs'} {elt : PEx} {vs : List Nat} {ρ : Env} {us : List U} {Fin : List U → Prop} {i : Nat} {u : U} {x : V} {H' : Hp} (hix : ∀ i ∈ tg.ix, i ∈ vs) (hps : ∀ p ∈ t.ps, p.1 ∉ vs) (hl : us.length ≤ 100000)
    (s : S g t ρ σ H1) (n : H1 D = none) (hu : us[i]? = some u) (ru : RU g H' x u) (h : LcP g H1 D (mapR (bindT tg) cond elt (wipeE ρ vs)) us Fin i H') :
    lG g t tg x (wipe σ vs) H' fun σ2 H2 => wipe σ2 vs = wipe σ vs ∧ lT g W0 t cond σ2 H2 fun b H3 => if b = true then lE g W0 t elt σ2 H3 fun y H4 => ∃ acc, H4 D = some (.lst acc) ∧ acc.length < sizeLine ∧ LcP g H1 D (mapR (bindT tg) cond elt (wipeE ρ vs)) us Fin (i + 1) (upd H4 D (.lst (acc ++ [y]))) else LcP g H1 D (mapR (bindT tg) cond elt (wipeE ρ vs)) us Fin (i + 1) H3 := by
  obtain ⟨e, b, acc, ys, hD, hr, hy, hm⟩ := h
  have hd : us.drop i = u :: us.drop (i + 1) := by
    obtain ⟨hlt, e⟩ := List.getElem?_eq_some_iff.mp hu
    rw [← e]
    exact List.drop_eq_getElem_cons hlt
  have hi : i < us.length := (List.getElem?_eq_some_iff.mp hu).1
  rw [hd] at hm
  unfold mapR at hm
  obtain ⟨ρ1, e1, hm⟩ := post_opt (post_bind.mp hm)
  have nbD : Nb g D := s.bx.nb n
  · refine ⟨_, u, ρ1, (s.mono e b).wipe hps, ru, e1, fun σ' s' w' => ⟨?_, ρ1, s', post_mono (fun k hk H3 x3 b3 => ?_) (fun e x => x.elim) (post_bind.mp hm)⟩⟩
    · have z := w' vs hix
      rw [z]
      apply List.ext_getElem?
      intro j
      rw [wipe_at, wipe_at]
      by_cases hj : j ∈ vs
      · rw [if_pos hj, if_pos hj]; cases σ[j]? <;> rfl
      · rw [if_neg hj, if_neg hj]
    · cases k with
      | false => exact ⟨e.trans x3, b3, acc, ys, x3.sm D _ hD fun b' c hb => (nbD b' c hb).1, hr.mono x3.kp, Nat.le_succ_of_le hy, hk⟩
      | true =>
        refine ⟨ρ1, s'.mono x3 b3, post_mono (fun r hr' y H4 A x4 b4 r4 n4 f4 => ?_) (fun e x => x.elim) (post_bind.mp hk)⟩
        obtain ⟨w, ew, hr'⟩ := post_opt (post_bind.mp hr')
        have h4 : H4 D = some (.lst acc) := (x3.trans x4).sm D _ hD fun b' c hb => (nbD b' c hb).1
        have sm : Kp g H4 (upd H4 D (.lst (acc ++ [y]))) := fun p o hp st => by
          refine (upd_ne fun z => ?_).trans hp
          rw [z, h4] at hp
          cases hp
          exact st
        refine ⟨acc, h4, ?_, ?_, fun b' c hb => ?_, acc ++ [y], ys ++ [w], upd_same, ((hr.mono (x3.trans x4).kp).mono sm).append (.cons ((im_of r4 ew).2.mono sm) .nil), ?_, ?_⟩
        · rw [hr.len]
          exact Nat.lt_of_le_of_lt (Nat.le_trans hy (Nat.le_trans (Nat.le_of_lt hi) hl)) (by decide)
        · refine ⟨fun p o hp nb => ?_, fun p o hp st => ?_⟩
          · refine (upd_ne (ne_of_none hp n)).trans ((e.trans (x3.trans x4)).sm p o hp nb)
          · exact sm p o ((e.trans (x3.trans x4)).kp p o hp st) st
        · obtain ⟨nbc, cs, i1, d1, sd1, n1, hb1, hb2, hb3⟩ := b4 b' c hb
          exact ⟨nbc, cs, i1, d1, sd1, n1, (upd_ne (Ne.symm (nbD b' c hb).1)).trans hb1, (upd_ne (Ne.symm (nbD b' c hb).2)).trans hb2, hb3⟩
        · rw [List.length_append]
          exact Nat.succ_le_succ hy
        · refine post_mono (fun zs hz => ?_) (fun e x => x) (post_bind.mp hr')
          rw [List.append_assoc]
          exact hz
theorem lc_done {D : Addr} {m : List U → Res (List U)} {us : List U} {Fin : List U → Prop} {H' : Hp} {Q : VK} (b1 : BoxR g H1) (n : H1 D = none) (hm : m [] = .ok []) {k : Nat} (h : LcP g H1 D m us Fin k H') (hk : k = us.length)
    (hF : ∀ ys, Fin ys → ∀ v H'' A, Ext g H1 H'' → BoxR g H'' → RV g H'' v (.fr (.ol (ys.map .lf))) A → A.Nodup → (∀ a ∈ A, H1 a = none) → Q v H'') : Q (.ref D) H' := by
  obtain ⟨e, b, acc, ys, hD, hr, hy, h⟩ := h
  subst hk
  rw [List.drop_length, hm] at h
  have h : Fin (ys ++ []) := h
  rw [List.append_nil] at h
  exact hF ys h _ H' [D] e b ⟨.ol hD (to_leafs hr), fun x m => by rw [List.mem_singleton.mp m]; exact b1.nb n⟩ (by simp) fun x m => by rw [List.mem_singleton.mp m]; exact n
theorem RV.lstS {v : V} {r : R} {A : List Addr} {us : List U} (h : RV g H v r A) (e : lstR r = some us) : ∃ a vs, v = .ref a ∧ (∀ H', Ext g H H' → SqL g.K H' a vs) ∧ RUs g H vs us := by
  cases r with
  | im u =>
    cases u with
    | lst xs =>
      cases e
      obtain ⟨_, h⟩ := h
      cases h with
      | lst h1 h2 => exact ⟨_, _, rfl, fun H' x => (h1.mono x.kp).sq, h2⟩
    | _ => cases e
  | br xs =>
    cases e
    obtain ⟨_, a, vs, h1, h2, h3, nb⟩ := h
    refine ⟨a, vs, h1, fun H' x => ?_, h3⟩
    rcases h2 with (h2 | ⟨o, h2⟩) | h2
    · exact .inl (.inl (x.sm _ _ h2 fun b c hb => (nb b c hb).1))
    · exact .inl (.inr ⟨o, x.kp _ _ h2 trivial⟩)
    · exact .inr h2
  | fr o =>
    cases o with
    | ol os =>
      obtain ⟨h, nb⟩ := h
      cases h with
      | ol h1 h2 => exact ⟨_, _, rfl, fun H' x => .inl (.inl (x.sm _ _ h1 fun b c hb => (nb _ (.head _) b c hb).1)), (leafs_of h2 e).2⟩
    | _ => cases e
theorem lc_fin {us : List U} {r : Res (List U)} {P : R → Prop} {E : Er → Prop} (h : (lcEnd us r).post P E) : us.length ≤ 100000 ∧ r.post (fun ys => P (.fr (.ol (ys.map .lf)))) fun _ => False := by
  unfold lcEnd at h
  by_cases hl : us.length ≤ 100000
  · rw [if_pos hl] at h
    exact ⟨hl, post_calm.mp (post_bind.mp h)⟩
  · rw [if_neg hl] at h; exact h.elim
variable {e : Expr} {tg : Tg} {cond : PTs'} {elt : PEx} {vs : List Nat}
theorem llcL (hix : ∀ i ∈ tg.ix, i ∈ vs) (hps : ∀ p ∈ t.ps, p.1 ∉ vs) {σ : L2.St} {H : Hp} {Q : VK} (h : lE g W t (pLC lstR tg cond elt vs pa) σ H Q) : tLc (iList g.K (lE g W t pa)) (lG g t tg) (lT g W0 t cond) (lE g W0 t elt) vs σ H Q := by
  obtain ⟨ρ, sS, h⟩ := h
  refine ⟨ρ, sS, post_mono (fun r hr v H1 A x1 b1 r1 n1 f1 => ?_) (fun e x => x) (post_bind.mp h)⟩
  obtain ⟨us, e1, hr⟩ := post_opt (post_bind.mp hr)
  obtain ⟨hl, hr⟩ := lc_fin hr
  obtain ⟨a, xs, rfl, h2, h3⟩ := r1.lstS e1
  refine ⟨a, rfl, ⟨xs, h2 H1 (Ext.refl H1)⟩, fun D nD => lc_list (K := g.K) (a := a) (xs := xs) (LcP g H1 D (mapR (bindT tg) cond elt (wipeE ρ vs)) us _) (lc_start b1 nD hr) (fun i H' _ hp => h2 H' hp.1) (fun i x H' hx hp => ?_) (fun H' hp => ?_)⟩
  · obtain ⟨u, hu, ru⟩ := (h3.mono hp.1.kp).atV hx
    exact lc_turn hix hps hl (sS.mono x1 b1) nD hu ru hp
  · rw [h3.len] at hp
    exact lc_done (m := mapR (bindT tg) cond elt (wipeE ρ vs)) b1 nD rfl hp rfl fun ys hF v H'' A x2 b2 r2 n2 f2 => hF v H'' A (x1.trans x2) b2 r2 n2 fun y m => x1.back b1 (f2 y m)
theorem ue_lcL (hix : ∀ i ∈ tg.ix, i ∈ vs) (hps : ∀ p ∈ t.ps, p.1 ∉ vs) (h : PE X e (tLc (iList g.K (lE g W t pa)) (lG g t tg) (lT g W0 t cond) (lE g W0 t elt) vs)) : PE X e (lE g W t (pLC lstR tg cond elt vs pa)) := PE.imp h fun _ _ _ h => llcL hix hps h
theorem llcT (hix : ∀ i ∈ tg.ix, i ∈ vs) (hps : ∀ p ∈ t.ps, p.1 ∉ vs) {σ : L2.St} {H : Hp} {Q : VK} (h : lE g W t (pLC tupR tg cond elt vs pa) σ H Q) : tLc (iTup g.K (lE g W t pa)) (lG g t tg) (lT g W0 t cond) (lE g W0 t elt) vs σ H Q := by
  obtain ⟨ρ, sS, h⟩ := h
  refine ⟨ρ, sS, post_mono (fun r hr v H1 A x1 b1 r1 n1 f1 => ?_) (fun e x => x) (post_bind.mp h)⟩
  obtain ⟨us, e1, hr⟩ := post_opt (post_bind.mp hr)
  obtain ⟨hl, hr⟩ := lc_fin hr
  obtain ⟨a, xs, rfl, h2, h3⟩ := r1.tup e1
  refine ⟨a, rfl, ⟨xs, h2⟩, fun D nD => lc_tup (K := g.K) (a := a) (xs := xs) (LcP g H1 D (mapR (bindT tg) cond elt (wipeE ρ vs)) us _) (lc_start b1 nD hr) (fun i H' _ hp => sqT_mono hp.1.kp h2) (fun i x H' hx hp => ?_) (fun H' hp => ?_)⟩
  · obtain ⟨u, hu, ru⟩ := (h3.mono hp.1.kp).atV hx
    exact lc_turn hix hps hl (sS.mono x1 b1) nD hu ru hp
  · rw [h3.len] at hp
    exact lc_done (m := mapR (bindT tg) cond elt (wipeE ρ vs)) b1 nD rfl hp rfl fun ys hF v H'' A x2 b2 r2 n2 f2 => hF v H'' A (x1.trans x2) b2 r2 n2 fun y m => x1.back b1 (f2 y m)
theorem ue_lcT (hix : ∀ i ∈ tg.ix, i ∈ vs) (hps : ∀ p ∈ t.ps, p.1 ∉ vs) (h : PE X e (tLc (iTup g.K (lE g W t pa)) (lG g t tg) (lT g W0 t cond) (lE g W0 t elt) vs)) : PE X e (lE g W t (pLC tupR tg cond elt vs pa)) := PE.imp h fun _ _ _ h => llcT hix hps h
theorem llcR (hix : ∀ i ∈ tg.ix, i ∈ vs) (hps : ∀ p ∈ t.ps, p.1 ∉ vs) {σ : L2.St} {H : Hp} {Q : VK} (h : lE g W t (pLCR tg cond elt vs pas) σ H Q) : tLc (iRng1 (lA g W t pas)) (lG g t tg) (lT g W0 t cond) (lE g W0 t elt) vs σ H Q := by
  obtain ⟨ρ, sS, h⟩ := h
  refine ⟨ρ, sS, post_mono (fun rs hr ws H1 A x1 b1 r1 n1 f1 => ?_) (fun e x => x) (post_bind.mp h)⟩
  obtain ⟨us, e1, hr⟩ := post_opt (post_bind.mp hr)
  obtain ⟨hl, hr⟩ := lc_fin hr
  obtain ⟨a, j, rfl, e2, h1, h2, rfl⟩ := rngR_of e1
  obtain ⟨v, rfl, rv⟩ := vals_one r1
  have hlen : (rng j.toNat).length = j.toNat := by unfold rng; rw [List.length_map, List.length_range]
  refine ⟨j, by rw [iR_of rv e2], h1, h2, fun D nD => lc_range (LcP g H1 D (mapR (bindT tg) cond elt (wipeE ρ vs)) (rng j.toNat) _) (lc_start b1 nD hr) (fun i H' hx hp => ?_) (fun H' hp => ?_)⟩
  · exact lc_turn hix hps hl (sS.mono x1 b1) nD (rng_at hx) (.int _) hp
  · exact lc_done (m := mapR (bindT tg) cond elt (wipeE ρ vs)) (us := rng j.toNat) b1 nD rfl hp hlen.symm fun ys hF v H'' A x2 b2 r2 n2 f2 => hF v H'' A (x1.trans x2) b2 r2 n2 fun y m => x1.back b1 (f2 y m)
theorem ue_lcR (hix : ∀ i ∈ tg.ix, i ∈ vs) (hps : ∀ p ∈ t.ps, p.1 ∉ vs) (h : PE X e (tLc (iRng1 (lA g W t pas)) (lG g t tg) (lT g W0 t cond) (lE g W0 t elt) vs)) : PE X e (lE g W t (pLCR tg cond elt vs pas)) := PE.imp h fun _ _ _ h => llcR hix hps h
end
end Rl
/-! Rl: freezing, defs. -/
namespace Rl
open PySem PySem.Spec PyProof.Rows L2 Wn
mutual
def frzO : O → Option U
  | .lf u => some u
  | .ol os => (frzOs os).map .lst
  | .oi _ _ => none
def frzOs : List O → Option (List U)
  | [] => some []
  | o :: os => (frzO o).bind fun u => (frzOs os).map fun us => u :: us
end
section
variable {g : G} {W : WX} {t : Fr} {X : Cx} {pins : List (Addr × Obj)} {σ : L2.St} {s : Shared}
theorem kp_frz {H : Hp} {a : Addr} {xs : List V} {o : HO} (h : H a = some (.lst xs)) : Kp g H (upd H a o) := fun x u hx st => by
  refine (upd_ne fun z => ?_).trans hx
  rw [z, h] at hx
  cases hx
  exact st
mutual
theorem frz : ∀ {H : Hp} {v : V} {o : O} {A : List Addr} {u : U}, Inv X pins σ H s → RO g H v o A → A.Nodup → frzO o = some u → ∃ H', Inv X pins σ H' s ∧ RU g H' v u ∧ Kp g H H' ∧ (∀ x, x ∉ A → H' x = H x) ∧ ∀ x, (∃ o, H x = some o) → ∃ o, H' x = some o
  | H, _, _, _, _, I, .lf r, _, e => by cases e; exact ⟨H, I, r, Kp.refl H, fun _ _ => rfl, fun _ h => h⟩
  | H, _, _, _, _, I, .ol (a := a) (xs := xs) (os := os) (A := A) h r, n, e => by
    obtain ⟨us, e1, rfl⟩ := map_some (show (frzOs os).map _ = _ from e)
    obtain ⟨n1, n2⟩ := List.nodup_cons.mp n
    obtain ⟨H1, I1, r1, k1, s1, t1⟩ := frzs I r n2 e1
    have h1 : H1 a = some (.lst xs) := (s1 a n1).trans h
    obtain ⟨od, I2⟩ := I1.lock h1 trivial
    refine ⟨_, I2, .lst (.inl ⟨od, upd_same⟩) (r1.mono (kp_frz h1)), k1.trans (kp_frz h1), fun x hx => ?_, fun x hx => ?_⟩
    · rw [List.mem_cons, not_or] at hx
      rw [upd_ne hx.1]
      exact s1 x hx.2
    · by_cases z : x = a
      · exact ⟨_, by rw [z]; exact upd_same⟩
      · rw [upd_ne z]; exact t1 x hx
theorem frzs : ∀ {H : Hp} {vs : List V} {os : List O} {A : List Addr} {us : List U}, Inv X pins σ H s → ROs g H vs os A → A.Nodup → frzOs os = some us → ∃ H', Inv X pins σ H' s ∧ RUs g H' vs us ∧ Kp g H H' ∧ (∀ x, x ∉ A → H' x = H x) ∧ ∀ x, (∃ o, H x = some o) → ∃ o, H' x = some o
  | H, _, _, _, _, I, .nil, _, e => by cases e; exact ⟨H, I, .nil, Kp.refl H, fun _ _ => rfl, fun _ h => h⟩
  | H, _, _, _, _, I, .cons (o := o) (os := os) (A := A) (B := B) r rs, n, e => by
    unfold frzOs at e
    cases e1 : frzO o with
    | none => rw [e1] at e; cases e
    | some u =>
      rw [e1] at e
      obtain ⟨us, e2, rfl⟩ := map_some (show (frzOs os).map _ = _ from e)
      obtain ⟨n1, n2, n3⟩ := List.nodup_append.mp n
      obtain ⟨H1, I1, r1, k1, s1, t1⟩ := frz I r n1 e1
      have rs1 := ROs.mono k1 rs fun x m => s1 x fun z => n3 x z x m rfl
      obtain ⟨H2, I2, r2, k2, s2, t2⟩ := frzs I1 rs1 n2 e2
      refine ⟨H2, I2, .cons (r1.mono k2) r2, k1.trans k2, fun x hx => ?_, fun x hx => t2 x (t1 x hx)⟩
      rw [List.mem_append, not_or] at hx
      exact (s2 x hx.2).trans (s1 x hx.1)
end
def frzR : R → Option R
  | .im u => some (.im u)
  | .fr o => (frzO o).map .im
  | .br _ => none
def pFrz (p : PEx) : PEx := fun ρ => (p ρ).bind fun r => .opt (frzR r)
theorem ue_frz {e : Expr} {p : PEx} (h : PE X e (lE g W t p)) : PE X e (lE g W t (pFrz p)) := by
  refine ⟨fun pins s σ H Q I hq => ?_⟩
  obtain ⟨ρ, sS, hq⟩ := hq
  refine thn (h.run pins s σ H (fun v H1 => ∃ r A r', Ext g H H1 ∧ BoxR g H1 ∧ RV g H1 v r A ∧ A.Nodup ∧ (∀ a ∈ A, H a = none) ∧ frzR r = some r' ∧ ∀ v H' A, Ext g H H' → BoxR g H' → RV g H' v r' A → A.Nodup → (∀ a ∈ A, H a = none) → Q v H') I
    ⟨ρ, sS, post_mono (fun r hr v H1 A x1 b1 r1 n1 f1 => ?_) (fun e x => x) (post_bind.mp hq)⟩) fun w s1 ⟨v, H1, I1, rv, r, A, r', x1, b1, r1, n1, f1, e1, q⟩ => ?_
  · obtain ⟨r', e1, q⟩ := post_opt hr
    exact ⟨r, A, r', x1, b1, r1, n1, f1, e1, q⟩
  · cases r with
    | im u => cases e1; exact ⟨v, H1, I1, rv, q v H1 A x1 b1 r1 n1 f1⟩
    | br xs => cases e1
    | fr o =>
      obtain ⟨u, e2, rfl⟩ := map_some (show (frzO o).map _ = _ from e1)
      obtain ⟨H2, I2, ru, k2, s2, _⟩ := frz I1 r1.1 n1 e2
      refine ⟨v, H2, I2, rv, q v H2 [] ⟨fun x o h nb => ?_, x1.kp.trans k2⟩ (fun b c hb => ?_) ⟨rfl, ru⟩ List.nodup_nil fun x m => nomatch m⟩
      · rw [s2 x fun m => by rw [f1 x m] at h; cases h]
        exact x1.sm x o h nb
      · obtain ⟨ne, cs, i, d, sd, n, h1, h2, h3⟩ := b1 b c hb
        exact ⟨ne, cs, i, d, sd, n, (s2 b fun m => (r1.2 b m b c hb).1 rfl).trans h1, (s2 c fun m => (r1.2 c m b c hb).2 rfl).trans h2, h3⟩
/-! ### a name's tree is frozen -/
theorem Slots.take {H : Hp} : ∀ {σ : List (Option V)} {ρ : List Sl} {A : List Addr} {i : Nat} {o : O}, Slots g H σ ρ A → A.Nodup → ρ[i]? = some (.ow o) →
    ∃ v B A', σ[i]? = some (some v) ∧ RO g H v o B ∧ B.Nodup ∧ (∀ x ∈ B, x ∈ A) ∧ Slots g H σ (ρ.set i .un) A' ∧ A'.Sublist A ∧ ∀ x ∈ A', x ∉ B
  | _, _, _, _, _, .nil, _, e => by simp at e
  | _, _, _, 0, _, .un h, _, e => by simp at e
  | _, _, _, 0, _, .im r h, _, e => by simp at e
  | _, _, _, 0, _, .ow (A := A) (B := B) r h, n, e => by
    simp at e; subst e
    obtain ⟨n1, n2, n3⟩ := List.nodup_append.mp n
    exact ⟨_, A, B, rfl, r, n1, fun x m => List.mem_append_left _ m, .un h, List.sublist_append_right _ _, fun x m z => n3 x z x m rfl⟩
  | _, _, _, i + 1, _, .un h, n, e => by
    obtain ⟨v, B, A', h1, h2, h3, h4, h5, h6, h7⟩ := h.take (i := i) n (by simpa using e)
    exact ⟨v, B, A', by simpa using h1, h2, h3, h4, .un h5, h6, h7⟩
  | _, _, _, i + 1, _, .im r h, n, e => by
    obtain ⟨v, B, A', h1, h2, h3, h4, h5, h6, h7⟩ := h.take (i := i) n (by simpa using e)
    exact ⟨v, B, A', by simpa using h1, h2, h3, h4, .im r h5, h6, h7⟩
  | _, _, _, i + 1, _, .ow (A := A1) r h, n, e => by
    obtain ⟨n1, n2, n3⟩ := List.nodup_append.mp n
    obtain ⟨v, B, A', h1, h2, h3, h4, h5, h6, h7⟩ := h.take (i := i) n2 (by simpa using e)
    refine ⟨v, B, A1 ++ A', by simpa using h1, h2, h3, fun x m => List.mem_append_right _ (h4 x m), .ow r h5, List.Sublist.append_left h6 _, fun x m z => ?_⟩
    rcases List.mem_append.mp m with q | q
    · exact n3 x q x (h4 x z) rfl
    · exact h7 x q z
theorem set_self {σ : L2.St} {i : Nat} {v : V} (h : σ[i]? = some (some v)) : σ.set i (some v) = σ := by
  apply List.ext_getElem?
  intro j
  by_cases e : i = j
  · subst e
    rw [List.getElem?_set_self', h]
    rfl
  · rw [List.getElem?_set_ne e]
def pFz (i : Nat) (p : PSt) : PSt := fun ρ =>
  match ρ[i]? with
  | some (.ow o) => (Res.opt (frzO o)).bind fun u => p (ρ.set i (.im u))
  | _ => p ρ
theorem us_fz {st : Stmt} {p : PSt} {i : Nat} (h : PS X st (lS g W t p)) : PS X st (lS g W t (pFz i p)) := by
  refine ⟨fun pins s σ H D I hq => ?_⟩
  obtain ⟨ρ, sS, hq⟩ := hq
  have other : (p ρ).post (oS g t D H) (xS g W t H) → wpAny (model X.prog X.w) X.A (exec st X.env) (SP X pins D) X.xe s := fun hq => h.run pins s σ H D I ⟨ρ, sS, hq⟩
  unfold pFz at hq
  cases e : ρ[i]? with
  | none => rw [e] at hq; exact other hq
  | some sl =>
    rw [e] at hq
    cases sl with
    | un => exact other hq
    | im u => exact other hq
    | ow o =>
      obtain ⟨u, e2, hq⟩ := post_opt (post_bind.mp hq)
      obtain ⟨A, h1, h2, h3⟩ := sS.sl
      obtain ⟨v, B, A', g1, g2, g3, g4, g5, g6, g7⟩ := h1.take h2 e
      obtain ⟨H2, I2, ru, k2, s2, t2⟩ := frz I g2 g3 e2
      have g5' := g5.mono k2 fun a m => s2 a (g7 a m)
      obtain ⟨A2, g8, g9⟩ := g5'.setIm ru i
      rw [set_self g1, List.set_set] at g8
      have nb : ∀ x ∈ B, (x ∈ t.M ∨ t.H0 x = none) ∧ Nb g x := fun x m => h3 x (g4 x m)
      refine h.run pins s σ H2 D I2 ⟨_, ⟨⟨A2, g8, (g9.trans g6).nodup h2, fun a m => h3 a ((g9.trans g6).subset m)⟩, fun b c hb => ?_, fun x o hx m => ?_, sS.kp.trans k2, fun x o hx => t2 x (sS.th x o hx), sS.ps, sS.bm, fun p m => (sS.xd p m).mono k2⟩, post_mono (fun o ho => oS.back k2 ho) (fun e x => x.back k2) hq⟩
      · obtain ⟨ne, cs, i, d, sd, n, q1, q2, q3⟩ := sS.bx b c hb
        exact ⟨ne, cs, i, d, sd, n, (s2 b fun m => ((nb b m).2 b c hb).1 rfl).trans q1, (s2 c fun m => ((nb c m).2 b c hb).2 rfl).trans q2, q3⟩
      · have hb : x ∉ B := fun z => by
          rcases (nb x z).1 with q | q
          · exact m q
          · rw [q] at hx; cases hx
        exact (s2 x hb).trans (sS.fr x o hx m)
end
/-! ### a def -/
def runF (body : PSt) (m : Nat) (us : List U) : Res R := (body (us.map .im ++ List.replicate m .un)).bind fun o => match o with
  | .nx _ => .ok (.im .non)
  | .rt r _ => .ok r
  | _ => .st
def boxM (g : G) : List Addr :=
  match g.bad with
  | some (b, _) => [b]
  | none => []
theorem slots_un {g : G} {H : Hp} : ∀ m : Nat, Slots g H (List.replicate m none) (List.replicate m .un) []
  | 0 => .nil
  | m + 1 => .un (slots_un m)
theorem slots_args {g : G} {H : Hp} {m : Nat} : ∀ {vs : List V} {us : List U}, RUs g H vs us → Slots g H (vs.map some ++ List.replicate m none) (us.map .im ++ List.replicate m .un) []
  | _, _, .nil => slots_un m
  | _, _, .cons a b => .im a (slots_args b)
end Rl
/-! Rl: a def by its reading. -/
namespace Rl
open PySem PySem.Spec PyProof.Rows L2 Wn
section
variable {P : Program} {w : World} {mg : Str → Option Value} {base : Heap} {g : G}
theorem S.start {H : Hp} {vs : List V} {us : List U} {N : List Str} {m : Nat} (r : RUs g H vs us) (b : BoxR g H) (hm : N.length - vs.length = m) : S g ⟨H, boxM g, [], []⟩ (us.map .im ++ List.replicate m .un) (L2.start N vs) H where
  sl := ⟨[], by unfold L2.start; rw [hm]; exact slots_args r, List.nodup_nil, fun a m => nomatch m⟩
  bx := b
  fr := fun _ _ h _ => h
  kp := Kp.refl H
  th := fun _ o h => ⟨o, h⟩
  ps := fun p m => nomatch m
  bm := fun b c h => by show b ∈ boxM g; unfold boxM; rw [h]; exact .head _
  xd := fun p m => nomatch m
theorem S.ext {H H' : Hp} {ρ : Env} {σ : L2.St} (s : S g ⟨H, boxM g, [], []⟩ ρ σ H') : Ext g H H' where
  sm := fun x o h nb => s.fr x o h fun m => by
    have m : x ∈ boxM g := m
    unfold boxM at m
    cases hb : g.bad with
    | none => rw [hb] at m; cases m
    | some p =>
      rw [hb] at m
      obtain ⟨b, c⟩ := p
      exact nb b c hb (List.mem_singleton.mp m)
  kp := s.kp
/-- a def does what its reading does -/
theorem fn_ok {x qual : Str} {st : Stmt} {f : Addr} {fd : FuncData} {N ps : List Str} {k n m : Nat} {body : PSt} (F : Fun g.K x qual st f fd) (Sc : FnScope N ps (defScope st)) (hn : ps.length = n) (hN : N.length = n + m)
    (hb : ∀ (cdv : Value) (A : Around) (outer : List PySem.Env) (s : Shared) (H : Hp) (E : XK), Room k (A.deeper (envOfC qual (defScope st) s.heap.objs.size f cdv)) →
      PSs (cxOf (L2.CX P w) P w g.K mg base N qual (defScope st) f cdv A outer s H E) (defBody st) (lS g (fun c d _ H' => E c d H') ⟨H, boxM g, [], []⟩ body)) :
    FnOk P w g.K mg base (L2.CX P w) (k + 1) f fd ps (spF g n (runF body m)) := by
  refine F.okX Sc (fun vs H Q E h => ?_) (fun cdv A outer s H vs Q E hr h => ?_)
  · obtain ⟨us, r, hl, _⟩ := h
    rw [r.len, hl, hn]
  · obtain ⟨us, r, hl, b, h⟩ := h
    refine ⟨_, hb cdv A outer s H E hr, _, S.start r b (m := m) (by rw [r.len, hl, hN]; omega), post_mono (fun o ho => ?_) (fun e x => ?_) (post_bind.mp h)⟩
    · cases o with
      | nx ρ => exact fun σ' H' k s => ho .non H' [] s.ext s.bx ⟨rfl, .non⟩ List.nodup_nil fun x m => nomatch m
      | rt r ρ => exact fun v σ' H' A k s rv nd f => ho v H' A s.ext s.bx rv nd f
      | bk ρ => exact ho.elim
      | ct ρ => exact ho.elim
    · exact fun dd ρ σ' H' k s d => x dd H' s.ext s.bx d
end
end Rl
/-! Rl: chains, raises, more operations. -/
namespace Rl
open PySem PySem.Spec PyProof.Rows L2 Wn
def pCh (f f' : R → R → Option R) (pa pb pc : PEx) : PEx := fun ρ => (pa ρ).bind fun a => (pb ρ).bind fun b => (Res.opt ((f a b).bind bR)).bind fun k => if k = true then (pc ρ).bind fun c => .opt (f' b c) else .ok (.im (.bl false))
section
variable {g : G} {W : WX} {t : Fr} {X : Cx} {pos : Pos} {a b c : Expr} {pa pb pc : PEx} {pas : PAs} {σ : L2.St} {H H1 : Hp}
theorem lch {r r' : R2} {f f' : R → R → Option R} (s : Snd2 g r f) (s' : Snd2 g r' f') {Q : VK} (h : lE g W t (pCh f f' pa pb pc) σ H Q) : tChain r r' (lE g W t pa) (lE g W t pb) (lE g W t pc) σ H Q := by
  obtain ⟨ρ, sS, h⟩ := h
  refine ⟨ρ, sS, post_mono (fun a ha => ?_) (fun e x => x) (post_bind.mp h)⟩
  intro v H1 A x1 b1 r1 n1 f1
  refine ⟨ρ, sS.mono x1 b1, post_mono (fun b hb => ?_) (fun e x => x.back x1) (post_bind.mp ha)⟩
  intro w H2 B x2 b2 r2 n2 f2
  obtain ⟨k, ek, hb⟩ := post_opt (post_bind.mp hb)
  cases e1 : f a b with
  | none => rw [e1] at ek; cases ek
  | some z =>
    rw [e1] at ek
    refine s H2 v w a b z A B _ b2 (r1.mono x2) r2 e1 fun z' H3 C s3 r3 n3 f3 => ⟨k, bR_of r3 ek, ?_⟩
    have x3 : Ext g H H3 := (x1.trans x2).trans (.of s3)
    have b3 := b2.same s3
    cases k with
    | false => exact hb (.bl false) H3 [] x3 b3 ⟨rfl, .bl _⟩ List.nodup_nil fun x m => nomatch m
    | true =>
      refine ⟨ρ, sS.mono x3 b3, post_mono (fun c hc => ?_) (fun e x => x.back x3) (post_bind.mp hb)⟩
      intro y H4 D x4 b4 r4 n4 f4
      obtain ⟨u, eu, q⟩ := post_opt hc
      exact s' H4 w y b c u B D Q b4 ((r2.mono (.of s3)).mono x4) r4 eu fun z' H5 C s5 r5 n5 f5 => q z' H5 C ((x3.trans x4).trans (.of s5)) (b4.same s5) r5 n5 fun y m => (x3.trans x4).back b4 (f5 y m)
theorem ue_ch {op op' : CmpOp} {r r' : R2} {f f' : R → R → Option R} (ho : OpR X (compareOp op) r) (s : Snd2 g r f) (ho' : OpR X (compareOp op') r') (s' : Snd2 g r' f') (ha : PE X a (lE g W t pa)) (hb : PE X b (lE g W t pb)) (hc : PE X c (lE g W t pc))
    (h : PE X b (lE g W t pb) → PE X c (lE g W t pc) → PE X (.Compare a [op, op'] [b, c] pos) (tChain r r' (lE g W t pa) (lE g W t pb) (lE g W t pc))) : PE X (.Compare a [op, op'] [b, c] pos) (lE g W t (pCh f f' pa pb pc)) := PE.imp (h hb hc) fun _ _ _ h => lch s s' h
theorem ut_ch {op op' : CmpOp} {r r' : R2} {f f' : R → R → Option R} (s : Snd2 g r f) (s' : Snd2 g r' f') (h : PT X (.Compare a [op, op'] [b, c] pos) (tTest (tChain r r' (lE g W t pa) (lE g W t pb) (lE g W t pc)))) : PT X (.Compare a [op, op'] [b, c] pos) (lT g W t (pTs (pCh f f' pa pb pc))) :=
  PT.imp h fun _ _ _ h => test_imp (te' := lE g W t (pCh f f' pa pb pc)) (fun _ _ _ => lch s s') (lts h)
theorem ue_chE {op op' : CmpOp} {r r' : R2} {f f' : R → R → Option R} (s : Snd2 g r f) (s' : Snd2 g r' f') (h : PE X (.Compare a [op, op'] [b, c] pos) (tChain r r' (lE g W t pa) (lE g W t pb) (lE g W t pc))) : PE X (.Compare a [op, op'] [b, c] pos) (lE g W t (pCh f f' pa pb pc)) := PE.imp h fun _ _ _ h => lch s s' h
end
/-! ### texts -/
def fS (f : Str → Str → U) (a b : R) : Option R := (sR a).bind fun x => (sR b).map fun y => .im (f x y)
theorem fS_of {f : Str → Str → U} {a b c : R} (e : fS f a b = some c) : ∃ x y, sR a = some x ∧ sR b = some y ∧ c = .im (f x y) := by
  unfold fS at e
  cases h1 : sR a with
  | none => rw [h1] at e; cases e
  | some x =>
    rw [h1] at e
    obtain ⟨y, h2, rfl⟩ := map_some (show (sR b).map _ = some c from e)
    exact ⟨x, y, rfl, h2, rfl⟩
theorem snd_S {g : G} {k : Str → Str → V} {f : Str → Str → U} (hk : ∀ H x y, RU g H (k x y) (f x y)) : Snd2 g (fun x y H Q => ∃ i j, x = .str i ∧ y = .str j ∧ Q (k i j) H) (fS f) := by
  intro H v w a b c A B Q bx ra rb e q
  obtain ⟨x, y, e1, e2, rfl⟩ := fS_of e
  exact ⟨x, y, sR_of ra e1, sR_of rb e2, imQ q (hk H x y)⟩
def pLeS := fS fun i j => .bl (!decide (j.cps.toList < i.cps.toList))
def pLtS := fS fun i j => .bl (decide (i.cps.toList < j.cps.toList))
def pInS := fS fun i j => .bl (!(Builtin.Str.occurrences j i 0 j.length 1).isEmpty)
def pNinS := fS fun i j => .bl (!(!(Builtin.Str.occurrences j i 0 j.length 1).isEmpty))
theorem snd_leS {g : G} : Snd2 g (fun x y H Q => ∃ i j, x = .str i ∧ y = .str j ∧ Q (.bl (!decide (j.cps.toList < i.cps.toList))) H) pLeS := snd_S fun _ _ _ => .bl _
theorem snd_inS {g : G} : Snd2 g (fun x y H Q => ∃ i j, x = .str i ∧ y = .str j ∧ Q (.bl (!(Builtin.Str.occurrences j i 0 j.length 1).isEmpty)) H) pInS := snd_S fun _ _ _ => .bl _
theorem snd_ninS {g : G} : Snd2 g (fun x y H Q => ∃ i j, x = .str i ∧ y = .str j ∧ Q (.bl (!(!(Builtin.Str.occurrences j i 0 j.length 1).isEmpty))) H) pNinS := snd_S fun _ _ _ => .bl _
/-! ### all of + and * -/
def rAddU (K : PySem.W.Frag) : R2 := fun x y H Q => (∃ i j, x = .int i ∧ y = .int j ∧ Q (.int (i + j)) H) ∨ (∃ i j, x = .str i ∧ y = .str j ∧ i.length + j.length ≤ sizeLine ∧ Q (.str (i ++ j)) H) ∨ rCatP K x y H Q ∨ rCat x y H Q
theorem op_addU {X : Cx} {K : PySem.W.Frag} (e : X.K = K) : OpR X (binaryOp .Add) (rAddU K) := by
  subst e
  exact op_add.or (op_add_str.or ((op_catP rfl).or op_cat))
/-- a list that may be put together: owned, or new -/
def ownL : R → Option (List U)
  | .br xs => some xs
  | .fr (.ol os) => leafs os
  | _ => none
def pAddL (a b : R) : Option R := (ownL a).bind fun x => (ownL b).bind fun y => if x.length + y.length ≤ 100000 then some (.fr (.ol ((x ++ y).map .lf))) else none
def pAdd (a b : R) : Option R := (pAddI a b).or ((pAddS a b).or (pAddT a b))
theorem Snd2.imp {g : G} {r r' : R2} {f : R → R → Option R} (h : Snd2 g r f) (i : ∀ x y H Q, r x y H Q → r' x y H Q) : Snd2 g r' f := fun H v w a b c A B Q bx ra rb e q => i _ _ _ _ (h H v w a b c A B Q bx ra rb e q)
theorem snd_add {g : G} : Snd2 g (rAddU g.K) pAdd := (snd_addI.or (snd_addS.or snd_addT)).imp fun x y H Q h => by
  rcases h with h | h | h
  · exact .inl h
  · exact .inr (.inl h)
  · exact .inr (.inr (.inl h))
def rMulU (K : PySem.W.Frag) : R2 := fun x y H Q => rI CMul (fun i j => .int (i * j)) x y H Q ∨ rMulP K x y H Q
theorem op_mulU {X : Cx} {K : PySem.W.Frag} (e : X.K = K) : OpR X (binaryOp .Mult) (rMulU K) := op_mul.or (op_mulP e)
def pMulT (a b : R) : Option R := (tupR a).bind fun us => (iR b).bind fun k => match us with
  | [u] => if 1 ≤ k ∧ k ≤ 1000 then some (.im (.tup (List.replicate k.toNat u))) else none
  | u :: w :: us => if 1 ≤ k ∧ k ≤ 1000 ∧ us.length ≤ 900 then some (.im (.tup (List.replicate k.toNat (u :: w :: us)).flatten)) else none
  | _ => none
def pMul (a b : R) : Option R := (pMulI a b).or (pMulT a b)
theorem RUs.rep {g : G} {H : Hp} {v : V} {u : U} (h : RU g H v u) : ∀ n : Nat, RUs g H (List.replicate n v) (List.replicate n u)
  | 0 => .nil
  | n + 1 => .cons h (RUs.rep h n)
theorem RUs.flat {g : G} {H : Hp} {vs : List V} {us : List U} (h : RUs g H vs us) : ∀ n : Nat, RUs g H (List.replicate n vs).flatten (List.replicate n us).flatten
  | 0 => .nil
  | n + 1 => by
    rw [List.replicate_succ, List.replicate_succ, List.flatten_cons, List.flatten_cons]
    exact h.append (RUs.flat h n)
theorem snd_mulT {g : G} : Snd2 g (rMulP g.K) pMulT := by
  intro H v w a b c A B Q bx ra rb e q
  unfold pMulT at e
  cases h1 : tupR a with
  | none => rw [h1] at e; cases e
  | some us =>
    cases h2 : iR b with
    | none => rw [h1, h2] at e; cases e
    | some k =>
      rw [h1, h2] at e
      match us, e, h1 with
      | [u], e, h1 =>
        change (if _ then _ else _) = _ at e
        by_cases hk : 1 ≤ k ∧ k ≤ 1000
        · rw [if_pos hk] at e
          cases e
          obtain ⟨p, vs, rfl, h3, h4⟩ := ra.ptp h1
          cases h4 with
          | cons r1 r2 =>
            cases r2
            rw [iR_of rb h2]
            obtain ⟨j, rfl⟩ : ∃ j : Nat, k = (j : Int) := ⟨k.toNat, by omega⟩
            exact r_mulP h3 (by simp) (by show 1 ≤ 1000; decide) (by omega) (by omega) fun p H' s h5 => imQ' q s (.tup (by rw [List.flatten_replicate_singleton] at h5; exact h5) (RUs.rep (r1.mono (kp_same s)) _))
        · rw [if_neg hk] at e; cases e
      | u :: w' :: us, e, h1 =>
        change (if _ then _ else _) = _ at e
        by_cases hk : 1 ≤ k ∧ k ≤ 1000 ∧ us.length ≤ 900
        · rw [if_pos hk] at e
          cases e
          obtain ⟨p, vs, rfl, h3, h4⟩ := ra.ptp h1
          rw [iR_of rb h2]
          obtain ⟨j, rfl⟩ : ∃ j : Nat, k = (j : Int) := ⟨k.toNat, by omega⟩
          have hl := h4.len
          rw [List.length_cons, List.length_cons] at hl
          exact r_mulP h3 (by intro e; rw [e] at hl; cases hl) (by omega) (by omega) (by omega) fun p H' s h5 => imQ' q s (.tup h5 ((h4.mono (kp_same s)).flat _))
        · rw [if_neg hk] at e; cases e
theorem snd_mul {g : G} : Snd2 g (rMulU g.K) pMul := snd_mulI.or snd_mulT
/-! ### raises -/
def pRz (c n : Nat) (pas : PAs) : PSt := fun ρ => (pas ρ).bind fun rs => (Res.opt (if rs.length = n then imRs rs else none)).bind fun us => .ex ⟨c, us.reverse⟩
section
variable {g : G} {W : WX} {t : Fr} {X : Cx} {pos : Pos} {pas : PAs}
theorem us_raise1 {st : Stmt} {c : Nat} {f : Str} (hn : (g.xt c).ns = [f]) (h : PS X st (fun _ σ H => tMkO (g.xt c).C (spE1 (g.xt c).C f) [] (lA g W t pas) σ H fun cls d H' => W cls d σ H')) : PS X st (lS g W t (pRz c 1 pas)) := by
  refine PS.imp h fun D σ H h => ?_
  obtain ⟨ρ, sS, h⟩ := h
  refine ⟨ρ, sS, post_mono (fun rs hr vs H1 A x1 b1 r1 n1 f1 => ?_) (fun e x => x.wx sS) (post_bind.mp h)⟩
  obtain ⟨us, eu, hx⟩ := post_opt (post_bind.mp hr)
  obtain ⟨ru, hl⟩ := args_of r1 eu
  match us, hl, ru with
  | [u], _, .cons r .nil =>
    exact mk_one (C := (g.xt c).C) (f := f) (Q := fun cls d H' => W cls d σ H') fun d H' s hd hf => hx (some d) ρ σ H' (x1.kp.trans (kp_same s)) (sS.mono (x1.trans (.of s)) (b1.same s)) (.of hf (by rw [show (g.xt _).ns = _ from hn]; rfl) (.cons (r.mono (kp_same s)) .nil))
theorem us_raise2 {st : Stmt} {c : Nat} {f f' : Str} (hn : (g.xt c).ns = [f', f]) (h : PS X st (fun _ σ H => tMkO (g.xt c).C (spE2 (g.xt c).C f f') [] (lA g W t pas) σ H fun cls d H' => W cls d σ H')) : PS X st (lS g W t (pRz c 2 pas)) := by
  refine PS.imp h fun D σ H h => ?_
  obtain ⟨ρ, sS, h⟩ := h
  refine ⟨ρ, sS, post_mono (fun rs hr vs H1 A x1 b1 r1 n1 f1 => ?_) (fun e x => x.wx sS) (post_bind.mp h)⟩
  obtain ⟨us, eu, hx⟩ := post_opt (post_bind.mp hr)
  obtain ⟨ru, hl⟩ := args_of r1 eu
  match us, hl, ru with
  | [u, u'], _, .cons r (.cons r' .nil) =>
    exact mk_two (C := (g.xt c).C) (f := f) (g := f') (Q := fun cls d H' => W cls d σ H') fun d H' s hd hf => hx (some d) ρ σ H' (x1.kp.trans (kp_same s)) (sS.mono (x1.trans (.of s)) (b1.same s)) (.of hf (by rw [show (g.xt _).ns = _ from hn]; rfl) (.cons (r'.mono (kp_same s)) (.cons (r.mono (kp_same s)) .nil)))
end
end Rl
/-! Rl: texts walked, sets of texts, objects made. -/
namespace Rl
open PySem PySem.Spec PyProof.Rows L2 Wn
section
variable {g : G} {W : WX} {t : Fr} {X : Cx} {pos : Pos} {a b c : Expr} {pa pb pc : PEx} {pas pks : PAs} {σ : L2.St} {H H1 : Hp}
/-! ### [.. for x in text] -/
def strR (r : R) : Option (List U) := (sR r).map strU
theorem strU_at {x : Str} {i : Nat} {k : Nat} (h : x.cps[i]? = some k) : (strU x)[i]? = some (.str ⟨#[k]⟩) := by
  unfold strU
  rw [List.getElem?_map, Array.getElem?_toList, h]
  rfl
theorem strU_len (x : Str) : (strU x).length = x.cps.size := by unfold strU; rw [List.length_map]; rfl
variable {e : Expr} {tg : Tg} {cond : PTs'} {elt : PEx} {vs : List Nat}
theorem llcS (hix : ∀ i ∈ tg.ix, i ∈ vs) (hps : ∀ p ∈ t.ps, p.1 ∉ vs) {Q : VK} (h : lE g W t (pLC strR tg cond elt vs pa) σ H Q) : tLc (iStr (lE g W t pa)) (lG g t tg) (lT g W0 t cond) (lE g W0 t elt) vs σ H Q := by
  obtain ⟨ρ, sS, h⟩ := h
  refine ⟨ρ, sS, post_mono (fun r hr v H1 A x1 b1 r1 n1 f1 => ?_) (fun e x => x) (post_bind.mp h)⟩
  obtain ⟨us, e1, hr⟩ := post_opt (post_bind.mp hr)
  obtain ⟨hl, hr⟩ := lc_fin hr
  obtain ⟨x, e2, rfl⟩ := map_some e1
  refine ⟨x, sR_of r1 e2, fun D nD => lc_text (z := x) (LcP g H1 D (mapR (bindT tg) cond elt (wipeE ρ vs)) (strU x) _) (lc_start b1 nD hr) (fun i k H' hk hp => lc_turn hix hps hl (sS.mono x1 b1) nD (strU_at hk) (.str _) hp) (fun H' hp => ?_)⟩
  exact lc_done (m := mapR (bindT tg) cond elt (wipeE ρ vs)) (us := strU x) b1 nD rfl hp (strU_len x).symm fun ys hF v H'' A x2 b2 r2 n2 f2 => hF v H'' A (x1.trans x2) b2 r2 n2 fun y m => x1.back b1 (f2 y m)
theorem ue_lcS (hix : ∀ i ∈ tg.ix, i ∈ vs) (hps : ∀ p ∈ t.ps, p.1 ∉ vs) (h : PE X e (tLc (iStr (lE g W t pa)) (lG g t tg) (lT g W0 t cond) (lE g W0 t elt) vs)) : PE X e (lE g W t (pLC strR tg cond elt vs pa)) := PE.imp h fun _ _ _ h => llcS hix hps h
/-! ### len(set(texts)) -/
def txts : List U → Option (List Str)
  | [] => some []
  | .str x :: us => (txts us).map fun xs => x :: xs
  | _ :: _ => none
theorem txts_of : ∀ {vs : List V} {us : List U} {xs : List Str}, RUs g H vs us → txts us = some xs → vs = xs.map V.str
  | _, _, _, .nil, e => by cases e; rfl
  | _, _, _, .cons (u := .str b) (us := us) h k, e => by
    obtain ⟨bs, e1, rfl⟩ := map_some (show (txts us).map _ = _ from e)
    cases h
    rw [txts_of k e1]
    rfl
def lenSetR (a : R) : Option R := (seqR a).bind fun us => (txts us).bind fun xs => if xs.length ≤ 1000 then some (.im (.int (WnSet.cnt xs xs.length))) else none
theorem ue_lenSet (h : PE X e (tLenSetN g.K (lE g W t pa))) : PE X e (lE g W t (pUn lenSetR pa)) := by
  refine PE.imp h fun σ H Q h => ?_
  obtain ⟨ρ, sS, h⟩ := h
  refine ⟨ρ, sS, post_mono (fun r hr v H1 A x1 b1 r1 n1 f1 => ?_) (fun e x => x) (post_bind.mp h)⟩
  obtain ⟨c, e1, q⟩ := post_opt hr
  unfold lenSetR at e1
  cases e2 : seqR r with
  | none => rw [e2] at e1; cases e1
  | some us =>
    rw [e2] at e1
    change (txts us).bind _ = some c at e1
    cases e3 : txts us with
    | none => rw [e3] at e1; cases e1
    | some xs =>
      rw [e3] at e1
      change (if _ then _ else _) = _ at e1
      by_cases hl : xs.length ≤ 1000
      · rw [if_pos hl] at e1
        cases e1
        obtain ⟨p, ws, rfl, h2, h3, _⟩ := seqR_of r1 e2
        have e4 := txts_of h3 e3
        subst e4
        exact ⟨p, xs, rfl, h2, hl, q _ H1 [] x1 b1 ⟨rfl, .int _⟩ List.nodup_nil fun x m => nomatch m⟩
      · rw [if_neg hl] at e1; cases e1
/-! ### self.f = e -/
def fldO (c k i : Nat) (r : R) (ρ : Env) : Option Env :=
  match ρ[i]? with
  | some (.ow (.oi c' os)) => if c' = c ∧ os.length = k then (ownR r).map fun o => ρ.set i (.ow (.oi c (os ++ [o]))) else none
  | _ => none
def pFld (c k i : Nat) (p : PEx) : PSt := fun ρ => (p ρ).bind fun r => (Res.opt (fldO c k i r ρ)).bind fun ρ' => .ok (.nx ρ')
theorem putF_new {f : Str} {v : V} : ∀ {fs : List (Str × V)}, f ∉ fs.map Prod.fst → putF f v fs = fs ++ [(f, v)]
  | [], _ => rfl
  | (n, x) :: fs, h => by
    rw [List.map_cons, List.mem_cons, not_or] at h
    rw [show putF f v ((n, x) :: fs) = (if n = f then (n, v) :: fs else (n, x) :: putF f v fs) from rfl, if_neg (Ne.symm h.1), putF_new h.2]
    rfl
theorem ROs.append {g : G} {H : Hp} {v : V} {o : O} {B : List Addr} (r : RO g H v o B) : ∀ {vs : List V} {os : List O} {A : List Addr}, ROs g H vs os A → ROs g H (vs ++ [v]) (os ++ [o]) (A ++ B)
  | _, _, _, .nil => by have h := ROs.cons r .nil; rw [List.append_nil] at h; exact h
  | _, _, _, .cons a k => by rw [List.append_assoc]; exact .cons a (ROs.append r k)
theorem ROs.len {g : G} {H : Hp} : ∀ {vs : List V} {os : List O} {A : List Addr}, ROs g H vs os A → vs.length = os.length
  | _, _, _, .nil => rfl
  | _, _, _, .cons _ k => by rw [List.length_cons, List.length_cons, k.len]
/-- the class is changed nowhere but while it is made -/
structure Own (g : G) (c : Nat) : Prop where
  cls : Cls g.K (g.ct c).C
  na : ∀ f ∈ (g.ct c).ns, NoAttr g.K (g.ct c).C f
  nd : (g.ct c).ns.Nodup
  sh : (g.ct c).ns.length < 1000
  st : ∀ c' ∈ g.im, (g.ct c').C = (g.ct c).C → (g.ct c').ns.length = (g.ct c).ns.length
theorem kp_of {a : Addr} {o u : HO} (h : H a = some o) (n : ¬ Stay g o) : Kp g H (upd H a u) := fun x w hx st => by
  refine (upd_ne fun z => ?_).trans hx
  rw [z, h] at hx
  cases hx
  exact n st
theorem us_fld {st : Stmt} {f : Str} {k i j : Nat} (ok : Own g k) (hf : (g.ct k).ns[j]? = some f) (h : PS X st (sFld g.K (tVar i) (lE g W t pa) f)) : PS X st (lS g W t (pFld k j i pa)) := by
  refine PS.imp h fun D σ H h => ?_
  obtain ⟨ρ, sS, h⟩ := h
  refine ⟨ρ, sS, post_mono (fun r hr v H1 A x1 b1 r1 n1 f1 => ?_) (fun e x => x.wx sS) (post_bind.mp h)⟩
  obtain ⟨ρ', e, q⟩ := post_opt (post_bind.mp hr)
  unfold fldO at e
  cases e1 : ρ[i]? with
  | none => rw [e1] at e; cases e
  | some sl =>
    rw [e1] at e
    cases sl with
    | un => cases e
    | im u => cases e
    | ow o0 =>
     cases o0 with
     | lf u => cases e
     | ol os => cases e
     | oi c' os =>
      change (if _ then _ else _) = _ at e
      by_cases hk : c' = k ∧ os.length = j
      · rw [if_pos hk] at e
        obtain ⟨rfl, rfl⟩ := hk
        obtain ⟨o, e2, rfl⟩ := map_some e
        obtain ⟨ro, nb⟩ := own_of r1 e2
        obtain ⟨A0, s1, s2, s3⟩ := sS.sl
        obtain ⟨w, B, A', g1, g2, g3, g4, g5, g6, g7⟩ := s1.take s2 e1
        have nbB : ∀ x ∈ B, Nb g x := fun x m => (s3 x (g4 x m)).2
        have g2' := g2.ext x1 nbB
        have g5' : Slots g H1 σ (ρ.set i .un) A' := g5.mono x1.kp fun a m => by
          obtain ⟨u, hu⟩ := g5.there a m
          rw [hu]
          exact x1.sm a u hu fun b c hb => ((s3 a (g6.subset m)).2 b c hb).1
        cases g2' with
        | oi h1 hn h2 =>
          rename_i a dx fs A2
          have hlen : fs.length = os.length := by rw [← h2.len, List.length_map]
          have hlt : os.length < (g.ct c').ns.length := (List.getElem?_eq_some_iff.mp hf).1
          have hfn : f ∉ fs.map Prod.fst := by
            rw [hn, hlen]
            intro m
            obtain ⟨j, hj, ej⟩ := List.mem_iff_getElem.mp m
            rw [List.length_take] at hj
            rw [List.getElem_take] at ej
            have e5 : (g.ct c').ns[j]? = some f := by rw [List.getElem?_eq_getElem (by omega), ej]
            have := (List.getElem?_inj (by omega) ok.nd).mp (e5.trans hf.symm)
            omega
          refine ⟨.ref a, g1, a, (g.ct c').C, dx, fs, rfl, h1, ok.cls, ok.na f (List.mem_of_getElem? hf), by rw [hlen]; exact Nat.lt_trans hlt ok.sh, ?_⟩
          have nst : ¬ Stay g (.ins (g.ct c').C dx fs) := fun ⟨c2, hm, hC, hL⟩ => by
            have := ok.st c2 hm hC
            omega
          have kp : Kp g H1 (upd H1 a (.ins (g.ct c').C dx (putF f v fs))) := fun x u hx st => by
            refine (upd_ne fun z => ?_).trans hx
            rw [z, h1] at hx
            cases hx
            exact nst st
          have aA : a ∉ A := fun m => by
            obtain ⟨u, hu⟩ := g2.there a (.head _)
            rw [f1 a m] at hu
            cases hu
          obtain ⟨n3, n4⟩ := List.nodup_cons.mp g3
          have ro2 : RO g (upd H1 a (.ins (g.ct c').C dx (putF f v fs))) (.ref a) (.oi c' (os ++ [o])) (a :: (A2 ++ A)) := by
            rw [putF_new hfn]
            refine .oi upd_same ?_ ?_
            · rw [List.map_append, List.length_append, hn, hlen]
              show _ ++ [f] = List.take (os.length + 1) _
              rw [List.take_add_one, hf]
              rfl
            · rw [List.map_append]
              refine ROs.append ((RO.mono (kp_of h1 nst) ro) fun x m => upd_ne fun z => aA (z ▸ m)) (ROs.mono (kp_of h1 nst) h2 fun x m => upd_ne fun z => n3 (z ▸ m))
          have g5'' : Slots g (upd H1 a (.ins (g.ct c').C dx (putF f v fs))) σ (ρ.set i .un) A' := g5'.mono kp fun x m => upd_ne fun z => g7 x m (z ▸ .head _)
          have dis : ∀ x ∈ A', x ∉ a :: (A2 ++ A) := fun x m z => by
            rcases List.mem_cons.mp z with z | z
            · exact g7 x m (z ▸ .head _)
            · rcases List.mem_append.mp z with z | z
              · exact g7 x m (.tail _ z)
              · obtain ⟨u, hu⟩ := g5.there x m
                rw [f1 x z] at hu
                cases hu
          have nd2 : (a :: (A2 ++ A)).Nodup := List.nodup_cons.mpr ⟨fun m => by
            rcases List.mem_append.mp m with z | z
            · exact n3 z
            · exact aA z, List.nodup_append.mpr ⟨n4, n1, fun x hx y hy exy => by
              obtain ⟨u, hu⟩ := g2.there x (.tail _ hx)
              rw [exy, f1 y hy] at hu
              cases hu⟩⟩
          obtain ⟨A3, g8, g9, g10⟩ := g5''.setOw ro2 nd2 i (g6.nodup s2) dis
          rw [set_self g1, List.set_set] at g8
          have sm := sS.mono x1 b1
          have aM : a ∈ t.M ∨ t.H0 a = none := (s3 a (g4 a (.head _))).1
          refine q σ _ (x1.kp.trans kp) ⟨⟨A3, g8, g9, fun x m => ?_⟩, fun b c hb => ?_, fun x u hx m => ?_, sm.kp.trans kp, fun x u hx => ?_, sm.ps, sm.bm, fun p m => (sm.xd p m).mono kp⟩
          · rcases g10 x m with z | z
            · exact s3 x (g6.subset z)
            · rcases List.mem_cons.mp z with z | z
              · rw [z]; exact ⟨aM, nbB a (.head _)⟩
              · rcases List.mem_append.mp z with z | z
                · exact s3 x (g4 x (.tail _ z))
                · exact ⟨.inr (sS.out (f1 x z)), nb x z⟩
          · obtain ⟨ne, cs, i1, d1, sd1, n1', q1, q2, q3⟩ := b1 b c hb
            exact ⟨ne, cs, i1, d1, sd1, n1', (upd_ne fun z => (nbB a (.head _) b c hb).1 z.symm).trans q1, (upd_ne fun z => (nbB a (.head _) b c hb).2 z.symm).trans q2, q3⟩
          · refine (upd_ne fun z => ?_).trans (sm.fr x u hx m)
            rcases aM with y | y
            · exact m (z ▸ y)
            · rw [z, y] at hx; cases hx
          · by_cases z : x = a
            · exact ⟨_, by rw [z]; exact upd_same⟩
            · rw [upd_ne z]; exact sm.th x u hx
      · rw [if_neg hk] at e; cases e
end
end Rl
/-! Rl: objects are made. -/
namespace Rl
open PySem PySem.Spec PyProof.Rows L2 Wn
/-- all but x and the box stays -/
def Sx (g : G) (x : Addr) (H H' : Hp) : Prop := ∀ y o, H y = some o → y ≠ x → (∀ b c, g.bad = some (b, c) → y ≠ b) → H' y = some o
/-- what __init__ promises -/
def spI (g : G) (c n : Nat) (fn : List U → Res (List O)) : Sp := fun vs H Q E => ∃ x vs' us dx, vs = .ref x :: vs' ∧ RUs g H vs' us ∧ us.length + 1 = n ∧ BoxR g H ∧ H x = some (.ins (g.ct c).C dx []) ∧ Nb g x ∧ 0 < (g.ct c).ns.length ∧
  (fn us).post (fun os => ∀ H' A, Sx g x H H' → Kp g H H' → BoxR g H' → RO g H' (.ref x) (.oi c os) (x :: A) → (x :: A).Nodup → (∀ a ∈ A, H a = none ∧ Nb g a) → Q .non H') (fun e => ∀ dd H', Sx g x H H' → Kp g H H' → BoxR g H' → Xd g H' dd e → E (.ref (g.xt e.c).C) dd H')
def selfO (c : Nat) (ρ : List Sl) : Res (List O) :=
  match (ρ[0]? : Option Sl) with
  | some (.ow (.oi c' os)) => if c' = c then .ok os else .st
  | _ => .st
def runI (c : Nat) (body : PSt) (m : Nat) (us : List U) : Res (List O) := (body (.ow (.oi c []) :: (us.map .im ++ List.replicate m .un))).bind fun (o : Out) => match o with
  | .nx ρ => selfO c ρ
  | _ => .st
section
variable {P : Program} {w : World} {mg : Str → Option Value} {base : Heap} {g : G}
theorem S.startI {H : Hp} {vs : List V} {us : List U} {N : List Str} {m c : Nat} {x dx : Addr} (r : RUs g H vs us) (b : BoxR g H) (hx : H x = some (.ins (g.ct c).C dx [])) (nb : Nb g x) (hm : N.length - (vs.length + 1) = m) :
    S g ⟨H, x :: boxM g, [(0, .ref x)], []⟩ (.ow (.oi c []) :: (us.map .im ++ List.replicate m .un)) (L2.start N (.ref x :: vs)) H where
  sl := ⟨[x] ++ [], by
    unfold L2.start
    rw [List.length_cons, hm]
    exact .ow (.oi hx rfl .nil) (slots_args r), by simp, fun a m => by rw [List.append_nil] at m; rw [List.mem_singleton.mp m]; exact ⟨.inl (.head _), nb⟩⟩
  bx := b
  fr := fun _ _ h _ => h
  kp := Kp.refl H
  th := fun _ o h => ⟨o, h⟩
  ps := fun p m => by rw [List.mem_singleton.mp m]; rfl
  bm := fun b c h => .tail _ (by unfold boxM; rw [h]; exact .head _)
  xd := fun p m => nomatch m
theorem S.sx {H H' : Hp} {ρ : Env} {σ : L2.St} {x : Addr} {ps : List (Nat × V)} (s : S g ⟨H, x :: boxM g, ps, []⟩ ρ σ H') : Sx g x H H' := fun y o h ne nb => s.fr y o h fun m => by
  rcases List.mem_cons.mp m with m | m
  · exact ne m
  · unfold boxM at m
    cases hb : g.bad with
    | none => rw [hb] at m; cases m
    | some p =>
      rw [hb] at m
      obtain ⟨b, c⟩ := p
      exact nb b c hb (List.mem_singleton.mp m)
theorem init_end {H : Hp} {vs : List V} {us : List U} {c m n : Nat} {x dx : Addr} {body : PSt} {Q : VK} {E : XK} {N : List Str} {X : Cx} {sts : List Stmt} (r : RUs g H vs us) (b : BoxR g H) (hx : H x = some (.ins (g.ct c).C dx [])) (nb : Nb g x) (hN : N.length - (vs.length + 1) = m)
    (h : (runI c body m us).post (fun os => ∀ H' A, Sx g x H H' → Kp g H H' → BoxR g H' → RO g H' (.ref x) (.oi c os) (x :: A) → (x :: A).Nodup → (∀ a ∈ A, H a = none ∧ Nb g a) → Q .non H') (fun e => ∀ dd H', Sx g x H H' → Kp g H H' → BoxR g H' → Xd g H' dd e → E (.ref (g.xt e.c).C) dd H')) :
    lS g (fun c d _ H' => E c d H') ⟨H, x :: boxM g, [(0, .ref x)], []⟩ body { nx := fun _ H' => Q .non H', rt := Q } (L2.start N (.ref x :: vs)) H := by
  refine ⟨_, S.startI r b hx nb hN, post_mono (fun o ho => ?_) (fun e x => ?_) (post_bind.mp h)⟩
  · cases o with
    | nx ρ =>
      intro σ' H' k s
      change (selfO c ρ).post _ _ at ho
      unfold selfO at ho
      cases e1 : ρ[0]? with
      | none => rw [e1] at ho; exact ho.elim
      | some sl =>
        rw [e1] at ho
        cases sl with
        | un => exact ho.elim
        | im u => exact ho.elim
        | ow o0 =>
          cases o0 with
          | lf u => exact ho.elim
          | ol os => exact ho.elim
          | oi c' os =>
            change (if c' = c then Res.ok os else .st : Res (List O)).post _ _ at ho
            by_cases hc : c' = c
            · rw [if_pos hc] at ho
              subst hc
              obtain ⟨A, s1, s2, s3⟩ := s.sl
              obtain ⟨v, B, A', g1, g2, g3, g4, g5⟩ := s1.take s2 e1
              clear g5
              have e2 := s.ps _ (.head _)
              have ev : v = .ref x := Option.some.inj (Option.some.inj (g1.symm.trans e2))
              subst ev
              cases g2 with
              | oi h1 h2 h3 =>
                rename_i A2
                refine ho H' A2 s.sx s.kp s.bx (.oi h1 h2 h3) g3 fun a m => ?_
                obtain ⟨q1, q2⟩ := s3 a (g4 a (.tail _ m))
                refine ⟨?_, q2⟩
                rcases q1 with q1 | q1
                · rcases List.mem_cons.mp q1 with z | z
                  · exact absurd (z ▸ m) (List.nodup_cons.mp g3).1
                  · unfold boxM at z
                    cases hb : g.bad with
                    | none => rw [hb] at z; cases z
                    | some p =>
                      rw [hb] at z
                      obtain ⟨b', c⟩ := p
                      exact absurd (List.mem_singleton.mp z) (q2 b' c hb).1
                · exact q1
            · rw [if_neg hc] at ho; exact ho.elim
    | rt r ρ => exact ho.elim
    | bk ρ => exact ho.elim
    | ct ρ => exact ho.elim
  · exact fun dd ρ σ' H' k s d => x dd H' s.sx s.kp s.bx d
/-- a made object -/
def finO (im : Bool) (c L : Nat) (os : List O) : Res R := if im = true then .opt ((leafs os).bind fun us => if us.length = L then some (.im (.ins c us)) else none) else .ok (.fr (.oi c os))
theorem mk_core {H : Hp} {vs : List V} {us : List U} {c L n : Nat} {fn : List U → Res (List O)} {im : Bool} {x dx : Addr} {Q : VK} {E : XK} (hL : (g.ct c).ns.length = L) (h0 : 0 < L) (him : im = true → c ∈ g.im) (b : BoxR g H) (ru : RUs g H vs us) (hn : us.length + 1 = n)
    (h : ((fn us).bind (finO im c L)).post (fun r => ∀ v H' A, Ext g H H' → BoxR g H' → RV g H' v r A → A.Nodup → (∀ a ∈ A, H a = none) → Q v H') (fun e => ∀ dd H', Ext g H H' → BoxR g H' → Xd g H' dd e → E (.ref (g.xt e.c).C) dd H'))
    (nx : H x = none) (ndx : H dx = none) (ne : dx ≠ x) : spI g c n fn (.ref x :: vs) (upd (upd H dx (.own x)) x (.ins (g.ct c).C dx [])) (fun v H3 => v = .non ∧ Q (.ref x) H3) E := by
  have sm : Same H (upd (upd H dx (.own x)) x (.ins (g.ct c).C dx [])) := fun y o e => (upd_ne (ne_of_none e nx)).trans ((upd_ne (ne_of_none e ndx)).trans e)
  have ext : ∀ H', Sx g x (upd (upd H dx (.own x)) x (.ins (g.ct c).C dx [])) H' → Kp g (upd (upd H dx (.own x)) x (.ins (g.ct c).C dx [])) H' → Ext g H H' := fun H' s k => ⟨fun y o e nb => s y o (sm y o e) (ne_of_none e nx) nb, fun y o e st => k y o (sm y o e) st⟩
  refine ⟨x, vs, us, dx, rfl, ru.mono (kp_same sm), hn, b.same sm, upd_same, b.nb nx, by rw [hL]; exact h0, post_mono (fun os ho H' A s k b' ro nd fr => ⟨rfl, ?_⟩) (fun e hx dd H' s k b' d => hx dd H' (ext H' s k) b' d) (post_bind.mp h)⟩
  have frA : ∀ a ∈ x :: A, H a = none := fun a m => by
    rcases List.mem_cons.mp m with z | z
    · rw [z]; exact nx
    · cases e : H a with
      | none => rfl
      | some o =>
        have := (fr a z).1
        rw [sm a o e] at this
        cases this
  unfold finO at ho
  cases im with
  | false => exact ho _ H' (x :: A) (ext H' s k) b' ⟨ro, fun a m => by
      rcases List.mem_cons.mp m with z | z
      · rw [z]; exact b.nb nx
      · exact (fr a z).2⟩ nd frA
  | true =>
    rw [if_pos rfl] at ho
    obtain ⟨r, e, q⟩ := post_opt ho
    cases e1 : leafs os with
    | none => rw [e1] at e; cases e
    | some ws =>
      rw [e1] at e
      change (if _ then _ else _) = _ at e
      by_cases hl : ws.length = L
      · rw [if_pos hl] at e
        cases e
        cases ro with
        | oi h1 h2 h3 =>
          obtain ⟨_, h4⟩ := leafs_of h3 e1
          refine q _ H' [] (ext H' s k) b' ⟨rfl, .ins h1 (him rfl) ?_ h4⟩ List.nodup_nil fun x m => nomatch m
          rw [h2]
          have := h4.len
          rw [List.length_map, hl, ← hL] at this
          rw [this, List.take_length]
      · rw [if_neg hl] at e; cases e
/-- C(e, .., k = v, ..) -/
def pMk (im : Bool) (c L n m : Nat) (gU : List U → List U → List U) (fn : List U → Res (List O)) (pas pks : PAs) : PEx := fun ρ => (pas ρ).bind fun rs => (Res.opt (if rs.length = n then imRs rs else none)).bind fun us => (pks ρ).bind fun zs => (Res.opt (if zs.length = m then imRs zs else none)).bind fun ws => (fn (gU us ws)).bind (finO im c L)
variable {W : WX} {t : Fr} {X : Cx} {pas pks : PAs}
theorem lmk {σ : L2.St} {H : Hp} {Q : VK} {im : Bool} {c L n m k : Nat} {gU : List U → List U → List U} {gV : List V → List V → List V} {fn : List U → Res (List O)} {tA tK : TA} (hA : ∀ σ H Q, lA g W t pas σ H Q → tA σ H Q) (hK : ∀ σ H Q, lA g W t pks σ H Q → tK σ H Q) (hW : ∀ c d σ σ' H, W c d σ H → W c d σ' H)
    (hL : (g.ct c).ns.length = L) (h0 : 0 < L) (him : im = true → c ∈ g.im) (hg : ∀ H v vs zs us ws, RUs g H vs us → RUs g H zs ws → us.length = n → ws.length = m → ∃ vs', gV (v :: vs) zs = v :: vs' ∧ RUs g H vs' (gU us ws) ∧ (gU us ws).length + 1 = k)
    (h : lE g W t (pMk im c L n m gU fn pas pks) σ H Q) : tMakeK (g.ct c).C n m (spI g c k fn) gV (EW W) tA tK σ H Q := by
  obtain ⟨ρ, sS, h⟩ := h
  refine hA _ _ _ ⟨ρ, sS, post_mono (fun rs hr vs H1 A x1 b1 r1 n1 f1 => ?_) (fun e x => x) (post_bind.mp h)⟩
  obtain ⟨us, eu, hr⟩ := post_opt (post_bind.mp hr)
  obtain ⟨ru, hl⟩ := args_of r1 eu
  refine hK _ _ _ ⟨ρ, sS.mono x1 b1, post_mono (fun zs hz ys H2 B x2 b2 r2 n2 f2 => ?_) (fun e x => x.back x1) (post_bind.mp hr)⟩
  obtain ⟨ws, ew, hz⟩ := post_opt (post_bind.mp hz)
  obtain ⟨rw', hlw⟩ := args_of r2 ew
  refine ⟨by rw [ru.len, hl], by rw [rw'.len, hlw], fun x dx nx ndx ne => ?_⟩
  obtain ⟨vs', e1, r3, h3⟩ := hg H2 (.ref x) vs ys us ws (ru.mono x2.kp) rw' hl hlw
  rw [e1]
  exact mk_core hL h0 him b2 r3 h3 (post_mono (fun r hr v H3 C x3 b3 r3 n3 f3 => hr v H3 C ((x1.trans x2).trans x3) b3 r3 n3 fun y m => (x1.trans x2).back b2 (f3 y m)) (fun e x dd H3 x3 b3 d σ' => hW _ _ _ _ _ (x dd H3 ((x1.trans x2).trans x3) b3 d)) hz) nx ndx ne
theorem lnilA {σ : L2.St} {H : Hp} {Q : List V → Hp → Prop} (h : lA g W t pNil σ H Q) : tNil σ H Q := let ⟨_, s, q⟩ := h; q [] H [] (Ext.refl H) s.bx .nil List.nodup_nil fun x m => nomatch m
end
end Rl
/-! Rl: walks over a list or a tuple, whichever it is. -/
namespace Rl
open PySem PySem.Spec PyProof.Rows L2 Wn
/-- a list or a tuple is walked -/
def iSeq (K : PySem.W.Frag) (tl : TE) : TI := fun σ H R => tl σ H fun x H1 => ∃ a, x = .ref a ∧ (((∃ xs, SqL K H1 a xs) ∧ R (Itl K a) H1) ∨ ((∃ xs, SqT K H1 a xs) ∧ R (Itt K a) H1))
theorem pi_seq {X : Cx} {K : PySem.W.Frag} {tg l : Expr} {tl : TE} (eK : X.K = K) (hl : PE X l tl) : PI X tg l (iSeq K tl) := by
  subst eK
  constructor
  intro pins s σ H R I h
  apply thn (hl.run pins s σ H _ I h)
  rintro v s1 ⟨x, H1, I1, r1, a, rfl, q⟩
  cases r1
  rcases q with ⟨⟨xs, hq⟩, q⟩ | ⟨⟨xs, hq⟩, q⟩
  · obtain ⟨its, _, pl, _⟩ := I1.list hq
    exact wpAny_pyIter_list pl.isList (pi_one (tk := s1.toks) I1 _ (turn_list a _) ⟨_, Heap.get?_push_size _ rfl, rfl, rfl⟩ q)
  · obtain ⟨its, _, pl, _⟩ := I1.tuple hq
    exact wpAny_pyIter_tuple (items := its.toArray) pl (pi_one (tk := s1.toks) I1 _ (turn_tuple a _) ⟨_, Heap.get?_push_size _ rfl, rfl, rfl⟩ q)
section
variable {g : G} {W : WX} {t : Fr} {X : Cx} {pos : Pos} {a b c e : Expr} {pa pb pc : PEx} {pas : PAs} {σ : L2.St} {H H1 : Hp} {tg : Tg} {cond : PTs'} {elt : PEx} {vs : List Nat}
theorem llcQ (hix : ∀ i ∈ tg.ix, i ∈ vs) (hps : ∀ p ∈ t.ps, p.1 ∉ vs) {Q : VK} (h : lE g W t (pLC seqR tg cond elt vs pa) σ H Q) : tLc (iSeq g.K (lE g W t pa)) (lG g t tg) (lT g W0 t cond) (lE g W0 t elt) vs σ H Q := by
  obtain ⟨ρ, sS, h⟩ := h
  refine ⟨ρ, sS, post_mono (fun r hr v H1 A x1 b1 r1 n1 f1 => ?_) (fun e x => x) (post_bind.mp h)⟩
  obtain ⟨us, e1, hr⟩ := post_opt (post_bind.mp hr)
  obtain ⟨hl, hr⟩ := lc_fin hr
  unfold seqR at e1
  cases e2 : lstR r with
  | some ws =>
    rw [e2, Option.some_or] at e1
    cases e1
    obtain ⟨a, xs, rfl, h2, h3⟩ := r1.lstS e2
    refine ⟨a, rfl, .inl ⟨⟨xs, h2 H1 (Ext.refl H1)⟩, fun D nD => lc_list (K := g.K) (a := a) (xs := xs) (LcP g H1 D (mapR (bindT tg) cond elt (wipeE ρ vs)) us _) (lc_start b1 nD hr) (fun i H' _ hp => h2 H' hp.1) (fun i x H' hx hp => ?_) (fun H' hp => ?_)⟩⟩
    · obtain ⟨u, hu, ru⟩ := (h3.mono hp.1.kp).atV hx
      exact lc_turn hix hps hl (sS.mono x1 b1) nD hu ru hp
    · rw [h3.len] at hp
      exact lc_done (m := mapR (bindT tg) cond elt (wipeE ρ vs)) b1 nD rfl hp rfl fun ys hF v H'' A x2 b2 r2 n2 f2 => hF v H'' A (x1.trans x2) b2 r2 n2 fun y m => x1.back b1 (f2 y m)
  | none =>
    rw [e2, Option.none_or] at e1
    obtain ⟨a, xs, rfl, h2, h3⟩ := r1.tup e1
    refine ⟨a, rfl, .inr ⟨⟨xs, h2⟩, fun D nD => lc_tup (K := g.K) (a := a) (xs := xs) (LcP g H1 D (mapR (bindT tg) cond elt (wipeE ρ vs)) us _) (lc_start b1 nD hr) (fun i H' _ hp => sqT_mono hp.1.kp h2) (fun i x H' hx hp => ?_) (fun H' hp => ?_)⟩⟩
    · obtain ⟨u, hu, ru⟩ := (h3.mono hp.1.kp).atV hx
      exact lc_turn hix hps hl (sS.mono x1 b1) nD hu ru hp
    · rw [h3.len] at hp
      exact lc_done (m := mapR (bindT tg) cond elt (wipeE ρ vs)) b1 nD rfl hp rfl fun ys hF v H'' A x2 b2 r2 n2 f2 => hF v H'' A (x1.trans x2) b2 r2 n2 fun y m => x1.back b1 (f2 y m)
theorem ue_lcQ (hix : ∀ i ∈ tg.ix, i ∈ vs) (hps : ∀ p ∈ t.ps, p.1 ∉ vs) (h : PE X e (tLc (iSeq g.K (lE g W t pa)) (lG g t tg) (lT g W0 t cond) (lE g W0 t elt) vs)) : PE X e (lE g W t (pLC seqR tg cond elt vs pa)) := PE.imp h fun _ _ _ h => llcQ hix hps h
def itsR (r : R) : Option (List U) := (frzd r).or (tupR r)
theorem us_forQ {st : Stmt} {p : PEx} {body : PSt} (h : PS X st (tFor (iSeq g.K (lE g W t p)) (lG g t tg) (lS g W t body))) : PS X st (lS g W t (pFor itsR tg p body)) := by
  refine PS.imp h fun D σ H h => ?_
  obtain ⟨ρ, sS, h⟩ := h
  refine ⟨ρ, sS, post_mono (fun r hr v H1 A x1 b1 r1 n1 f1 => ?_) (fun e x => x.wx sS) (post_bind.mp h)⟩
  obtain ⟨ws, e1, hr⟩ := post_opt (post_bind.mp hr)
  have start : (pLoop (bindT tg) body (ws.drop 0) ρ).post (oS g t D H1) (xS g W t H1) := post_mono (fun o h => oS.back x1.kp h) (fun e h => h.back x1.kp) hr
  unfold itsR at e1
  cases e2 : frzd r with
  | some us =>
    rw [e2, Option.some_or] at e1
    cases e1
    cases r with
    | im w =>
      cases w with
      | lst us =>
        have e2 : us = ws := Option.some.inj e2
        subst e2
        obtain ⟨_, r1⟩ := r1
        cases r1 with
        | lst h2 h3 =>
          rename_i a xs
          refine ⟨a, rfl, .inl ⟨⟨xs, h2.sq⟩, for_list (K := g.K) (a := a) (xs := xs) (fun i σ' H' => ∃ ρ', Kp g H1 H' ∧ S g t ρ' σ' H' ∧ (pLoop (bindT tg) body (us.drop i) ρ').post (oS g t D H1) (xS g W t H1)) ⟨ρ, Kp.refl H1, sS.mono x1 b1, start⟩ (fun i σ' H' _ hp => ?_) (fun i x σ' H' hx hp => ?_) (fun σ' H' hp => ?_)⟩⟩
          · obtain ⟨ρ', k, _⟩ := hp
            exact (h2.mono k).sq
          · obtain ⟨ρ', k, s, hh⟩ := hp
            obtain ⟨u, hu, ru⟩ := (h3.mono k).atV hx
            exact turn (fun σ' H' ρ' k s q => ⟨ρ', k, s, q⟩) hu k s ru hh
          · obtain ⟨ρ', k, s, hh⟩ := hp
            rw [h3.len, List.drop_length] at hh
            exact hh σ' H' k s
      | _ => cases e2
    | _ => cases e2
  | none =>
    rw [e2, Option.none_or] at e1
    obtain ⟨a, xs, rfl, h2, h3⟩ := r1.tup e1
    refine ⟨a, rfl, .inr ⟨⟨xs, h2⟩, for_tup (K := g.K) (a := a) (xs := xs) (fun i σ' H' => ∃ ρ', Kp g H1 H' ∧ S g t ρ' σ' H' ∧ (pLoop (bindT tg) body (ws.drop i) ρ').post (oS g t D H1) (xS g W t H1)) ⟨ρ, Kp.refl H1, sS.mono x1 b1, start⟩ (fun i σ' H' _ hp => ?_) (fun i x σ' H' hx hp => ?_) (fun σ' H' hp => ?_)⟩⟩
    · obtain ⟨ρ', k, _⟩ := hp
      exact sqT_mono k h2
    · obtain ⟨ρ', k, s, hh⟩ := hp
      obtain ⟨u, hu, ru⟩ := (h3.mono k).atV hx
      exact turn (fun σ' H' ρ' k s q => ⟨ρ', k, s, q⟩) hu k s ru hh
    · obtain ⟨ρ', k, s, hh⟩ := hp
      rw [h3.len, List.drop_length] at hh
      exact hh σ' H' k s
end
/-- return -/
def pRetN : PSt := fun ρ => .ok (.rt (.im .non) ρ)
theorem us_retN {g : G} {W : WX} {t : Fr} {X : Cx} {pos : Pos} : PS X (.Return none pos) (lS g W t pRetN) := PS.imp ps_retN fun D σ H h => by
  obtain ⟨ρ, sS, h⟩ := h
  exact h .non σ H [] (Kp.refl H) sS ⟨rfl, .non⟩ List.nodup_nil fun x m => nomatch m
/-- a negative number as it is written -/
theorem ue_neg {g : G} {W : WX} {t : Fr} {X : Cx} {e : Expr} {i j : Int} (hj : -i = j) (h : PE X e (tUn (rU fun i => .int (-i)) (tC (.int i)))) : PE X e (lE g W t (pC (.int j))) := by
  subst hj
  refine PE.imp h fun σ H Q h => ?_
  obtain ⟨ρ, sS, h⟩ := h
  exact ⟨i, rfl, h (.int (-i)) H [] (Ext.refl H) sS.bx ⟨rfl, .int _⟩ List.nodup_nil fun x m => nomatch m⟩
end Rl
/-! Rl: try. -/
namespace Rl
open PySem PySem.Spec PyProof.Rows L2 Wn
def Res.catch {α : Type} (r : Res α) (k : Er → Res α) : Res α :=
  match r with
  | .ok a => .ok a
  | .ex e => k e
  | .st => .st
  | .dm n f => .dm n fun i => (f i).catch k
theorem post_catch {α : Type} {P : α → Prop} {X : Er → Prop} {k : Er → Res α} : ∀ {r : Res α}, (r.catch k).post P X → r.post P fun e => (k e).post P X
  | .ok _, h => h
  | .ex _, h => h
  | .st, h => h
  | .dm n f, h => fun i a b => post_catch (h i a b)
def unO (i : Nat) : Out → Out
  | .nx ρ => .nx (ρ.set i .un)
  | .rt r ρ => .rt r (ρ.set i .un)
  | .bk ρ => .bk (ρ.set i .un)
  | .ct ρ => .ct (ρ.set i .un)
abbrev Hdl := Nat × Nat × (List U → PSt)
def onEr (ρ : Env) (e : Er) : List Hdl → Res Out
  | [] => .ex e
  | (k, i, ph) :: l => if e.c = k then (if i < ρ.length then ((ph e.us (ρ.set i .un)).calm).bind fun o => .ok (unO i o) else .st) else onEr ρ e l
def pTry (ks : List Nat) (body : PSt) (l : List Hdl) : PSt := fun ρ => (body ρ).catch fun e => if e.c ∈ ks then onEr ρ e l else .st
section
variable {g : G} {W : WX} {t : Fr} {X : Cx} {pos : Pos} {a b c e : Expr} {pa pb pc : PEx} {pas : PAs} {σ : L2.St} {H H1 : Hp}
/-! the statements of a try: one, of which the error comes before it changes anything -/
def xS1 (g : G) (W : WX) (t : Fr) (ρ : List Sl) (H : Hp) (e : Er) : Prop := ∀ dd σ' H', Kp g H H' → S g t ρ σ' H' → Xd g H' dd e → W (.ref (g.xt e.c).C) dd σ' H'
def lS1 (g : G) (W : WX) (t : Fr) (p : PSt) : TS := fun D σ H => ∃ ρ, S g t ρ σ H ∧ (p ρ).post (oS g t D H) (xS1 g W t ρ H)
theorem xS1.wx {ρ : List Sl} {e : Er} (s : S g t ρ σ H) (h : xS1 g W t ρ H e) : Wx g W σ H e := fun dd H' x b d => h dd σ H' x.kp (s.mono x b) d
theorem xS1.back {ρ : List Sl} {e : Er} (k : Kp g H H1) (h : xS1 g W t ρ H e) : xS1 g W t ρ H1 e := fun dd σ' H' k' s d => h dd σ' H' (k.trans k') s d
theorem u1_asg {st : Stmt} {p : PEx} {i : Nat} (hi : ∀ p ∈ t.ps, p.1 ≠ i) (h : PS X st (tAsg (lE g W t p) (gName i))) : PS X st (lS1 g W t (pAsg i p)) := by
  refine PS.imp h fun D σ H h => ?_
  obtain ⟨ρ, sS, h⟩ := h
  refine ⟨ρ, sS, post_mono (fun r hr v H1 A x1 b1 r1 n1 f1 => ?_) (fun e x => x.wx sS) (post_bind.mp h)⟩
  obtain ⟨ρ', e, q⟩ := post_opt (post_bind.mp hr)
  exact q _ _ x1.kp (sS.bind x1 b1 r1 n1 f1 e hi)
theorem u1_drop {st : Stmt} {p : PEx} (h : PS X st (tDrop (lE g W t p))) : PS X st (lS1 g W t (pDrop p)) := by
  refine PS.imp h fun D σ H h => ?_
  obtain ⟨ρ, sS, h⟩ := h
  exact ⟨ρ, sS, post_mono (fun r hr v H1 A x1 b1 r1 n1 f1 => hr σ H1 x1.kp (sS.mono x1 b1)) (fun e x => x.wx sS) (post_bind.mp h)⟩
theorem u1_ret {st : Stmt} {p : PEx} (h : PS X st (tRet (lE g W t p))) : PS X st (lS1 g W t (pRet p)) := by
  refine PS.imp h fun D σ H h => ?_
  obtain ⟨ρ, sS, h⟩ := h
  exact ⟨ρ, sS, post_mono (fun r hr v H1 A x1 b1 r1 n1 f1 => hr v σ H1 A x1.kp (sS.mono x1 b1) r1 n1 fun a m => sS.out (f1 a m)) (fun e x => x.wx sS) (post_bind.mp h)⟩
theorem u1_if {c : Expr} {a b : List Stmt} {tc : PTs'} {p q : PSt} (hc : PT X c (lT g W t tc)) (ha : PSs X a (lS1 g W t p)) (hb : PSs X b (lS1 g W t q)) : PS X (.If c a b pos) (lS1 g W t (pIfS tc p q)) := by
  refine PS.imp (ps_if hc ha hb) fun D σ H h => ?_
  obtain ⟨ρ, sS, h⟩ := h
  refine ⟨ρ, sS, post_mono (fun b hb H1 x1 b1 => ?_) (fun e x => x.wx sS) (post_bind.mp h)⟩
  cases b with
  | true => exact ⟨ρ, sS.mono x1 b1, post_mono (fun o h => oS.back x1.kp h) (fun e h => h.back x1.kp) hb⟩
  | false => exact ⟨ρ, sS.mono x1 b1, post_mono (fun o h => oS.back x1.kp h) (fun e h => h.back x1.kp) hb⟩
theorem u1_one {st : Stmt} {p : PSt} (h : PS X st (lS1 g W t p)) : PSs X [st] (lS1 g W t p) := pss_one h
/-! the clauses -/
def tH (t : Fr) (i : Nat) (a : Addr) (dd : Option Addr) (k : Nat) (us : List U) : Fr := ⟨t.H0, t.M, (i, .ref a) :: t.ps, (dd, ⟨k, us⟩) :: t.xs⟩
def lH (g : G) (t : Fr) (k i : Nat) (ph : List U → PSt) : Addr → Value → Option Addr → TS := fun a cls d D σ H => ∃ dd us, cls = .ref (g.xt k).C ∧ d = dd ∧ lS g W0 (tH t i a dd k us) (ph us) D σ H
theorem uh {sts : List Stmt} {k i : Nat} {ph : List U → PSt} {a : Addr} {cls : Value} {d : Option Addr} (h : ∀ dd us, cls = .ref (g.xt k).C → d = dd → PSs X sts (lS g W0 (tH t i a dd k us) (ph us))) : PSs X sts (lH g t k i ph a cls d) :=
  ⟨fun pins s σ H D I ⟨dd, us, e1, e2, q⟩ => (h dd us e1 e2).run pins s σ H D I q⟩
/-- what the written part tells of the errors' classes -/
def XOk (g : G) (ks : List Nat) : Prop := ∀ k ∈ ks, ∀ k' ∈ ks, PySem.W.exmOne g.K (.ref (g.xt k).C) (.ref (g.xt k').C) = some (k == k')
theorem S.drop {ρ : List Sl} {i k : Nat} {a : Addr} {dd : Option Addr} {us : List U} (s : S g (tH t i a dd k us) ρ σ H) (hi : ∀ p ∈ t.ps, p.1 ≠ i) : S g t (ρ.set i .un) (σ.set i none) H := by
  have s0 : S g t ρ σ H := ⟨s.sl, s.bx, s.fr, s.kp, s.th, fun p m => s.ps p (.tail _ m), s.bm, fun p m => s.xd p (.tail _ m)⟩
  exact s0.setUn hi
theorem S.out1 {ρ : List Sl} {i k : Nat} {a : Addr} {dd : Option Addr} {us : List U} (s : S g (tH t i a dd k us) ρ σ H) (hi : ∀ p ∈ t.ps, p.1 ≠ i) : S g t (ρ.set i .un) σ H := by
  have s0 : S g t ρ σ H := ⟨s.sl, s.bx, s.fr, s.kp, s.th, fun p m => s.ps p (.tail _ m), s.bm, fun p m => s.xd p (.tail _ m)⟩
  obtain ⟨A, h1, h2, h3⟩ := s0.sl
  obtain ⟨A', h4, h5⟩ := h1.setUn i (σ[i]?.join)
  have e : σ.set i (σ[i]?.join) = σ := by
    apply List.ext_getElem?
    intro j
    by_cases e : i = j
    · subst e
      rw [List.getElem?_set_self']
      cases h : σ[i]? with
      | none => rfl
      | some x => rfl
    · rw [List.getElem?_set_ne e]
  rw [e] at h4
  exact ⟨⟨A', h4, h5.nodup h2, fun a m => h3 a (h5.subset m)⟩, s0.bx, s0.fr, s0.kp, s0.th, s0.ps, s0.bm, s0.xd⟩
theorem onEr_ok {ρ : List Sl} {er : Er} {D : Ends} {ks : List Nat} (ok : XOk g ks) (he : er.c ∈ ks) : ∀ {l : List Hdl}, (∀ p ∈ l, p.1 ∈ ks ∧ ∀ q ∈ t.ps, q.1 ≠ p.2.1) → (onEr ρ er l).post (oS g t D H) (xS g W t H) →
    xS1 g (wMA g.K W D (l.map fun p => (.ref (g.xt p.1).C, p.2.1, lH g t p.1 p.2.1 p.2.2))) t ρ H er
  | [], _, h => fun dd σ' H' k s d => h dd ρ σ' H' k s d
  | (k, i, ph) :: l, hl, h => by
    intro dd σ' H' kp s d
    obtain ⟨hk, hi⟩ := hl _ (.head _)
    refine ⟨er.c == k, ok _ he _ hk, fun e a na => ?_, fun e => ?_⟩
    · have e := beq_iff_eq.mp e
      subst e
      unfold onEr at h
      rw [if_pos rfl] at h
      by_cases hlt : i < ρ.length
      case neg => rw [if_neg hlt] at h; exact h.elim
      rw [if_pos hlt] at h
      have h := post_calm.mp (post_bind.mp h)
      refine ⟨dd, er.us, rfl, rfl, ρ.set i .un, ?_, post_mono (fun o ho => ?_) (fun e x => x.elim) h⟩
      · have s1 := s.setUn (i := i) (x := some (.ref a)) hi
        have hlt : i < σ'.length := by
          obtain ⟨_, h1, _⟩ := s.sl
          rw [h1.len]; exact hlt
        refine ⟨s1.sl, s1.bx, s1.fr, s1.kp, s1.th, fun p m => ?_, s1.bm, fun p m => ?_⟩
        · rcases List.mem_cons.mp m with z | z
          · rw [z]; exact List.getElem?_set_self hlt
          · exact s1.ps p z
        · rcases List.mem_cons.mp m with z | z
          · rw [z]; exact d
          · exact s1.xd p z
      · cases o with
        | nx ρ2 => exact fun σ2 H2 k2 s2 => ho _ H2 (kp.trans k2) (s2.drop hi)
        | bk ρ2 => exact fun σ2 H2 k2 s2 => ho _ H2 (kp.trans k2) (s2.drop hi)
        | ct ρ2 => exact fun σ2 H2 k2 s2 => ho _ H2 (kp.trans k2) (s2.drop hi)
        | rt r ρ2 => exact fun v σ2 H2 A k2 s2 rv nd f => ho v σ2 H2 A (kp.trans k2) (s2.out1 hi) rv nd f
    · unfold onEr at h
      rw [if_neg (beq_eq_false_iff_ne.mp e)] at h
      exact onEr_ok ok he (fun p m => hl p (.tail _ m)) h dd σ' H' kp s d
theorem ltry {D : Ends} {body : PSt} {l : List Hdl} {ks : List Nat} (ok : XOk g ks) (hl : ∀ p ∈ l, p.1 ∈ ks ∧ ∀ q ∈ t.ps, q.1 ≠ p.2.1) (h : lS g W t (pTry ks body l) D σ H) :
    lS1 g (wMA g.K W D (l.map fun p => (.ref (g.xt p.1).C, p.2.1, lH g t p.1 p.2.1 p.2.2))) t body D σ H := by
  obtain ⟨ρ, sS, h⟩ := h
  refine ⟨ρ, sS, post_mono (fun a h => h) (fun e h => ?_) (post_catch h)⟩
  by_cases hc : e.c ∈ ks
  · rw [if_pos hc] at h
    exact onEr_ok ok hc hl h
  · rw [if_neg hc] at h; exact h.elim
theorem us_try {st : Stmt} {body : PSt} {l : List Hdl} {ks : List Nat} (ok : XOk g ks) (hl : ∀ p ∈ l, p.1 ∈ ks ∧ ∀ q ∈ t.ps, q.1 ≠ p.2.1)
    (h : PS X st (fun D σ H => lS1 g (wMA g.K W D (l.map fun p => (.ref (g.xt p.1).C, p.2.1, lH g t p.1 p.2.1 p.2.2))) t body D σ H)) : PS X st (lS g W t (pTry ks body l)) := PS.imp h fun _ _ _ h => ltry ok hl h
/-! the error's own values -/
theorem ue_err {X : Cx} {a C : Addr} {oe : Obj} {cls : Value} {d : Option Addr} {pn : List (Addr × Obj)} {e : Expr} {f : Str} {i k j : Nat} {dd : Option Addr} {us : List U} {u : U} (hf : (g.xt k).ns[j]? = some f) (nd : (g.xt k).ns.Nodup) (hu : us[j]? = some u) (hc : cls = .ref C) (hd : d = dd)
    (h : PE (X.suite a ((a, oe) :: pn)) e (tXf a cls d C f (tVar i))) : PE (X.suite a ((a, oe) :: pn)) e (lE g W (tH t i a dd k us) (pC u)) := by
  refine PE.imp h fun σ H Q h => ?_
  obtain ⟨ρ, sS, h⟩ := h
  have e1 := sS.ps (i, .ref a) (.head _)
  have xx := sS.xd (dd, ⟨k, us⟩) (.head _)
  generalize he : (⟨k, us⟩ : Er) = er at xx
  cases xx with
  | no h0 => cases he; cases hu
  | of h1 h2 h3 =>
  cases he
  obtain ⟨v, h4, rv⟩ := h3.at hu
  exact ⟨.ref a, e1, rfl, hc, _, _, v, hd, h1, lookup_at (by rw [h2]; exact nd) (by rw [h2]; exact hf) h4, h v H [] (Ext.refl H) sS.bx ⟨rfl, rv⟩ List.nodup_nil fun x m => nomatch m⟩
end
end Rl
/-! Rl: lists that grow and change. -/
namespace Rl
open PySem PySem.Spec PyProof.Rows L2 Wn
section
variable {g : G} {W : WX} {t : Fr} {X : Cx} {pos : Pos} {a b c e : Expr} {pa pb pc : PEx} {pas : PAs} {σ : L2.St} {H H1 : Hp}
def O.tree : O → Bool
  | .lf _ => false
  | _ => true
/-- what a name owns is changed at its top -/
theorem S.put {ρ : List Sl} {i : Nat} {o0 : O} (sS : S g t ρ σ H) (x1 : Ext g H H1) (b1 : BoxR g H1) (e1 : ρ[i]? = some (.ow o0)) (ht : o0.tree = true) :
    ∃ a A2, σ[i]? = some (some (.ref a)) ∧ RO g H1 (.ref a) o0 (a :: A2) ∧ (a :: A2).Nodup ∧ (∀ x ∈ a :: A2, (∃ u, H x = some u) ∧ Nb g x) ∧
      ∀ (u w : HO) (o' : O) (A3 : List Addr), H1 a = some w → ¬ Stay g w → RO g (upd H1 a u) (.ref a) o' (a :: A3) → (a :: A3).Nodup → (∀ x ∈ A3, x ∈ A2 ∨ (H x = none ∧ Nb g x)) → Kp g H1 (upd H1 a u) ∧ S g t (ρ.set i (.ow o')) σ (upd H1 a u) := by
  obtain ⟨A0, s1, s2, s3⟩ := sS.sl
  obtain ⟨w, B, A', g1, g2, g3, g4, g5, g6, g7⟩ := s1.take s2 e1
  have nbB : ∀ x ∈ B, Nb g x := fun x m => (s3 x (g4 x m)).2
  have g2' := g2.ext x1 nbB
  have g5' : Slots g H1 σ (ρ.set i .un) A' := g5.mono x1.kp fun a m => by
    obtain ⟨u, hu⟩ := g5.there a m
    rw [hu]
    exact x1.sm a u hu fun b c hb => ((s3 a (g6.subset m)).2 b c hb).1
  obtain ⟨a, A2, rfl, rfl⟩ : ∃ a A2, w = .ref a ∧ B = a :: A2 := by
    cases g2 with
    | lf => cases ht
    | ol => exact ⟨_, _, rfl, rfl⟩
    | oi => exact ⟨_, _, rfl, rfl⟩
  refine ⟨a, A2, g1, g2', g3, fun x m => ⟨g2.there x m, nbB x m⟩, fun u w o' A3 hw nst ro2 nd2 hA3 => ?_⟩
  have kp : Kp g H1 (upd H1 a u) := kp_of hw nst
  have g5'' : Slots g (upd H1 a u) σ (ρ.set i .un) A' := g5'.mono kp fun x m => upd_ne fun z => g7 x m (z ▸ .head _)
  have dis : ∀ x ∈ A', x ∉ a :: A3 := fun x m z => by
    rcases List.mem_cons.mp z with z | z
    · exact g7 x m (z ▸ .head _)
    · rcases hA3 x z with z | z
      · exact g7 x m (.tail _ z)
      · obtain ⟨u, hu⟩ := g5.there x m
        rw [z.1] at hu
        cases hu
  obtain ⟨A4, g8, g9, g10⟩ := g5''.setOw ro2 nd2 i (g6.nodup s2) dis
  rw [set_self g1, List.set_set] at g8
  have sm := sS.mono x1 b1
  have aM : a ∈ t.M ∨ t.H0 a = none := (s3 a (g4 a (.head _))).1
  refine ⟨kp, ⟨⟨A4, g8, g9, fun x m => ?_⟩, fun b c hb => ?_, fun x u hx m => ?_, sm.kp.trans kp, fun x u hx => ?_, sm.ps, sm.bm, fun p m => (sm.xd p m).mono kp⟩⟩
  · rcases g10 x m with z | z
    · exact s3 x (g6.subset z)
    · rcases List.mem_cons.mp z with z | z
      · rw [z]; exact ⟨aM, nbB a (.head _)⟩
      · rcases hA3 x z with z | z
        · exact s3 x (g4 x (.tail _ z))
        · exact ⟨.inr (sS.out z.1), z.2⟩
  · obtain ⟨ne, cs, i1, d1, sd1, n1', q1, q2, q3⟩ := b1 b c hb
    exact ⟨ne, cs, i1, d1, sd1, n1', (upd_ne fun z => (nbB a (.head _) b c hb).1 z.symm).trans q1, (upd_ne fun z => (nbB a (.head _) b c hb).2 z.symm).trans q2, q3⟩
  · refine (upd_ne fun z => ?_).trans (sm.fr x u hx m)
    rcases aM with y | y
    · exact m (z ▸ y)
    · rw [z, y] at hx; cases hx
  · by_cases z : x = a
    · exact ⟨_, by rw [z]; exact upd_same⟩
    · rw [upd_ne z]; exact sm.th x u hx
theorem ROs.cat : ∀ {vs ws : List V} {os ps : List O} {A B : List Addr}, ROs g H vs os A → ROs g H ws ps B → ROs g H (vs ++ ws) (os ++ ps) (A ++ B)
  | _, _, _, _, _, _, .nil, k => k
  | _, _, _, _, _, _, .cons a h, k => by rw [List.append_assoc]; exact .cons a (h.cat k)
/-- a list grows by some items -/
theorem S.grow {ρ : List Sl} {i : Nat} {os ps : List O} {ws : List V} {A : List Addr} (sS : S g t ρ σ H) (x1 : Ext g H H1) (b1 : BoxR g H1) (e1 : ρ[i]? = some (.ow (.ol os))) (r : ROs g H1 ws ps A) (n1 : A.Nodup) (f1 : ∀ a ∈ A, H a = none) (nb : ∀ a ∈ A, Nb g a) :
    ∃ a xs, σ[i]? = some (some (.ref a)) ∧ H1 a = some (.lst xs) ∧ xs.length = os.length ∧ Kp g H1 (upd H1 a (.lst (xs ++ ws))) ∧ S g t (ρ.set i (.ow (.ol (os ++ ps)))) σ (upd H1 a (.lst (xs ++ ws))) := by
  obtain ⟨a, A2, q1, q2, q3, q4, q5⟩ := sS.put x1 b1 e1 rfl
  cases q2 with
  | ol h1 h2 =>
    rename_i xs
    obtain ⟨n3, n4⟩ := List.nodup_cons.mp q3
    have aA : a ∉ A := fun m => by
      obtain ⟨u, hu⟩ := (q4 a (.head _)).1
      rw [f1 a m] at hu; cases hu
    have nst : ¬ Stay g (.lst xs) := fun z => z
    have kp : Kp g H1 (upd H1 a (.lst (xs ++ ws))) := kp_of h1 nst
    obtain ⟨k, s⟩ := q5 (.lst (xs ++ ws)) _ (.ol (os ++ ps)) (A2 ++ A) h1 nst
      (.ol upd_same ((ROs.mono kp h2 fun x m => upd_ne fun z => n3 (z ▸ m)).cat (ROs.mono kp r fun x m => upd_ne fun z => aA (z ▸ m))))
      (List.nodup_cons.mpr ⟨fun m => by
        rcases List.mem_append.mp m with z | z
        · exact n3 z
        · exact aA z, List.nodup_append.mpr ⟨n4, n1, fun x hx y hy exy => by
          obtain ⟨u, hu⟩ := (q4 x (.tail _ hx)).1
          rw [exy, f1 y hy] at hu
          cases hu⟩⟩)
      (fun x m => by
        rcases List.mem_append.mp m with z | z
        · exact .inl z
        · exact .inr ⟨f1 x z, nb x z⟩)
    exact ⟨a, xs, q1, h1, h2.len, k, s⟩
/-- a list in a name's slot, changed by what the arguments are -/
def pLs (i : Nat) (f : List O → List R → Option (List O)) (pas : PAs) : PSt := fun (ρ : List Sl) =>
  match (ρ[i]? : Option Sl) with
  | some (.ow (.ol os)) => (pas ρ).bind fun rs => (Res.opt (f os rs)).bind fun os' => .ok (.nx (ρ.set i (.ow (.ol os'))))
  | _ => .st
theorem pLs_at {i : Nat} {f : List O → List R → Option (List O)} {ρ : List Sl} {P : Out → Prop} {E : Er → Prop} (h : (pLs i f pas ρ).post P E) : ∃ os, ρ[i]? = some (.ow (.ol os)) ∧ ((pas ρ).bind fun rs => (Res.opt (f os rs)).bind fun os' => Res.ok (Out.nx (ρ.set i (.ow (.ol os'))))).post P E := by
  unfold pLs at h
  cases e : ρ[i]? with
  | none => rw [e] at h; exact h.elim
  | some sl =>
    rw [e] at h
    cases sl with
    | un => exact h.elim
    | im u => exact h.elim
    | ow o =>
      cases o with
      | lf u => exact h.elim
      | oi c os => exact h.elim
      | ol os => exact ⟨os, rfl, h⟩
theorem S.olAt {ρ : List Sl} {i : Nat} {os : List O} (s : S g t ρ σ H) (e : ρ[i]? = some (.ow (.ol os))) : ∃ a xs, σ[i]? = some (some (.ref a)) ∧ H a = some (.lst xs) := by
  obtain ⟨A, h1, _⟩ := s.sl
  obtain ⟨v, B, e2, ro, _⟩ := h1.atOw e
  cases ro with
  | ol h => exact ⟨_, _, e2, h⟩
def fApp (os : List O) : List R → Option (List O)
  | [r] => if os.length ≤ 100000 then (ownR r).map fun o => os ++ [o] else none
  | _ => none
theorem us_app {st : Stmt} {i : Nat} (h : PS X st (tDrop (tBM g.K "list" rAppend (tVar i) (lA g W t pas)))) : PS X st (lS g W t (pLs i fApp pas)) := by
  refine PS.imp h fun D σ H h => ?_
  obtain ⟨ρ, sS, h⟩ := h
  obtain ⟨os, e1, h⟩ := pLs_at h
  obtain ⟨a, xs, e2, ha⟩ := sS.olAt e1
  refine ⟨.ref a, e2, .inl ⟨rfl, xs, .inl (.inl ha)⟩, ρ, sS, post_mono (fun rs hr vs H1 A x1 b1 r1 n1 f1 => ?_) (fun e x => x.wx sS) (post_bind.mp h)⟩
  obtain ⟨os', eo, q⟩ := post_opt (post_bind.mp hr)
  match rs, eo, r1 with
  | [r], eo, r1 =>
    change (if _ then _ else _) = _ at eo
    by_cases hl : os.length ≤ 100000
    · rw [if_pos hl] at eo
      obtain ⟨o, e3, rfl⟩ := map_some eo
      obtain ⟨v, rfl, rv⟩ := vals_one r1
      obtain ⟨ro, nb⟩ := own_of rv e3
      have ros : ROs g H1 [v] [o] A := by have h := ROs.cons ro .nil; rw [List.append_nil] at h; exact h
      obtain ⟨a', xs', g1, g2, g3, k, s⟩ := sS.grow x1 b1 e1 ros n1 f1 nb
      have ea : a' = a := by rw [e2] at g1; cases g1; rfl
      subst ea
      exact ⟨a', xs', v, rfl, rfl, g2, by rw [g3]; exact Nat.lt_of_le_of_lt hl (by decide), q σ _ (x1.kp.trans k) s⟩
    · rw [if_neg hl] at eo; cases eo
/-- x.extend(e), e a new or an own list -/
def fExt (os : List O) : List R → Option (List O)
  | [.fr (.ol ps)] => if os.length + ps.length ≤ 100000 then some (os ++ ps) else none
  | _ => none
/-- x[k] = e -/
def fSet (os : List O) : List R → Option (List O)
  | [r, k] => (imR r).bind fun u => (iR k).bind fun i => (ixN os.length i).map fun j => os.set j (.lf u)
  | _ => none
theorem ROs.setLf {v : V} {u : U} (r : RU g H v u) : ∀ {vs : List V} {os : List O} {A : List Addr} (j : Nat), ROs g H vs os A → ∃ A', ROs g H (vs.set j v) (os.set j (.lf u)) A' ∧ A'.Sublist A
  | _, _, _, _, .nil => ⟨[], .nil, List.Sublist.refl _⟩
  | _, _, _, 0, .cons _ h => ⟨_, by have k := ROs.cons (RO.lf r) h; exact k, by simp⟩
  | _, _, _, j + 1, .cons a h => let ⟨A', h1, h2⟩ := ROs.setLf r j h; ⟨_, .cons a h1, List.Sublist.append_left h2 _⟩
def pSetI (i : Nat) (p pk : PEx) : PSt := pLs i fSet (pCons p (pCons pk pNil))
theorem us_setI {st : Stmt} {i : Nat} {p pk : PEx} (h : PS X st (tAsg (lE g W t p) (gSub (tVar i) (lE g W t pk) rSetL))) : PS X st (lS g W t (pSetI i p pk)) := by
  refine PS.imp h fun D σ H h => ?_
  obtain ⟨ρ, sS, h⟩ := h
  obtain ⟨os, e1, h⟩ := pLs_at h
  obtain ⟨a, xs, e2, ha⟩ := sS.olAt e1
  have h := post_bind.mp (post_bind.mp h)
  refine ⟨ρ, sS, post_mono (fun r hr v H1 A x1 b1 r1 n1 f1 => ?_) (fun e x => x.wx sS) h⟩
  have hr : ((pk ρ).bind fun x => (pNil ρ).bind fun xs => Res.ok (x :: xs)).post _ _ := post_bind.mp hr
  refine ⟨.ref a, e2, ρ, sS.mono x1 b1, post_mono (fun k hk w H2 B x2 b2 r2 n2 f2 => ?_) (fun e x => (x.wx sS).back x1) (post_bind.mp hr)⟩
  have hk : ((Res.opt (fSet os [r, k])).bind fun os' => Res.ok (Out.nx (ρ.set i (.ow (.ol os'))))).post (oS g t D H) (xS g W t H) := hk
  obtain ⟨os', eo, q⟩ := post_opt (post_bind.mp hk)
  change (imR r).bind _ = some os' at eo
  cases e3 : imR r with
  | none => rw [e3] at eo; cases eo
  | some u =>
    cases e4 : iR k with
    | none => rw [e3, e4] at eo; cases eo
    | some z =>
      rw [e3, e4] at eo
      obtain ⟨j, e5, rfl⟩ := map_some (show (ixN os.length z).map _ = some os' from eo)
      have x12 := x1.trans x2
      obtain ⟨a', A2, q1, q2, q3, q4, q5⟩ := sS.put x12 b2 e1 rfl
      have ea : a' = a := by rw [e2] at q1; cases q1; rfl
      subst ea
      cases q2 with
      | ol h1 h2 =>
        rename_i ys
        obtain ⟨n3, n4⟩ := List.nodup_cons.mp q3
        have ru := (im_of r1 e3).2.mono x2.kp
        have nst : ¬ Stay g (.lst ys) := fun z => z
        have kp : Kp g H2 (upd H2 a' (.lst (ys.set j v))) := kp_of h1 nst
        obtain ⟨A3, h3, h4⟩ := (ROs.mono kp h2 fun x m => upd_ne fun z => n3 (z ▸ m)).setLf (ru.mono kp) j
        obtain ⟨k', s⟩ := q5 (.lst (ys.set j v)) _ (.ol (os.set j (.lf u))) A3 h1 nst (.ol upd_same h3) (List.nodup_cons.mpr ⟨fun m => n3 (h4.subset m), h4.nodup n4⟩) fun x m => .inl (h4.subset m)
        exact ⟨a', ys, z, j, rfl, iR_of r2 e4, h1, by rw [h2.len]; exact e5, q σ _ (x12.kp.trans k') s⟩
theorem us_ext {st : Stmt} {i : Nat} (h : PS X st (tDrop (tBM g.K "list" rExtend (tVar i) (lA g W t pas)))) : PS X st (lS g W t (pLs i fExt pas)) := by
  refine PS.imp h fun D σ H h => ?_
  obtain ⟨ρ, sS, h⟩ := h
  obtain ⟨os, e1, h⟩ := pLs_at h
  obtain ⟨a, xs, e2, ha⟩ := sS.olAt e1
  refine ⟨.ref a, e2, .inl ⟨rfl, xs, .inl (.inl ha)⟩, ρ, sS, post_mono (fun rs hr vs H1 A x1 b1 r1 n1 f1 => ?_) (fun e x => x.wx sS) (post_bind.mp h)⟩
  obtain ⟨os', eo, q⟩ := post_opt (post_bind.mp hr)
  match rs, eo, r1 with
  | [.fr (.ol ps)], eo, r1 =>
    change (if _ then _ else _) = _ at eo
    by_cases hl : os.length + ps.length ≤ 100000
    · rw [if_pos hl] at eo
      cases eo
      obtain ⟨v, rfl, rv, nb⟩ := vals_one r1
      cases rv with
      | ol h1 h2 =>
        rename_i a0 zs A2 b0
        obtain ⟨a', xs', g1, g2, g3, k, s⟩ := sS.grow x1 b1 e1 h2 (List.nodup_cons.mp n1).2 (fun x m => f1 x (.tail _ m)) fun x m => nb x (.tail _ m)
        have ea : a' = a := by rw [e2] at g1; cases g1; rfl
        subst ea
        exact ⟨a', _, xs', zs, rfl, rfl, g2, h1, by rw [g3, h2.len]; exact sz5 hl, q σ _ (x1.kp.trans k) s⟩
    · rw [if_neg hl] at eo; cases eo
def pExt (i : Nat) (pas : PAs) : PSt := pLs i fExt pas
end
end Rl
/-! Rl: keywords; objects made, as a rule; what is stuck. -/
namespace Rl
open PySem PySem.Spec PyProof.Rows L2 Wn
section
variable {g : G} {W : WX} {t : Fr} {X : Cx} {pos : Pos} {a b c e : Expr} {pa pb pc : PEx} {pas pks : PAs} {σ : L2.St} {H H1 : Hp}
theorem PK.imp {X : Cx} {es : List Keyword} {t t' : TA} (h : PK X es t) (i : ∀ σ H Q, t' σ H Q → t σ H Q) : PK X es t' := ⟨fun pos pins s σ H Q I q => h.run pos pins s σ H Q I (i _ _ _ q)⟩
theorem uk_nil : PK X [] (lA g W t pNil) := PK.imp pk_nil fun _ _ _ h => lnilA h
theorem uk_cons {kws : List Keyword} {nm : String} {kp : Pos} (ha : PE X e (lE g W t pa)) (hr : PK X kws (lA g W t pks)) : PK X (⟨nm, e, kp⟩ :: kws) (lA g W t (pCons pa pks)) := PK.imp (pk_cons ha hr) fun _ _ _ h => lcons h
theorem us_st {sts : List Stmt} : PSs X sts (lS g W t fun _ => .st) := ⟨fun pins s σ H D I ⟨ρ, _, q⟩ => q.elim⟩
/-- what making an object of the class c asks -/
structure MkOk (g : G) (c L : Nat) (im : Bool) : Prop where
  len : (g.ct c).ns.length = L
  pos : 0 < L
  im : im = true → c ∈ g.im
theorem ue_mk {im : Bool} {c L n m k : Nat} {gU : List U → List U → List U} {gV : List V → List V → List V} {fn : List U → Res (List O)} {tA tK : TA} (hW : ∀ c d σ σ' H, W c d σ H → W c d σ' H) (ok : MkOk g c L im)
    (hA : ∀ σ H Q, lA g W t pas σ H Q → tA σ H Q) (hK : ∀ σ H Q, lA g W t pks σ H Q → tK σ H Q)
    (hg : ∀ H v vs zs us ws, RUs g H vs us → RUs g H zs ws → us.length = n → ws.length = m → ∃ vs', gV (v :: vs) zs = v :: vs' ∧ RUs g H vs' (gU us ws) ∧ (gU us ws).length + 1 = k)
    (h : PE X e (tMakeK (g.ct c).C n m (spI g c k fn) gV (EW W) tA tK)) : PE X e (lE g W t (pMk im c L n m gU fn pas pks)) := PE.imp h fun _ _ _ h => lmk hA hK hW ok.len ok.pos ok.im hg h
end
end Rl
/-! Rl: an initialiser does what its reading does. -/
namespace Rl
open PySem PySem.Spec PyProof.Rows L2 Wn
section
variable {P : Program} {w : World} {mg : Str → Option Value} {base : Heap} {g : G}
theorem spI_len {c n : Nat} {fn : List U → Res (List O)} {vs : List V} {H : Hp} {Q : VK} {E : XK} (h : spI g c n fn vs H Q E) : vs.length = n := by
  obtain ⟨x, vs', us, dx, rfl, r, hl, _⟩ := h
  rw [List.length_cons, r.len, hl]
theorem init_body {N : List Str} {c n m : Nat} {body : PSt} {X : Cx} {sts : List Stmt} {vs : List V} {H : Hp} {Q : VK} {E : XK} (hN : N.length = n + m)
    (hb : ∀ x : Addr, PSs X sts (lS g (fun c d _ H' => E c d H') ⟨H, x :: boxM g, [(0, .ref x)], []⟩ body)) (h : spI g c n (runI c body m) vs H Q E) : ∃ t, PSs X sts t ∧ t { nx := fun _ H' => Q .non H', rt := Q } (start N vs) H := by
  have hl0 := spI_len h
  obtain ⟨x, vs', us, dx, rfl, r, hl, b, hx, nb, _, h⟩ := h
  exact ⟨_, hb x, init_end (X := X) (sts := sts) (n := n) r b hx nb (by rw [List.length_cons] at hl0; rw [hl0, hN]; omega) h⟩
theorem init_okD {x qual : Str} {params : Arguments} {bs : List Stmt} {scope : Scope} {dvs : List V} {kws : List (Str × V)} {f : Addr} {fd : FuncData} {N ps : List Str} {c k n m : Nat} {body : PSt} (F : FunD g.K x qual params bs scope dvs kws f fd) (Sc : FnScope N ps scope) (hn : ps.length = n) (hN : N.length = n + m)
    (hb : ∀ (cdv : Value) (A : Around) (outer : List PySem.Env) (s : Shared) (H : Hp) (E : XK) (x : Addr), Room k (A.deeper (envOfC qual scope s.heap.objs.size f cdv)) →
      PSs (cxOf (L2.CX P w) P w g.K mg base N qual scope f cdv A outer s H E) bs (lS g (fun c d _ H' => E c d H') ⟨H, x :: boxM g, [(0, .ref x)], []⟩ body)) :
    FnOk P w g.K mg base (L2.CX P w) (k + 1) f fd ps (spI g c n (runI c body m)) :=
  F.ok Sc (fun vs H Q E h => (spI_len h).trans hn.symm) (fun cdv A outer s H vs Q E hr h => init_body hN (fun x => hb cdv A outer s H E x hr) h)
theorem init_ok {x qual : Str} {st : Stmt} {f : Addr} {fd : FuncData} {N ps : List Str} {c k n m : Nat} {body : PSt} (F : Fun g.K x qual st f fd) (Sc : FnScope N ps (defScope st)) (hn : ps.length = n) (hN : N.length = n + m)
    (hb : ∀ (cdv : Value) (A : Around) (outer : List PySem.Env) (s : Shared) (H : Hp) (E : XK) (x : Addr), Room k (A.deeper (envOfC qual (defScope st) s.heap.objs.size f cdv)) →
      PSs (cxOf (L2.CX P w) P w g.K mg base N qual (defScope st) f cdv A outer s H E) (defBody st) (lS g (fun c d _ H' => E c d H') ⟨H, x :: boxM g, [(0, .ref x)], []⟩ body)) :
    FnOk P w g.K mg base (L2.CX P w) (k + 1) f fd ps (spI g c n (runI c body m)) :=
  F.okX Sc (fun vs H Q E h => (spI_len h).trans hn.symm) (fun cdv A outer s H vs Q E hr h => init_body hN (fun x => hb cdv A outer s H E x hr) h)
end
end Rl
/-! a dict is no text -/
namespace Wn
open PySem PySem.Spec PySem.W PyProof.Rows L2
section
variable {A : Around} {s : Shared}
/-- a dict stands there -/
def IsD (s : Shared) (l : Addr) : Prop := ∃ o es ep, s.heap.get? l = some o ∧ o.cls = .type "dict" ∧ o.data = .dict es ep
theorem IsD.ty {l : Addr} (h : IsD s l) : s.TypeIs (.ref l) "dict" := let ⟨o, _, _, e, c, _⟩ := h; ⟨o, e, c⟩
theorem isD_of {P : Program} {w : World} {H : Hp} {a : Addr} {o : Obj} {kvs : List (Key × V)} (h : ObjOk P w H s.heap a (.frz o (.dK kvs))) : IsD s a := by
  obtain ⟨_, _, _, vs, _, o', es, ep, e, c, d, _⟩ := h
  exact ⟨o', es, ep, e, c.1, d⟩
theorem calls_dict_str {P : Program} {w : World} {E : Value → Shared → Prop} {l : Addr} (hl : s.TypeIs (.ref l) "dict") (b : Str) (u : Tok) (Q : Value → Shared → Prop) (q : Q .notImplemented s) : wpAny (model P w) A (call (.builtin "dict.__eq__") [.ref l, .str b u]) Q E s := by
  refine wpAny_call_entry PySem.F.slot_dict_eq hl PySem.F.entry_dict_eq ?_ (PySem.F.args_dict_eq_2 _ _)
  show wpAny _ _ (Builtin.Dict.dictSlotArgs "__eq__" ⟨[.ref l, .str b u], []⟩ >>= _) _ _ s
  refine wpAny_bind ?_
  unfold Builtin.Dict.dictSlotArgs
  refine wpAny_bind (wpAny_notOrdered_dict hl ?_)
  show wpAny _ _ (pure (Value.ref l, Value.str b u)) _ _ s
  refine wpAny_pure ?_
  refine wpAny_bind (wpAny_isInstance (T := "str") (b := false) rfl PySem.F.sub_str_dict ?_)
  rw [if_pos (show (!false) = true from rfl)]
  exact wpAny_bind (wpAny_rule (wpAny_pure ⟨_, rfl, q⟩))
theorem str_no_dict {l : Addr} (b : Str) (u : Tok) : Meets (Builtin.«str.__eq__» ⟨[.str b u, .ref l], []⟩) (fun _ R s => IsD s l ∧ R (.ok (.ret .notImplemented)) s) := by
  refine .of_wp fun prog w A R s h => ?_
  obtain ⟨⟨o, es, ep, ho, hc, hd⟩, h⟩ := h
  obtain ⟨hp, g, d, tk, os⟩ := s
  wp_walk using wpAny_load ho
  rw [hd]
  exact wpAny_pure (wpAny_bind (wpAny_rule (wpAny_pure ⟨_, rfl, h⟩)))
theorem rc_dict_str {l : Addr} (b : Str) (u : Tok) (hl : IsD s l) (hu : A.units < cLine) : SeqAt.RcAt A s (.ref l) (.str b u) false := fun prog w E Q h =>
  SeqAt.rc_eq_decline_or (k := false) hl.ty (typeIs_str s b u) (by decide) PySem.F.sub_str_dict PySem.F.slot_dict_eq PySem.F.slot_str_eq_refl
    (fun Q' hq => calls_dict_str hl.ty b u Q' hq)
    (fun Q' hq => call_meets PySem.F.slot_str_eq_refl (typeIs_str s b u) PySem.F.entry_str_eq (PySem.F.args_str_eq_2 _ _) (str_no_dict b u) ⟨hl, hq⟩)
    (fun Q' hq => wpAny_of_eq (rfl : isSame (.ref l) (.str b u) = pure false) hq) (.inr hu) h
theorem rc_str_dict {l : Addr} (b : Str) (u : Tok) (hl : IsD s l) (hu : A.units < cLine) : SeqAt.RcAt A s (.str b u) (.ref l) false := fun prog w E Q h =>
  SeqAt.rc_eq_decline_or (k := false) (typeIs_str s b u) hl.ty (by decide) PySem.F.sub_dict_str PySem.F.slot_str_eq PySem.F.slot_dict_eq_refl
    (fun Q' hq => call_meets PySem.F.slot_str_eq (typeIs_str s b u) PySem.F.entry_str_eq (PySem.F.args_str_eq_2 _ _) (str_no_dict b u) ⟨hl, hq⟩)
    (fun Q' hq => calls_dict_str hl.ty b u Q' hq)
    (fun Q' hq => wpAny_of_eq (rfl : isSame (.str b u) (.ref l) = pure false) hq) (.inr hu) h
theorem eqAt_str_dict {l : Addr} (b : Str) (u : Tok) (hl : IsD s l) (hu : A.units < cLine) : SeqAt.EqAt A s (.str b u) (.ref l) false := fun prog w E Q q => by
  unfold eqBool
  refine wpAny_holding (wpAny_ite_split (fun z => absurd (eq_of_beq z) (fun e => nomatch e)) fun _ => ?_)
  exact wpAny_bind (rc_str_dict b u hl hu prog w E _ (wpAny_truthy_bool q))
end
end Wn
/-! Rl: an empty dict against texts. -/
namespace Rl
open PySem PySem.Spec PyProof.Rows L2 Wn
def allS (us : List U) : Bool := us.all fun u => match u with | .str _ => true | _ => false
theorem allS_V {g : G} {H : Hp} : ∀ {vs : List V} {us : List U}, RUs g H vs us → allS us = true → ∀ z ∈ vs, ∃ t, z = V.str t
  | _, _, .nil, _ => fun z m => nomatch m
  | _, _, .cons (u := u) a b, h => by
    unfold allS at h
    rw [List.all_cons, Bool.and_eq_true] at h
    intro z m
    rcases List.mem_cons.mp m with rfl | m
    · cases a <;> first | exact ⟨_, rfl⟩ | (cases h.1)
    · exact allS_V b h.2 z m
def rInE (K : PySem.W.Frag) (neg : Bool) : R2 := fun x y H Q => ∃ (a : Addr) (o : Obj) (p : Addr) (xs : List V), x = .ref a ∧ H a = some (.frz o (.dK [])) ∧ y = .ref p ∧ (SqL K H p xs ∨ SqT K H p xs) ∧ (∀ z ∈ xs, ∃ t, z = V.str t) ∧ Q (.bl neg) H
theorem strs_at : ∀ {xs : List V} {its : List Value}, Vals xs its → (∀ z ∈ xs, ∃ t, z = V.str t) → ∀ v ∈ its, ∃ t k, v = Value.str t k
  | _, _, .nil, _ => fun v m => nomatch m
  | _, _, .cons r k, h => fun v m => by
    rcases List.mem_cons.mp m with e | m
    · subst e
      obtain ⟨t, e⟩ := h _ (.head _)
      subst e
      obtain ⟨q, e⟩ := r
      exact ⟨t, q, e⟩
    · exact strs_at k (fun z m => h z (.tail _ m)) v m
theorem any_false (xs : List Value) : (xs.toArray.any fun _ => false) = false := by simp
theorem op_inE {X : Cx} {K : PySem.W.Frag} (eK : X.K = K) (hu : X.A.units + 65 < cLine) : OpR X (compareOp .In) (rInE K false) := by
  subst eK
  intro pins s σ H x y v u Q I rx ry ⟨a, o, p, xs, hx, ha, hy, hq, hs, q⟩
  subst hx hy
  cases rx; cases ry
  have d : IsD s a := isD_of (show ObjOk X.prog X.w H s.heap a (.frz o (.dK [])) from I.hok a _ ha)
  have eq : ∀ {its : List Value}, Vals xs its → ∀ y, y ∈ its.toArray → SeqAt.EqAt X.A.in1 s y (.ref a) ((fun _ => false) y) := fun r y m => by
    obtain ⟨t, k, e⟩ := strs_at r hs y (by simpa using m)
    subst e
    exact eqAt_str_dict t k d (by show X.A.units + 1 < cLine; omega)
  rcases hq with hq | hq
  · obtain ⟨its, r, pl, hz⟩ := I.list hq
    exact SeqAt.in_listAt (fun _ => false) pl.isList (eq r) ⟨.bl _, H, I, rfl, by rw [any_false]; exact q⟩
  · obtain ⟨its, r, pl, hz⟩ := I.tuple hq
    exact SeqAt.in_tupleAt (fun _ => false) pl (eq r) ⟨.bl _, H, I, rfl, by rw [any_false]; exact q⟩
theorem op_notinE {X : Cx} {K : PySem.W.Frag} (eK : X.K = K) (hu : X.A.units + 65 < cLine) : OpR X (compareOp .NotIn) (rInE K true) := by
  subst eK
  intro pins s σ H x y v u Q I rx ry ⟨a, o, p, xs, hx, ha, hy, hq, hs, q⟩
  subst hx hy
  cases rx; cases ry
  have d : IsD s a := isD_of (show ObjOk X.prog X.w H s.heap a (.frz o (.dK [])) from I.hok a _ ha)
  have eq : ∀ {its : List Value}, Vals xs its → ∀ y, y ∈ its.toArray → SeqAt.EqAt X.A.in1 s y (.ref a) ((fun _ => false) y) := fun r y m => by
    obtain ⟨t, k, e⟩ := strs_at r hs y (by simpa using m)
    subst e
    exact eqAt_str_dict t k d (by show X.A.units + 1 < cLine; omega)
  rcases hq with hq | hq
  · obtain ⟨its, r, pl, hz⟩ := I.list hq
    exact SeqAt.notIn_listAt (fun _ => false) pl.isList (eq r) ⟨.bl _, H, I, rfl, by rw [any_false]; exact q⟩
  · obtain ⟨its, r, pl, hz⟩ := I.tuple hq
    exact SeqAt.notIn_tupleAt (fun _ => false) pl (eq r) ⟨.bl _, H, I, rfl, by rw [any_false]; exact q⟩
def pInE (neg : Bool) (a b : R) : Option R := match a with
  | .im .emp => (seqR b).bind fun us => if allS us = true then some (.im (.bl neg)) else none
  | _ => none
theorem snd_inE {g : G} {neg : Bool} : Snd2 g (rInE g.K neg) (pInE neg) := by
  intro H v w a b c A B Q bx ra rb e q
  unfold pInE at e
  split at e
  · obtain ⟨_, ra⟩ := ra
    cases ra with
    | emp he =>
      cases h2 : seqR b with
      | none => rw [h2] at e; cases e
      | some us =>
        rw [h2] at e
        change (if _ then _ else _) = _ at e
        by_cases hf : allS us = true
        · rw [if_pos hf] at e
          cases e
          obtain ⟨p, vs, rfl, h3, h4, h5⟩ := seqR_of rb h2
          exact ⟨_, _, p, vs, rfl, he, rfl, h3, allS_V h4 hf, imQ q (.bl _)⟩
        · rw [if_neg hf] at e; cases e
  · cases e
def rInX (K : PySem.W.Frag) (neg : Bool) : R2 := fun x y H Q => rInU K neg x y H Q ∨ rInE K neg x y H Q
theorem op_inX {X : Cx} {K : PySem.W.Frag} (eK : X.K = K) (hu : X.A.units + 65 < cLine) : OpR X (compareOp .In) (rInX K false) := (op_inU eK hu).or (op_inE eK hu)
theorem op_notinX {X : Cx} {K : PySem.W.Frag} (eK : X.K = K) (hu : X.A.units + 65 < cLine) : OpR X (compareOp .NotIn) (rInX K true) := (op_notinU eK hu).or (op_notinE eK hu)
def pInX (neg : Bool) (a b : R) : Option R := (pIn neg a b).or (pInE neg a b)
theorem snd_inX {g : G} {neg : Bool} : Snd2 g (rInX g.K neg) (pInX neg) := snd_in.or snd_inE
/-! == -/
def rEqE : R2 := fun x y H Q => ∃ (a : Addr) (o : Obj) (t : Str), x = .ref a ∧ H a = some (.frz o (.dK [])) ∧ y = .str t ∧ Q (.bl false) H
theorem op_eqE {X : Cx} (hu : X.A.units + 65 < cLine) : OpR X (compareOp .Eq) rEqE := by
  intro pins s σ H x y v u Q I rx ry ⟨a, o, t, hx, ha, hy, q⟩
  subst hx hy
  cases rx
  obtain ⟨k, rfl⟩ := ry
  have d : IsD s a := isD_of (show ObjOk X.prog X.w H s.heap a (.frz o (.dK [])) from I.hok a _ ha)
  exact rc_dict_str t k d (by omega) X.prog X.w _ _ ⟨.bl _, H, I, rfl, q⟩
def pEqE (a b : R) : Option R := match a, b with
  | .im .emp, .im (.str _) => some (.im (.bl false))
  | _, _ => none
theorem snd_eqE {g : G} : Snd2 g rEqE pEqE := by
  intro H v w a b c A B Q bx ra rb e q
  unfold pEqE at e
  split at e
  · cases e
    obtain ⟨_, ra⟩ := ra
    obtain ⟨_, rb⟩ := rb
    cases ra with
    | emp he =>
      cases rb
      exact ⟨_, _, _, rfl, he, rfl, imQ q (.bl _)⟩
  · cases e
def rEqX (K : PySem.W.Frag) : R2 := fun x y H Q => rEqU K x y H Q ∨ rEqE x y H Q
theorem op_eqX {X : Cx} {K : PySem.W.Frag} (eK : X.K = K) (hu : X.A.units + 65 < cLine) : OpR X (compareOp .Eq) (rEqX K) := (op_eqU eK hu).or (op_eqE hu)
def pEqX (a b : R) : Option R := (pEq false a b).or (pEqE a b)
theorem snd_eqX {g : G} : Snd2 g (rEqX g.K) pEqX := snd_eq.or snd_eqE
end Rl
/-! Rl: an empty dict. -/
namespace Rl
open PySem PySem.Spec PyProof.Rows L2 Wn
section
variable {g : G} {W : WX} {t : Fr} {X : Cx} {pos : Pos}
theorem ue_emp : PE X (.Dict [] [] pos) (lE g W t (pC .emp)) := by
  refine ⟨fun pins s σ H Q I hq => ?_⟩
  obtain ⟨ρ, sS, hq⟩ := hq
  refine thn (pe_dnewK.run pins s σ H (fun v H1 => ∃ p, v = .ref p ∧ H1 = upd H p (.dK []) ∧ H p = none) I fun p n => ⟨p, rfl, rfl, n⟩) fun w s1 ⟨v, H1, I1, rv, p, e1, e2, n⟩ => ?_
  subst e1 e2
  obtain ⟨od, I2⟩ := I1.lock (show upd H p (.dK []) p = some (.dK []) from upd_same) trivial
  have sm : ∀ x o, H x = some o → upd (upd H p (.dK [])) p (.frz od (.dK [])) x = some o := fun x o e => (upd_ne (ne_of_none e n)).trans ((upd_ne (ne_of_none e n)).trans e)
  exact ⟨.ref p, _, I2, rv, hq (.ref p) _ [] ⟨fun x o h _ => sm x o h, fun x o h _ => sm x o h⟩ (sS.bx.same sm) ⟨rfl, .emp upd_same⟩ List.nodup_nil fun x m => nomatch m⟩
end
end Rl
/-! Rl: powers; isinstance of the error that is held. -/
namespace Rl
open PySem PySem.Spec PyProof.Rows L2 Wn
section
variable {g : G} {W : WX} {t : Fr} {pos : Pos}
def pPowI := fI fun i j => if 0 ≤ j ∧ j ≤ 1000000 ∧ i.natAbs < 2 ^ 64 then some (.int (i ^ j.toNat)) else none
theorem snd_pow : Snd2 g (rI CPow fun i j => .int (i ^ j.toNat)) pPowI := snd_I fun H i j u e => by
  by_cases h : 0 ≤ j ∧ j ≤ 1000000 ∧ i.natAbs < 2 ^ 64
  · rw [if_pos h] at e; cases e; exact ⟨h, .int _⟩
  · rw [if_neg h] at e; cases e
theorem Xd.dx {H : Hp} {dd : Option Addr} {e : Er} (h : Xd g H dd e) : Dx H dd := by
  cases h with
  | of h1 _ _ => exact ⟨_, h1⟩
  | no _ => trivial
theorem Dx.same {H H' : Hp} {dd : Option Addr} (h : Dx H dd) (s : Same H H') : Dx H' dd := by
  cases dd with
  | none => trivial
  | some d => obtain ⟨fs, e⟩ := h; exact ⟨fs, s _ _ e⟩
theorem ue_isE {X : Cx} {a C D : Addr} {oe : Obj} {cls : Value} {d : Option Addr} {pn : List (Addr × Obj)} {e : Expr} {i k : Nat} {dd : Option Addr} {us : List U} {b : Bool} (hc : cls = .ref C) (hd : d = dd) (T : ExcC g.K C) (cv : ClsV (.ref D) (.ref D)) (kt : PySem.W.kitOne g.K (.ref C) (.ref D) = some b)
    (h : PE (X.suite a ((a, oe) :: pn)) e (tCB (rIsA g.K a cls d) (tCons (tVar i) (tCons (tC (.ref D)) tNil)))) : PE (X.suite a ((a, oe) :: pn)) e (lE g W (tH t i a dd k us) (pC (.bl b))) := by
  refine PE.imp h fun σ H Q h => ?_
  obtain ⟨ρ, sS, h⟩ := h
  have e1 := sS.ps (i, .ref a) (.head _)
  have h1 : Dx H dd := (sS.xd (dd, ⟨k, us⟩) (.head _)).dx
  subst hd
  refine ⟨.ref a, e1, ?_⟩
  exact ⟨C, .ref D, .ref D, b, rfl, hc, h1, T, cv, kt, h (.bl b) H [] (Ext.refl H) sS.bx ⟨rfl, .bl _⟩ List.nodup_nil fun x m => nomatch m⟩
/-- a try, its clauses by their classes -/
theorem us_tryA {X : Cx} {body : List Stmt} {h₀ : ExceptHandler} {hds : List ExceptHandler} {bp : PSt} {l : List Hdl} {ks : List Nat} (eK : X.K = g.K) (ok : XOk g ks) (hl : ∀ p ∈ l, p.1 ∈ ks ∧ ∀ q ∈ t.ps, q.1 ≠ p.2.1) (hs : X.stack = X.env :: X.outer) (hf : X.env.frame = some X.env.locals) (hN : X.N.Nodup) (tk : Takes X W)
    (hb : ∀ (W' : WX) (pn : List (Addr × Obj)) (xe : Value → Shared → Prop), Takes (X.tr pn xe) W' → PassesOwn (model X.prog X.w) X.A X.env xe → PSs (X.tr pn xe) body (lS1 g W' t bp)) (hh : HdsA X (h₀ :: hds) (l.map fun p => (.ref (g.xt p.1).C, p.2.1, lH g t p.1 p.2.1 p.2.2))) :
    PS X (.Try body (h₀ :: hds) [] [] pos) (lS g W t (pTry ks bp l)) := by
  have h := ps_try_manyA (pos := pos) (tb := fun W' => lS1 g W' t bp) hs hf hN tk hb hh
  rw [eK] at h
  exact us_try ok hl h
end
end Rl
/-! Rl: objects made where what is raised depends on the names (in a try). -/
namespace Rl
open PySem PySem.Spec PyProof.Rows L2 Wn
section
variable {CT : CXT} {Z : Cx} {kk a1 : Nat} {fi cl : Addr} {dta : FuncData} {prs nms : List Str} {sq : Sp} {Ex : L2.St → XK} {cn : Str} {px pz : Pos} {e1 : Expr} {er : List Expr} {kwl : List Keyword} {tp tq : TA} {mg1 : List Value → List Value → List Value} {mgV : List V → List V → List V}
/-- as tMakeK, the error's wish at the names as they are -/
def tMakeKS (cl : Addr) (a1 m1 : Nat) (sq : Sp) (mgV : List V → List V → List V) (Ex : L2.St → XK) (tp tq : TA) : TE := fun σ H Q => tMakeK cl a1 m1 sq mgV (Ex σ) tp tq σ H Q
theorem made_runs {ks1 : List (Addr × Obj)} {τ : L2.St} {h : Hp} {st : Shared} {R : VK} {as bs : List Value} {xs ys : List V} (M : Mk Z.K cl fi) (F : FnOk Z.prog Z.w Z.K Z.mg Z.base CT kk fi dta prs sq) (room : Room (kk + 1) Z.A) (B : KBn Z.K dta prs (a1 + 1) nms mg1 mgV) (ps : PassesAt CT Z τ (Ex τ))
    (J : Inv Z ks1 τ h st) (ra : Vals xs as) (rb : Vals ys bs) (la : xs.length = a1) (lb : ys.length = nms.length)
    (hh : ∀ x dx, h x = none → h dx = none → dx ≠ x → sq (mgV (.ref x :: xs) ys) (upd (upd h dx (.own x)) x (.ins cl dx [])) (fun v h2 => v = .non ∧ R (.ref x) h2) (Ex τ)) :
    wpAny (model Z.prog Z.w) Z.A (call (.ref cl) as (nms.zip bs)) (EP Z ks1 τ R) Z.xe st := by
  have J2 := Inv.made (C := cl) J
  have now := hh (st.heap.objs.size + 1) st.heap.objs.size (J.hok.fresh (Nat.le_succ _)) (J.hok.fresh (Nat.le_refl _)) (Nat.ne_of_lt (Nat.lt_succ_self _))
  have rs : Vals (V.ref (st.heap.objs.size + 1) :: xs) (Value.ref (st.heap.objs.size + 1) :: as) := .cons rfl ra
  have cnt : (Value.ref (st.heap.objs.size + 1) :: as).length = a1 + 1 := by rw [List.length_cons, ← ra.length, la]
  have binds := B.to _ (Value.ref (st.heap.objs.size + 1) :: as) bs J2.kIn cnt (rb.length.symm.trans lb)
  have runs := F.run _ Z.stack _ _ ⟨Value.ref (st.heap.objs.size + 1) :: as, nms.zip bs⟩ _ _ _ (Ex τ) (room.make cl as (nms.zip bs)) (J2.env0.make cl as (nms.zip bs)) binds (B.rel rs rb) now
  refine wpAny_call (make_map (f := fi) J.kIn M.makes M.init (beq_iff_eq.mp M.fn) (codeAny_mono runs fun out s2 got => ?_))
  match out, got with
  | .error e, got => exact ps ks1 _ _ e s2 J2 got
  | .ok (.ret u), got =>
    obtain ⟨v, h3, J3, rv, ev, q3⟩ := J2.after got
    subst ev
    exact ⟨rv, V.ref (st.heap.objs.size + 1), h3, J3, rfl, q3⟩
  | .ok .next, got => exact got.elim
  | .ok .brk, got => exact got.elim
  | .ok .cont, got => exact got.elim
/-- C(e, .., k = v, ..), in a try too -/
theorem pe_makeKS (M : Mk Z.K cl fi) (F : FnOk Z.prog Z.w Z.K Z.mg Z.base CT kk fi dta prs sq) (room : Room (kk + 1) Z.A) (gl : Gl Z cn) (gm : Z.mg cn = some (.ref cl)) (B : KBn Z.K dta prs (a1 + 1) nms mg1 mgV) (ps : ∀ τ, PassesAt CT Z τ (Ex τ)) (pa1 : PA Z (e1 :: er) tp) (pk1 : PK Z kwl tq)
    (named : (backToKw pz (keywordEach kwl Z.env)).all (·.1.isSome) = true := by rfl) (names : (backToKw pz (keywordEach kwl Z.env)).filterMap (·.1) = nms := by rfl) (nodbg : (cn == ("__debug__" : Str)) = false := by decide)
    (first : starEach (e1 :: er) Z.env = (false, eval e1 Z.env) :: starEach er Z.env := by rfl) (plain : ((backTo pz (starEach (e1 :: er) Z.env)).any (·.1) || (backToKw pz (keywordEach kwl Z.env)).any (·.1.isNone)) = false := by rfl) :
    PE Z (.Call (.Name cn px) (e1 :: er) kwl pz) (tMakeKS cl a1 nms.length sq mgV Ex tp tq) := ⟨fun ks1 st τ h R J wish => by
  have wish : tp τ h fun xs h1 => tq τ h1 fun ys h2 => _ := wish
  refine wpAny_Call_Name_kw (ld_glob J gl gm ?_ nodbg)
  refine PySem.W.callWith_KW (h₀ := Z.base) J.ok.mod.kin M.kp named (thn (pa1.run pz ks1 st τ h _ J wish) fun as s1 ⟨xs, h1, J1, r1, w1⟩ => ?_) plain first
  refine thn (pk1.run pz ks1 s1 τ h1 _ J1 w1) fun bs s2 ⟨ys, h2, J2, r2, la, lb, w2⟩ => ⟨J2.kIn, ?_⟩
  rw [names]
  exact made_runs M F room B (ps τ) J2 r1 r2 la lb w2⟩
end
section
variable {g : G} {W : WX} {t : Fr} {X : Cx} {pos : Pos} {e : Expr} {pas pks : PAs}
theorem ue_mkS {im : Bool} {c L n m k : Nat} {gU : List U → List U → List U} {gV : List V → List V → List V} {fn : List U → Res (List O)} (ok : MkOk g c L im)
    (hg : ∀ H v vs zs us ws, RUs g H vs us → RUs g H zs ws → us.length = n → ws.length = m → ∃ vs', gV (v :: vs) zs = v :: vs' ∧ RUs g H vs' (gU us ws) ∧ (gU us ws).length + 1 = k)
    (h : PE X e (tMakeKS (g.ct c).C n m (spI g c k fn) gV (WE W) (lA g W t pas) (lA g W t pks))) : PE X e (lE g W t (pMk im c L n m gU fn pas pks)) := PE.imp h fun σ H Q h => by
  obtain ⟨ρ, sS, h⟩ := h
  refine ⟨ρ, sS, post_mono (fun rs hr vs H1 A x1 b1 r1 n1 f1 => ?_) (fun e x => x) (post_bind.mp h)⟩
  obtain ⟨us, eu, hr⟩ := post_opt (post_bind.mp hr)
  obtain ⟨ru, hl⟩ := args_of r1 eu
  refine ⟨ρ, sS.mono x1 b1, post_mono (fun zs hz ys H2 B x2 b2 r2 n2 f2 => ?_) (fun e x => x.back x1) (post_bind.mp hr)⟩
  obtain ⟨ws, ew, hz⟩ := post_opt (post_bind.mp hz)
  obtain ⟨rw', hlw⟩ := args_of r2 ew
  refine ⟨by rw [ru.len, hl], by rw [rw'.len, hlw], fun x dx nx ndx ne => ?_⟩
  obtain ⟨vs', e1, r3, h3⟩ := hg H2 (.ref x) vs ys us ws (ru.mono x2.kp) rw' hl hlw
  rw [e1]
  exact mk_core ok.len ok.pos ok.im b2 r3 h3 (post_mono (fun r hr v H3 C x3 b3 r3 n3 f3 => hr v H3 C ((x1.trans x2).trans x3) b3 r3 n3 fun y m => (x1.trans x2).back b2 (f3 y m)) (fun e x dd H3 x3 b3 d => x dd H3 ((x1.trans x2).trans x3) b3 d) hz) nx ndx ne
/-! what a clause does, by the error's values -/
def ph1 (f : U → PSt) : List U → PSt
  | [a] => f a
  | _ => fun _ => .st
def ph2 (f : U → U → PSt) : List U → PSt
  | [a, b] => f a b
  | _ => fun _ => .st
def ph3 (f : U → U → U → PSt) : List U → PSt
  | [a, b, c] => f a b c
  | _ => fun _ => .st
theorem uh1 {sts : List Stmt} {k i : Nat} {f : U → PSt} {a : Addr} {cls : Value} {d : Option Addr} (h : ∀ dd u0, cls = .ref (g.xt k).C → d = dd → PSs X sts (lS g W0 (tH t i a dd k [u0]) (f u0))) : PSs X sts (lH g t k i (ph1 f) a cls d) :=
  uh fun dd us hc hd => match us with
    | [u0] => h dd u0 hc hd
    | [] => us_st
    | _ :: _ :: _ => us_st
theorem uh2 {sts : List Stmt} {k i : Nat} {f : U → U → PSt} {a : Addr} {cls : Value} {d : Option Addr} (h : ∀ dd u0 u1, cls = .ref (g.xt k).C → d = dd → PSs X sts (lS g W0 (tH t i a dd k [u0, u1]) (f u0 u1))) : PSs X sts (lH g t k i (ph2 f) a cls d) :=
  uh fun dd us hc hd => match us with
    | [u0, u1] => h dd u0 u1 hc hd
    | [] => us_st
    | [_] => us_st
    | _ :: _ :: _ :: _ => us_st
theorem uh3 {sts : List Stmt} {k i : Nat} {f : U → U → U → PSt} {a : Addr} {cls : Value} {d : Option Addr} (h : ∀ dd u0 u1 u2, cls = .ref (g.xt k).C → d = dd → PSs X sts (lS g W0 (tH t i a dd k [u0, u1, u2]) (f u0 u1 u2))) : PSs X sts (lH g t k i (ph3 f) a cls d) :=
  uh fun dd us hc hd => match us with
    | [u0, u1, u2] => h dd u0 u1 u2 hc hd
    | [] => us_st
    | [_] => us_st
    | [_, _] => us_st
    | _ :: _ :: _ :: _ :: _ => us_st
theorem apart1 {i j : Nat} {v : V} {ps : List (Nat × V)} (h : i ≠ j) (hp : ∀ p ∈ ps, p.1 ≠ j) : ∀ p ∈ (i, v) :: ps, p.1 ≠ j := fun p m => by
  rcases List.mem_cons.mp m with z | z
  · rw [z]; exact h
  · exact hp p z
end
end Rl
/-! Rl: a list of one's own is given back. -/
namespace Rl
open PySem PySem.Spec PyProof.Rows L2 Wn
section
variable {g : G} {W : WX} {t : Fr} {X : Cx}
def pRetO (i : Nat) : PSt := fun (ρ : List Sl) => match (ρ[i]? : Option Sl) with
  | some (.ow o) => .ok (.rt (.fr o) (ρ.set i .un))
  | some (.im u) => .ok (.rt (.im u) ρ)
  | _ => .st
theorem boxM_nb {a : Addr} (m : a ∈ boxM g) (h : Nb g a) : False := by
  unfold boxM at m
  cases hb : g.bad with
  | none => rw [hb] at m; cases m
  | some p =>
    rw [hb] at m
    obtain ⟨b, c⟩ := p
    exact (h b c hb).1 (List.mem_singleton.mp m)
theorem us_retO {st : Stmt} {i : Nat} (hM : ∀ a ∈ t.M, Nb g a → False) (h : PS X st (tRet (tVar i))) : PS X st (lS g W t (pRetO i)) := by
  refine PS.imp h fun D σ H h => ?_
  obtain ⟨ρ, sS, h⟩ := h
  unfold pRetO at h
  cases e1 : (ρ[i]? : Option Sl) with
  | none => rw [e1] at h; exact h.elim
  | some sl =>
    rw [e1] at h
    cases sl with
    | un => exact h.elim
    | im u =>
      obtain ⟨A, s1, s2, s3⟩ := sS.sl
      obtain ⟨v, g1, g2⟩ := s1.atIm e1
      exact ⟨v, g1, h v σ H [] (Kp.refl H) sS ⟨rfl, g2⟩ List.nodup_nil fun x m => nomatch m⟩
    | ow o =>
      obtain ⟨A, s1, s2, s3⟩ := sS.sl
      obtain ⟨v, B, A', g1, g2, g3, g4, g5⟩ := s1.take s2 e1
      refine ⟨v, g1, h v σ H B (Kp.refl H) ⟨⟨A', g5.1, g5.2.1.nodup s2, fun a m => s3 a (g5.2.1.subset m)⟩, sS.bx, sS.fr, sS.kp, sS.th, sS.ps, sS.bm, sS.xd⟩ ⟨g2, fun a m => (s3 a (g4 a m)).2⟩ g3 fun a m => ?_⟩
      obtain ⟨q1, q2⟩ := s3 a (g4 a m)
      exact q1.resolve_left fun z => hM a z q2
end
end Rl
/-! Rl: `is` of two bools. -/
namespace Rl
open PySem PySem.Spec PyProof.Rows L2 Wn
section
variable {g : G}
def pIsB (a b : R) : Option R := match a, b with
  | .im (.bl x), .im (.bl y) => some (.im (.bl (decide (x = y))))
  | _, _ => none
def rIsB2 : R2 := fun x y H Q => ∃ a b, x = .bl a ∧ y = .bl b ∧ Q (.bl (decide (a = b))) H
theorem op_isB2 {X : Cx} : OpR X (compareOp .Is) rIsB2 := op_is_bl
theorem snd_isB : Snd2 g rIsB2 pIsB := by
  intro H v w a b c A B Q bx ra rb e q
  unfold pIsB at e
  split at e
  · cases e
    obtain ⟨_, ra⟩ := ra
    obtain ⟨_, rb⟩ := rb
    cases ra
    cases rb
    exact ⟨_, _, rfl, rfl, imQ q (.bl _)⟩
  · cases e
end
end Rl
/-! Rl: two empty dicts are not unlike. -/
namespace Rl
open PySem PySem.Spec PyProof.Rows L2 Wn
def rNeE : R2 := fun x y H Q => ∃ (a b : Addr) (o o' : Obj), x = .ref a ∧ y = .ref b ∧ H a = some (.frz o (.dK [])) ∧ H b = some (.frz o' (.dK [])) ∧ Q (.bl false) H
theorem op_neE {X : Cx} (hu : X.A.units + 65 < cLine) : OpR X (compareOp .NotEq) rNeE := by
  intro pins s σ H x y v u Q I rx ry ⟨a, b, o, o', hx, hy, ea, eb, q⟩
  subst hx hy
  cases rx; cases ry
  obtain ⟨_, _, ya, va, ra, da⟩ := (show ObjOk X.prog X.w H s.heap a (.frz o (.dK [])) from I.hok a _ ea)
  obtain ⟨_, _, yb, vb, rb, db⟩ := (show ObjOk X.prog X.w H s.heap b (.frz o' (.dK [])) from I.hok b _ eb)
  have hl : va.length = vb.length := by rw [← ra.length, ← rb.length]
  exact PySem.W.keq_ne (knd := mixKind X.prog X.w) (r := true) ya yb da db (by omega) (fun _ => hits_all rb ra (fun p m => nomatch m)) (fin_bl I q (by simp [hl]))
def pNeE (a b : R) : Option R := match a, b with
  | .im .emp, .im .emp => some (.im (.bl false))
  | _, _ => none
theorem snd_neE {g : G} : Snd2 g rNeE pNeE := by
  intro H v w a b c A B Q bx ra rb e q
  unfold pNeE at e
  split at e
  · obtain ⟨_, ra⟩ := ra
    obtain ⟨_, rb⟩ := rb
    cases ra with
    | emp h =>
      cases rb with
      | emp h' =>
        cases e
        exact ⟨_, _, _, _, rfl, rfl, h, h', imQ q (.bl _)⟩
  · cases e
def rNeX (K : PySem.W.Frag) : R2 := fun x y H Q => rNeU K x y H Q ∨ rNeE x y H Q
theorem op_neX {X : Cx} {K : PySem.W.Frag} (e : X.K = K) (hu : X.A.units + 65 < cLine) : OpR X (compareOp .NotEq) (rNeX K) := (op_neU e hu).or (op_neE hu)
def pNeX (a b : R) : Option R := (pEq true a b).or (pNeE a b)
theorem snd_neX {g : G} : Snd2 g (rNeX g.K) pNeX := snd_ne.or snd_neE
end Rl
/-! Rl: methods called inside a try: what is wanted of an error knows the names. -/
namespace Rl
open PySem PySem.Spec PyProof.Rows L2 Wn
def tMethX (C : Addr) (m : Str) (sp : Sp) (E : L2.St → XK) (ta : TE) (t : TA) : TE := fun σ H Q => ta σ H fun x H1 => ∃ a dx fs, x = .ref a ∧ H1 a = some (.ins C dx fs) ∧ fs.lookup m = none ∧ t σ H1 fun vs H2 => sp (x :: vs) H2 Q (E σ)
section
variable {X : Cx} {CX : CXT} {k : Nat} {f C : Addr} {fd : FuncData} {ps : List Str} {sp : Sp} {E : L2.St → XK} {m : Str} {pos apos : Pos} {e o : Expr} {es : List Expr} {ta : TE} {t : TA}
theorem pe_methX {pl : Sem Bool} (he : PE X o ta) (c : Cls X.K C) (hm : Meth X.K C m f) (F : FnOk X.prog X.w X.K X.mg X.base CX k f fd ps sp) (hr : Room k X.A) (hb : Binds X.K fd ps []) (hx : ∀ σ, PassesAt CX X σ (E σ)) (ha : PA X (e :: es) t)
    (hst : starEach (e :: es) X.env = (false, eval e X.env) :: starEach es X.env := by rfl) (hpl : (backTo pos (starEach es X.env)).any (·.1) = false := by rfl)
    (ht : eval (.Call (.Attribute o m apos) (e :: es) [] pos) X.env = (do
      let ov ← eval o X.env
      standAt apos.atName
      let (g, first) ← holding [ov] (getMethod ov m pl)
      callWith pos g first (backTo pos (starEach (e :: es) X.env)) (backToKw pos (keywordEach [] X.env))) := by rfl) :
    PE X (.Call (.Attribute o m apos) (e :: es) [] pos) (tMethX C m sp E ta t) := by
  refine ⟨fun pins s σ H Q I h => ?_⟩
  refine PySem.W.methodCall_KW (pl := pl) (thn (he.run pins s σ H _ I h) fun w s1 ⟨x, H1, I1, rx, a, dx, fs, ex, ea, l, q⟩ => ?_) ht
  subst ex
  cases rx
  refine getmeth_ok I1 ea c hm l (PySem.W.callWith_K (first := [.ref a]) (h₀ := X.base) I1.ok.mod.kin hm.kp (thn (ha.run pos pins s1 σ H1 _ I1 q) fun us s2 ⟨vs, H2, I2, r, q2⟩ => ⟨I2.kIn, ?_⟩) hst hpl)
  exact run_fnS (us := .ref a :: us) (vs := .ref a :: vs) F hr hb (hx σ) I2 (.cons rfl r) q2
theorem pe_methX0 {pl : Sem Bool} (he : PE X o ta) (c : Cls X.K C) (hm : Meth X.K C m f) (F : FnOk X.prog X.w X.K X.mg X.base CX k f fd ps sp) (hr : Room k X.A) (hb : Binds X.K fd ps []) (hx : ∀ σ, PassesAt CX X σ (E σ))
    (ht : eval (.Call (.Attribute o m apos) [] [] pos) X.env = (do
      let ov ← eval o X.env
      standAt apos.atName
      let (g, first) ← holding [ov] (getMethod ov m pl)
      callWith pos g first (backTo pos (starEach [] X.env)) (backToKw pos (keywordEach [] X.env))) := by rfl) :
    PE X (.Call (.Attribute o m apos) [] [] pos) (tMethX C m sp E ta tNil) := by
  refine ⟨fun pins s σ H Q I h => ?_⟩
  refine PySem.W.methodCall_KW (pl := pl) (thn (he.run pins s σ H _ I h) fun w s1 ⟨x, H1, I1, rx, a, dx, fs, ex, ea, l, q⟩ => ?_) ht
  subst ex
  cases rx
  exact getmeth_ok I1 ea c hm l (PySem.W.callWith_K0 (first := [.ref a]) I1.kIn hm.kp (run_fnS (us := [.ref a]) (vs := [.ref a]) F hr hb (hx σ) I1 (.cons rfl .nil) q))
end
section
variable {g : G} {W : WX} {t : Fr} {X : Cx} {pa : PEx} {pas : PAs} {σ : L2.St} {H : Hp}
theorem lmethX {k n : Nat} {fn : List U → Res R} {m : Str} {Q : VK} {tA : TA} (hA : ∀ σ H Q, lA g W t pas σ H Q → tA σ H Q) (hm : m ∉ (g.ct k).ns) (h : lE g W t (pMeth k n fn pa pas) σ H Q) : tMethX (g.ct k).C m (spF g n fn) (WE W) (lE g W t pa) tA σ H Q := by
  obtain ⟨ρ, sS, h⟩ := h
  refine ⟨ρ, sS, post_mono (fun r hr v H1 A x1 b1 r1 n1 f1 => ?_) (fun e x => x) (post_bind.mp h)⟩
  obtain ⟨u, eu, hr⟩ := post_opt (post_bind.mp hr)
  obtain ⟨p, dx, fs, ws, rfl, rfl, h1, hn, ru⟩ := ins_of r1 eu
  refine ⟨p, dx, fs, rfl, h1, lookup_no (by rw [hn]; exact hm), hA _ _ _ ⟨ρ, sS.mono x1 b1, post_mono (fun rs hr vs H2 B x2 b2 r2 n2 f2 => ?_) (fun e x => x.back x1) (post_bind.mp hr)⟩⟩
  obtain ⟨us, eu, hf⟩ := post_opt (post_bind.mp hr)
  by_cases hl : rs.length + 1 = n
  · rw [if_pos hl] at eu
    have ru2 := (ims_of r2 eu).2
    exact ⟨.ins k ws :: us, .cons (ru.mono x2.kp) ru2, by rw [List.length_cons, ← ru2.len, r2.len]; exact hl, b2, post_mono (fun r hr v H3 C x3 b3 r3 n3 f3 => hr v H3 C ((x1.trans x2).trans x3) b3 r3 n3 fun y m => (x1.trans x2).back b2 (f3 y m)) (fun e x dd H3 x3 b3 d => x dd H3 ((x1.trans x2).trans x3) b3 d) hf⟩
  · rw [if_neg hl] at eu; cases eu
theorem ue_methX {e : Expr} {k n : Nat} {fn : List U → Res R} {m : Str} (hm : m ∉ (g.ct k).ns) (h : PE X e (tMethX (g.ct k).C m (spF g n fn) (WE W) (lE g W t pa) (lA g W t pas))) : PE X e (lE g W t (pMeth k n fn pa pas)) := PE.imp h fun _ _ _ h => lmethX (fun _ _ _ h => h) hm h
theorem ue_methX0 {e : Expr} {k n : Nat} {fn : List U → Res R} {m : Str} (hm : m ∉ (g.ct k).ns) (h : PE X e (tMethX (g.ct k).C m (spF g n fn) (WE W) (lE g W t pa) tNil)) : PE X e (lE g W t (pMeth k n fn pa pNil)) := PE.imp h fun _ _ _ h => lmethX (tA := tNil) (fun σ H Q ⟨ρ, s, q⟩ => q [] H [] (Ext.refl H) s.bx .nil List.nodup_nil fun x m => nomatch m) hm h
end
end Rl
/-! Rl: the place of a text in a tuple of texts. -/
namespace Rl
open PySem PySem.Spec PyProof.Rows L2 Wn
def idxR (us : List U) (b : R) : Option R := (sR b).bind fun z => (txts us).bind fun xs => if z ∈ xs then some (.im (.int (idx xs z : Nat))) else none
def pTix (pa pb : PEx) : PEx := fun ρ => (pa ρ).bind fun a => (Res.opt (tupR a)).bind fun us => (pb ρ).bind fun b => .opt (idxR us b)
def rTIx (K : PySem.W.Frag) : V → List V → Hp → VK → Prop := fun x xs H Q => ∃ p, ∃ ys : List Str, ∃ z j, x = .ref p ∧ xs = [.str z] ∧ SqT K H p (ys.map V.str) ∧ ys[j]? = some z ∧ (∀ m, m < j → ys[m]? ≠ some z) ∧ Q (.int (j : Nat)) H
theorem idx_first : ∀ {ys : List Str} {z : Str} (m : Nat), m < idx ys z → ys[m]? ≠ some z
  | [], z, m, h => by simp
  | y :: ys, z, m, h => by
    unfold idx at h
    by_cases e : y = z
    · rw [if_pos e] at h; exact absurd h (Nat.not_lt_zero _)
    · rw [if_neg e] at h
      cases m with
      | zero => simpa using e
      | succ m => simpa using idx_first (ys := ys) (z := z) m (by omega)
theorem txts_V {g : G} {H : Hp} : ∀ {vs : List V} {us : List U} {xs : List Str}, RUs g H vs us → txts us = some xs → vs = xs.map V.str
  | _, _, _, .nil, e => by cases e; rfl
  | _, _, xs, .cons (u := u) a b, e => by
    cases a with
    | str x =>
      obtain ⟨ys, h1, h2⟩ := map_some (show (txts _).map _ = some xs from e)
      rw [h2, List.map_cons, txts_V b h1]
    | _ => cases e
section
variable {g : G} {W : WX} {t : Fr} {X : Cx} {pa pb : PEx}
theorem ue_idx {e : Expr} (h : PE X e (tBP g.K (rTIx g.K) (lE g W t pa) (tCons (lE g W t pb) tNil))) : PE X e (lE g W t (pTix pa pb)) := PE.imp h fun σ H Q h => by
  obtain ⟨ρ, sS, h⟩ := h
  refine ⟨ρ, sS, post_mono (fun a ha => ?_) (fun e x => x) (post_bind.mp h)⟩
  intro v H1 A x1 b1 r1 n1 f1
  obtain ⟨us, hu, ha⟩ := post_opt (post_bind.mp ha)
  obtain ⟨p, vs, rfl, hp, ru⟩ := r1.ptp hu
  refine ⟨⟨p, vs, rfl, hp⟩, ρ, sS.mono x1 b1, post_mono (fun c hc => ?_) (fun e x => x.back x1) (post_bind.mp ha)⟩
  intro w H2 B x2 b2 r2 n2 f2
  obtain ⟨d, ed, q⟩ := post_opt hc
  unfold idxR at ed
  cases h2 : sR c with
  | none => rw [h2] at ed; cases ed
  | some z =>
    rw [h2, Option.bind_some] at ed
    cases h3 : txts us with
    | none => rw [h3] at ed; cases ed
    | some xs =>
      rw [h3, Option.bind_some] at ed
      by_cases hz : z ∈ xs
      · rw [if_pos hz] at ed
        cases ed
        have e1 := txts_V ru h3
        refine ⟨p, xs, z, idx xs z, rfl, by rw [sR_of r2 h2], ?_, idx_at hz, fun m hm => idx_first m hm, ?_⟩
        · rw [← e1]
          exact (pt_mono x2.kp hp).sq
        · exact q _ H2 [] (x1.trans x2) b2 ⟨rfl, .int _⟩ List.nodup_nil fun x m => nomatch m
      · rw [if_neg hz] at ed; cases ed
end
end Rl
/-! Rl: the place of a text in a list of texts. -/
namespace Rl
open PySem PySem.Spec PyProof.Rows L2 Wn
def pLix (pa pb : PEx) : PEx := fun ρ => (pa ρ).bind fun a => (Res.opt (lstR a)).bind fun us => (pb ρ).bind fun b => .opt (idxR us b)
theorem mt_indexK {X : Cx} {K : PySem.W.Frag} (e : X.K = K) : MtR X "list.index" (rIndex K) := by subst e; exact mt_index
section
variable {g : G} {W : WX} {t : Fr} {X : Cx} {pa pb : PEx}
theorem ue_lix {e : Expr} (h : PE X e (tBM g.K "list" (rIndex g.K) (lE g W t pa) (tCons (lE g W t pb) tNil))) : PE X e (lE g W t (pLix pa pb)) := PE.imp h fun σ H Q h => by
  obtain ⟨ρ, sS, h⟩ := h
  refine ⟨ρ, sS, post_mono (fun a ha => ?_) (fun e x => x) (post_bind.mp h)⟩
  intro v H1 A x1 b1 r1 n1 f1
  obtain ⟨us, hu, ha⟩ := post_opt (post_bind.mp ha)
  obtain ⟨p, vs, rfl, hp, ru⟩ := r1.lstS hu
  refine ⟨.inl ⟨rfl, vs, hp H1 (Ext.refl H1)⟩, ρ, sS.mono x1 b1, post_mono (fun c hc => ?_) (fun e x => x.back x1) (post_bind.mp ha)⟩
  intro w H2 B x2 b2 r2 n2 f2
  obtain ⟨d, ed, q⟩ := post_opt hc
  unfold idxR at ed
  cases h2 : sR c with
  | none => rw [h2] at ed; cases ed
  | some z =>
    rw [h2, Option.bind_some] at ed
    cases h3 : txts us with
    | none => rw [h3] at ed; cases ed
    | some xs =>
      rw [h3, Option.bind_some] at ed
      by_cases hz : z ∈ xs
      · rw [if_pos hz] at ed
        cases ed
        have e1 := txts_V ru h3
        refine ⟨p, vs, .str z, idx xs z, .str z, rfl, by rw [sR_of r2 h2], hp H2 x2, rfl, ?_, ?_, beq_self_eq_true z, fun m z' hm e => ?_, ?_⟩
        · rw [e1, List.all_eq_true]
          intro y m
          obtain ⟨s, _, rfl⟩ := List.mem_map.mp m
          rfl
        · rw [e1, List.getElem?_map, idx_at hz]
          rfl
        · rw [e1, List.getElem?_map] at e
          obtain ⟨s, hs, rfl⟩ := map_some e
          exact beq_eq_false_iff_ne.mpr fun q => idx_first m hm (by rw [hs, q])
        · exact q _ H2 [] (x1.trans x2) b2 ⟨rfl, .int _⟩ List.nodup_nil fun x m => nomatch m
      · rw [if_neg hz] at ed; cases ed
end
end Rl
/-! Rl: isinstance of the error that is held, with two classes. -/
namespace Rl
open PySem PySem.Spec PyProof.Rows L2 Wn
section
variable {g : G} {W : WX} {t : Fr} {pos : Pos}
theorem ue_isET {X : Cx} {a C D1 D2 : Addr} {oe : Obj} {cls : Value} {d : Option Addr} {pn : List (Addr × Obj)} {e : Expr} {i k : Nat} {dd : Option Addr} {us : List U} {b : Bool} (hc : cls = .ref C) (hd : d = dd) (T : ExcC g.K C) (k1 : PySem.W.kitOne g.K (.ref C) (.ref D1) = some false) (k2 : PySem.W.kitOne g.K (.ref C) (.ref D2) = some b)
    (h : PE (X.suite a ((a, oe) :: pn)) e (tCB (rIsAT g.K a cls d) (tCons (tVar i) (tCons (tTup (tCons (tC (.ref D1)) (tCons (tC (.ref D2)) tNil))) tNil)))) : PE (X.suite a ((a, oe) :: pn)) e (lE g W (tH t i a dd k us) (pC (.bl b))) := by
  refine PE.imp h fun σ H Q h => ?_
  obtain ⟨ρ, sS, h⟩ := h
  have e1 := sS.ps (i, .ref a) (.head _)
  have h1 : Dx H dd := (sS.xd (dd, ⟨k, us⟩) (.head _)).dx
  subst hd
  refine ⟨.ref a, e1, by show 2 ≤ sizeLine; decide, fun p np => ?_⟩
  have sm := same_new (o := .tup [.ref D1, .ref D2]) np
  refine ⟨C, p, [.ref D1, .ref D2], [.ref D1, .ref D2], b, rfl, hc, Dx.same h1 sm, T, upd_same, .cons (.own _) (.cons (.own _) .nil), ?_, h (.bl b) _ [] (Ext.of sm) (sS.bx.same sm) ⟨rfl, .bl _⟩ List.nodup_nil fun x m => nomatch m⟩
  unfold PySem.W.kitAny
  rw [k1]
  unfold PySem.W.kitAny
  rw [k2]
  cases b <;> rfl
end
end Rl
/-! Rl: names for what a list holds. -/
namespace Rl
open PySem PySem.Spec PyProof.Rows L2 Wn
section
variable {g : G} {t : Fr} {X : Cx} {a : Expr}
theorem pg_lstK {K : PySem.W.Frag} (eK : X.K = K) {pos : Pos} {es : List Expr} {k : Nat} {t : TGs} {n : Nat} (hc : X.calm = true) (h : PGs X es t)
    (hn : (assignEach es X.env).length = n := by rfl) (hst : (assignEach es X.env).findIdx? (·.1) = none := by rfl) : PG X (.Tuple es k pos) (gLst K n t) := by
  subst eK
  exact pg_lst hc h hn hst
theorem ug_ls {n : Nat} {ts : List Tg} (hn : ts.length = n) (h : PG X a (gLst g.K n (lGs g t ts))) : PG X a (lG g t (.ls ts)) := PG.imp h fun v σ H Q q => by
  obtain ⟨ρ, u, ρ', s, r, e, q⟩ := q
  cases u with
  | lst us =>
    unfold bindT at e
    by_cases hl : us.length = ts.length
    · rw [if_pos hl] at e
      cases r with
      | lst h1 h2 =>
        refine ⟨_, _, rfl, h1.sq, by rw [h2.len, hl, hn], ρ, us, ρ', s, h2, e, fun σ' s' w => q σ' s' (by unfold Tg.ix; exact w)⟩
    · rw [if_neg hl] at e; cases e
  | _ => unfold bindT at e; cases e
end
end Rl
/-! Rl: == and != of instances of an own class by its own __eq__; isinstance with an own class. -/
namespace Rl
open PySem PySem.Spec PyProof.Rows L2 Wn
section
variable {g : G} {W : WX} {t : Fr} {pos : Pos} {a b : Expr} {pa pb : PEx}
/-- the truth that a def tells of two, if it tells one -/
def twoB (neg : Bool) (fn : List U → Res R) (u w : U) : Res R := match fn [u, w] with
  | .ok (.im (.bl x)) => .ok (.im (.bl (if neg = true then !x else x)))
  | _ => .st
def pEqI (neg : Bool) (k : Nat) (fn : List U → Res R) (pa pb : PEx) : PEx := fun ρ => (pa ρ).bind fun a => (pb ρ).bind fun b => (Res.opt (insR k a)).bind fun u => (Res.opt (insR k b)).bind fun w => twoB neg fn u w
theorem lopI {neg : Bool} {k : Nat} {fn : List U → Res R} {E : XK} {σ : L2.St} {H : Hp} {Q : VK} (h : lE g W t (pEqI neg k fn pa pb) σ H Q) : tOp (rOwnI (g.ct k).C (spF g 2 fn) E neg) (lE g W t pa) (lE g W t pb) σ H Q := by
  obtain ⟨ρ, sS, h⟩ := h
  refine ⟨ρ, sS, post_mono (fun a ha => ?_) (fun e x => x) (post_bind.mp h)⟩
  intro v H1 A x1 b1 r1 n1 f1
  refine ⟨ρ, sS.mono x1 b1, post_mono (fun b hb => ?_) (fun e x => x.back x1) (post_bind.mp ha)⟩
  intro w H2 B x2 b2 r2 n2 f2
  obtain ⟨u, eu, hb⟩ := post_opt (post_bind.mp hb)
  obtain ⟨z, ez, hb⟩ := post_opt (post_bind.mp hb)
  obtain ⟨p, dx, fs, us, rfl, rfl, h1, _, ru⟩ := ins_of (r1.mono x2) eu
  obtain ⟨q, dy, gs, ws, rfl, rfl, h2, _, rw'⟩ := ins_of r2 ez
  refine ⟨p, dx, fs, q, dy, gs, rfl, rfl, h1, h2, [.ins k us, .ins k ws], .cons ru (.cons rw' .nil), rfl, b2, ?_⟩
  unfold twoB at hb
  cases e : fn [.ins k us, .ins k ws] with
  | ok r =>
    rw [e] at hb
    cases r with
    | im y =>
      cases y with
      | bl x =>
        intro v3 H3 C x3 b3 r3 n3 f3
        obtain ⟨_, r3⟩ := r3
        cases r3
        exact ⟨x, rfl, hb _ H3 [] ((x1.trans x2).trans x3) b3 ⟨rfl, .bl _⟩ List.nodup_nil fun x m => nomatch m⟩
      | _ => exact hb.elim
    | _ => exact hb.elim
  | ex y => rw [e] at hb; exact hb.elim
  | st => rw [e] at hb; exact hb.elim
  | dm n k => rw [e] at hb; exact hb.elim
theorem ue_eqI {X : Cx} {op : CmpOp} {neg : Bool} {k : Nat} {fn : List U → Res R} {E : XK} (ho : OpR X (compareOp op) (rOwnI (g.ct k).C (spF g 2 fn) E neg)) (ha : PE X a (lE g W t pa)) (hb : PE X b (lE g W t pb)) (hm : behindInMarks op b = false) : PE X (.Compare a [op] [b] pos) (lE g W t (pEqI neg k fn pa pb)) :=
  PE.imp (pe_cmpR ho ha hb hm) fun _ _ _ h => lopI h
theorem ut_eqI {X : Cx} {op : CmpOp} {neg : Bool} {k : Nat} {fn : List U → Res R} {E : XK} (ho : OpR X (compareOp op) (rOwnI (g.ct k).C (spF g 2 fn) E neg)) (ha : PE X a (lE g W t pa)) (hb : PE X b (lE g W t pb)) (hm : behindInMarks op b = false) : PT X (.Compare a [op] [b] pos) (lT g W t (pTs (pEqI neg k fn pa pb))) :=
  PT.imp (pt_cmpR ho ha hb hm) fun _ _ _ h => test_imp (te' := lE g W t (pEqI neg k fn pa pb)) (fun _ _ _ => lopI) (lts h)
theorem passN {X : Cx} : Passes (L2.CX X.prog X.w) X (WE W0 []) := fun _ σ _ _ _ _ I c => passAt takes0 σ _ _ _ _ _ I c
/-- isinstance(x, C), x of the class C -/
def fIsO (k : Nat) : List R → Option R
  | [a] => (insR k a).map fun _ => .im (.bl true)
  | _ => none
def pIsO (k : Nat) (pa : PEx) : PEx := pFn (fIsO k) (pCons pa pNil)
theorem ue_isO {X : Cx} {e : Expr} {k : Nat} (ow : Own g k) (si : SlX.SIsi g.K (g.ct k).C) (kt : PySem.W.kitOne g.K (.ref (g.ct k).C) (.ref (g.ct k).C) = some true)
    (h : PE X e (tCB (rIsi g.K) (tCons (lE g W t pa) (tCons (tC (.ref (g.ct k).C)) tNil)))) : PE X e (lE g W t (pIsO k pa)) := by
  refine PE.imp h fun σ H Q h => ?_
  obtain ⟨ρ, sS, h⟩ := h
  have h : ((pa ρ).bind fun x => (pNil ρ).bind fun xs => Res.ok (x :: xs)).post _ _ := post_bind.mp h
  refine ⟨ρ, sS, post_mono (fun a ha => ?_) (fun e x => x) (post_bind.mp h)⟩
  intro v H1 A x1 b1 r1 n1 f1
  have ha : (Res.opt ((insR k a).map fun _ => R.im (.bl true))).post _ _ := ha
  obtain ⟨c, ec, q⟩ := post_opt ha
  obtain ⟨u, eu, rfl⟩ := map_some ec
  obtain ⟨p, dx, fs, us, rfl, rfl, h1, _, ru⟩ := ins_of r1 eu
  exact ⟨_, _, _, _, true, rfl, .own _, .base (.ins h1 ow.cls si.ca si.cn si.ct si.cm), kt, q _ H1 [] x1 b1 ⟨rfl, .bl _⟩ List.nodup_nil fun x m => nomatch m⟩
end
end Rl
/-! WnTS: sets of tuples whose items are of any kind of key. -/
namespace WnTS
open PySem PySem.Spec PyProof.Rows L2
section
variable {P : Program} {w : World} {A : Around} {E : Value → Shared → Prop} {s : Shared} {κ : Type} [DecidableEq κ] {kd : KeyKind P w κ}
/-- such items are of no class statement, and what is asked of their hashes is answered -/
def Mute (kd : KeyKind P w κ) : Prop := ∀ k v n, kd.is k v = true → ofAClassStatement n v = pure false ∧ ∃ b, hashByValue n v = pure b
theorem mute_str : Mute (strKind P w) := fun k v n h => by
  obtain ⟨t, rfl⟩ := Value.isStrOf_shape h
  exact ⟨by cases n <;> rfl, false, by cases n <;> rfl⟩
theorem quiet_items (m : Mute kd) {ks : List κ} {vs : List Value} (h : ItemsAre kd ks vs) : ∀ (v : Value), v ∈ vs → ∀ n : Nat, ofAClassStatement n v = pure false ∧ ∃ b, hashByValue n v = pure b := by
  induction h with
  | nil => exact fun v z => nomatch z
  | cons a _ ih =>
    intro v z n
    rcases List.mem_cons.mp z with z | z
    · rw [z]; exact m _ _ n a
    · exact ih v z n
theorem no_class (m : Mute kd) {ks : List κ} {b : Addr} {Q : Bool → Shared → Prop} (h : IsTupleKey kd s.heap ks b) (q : Q false s) : wpAny (model P w) A (ofAClassStatement 8 (.ref b)) Q E s := by
  have ty := h.typeIs
  obtain ⟨ob, xs, c, e1, _, e2, e3⟩ := h
  have qi := quiet_items m e3
  unfold ofAClassStatement
  refine wpAny_bind (wpAny_typeOf ty ?_)
  dsimp only
  have tt : (("tuple" : String) == "tuple") = true := by decide
  simp only [tt, if_true,Bool.not_true,Bool.false_eq_true, if_false]
  try refine wpAny_bind (wpAny_pure ?_)
  try simp only [Bool.not_true,Bool.false_eq_true, if_false]
  show wpAny _ _ (seqItems? (.ref b) >>= _) _ _ s
  refine wpAny_bind (wpAny_seqItems e1 e2 ?_)
  dsimp only
  refine wpAny_bind ?_
  show wpAny _ _ (forIn xs _ _) _ _ s
  rw [← Array.forIn_toList]
  refine wpAny_forIn_list _ (fun l a z => a.1 = none ∧ z = s ∧ ∀ v ∈ l, v ∈ xs.toList) _ ?_ ?_ _ _ ⟨rfl, rfl, fun v i => i⟩
  · rintro v l a z ⟨h1, rfl, h2⟩
    rw [(qi v (h2 v (.head _)) _).1]
    refine wpAny_bind (wpAny_pure ?_)
    simp only [Bool.false_eq_true, if_false]
    exact wpAny_pure ⟨rfl, rfl, fun u i => h2 u (.tail _ i)⟩
  · rintro ⟨a, a2⟩ z ⟨h1, rfl, _⟩
    simp only at h1
    subst h1
    exact wpAny_pure q
theorem some_hash (m : Mute kd) {ks : List κ} {b : Addr} {Q : Bool → Shared → Prop} (h : IsTupleKey kd s.heap ks b) (q : ∀ x, Q x s) : wpAny (model P w) A (hashByValue 8 (.ref b)) Q E s := by
  have ty := h.typeIs
  obtain ⟨ob, xs, c, e1, _, e2, e3⟩ := h
  have qi := quiet_items m e3
  unfold hashByValue
  refine wpAny_bind (wpAny_specialOf ty F.slot_tuple_hash.lookup ?_)
  show wpAny _ _ (seqItems? (.ref b) >>= _) _ _ s
  refine wpAny_bind (wpAny_seqItems e1 e2 ?_)
  refine wpAny_bind ?_
  show wpAny _ _ (forIn xs _ _) _ _ s
  rw [← Array.forIn_toList]
  refine wpAny_forIn_list _ (fun l a z => z = s ∧ ∀ v ∈ l, v ∈ xs.toList) _ ?_ ?_ _ _ ⟨rfl, fun v i => i⟩
  · rintro v l a z ⟨rfl, h2⟩
    obtain ⟨x, hx⟩ := (qi v (h2 v (.head _)) 7).2
    rw [hx]
    refine wpAny_bind (wpAny_pure ?_)
    cases x
    · simp only [Bool.not_false, if_true]
      refine wpAny_pure ?_
      exact wpAny_pure (q _)
    · simp only [Bool.not_true,Bool.false_eq_true, if_false]
      exact wpAny_pure ⟨rfl, fun u i => h2 u (.tail _ i)⟩
  · rintro ⟨a, a2⟩ z ⟨rfl, _⟩
    cases a with
    | none => exact wpAny_pure (q _)
    | some y => exact wpAny_pure (q _)
theorem unseen (m : Mute kd) {ks : List κ} {b : Addr} {Q : Bool → Shared → Prop} (h : IsTupleKey kd s.heap ks b) {ys : List Value} (hy : ∀ y ∈ ys, ∃ js c, y = Value.ref c ∧ IsTupleKey kd s.heap js c) (q : Q false s) :
    wpAny (model P w) A (searchCouldBeSeen (.ref b) ys) Q E s := by
  unfold searchCouldBeSeen
  refine wpAny_bind ?_
  refine wpAny_forIn_list _ (fun l a z => a.1 = none ∧ z = s ∧ ∀ v ∈ l, v ∈ ys) _ ?_ ?_ _ _ ⟨rfl, rfl, fun v i => i⟩
  · rintro v l a z ⟨h1, rfl, h2⟩
    obtain ⟨js, c, rfl, hc⟩ := hy v (h2 v (.head _))
    have h3 : ∀ u ∈ l, u ∈ ys := fun u i => h2 u (.tail _ i)
    dsimp only
    by_cases hv : (b == c || (carriedByValue (.ref b) && carriedByValue (.ref c))) = true
    · exact wp_if_pos hv (wpAny_pure ⟨rfl, rfl, h3⟩)
    · refine wp_if_neg hv (wpAny_bind (wpAny_eqIsQuiet_tuple h ?_))
      simp only [Bool.not_true,Bool.false_eq_true, if_false]
      refine wpAny_bind (wpAny_eqIsQuiet_tuple hc ?_)
      simp only [Bool.not_true,Bool.false_eq_true, if_false]
      refine wpAny_bind (no_class m h ?_)
      simp only [Bool.false_eq_true, if_false]
      refine wpAny_bind (no_class m hc ?_)
      simp only [Bool.false_eq_true, if_false]
      exact wpAny_pure ⟨rfl, rfl, h3⟩
  · rintro ⟨a, a2⟩ z ⟨h1, rfl, _⟩
    simp only at h1
    subst h1
    exact wpAny_pure q
end
end WnTS
/-! WnTS2: a tuple sought in a set of tuples. -/
namespace WnTS
open PySem PySem.Spec PyProof.Rows L2
section
variable {P : Program} {w : World} {A : Around} {E : Value → Shared → Prop} {s : Shared} {κ : Type} [DecidableEq κ] {kd : KeyKind P w κ}
/-- an entry of the table -/
def ent (kd : KeyKind P w κ) (p : Addr × List κ) : Int × Value := (tupleKeyHash kd p.2, .ref p.1)
structure Tb (kd : KeyKind P w κ) (h : Heap) (a : Addr) (L : List (Addr × List κ)) (es : Array (Int × Value)) (ep : Nat) (t : SetTable) : Prop where
  ob : ∃ o, h.get? a = some o ∧ o.ExactSet ∧ o.data = .set es ep t
  en : es.toList = L.map (ent kd)
  ok : TabOk t (L.map fun p => tupleKeyHash kd p.2)
  nd : (L.map Prod.snd).Nodup
  is : ∀ p ∈ L, IsTupleKey kd h p.2 p.1
  rm : L.length * 5 < t.mask * 3
  fw : L.length < 64
/-- the c-th step of a search -/
def stp (t : SetTable) (z : Int) (c : Nat) : SetTable.Probe := nth t.mask (runAt t.mask (SetTable.bits z % (t.mask + 1)) (SetTable.bits z)) c
theorem stp_way (t : SetTable) (z : Int) (c : Nat) : (stp t z c).j = way t.mask z c := rfl
theorem stp_add (t : SetTable) (z : Int) (c q : Nat) : nth t.mask (stp t z c) q = stp t z (c + q) := (nth_add t.mask c _ q).symm
theorem adv_dm {m : Nat} {p : SetTable.Probe} (h : p.dummy = none) : (adv m p).dummy = none := by
  unfold adv
  split <;> exact h
theorem nth_dm {m : Nat} : ∀ (n : Nat) {p : SetTable.Probe}, p.dummy = none → (nth m p n).dummy = none
  | 0, _, h => h
  | n + 1, _, h => nth_dm n (adv_dm h)
variable {a : Addr} {L : List (Addr × List κ)} {es : Array (Int × Value)} {ep : Nat} {t : SetTable}
theorem en_size {L : List (Addr × List κ)} {es : Array (Int × Value)} (e : es.toList = L.map (ent kd)) : es.size = L.length := by
  rw [← Array.length_toList, e, List.length_map]
theorem en_at {L : List (Addr × List κ)} {es : Array (Int × Value)} (e : es.toList = L.map (ent kd)) (i : Nat) : es[i]? = (L[i]?).map (ent kd) := by
  rw [← Array.getElem?_toList, e, List.getElem?_map]
theorem Tb.fit {h : Heap} (T : Tb kd h a L es ep t) : t.fits es.size = true := by
  have z1 := T.ok.sz
  have z2 := T.rm
  rw [List.length_map] at z1
  unfold SetTable.fits SetTable.fill
  rw [T.ok.dm, en_size T.en, Bool.and_eq_true, beq_iff_eq, decide_eq_true_eq]
  refine ⟨z1, ?_⟩
  show t.place.size + 0 ≤ t.mask
  omega
theorem Tb.place_at {h : Heap} (T : Tb kd h a L es ep t) {i : Nat} (lt : i < L.length) : ∃ j, t.place.toList[i]? = some j := by
  have z := T.ok.sz
  rw [List.length_map] at z
  exact ⟨_, List.getElem?_eq_getElem (by rw [Array.length_toList, z]; exact lt)⟩
theorem Tb.at_place {h : Heap} (T : Tb kd h a L es ep t) {i j : Nat} (e : t.place.toList[i]? = some j) : ∃ p, L[i]? = some p := by
  have z := T.ok.sz
  rw [List.length_map] at z
  have lt := (List.getElem?_eq_some_iff.mp e).1
  rw [Array.length_toList, z] at lt
  exact ⟨_, List.getElem?_eq_getElem lt⟩
theorem find_from (m : Mute kd) (T : Tb kd s.heap a L es ep t) {x : Addr} {k : List κ} (hx : IsTupleKey kd s.heap k x) (hu : A.units < cLine) {z : Int} (hz : tupleKeyHash kd k = z) {N : Nat} (hN : N < 10 * SetTable.turns t.mask)
    (free : way t.mask z N ∉ t.place.toList) (full : ∀ c, c < N → way t.mask z c ∈ t.place.toList) {Q : SetFound → Shared → Prop}
    (yes : k ∈ L.map Prod.snd → Q (.there none) s) (no : k ∉ L.map Prod.snd → Q (.free (way t.mask z N) false) s) :
    ∀ (f c : Nat) (o : Option SetTable.Probe), o.getD (t.probeStart z) = stp t z c → c ≤ N → N - c < f →
      (∀ (i : Nat) (p : Addr × List κ), L[i]? = some p → p.2 = k → ∃ d, c ≤ d ∧ d < N ∧ t.place.toList[i]? = some (way t.mask z d)) →
      wpAny (model P w) A (setSearchFrom a (.ref x) z true f o) Q E s
  | 0, _, _, _, _, lt, _ => absurd lt (Nat.not_lt_zero _)
  | f + 1, c, o, ho, le, lt, far => by
    obtain ⟨ob, g1, g2, g3⟩ := T.ob
    rw [setSearchFrom_succ]
    refine wpAny_bind (wpAny_setState_of g1 g3 T.fit ?_)
    dsimp only
    refine wp_if_neg (by unfold SetTable.gaveWay; rw [mask_odd T.ok.mok]; decide) ?_
    try refine wpAny_bind (wpAny_pure ?_)
    have hsh : ∀ (i : Nat) (p : Addr × List κ), L[i]? = some p → (fun i => (es[i]?.map (·.1)).getD 0) i = tupleKeyHash kd p.2 := fun i p e => by
      show (es[i]?.map (·.1)).getD 0 = _
      rw [en_at T.en, e]
      rfl
    have e1 : ∀ q, (nth t.mask (stp t z c) q).j = way t.mask z (c + q) := fun q => congrArg SetTable.Probe.j (stp_add t z c q)
    have e2 : c + (N - c) = N := by omega
    rcases go_spec t T.ok.ris T.ok.dm (fun i => (es[i]?.map (·.1)).getD 0) z (10 * SetTable.turns t.mask) (N - c) (stp t z c) (nth_dm c rfl) (by omega) (fun q h => by rw [e1]; exact full _ (by omega)) (by rw [e1, e2]; exact free) with ⟨q, i, h1, h2, h3, h4, h5⟩ | ⟨h4, h5⟩
    · have pr : t.probe (fun i => (es[i]?.map (·.1)).getD 0) z (o.getD (t.probeStart z)) = some (.candidate (way t.mask z (c + q)) i (stp t z (c + (q + 1)))) := by
        rw [ho, ← e1, ← stp_add]
        exact h5
      rw [pr]
      dsimp only
      rw [e1] at h2
      obtain ⟨p, hp⟩ := T.at_place h2
      have pm : p ∈ L := List.mem_of_getElem? hp
      have es1 : es[i]? = some (ent kd p) := by rw [en_at T.en, hp]; rfl
      have live := slot_live T.ok.ris h2
      have rest : wpAny (model P w) A (searchRest a (.ref x) z true f es t (way t.mask z (c + q)) i (stp t z (c + (q + 1)))) Q E s := by
        unfold searchRest
        rw [es1]
        dsimp only [ent]
        refine wpAny_bind (wpAny_holding (wpAny_eqBool_tuple hu (T.is p pm) hx ?_))
        refine wpAny_bind (wpAny_setState_of g1 g3 T.fit ?_)
        dsimp only
        by_cases hk : p.2 = k
        · refine wp_if_pos (by simp [hk]) (wpAny_pure (yes ?_))
          exact List.mem_map.mpr ⟨p, pm, hk⟩
        · refine wp_if_neg (by simp [hk]) ?_
          try refine wpAny_bind (wpAny_pure ?_)
          rw [sameMem]
          dsimp only
          simp only [if_true, live, es1, ent]
          refine wpAny_bind (wpAny_isSame_ref_self (wpAny_bind (wpAny_pure ?_)))
          simp only [if_true]
          refine wp_if_neg (by simp [hk]) ?_
          refine find_from m T hx hu hz hN free full yes no f (c + (q + 1)) _ rfl (by omega) (by omega) fun i0 p0 r1 r2 => ?_
          obtain ⟨d, d1, d2, d3⟩ := far i0 p0 r1 r2
          refine ⟨d, ?_, d2, d3⟩
          by_cases lt1 : d < c + q
          · have := h4 (d - c) i0 (by omega) (by rw [e1, show c + (d - c) = d by omega]; exact d3)
            exact absurd ((hsh i0 p0 r1).trans ((congrArg (tupleKeyHash kd) r2).trans hz)) this
          · by_cases lt2 : c + q < d
            · omega
            · have ed : d = c + q := by omega
              rw [ed] at d3
              have l2 := slot_live T.ok.ris d3
              rw [live] at l2
              cases l2
              rw [hp] at r1
              cases r1
              exact absurd r2 hk
      by_cases hl : t.led = true
      · refine wp_if_neg (by simp [hl]) ?_
        try refine wpAny_bind (wpAny_pure ?_)
        exact rest
      · refine wp_if_pos (by simp [hl]) (wpAny_bind (unseen m hx (fun y hy => ?_) ?_))
        · obtain ⟨e, he, rfl⟩ := List.mem_map.mp hy
          have he2 : e ∈ es.toList := by
            have h6 : e ∈ es ∧ e.1 = z := by simpa using he
            simpa using h6.1
          rw [T.en] at he2
          obtain ⟨p2, m2, rfl⟩ := List.mem_map.mp he2
          exact ⟨p2.2, p2.1, rfl, T.is p2 m2⟩
        · refine wp_if_neg (by decide) ?_
          try refine wpAny_bind (wpAny_pure ?_)
          exact rest
    · have pr : t.probe (fun i => (es[i]?.map (·.1)).getD 0) z (o.getD (t.probeStart z)) = some (.empty (way t.mask z N) none) := by
        rw [ho, ← e2, ← e1]
        exact h5
      rw [pr]
      dsimp only
      refine wpAny_pure (no fun hm => ?_)
      obtain ⟨p0, m0, hk⟩ := List.mem_map.mp hm
      obtain ⟨i0, hi0⟩ := List.getElem?_of_mem m0
      obtain ⟨d, d1, d2, d3⟩ := far i0 p0 hi0 hk
      exact h4 (d - c) i0 (by omega) (by rw [e1, show c + (d - c) = d by omega]; exact d3) ((hsh i0 p0 hi0).trans ((congrArg (tupleKeyHash kd) hk).trans hz))
theorem find_at (m : Mute kd) (T : Tb kd s.heap a L es ep t) {x : Addr} {k : List κ} (hx : IsTupleKey kd s.heap k x) (hu : A.units < cLine) {z : Int} (hz : tupleKeyHash kd k = z) {Q : SetFound → Shared → Prop}
    (yes : k ∈ L.map Prod.snd → Q (.there none) s)
    (no : ∀ N, k ∉ L.map Prod.snd → way t.mask z N ∉ t.place.toList → (∀ c, c < N → way t.mask z c ∈ t.place.toList) → Q (.free (way t.mask z N) false) s) :
    wpAny (model P w) A (setSearch a (.ref x) z true) Q E s := by
  have room := T.rm
  obtain ⟨N, n1, n2, n3⟩ := T.ok.first (by rw [List.length_map]; omega) z
  have small : 10 * SetTable.turns t.mask ≤ 1420 := by
    unfold SetTable.turns
    rcases T.ok.mok with e | e | e <;> omega
  unfold setSearch
  refine find_from m T hx hu hz n1 n2 n3 yes (fun h => no N h n2 n3) 100000 0 none rfl (Nat.zero_le _) (by omega) fun i p hp hk => ?_
  obtain ⟨j, hj⟩ := T.place_at (List.getElem?_eq_some_iff.mp hp).1
  obtain ⟨d, hd, e⟩ := T.ok.before n2 (i := i) (j := j) (by rw [List.getElem?_map, hp, ← hz, ← hk]; rfl) hj
  exact ⟨d, Nat.zero_le _, hd, by rw [hj, e]⟩
end
end WnTS
/-! WnTS3: a tuple added to a set of tuples. -/
namespace WnTS
open PySem PySem.Spec PyProof.Rows L2
section
variable {P : Program} {w : World} {A : Around} {E : Value → Shared → Prop} {s : Shared} {κ : Type} [DecidableEq κ] {kd : KeyKind P w κ}
variable {a : Addr} {L : List (Addr × List κ)} {es : Array (Int × Value)} {ep : Nat} {t : SetTable}
theorem fm_range {α : Type} (l : List α) : (List.range l.length).filterMap (fun i => l[i]?) = l := by
  suffices h : ∀ n, n ≤ l.length → (List.range n).filterMap (fun i => l[i]?) = l.take n by
    rw [h _ (Nat.le_refl _), List.take_length]
  intro n
  induction n with
  | zero => exact fun _ => rfl
  | succ n ih =>
    intro le
    rw [List.range_succ, List.filterMap_append, ih (by omega), List.take_succ, List.getElem?_eq_getElem le, List.filterMap_cons_some (List.getElem?_eq_getElem le)]
    rfl
theorem fm_ent {L : List (Addr × List κ)} {es : Array (Int × Value)} (e : es.toList = L.map (ent kd)) : ∀ {l : List Nat}, (∀ i ∈ l, i < L.length) →
    l.filterMap (fun i => es[i]?) = (l.filterMap fun i => L[i]?).map (ent kd) ∧ ((l.filterMap fun i => L[i]?).map fun p => tupleKeyHash kd p.2) = l.map fun i => (es.map (·.1)).getD i 0
  | [], _ => ⟨rfl, rfl⟩
  | i :: l, h => by
    have lt := h i (.head _)
    obtain ⟨r1, r2⟩ := fm_ent e (l := l) fun j m => h j (.tail _ m)
    have e1 : L[i]? = some L[i] := List.getElem?_eq_getElem lt
    have e2 : es[i]? = some (ent kd L[i]) := by rw [en_at e, e1]; rfl
    have e3 : (es.map (·.1)).getD i 0 = tupleKeyHash kd (L[i]).2 := by
      rw [Array.getD_eq_getD_getElem?, Array.getElem?_map, e2]
      rfl
    rw [List.filterMap_cons_some e2, List.filterMap_cons_some e1, List.map_cons, List.map_cons, List.map_cons, r1, r2, e3]
    exact ⟨rfl, rfl⟩
theorem is_but {h h' : Heap} {k : List κ} {b : Addr} {o : Obj} (x : IsTupleKey kd h k b) (e : h.get? a = some o) (d : o.data = .set es ep t) (sb : Heap.SameBut a h h') : IsTupleKey kd h' k b := by
  obtain ⟨ob, xs, c, e1, e2, e3, e4⟩ := x
  refine ⟨ob, xs, c, (sb.2 b fun z => ?_).trans e1, e2, e3, e4⟩
  rw [z, e] at e1
  cases e1
  rw [d] at e3
  cases e3
theorem relay (m : Mute kd) {o : Obj} (g1 : s.heap.get? a = some o) (g2 : o.ExactSet) (g3 : o.data = .set es ep t) (en : es.toList = L.map (ent kd)) (sz : t.place.size = es.size) (dm : t.dummies = #[]) (fl : es.size ≤ t.mask)
    (nd : (L.map Prod.snd).Nodup) (is : ∀ p ∈ L, IsTupleKey kd s.heap p.2 p.1) (fw : L.length < 64) {want M : Nat} (hw : SetTable.sizeAbove want - 1 = M) (hM : MaskOk M) (h128 : SetTable.sizeAbove want ≤ 128) (rm : L.length * 5 < M * 3)
    {Q : Unit → Shared → Prop} (q : ∀ h' L' es' ep' t', Heap.SameBut a s.heap h' → Tb kd h' a L' es' ep' t' → L'.Perm L → Q () { s with heap := h' }) : wpAny (model P w) A (setRelay a want) Q E s := by
  have hl := en_size en
  obtain ⟨t', od, e, pm, T, em, _⟩ := relaid_ok t (hs := es.map (·.1)) (wanted := want) hw hM (by rw [Array.size_map, hl]; omega)
  rw [Array.size_map, hl] at pm
  obtain ⟨r1, r2⟩ := fm_ent en (l := od.toList) fun i z => List.mem_range.mp (pm.mem_iff.mp z)
  have pL : (od.toList.filterMap fun i => L[i]?).Perm L := by
    have h := pm.filterMap fun i => L[i]?
    rw [fm_range] at h
    exact h
  rw [← r2] at T
  generalize od.toList.filterMap (fun i => L[i]?) = L2 at r1 T pL
  have r3 : (od.filterMap (es[·]?)).toList = L2.map (ent kd) := by first | (rw [Array.toList_filterMap]; exact r1) | simpa using r1
  have hs2 := en_size r3
  rw [setRelay_eq]
  refine wpAny_bind (wpAny_setState_of g1 g3 ?_ ?_)
  · unfold SetTable.fits SetTable.fill
    rw [dm, Bool.and_eq_true, beq_iff_eq, decide_eq_true_eq]
    exact ⟨sz, by show t.place.size + 0 ≤ t.mask; omega⟩
  dsimp only
  refine wp_if_neg (by rw [sizeLine_eq]; omega) ?_
  try refine wpAny_bind (wpAny_pure ?_)
  rw [e]
  dsimp only
  refine wpAny_bind ?_
  refine wp_if_neg (by rw [hs2, pL.length_eq, hl]; simp) ?_
  try refine wpAny_bind (wpAny_pure ?_)
  refine wpAny_pure ?_
  dsimp only
  have sb : Heap.SameBut a s.heap (s.heap.update a (Obj.putSet (od.filterMap (es[·]?)) t')) := Heap.SameBut.update ..
  refine wpAny_storeSet_of g1 g3 (q _ L2 _ (ep + 1) t' sb ⟨⟨_, store_at g1 g3, ⟨g2.1, g2.2.1, g2.2.2⟩, rfl⟩, r3, T, (pL.map _).nodup_iff.mpr nd, fun p mp => is_but (is p (pL.mem_iff.mp mp)) g1 g3 sb, by rw [pL.length_eq, em]; exact rm, by rw [pL.length_eq]; exact fw⟩ pL) (by rw [hs2, pL.length_eq, sizeLine_eq]; omega)
theorem put_at {α : Type} (L : List α) (n : Nat) (x : α) : (L.take n ++ x :: L.drop n).Perm (x :: L) := by
  have h := List.perm_middle (a := x) (l₁ := L.take n) (l₂ := L.drop n)
  rwa [List.take_append_drop] at h
/-- setAdd of a tuple -/
theorem add (m : Mute kd) (T : Tb kd s.heap a L es ep t) {x : Addr} {k : List κ} (hx : IsTupleKey kd s.heap k x) (hu : A.units < cLine) (fw : L.length + 1 < 64) {Q : Bool → Shared → Prop}
    (q : ∀ b h' L' es' ep' t', Heap.SameBut a s.heap h' → Tb kd h' a L' es' ep' t' → (k ∈ L.map Prod.snd → L' = L) → (k ∉ L.map Prod.snd → L'.Perm ((x, k) :: L)) → Q b { s with heap := h' }) :
    wpAny (model P w) A (setAddHashed a (.ref x) (tupleKeyHash kd k)) Q E s := by
  obtain ⟨o, g1, g2, g3⟩ := T.ob
  have hl := en_size T.en
  have rm := T.rm
  generalize hz : tupleKeyHash kd k = z
  unfold setAddHashed
  refine wpAny_holding ?_
  rw [show (100000 : Nat) = 99999 + 1 from rfl, setAddHashedIn_succ]
  refine wpAny_bind (wpAny_setState_of g1 g3 T.fit ?_)
  dsimp only
  refine wp_if_neg (by simp [byScan, Value.scannable]) ?_
  try refine wpAny_bind (wpAny_pure ?_)
  refine wpAny_bind (find_at m T hx hu hz (fun hm => ?_) fun N hm n2 n3 => ?_)
  · dsimp only
    exact wpAny_pure (q false s.heap L es ep t (.refl a s.heap) T (fun _ => rfl) fun h => absurd hm h)
  · dsimp only
    refine wpAny_bind (wpAny_setState_of g1 g3 T.fit ?_)
    dsimp only
    obtain ⟨p1, p2, p3, p4, p5, p6, p7, p8, p9⟩ := T.ok.put n2 n3
    generalize hpt : t.put (way t.mask z N) = pt at p1 p3 p4 p5 p6 p7 p8 p9 ⊢
    obtain ⟨t1, n⟩ := pt
    dsimp only at p1 p3 p4 p5 p6 p7 p8 p9 ⊢
    subst p1
    have en1 : (SetTable.insertAt es (SetTable.below t.place (way t.mask z N)) (z, Value.ref x)).toList = (L.take (SetTable.below t.place (way t.mask z N)) ++ (x, k) :: L.drop (SetTable.below t.place (way t.mask z N))).map (ent kd) := by
      rw [SetTable.toList_insertAt, List.map_append, List.map_cons, List.map_take, List.map_drop, T.en, ← hz]
      rfl
    generalize SetTable.below t.place (way t.mask z N) = n at p2 p3 en1 ⊢
    have pm := put_at L n (x, k)
    have ll : (L.take n ++ (x, k) :: L.drop n).length = L.length + 1 := pm.length_eq
    have hh : (L.map fun p => tupleKeyHash kd p.2).take n ++ z :: (L.map fun p => tupleKeyHash kd p.2).drop n = (L.take n ++ (x, k) :: L.drop n).map fun p => tupleKeyHash kd p.2 := by
      rw [List.map_append, List.map_cons, List.map_take, List.map_drop, ← hz]
    rw [hh] at p3
    have nd1 : ((L.take n ++ (x, k) :: L.drop n).map Prod.snd).Nodup := (pm.map _).nodup_iff.mpr (List.nodup_cons.mpr ⟨hm, T.nd⟩)
    have sz1 := en_size en1
    rw [ll] at sz1
    generalize SetTable.insertAt es n (z, Value.ref x) = es1 at en1 sz1 ⊢
    generalize L.take n ++ (x, k) :: L.drop n = L1 at pm ll p3 nd1 en1
    have tail : ∀ t2 : SetTable, t2.place = t1.place → t2.mask = t1.mask → t2.dummies = t1.dummies → t2.fill = t1.fill → TabOk t2 (L1.map fun p => tupleKeyHash kd p.2) →
        wpAny (model P w) A (storeSet a es1 t2) (fun _ s' => wpAny (model P w) A (do
          if (!false && t2.tooFull) = true then setRelay a (SetTable.grown (es.size + 1))
          return true) Q E s') E s := fun t2 q1 q2 q3 q4 ok2 => by
      refine wpAny_storeSet_of g1 g3 ?_ (by rw [sz1, sizeLine_eq]; omega)
      have sb : Heap.SameBut a s.heap (s.heap.update a (Obj.putSet es1 t2)) := Heap.SameBut.update ..
      have g4 := store_at (es' := es1) (t' := t2) g1 g3
      generalize s.heap.update a (Obj.putSet es1 t2) = h1 at sb g4 ⊢
      have is1 : ∀ p ∈ L1, IsTupleKey kd h1 p.2 p.1 := fun p hp => by
        rcases List.mem_cons.mp (pm.mem_iff.mp hp) with e | hp
        · rw [e]; exact is_but hx g1 g3 sb
        · exact is_but (T.is p hp) g1 g3 sb
      have full : t2.tooFull = decide ((L.length + 1) * 5 ≥ t2.mask * 3) := by
        unfold SetTable.tooFull
        rw [q4, p9, List.length_map]
      by_cases hf : t2.tooFull = true
      · have cs : (t.mask = 7 ∧ L.length = 4) ∨ (t.mask = 31 ∧ L.length = 18) := by
          rw [full, decide_eq_true_eq, q2, p4] at hf
          rcases T.ok.mok with e | e | e <;> rw [e] at hf rm
          · exact .inl ⟨e, by omega⟩
          · exact .inr ⟨e, by omega⟩
          · omega
        have sz2 := ok2.sz
        rw [List.length_map, ll] at sz2
        have lay : ∀ M, SetTable.sizeAbove (SetTable.grown (es.size + 1)) - 1 = M → MaskOk M → SetTable.sizeAbove (SetTable.grown (es.size + 1)) ≤ 128 → L1.length * 5 < M * 3 →
            wpAny (model P w) A (setRelay a (SetTable.grown (es.size + 1))) (fun _ s' => wpAny (model P w) A (pure true) Q E s') E { s with heap := h1 } := fun M a1 a2 a3 a4 =>
          relay (s := { s with heap := h1 }) m g4 ⟨g2.1, g2.2.1, g2.2.2⟩ rfl en1 (by rw [sz2, sz1]) ok2.dm (by rw [sz1, q2, p4]; omega) nd1 is1 (by omega) a1 a2 a3 a4 fun h2 L2 es2 ep2 t3 sb2 T2 pm2 =>
            wpAny_pure (q true h2 L2 es2 ep2 t3 (sb.trans sb2) T2 (fun z => absurd z hm) fun _ => pm2.trans pm)
        have lay2 : wpAny (model P w) A (setRelay a (SetTable.grown (es.size + 1))) (fun _ s' => wpAny (model P w) A (pure true) Q E s') E { s with heap := h1 } := by
          rcases cs with ⟨_, e2⟩ | ⟨_, e2⟩
          · exact lay 31 (by rw [hl, e2, size_20]) (.inr (.inl rfl)) (by rw [hl, e2, size_20]; decide) (by omega)
          · exact lay 127 (by rw [hl, e2, size_76]) (.inr (.inr rfl)) (by rw [hl, e2, size_76]; decide) (by omega)
        first
          | exact wpAny_bind (wp_if_pos (by simp [hf]) lay2)
          | exact wp_if_pos (by simp [hf]) (wpAny_bind lay2)
      · have fin : wpAny (model P w) A (pure true) Q E { s with heap := h1 } := wpAny_pure (q true h1 L1 es1 (ep + 1) t2 sb ⟨⟨_, g4, ⟨g2.1, g2.2.1, g2.2.2⟩, rfl⟩, en1, ok2, nd1, is1, by
          rw [full, decide_eq_true_eq] at hf
          rw [ll]
          omega, by omega⟩ (fun z => absurd z hm) fun _ => pm)
        first
          | exact wp_if_neg (by simp [hf]) fin
          | exact wpAny_bind (wp_if_neg (by simp [hf]) (wpAny_pure fin))
    by_cases hp : t1.plain = true
    · first
        | (refine wpAny_bind ?_; refine wp_if_pos hp ?_; refine some_hash m hx fun b => ?_)
        | refine wp_if_pos hp (wpAny_bind (some_hash m hx fun b => ?_))
      cases b
      · simp only [Bool.false_eq_true, if_false]
        exact wpAny_bind (tail { t1 with plain := false } rfl rfl rfl rfl ⟨p3.ris, p3.dm, p3.sz, p3.mok, p3.bd, p3.reach⟩)
      · simp only [if_true]
        exact wpAny_bind (tail t1 rfl rfl rfl rfl p3)
    · first
        | (refine wpAny_bind ?_; refine wp_if_neg hp ?_; refine wpAny_pure ?_)
        | refine wp_if_neg hp (wpAny_bind (wpAny_pure ?_))
      simp only [if_true]
      exact wpAny_bind (tail t1 rfl rfl rfl rfl p3)
end
end WnTS
/-! WnTS4: set(xs) of a list or a tuple of tuples; len(set(xs)). -/
namespace WnTS
open PySem PySem.Spec PyProof.Rows L2
section
variable {P : Program} {w : World} {A : Around} {E : Value → Shared → Prop} {s : Shared} {κ : Type} [DecidableEq κ] {kd : KeyKind P w κ}
/-- what the set has of the first i -/
structure Has (ks : List (Addr × List κ)) (i : Nat) (L : List (Addr × List κ)) : Prop where
  sub : ∀ p ∈ L, p ∈ ks.take i
  mem : ∀ k, k ∈ L.map Prod.snd ↔ k ∈ (ks.map Prod.snd).take i
  len : L.length = WnSet.cnt (ks.map Prod.snd) i
theorem Has.zero (ks : List (Addr × List κ)) : Has ks 0 [] := ⟨fun p h => (nomatch h), fun k => by simp, rfl⟩
theorem tk1 {α : Type} {l : List α} {i : Nat} {x : α} (h : l[i]? = some x) : l.take (i + 1) = l.take i ++ [x] := by
  rw [List.take_add_one, h]
  rfl
theorem any_mem {l : List (List κ)} {k : List κ} : (l.any (· == k)) = true ↔ k ∈ l := by
  rw [List.any_eq_true]
  exact ⟨fun ⟨x, m, e⟩ => by rw [← beq_iff_eq.mp e]; exact m, fun m => ⟨k, m, beq_iff_eq.mpr rfl⟩⟩
theorem Has.step {ks L L' : List (Addr × List κ)} {i : Nat} {p : Addr × List κ} (h : Has ks i L) (e : ks[i]? = some p) (c1 : p.2 ∈ L.map Prod.snd → L' = L) (c2 : p.2 ∉ L.map Prod.snd → L'.Perm (p :: L)) : Has ks (i + 1) L' := by
  have e1 : (ks.map Prod.snd)[i]? = some p.2 := by rw [List.getElem?_map, e]; rfl
  by_cases c : p.2 ∈ L.map Prod.snd
  · rw [c1 c]
    refine ⟨fun q m => ?_, fun k => ?_, ?_⟩
    · rw [tk1 e]; exact List.mem_append_left _ (h.sub q m)
    · rw [tk1 e1, List.mem_append, List.mem_singleton, ← h.mem]
      exact ⟨.inl, fun z => z.elim id fun z => by rw [z]; exact c⟩
    · unfold WnSet.cnt
      rw [e1]
      dsimp only
      rw [if_pos (any_mem.mpr ((h.mem _).mp c)), h.len]
  · have pm := c2 c
    refine ⟨fun q m => ?_, fun k => ?_, ?_⟩
    · rw [tk1 e]
      rcases List.mem_cons.mp (pm.mem_iff.mp m) with z | z
      · rw [z]; exact List.mem_append_right _ (List.mem_singleton.mpr rfl)
      · exact List.mem_append_left _ (h.sub q z)
    · rw [tk1 e1, List.mem_append, List.mem_singleton, ← h.mem, (pm.map Prod.snd).mem_iff, List.map_cons, List.mem_cons]
      exact ⟨fun z => z.symm, fun z => z.symm⟩
    · unfold WnSet.cnt
      rw [e1]
      dsimp only
      rw [if_neg (fun z => c ((h.mem _).mpr (any_mem.mp z))), pm.length_eq, List.length_cons, h.len]
theorem is_keep {h h' : Heap} {k : List κ} {b : Addr} (x : IsTupleKey kd h k b) (e : ∀ c o, h.get? c = some o → h'.get? c = some o) : IsTupleKey kd h' k b := let ⟨o, xs, c, e1, r⟩ := x; ⟨o, xs, c, e _ _ e1, r⟩
theorem Tb.keep {h h' : Heap} {a : Addr} {L : List (Addr × List κ)} {es : Array (Int × Value)} {ep : Nat} {t : SetTable} (T : Tb kd h a L es ep t) (e : ∀ o, h.get? a = some o → h'.get? a = some o) (is : ∀ p ∈ L, IsTupleKey kd h' p.2 p.1) : Tb kd h' a L es ep t :=
  let ⟨o, e1, r⟩ := T.ob
  ⟨⟨o, e o e1, r⟩, T.en, T.ok, T.nd, is, T.rm, T.fw⟩
theorem tb_fresh {h : Heap} {a : Addr} (led : Bool) (e : h.get? a = some (WnSet.fresh led)) : Tb kd h a [] #[] 0 (.fresh 0 0 led) where
  ob := ⟨_, e, ⟨rfl, rfl, rfl⟩, rfl⟩
  en := rfl
  ok := ⟨List.Pairwise.nil, rfl, rfl, .inl rfl, fun x m => (nomatch m), fun i z j h => by simp at h⟩
  nd := List.nodup_nil
  is := fun p m => nomatch m
  rm := by show 0 * 5 < 7 * 3; decide
  fw := by show 0 < 64; decide
variable {R : Result → Shared → Prop} {I : Addr} {fp wr : List Addr} {G : Array GenState → Array GenState → Prop} {n : Nat} {Pv : Nat → Value → Prop} {St : Nat → Shared → Prop}
theorem turns (m : Mute kd) (W : WalksS P w A.in1 I fp wr G n Pv St) (S : Addr) (away : S ∉ fp) (ks : List (Addr × List κ)) (hn : n = ks.length) (fw : ks.length < 64) (val : ∀ i v, Pv i v → ∃ p, ks[i]? = some p ∧ v = .ref p.1)
    (h0 : Heap) (is0 : ∀ p ∈ ks, IsTupleKey kd h0 p.2 p.1) (S0 : h0.get? S = none) (w0 : ∀ b ∈ wr, h0.get? b = none) (hu : A.in1.units < cLine) :
    ∀ (j i : Nat) (s : Shared), n - i = j → i ≤ n → St i s → (∀ b o, h0.get? b = some o → s.heap.get? b = some o) → (∃ L es ep t, Tb kd s.heap S L es ep t ∧ Has ks i L) →
      (∀ s' L es ep t, Moved (S :: wr) G s s' → Tb kd s'.heap S L es ep t → Has ks n L → R (.ok (.ret .none)) s') →
      codeAny (model P w) A (.builtin "set.update.loop" ⟨[.ref S, .ref I], []⟩) R s := by
  have away2 : S ∉ wr := fun z => away (W.sub _ z)
  have more : ∀ b ∈ wr, b ∈ S :: wr := fun b z => List.mem_cons_of_mem _ z
  have stay : ∀ {s s' : Shared}, Moved wr G s s' → (∀ b o, h0.get? b = some o → s.heap.get? b = some o) → ∀ b o, h0.get? b = some o → s'.heap.get? b = some o := fun mv k b o e =>
    mv.heap b o (fun z => by rw [w0 b z] at e; cases e) (k b o e)
  intro j
  induction j with
  | zero =>
    intro i s hj hi st kp ⟨L, es, ep, t, T, g⟩ fin
    obtain rfl : i = n := by omega
    refine codeAny_builtin PyProof.Rows.F.entry_set_update_loop ?_
    rw [Around.under_plainId
      PyProof.Rows.F.plain_set_update_loop _]
    show wpAny _ A.in1 (pyNext (.ref I) >>= _)
      _ _ s
    refine wpAny_bind (W.done s _ _ st fun s2 mv => ?_)
    show wpAny _ A.in1 (ret Value.none) _ _ s2
    exact wpAny_pure (fin s2 L es ep t (mv.mono more) (T.keep (fun o e => mv.heap S o away2 e) fun p z => is_keep (is0 p (List.mem_of_mem_take (g.sub p z))) (stay mv kp)) g)
  | succ j ih =>
    intro i s hj hi st kp ⟨L, es, ep, t, T, g⟩ fin
    have lt : i < n := by omega
    refine codeAny_builtin PyProof.Rows.F.entry_set_update_loop ?_
    rw [Around.under_plainId
      PyProof.Rows.F.plain_set_update_loop _]
    show wpAny _ A.in1 (pyNext (.ref I) >>= _)
      _ _ s
    refine wpAny_bind (W.item i s _ _ lt st fun v s2 pv st2 mv => ?_)
    obtain ⟨p, hp, rfl⟩ := val i v pv
    have kp2 := stay mv kp
    have T2 : Tb kd s2.heap S L es ep t := T.keep (fun o e => mv.heap S o away2 e) fun p z => is_keep (is0 p (List.mem_of_mem_take (g.sub p z))) kp2
    have hx : IsTupleKey kd s2.heap p.2 p.1 := is_keep (is0 p (List.mem_of_getElem? hp)) kp2
    show wpAny _ A.in1 (holding [Value.ref p.1] (setAdd S (.ref p.1)) >>= _) _ _ s2
    refine wpAny_bind (wpAny_holding ?_)
    unfold setAdd
    refine wpAny_holding ?_
    refine wpAny_bind (wpAny_pyHash_tuple hu hx ?_)
    have few : L.length ≤ i := by rw [g.len]; exact WnSet.cnt_le _ _
    refine add (s := { s2 with toks := s2.toks + (p.2.length + 1) }) m T2 hx hu (by omega) fun b h3 L3 es3 ep3 t3 sb T3 c1 c2 => ?_
    have kp3 : ∀ b o, h0.get? b = some o → h3.get? b = some o := fun b o e => (sb.2 b (fun z => by rw [z, S0] at e; cases e)).trans (kp2 b o e)
    refine wpAny_pure ⟨plainId_quiet PyProof.Rows.F.plain_set_update_loop _, ih (i + 1) _ (by omega) lt (W.frame _ s2 _ _ st2 (Nat.le_add_right _ _) fun b hb o e => ?_) kp3 ⟨L3, es3, ep3, t3, T3, g.step hp c1 c2⟩ fun s4 L4 es4 ep4 t4 mv4 T4 g4 => ?_⟩
    · rw [sb.2 b fun z : b = S => away (by rw [← z]; exact hb)]
      exact e
    · refine fin s4 L4 es4 ep4 t4 (Moved.trans W.gtrans ((mv.mono more).then_heap (Nat.le_add_right _ _) fun b o hb e => ?_) mv4) T4 g4
      rw [sb.2 b fun z : b = S => hb (by rw [z]; exact List.mem_cons_self)]
      exact e
end
end WnTS
/-! WnTS5: set(xs), xs a list or a tuple of tuples. -/
namespace WnTS
open PySem PySem.Spec PyProof.Rows L2
section
variable {P : Program} {w : World} {A : Around} {E : Value → Shared → Prop} {s : Shared} {κ : Type} [DecidableEq κ] {kd : KeyKind P w κ}
theorem map_some {α β : Type} {f : α → β} {o : Option α} {b : β} (h : o.map f = some b) : ∃ a, o = some a ∧ b = f a := by
  cases o with
  | none => cases h
  | some a => exact ⟨a, rfl, (Option.some.inj h).symm⟩
set_option maxHeartbeats 8000000 in
theorem call_set_list {l : Addr} {its : Array Value} (m : Mute kd) {ks : List (Addr × List κ)} {Q : Value → Shared → Prop} (calm : A.handled = none) (hl : s.heap.IsList l its) (fw : ks.length < 64) (hu : A.units + 3 < cLine) (hit : its.toList = ks.map fun p => Value.ref p.1) (is : ∀ p ∈ ks, IsTupleKey kd s.heap p.2 p.1)
    (h : ∀ (h' : Heap) (tk : Nat) L es ep t, Tb kd h' s.heap.objs.size L es ep t → Has ks ks.length L →
      (∀ b o, b < s.heap.objs.size → s.heap.get? b = some o → h'.get? b = some o) → Q (.ref s.heap.objs.size) { s with heap := h', toks := tk }) :
    wpAny (model P w) A (call (.type "set") [.ref l]) Q E s := by
  obtain ⟨c, tl, m1⟩ := PySem.F.called_set.mro
  have m2 := PySem.F.called_set.made
  have m3 := PySem.F.called_set.sub
  refine wpAny_call
    (codeAny_of_tree ?_)
  show wpAny _ _ (callAny (.type "set")
    _) _ _ _
  refine wpAny_pure ⟨Code.quiet_builtin _
    (by decide +kernel), codeAny_builtin PySem.F.entry_type_call ?_⟩
  rw [Around.under_plain (weight_type_call_type "set"
    [.ref l] []) rfl]
  have m4 := PySem.F.called_set.notType
  have m5 := PySem.F.called_set.canCreate
  have m6 := PySem.F.typeCall_set_1 (.ref l)
  repeat (any_goals
    (first | assumption | wp_step))
  refine codeAny_mono (code_set_new_1 (.ref l) (E := E) (Q₁ := fun ob s2 => ∃ led : Bool, ob = .ref s.heap.objs.size ∧
    s2 = { s with heap := s.heap.push (WnSet.fresh led) }) fun led => ⟨led, rfl, rfl⟩) fun r s2 hr => ?_
  cases r with
  | error e => exact hr
  | ok fl =>
    cases fl with
    | ret ob =>
      obtain ⟨led, rfl, rfl⟩ := hr
      have eS : (s.heap.push (WnSet.fresh led)).get? s.heap.objs.size = some (WnSet.fresh led) := Heap.get?_push_size _ rfl
      have tS : Shared.TypeIs { s with heap := s.heap.push (WnSet.fresh led) } (.ref s.heap.objs.size) "set" := ⟨_, eS, rfl⟩
      have m7 := PySem.F.called_set.init.lookup
      have m8 := PySem.F.called_set.init.bind
        (.ref s.heap.objs.size)
      repeat (any_goals
        (first | assumption | wp_step))
      refine codeAny_mono (codeAny_call_builtin (R := wants (fun r s3 => r = .none ∧ ∃ h' tk L es ep t, s3 = { s with heap := h', toks := tk } ∧ Tb kd h' s.heap.objs.size L es ep t ∧ Has ks ks.length L ∧
        (∀ b o, b < s.heap.objs.size → s.heap.get? b = some o → h'.get? b = some o)) E) PySem.F.called_set.init.plain
          PySem.F.entry_set_init (check_set_init_1 tS ?_)) fun r3 s3 hr3 => ?_
      · obtain ⟨ol, e1, e2, nl, e3⟩ := hl
        obtain ⟨oc, od, odt, osl⟩ := ol
        simp only at e2 e3
        subst e2
        subst e3
        have e4 : (s.heap.push (WnSet.fresh led)).get? l = some { cls := .type "list", dict := od, data := .seq its nl, slots := osl } := Heap.get?_push_of_some _ e1
        have m9 := PySem.F.sub_list_set
        have m10 := PySem.F.sub_list_frozenset
        have m11 : (Value.type "list"
          == Value.type "dict") = false := by decide
        have hl1 : (s.heap.push (WnSet.fresh led)).IsList l its := ⟨_, e4, rfl, nl, rfl⟩
        have m12 : (WnSet.fresh led).cls = .type "set" := rfl
        unfold WnSet.fresh at *
        unfold Builtin.«set.__init__» noKeywords
          Builtin.Frozenset.updateFrom
        generalize hPI : pyIter = PI
        wp_walk
        subst hPI
        refine wpAny_pyIter_list hl1 ?_
        refine wpAny_bind
          (wpAny_runValue ?_)
        have below : l < s.heap.objs.size := Heap.lt_size e1
        have calm3 : A.in1.in1.in1.handled = none := by
          simp [calm]
        have apart : l ≠ (s.heap.push { cls := .type "set", dict := none, data := .set #[] 0 (.fresh 0 0 led) } : Heap).objs.size := by
          rw [Heap.size_push]
          exact Nat.ne_of_lt (Nat.lt_succ_of_lt below)
        have away : s.heap.objs.size ∉ [(s.heap.push { cls := .type "set", dict := none, data := .set #[] 0 (.fresh 0 0 led) } : Heap).objs.size, l] := by
          rw [Heap.size_push]
          simp only [List.mem_cons,List.not_mem_nil, or_false, not_or]
          exact ⟨Nat.ne_of_lt (Nat.lt_succ_self _), Nat.ne_of_gt below⟩
        have none_of : ∀ b, s.heap.objs.size ≤ b → s.heap.get? b = none := fun b hb => by
          cases z : s.heap.get? b with
          | none => rfl
          | some o => exact absurd (Nat.lt_of_lt_of_le (Heap.lt_size z) hb) (Nat.lt_irrefl _)
        have isz : its.size = ks.length := by rw [← Array.length_toList, hit, List.length_map]
        refine turns m ((Walks.list calm3 _ l apart its).toS) s.heap.objs.size away ks isz fw (fun i v e => ?val) s.heap is (none_of _ (Nat.le_refl _)) (fun b hb => none_of b (by
            rw [List.mem_singleton.mp hb, Heap.size_push]
            exact Nat.le_succ _)) hu (its.size - 0) 0 _ (by omega) (Nat.zero_le _) ⟨⟨_, Heap.get?_push_size _ rfl, rfl, rfl⟩, (hl1.push _)⟩ (fun b o e => Heap.get?_push_of_some _ (Heap.get?_push_of_some _ e)) ?g1 ?g2
        case val =>
          have e7 : its.toList[i]? = some v := by rw [Array.getElem?_toList]; exact e
          rw [hit, List.getElem?_map] at e7
          exact (map_some e7).elim fun p hp => ⟨p, hp.1, hp.2⟩
        case g1 =>
          have e5 := Heap.get?_push_of_some ({ cls := .type "list_iterator", data := .fields #[.ref l, .int 0 0] } : Obj) eS
          exact ⟨[], #[], 0, _, tb_fresh led e5, .zero ks⟩
        case g2 =>
          intro s4 L es ep t mv T4 g4
          rw [isz] at g4
          obtain ⟨h4, g4, d4, t4, os4⟩ := s4
          obtain rfl : g4 = s.gens := mv.gens
          obtain rfl : d4 = s.drawn := mv.drawn
          obtain rfl : os4 = s.os := mv.os
          show wpAny _ _ _ _ _ _
          refine wpAny_pure ?_
          show wpAny _ _ (ret Value.none)
            _ _ _
          refine wpAny_pure ⟨rfl, h4, t4, L, es, ep, t, rfl, T4, g4, fun b o hb e => ?_⟩
          have n1 : b ≠ s.heap.objs.size := Nat.ne_of_lt hb
          have n2 : b ≠ (s.heap.push { cls := .type "set", dict := none, data := .set #[] 0 (.fresh 0 0 led) } : Heap).objs.size := by
            rw [Heap.size_push]
            exact Nat.ne_of_lt (Nat.lt_succ_of_lt hb)
          refine mv.heap b o ?_ (Heap.get?_push_of_some _ (Heap.get?_push_of_some _ e))
          simp only [List.mem_cons,List.not_mem_nil, or_false, not_or]
          exact ⟨n1, n2⟩
      · cases r3 with
        | error e => exact hr3
        | ok f3 =>
          cases f3 with
          | ret r =>
            obtain ⟨rfl, h', tk, L, es, ep, t, rfl, T', g', keep⟩ := hr3
            repeat (any_goals
              (first | assumption | wp_step))
            exact h _ _ L es ep t T' g' keep
          | _ => exact hr3.elim
    | _ => exact hr.elim
set_option maxHeartbeats 8000000 in
theorem call_set_tuple {l : Addr} {its : Array Value} (m : Mute kd) {ks : List (Addr × List κ)} {Q : Value → Shared → Prop} (calm : A.handled = none) (hl : s.heap.IsTuple l its) (fw : ks.length < 64) (hu : A.units + 3 < cLine) (hit : its.toList = ks.map fun p => Value.ref p.1) (is : ∀ p ∈ ks, IsTupleKey kd s.heap p.2 p.1)
    (h : ∀ (h' : Heap) (tk : Nat) L es ep t, Tb kd h' s.heap.objs.size L es ep t → Has ks ks.length L →
      (∀ b o, b < s.heap.objs.size → s.heap.get? b = some o → h'.get? b = some o) → Q (.ref s.heap.objs.size) { s with heap := h', toks := tk }) :
    wpAny (model P w) A (call (.type "set") [.ref l]) Q E s := by
  obtain ⟨c, tl, m1⟩ := PySem.F.called_set.mro
  have m2 := PySem.F.called_set.made
  have m3 := PySem.F.called_set.sub
  refine wpAny_call
    (codeAny_of_tree ?_)
  show wpAny _ _ (callAny (.type "set")
    _) _ _ _
  refine wpAny_pure ⟨Code.quiet_builtin _
    (by decide +kernel), codeAny_builtin PySem.F.entry_type_call ?_⟩
  rw [Around.under_plain (weight_type_call_type "set"
    [.ref l] []) rfl]
  have m4 := PySem.F.called_set.notType
  have m5 := PySem.F.called_set.canCreate
  have m6 := PySem.F.typeCall_set_1 (.ref l)
  repeat (any_goals
    (first | assumption | wp_step))
  refine codeAny_mono (code_set_new_1 (.ref l) (E := E) (Q₁ := fun ob s2 => ∃ led : Bool, ob = .ref s.heap.objs.size ∧
    s2 = { s with heap := s.heap.push (WnSet.fresh led) }) fun led => ⟨led, rfl, rfl⟩) fun r s2 hr => ?_
  cases r with
  | error e => exact hr
  | ok fl =>
    cases fl with
    | ret ob =>
      obtain ⟨led, rfl, rfl⟩ := hr
      have eS : (s.heap.push (WnSet.fresh led)).get? s.heap.objs.size = some (WnSet.fresh led) := Heap.get?_push_size _ rfl
      have tS : Shared.TypeIs { s with heap := s.heap.push (WnSet.fresh led) } (.ref s.heap.objs.size) "set" := ⟨_, eS, rfl⟩
      have m7 := PySem.F.called_set.init.lookup
      have m8 := PySem.F.called_set.init.bind
        (.ref s.heap.objs.size)
      repeat (any_goals
        (first | assumption | wp_step))
      refine codeAny_mono (codeAny_call_builtin (R := wants (fun r s3 => r = .none ∧ ∃ h' tk L es ep t, s3 = { s with heap := h', toks := tk } ∧ Tb kd h' s.heap.objs.size L es ep t ∧ Has ks ks.length L ∧
        (∀ b o, b < s.heap.objs.size → s.heap.get? b = some o → h'.get? b = some o)) E) PySem.F.called_set.init.plain
          PySem.F.entry_set_init (check_set_init_1 tS ?_)) fun r3 s3 hr3 => ?_
      · obtain ⟨ol, e1, e2, nl, e3⟩ := hl
        obtain ⟨oc, od, odt, osl⟩ := ol
        simp only at e2 e3
        subst e2
        subst e3
        have e4 : (s.heap.push (WnSet.fresh led)).get? l = some { cls := .type "tuple", dict := od, data := .seq its nl, slots := osl } := Heap.get?_push_of_some _ e1
        have m9 := PySem.F.sub_tuple_set
        have m10 := PySem.F.sub_tuple_frozenset
        have m11 : (Value.type "tuple"
          == Value.type "dict") = false := by decide
        have hl1 : (s.heap.push (WnSet.fresh led)).IsTuple l its := ⟨_, e4, rfl, nl, rfl⟩
        have m12 : (WnSet.fresh led).cls = .type "set" := rfl
        unfold WnSet.fresh at *
        unfold Builtin.«set.__init__» noKeywords
          Builtin.Frozenset.updateFrom
        generalize hPI : pyIter = PI
        wp_walk
        subst hPI
        refine wpAny_pyIter_tuple hl1 ?_
        refine wpAny_bind
          (wpAny_runValue ?_)
        have below : l < s.heap.objs.size := Heap.lt_size e1
        have calm3 : A.in1.in1.in1.handled = none := by
          simp [calm]
        have apart : l ≠ (s.heap.push { cls := .type "set", dict := none, data := .set #[] 0 (.fresh 0 0 led) } : Heap).objs.size := by
          rw [Heap.size_push]
          exact Nat.ne_of_lt (Nat.lt_succ_of_lt below)
        have away : s.heap.objs.size ∉ [(s.heap.push { cls := .type "set", dict := none, data := .set #[] 0 (.fresh 0 0 led) } : Heap).objs.size, l] := by
          rw [Heap.size_push]
          simp only [List.mem_cons,List.not_mem_nil, or_false, not_or]
          exact ⟨Nat.ne_of_lt (Nat.lt_succ_self _), Nat.ne_of_gt below⟩
        have none_of : ∀ b, s.heap.objs.size ≤ b → s.heap.get? b = none := fun b hb => by
          cases z : s.heap.get? b with
          | none => rfl
          | some o => exact absurd (Nat.lt_of_lt_of_le (Heap.lt_size z) hb) (Nat.lt_irrefl _)
        have isz : its.size = ks.length := by rw [← Array.length_toList, hit, List.length_map]
        refine turns m ((Walks.tuple calm3 _ l apart its).toS) s.heap.objs.size away ks isz fw (fun i v e => ?val) s.heap is (none_of _ (Nat.le_refl _)) (fun b hb => none_of b (by
            rw [List.mem_singleton.mp hb, Heap.size_push]
            exact Nat.le_succ _)) hu (its.size - 0) 0 _ (by omega) (Nat.zero_le _) ⟨⟨_, Heap.get?_push_size _ rfl, rfl, rfl⟩, (hl1.push _)⟩ (fun b o e => Heap.get?_push_of_some _ (Heap.get?_push_of_some _ e)) ?g1 ?g2
        case val =>
          have e7 : its.toList[i]? = some v := by rw [Array.getElem?_toList]; exact e
          rw [hit, List.getElem?_map] at e7
          exact (map_some e7).elim fun p hp => ⟨p, hp.1, hp.2⟩
        case g1 =>
          have e5 := Heap.get?_push_of_some ({ cls := .type "tuple_iterator", data := .fields #[.ref l, .int 0 0] } : Obj) eS
          exact ⟨[], #[], 0, _, tb_fresh led e5, .zero ks⟩
        case g2 =>
          intro s4 L es ep t mv T4 g4
          rw [isz] at g4
          obtain ⟨h4, g4, d4, t4, os4⟩ := s4
          obtain rfl : g4 = s.gens := mv.gens
          obtain rfl : d4 = s.drawn := mv.drawn
          obtain rfl : os4 = s.os := mv.os
          show wpAny _ _ _ _ _ _
          refine wpAny_pure ?_
          show wpAny _ _ (ret Value.none)
            _ _ _
          refine wpAny_pure ⟨rfl, h4, t4, L, es, ep, t, rfl, T4, g4, fun b o hb e => ?_⟩
          have n1 : b ≠ s.heap.objs.size := Nat.ne_of_lt hb
          have n2 : b ≠ (s.heap.push { cls := .type "set", dict := none, data := .set #[] 0 (.fresh 0 0 led) } : Heap).objs.size := by
            rw [Heap.size_push]
            exact Nat.ne_of_lt (Nat.lt_succ_of_lt hb)
          refine mv.heap b o ?_ (Heap.get?_push_of_some _ (Heap.get?_push_of_some _ e))
          simp only [List.mem_cons,List.not_mem_nil, or_false, not_or]
          exact ⟨n1, n2⟩
      · cases r3 with
        | error e => exact hr3
        | ok f3 =>
          cases f3 with
          | ret r =>
            obtain ⟨rfl, h', tk, L, es, ep, t, rfl, T', g', keep⟩ := hr3
            repeat (any_goals
              (first | assumption | wp_step))
            exact h _ _ L es ep t T' g' keep
          | _ => exact hr3.elim
    | _ => exact hr.elim
end
end WnTS
/-! WnLT: len(set(xs)) where xs is a list or a tuple of tuples of texts. -/
namespace Wn
open PySem PySem.Spec PyProof.Rows L2
def tLenSetT (K : PySem.W.Frag) (ta : TE) : TE := fun σ H Q => ta σ H fun x H1 => ∃ (l : Addr) (ks : List (Addr × List Str)), x = .ref l ∧ (SqL K H1 l (ks.map fun p => V.ref p.1) ∨ SqT K H1 l (ks.map fun p => V.ref p.1)) ∧ (∀ p ∈ ks, SqT K H1 p.1 (p.2.map V.str)) ∧ ks.length < 64 ∧ Q (.int (WnSet.cnt (ks.map Prod.snd) ks.length)) H1
theorem items_str {P : Program} {w : World} : ∀ {k : List Str} {us : List Value}, Vals (k.map V.str) us → ItemsAre (strKind P w) k us
  | [], _, .nil => .nil
  | x :: k, _, .cons r t => by
    obtain ⟨tk, rfl⟩ := r
    exact .cons (strKind_is _ _ _ _) (items_str t)
theorem refs_v : ∀ {ks : List (Addr × List Str)} {us : List Value}, Vals (ks.map fun p => V.ref p.1) us → us = ks.map fun p => Value.ref p.1
  | [], _, .nil => rfl
  | p :: ks, _, .cons r t => by
    rw [refs_v t]
    cases r
    rfl
section
variable {X : Cx} {a : Expr} {ta : TE} {p p2 q pos : Pos}
theorem pe_lenSetT {K : PySem.W.Frag} (eK : X.K = K) (hc : X.calm = true) (hu : X.A.units + 65 < cLine) (hg : Gl X "len") (hm : X.mg "len" = none) (hg2 : Gl X "set") (hm2 : X.mg "set" = none) (ha : PE X a ta)
    (na : starEach [a] X.env = (false, eval a X.env) :: starEach [] X.env := by rfl) : PE X (.Call (.Name "len" p) [.Call (.Name "set" p2) [a] [] q] [] pos) (tLenSetT K ta) := by
  subst eK
  refine ⟨fun pins s σ H Q I h => ?_⟩
  refine Call_ (ld_blt I hg hm PySem.boot_len ?_)
  refine PyProof.Rows.callWith_builtin1 (PyProof.Rows.args_cons ?_ rfl) rfl rfl
  refine Call_ (ld_blt I hg2 hm2 (boot_setT) ?_)
  refine PyProof.Rows.callWith_type1
    (PyProof.Rows.args_cons (thn (ha.run pins s σ H _ I h) fun v s1 ⟨x, H1, I1, r1, q1⟩ => PyProof.Rows.args_nil ?_) na) na rfl
  obtain ⟨l, ks, rfl, hq, hk, few, q1⟩ := q1
  cases r1
  have is : ∀ p ∈ ks, IsTupleKey (strKind X.prog X.w) s1.heap p.2 p.1 := fun p m => by
    obtain ⟨its, r, ⟨o, e1, e2, n, e3⟩, _⟩ := I1.tuple (hk p m)
    exact ⟨o, its.toArray, n, e1, e2, e3, items_str r⟩
  have last : ∀ (h' : Heap) (tk : Nat) L es ep t, WnTS.Tb (strKind X.prog X.w) h' s1.heap.objs.size L es ep t → WnTS.Has ks ks.length L →
      (∀ b o, b < s1.heap.objs.size → s1.heap.get? b = some o → h'.get? b = some o) →
      wpAny (model X.prog X.w) X.A (spliced (backTo pos (starEach [] X.env)))
        (fun vs s2 => wpAny (model X.prog X.w) X.A (call (.builtin "len") (Value.ref s1.heap.objs.size :: vs)) (EP X pins σ Q) X.xe s2) X.xe { s1 with heap := h', toks := tk } := fun h' tk L es ep t T g keep => by
    refine PyProof.Rows.args_nil ?_
    obtain ⟨o, ho, hex, hd⟩ := T.ob
    have hn := WnTS.en_size T.en
    rw [g.len] at hn
    have I2 : Inv X pins σ H1 { s1 with heap := h', toks := tk } := I1.kept fun b o e => keep b o (Heap.lt_size e) e
    have c1 := WnSet.cnt_le (ks.map Prod.snd) ks.length
    refine call_len_set ho hex hd T.fit (by rw [hn] <;> omega) ⟨.int (WnSet.cnt (ks.map Prod.snd) ks.length), H1, I2.tok _, ⟨_, by rw [hn]⟩, q1⟩
  rcases hq with hq | hq
  · obtain ⟨its, r, pl, hz⟩ := I1.list hq
    exact WnTS.call_set_list WnTS.mute_str (I1.ok.hd hc) pl.isList few (by omega) (refs_v r) is fun h' tk L es ep t T g k => last h' tk L es ep t T g k
  · obtain ⟨its, r, pl, hz⟩ := I1.tuple hq
    exact WnTS.call_set_tuple WnTS.mute_str (I1.ok.hd hc) pl few (by omega) (refs_v r) is fun h' tk L es ep t T g k => last h' tk L es ep t T g k
end
end Wn
/-! WnSP: sorted of a list or tuple of pairs of texts. -/
namespace WnSP
open PySem PyProof.Rows SrtO Srt L2
/-! ### the order -/
def ltS (p q : Str × Str) : Bool := if p.1 = q.1 then decide (p.2.cps.toList < q.2.cps.toList) else decide (p.1.cps.toList < q.1.cps.toList)
theorem cps_inj {x y : Str} (h : x.cps.toList = y.cps.toList) : x = y := by
  cases x; cases y
  simp only [Str.mk.injEq]
  exact Array.toList_inj.mp h
theorem lt_irr (l : List Nat) : ¬ l < l := List.lt_irrefl l
theorem lt_tri {l m : List Nat} (h1 : ¬ l < m) (h2 : ¬ m < l) : l = m := List.le_antisymm (List.not_lt.mp h2) (List.not_lt.mp h1)
theorem ltS_asym (p q : Str × Str) (h : ltS p q = true) : ltS q p = false := by
  unfold ltS at h ⊢
  by_cases e : p.1 = q.1
  · rw [if_pos e] at h
    rw [if_pos e.symm]
    exact decide_eq_false (List.lt_asymm (of_decide_eq_true h))
  · rw [if_neg e] at h
    rw [if_neg fun z => e z.symm]
    exact decide_eq_false (List.lt_asymm (of_decide_eq_true h))
theorem ltS_tot {p q : Str × Str} (h1 : ltS p q = false) (h2 : ltS q p = false) : p = q := by
  unfold ltS at h1 h2
  by_cases e : p.1 = q.1
  · rw [if_pos e] at h1
    rw [if_pos e.symm] at h2
    exact Prod.ext e (cps_inj (lt_tri (of_decide_eq_false h1) (of_decide_eq_false h2)))
  · rw [if_neg e] at h1
    rw [if_neg fun z => e z.symm] at h2
    exact absurd (cps_inj (lt_tri (of_decide_eq_false h1) (of_decide_eq_false h2))) e
theorem ltS_trans {p q r : Str × Str} (h1 : ltS p q = true) (h2 : ltS q r = true) : ltS p r = true := by
  unfold ltS at h1 h2 ⊢
  by_cases e : p.1 = q.1
  · rw [if_pos e] at h1
    by_cases e2 : q.1 = r.1
    · rw [if_pos e2] at h2
      rw [if_pos (e.trans e2)]
      exact decide_eq_true (List.lt_trans (of_decide_eq_true h1) (of_decide_eq_true h2))
    · rw [if_neg e2] at h2
      rw [if_neg (by rw [e]; exact e2), e]
      exact h2
  · rw [if_neg e] at h1
    by_cases e2 : q.1 = r.1
    · rw [if_neg (by rw [← e2]; exact e), ← e2]
      exact h1
    · rw [if_neg e2] at h2
      have h3 := List.lt_trans (of_decide_eq_true h1) (of_decide_eq_true h2)
      rw [if_neg fun z => by rw [z] at h3; exact lt_irr _ h3]
      exact decide_eq_true h3
theorem ltS_ntr {p q r : Str × Str} (h1 : ltS q p = false) (h2 : ltS r q = false) : ltS r p = false := by
  cases h : ltS r p with
  | false => rfl
  | true =>
    cases h3 : ltS p q with
    | true => have := ltS_trans h h3; rw [h2] at this; cases this
    | false =>
      rw [ltS_tot h3 h1] at h
      rw [h] at h2
      cases h2
theorem swoS {α : Type} (k : α → Str × Str) : Swo fun x y => ltS (k x) (k y) := ⟨fun _ _ h => ltS_asym _ _ h, fun _ _ _ h1 h2 => ltS_ntr h1 h2⟩
/-! ### the machine's comparison -/
section
variable {prog : Program} {w : World} {A : Around} {E : Value → Shared → Prop} {s : Shared}
def IsPS (h : Heap) (v : Value) (p : Str × Str) : Prop := ∃ a o t u n, v = .ref a ∧ h.get? a = some o ∧ o.cls = .type "tuple" ∧ o.data = .seq #[.str p.1 t, .str p.2 u] n
theorem IsPS.keep {h h' : Heap} {v : Value} {p : Str × Str} (x : IsPS h v p) (k : ∀ b o, h.get? b = some o → o.cls = .type "tuple" → h'.get? b = some o) : IsPS h' v p := by
  obtain ⟨a, o, t, u, n, e, e1, e2, e3⟩ := x
  exact ⟨a, o, t, u, n, e, k a o e1 e2, e2, e3⟩
theorem str_dec (x y : Str) : (x == y) = decide (x = y) := by
  by_cases h : x = y
  · rw [decide_eq_true h, h]; exact beq_self_eq_true y
  · rw [decide_eq_false h]; exact beq_eq_false_iff_ne.mpr h
theorem cmpS {vs : List Value} {k : Value → Str × Str} (hp : ∀ v ∈ vs, IsPS s.heap v (k v)) : Cmp prog w A s (tuples' true) (fun p => p.1 ∈ vs) (lt2 fun v u => ltS (k v) (k u)) := by
  intro p q m1 m2
  have g1 := hp _ m1
  have g2 := hp _ m2
  show wpAny (model prog w) A (keyLt' (tuples' true) p.1 q.1) (fun r s' => s' = s ∧ r = ltS (k p.1) (k q.1)) (fun _ _ => False) s
  generalize k p.1 = x at g1 ⊢
  generalize k q.1 = y at g2 ⊢
  obtain ⟨x1, x2⟩ := x
  obtain ⟨y1, y2⟩ := y
  obtain ⟨a, o, t, u, n, e1, e2, _, e3⟩ := g1
  obtain ⟨b, o', t', u', n', f1, f2, _, f3⟩ := g2
  rw [e1, f1]
  refine PySem.W.kat_lt e2 e3 f2 f3 ?_
  show PySem.W.KatLex prog w A true (decide (2 < 2)) _ [(.str x1 t, .str y1 t'), (.str x2 u, .str y2 u')] 0 s
  unfold ltS
  refine PySem.W.kat_cons (SeqAt.EqAt.str_str x1 t y1 t' prog w _ _ ?_)
  refine PySem.W.kat_go (fun z => ?_) fun z => ?_
  · have ez : x1 = y1 := by simpa using z
    refine PySem.W.kat_yes (PySem.W.kat_cons (SeqAt.EqAt.str_str x2 u y2 u' prog w _ _ ?_))
    refine PySem.W.kat_go (fun z2 => ?_) fun z2 => ?_
    · have ez2 : x2 = y2 := by simpa using z2
      refine PySem.W.kat_yes (PySem.W.kat_nil ⟨rfl, ?_⟩)
      rw [if_pos ez, ez2]
      exact (decide_eq_false (lt_irr _)).symm
    · refine PySem.W.kat_no (PySem.W.kat_one _ _ (PyProof.Rows.lt_str ?_))
      rw [if_pos ez]
      exact (⟨rfl, rfl⟩ : s = s ∧ _)
  · have ez : ¬ x1 = y1 := by simpa using z
    refine PySem.W.kat_no (oneLt_str ⟨rfl, ?_⟩)
    rw [if_neg ez]
theorem fstS {h : Heap} {k : Value → Str × Str} : ∀ {vs : List Value}, (∀ v ∈ vs, IsPS h v (k v)) → ∃ fs : List Value, PySem.W.KatTups h vs fs ∧ fs.length = vs.length ∧ ∀ f ∈ fs, ∃ x t, f = Value.str x t
  | [], _ => ⟨[], PySem.W.KatTups.nil, rfl, fun f m => nomatch m⟩
  | v :: vs, hp => by
    obtain ⟨fs, r1, r2, r3⟩ := fstS (vs := vs) fun x m => hp x (.tail _ m)
    obtain ⟨a, o, t, u, n, rfl, e1, e2, e3⟩ := hp v (.head _)
    refine ⟨.str _ t :: fs, PySem.W.KatTups.cons e1 e2 e3 rfl r1, by rw [List.length_cons, r2]; rfl, fun f m => ?_⟩
    rcases List.mem_cons.mp m with z | z
    · exact ⟨_, t, z⟩
    · exact r3 f z
theorem sortableS {a : Addr} {vs : List Value} {k : Value → Str × Str} (h0 : 0 < vs.length) (hp : ∀ v ∈ vs, IsPS s.heap v (k v)) (ha : ∀ o, s.heap.get? a = some o → o.cls ≠ .type "tuple") : SortableO prog w A s a vs fun v u => ltS (k v) (k u) := by
  intro h' keep
  have hp' : ∀ v ∈ vs, IsPS h' v (k v) := fun v m => (hp v m).keep fun b o e c => keep b o (fun z => ha o (z ▸ e) c) e
  obtain ⟨fs, r1, r2, r3⟩ := fstS hp'
  refine ⟨tuples' true, fun Q E q => ?_, cmpS hp'⟩
  refine PySem.W.kat_kind (T := .type "str") r1 (by omega) (fun f m => ?_) (by rfl) ?_
  · obtain ⟨x, t, rfl⟩ := r3 f m
    exact PySem.W.Looks.now
  · have e : (Value.type "str" != Value.type "tuple") = true := by first | decide +kernel | rfl | decide
    rw [e]
    exact q
/-! ### what is sorted: a list or a tuple -/
theorem collect_sq {T : String} (hT : T = "list" ∨ T = "tuple") {l : Addr} {o : Obj} {n : Nat} {vs : List Value} {Q : List Value → Shared → Prop} (e1 : s.heap.get? l = some o) (e2 : o.cls = .type T) (e3 : o.data = .seq vs.toArray n) (hz : vs.length ≤ sizeLine)
    (q : Q vs { s with heap := (s.heap.push (seqObj "list" #[] 0)).update s.heap.objs.size (Obj.mapSeq (· ++ vs.toArray)) }) : wpAny (model prog w) A (collect (.ref l)) Q E s := by
  unfold collect
  refine wpAny_bind (wpAny_runValue (codeAny_builtin entry_proto_collect' ?_))
  show wpAny _ _ (do again (.builtin "list.__iadd__" ⟨[← newList [], .ref l], []⟩)) _ _ s
  refine wpAny_bind (wpAny_newList (wpAny_pure ⟨Code.quiet_builtin _ (by decide +kernel), codeAny_builtin entry_list_iadd' ?_⟩))
  show wpAny _ _ (Builtin.List.listExtendWith (.ref s.heap.objs.size) (.ref l) (.ref s.heap.objs.size)) _ _ { s with heap := s.heap.push (seqObj "list" #[] 0) }
  unfold Builtin.List.listExtendWith
  have e4 : (s.heap.push (seqObj "list" #[] 0)).get? l = some o := Heap.get?_push_of_some _ e1
  refine wpAny_bind (wpAny_typeOf (T := T) ⟨o, e4, e2⟩ ?_)
  have tt : (Value.type T == Value.type "list" || Value.type T == Value.type "tuple") = true := by rcases hT with rfl | rfl <;> decide
  rw [if_pos (by rw [Bool.or_assoc, tt, Bool.or_true])]
  refine wpAny_bind (listItems_at e4 e3 ?_)
  refine wpAny_bind (listItems_at (xs := #[]) (n := 0) (Heap.get?_push_size _ rfl) rfl ?_)
  rw [if_neg (by simp)]
  refine wpAny_bind (listUpdate_at (xs := #[]) (n := 0) (Heap.get?_push_size _ rfl) rfl ?_ (Nat.zero_le _) (by show (#[] ++ vs.toArray).size ≤ sizeLine + 1; simp only [Array.size_append,List.size_toArray,List.length_nil]; omega))
  refine wpAny_pure ?_
  show wpAny (model prog w) A (do
      let o ← load s.heap.objs.size
      match o.data with
      | .seq xs _ => pure xs.toList
      | _ => unsupported "internal:collect") Q E { s with heap := (s.heap.push (seqObj "list" #[] 0)).update s.heap.objs.size (Obj.mapSeq (· ++ vs.toArray)) }
  refine wpAny_bind (wpAny_load (get?_update_seq (Heap.get?_push_size _ rfl) _) ?_)
  show wpAny _ _ (pure ((#[] : Array Value) ++ vs.toArray).toList) Q E _
  have e5 : ((#[] : Array Value) ++ vs.toArray).toList = vs := by simp
  rw [e5]
  exact wpAny_pure q
theorem sortedS {T : String} (hT : T = "list" ∨ T = "tuple") {l : Addr} {o : Obj} {n : Nat} {vs : List Value} {k : Value → Str × Str} {Q : Value → Shared → Prop} (e1 : s.heap.get? l = some o) (e2 : o.cls = .type T) (e3 : o.data = .seq vs.toArray n) (hz : vs.length ≤ sizeLine)
    (hp : ∀ v ∈ vs, IsPS s.heap v (k v))
    (q : ∀ (h' : Heap) (d : Addr) (out : List Value), Srtd (fun v u => ltS (k v) (k u)) out → out.Perm vs → (∀ b o, s.heap.get? b = some o → h'.get? b = some o) → s.heap.objs.size ≤ d → (∃ n, h'.get? d = some (seqObj "list" out.toArray n)) → Q (.ref d) { s with heap := h' }) :
    wpAny (model prog w) A (call (.builtin "sorted") [.ref l]) Q E s := by
  refine Calls.call_function_entry kind_sorted plain_sorted entry_sorted (args_sorted1 _) ?_
  unfold Builtin.«sorted»
  refine wpAny_bind (m := checkCount "sorted" 1 1 _) (wpAny_pure ?_)
  refine wpAny_bind (collect_sq hT e1 e2 e3 hz ?_)
  refine wpAny_bind (wpAny_newList ?_ hz)
  generalize hB : (s.heap.push (seqObj "list" #[] 0)).update s.heap.objs.size (Obj.mapSeq (· ++ vs.toArray)) = B
  have zB : B.objs.size = s.heap.objs.size + 1 := by rw [← hB, Heap.size_update, size_push']
  have kB : ∀ b o, s.heap.get? b = some o → b ≠ s.heap.objs.size + 1 ∧ (B.push (seqObj "list" vs.toArray 0)).get? b = some o := fun b o e => by
    have lt := Heap.lt_size e
    refine ⟨Nat.ne_of_lt (Nat.lt_succ_of_lt lt), Heap.get?_push_of_some _ ?_⟩
    rw [← hB, Heap.get?_update_ne _ _ _ _ (Nat.ne_of_lt lt)]
    exact Heap.get?_push_of_some _ e
  have aB : (B.push (seqObj "list" vs.toArray 0)).get? (s.heap.objs.size + 1) = some (seqObj "list" vs.toArray 0) := by
    rw [← zB]; exact Heap.get?_push_size _ rfl
  show wpAny _ _ _ _ _ { s with heap := B.push (seqObj "list" vs.toArray 0) }
  rw [zB]
  have nt : ∀ o, (B.push (seqObj "list" vs.toArray 0)).get? (s.heap.objs.size + 1) = some o → o.cls ≠ .type "tuple" := fun o e => by
    rw [aB] at e
    cases e
    exact fun z => absurd (Value.type.inj z) (by decide)
  refine wpAny_bind (wpAny_holding (wpAny_call_entry slot_list_sort ⟨_, aB, rfl⟩ entry_list_sort (list_sort_ord (swoS k) aB hz (fun two => sortableS (s := { s with heap := B.push (seqObj "list" vs.toArray 0) }) (by omega) (fun v m => (hp v m).keep fun b o e _ => (kB b o e).2) nt) fun out r1 r2 => ⟨_, rfl, ?_⟩) (args_list_sort _)))
  refine wpAny_pure ⟨_, rfl, ?_⟩
  rw [← hB]
  exact q (sortedAll s.heap vs out.toArray) _ out r1 r2.perm (fun b o e => sortedAll_old e) (Nat.le_succ _) (sortedAll_at s.heap vs out.toArray)
end
end WnSP
/-! WnSQ: sorted of pairs of texts as a rule. -/
namespace Wn
open PySem PySem.Spec PyProof.Rows L2
open WnSP (ltS)
/-- ascending order of pairs of texts -/
def insP (x : Str × Str) : List (Str × Str) → List (Str × Str)
  | [] => [x]
  | y :: l => if ltS y x then y :: insP x l else x :: y :: l
def sortP : List (Str × Str) → List (Str × Str)
  | [] => []
  | x :: l => insP x (sortP l)
abbrev Asc (l : List (Str × Str)) : Prop := l.Pairwise fun x y => ltS y x = false
theorem insP_perm (x : Str × Str) : ∀ l, (insP x l).Perm (x :: l)
  | [] => .refl _
  | y :: l => by
    unfold insP
    split
    · exact ((insP_perm x l).cons y).trans (.swap x y l)
    · exact .refl _
theorem sortP_perm : ∀ l, (sortP l).Perm l
  | [] => .refl _
  | x :: l => (insP_perm x _).trans ((sortP_perm l).cons x)
theorem insP_asc (x : Str × Str) : ∀ {l}, Asc l → Asc (insP x l)
  | [], _ => List.pairwise_singleton _ _
  | y :: l, h => by
    obtain ⟨h1, h2⟩ := List.pairwise_cons.mp h
    unfold insP
    split
    · rename_i c
      refine List.pairwise_cons.mpr ⟨fun z m => ?_, insP_asc x h2⟩
      rcases List.mem_cons.mp ((insP_perm x l).mem_iff.mp m) with e | m
      · rw [e]; exact WnSP.ltS_asym _ _ c
      · exact h1 z m
    · rename_i c
      have c : ltS y x = false := by simpa using c
      refine List.pairwise_cons.mpr ⟨fun z m => ?_, h⟩
      rcases List.mem_cons.mp m with e | m
      · rw [e]; exact c
      · exact WnSP.ltS_ntr c (h1 z m)
theorem sortP_asc : ∀ l, Asc (sortP l)
  | [] => .nil
  | x :: l => insP_asc x (sortP_asc l)
theorem asc_uniq : ∀ {l m : List (Str × Str)}, Asc l → Asc m → l.Perm m → l = m
  | [], m, _, _, p => (List.Perm.eq_nil p.symm).symm
  | x :: l, [], _, _, p => absurd p.length_eq (by simp)
  | x :: l, y :: m, a, b, p => by
    obtain ⟨a1, a2⟩ := List.pairwise_cons.mp a
    obtain ⟨b1, b2⟩ := List.pairwise_cons.mp b
    have irr : ∀ z, ltS z z = false := fun z => by
      cases h : ltS z z with
      | false => rfl
      | true => exact (WnSP.ltS_asym _ _ h).symm.trans h |>.symm ▸ rfl
    have h1 : ltS x y = false := by
      rcases List.mem_cons.mp (p.mem_iff.mp (.head _)) with e | h
      · rw [e]; exact irr y
      · exact b1 x h
    have h2 : ltS y x = false := by
      rcases List.mem_cons.mp (p.mem_iff.mpr (.head _)) with e | h
      · rw [e]; exact irr x
      · exact a1 y h
    obtain rfl := WnSP.ltS_tot h1 h2
    rw [asc_uniq a2 b2 (List.Perm.cons_inv p)]
theorem sortP_eq {l m : List (Str × Str)} (p : l.Perm m) : sortP l = sortP m := asc_uniq (sortP_asc l) (sortP_asc m) ((sortP_perm l).trans (p.trans (sortP_perm m).symm))
/-- pairs of texts -/
inductive Prs (K : PySem.W.Frag) (H : Hp) : List V → List (Str × Str) → Prop
  | nil : Prs K H [] []
  | cons {t : Addr} {p : Str × Str} {xs : List V} {ps : List (Str × Str)} : SqT K H t [.str p.1, .str p.2] → Prs K H xs ps → Prs K H (.ref t :: xs) (p :: ps)
def rSortedQ (K : PySem.W.Frag) : List V → Hp → VK → Prop := fun vs H Q => ∃ (a : Addr) (xs : List V) (ps : List (Str × Str)), vs = [V.ref a] ∧ (SqL K H a xs ∨ SqT K H a xs) ∧ Prs K H xs ps ∧
  ∀ (zs : List (V × (Str × Str))) p, zs.Perm (xs.zip ps) → Asc (zs.map Prod.snd) → H p = none → Q (.ref p) (upd H p (.lst (zs.map Prod.fst)))
theorem ps_inj {h : Heap} {v : Value} {p q : Str × Str} (a : WnSP.IsPS h v p) (b : WnSP.IsPS h v q) : p = q := by
  obtain ⟨a, o, t, u, n, e, e1, e2, e3⟩ := a
  obtain ⟨a', o', t', u', n', f, f1, f2, f3⟩ := b
  rw [e] at f
  cases f
  rw [e1] at f1
  cases f1
  rw [e3] at f3
  injection f3 with g1 g2
  injection g1 with g1
  injection g1 with h1 g1
  injection g1 with h2 g1
  injection h1 with h1 _
  injection h2 with h2 _
  exact Prod.ext h1 h2
section
variable {X : Cx} {pins : List (Addr × Obj)} {σ : L2.St} {H : Hp} {s : Shared}
theorem prs_ps (I : Inv X pins σ H s) : ∀ {xs : List V} {ps : List (Str × Str)} {its : List Value}, Prs X.K H xs ps → Vals xs its → xs = its.map backV ∧ (∀ u ∈ its, ∃ a, u = Value.ref a) ∧ (∀ u ∈ its, ∃ p, WnSP.IsPS s.heap u p) ∧ ∀ k : Value → Str × Str, (∀ u ∈ its, WnSP.IsPS s.heap u (k u)) → ps = its.map k
  | _, _, _, .nil, .nil => ⟨rfl, fun u m => (nomatch m), fun u m => (nomatch m), fun _ _ => rfl⟩
  | _, _, _, .cons (t := t) (p := p) h r, .cons (b := u) e es => by
    obtain ⟨r1, r2, r3, r4⟩ := prs_ps I r es
    obtain rfl : u = Value.ref t := e
    obtain ⟨its2, rv, ⟨o, e1, e2, n, e3⟩, _⟩ := I.tuple h
    obtain ⟨u1, u2, rfl, ri, rj⟩ := vals2 rv
    obtain ⟨t1, rfl⟩ := ri
    obtain ⟨t2, rfl⟩ := rj
    have me : WnSP.IsPS s.heap (.ref t) p := ⟨t, o, t1, t2, n, rfl, e1, e2, e3⟩
    refine ⟨by rw [List.map_cons, ← r1]; rfl, fun v m => ?_, fun v m => ?_, fun k hk => ?_⟩
    · rcases List.mem_cons.mp m with z | m
      · exact ⟨t, z⟩
      · exact r2 v m
    · rcases List.mem_cons.mp m with z | m
      · rw [z]; exact ⟨p, me⟩
      · exact r3 v m
    · rw [List.map_cons, ← r4 k fun v m => hk v (.tail _ m), ps_inj me (hk _ (.head _))]
theorem zip_maps {α β γ : Type} (f : α → β) (g : α → γ) : ∀ l : List α, (l.map f).zip (l.map g) = l.map fun x => (f x, g x)
  | [] => rfl
  | x :: l => by rw [List.map_cons, List.map_cons, List.map_cons, List.zip_cons_cons, zip_maps f g l]
theorem cr_sortedQ {K : PySem.W.Frag} (eK : X.K = K) : CallR X (.builtin "sorted") (rSortedQ K) := by
  subst eK
  intro pins s σ H vs us Q I r h
  obtain ⟨a, xs, ps, rfl, hs, hp, q⟩ := h
  obtain ⟨u, rfl, ru⟩ := vals1 r
  obtain rfl : u = Value.ref a := ru
  have main : ∀ (T : String) (its : List Value) (o : Obj) (n : Nat), (T = "list" ∨ T = "tuple") → Vals xs its → s.heap.get? a = some o → o.cls = .type T → o.data = .seq its.toArray n → its.length ≤ sizeLine →
      wpAny (model X.prog X.w) X.A (call (.builtin "sorted") [.ref a]) (EP X pins σ Q) X.xe s := fun T its o n hT rv e1 e2 e3 hz => by
    obtain ⟨r1, r2, r3, r4⟩ := prs_ps I hp rv
    classical
    let k : Value → Str × Str := fun u => if h : ∃ p, WnSP.IsPS s.heap u p then h.choose else (Str.empty, Str.empty)
    have hk : ∀ u ∈ its, WnSP.IsPS s.heap u (k u) := fun u m => by
      have h := r3 u m
      show WnSP.IsPS s.heap u (if h : ∃ p, WnSP.IsPS s.heap u p then h.choose else _)
      rw [dif_pos h]
      exact h.choose_spec
    have ek := r4 k hk
    refine WnSP.sortedS (k := k) hT e1 e2 e3 hz hk fun h' d out o1 o2 kp hd hn => ?_
    obtain ⟨n, hn⟩ := hn
    have h3 : ∀ u ∈ out, ∃ a, u = Value.ref a := fun u m => r2 u (o2.mem_iff.mp m)
    have e4 : ((out.map fun u => (backV u, k u)).map Prod.fst) = out.map backV := by rw [List.map_map]; rfl
    have e5 : ((out.map fun u => (backV u, k u)).map Prod.snd) = out.map k := by rw [List.map_map]; rfl
    have q1 := q (out.map fun u => (backV u, k u)) d (by rw [r1, ek, zip_maps]; exact o2.map _) (by rw [e5]; exact List.pairwise_map.mpr o1) (I.hok.fresh hd)
    rw [e4] at q1
    refine ⟨.ref d, upd H d (.lst (out.map backV)), I.laid (t' := s.toks) kp hd ⟨?_, out, n, vals_back h3, hn⟩, rfl, q1⟩
    rw [List.length_map, o2.length_eq]
    exact hz
  rcases hs with hs | hs
  · obtain ⟨its, rv, pl, hz⟩ := I.list hs
    obtain ⟨o, e1, e2, n, e3⟩ := pl.isList
    exact main "list" its o n (.inl rfl) rv e1 e2 e3 (by rw [← rv.length]; exact hz)
  · obtain ⟨its, rv, ⟨o, e1, e2, n, e3⟩, hz⟩ := I.tuple hs
    exact main "tuple" its o n (.inr rfl) rv e1 e2 e3 (by rw [← rv.length]; exact hz)
end
end Wn
/-! Rl: sets of tuples of texts, sorted pairs of texts, walks that give pairs. -/
namespace Rl
open PySem PySem.Spec PyProof.Rows L2 Wn
section
variable {g : G} {W : WX} {t : Fr} {X : Cx} {pos : Pos} {a b c : Expr} {pa pb pc : PEx} {pas pks : PAs} {σ : L2.St} {H H1 : Hp}
/-! ### len(set(tuples of texts)) -/
def tts : List U → Option (List (List Str))
  | [] => some []
  | .tup xs :: us => (txts xs).bind fun z => (tts us).map fun zs => z :: zs
  | _ :: _ => none
theorem tts_of {H : Hp} : ∀ {vs : List V} {us : List U} {xs : List (List Str)}, RUs g H vs us → tts us = some xs → ∃ ks : List (Addr × List Str), vs = ks.map (fun p => V.ref p.1) ∧ ks.map Prod.snd = xs ∧ ∀ p ∈ ks, SqT g.K H p.1 (p.2.map V.str)
  | _, _, _, .nil, e => by cases e; exact ⟨[], rfl, rfl, fun p m => nomatch m⟩
  | _, _, _, .cons (u := .tup zs) (us := us) h k, e => by
    change (txts zs).bind _ = _ at e
    cases e1 : txts zs with
    | none => rw [e1] at e; cases e
    | some z =>
      rw [e1] at e
      obtain ⟨r, e2, rfl⟩ := map_some e
      obtain ⟨ks, h1, h2, h3⟩ := tts_of k e2
      cases h with
      | tup h4 h5 =>
        rename_i p ws
        refine ⟨(p, z) :: ks, by rw [h1]; rfl, by rw [List.map_cons, h2], fun q m => ?_⟩
        rcases List.mem_cons.mp m with y | m
        · rw [y]
          have := txts_of h5 e1
          rw [← this]
          exact h4.sq
        · exact h3 q m
def lenSetTR (a : R) : Option R := (seqR a).bind fun us => (tts us).bind fun xs => if xs.length < 64 then some (.im (.int (WnSet.cnt xs xs.length))) else none
theorem ue_lenSetT {e : Expr} (h : PE X e (tLenSetT g.K (lE g W t pa))) : PE X e (lE g W t (pUn lenSetTR pa)) := by
  refine PE.imp h fun σ H Q h => ?_
  obtain ⟨ρ, sS, h⟩ := h
  refine ⟨ρ, sS, post_mono (fun r hr v H1 A x1 b1 r1 n1 f1 => ?_) (fun e x => x) (post_bind.mp h)⟩
  obtain ⟨c, e1, q⟩ := post_opt hr
  unfold lenSetTR at e1
  cases e2 : seqR r with
  | none => rw [e2] at e1; cases e1
  | some us =>
    rw [e2] at e1
    change (tts us).bind _ = some c at e1
    cases e3 : tts us with
    | none => rw [e3] at e1; cases e1
    | some xs =>
      rw [e3] at e1
      change (if _ then _ else _) = _ at e1
      by_cases hl : xs.length < 64
      · rw [if_pos hl] at e1
        cases e1
        obtain ⟨p, ws, rfl, h2, h3, _⟩ := seqR_of r1 e2
        obtain ⟨ks, rfl, rfl, h6⟩ := tts_of h3 e3
        rw [List.length_map] at hl q
        exact ⟨p, ks, rfl, h2, h6, hl, q _ H1 [] x1 b1 ⟨rfl, .int _⟩ List.nodup_nil fun x m => nomatch m⟩
      · rw [if_neg hl] at e1; cases e1
/-! ### sorted(pairs of texts) -/
def pair2 (p : Str × Str) : U := .tup [.str p.1, .str p.2]
def prsU : List U → Option (List (Str × Str))
  | [] => some []
  | .tup [.str x, .str y] :: us => (prsU us).map fun ps => (x, y) :: ps
  | _ :: _ => none
theorem prsU_of : ∀ {us : List U} {ps : List (Str × Str)}, prsU us = some ps → us = ps.map pair2
  | [], _, e => by cases e; rfl
  | .tup [.str x, .str y] :: us, _, e => by
    obtain ⟨ps, e1, rfl⟩ := map_some (show (prsU us).map _ = _ from e)
    rw [prsU_of e1]
    rfl
theorem prs_of {H : Hp} : ∀ {vs : List V} {ps : List (Str × Str)}, RUs g H vs (ps.map pair2) → Prs g.K H vs ps
  | _, [], .nil => .nil
  | _, p :: ps, .cons h k => by
    cases h with
    | tup h1 h2 =>
      cases h2 with
      | cons a1 h2 =>
        cases h2 with
        | cons a2 h2 =>
          cases h2
          cases a1
          cases a2
          exact .cons h1.sq (prs_of k)
theorem zip_ru {H : Hp} {us : List (Str × Str)} : ∀ {vs : List V}, RUs g H vs (us.map pair2) → ∀ z ∈ vs.zip us, RU g H z.1 (pair2 z.2) := by
  induction us with
  | nil =>
    intro vs h z m
    cases h
    simp at m
  | cons p us ih =>
    intro vs h z m
    cases h with
    | cons h1 h2 =>
      rw [List.zip_cons_cons] at m
      rcases List.mem_cons.mp m with e | m
      · rw [e]; exact h1
      · exact ih h2 z m
theorem zips_ru {H : Hp} : ∀ {zs : List (V × (Str × Str))}, (∀ z ∈ zs, RU g H z.1 (pair2 z.2)) → RUs g H (zs.map Prod.fst) ((zs.map Prod.snd).map pair2)
  | [], _ => .nil
  | z :: zs, h => .cons (h z (.head _)) (zips_ru fun y m => h y (.tail _ m))
def fSortP : List R → Option R
  | [a] => (seqR a).bind fun us => (prsU us).map fun ps => .fr (.ol (((sortP ps).map pair2).map .lf))
  | _ => none
theorem snd_sortP : SndL g (rSortedQ g.K) fSortP := by
  intro H vs as b A Q bx r e q
  match as, e, r with
  | [a], e, r =>
    obtain ⟨v, rfl, rv⟩ := vals_one r
    change (seqR a).bind _ = some b at e
    cases e1 : seqR a with
    | none => rw [e1] at e; cases e
    | some us =>
      rw [e1] at e
      obtain ⟨ps, e2, rfl⟩ := map_some (show (prsU us).map _ = _ from e)
      obtain ⟨p, ws, rfl, h2, h3, _⟩ := seqR_of rv e1
      rw [prsU_of e2] at h3
      refine ⟨p, ws, ps, rfl, h2, prs_of h3, fun zs d pm asc nd => ?_⟩
      have hl : ws.length = ps.length := by rw [h3.len, List.length_map]
      have e3 : (zs.map Prod.snd).Perm ps := by
        have := pm.map Prod.snd
        rw [List.map_snd_zip (by omega)] at this
        exact this
      have e4 : zs.map Prod.snd = sortP ps := asc_uniq asc (sortP_asc _) (e3.trans (sortP_perm ps).symm)
      have h4 : RUs g H (zs.map Prod.fst) ((sortP ps).map pair2) := by
        rw [← e4]
        exact zips_ru fun z m => zip_ru h3 z (pm.mem_iff.mp m)
      exact frQ bx q nd h4
/-! ### walks that give tuples -/
structure Wlk (g : G) (J : It) (H1 : Hp) (us : List (List U)) : Prop where
  go : ∀ i H, Kp g H1 H → i < us.length → J.go i H
  yl : ∀ i H v H', Kp g H1 H → J.yld i H v H' → ∃ xs a vs, us[i]? = some xs ∧ Same H H' ∧ v = .ref a ∧ SqT g.K H' a vs ∧ RUs g H' vs xs
  st : ∀ H, Kp g H1 H → J.stop us.length H
def itW (g : G) (W : WX) (t : Fr) (pi : Env → Res (List (List U))) : TI := fun σ H R => ∃ ρ, S g t ρ σ H ∧ (pi ρ).post (fun us => ∀ J H1, Ext g H H1 → BoxR g H1 → Wlk g J H1 us → R J H1) (Wx g W σ H)
theorem PI.imp {X : Cx} {e i : Expr} {t t' : TI} (h : PI X e i t) (k : ∀ σ H R, t' σ H R → t σ H R) : PI X e i t' := by
  obtain ⟨h⟩ := h
  exact ⟨fun pins s σ H R I q => h pins s σ H R I (k _ _ _ q)⟩
def lGl (g : G) (t : Fr) (ts : List Tg) : TG := fun v σ H Q => ∃ ρ us ρ' a vs, S g t ρ σ H ∧ v = .ref a ∧ SqT g.K H a vs ∧ RUs g H vs us ∧ us.length = ts.length ∧ bindTs ts us ρ = some ρ' ∧ ∀ σ', S g t ρ' σ' H → WpE (Tg.ixs ts) σ σ' → Q σ' H
theorem ug_tpl {n : Nat} {ts : List Tg} (hn : ts.length = n) (h : PG X a (gTup g.K n (lGs g t ts))) : PG X a (lGl g t ts) := PG.imp h fun v σ H Q q => by
  obtain ⟨ρ, us, ρ', p, vs, s, rfl, sq, r, hl, e, q⟩ := q
  exact ⟨p, vs, rfl, sq, by rw [r.len, hl, hn], ρ, us, ρ', s, r, e, q⟩
def bindL (ts : List Tg) (us : List U) (ρ : Env) : Option Env := if us.length = ts.length then bindTs ts us ρ else none
def pForW (pi : Env → Res (List (List U))) (ts : List Tg) (body : PSt) : PSt := fun ρ => (pi ρ).bind fun us => pLoop (bindT (.tp ts)) body (us.map .tup) ρ
theorem us_forW {st : Stmt} {ts : List Tg} {pi : Env → Res (List (List U))} {body : PSt} (h : PS X st (tFor (itW g W t pi) (lGl g t ts) (lS g W t body))) : PS X st (lS g W t (pForW pi ts body)) := by
  refine PS.imp h fun D σ H h => ?_
  obtain ⟨ρ, sS, h⟩ := h
  refine ⟨ρ, sS, post_mono (fun us hr J H1 x1 b1 w => ?_) (fun e x => x.wx sS) (post_bind.mp h)⟩
  refine ⟨fun i m σ' H' => m = us.length - i ∧ i ≤ us.length ∧ ∃ ρ', Kp g H1 H' ∧ S g t ρ' σ' H' ∧ (pLoop (bindT (.tp ts)) body ((us.map .tup).drop i) ρ').post (oS g t D H1) (xS g W t H1), ⟨us.length, by simp, Nat.zero_le _, ρ, Kp.refl H1, sS.mono x1 b1, ?_⟩, ?_⟩
  · exact post_mono (fun o h => oS.back x1.kp h) (fun e h => xS.back x1.kp h) hr
  rintro i m σ' H' ⟨rfl, hi, ρ', k, s, hh⟩
  by_cases lt : i < us.length
  · refine .inr ⟨w.go i H' k lt, fun σ2 H2 => ∃ ρ2, Kp g H1 H2 ∧ S g t ρ2 σ2 H2 ∧ (pLoop (bindT (.tp ts)) body ((us.map .tup).drop (i + 1)) ρ2).post (oS g t D H1) (xS g W t H1), fun σ2 H2 p => ⟨us.length - (i + 1), by omega, rfl, lt, p⟩, fun v H2 y => ?_⟩
    obtain ⟨xs, p, vs, e1, sm, rfl, sq, r⟩ := w.yl i H' v H2 k y
    have hd : (us.map U.tup).drop i = .tup xs :: (us.map U.tup).drop (i + 1) := by
      have hlt : i < (us.map U.tup).length := by rw [List.length_map]; exact lt
      rw [List.drop_eq_getElem_cons hlt, List.getElem_map]
      have := (List.getElem?_eq_some_iff.mp e1).2
      rw [this]
    rw [hd] at hh
    unfold pLoop at hh
    obtain ⟨ρ1, eb, hh⟩ := post_opt (post_bind.mp hh)
    unfold bindT at eb
    by_cases hl : xs.length = ts.length
    · rw [if_pos hl] at eb
      have s2 : S g t ρ' σ' H2 := s.mono (.of sm) (s.bx.same sm)
      have k2 : Kp g H1 H2 := k.trans (kp_same sm)
      refine ⟨ρ', xs, ρ1, p, vs, s2, rfl, sq, r, hl, eb, fun σ3 s3 _ => ⟨ρ1, s3, post_mono (fun o ho => ?_) (fun e x => x.back k2) (post_bind.mp hh)⟩⟩
      cases o with
      | nx ρ2 => exact fun σ4 H4 k4 s4 => ⟨ρ2, k2.trans k4, s4, ho⟩
      | ct ρ2 => exact fun σ4 H4 k4 s4 => ⟨ρ2, k2.trans k4, s4, ho⟩
      | bk ρ2 => exact fun σ4 H4 k4 s4 => ho σ4 H4 (k2.trans k4) s4
      | rt r' ρ2 => exact fun v σ4 H4 A k4 s4 => ho v σ4 H4 A (k2.trans k4) s4
    · rw [if_neg hl] at eb; cases eb
  · have e : i = us.length := by omega
    subst e
    refine .inl ⟨w.st H' k, ?_⟩
    rw [List.drop_eq_nil_of_le (by rw [List.length_map]; exact Nat.le_refl _)] at hh
    exact hh σ' H' k s
def pLCW (ts : List Tg) (cond : PTs') (elt : PEx) (vs : List Nat) (pi : Env → Res (List (List U))) : PEx := fun ρ => (pi ρ).bind fun us => lcEnd (us.map .tup) (mapR (bindT (.tp ts)) cond elt (wipeE ρ vs) (us.map .tup))
theorem lc_turnL {D : Addr} {ts : List Tg} {cond : PTs'} {elt : PEx} {vs : List Nat} {ρ : Env} {us : List U} {Fin : List U → Prop} {i : Nat} {xs : List U} {p : Addr} {ws : List V} {H' : Hp} (hix : ∀ i ∈ Tg.ixs ts, i ∈ vs) (hps : ∀ p ∈ t.ps, p.1 ∉ vs) (hl : us.length ≤ 100000)
    (s : S g t ρ σ H1) (n : H1 D = none) (hu : us[i]? = some (.tup xs)) (sq : SqT g.K H' p ws) (ru : RUs g H' ws xs) (h : LcP g H1 D (mapR (bindT (.tp ts)) cond elt (wipeE ρ vs)) us Fin i H') :
    lGl g t ts (.ref p) (wipe σ vs) H' fun σ2 H2 => wipe σ2 vs = wipe σ vs ∧ lT g W0 t cond σ2 H2 fun b H3 => if b = true then lE g W0 t elt σ2 H3 fun y H4 => ∃ acc, H4 D = some (.lst acc) ∧ acc.length < sizeLine ∧ LcP g H1 D (mapR (bindT (.tp ts)) cond elt (wipeE ρ vs)) us Fin (i + 1) (upd H4 D (.lst (acc ++ [y]))) else LcP g H1 D (mapR (bindT (.tp ts)) cond elt (wipeE ρ vs)) us Fin (i + 1) H3 := by
  obtain ⟨e, b, acc, ys, hD, hr, hy, hm⟩ := h
  have hd : us.drop i = .tup xs :: us.drop (i + 1) := by
    obtain ⟨hlt, e⟩ := List.getElem?_eq_some_iff.mp hu
    rw [← e]
    exact List.drop_eq_getElem_cons hlt
  have hi : i < us.length := (List.getElem?_eq_some_iff.mp hu).1
  rw [hd] at hm
  unfold mapR at hm
  obtain ⟨ρ1, e1, hm⟩ := post_opt (post_bind.mp hm)
  unfold bindT at e1
  by_cases hln : xs.length = ts.length
  · rw [if_pos hln] at e1
    have nbD : Nb g D := s.bx.nb n
    refine ⟨_, xs, ρ1, p, ws, (s.mono e b).wipe hps, rfl, sq, ru, hln, e1, fun σ' s' w' => ⟨?_, ρ1, s', post_mono (fun k hk H3 x3 b3 => ?_) (fun e x => x.elim) (post_bind.mp hm)⟩⟩
    · have z := w' vs hix
      rw [z]
      apply List.ext_getElem?
      intro j
      rw [wipe_at, wipe_at]
      by_cases hj : j ∈ vs
      · rw [if_pos hj, if_pos hj]; cases σ[j]? <;> rfl
      · rw [if_neg hj, if_neg hj]
    · cases k with
      | false => exact ⟨e.trans x3, b3, acc, ys, x3.sm D _ hD fun b' c hb => (nbD b' c hb).1, hr.mono x3.kp, Nat.le_succ_of_le hy, hk⟩
      | true =>
        refine ⟨ρ1, s'.mono x3 b3, post_mono (fun r hr' y H4 A x4 b4 r4 n4 f4 => ?_) (fun e x => x.elim) (post_bind.mp hk)⟩
        obtain ⟨w, ew, hr'⟩ := post_opt (post_bind.mp hr')
        have h4 : H4 D = some (.lst acc) := (x3.trans x4).sm D _ hD fun b' c hb => (nbD b' c hb).1
        have sm : Kp g H4 (upd H4 D (.lst (acc ++ [y]))) := fun p o hp st => by
          refine (upd_ne fun z => ?_).trans hp
          rw [z, h4] at hp
          cases hp
          exact st
        refine ⟨acc, h4, ?_, ?_, fun b' c hb => ?_, acc ++ [y], ys ++ [w], upd_same, ((hr.mono (x3.trans x4).kp).mono sm).append (.cons ((im_of r4 ew).2.mono sm) .nil), ?_, ?_⟩
        · rw [hr.len]
          exact Nat.lt_of_le_of_lt (Nat.le_trans hy (Nat.le_trans (Nat.le_of_lt hi) hl)) (by decide)
        · refine ⟨fun p o hp nb => ?_, fun p o hp st => ?_⟩
          · refine (upd_ne (ne_of_none hp n)).trans ((e.trans (x3.trans x4)).sm p o hp nb)
          · exact sm p o ((e.trans (x3.trans x4)).kp p o hp st) st
        · obtain ⟨nbc, cs, i1, d1, sd1, n1, hb1, hb2, hb3⟩ := b4 b' c hb
          exact ⟨nbc, cs, i1, d1, sd1, n1, (upd_ne (Ne.symm (nbD b' c hb).1)).trans hb1, (upd_ne (Ne.symm (nbD b' c hb).2)).trans hb2, hb3⟩
        · rw [List.length_append]
          exact Nat.succ_le_succ hy
        · refine post_mono (fun zs hz => ?_) (fun e x => x) (post_bind.mp hr')
          rw [List.append_assoc]
          exact hz
  · rw [if_neg hln] at e1; cases e1
theorem llcW {ts : List Tg} {cond : PTs'} {elt : PEx} {vs : List Nat} {pi : Env → Res (List (List U))} (hix : ∀ i ∈ Tg.ixs ts, i ∈ vs) (hps : ∀ p ∈ t.ps, p.1 ∉ vs) {σ : L2.St} {H : Hp} {Q : VK} (h : lE g W t (pLCW ts cond elt vs pi) σ H Q) : tLc (itW g W t pi) (lGl g t ts) (lT g W0 t cond) (lE g W0 t elt) vs σ H Q := by
  obtain ⟨ρ, sS, h⟩ := h
  refine ⟨ρ, sS, post_mono (fun us hr J H1 x1 b1 w => ?_) (fun e x => x) (post_bind.mp h)⟩
  obtain ⟨hl, hr⟩ := lc_fin hr
  intro D nD
  have hl2 : us.length = (us.map U.tup).length := by rw [List.length_map]
  refine ⟨fun i m H => m = us.length - i ∧ i ≤ us.length ∧ LcP g H1 D (mapR (bindT (.tp ts)) cond elt (wipeE ρ vs)) (us.map .tup) _ i H, ⟨us.length, by simp, Nat.zero_le _, lc_start b1 nD hr⟩, ?_⟩
  rintro i m H' ⟨rfl, hi, hp⟩
  by_cases lt : i < us.length
  · refine .inr ⟨w.go i H' hp.1.kp lt, fun H2 => LcP g H1 D (mapR (bindT (.tp ts)) cond elt (wipeE ρ vs)) (us.map .tup) _ (i + 1) H2, fun H2 p => ⟨us.length - (i + 1), by omega, rfl, lt, p⟩, fun v H2 y => ?_⟩
    obtain ⟨xs, p, ws, e1, sm, rfl, sq, r⟩ := w.yl i H' v H2 hp.1.kp y
    have nbD : Nb g D := (sS.mono x1 b1).bx.nb nD
    refine lc_turnL hix hps hl (sS.mono x1 b1) nD (by rw [List.getElem?_map, e1]; rfl) sq r ?_
    obtain ⟨q1, q2, acc, ys, q3, q4, q5, q6⟩ := hp
    exact ⟨q1.trans (.of sm), q2.same sm, acc, ys, sm _ _ q3, q4.mono (kp_same sm), q5, q6⟩
  · have e : i = us.length := by omega
    subst e
    exact .inl ⟨w.st H' hp.1.kp, lc_done (m := mapR (bindT (.tp ts)) cond elt (wipeE ρ vs)) b1 nD rfl hp hl2 fun ys hF v H'' A x2 b2 r2 n2 f2 => hF v H'' A (x1.trans x2) b2 r2 n2 fun y m => x1.back b1 (f2 y m)⟩
theorem ue_lcW {e : Expr} {ts : List Tg} {cond : PTs'} {elt : PEx} {vs : List Nat} {pi : Env → Res (List (List U))} (hix : ∀ i ∈ Tg.ixs ts, i ∈ vs) (hps : ∀ p ∈ t.ps, p.1 ∉ vs) (h : PE X e (tLc (itW g W t pi) (lGl g t ts) (lT g W0 t cond) (lE g W0 t elt) vs)) : PE X e (lE g W t (pLCW ts cond elt vs pi)) := PE.imp h fun _ _ _ h => llcW hix hps h
/-! ### zip of two tuples, or of two lists that stay -/
def zipU : List U → List U → List (List U)
  | x :: xs, y :: ys => [x, y] :: zipU xs ys
  | _, _ => []
theorem zipU_at : ∀ {xs ys : List U} {i : Nat} {x y : U}, xs[i]? = some x → ys[i]? = some y → (zipU xs ys)[i]? = some [x, y]
  | x :: xs, y :: ys, 0, _, _, h1, h2 => by simp at h1 h2; subst h1; subst h2; rfl
  | x :: xs, y :: ys, i + 1, _, _, h1, h2 => by
    show (zipU xs ys)[i]? = _
    exact zipU_at (by simpa using h1) (by simpa using h2)
  | [], _, _, _, _, h1, _ => by simp at h1
  | _ :: _, [], _, _, _, _, h2 => by simp at h2
theorem zipU_len : ∀ xs ys : List U, (zipU xs ys).length = min xs.length ys.length
  | x :: xs, y :: ys => by
    show (zipU xs ys).length + 1 = _
    rw [zipU_len xs ys, List.length_cons, List.length_cons]
    omega
  | [], _ => by simp [zipU]
  | _ :: _, [] => by simp [zipU]
def zipR : List R → Option (List (List U))
  | [.im (.tup xs), .im (.tup ys)] => some (zipU xs ys)
  | [.im (.lst xs), .im (.lst ys)] => some (zipU xs ys)
  | _ => none
def pZip (pas : PAs) : Env → Res (List (List U)) := fun ρ => (pas ρ).bind fun rs => .opt (zipR rs)
theorem ui_zip {e i : Expr} (h : PI X e i (RZ.iZipA g.K (lA g W t pas))) : PI X e i (itW g W t (pZip pas)) := PI.imp h fun σ H R q => by
  obtain ⟨ρ, sS, q⟩ := q
  refine ⟨ρ, sS, post_mono (fun rs hr vs H1 A x1 b1 r1 n1 f1 => ?_) (fun e x => x) (post_bind.mp q)⟩
  obtain ⟨us, e1, q⟩ := post_opt hr
  have at2 : ∀ {H2 : Hp} {xs ys : List V} {us ws : List U} {i : Nat} {x y : V} {T : Addr}, RUs g H2 xs us → RUs g H2 ys ws → xs[i]? = some x → ys[i]? = some y → H2 T = none →
      ∃ zs p vs, (zipU us ws)[i]? = some zs ∧ Same H2 (upd H2 T (.tup [x, y])) ∧ V.ref T = .ref p ∧ SqT g.K (upd H2 T (.tup [x, y])) p vs ∧ RUs g (upd H2 T (.tup [x, y])) vs zs := fun {H2 xs ys us ws i x y T} h1 h2 e1 e2 n => by
    obtain ⟨u, hu, ru⟩ := h1.atV e1
    obtain ⟨w, hw, rw⟩ := h2.atV e2
    have sm := same_new n (o := .tup [x, y])
    exact ⟨[u, w], T, [x, y], zipU_at hu hw, sm, rfl, .inl (.inl upd_same), .cons (ru.mono (kp_same sm)) (.cons (rw.mono (kp_same sm)) .nil)⟩
  match rs, e1, r1 with
  | [.im (.tup xs), .im (.tup ys)], e1, r1 =>
    cases e1
    obtain ⟨v, w, _, _, rfl, ⟨_, h1⟩, ⟨_, h2⟩, _⟩ := vals_two r1
    cases h1 with
    | @tup a1 vs1 _ p1 p2 =>
      cases h2 with
      | @tup a2 vs2 _ p3 p4 =>
        refine ⟨_, _, _, _, rfl, .inr ⟨p1.sq, p3.sq, q _ H1 x1 b1 ⟨fun i H2 k lt => ?_, fun i H2 v H3 k y => ?_, fun H2 k => ?_⟩⟩⟩
        · rw [zipU_len] at lt
          have l1 := p2.len
          have l2 := p4.len
          exact ⟨vs1, vs2, _, _, sqT_mono k p1.sq, sqT_mono k p3.sq, List.getElem?_eq_getElem (by omega), List.getElem?_eq_getElem (by omega)⟩
        · obtain ⟨T, x, y, rfl, n, rfl, z1, z2⟩ := y
          exact at2 (p2.mono k) (p4.mono k) (z1 _ (sqT_mono k p1.sq)) (z2 _ (sqT_mono k p3.sq)) n
        · refine ⟨vs1, vs2, sqT_mono k p1.sq, sqT_mono k p3.sq, ?_⟩
          rw [zipU_len, p2.len, p4.len]
          omega
  | [.im (.lst xs), .im (.lst ys)], e1, r1 =>
    cases e1
    obtain ⟨v, w, _, _, rfl, ⟨_, h1⟩, ⟨_, h2⟩, _⟩ := vals_two r1
    cases h1 with
    | @lst a1 vs1 _ p1 p2 =>
      cases h2 with
      | @lst a2 vs2 _ p3 p4 =>
        refine ⟨_, _, _, _, rfl, .inl ⟨p1.sq, p3.sq, q _ H1 x1 b1 ⟨fun i H2 k lt => ?_, fun i H2 v H3 k y => ?_, fun H2 k => ?_⟩⟩⟩
        · rw [zipU_len] at lt
          have l1 := p2.len
          have l2 := p4.len
          exact ⟨vs1, vs2, _, _, (p1.mono k).sq, (p3.mono k).sq, List.getElem?_eq_getElem (by omega), List.getElem?_eq_getElem (by omega)⟩
        · obtain ⟨T, x, y, rfl, n, rfl, z1, z2⟩ := y
          exact at2 (p2.mono k) (p4.mono k) (z1 _ (p1.mono k).sq) (z2 _ (p3.mono k).sq) n
        · refine ⟨vs1, vs2, (p1.mono k).sq, (p3.mono k).sq, ?_⟩
          rw [zipU_len, p2.len, p4.len]
          omega
end
end Rl
/-! Rl: tuple(reversed(a list)), written dicts read by a text. -/
namespace Wn
open PySem PySem.Spec PyProof.Rows L2
theorem boot_tupT : bootBuiltins "tuple" = some (.type "tuple") := by decide +kernel
section
variable {X : Cx} {a : Expr} {ta : TE} {p p2 q pos : Pos}
def tTupRev (K : PySem.W.Frag) (ta : TE) : TE := fun σ H Q => ta σ H fun x H1 => ∃ (l : Addr) (ys : List V), x = .ref l ∧ SqL K H1 l ys ∧ ∀ p H2, NewT H1 p ys.reverse H2 → Q (.ref p) H2
theorem pe_tupRev {K : PySem.W.Frag} (eK : X.K = K) (hc : X.calm = true) (hg : Gl X "tuple") (hm : X.mg "tuple" = none) (hg2 : Gl X "reversed") (hm2 : X.mg "reversed" = none) (ha : PE X a ta)
    (na : starEach [a] X.env = (false, eval a X.env) :: starEach [] X.env := by rfl) : PE X (.Call (.Name "tuple" p) [.Call (.Name "reversed" p2) [a] [] q] [] pos) (tTupRev K ta) := by
  subst eK
  refine ⟨fun pins s σ H Q I h => ?_⟩
  refine Call_ (ld_blt I hg hm boot_tupT ?_)
  refine PyProof.Rows.callWith_type1 (PyProof.Rows.args_cons ?_ rfl) rfl rfl
  refine Call_ (ld_blt I hg2 hm2 PyProof.Rows.boot_reversed ?_)
  refine PyProof.Rows.callWith_type1
    (PyProof.Rows.args_cons (thn (ha.run pins s σ H _ I h) fun v s1 ⟨x, H1, I1, r1, q1⟩ => PyProof.Rows.args_nil ?_) na) na rfl
  obtain ⟨l, ys, rfl, hq, q1⟩ := q1
  cases r1
  obtain ⟨its, r, pl, hz⟩ := I1.list hq
  have lz : its.toArray.size ≤ sizeLine := by rw [List.size_toArray, ← r.length]; exact hz
  refine call_reversed_list pl.isList ?_
  refine PyProof.Rows.args_nil ?_
  have lt : l < s1.heap.objs.size := pl.lt
  refine RT.call_tuple_rev (s := { s1 with heap := s1.heap.push (revObj l ((its.toArray.size : Int) - 1)) }) (items := its.toArray) (it := s1.heap.objs.size) (l := l) (I1.ok.hd hc) ⟨_, Heap.get?_push_size _ rfl, rfl, rfl⟩ (pl.isList.push _) (Nat.ne_of_lt lt) lz fun h' tk acc keep ac => ?_
  have I2 : Inv X pins σ H1 { s1 with heap := h', toks := tk } := I1.kept fun b o e => keep b o (Nat.ne_of_lt (Heap.lt_size e)) (Heap.get?_push_of_some _ e)
  have ea : acc = its.reverse.toArray := by
    apply Array.ext
    · rw [ac.1, List.size_toArray, List.size_toArray, List.length_reverse]
    · intro i h1 h2
      have z := ac.2 i acc[i] (Array.getElem?_eq_getElem h1)
      rw [List.size_toArray, List.length_reverse] at h2
      rw [List.size_toArray, List.getElem?_toArray] at z
      have z2 := (List.getElem?_eq_some_iff.mp z).2
      simp only [Array.getElem_toList,List.getElem_toArray,List.getElem_reverse, z2]
  rw [ea]
  obtain ⟨H2, nt, I3⟩ := new_tup I2 (xs := ys.reverse) (its := its.reverse) (Vals.reverse r) (by rw [List.length_reverse, r.length]; simpa using lz)
  exact ⟨.ref _, H2, I3, rfl, q1 _ _ nt⟩
end
end Wn
namespace Rl
open PySem PySem.Spec PyProof.Rows L2 Wn
section
variable {g : G} {W : WX} {t : Fr} {X : Cx} {pos : Pos} {a b c : Expr} {pa pb pc : PEx} {pas pks : PAs} {σ : L2.St} {H H1 : Hp}
theorem RUs.rev {H : Hp} : ∀ {vs : List V} {us : List U}, RUs g H vs us → RUs g H vs.reverse us.reverse
  | _, _, .nil => .nil
  | _, _, .cons a b => by rw [List.reverse_cons, List.reverse_cons]; exact b.rev.append (.cons a .nil)
def tupRevR (a : R) : Option R := (lstR a).map fun us => .im (.tup us.reverse)
theorem ue_tupRev {e : Expr} (h : PE X e (tTupRev g.K (lE g W t pa))) : PE X e (lE g W t (pUn tupRevR pa)) := by
  refine PE.imp h fun σ H Q h => ?_
  obtain ⟨ρ, sS, h⟩ := h
  refine ⟨ρ, sS, post_mono (fun r hr v H1 A x1 b1 r1 n1 f1 => ?_) (fun e x => x) (post_bind.mp h)⟩
  obtain ⟨c, e1, q⟩ := post_opt hr
  obtain ⟨us, e2, rfl⟩ := map_some e1
  obtain ⟨l, vs, rfl, h2, h3⟩ := r1.lst e2
  exact ⟨l, vs, rfl, h2, fun p H2 nt => q _ H2 [] (x1.trans (.of nt.same)) (b1.same nt.same) ⟨rfl, .tup nt.pt (h3.rev.mono (kp_same nt.same))⟩ List.nodup_nil fun x m => nomatch m⟩
/-! ### a written dict, read by a text -/
/-- the tuple at q is written and plain -/
def WT (K : PySem.W.Frag) (q : Addr) (vs : List V) : Prop := ∃ (o : Obj) (its : Array Value) (n : Nat), K.lookup q = some o ∧ o.cls = .type "tuple" ∧ o.dict = none ∧ o.data = .seq its n ∧ its.size ≤ sizeLine ∧ Vals vs its.toList
/-- v stands for u in every heap -/
def Ever (g : G) (v : V) (u : U) : Prop := ∀ H, RU g H v u
theorem ever_tup {q : Addr} {vs : List V} {us : List U} (h : WT g.K q vs) (r : ∀ H, RUs g H vs us) : Ever g (.ref q) (.tup us) := fun H => .tup (.inr h) (r H)
def KdOk (g : G) (w : World) (p : Addr) (tb : List (Str × U)) : Prop := ∀ x u, tb.lookup x = some u → ∃ v, KDct g.K w p x v ∧ Ever g v u
theorem kd_nil {w : World} {p : Addr} : KdOk g w p [] := fun x u h => nomatch h
theorem kd_cons {w : World} {p : Addr} {k : Str} {u : U} {v : V} {tb : List (Str × U)} (h : KDct g.K w p k v) (r : Ever g v u) (s : KdOk g w p tb) : KdOk g w p ((k, u) :: tb) := fun x z e => by
  rw [List.lookup_cons] at e
  cases hk : x == k with
  | true =>
    rw [hk] at e
    cases e
    rw [beq_iff_eq.mp hk]
    exact ⟨v, h, r⟩
  | false => rw [hk] at e; exact s x z e
def pKd (tb : List (Str × U)) (pb : PEx) : PEx := fun ρ => (pb ρ).bind fun b => .opt ((sR b).bind fun x => (tb.lookup x).map .im)
theorem ue_kd {p : Addr} {tb : List (Str × U)} {w : World} (eK : X.K = g.K) (ew : X.w = w) (ok : KdOk g w p tb) (ha : PE X a (tC (.ref p))) (hb : PE X b (lE g W t pb)) (hs : PlainIx b) : PE X (.Subscript a b pos) (lE g W t (pKd tb pb)) := by
  refine PE.imp (pe_ix (ix_kdict) ha hb hs) fun σ H Q h => ?_
  obtain ⟨ρ, sS, h⟩ := h
  refine ⟨ρ, sS, post_mono (fun r hr v H1 A x1 b1 r1 n1 f1 => ?_) (fun e x => x) (post_bind.mp h)⟩
  obtain ⟨c, e1, q⟩ := post_opt hr
  cases e2 : sR r with
  | none => rw [e2] at e1; cases e1
  | some x =>
    rw [e2] at e1
    obtain ⟨u, e3, rfl⟩ := map_some (show (tb.lookup x).map _ = _ from e1)
    obtain ⟨v2, k1, k2⟩ := ok x u e3
    refine ⟨p, x, v2, rfl, sR_of r1 e2, ?_, q v2 H1 [] x1 b1 ⟨rfl, k2 H1⟩ List.nodup_nil fun x m => nomatch m⟩
    rw [eK, ew]
    exact k1
end
end Rl
/-! Rl: objects that a name owns: their parts are read and changed. -/
namespace Rl
open PySem PySem.Spec PyProof.Rows L2 Wn
section
variable {g : G} {W : WX} {t : Fr} {X : Cx} {pos : Pos} {a b c e : Expr} {pa pb pc : PEx} {pas : PAs} {σ : L2.St} {H H1 : Hp}
/-- what is read of a tree -/
def readO : O → Option R
  | .lf u => some (.im u)
  | .ol xs => (leafs xs).map .br
  | .oi _ _ => none
theorem readO_of {v : V} {o : O} {A : List Addr} {r : R} (h : RO g H v o A) (nb : ∀ a ∈ A, Nb g a) (e : readO o = some r) : RV g H v r [] := by
  cases h with
  | lf h => cases e; exact ⟨rfl, h⟩
  | ol h1 h2 =>
    obtain ⟨us, e1, rfl⟩ := map_some e
    exact ⟨rfl, _, _, rfl, .inl (.inl h1), (leafs_of h2 e1).2, nb _ (.head _)⟩
  | oi _ _ _ => cases e
/-- one part of many -/
theorem ROs.cut : ∀ {vs : List V} {os : List O} {A : List Addr} {j : Nat} {o : O}, ROs g H vs os A → os[j]? = some o →
    ∃ v A1 B A3, vs[j]? = some v ∧ RO g H v o B ∧ A = A1 ++ (B ++ A3) ∧ ∀ H' v' o' B', Kp g H H' → (∀ x ∈ A1 ++ A3, H' x = H x) → RO g H' v' o' B' → ROs g H' (vs.set j v') (os.set j o') (A1 ++ (B' ++ A3))
  | _, _, _, _, _, .nil, e => by simp at e
  | _, _, _, 0, _, .cons (A := B) (B := A3) r h, e => by
    simp at e; subst e
    exact ⟨_, [], B, A3, rfl, r, rfl, fun H' v' o' B' k s r' => by
      have z := ROs.cons r' (ROs.mono k h fun x m => s x m)
      exact z⟩
  | _, _, _, j + 1, _, .cons (A := B0) r h, e => by
    obtain ⟨v, A1, B, A3, q1, q2, q3, q4⟩ := ROs.cut (j := j) h (by simpa using e)
    refine ⟨v, B0 ++ A1, B, A3, by simpa using q1, q2, by rw [q3, List.append_assoc], fun H' v' o' B' k s r' => ?_⟩
    rw [List.append_assoc]
    exact .cons (RO.mono k r fun x m => s x (List.mem_append_left _ (List.mem_append_left _ m))) (q4 H' v' o' B' k (fun x m => s x (by
      rcases List.mem_append.mp m with z | z
      · exact List.mem_append_left _ (List.mem_append_right _ z)
      · exact List.mem_append_right _ z)) r')
def pAo (i k j : Nat) : PEx := fun (ρ : List Sl) =>
  match (ρ[i]? : Option Sl) with
  | some (.ow (.oi c os)) => if c = k then .opt ((os[j]?).bind readO) else .st
  | _ => .st
theorem oi_at {α : Type} {i k : Nat} {ρ : List Sl} {f : List O → Res α} {P : α → Prop} {E : Er → Prop}
    (h : (match (ρ[i]? : Option Sl) with
      | some (.ow (.oi c os)) => if c = k then f os else (.st : Res α)
      | _ => (.st : Res α)).post P E) : ∃ os, ρ[i]? = some (.ow (.oi k os)) ∧ (f os).post P E := by
  cases e : ρ[i]? with
  | none => rw [e] at h; exact h.elim
  | some sl =>
    rw [e] at h
    cases sl with
    | un => exact h.elim
    | im u => exact h.elim
    | ow o =>
      cases o with
      | lf u => exact h.elim
      | ol os => exact h.elim
      | oi c os =>
        by_cases hk : c = k
        · subst hk
          change (if c = c then f os else .st).post P E at h
          rw [if_pos rfl] at h
          exact ⟨os, rfl, h⟩
        · change (if c = k then f os else .st).post P E at h
          rw [if_neg hk] at h
          exact h.elim
theorem ROs.cnt {vs : List V} {os : List O} {A : List Addr} (h : ROs g H vs os A) : vs.length = os.length := h.len
/-- a field of an object that is owned -/
theorem fld_at {f : Str} {k j : Nat} {fs : List (Str × V)} {os : List O} {A : List Addr} (ok : Own g k) (hf : (g.ct k).ns[j]? = some f) (hn : fs.map Prod.fst = (g.ct k).ns.take fs.length) (h : ROs g H (fs.map Prod.snd) os A) (hj : j < os.length) :
    (fs.map Prod.fst).Nodup ∧ (fs.map Prod.fst)[j]? = some f := by
  have hl : fs.length = os.length := by rw [← h.len, List.length_map]
  refine ⟨?_, ?_⟩
  · rw [hn]; exact (List.take_sublist _ _).nodup ok.nd
  · rw [hn, List.getElem?_take_of_lt (by omega)]; exact hf
theorem ue_ao {f : Str} {i k j : Nat} (ok : Own g k) (hf : (g.ct k).ns[j]? = some f) (h : PE X e (tFld g.K (tVar i) f)) : PE X e (lE g W t (pAo i k j)) := by
  refine PE.imp h fun σ H Q h => ?_
  obtain ⟨ρ, sS, h⟩ := h
  obtain ⟨os, e1, h⟩ := oi_at (f := fun os => Res.opt ((os[j]?).bind readO)) h
  obtain ⟨r, e2, q⟩ := post_opt h
  cases e3 : os[j]? with
  | none => rw [e3] at e2; cases e2
  | some o =>
    rw [e3] at e2
    obtain ⟨A, s1, s2, s3⟩ := sS.sl
    obtain ⟨v, B, g1, g2, g3⟩ := s1.atOw e1
    cases g2 with
    | oi h1 hn h2 =>
      rename_i ad dx fs A2
      obtain ⟨w, A1, Bj, A3, q1, q2, q3, _⟩ := h2.cut e3
      obtain ⟨nd, hfj⟩ := fld_at ok hf hn h2 (List.getElem?_eq_some_iff.mp e3).1
      exact ⟨.ref ad, g1, ad, _, dx, fs, w, rfl, h1, ok.cls, ok.na f (List.mem_of_getElem? hf), lookup_at nd hfj q1, q w H [] (Ext.refl H) sS.bx (readO_of q2 (fun x m => (s3 x (g3 x (.tail _ (by rw [q3]; exact List.mem_append_right _ (List.mem_append_left _ m))))).2) e2) List.nodup_nil fun x m => nomatch m⟩
/-- outside A and the box all stays -/
def Fm (g : G) (A : List Addr) (H H' : Hp) : Prop := ∀ y o, H y = some o → y ∉ A → (∀ b c, g.bad = some (b, c) → y ≠ b) → H' y = some o
/-- what was there is there -/
def Th (H H' : Hp) : Prop := ∀ y o, H y = some o → ∃ o', H' y = some o'
theorem Slots.ext {ρ : List Sl} {A : List Addr} (x1 : Ext g H H1) (h : Slots g H σ ρ A) (nb : ∀ a ∈ A, Nb g a) : Slots g H1 σ ρ A := h.mono x1.kp fun a m => by
  obtain ⟨u, hu⟩ := h.there a m
  rw [hu]
  exact x1.sm a u hu fun b c hb => (nb a m b c hb).1
theorem Slots.fm {ρ : List Sl} {A B : List Addr} (k : Kp g H H1) (f : Fm g B H H1) (h : Slots g H σ ρ A) (nb : ∀ a ∈ A, Nb g a) (d : ∀ a ∈ A, a ∉ B) : Slots g H1 σ ρ A := h.mono k fun a m => by
  obtain ⟨u, hu⟩ := h.there a m
  rw [hu]
  exact f a u hu (d a m) fun b c hb => (nb a m b c hb).1
/-- what a name owns is changed -/
theorem S.putG {ρ : List Sl} {i : Nat} {o0 : O} (sS : S g t ρ σ H) (x1 : Ext g H H1) (b1 : BoxR g H1) (e1 : ρ[i]? = some (.ow o0)) :
    ∃ v B, σ[i]? = some (some v) ∧ RO g H v o0 B ∧ RO g H1 v o0 B ∧ B.Nodup ∧ (∀ x ∈ B, (∃ u, H x = some u) ∧ Nb g x) ∧
      (∀ (H2 : Hp) (o' : O) (B' : List Addr), Fm g B H1 H2 → Kp g H1 H2 → Th H1 H2 → BoxR g H2 → RO g H2 v o' B' → B'.Nodup → (∀ x ∈ B', x ∈ B ∨ (H x = none ∧ Nb g x)) → S g t (ρ.set i (.ow o')) σ H2) ∧
      (∀ (H2 : Hp), Fm g B H1 H2 → Kp g H1 H2 → Th H1 H2 → BoxR g H2 → S g t (ρ.set i .un) σ H2) := by
  obtain ⟨A0, s1, s2, s3⟩ := sS.sl
  obtain ⟨v, B, A', g1, g2, g3, g4, g5, g6, g7⟩ := s1.take s2 e1
  have nbB : ∀ x ∈ B, Nb g x := fun x m => (s3 x (g4 x m)).2
  have nbA : ∀ x ∈ A', Nb g x := fun x m => (s3 x (g6.subset m)).2
  have g5' := g5.ext x1 nbA
  have sm := sS.mono x1 b1
  have fr : ∀ H2, Fm g B H1 H2 → ∀ x o, t.H0 x = some o → x ∉ t.M → H2 x = some o := fun H2 f x u hx m => f x u (sm.fr x u hx m) (fun z => by
    rcases (s3 x (g4 x z)).1 with y | y
    · exact m y
    · rw [y] at hx; cases hx) fun b c hb z => m (z ▸ sS.bm b c hb)
  have th : ∀ H2, Th H1 H2 → ∀ x o, t.H0 x = some o → ∃ o', H2 x = some o' := fun H2 h x o hx => by
    obtain ⟨o', ho⟩ := sm.th x o hx
    exact h x o' ho
  refine ⟨v, B, g1, g2, g2.ext x1 nbB, g3, fun x m => ⟨g2.there x m, nbB x m⟩, fun H2 o' B' f k tt b2 ro nd hB => ?_, fun H2 f k tt b2 => ?_⟩
  · have g5'' : Slots g H2 σ (ρ.set i .un) A' := g5'.fm k f nbA g7
    have dis : ∀ x ∈ A', x ∉ B' := fun x m z => by
      rcases hB x z with z | z
      · exact g7 x m z
      · obtain ⟨u, hu⟩ := g5.there x m
        rw [z.1] at hu
        cases hu
    obtain ⟨A4, g8, g9, g10⟩ := g5''.setOw ro nd i (g6.nodup s2) dis
    rw [set_self g1, List.set_set] at g8
    refine ⟨⟨A4, g8, g9, fun x m => ?_⟩, b2, fr H2 f, sm.kp.trans k, th H2 tt, sm.ps, sm.bm, fun p m => (sm.xd p m).mono k⟩
    rcases g10 x m with z | z
    · exact s3 x (g6.subset z)
    · rcases hB x z with z | z
      · exact s3 x (g4 x z)
      · exact ⟨.inr (sS.out z.1), z.2⟩
  · exact ⟨⟨A', g5'.fm k f nbA g7, g6.nodup s2, fun x m => s3 x (g6.subset m)⟩, b2, fr H2 f, sm.kp.trans k, th H2 tt, sm.ps, sm.bm, fun p m => (sm.xd p m).mono k⟩
theorem fm_upd {B : List Addr} {x : Addr} {u : HO} (m : x ∈ B) : Fm g B H (upd H x u) := fun y o h n _ => (upd_ne fun z => n (by rw [z]; exact m)).trans h
theorem th_upd {x : Addr} {u : HO} : Th H (upd H x u) := fun y o h => by
  by_cases z : y = x
  · exact ⟨u, by rw [z]; exact upd_same⟩
  · exact ⟨o, (upd_ne z).trans h⟩
theorem box_upd {x : Addr} {u : HO} (b1 : BoxR g H) (n : Nb g x) : BoxR g (upd H x u) := fun b c hb => by
  obtain ⟨ne, cs, i1, d1, sd1, n1', q1, q2, q3⟩ := b1 b c hb
  exact ⟨ne, cs, i1, d1, sd1, n1', (upd_ne fun z => (n b c hb).1 z.symm).trans q1, (upd_ne fun z => (n b c hb).2 z.symm).trans q2, q3⟩
/-- a list of values in a field of what a name owns -/
theorem S.putF {ρ : List Sl} {i k j : Nat} {os xs : List O} {us : List U} (ok : Own g k) (sS : S g t ρ σ H) (x1 : Ext g H H1) (b1 : BoxR g H1) (e1 : ρ[i]? = some (.ow (.oi k os))) (e2 : os[j]? = some (.ol xs)) (e3 : leafs xs = some us) :
    ∃ a dx fs p vs, σ[i]? = some (some (.ref a)) ∧ H a = some (.ins (g.ct k).C dx fs) ∧ (∀ f, (g.ct k).ns[j]? = some f → fs.lookup f = some (.ref p)) ∧ H p = some (.lst vs) ∧ H1 p = some (.lst vs) ∧ RUs g H vs us ∧
      ∀ ws us', RUs g H1 ws us' → Kp g H1 (upd H1 p (.lst ws)) ∧ S g t (ρ.set i (.ow (.oi k (os.set j (.ol (us'.map .lf)))))) σ (upd H1 p (.lst ws)) := by
  obtain ⟨v, B, g1, g2, g2', g3, g4, g5, -⟩ := sS.putG x1 b1 e1
  cases g2 with
  | oi h1 hn h2 =>
    rename_i ad dx fs A2
    obtain ⟨w, A1, Bj, A3, q1, q2, q3, -⟩ := h2.cut e2
    cases q2 with
    | ol y1 y2 =>
      rename_i p vs A5
      obtain ⟨rfl, y3⟩ := leafs_of y2 e3
      have pB : p ∈ ad :: A2 := .tail _ (by rw [q3]; exact List.mem_append_right _ (.head _))
      have aB : ad ∈ ad :: A2 := .head _
      have sm : ∀ x u, x ∈ ad :: A2 → H x = some u → H1 x = some u := fun x u m hx => x1.sm x u hx fun b c hb => ((g4 x m).2 b c hb).1
      refine ⟨ad, dx, fs, p, vs, g1, h1, fun f hf => ?_, y1, sm p _ pB y1, y3, fun ws us' r' => ?_⟩
      · obtain ⟨nd, hfj⟩ := fld_at ok hf hn h2 (List.getElem?_eq_some_iff.mp e2).1
        exact lookup_at nd hfj q1
      · have hp1 := sm p _ pB y1
        have kp : Kp g H1 (upd H1 p (.lst ws)) := kp_of hp1 fun z => z
        obtain ⟨nd1, nd2⟩ := List.nodup_cons.mp g3
        have ne : ad ≠ p := fun z => by rw [z, y1] at h1; cases h1
        have h2' : ROs g H1 (fs.map Prod.snd) os A2 := ROs.mono x1.kp h2 fun x m => by
          obtain ⟨u, hu⟩ := h2.there x m
          rw [hu]
          exact sm x u (.tail _ m) hu
        obtain ⟨w', A1', Bj', A3', z1, z2, z3, z4⟩ := h2'.cut e2
        have ew : w' = .ref p := by rw [q1] at z1; cases z1; rfl
        subst ew
        cases z2 with
        | ol y1' y2' =>
          rename_i vs' A5'
          obtain ⟨rfl, _⟩ := leafs_of y2' e3
          have nd2' := nd2
          rw [z3] at nd2'
          have pn : ∀ x ∈ A1' ++ A3', x ≠ p := fun x m z => by
            obtain ⟨m1, m2, m3⟩ := List.nodup_append.mp nd2'
            rcases List.mem_append.mp m with q | q
            · exact m3 x q p (.head _) z
            · exact (List.nodup_cons.mp m2).1 (z ▸ q)
          have ros := z4 (upd H1 p (.lst ws)) (.ref p) (.ol (us'.map .lf)) [p] kp (fun x m => upd_ne (pn x m)) (.ol upd_same (to_leafs (RUs.mono kp r')))
          have hset : (fs.map Prod.snd).set j (.ref p) = fs.map Prod.snd := by
            apply List.ext_getElem?
            intro j'
            by_cases hj : j = j'
            · subst hj
              rw [List.getElem?_set_self', z1]; rfl
            · rw [List.getElem?_set_ne hj]
          rw [hset] at ros
          refine ⟨kp, g5 _ _ _ (fm_upd pB) kp th_upd (box_upd b1 (g4 p pB).2) (.oi ((upd_ne ne).trans (sm ad _ aB h1)) hn ros) ?_ fun x m => .inl ?_⟩
          · rw [z3] at g3; exact g3
          · rw [z3]; exact m
end
end Rl
/-! Rl: objects that a name owns: statements. -/
namespace Rl
open PySem PySem.Spec PyProof.Rows L2 Wn
section
variable {g : G} {W : WX} {t : Fr} {X : Cx} {pos : Pos} {a b c e : Expr} {pa pb pc : PEx} {pas : PAs} {σ : L2.St} {H H1 : Hp}
def olU (os : List O) (j : Nat) : Option (List U) :=
  match os[j]? with
  | some (.ol xs) => leafs xs
  | _ => none
theorem olU_of {os : List O} {j : Nat} {us : List U} (e : olU os j = some us) : ∃ xs, os[j]? = some (.ol xs) ∧ leafs xs = some us := by
  unfold olU at e
  cases h : os[j]? with
  | none => rw [h] at e; cases e
  | some o =>
    rw [h] at e
    cases o with
    | lf u => cases e
    | ol xs => exact ⟨xs, rfl, e⟩
    | oi c xs => cases e
/-- a list in a field of what a name owns, changed by what the arguments are -/
def pLsF (i k j : Nat) (f : List U → List R → Option (List U)) (pas : PAs) : PSt := fun (ρ : List Sl) =>
  match (ρ[i]? : Option Sl) with
  | some (.ow (.oi c os)) => if c = k then (Res.opt (olU os j)).bind fun us => (pas ρ).bind fun rs => (Res.opt (f us rs)).bind fun us' => .ok (.nx (ρ.set i (.ow (.oi k (os.set j (.ol (us'.map .lf))))))) else .st
  | _ => .st
theorem pLsF_at {i k j : Nat} {f : List U → List R → Option (List U)} {ρ : List Sl} {P : Out → Prop} {E : Er → Prop} (h : (pLsF i k j f pas ρ).post P E) :
    ∃ os xs us, ρ[i]? = some (.ow (.oi k os)) ∧ os[j]? = some (.ol xs) ∧ leafs xs = some us ∧ (pas ρ).post (fun rs => ((Res.opt (f us rs)).bind fun us' => Res.ok (Out.nx (ρ.set i (.ow (.oi k (os.set j (.ol (us'.map .lf)))))))).post P E) E := by
  obtain ⟨os, e1, h⟩ := oi_at (f := fun os => (Res.opt (olU os j)).bind fun us => (pas ρ).bind fun rs => (Res.opt (f us rs)).bind fun us' => Res.ok (Out.nx (ρ.set i (.ow (.oi k (os.set j (.ol (us'.map .lf)))))))) h
  obtain ⟨us, e2, h⟩ := post_opt (post_bind.mp h)
  obtain ⟨xs, e3, e4⟩ := olU_of e2
  exact ⟨os, xs, us, e1, e3, e4, post_bind.mp h⟩
/-- x.f.append(e) -/
def fAppU (us : List U) : List R → Option (List U)
  | [r] => if us.length ≤ 100000 then (imR r).map fun u => us ++ [u] else none
  | _ => none
theorem us_appF {st : Stmt} {f : Str} {i k j : Nat} (ok : Own g k) (hf : (g.ct k).ns[j]? = some f) (h : PS X st (tDrop (tBM g.K "list" rAppend (tFld g.K (tVar i) f) (lA g W t pas)))) : PS X st (lS g W t (pLsF i k j fAppU pas)) := by
  refine PS.imp h fun D σ H h => ?_
  obtain ⟨ρ, sS, h⟩ := h
  obtain ⟨os, xs, us, e1, e2, e3, h⟩ := pLsF_at h
  obtain ⟨ad, dx, fs, p, vs, q1, q2, q3, q4, _, _, _⟩ := sS.putF ok (Ext.refl H) sS.bx e1 e2 e3
  refine ⟨.ref ad, q1, ad, _, dx, fs, .ref p, rfl, q2, ok.cls, ok.na f (List.mem_of_getElem? hf), q3 f hf, .inl ⟨rfl, vs, .inl (.inl q4)⟩, ρ, sS, post_mono (fun rs hr vs2 H1 A x1 b1 r1 n1 f1 => ?_) (fun e x => x.wx sS) h⟩
  obtain ⟨us', eo, q⟩ := post_opt (post_bind.mp hr)
  match rs, eo, r1 with
  | [r], eo, r1 =>
    change (if _ then _ else _) = _ at eo
    by_cases hl : us.length ≤ 100000
    · rw [if_pos hl] at eo
      obtain ⟨u, e4, rfl⟩ := map_some eo
      obtain ⟨v, rfl, rv⟩ := vals_one r1
      have ru := (im_of rv e4).2
      obtain ⟨ad', dx', fs', p', vs', z1, z2, z3, z4, z5, z6, z7⟩ := sS.putF ok x1 b1 e1 e2 e3
      have ea : ad' = ad := by rw [q1] at z1; cases z1; rfl
      subst ea
      have ef : fs' = fs := by rw [q2] at z2; cases z2; rfl
      subst ef
      have ep : p' = p := by have z := (q3 f hf).symm.trans (z3 f hf); cases z; rfl
      subst ep
      obtain ⟨kp, s⟩ := z7 (vs' ++ [v]) (us ++ [u]) ((z6.mono x1.kp).append (.cons ru .nil))
      exact ⟨p', vs', v, rfl, rfl, z5, by rw [z6.len]; exact Nat.lt_of_le_of_lt hl (by decide), q σ _ (x1.kp.trans kp) s⟩
    · rw [if_neg hl] at eo; cases eo
/-- x.f[k] = e -/
def fSetU (us : List U) : List R → Option (List U)
  | [r, k] => (imR r).bind fun u => (iR k).bind fun i => (ixN us.length i).map fun j => us.set j u
  | _ => none
theorem RUs.setAt {v : V} {u : U} (r : RU g H v u) : ∀ {vs : List V} {us : List U} (j : Nat), RUs g H vs us → RUs g H (vs.set j v) (us.set j u)
  | _, _, _, .nil => .nil
  | _, _, 0, .cons _ h => .cons r h
  | _, _, j + 1, .cons a h => .cons a (h.setAt r j)
theorem RUs.dropAt : ∀ {vs : List V} {us : List U} (j : Nat), RUs g H vs us → RUs g H (vs.eraseIdx j) (us.eraseIdx j)
  | _, _, _, .nil => .nil
  | _, _, 0, .cons _ h => h
  | _, _, j + 1, .cons a h => .cons a (h.dropAt j)
def pSetU (i k j : Nat) (p pk : PEx) : PSt := pLsF i k j fSetU (pCons p (pCons pk pNil))
theorem us_setU {st : Stmt} {f : Str} {i k j : Nat} {p pk : PEx} (ok : Own g k) (hf : (g.ct k).ns[j]? = some f) (h : PS X st (tAsg (lE g W t p) (gSub (tFld g.K (tVar i) f) (lE g W t pk) rSetL))) : PS X st (lS g W t (pSetU i k j p pk)) := by
  refine PS.imp h fun D σ H h => ?_
  obtain ⟨ρ, sS, h⟩ := h
  obtain ⟨os, xs, us, e1, e2, e3, h⟩ := pLsF_at h
  refine ⟨ρ, sS, post_mono (fun r hr v H1 A x1 b1 r1 n1 f1 => ?_) (fun e x => x.wx sS) (post_bind.mp h)⟩
  have hr : ((pk ρ).bind fun x => (pNil ρ).bind fun xs => Res.ok (x :: xs)).post _ _ := post_bind.mp hr
  have sS1 := sS.mono x1 b1
  obtain ⟨ad, dx, fs, p0, vs, q1, q2, q3, q4, _, _, _⟩ := sS1.putF ok (Ext.refl H1) b1 e1 e2 e3
  refine ⟨.ref ad, q1, ad, _, dx, fs, .ref p0, rfl, q2, ok.cls, ok.na f (List.mem_of_getElem? hf), q3 f hf, ρ, sS1, post_mono (fun k' hk w H2 B x2 b2 r2 n2 f2 => ?_) (fun e x => (x.wx sS).back x1) (post_bind.mp hr)⟩
  have hk : ((Res.opt (fSetU us [r, k'])).bind fun us' => Res.ok (Out.nx (ρ.set i (.ow (.oi k (os.set j (.ol (us'.map .lf)))))))).post (oS g t D H) (xS g W t H) := hk
  obtain ⟨us', eo, q⟩ := post_opt (post_bind.mp hk)
  change (imR r).bind _ = some us' at eo
  cases e5 : imR r with
  | none => rw [e5] at eo; cases eo
  | some u =>
    cases e4 : iR k' with
    | none => rw [e5, e4] at eo; cases eo
    | some z =>
      rw [e5, e4] at eo
      obtain ⟨j', e6, rfl⟩ := map_some (show (ixN us.length z).map _ = some us' from eo)
      obtain ⟨ad', dx', fs', p', vs', z1, z2, z3, z4, z5, z6, z7⟩ := sS1.putF ok x2 b2 e1 e2 e3
      have ea : ad' = ad := by rw [q1] at z1; cases z1; rfl
      subst ea
      have ef : fs' = fs := by rw [q2] at z2; cases z2; rfl
      subst ef
      have ep : p' = p0 := by have z := (q3 f hf).symm.trans (z3 f hf); cases z; rfl
      subst ep
      have ru := (im_of r1 e5).2.mono x2.kp
      obtain ⟨kp, s⟩ := z7 (vs'.set j' v) (us.set j' u) ((z6.mono x2.kp).setAt ru j')
      exact ⟨p', vs', z, j', rfl, iR_of r2 e4, z5, by rw [z6.len]; exact e6, q σ _ ((x1.trans x2).kp.trans kp) s⟩
/-- a, b = x.f.pop(e) -/
def pPopT (tg : Tg) (i k j : Nat) (pas : PAs) : PSt := fun (ρ : List Sl) =>
  match (ρ[i]? : Option Sl) with
  | some (.ow (.oi c os)) => if c = k then (Res.opt (olU os j)).bind fun us => (pas ρ).bind fun rs => (Res.opt (match rs with | [r] => (iR r).bind fun z => if 0 ≤ z ∧ z < us.length ∧ us.length ≤ 100000 then (us[z.toNat]?).bind fun u => bindT tg u (ρ.set i (.ow (.oi k (os.set j (.ol ((us.eraseIdx z.toNat).map .lf)))))) else none | _ => none)).bind fun ρ' => .ok (.nx ρ') else .st
  | _ => .st
theorem us_popT {st : Stmt} {f : Str} {i k j : Nat} {tg : Tg} (ok : Own g k) (hf : (g.ct k).ns[j]? = some f) (h : PS X st (tAsg (tBM g.K "list" rPopAt (tFld g.K (tVar i) f) (lA g W t pas)) (lG g t tg))) : PS X st (lS g W t (pPopT tg i k j pas)) := by
  refine PS.imp h fun D σ H h => ?_
  obtain ⟨ρ, sS, h⟩ := h
  obtain ⟨os, e1, h⟩ := oi_at (f := fun os => (Res.opt (olU os j)).bind fun us => (pas ρ).bind fun rs => (Res.opt (match rs with | [r] => (iR r).bind fun z => if 0 ≤ z ∧ z < us.length ∧ us.length ≤ 100000 then (us[z.toNat]?).bind fun u => bindT tg u (ρ.set i (.ow (.oi k (os.set j (.ol ((us.eraseIdx z.toNat).map .lf)))))) else none | _ => none)).bind fun ρ' => Res.ok (Out.nx ρ')) h
  obtain ⟨us, e2, h⟩ := post_opt (post_bind.mp h)
  obtain ⟨xs, e3, e4⟩ := olU_of e2
  obtain ⟨ad, dx, fs, p, vs, q1, q2, q3, q4, _, _, _⟩ := sS.putF ok (Ext.refl H) sS.bx e1 e3 e4
  refine ⟨.ref ad, q1, ad, _, dx, fs, .ref p, rfl, q2, ok.cls, ok.na f (List.mem_of_getElem? hf), q3 f hf, .inl ⟨rfl, vs, .inl (.inl q4)⟩, ρ, sS, post_mono (fun rs hr vs2 H1 A x1 b1 r1 n1 f1 => ?_) (fun e x => x.wx sS) (post_bind.mp h)⟩
  obtain ⟨ρ', eo, q⟩ := post_opt (post_bind.mp hr)
  match rs, eo, r1 with
  | [r], eo, r1 =>
    change (iR r).bind _ = some ρ' at eo
    cases e5 : iR r with
    | none => rw [e5] at eo; cases eo
    | some z =>
      rw [e5] at eo
      change (if _ then _ else _) = _ at eo
      by_cases hz : 0 ≤ z ∧ z < us.length ∧ us.length ≤ 100000
      · rw [if_pos hz] at eo
        obtain ⟨h1, h2, h3⟩ := hz
        cases e6 : us[z.toNat]? with
        | none => rw [e6] at eo; cases eo
        | some u =>
          rw [e6] at eo
          change bindT tg u _ = some ρ' at eo
          obtain ⟨v, rfl, rv⟩ := vals_one r1
          obtain ⟨ad', dx', fs', p', vs', z1, z2, z3, z4, z5, z6, z7⟩ := sS.putF ok x1 b1 e1 e3 e4
          have ea : ad' = ad := by rw [q1] at z1; cases z1; rfl
          subst ea
          have ef : fs' = fs := by rw [q2] at z2; cases z2; rfl
          subst ef
          have ep : p' = p := by have z := (q3 f hf).symm.trans (z3 f hf); cases z; rfl
          subst ep
          obtain ⟨y, ey, ry⟩ := (z6.mono x1.kp).at e6
          obtain ⟨kp, s⟩ := z7 (vs'.eraseIdx z.toNat) (us.eraseIdx z.toNat) ((z6.mono x1.kp).dropAt _)
          refine ⟨p', vs', z, z.toNat, y, rfl, by rw [iR_of rv e5], z5, by omega, by omega, PySem.StrLaws.seqIndex_nonneg h1 (by rw [z6.len]; exact h2), ey, ρ.set i (.ow (.oi k (os.set j (.ol ((us.eraseIdx z.toNat).map .lf))))), u, ρ', s, ry.mono kp, eo, fun σ' s' _ => q σ' _ (x1.kp.trans kp) s'⟩
      · rw [if_neg hz] at eo; cases eo
/-- x.f = e, a field that is there -/
def setO (i k j : Nat) (r : R) (ρ : Env) : Option Env :=
  match ρ[i]? with
  | some (.ow (.oi c os)) => if c = k ∧ j < os.length then (ownR r).map fun o => ρ.set i (.ow (.oi k (os.set j o))) else none
  | _ => none
def pSetF (i k j : Nat) (p : PEx) : PSt := fun ρ => (p ρ).bind fun r => (Res.opt (setO i k j r ρ)).bind fun ρ' => .ok (.nx ρ')
theorem putF_at {f : Str} {v : V} : ∀ {fs : List (Str × V)} {j : Nat}, (fs.map Prod.fst).Nodup → (fs.map Prod.fst)[j]? = some f → (putF f v fs).map Prod.fst = fs.map Prod.fst ∧ (putF f v fs).map Prod.snd = (fs.map Prod.snd).set j v
  | [], _, _, h => by simp at h
  | (n, x) :: fs, 0, nd, h => by
    simp at h; subst h
    rw [show putF n v ((n, x) :: fs) = (if n = n then (n, v) :: fs else (n, x) :: putF n v fs) from rfl, if_pos rfl]
    exact ⟨rfl, rfl⟩
  | (n, x) :: fs, j + 1, nd, h => by
    rw [List.map_cons, List.nodup_cons] at nd
    have h3 : (fs.map Prod.fst)[j]? = some f := by simpa using h
    have ne : n ≠ f := fun e => nd.1 (by show n ∈ _; rw [e]; exact List.mem_of_getElem? h3)
    rw [show putF f v ((n, x) :: fs) = (if n = f then (n, v) :: fs else (n, x) :: putF f v fs) from rfl, if_neg ne]
    obtain ⟨h4, h5⟩ := putF_at (v := v) nd.2 h3
    exact ⟨by rw [List.map_cons, h4]; rfl, by rw [List.map_cons, h5]; rfl⟩
theorem us_setF {st : Stmt} {f : Str} {i k j : Nat} (ok : Own g k) (mu : ∀ c' ∈ g.im, (g.ct c').ns.length ≠ (g.ct k).ns.length) (hf : (g.ct k).ns[j]? = some f) (h : PS X st (sFld g.K (tVar i) (lE g W t pa) f)) : PS X st (lS g W t (pSetF i k j pa)) := by
  refine PS.imp h fun D σ H h => ?_
  obtain ⟨ρ, sS, h⟩ := h
  refine ⟨ρ, sS, post_mono (fun r hr v H1 A x1 b1 r1 n1 f1 => ?_) (fun e x => x.wx sS) (post_bind.mp h)⟩
  obtain ⟨ρ', e, q⟩ := post_opt (post_bind.mp hr)
  unfold setO at e
  cases e1 : ρ[i]? with
  | none => rw [e1] at e; cases e
  | some sl =>
    rw [e1] at e
    cases sl with
    | un => cases e
    | im u => cases e
    | ow o0 =>
     cases o0 with
     | lf u => cases e
     | ol os => cases e
     | oi c' os =>
      change (if _ then _ else _) = _ at e
      by_cases hk : c' = k ∧ j < os.length
      · rw [if_pos hk] at e
        obtain ⟨rfl, hj⟩ := hk
        obtain ⟨o, e2, rfl⟩ := map_some e
        obtain ⟨ro, nb⟩ := own_of r1 e2
        obtain ⟨w, B, g1, g2, g2', g3, g4, g5, -⟩ := sS.putG x1 b1 e1
        cases g2' with
        | oi h1 hn h2 =>
          rename_i ad dx fs A2
          obtain ⟨o0, eo⟩ : ∃ o0, os[j]? = some o0 := ⟨_, List.getElem?_eq_getElem hj⟩
          obtain ⟨w', A1, B0, A3, y1, y2, y3, y4⟩ := h2.cut eo
          obtain ⟨nd, hfj⟩ := fld_at ok hf hn h2 hj
          obtain ⟨p1, p2⟩ := putF_at (v := v) nd hfj
          have hL : (putF f v fs).length = fs.length := by rw [← List.length_map (f := Prod.fst), p1, List.length_map]
          have aB : ad ∈ ad :: A2 := .head _
          have nst : ¬ Stay g (.ins (g.ct c').C dx fs) := fun ⟨c2, hm, hC, _⟩ => mu c2 hm (ok.st c2 hm hC)
          have kp : Kp g H1 (upd H1 ad (.ins (g.ct c').C dx (putF f v fs))) := kp_of h1 nst
          obtain ⟨n3, n4⟩ := List.nodup_cons.mp g3
          rw [y3] at n3 n4 g3 g4 g5
          obtain ⟨m1, m2, m3⟩ := List.nodup_append.mp n4
          obtain ⟨m4, m5, m6⟩ := List.nodup_append.mp m2
          have fresh : ∀ x ∈ ad :: (A1 ++ (B0 ++ A3)), x ∉ A := fun x m z => by
            obtain ⟨⟨u, hu⟩, _⟩ := g4 x m
            rw [f1 x z] at hu
            cases hu
          have adA : ad ∉ A := fresh ad (.head _)
          have ros := y4 (upd H1 ad (.ins (g.ct c').C dx (putF f v fs))) v o A kp (fun x m => upd_ne fun z => n3 (by
            rw [← z]
            rcases List.mem_append.mp m with q | q
            · exact List.mem_append_left _ q
            · exact List.mem_append_right _ (List.mem_append_right _ q))) (ro.mono kp fun x m => upd_ne fun z => adA (z ▸ m))
          rw [← p2] at ros
          have s := g5 _ (.oi c' (os.set j o)) (ad :: (A1 ++ (A ++ A3))) (fm_upd (.head _)) kp th_upd (box_upd b1 (g4 ad (.head _)).2) (.oi upd_same (by rw [p1, hL]; exact hn) ros) (List.nodup_cons.mpr ⟨fun m => by
            rcases List.mem_append.mp m with q | q
            · exact n3 (List.mem_append_left _ q)
            · rcases List.mem_append.mp q with q | q
              · exact adA q
              · exact n3 (List.mem_append_right _ (List.mem_append_right _ q)), List.nodup_append.mpr ⟨m1, List.nodup_append.mpr ⟨n1, m5, fun x hx y hy z => fresh y (.tail _ (List.mem_append_right _ (List.mem_append_right _ hy))) (z ▸ hx)⟩, fun x hx y hy z => by
              rcases List.mem_append.mp hy with q | q
              · exact fresh x (.tail _ (List.mem_append_left _ hx)) (z ▸ q)
              · exact m3 x hx y (List.mem_append_right _ q) z⟩⟩) fun x m => by
            rcases List.mem_cons.mp m with q | q
            · exact .inl (q ▸ .head _)
            · rcases List.mem_append.mp q with q | q
              · exact .inl (.tail _ (List.mem_append_left _ q))
              · rcases List.mem_append.mp q with q | q
                · exact .inr ⟨f1 x q, nb x q⟩
                · exact .inl (.tail _ (List.mem_append_right _ (List.mem_append_right _ q)))
          have hlt : fs.length < 1000 := by
            have z1 : fs.length ≤ (g.ct c').ns.length := by
              have z := congrArg List.length hn
              rw [List.length_map, List.length_take] at z
              omega
            exact Nat.lt_of_le_of_lt z1 ok.sh
          exact ⟨.ref ad, g1, ad, _, dx, fs, rfl, h1, ok.cls, ok.na f (List.mem_of_getElem? hf), hlt, q σ _ (x1.kp.trans kp) s⟩
      · rw [if_neg hk] at e; cases e
end
end Rl
/-! Rl: defs that change, or look at, the object of their first argument. -/
namespace Rl
open PySem PySem.Spec PyProof.Rows L2 Wn
/-- what a def promises that changes the object of its first argument -/
def spM (g : G) (c n : Nat) (fn : List O → List U → Res (List O × U)) : Sp := fun vs H Q E => ∃ x vs' us os A, vs = .ref x :: vs' ∧ RUs g H vs' us ∧ us.length + 1 = n ∧ BoxR g H ∧ RO g H (.ref x) (.oi c os) A ∧ A.Nodup ∧ (∀ y ∈ A, Nb g y) ∧
  (fn os us).post (fun p => ∀ v H' B, Fm g A H H' → Kp g H H' → Th H H' → BoxR g H' → RO g H' (.ref x) (.oi c p.1) B → B.Nodup → (∀ y ∈ B, y ∈ A ∨ (H y = none ∧ Nb g y)) → RU g H' v p.2 → Q v H') (fun e => ∀ dd H', Fm g A H H' → Kp g H H' → Th H H' → BoxR g H' → Xd g H' dd e → E (.ref (g.xt e.c).C) dd H')
/-- one that only looks at it -/
def spB (g : G) (c n : Nat) (fn : List O → List U → Res R) : Sp := fun vs H Q E => ∃ x vs' us os A, vs = .ref x :: vs' ∧ RUs g H vs' us ∧ us.length + 1 = n ∧ BoxR g H ∧ RO g H (.ref x) (.oi c os) A ∧ A.Nodup ∧ (∀ y ∈ A, Nb g y) ∧
  (fn os us).post (fun r => ∀ v H' B, Ext g H H' → BoxR g H' → RV g H' v r B → B.Nodup → (∀ y ∈ B, H y = none) → Q v H') (fun e => ∀ dd H', Ext g H H' → BoxR g H' → Xd g H' dd e → E (.ref (g.xt e.c).C) dd H')
def selfM (c : Nat) (u : U) (ρ : List Sl) : Res (List O × U) :=
  match (ρ[0]? : Option Sl) with
  | some (.ow (.oi c' os)) => if c' = c then .ok (os, u) else .st
  | _ => .st
def endM (c : Nat) (o : Out) : Res (List O × U) :=
  match o with
  | .nx ρ => selfM c .non ρ
  | .rt r ρ => (Res.opt (imR r)).bind fun u => selfM c u ρ
  | _ => .st
def runM (c : Nat) (body : PSt) (m : Nat) (os : List O) (us : List U) : Res (List O × U) := (body (.ow (.oi c os) :: (us.map .im ++ List.replicate m .un))).bind (endM c)
def runB (c : Nat) (p : PEx) (m : Nat) (os : List O) (us : List U) : Res R := p (.ow (.oi c os) :: (us.map .im ++ List.replicate m .un))
section
variable {P : Program} {w : World} {mg : Str → Option Value} {base : Heap} {g : G}
theorem S.startM {H : Hp} {vs : List V} {us : List U} {N : List Str} {m c : Nat} {x : Addr} {os : List O} {A : List Addr} (r : RUs g H vs us) (b : BoxR g H) (ro : RO g H (.ref x) (.oi c os) A) (nd : A.Nodup) (nb : ∀ y ∈ A, Nb g y) (hm : N.length - (vs.length + 1) = m) :
    S g ⟨H, A ++ boxM g, [(0, .ref x)], []⟩ (.ow (.oi c os) :: (us.map .im ++ List.replicate m .un)) (L2.start N (.ref x :: vs)) H where
  sl := ⟨A ++ [], by
    unfold L2.start
    rw [List.length_cons, hm]
    exact .ow ro (slots_args r), by rw [List.append_nil]; exact nd, fun a m => by rw [List.append_nil] at m; exact ⟨.inl (List.mem_append_left _ m), nb a m⟩⟩
  bx := b
  fr := fun _ _ h _ => h
  kp := Kp.refl H
  th := fun _ o h => ⟨o, h⟩
  ps := fun p m => by rw [List.mem_singleton.mp m]; rfl
  bm := fun b c h => List.mem_append_right _ (by unfold boxM; rw [h]; exact .head _)
  xd := fun p m => nomatch m
theorem S.fm {H H' : Hp} {ρ : Env} {σ : L2.St} {A : List Addr} {ps : List (Nat × V)} (s : S g ⟨H, A ++ boxM g, ps, []⟩ ρ σ H') : Fm g A H H' := fun y o h ne nb => s.fr y o h fun m => by
  rcases List.mem_append.mp m with m | m
  · exact ne m
  · unfold boxM at m
    cases hb : g.bad with
    | none => rw [hb] at m; cases m
    | some p =>
      rw [hb] at m
      obtain ⟨b, c⟩ := p
      exact nb b c hb (List.mem_singleton.mp m)
theorem m_end {H : Hp} {vs : List V} {us : List U} {c m n : Nat} {x : Addr} {os : List O} {A : List Addr} {body : PSt} {Q : VK} {E : XK} {N : List Str} (r : RUs g H vs us) (b : BoxR g H) (ro : RO g H (.ref x) (.oi c os) A) (nd : A.Nodup) (nb : ∀ y ∈ A, Nb g y) (hN : N.length - (vs.length + 1) = m)
    (h : (runM c body m os us).post (fun p => ∀ v H' B, Fm g A H H' → Kp g H H' → Th H H' → BoxR g H' → RO g H' (.ref x) (.oi c p.1) B → B.Nodup → (∀ y ∈ B, y ∈ A ∨ (H y = none ∧ Nb g y)) → RU g H' v p.2 → Q v H') (fun e => ∀ dd H', Fm g A H H' → Kp g H H' → Th H H' → BoxR g H' → Xd g H' dd e → E (.ref (g.xt e.c).C) dd H')) :
    lS g (fun c d _ H' => E c d H') ⟨H, A ++ boxM g, [(0, .ref x)], []⟩ body { nx := fun _ H' => Q .non H', rt := Q } (L2.start N (.ref x :: vs)) H := by
  have fin : ∀ (u : U) (ρ : Env) (σ' : L2.St) (H' : Hp) (v : V), S g ⟨H, A ++ boxM g, [(0, .ref x)], []⟩ ρ σ' H' → RU g H' v u →
      (selfM c u ρ).post (fun p => ∀ v H' B, Fm g A H H' → Kp g H H' → Th H H' → BoxR g H' → RO g H' (.ref x) (.oi c p.1) B → B.Nodup → (∀ y ∈ B, y ∈ A ∨ (H y = none ∧ Nb g y)) → RU g H' v p.2 → Q v H') (fun e => ∀ dd H', Fm g A H H' → Kp g H H' → Th H H' → BoxR g H' → Xd g H' dd e → E (.ref (g.xt e.c).C) dd H') → Q v H' := fun u ρ σ' H' v s ru ho => by
    unfold selfM at ho
    cases e1 : ρ[0]? with
    | none => rw [e1] at ho; exact ho.elim
    | some sl =>
      rw [e1] at ho
      cases sl with
      | un => exact ho.elim
      | im u => exact ho.elim
      | ow o0 =>
        cases o0 with
        | lf u => exact ho.elim
        | ol os => exact ho.elim
        | oi c' os' =>
          change (if c' = c then Res.ok (os', u) else .st : Res (List O × U)).post _ _ at ho
          by_cases hc : c' = c
          · rw [if_pos hc] at ho
            subst hc
            obtain ⟨A1, s1, s2, s3⟩ := s.sl
            obtain ⟨v0, B, A', g1, g2, g3, g4, -⟩ := s1.take s2 e1
            have e2 := s.ps _ (.head _)
            have ev : v0 = .ref x := Option.some.inj (Option.some.inj (g1.symm.trans e2))
            subst ev
            refine ho v H' B s.fm s.kp s.th s.bx g2 g3 (fun y m => ?_) ru
            obtain ⟨q1, q2⟩ := s3 y (g4 y m)
            rcases q1 with q1 | q1
            · rcases List.mem_append.mp q1 with z | z
              · exact .inl z
              · unfold boxM at z
                cases hb : g.bad with
                | none => rw [hb] at z; cases z
                | some p =>
                  rw [hb] at z
                  obtain ⟨b', c⟩ := p
                  exact absurd (List.mem_singleton.mp z) (q2 b' c hb).1
            · exact .inr ⟨q1, q2⟩
          · rw [if_neg hc] at ho; exact ho.elim
  refine ⟨_, S.startM r b ro nd nb hN, post_mono (fun o ho => ?_) (fun e x => ?_) (post_bind.mp h)⟩
  · cases o with
    | nx ρ => exact fun σ' H' k s => fin .non ρ σ' H' .non s .non ho
    | rt r ρ =>
      intro v σ' H' A' k s rv _ _
      obtain ⟨u, eu, ho⟩ := post_opt (post_bind.mp ho)
      exact fin u ρ σ' H' v s (im_of rv eu).2 ho
    | bk ρ => exact ho.elim
    | ct ρ => exact ho.elim
  · exact fun dd ρ σ' H' k s d => x dd H' s.fm s.kp s.th s.bx d
theorem spM_len {c n : Nat} {fn : List O → List U → Res (List O × U)} {vs : List V} {H : Hp} {Q : VK} {E : XK} (h : spM g c n fn vs H Q E) : vs.length = n := by
  obtain ⟨x, vs', us, os, A, rfl, r, hl, _⟩ := h
  rw [List.length_cons, r.len, hl]
theorem spB_len {c n : Nat} {fn : List O → List U → Res R} {vs : List V} {H : Hp} {Q : VK} {E : XK} (h : spB g c n fn vs H Q E) : vs.length = n := by
  obtain ⟨x, vs', us, os, A, rfl, r, hl, _⟩ := h
  rw [List.length_cons, r.len, hl]
/-- a def that changes its first argument does what its reading does -/
theorem fnM_ok {x qual : Str} {st : Stmt} {f : Addr} {fd : FuncData} {N ps : List Str} {c k n m : Nat} {body : PSt} (F : Fun g.K x qual st f fd) (Sc : FnScope N ps (defScope st)) (hn : ps.length = n) (hN : N.length = n + m)
    (hb : ∀ (cdv : Value) (A : Around) (outer : List PySem.Env) (s : Shared) (H : Hp) (E : XK) (x : Addr) (B : List Addr), Room k (A.deeper (envOfC qual (defScope st) s.heap.objs.size f cdv)) →
      PSs (cxOf (L2.CX P w) P w g.K mg base N qual (defScope st) f cdv A outer s H E) (defBody st) (lS g (fun c d _ H' => E c d H') ⟨H, B ++ boxM g, [(0, .ref x)], []⟩ body)) :
    FnOk P w g.K mg base (L2.CX P w) (k + 1) f fd ps (spM g c n (runM c body m)) :=
  F.okX Sc (fun vs H Q E h => (spM_len h).trans hn.symm) (fun cdv A outer s H vs Q E hr h => by
    have hl0 := spM_len h
    obtain ⟨x, vs', us, os, B, rfl, r, hl, b, ro, nd, nb, h⟩ := h
    exact ⟨_, hb cdv A outer s H E x B hr, m_end (n := n) r b ro nd nb (by rw [List.length_cons] at hl0; rw [hl0, hN]; omega) h⟩)
theorem fnB_ok {x qual : Str} {st : Stmt} {f : Addr} {fd : FuncData} {N ps : List Str} {c k n m : Nat} {p : PEx} (F : Fun g.K x qual st f fd) (Sc : FnScope N ps (defScope st)) (hn : ps.length = n) (hN : N.length = n + m)
    (hb : ∀ (cdv : Value) (A : Around) (outer : List PySem.Env) (s : Shared) (H : Hp) (E : XK) (x : Addr) (B : List Addr), Room k (A.deeper (envOfC qual (defScope st) s.heap.objs.size f cdv)) →
      PSs (cxOf (L2.CX P w) P w g.K mg base N qual (defScope st) f cdv A outer s H E) (defBody st) (tRet (lE g (fun c d _ H' => E c d H') ⟨H, B ++ boxM g, [(0, .ref x)], []⟩ p))) :
    FnOk P w g.K mg base (L2.CX P w) (k + 1) f fd ps (spB g c n (runB c p m)) :=
  F.okX Sc (fun vs H Q E h => (spB_len h).trans hn.symm) (fun cdv A outer s H vs Q E hr h => by
    have hl0 := spB_len h
    obtain ⟨x, vs', us, os, B, rfl, r, hl, b, ro, nd, nb, h⟩ := h
    exact ⟨_, hb cdv A outer s H E x B hr, _, S.startM r b ro nd nb (by rw [List.length_cons] at hl0; rw [hl0, hN]; omega), post_mono (fun r hr => hr) (fun e x => x) h⟩)
end
/-! ### calls -/
def argU (n : Nat) (rs : List R) : Option (List U) := if rs.length + 1 = n then imRs rs else none
def pMc (i c n : Nat) (fn : List O → List U → Res (List O × U)) (pas : PAs) : PSt := fun (ρ : List Sl) =>
  match (ρ[i]? : Option Sl) with
  | some (.ow (.oi k os)) => if k = c then (pas ρ).bind fun rs => (Res.opt (argU n rs)).bind fun us => (fn os us).bind fun p => .ok (.nx (ρ.set i (.ow (.oi c p.1)))) else .st
  | _ => .st
def pMb (i c n : Nat) (fn : List O → List U → Res R) (pas : PAs) : PEx := fun (ρ : List Sl) =>
  match (ρ[i]? : Option Sl) with
  | some (.ow (.oi k os)) => if k = c then (pas ρ).bind fun rs => (Res.opt (argU n rs)).bind fun us => fn os us else .st
  | _ => .st
section
variable {g : G} {W : WX} {t : Fr} {X : Cx} {pos : Pos} {a b c e : Expr} {pa pb pc : PEx} {pas : PAs} {σ : L2.St} {H H1 : Hp}
theorem argU_of {vs : List V} {rs : List R} {A : List Addr} {n : Nat} {us : List U} (r : RVs g H vs rs A) (e : argU n rs = some us) : RUs g H vs us ∧ us.length + 1 = n := by
  unfold argU at e
  by_cases hl : rs.length + 1 = n
  · rw [if_pos hl] at e
    have h := (ims_of r e).2
    exact ⟨h, by rw [← h.len, r.len, hl]⟩
  · rw [if_neg hl] at e; cases e
theorem mc_core {ρ : Env} {i k n : Nat} {fn : List O → List U → Res (List O × U)} {os : List O} {D : Ends} {vs : List V} {us : List U} (sS : S g t ρ σ H) (x1 : Ext g H H1) (b1 : BoxR g H1) (e1 : ρ[i]? = some (.ow (.oi k os))) (ru : RUs g H1 vs us) (hl : us.length + 1 = n) {Q : VK} {E : XK}
    (hQ : ∀ v H2 ρ', Kp g H H2 → S g t ρ' σ H2 → oS g t D H (.nx ρ') → Q v H2) (hE : ∀ e dd H2 ρ', Kp g H H2 → S g t ρ' σ H2 → Xd g H2 dd e → xS g W t H e → E (.ref (g.xt e.c).C) dd H2)
    (hf : ((fn os us).bind fun p => Res.ok (Out.nx (ρ.set i (.ow (.oi k p.1))))).post (oS g t D H) (xS g W t H)) :
    ∃ x, σ[i]? = some (some (.ref x)) ∧ spM g k n fn (.ref x :: vs) H1 Q E := by
  obtain ⟨v, B, g1, g2, g2', g3, g4, g5, g6⟩ := sS.putG x1 b1 e1
  have g2'' := g2'
  obtain ⟨ad, rfl⟩ : ∃ ad, v = .ref ad := by cases g2 with | oi => exact ⟨_, rfl⟩
  refine ⟨ad, g1, ad, vs, us, os, B, rfl, ru, hl, b1, g2', g3, fun y m => (g4 y m).2, post_mono (fun p hp v H2 C f k2 tt b2 ro nd hC rv => ?_) (fun e he dd H2 f k2 tt b2 d => ?_) (post_bind.mp hf)⟩
  · exact hQ v H2 _ (x1.kp.trans k2) (g5 H2 _ C f k2 tt b2 ro nd fun x m => (hC x m).imp_right fun z => ⟨x1.back b1 z.1, z.2⟩) hp
  · exact hE e dd H2 _ (x1.kp.trans k2) (g6 H2 f k2 tt b2) d he
theorem us_mcM {st : Stmt} {i k n : Nat} {fn : List O → List U → Res (List O × U)} {m : Str} {tA : TA} (hA : ∀ σ H Q, lA g W t pas σ H Q → tA σ H Q) (hW : ∀ c d σ σ' H, W c d σ H → W c d σ' H) (hm : m ∉ (g.ct k).ns) (h : PS X st (tDrop (tMeth (g.ct k).C m (spM g k n fn) [] (EW W) (tVar i) tA))) : PS X st (lS g W t (pMc i k n fn pas)) := by
  refine PS.imp h fun D σ H h => ?_
  obtain ⟨ρ, sS, h⟩ := h
  obtain ⟨os, e1, h⟩ := oi_at (f := fun os => (pas ρ).bind fun rs => (Res.opt (argU n rs)).bind fun us => (fn os us).bind fun p => Res.ok (Out.nx (ρ.set i (.ow (.oi k p.1))))) h
  obtain ⟨A, s1, -, -⟩ := sS.sl
  obtain ⟨v, B, g1, g2, -⟩ := s1.atOw e1
  cases g2 with
  | oi h1 hn h2 =>
    rename_i ad dx fs A2
    have hno : m ∉ fs.map Prod.fst := by
      rw [hn]
      exact fun z => hm ((List.take_sublist _ _).subset z)
    refine ⟨.ref ad, g1, ad, dx, fs, rfl, h1, lookup_no hno, hA _ _ _ ⟨ρ, sS, post_mono (fun rs hr vs H1 A x1 b1 r1 n1 f1 => ?_) (fun e x => x.wx sS) (post_bind.mp h)⟩⟩
    obtain ⟨us, eu, hf⟩ := post_opt (post_bind.mp hr)
    obtain ⟨ru, hl⟩ := argU_of r1 eu
    obtain ⟨ad', z1, z2⟩ := mc_core (Q := fun v H2 => D.nx σ H2) (E := EW W) sS x1 b1 e1 ru hl (fun v H2 ρ' k s q => q σ H2 k s) (fun e dd H2 ρ' k s d x σ' => hW _ _ _ _ _ (x dd ρ' σ H2 k s d)) hf
    have ea : ad' = ad := by rw [g1] at z1; cases z1; rfl
    subst ea
    rw [List.append_nil]
    exact z2
theorem us_mcF {st : Stmt} {i k n : Nat} {fn : List O → List U → Res (List O × U)} {tA : TA} (hA : ∀ σ H Q, lA g W t pas σ H Q → tA σ H Q) (h : PS X st (tDrop (tCallS (spM g k n fn) (WE W) (tCons (tVar i) tA)))) : PS X st (lS g W t (pMc i k n fn pas)) := by
  refine PS.imp h fun D σ H h => ?_
  obtain ⟨ρ, sS, h⟩ := h
  obtain ⟨os, e1, h⟩ := oi_at (f := fun os => (pas ρ).bind fun rs => (Res.opt (argU n rs)).bind fun us => (fn os us).bind fun p => Res.ok (Out.nx (ρ.set i (.ow (.oi k p.1))))) h
  obtain ⟨A, s1, -, -⟩ := sS.sl
  obtain ⟨v, B, g1, g2, -⟩ := s1.atOw e1
  refine ⟨v, g1, hA _ _ _ ⟨ρ, sS, post_mono (fun rs hr vs H1 A x1 b1 r1 n1 f1 => ?_) (fun e x => x.wx sS) (post_bind.mp h)⟩⟩
  obtain ⟨us, eu, hf⟩ := post_opt (post_bind.mp hr)
  obtain ⟨ru, hl⟩ := argU_of r1 eu
  obtain ⟨ad', z1, z2⟩ := mc_core (Q := fun v H2 => D.nx σ H2) (E := WE W σ) sS x1 b1 e1 ru hl (fun v H2 ρ' k s q => q σ H2 k s) (fun e dd H2 ρ' k s d x => x dd ρ' σ H2 k s d) hf
  have ea : v = .ref ad' := by rw [g1] at z1; cases z1; rfl
  subst ea
  exact z2
theorem ue_mb {i k n : Nat} {fn : List O → List U → Res R} {m : Str} {tA : TA} (hA : ∀ σ H Q, lA g W t pas σ H Q → tA σ H Q) (hW : ∀ c d σ σ' H, W c d σ H → W c d σ' H) (hm : m ∉ (g.ct k).ns) (h : PE X e (tMeth (g.ct k).C m (spB g k n fn) [] (EW W) (tVar i) tA)) : PE X e (lE g W t (pMb i k n fn pas)) := by
  refine PE.imp h fun σ H Q h => ?_
  obtain ⟨ρ, sS, h⟩ := h
  obtain ⟨os, e1, h⟩ := oi_at (f := fun os => (pas ρ).bind fun rs => (Res.opt (argU n rs)).bind fun us => fn os us) h
  obtain ⟨v, B, g1, g2, -, g3, g4, -, -⟩ := sS.putG (Ext.refl H) sS.bx e1
  have g2' := g2
  cases g2 with
  | oi h1 hn h2 =>
    rename_i ad dx fs A2
    have hno : m ∉ fs.map Prod.fst := by
      rw [hn]
      exact fun z => hm ((List.take_sublist _ _).subset z)
    refine ⟨.ref ad, g1, ad, dx, fs, rfl, h1, lookup_no hno, hA _ _ _ ⟨ρ, sS, post_mono (fun rs hr vs H1 A x1 b1 r1 n1 f1 => ?_) (fun e x => x) (post_bind.mp h)⟩⟩
    obtain ⟨us, eu, hf⟩ := post_opt (post_bind.mp hr)
    obtain ⟨ru, hl⟩ := argU_of r1 eu
    rw [List.append_nil]
    exact ⟨ad, vs, us, os, _, rfl, ru, hl, b1, g2'.ext x1 fun y m => (g4 y m).2, g3, fun y m => (g4 y m).2, post_mono (fun r hr v H2 C x2 b2 r2 n2 f2 => hr v H2 C (x1.trans x2) b2 r2 n2 fun y m => x1.back b1 (f2 y m)) (fun e x dd H2 x2 b2 d σ' => hW _ _ _ _ _ (x dd H2 (x1.trans x2) b2 d)) hf⟩
end
end Rl
/-! Rl: defs that look at a list of their caller; starred displays. -/
namespace Rl
open PySem PySem.Spec PyProof.Rows L2 Wn
/-- what a def promises that looks at a list (its argument q) which is still changed elsewhere -/
def spL (g : G) (q n : Nat) (fn : List U → List U → Res R) : Sp := fun vs H Q E => ∃ vs1 vs2 a ws ys us, vs = vs1 ++ .ref a :: vs2 ∧ vs1.length = q ∧ RUs g H (vs1 ++ vs2) us ∧ us.length + 1 = n ∧ SqL g.K H a ws ∧ Nb g a ∧ RUs g H ws ys ∧ BoxR g H ∧
  (fn ys us).post (fun r => ∀ v H' B, Ext g H H' → BoxR g H' → RV g H' v r B → B.Nodup → (∀ y ∈ B, H y = none) → Q v H') (fun e => ∀ dd H', Ext g H H' → BoxR g H' → Xd g H' dd e → E (.ref (g.xt e.c).C) dd H')
def endF (o : Out) : Res R :=
  match o with
  | .nx _ => .ok (.im .non)
  | .rt r _ => .ok r
  | _ => .st
def envL (q m : Nat) (us : List U) : Env := (us.take q).map .im ++ .un :: ((us.drop q).map .im ++ List.replicate m .un)
def runL (body : List U → PSt) (q m : Nat) (ys us : List U) : Res R := (body ys (envL q m us)).bind endF
/-- the name q holds the list ys, which stays -/
def Bw (g : G) (t : Fr) (q : Nat) (ys : List U) : Prop := ∃ a ws, (q, V.ref a) ∈ t.ps ∧ Nb g a ∧ SqL g.K t.H0 a ws ∧ RUs g t.H0 ws ys ∧ a ∉ t.M
def pBw (ys : List U) : PEx := fun _ => .ok (.br ys)
section
variable {g : G} {W : WX} {t : Fr} {X : Cx} {pos : Pos} {a b c e : Expr} {pa pb pc : PEx} {pas : PAs} {σ : L2.St} {H H1 : Hp}
theorem ue_bw {q : Nat} {ys : List U} (B : Bw g t q ys) (h : PE X e (tVar q)) : PE X e (lE g W t (pBw ys)) := by
  refine PE.imp h fun σ H Q h => ?_
  obtain ⟨ρ, sS, h⟩ := h
  obtain ⟨ad, ws, hp, nb, sq, r, nm⟩ := B
  refine ⟨.ref ad, sS.ps _ hp, h (.ref ad) H [] (Ext.refl H) sS.bx ⟨rfl, ad, ws, rfl, ?_, r.mono sS.kp, nb⟩ List.nodup_nil fun x m => nomatch m⟩
  rcases sq with (sq | ⟨o, sq⟩) | sq
  · exact .inl (.inl (sS.fr _ _ sq nm))
  · exact .inl (.inr ⟨o, sS.fr _ _ sq nm⟩)
  · exact .inr sq
theorem slots_argsL {m : Nat} {a : Addr} : ∀ {vs1 vs2 : List V} {us : List U}, RUs g H (vs1 ++ vs2) us → Slots g H ((vs1 ++ .ref a :: vs2).map some ++ List.replicate m none) (envL vs1.length m us) []
  | [], vs2, us, r => by
    have h := slots_args (m := m) r
    unfold envL
    exact .un h
  | v :: vs1, vs2, u :: us, .cons r1 r2 => by
    have h := slots_argsL (m := m) (a := a) (vs1 := vs1) r2
    exact .im r1 h
theorem S.startL {vs1 vs2 : List V} {us : List U} {N : List Str} {m : Nat} {a : Addr} (r : RUs g H (vs1 ++ vs2) us) (b : BoxR g H) (hm : N.length - (vs1 ++ .ref a :: vs2).length = m) :
    S g ⟨H, boxM g, [(vs1.length, .ref a)], []⟩ (envL vs1.length m us) (L2.start N (vs1 ++ .ref a :: vs2)) H where
  sl := ⟨[], by unfold L2.start; rw [hm]; exact slots_argsL r, List.nodup_nil, fun a m => nomatch m⟩
  bx := b
  fr := fun _ _ h _ => h
  kp := Kp.refl H
  th := fun _ o h => ⟨o, h⟩
  ps := fun p m => by
    rw [List.mem_singleton.mp m]
    unfold L2.start
    simp
  bm := fun b c h => by show b ∈ boxM g; unfold boxM; rw [h]; exact .head _
  xd := fun p m => nomatch m
theorem S.extP {ρ : Env} {ps : List (Nat × V)} (s : S g ⟨H, boxM g, ps, []⟩ ρ σ H1) : Ext g H H1 where
  sm := fun x o h nb => s.fr x o h fun m => by
    have m : x ∈ boxM g := m
    unfold boxM at m
    cases hb : g.bad with
    | none => rw [hb] at m; cases m
    | some p =>
      rw [hb] at m
      obtain ⟨b, c⟩ := p
      exact nb b c hb (List.mem_singleton.mp m)
  kp := s.kp
theorem boxM_nbL {a : Addr} (nb : Nb g a) : a ∉ boxM g := fun m => by
  unfold boxM at m
  cases hb : g.bad with
  | none => rw [hb] at m; cases m
  | some p =>
    rw [hb] at m
    obtain ⟨b, c⟩ := p
    exact (nb b c hb).1 (List.mem_singleton.mp m)
theorem spL_len {q n : Nat} {fn : List U → List U → Res R} {vs : List V} {Q : VK} {E : XK} (h : spL g q n fn vs H Q E) : vs.length = n := by
  obtain ⟨vs1, vs2, a, ws, ys, us, rfl, hq, r, hl, _⟩ := h
  have := r.len
  rw [List.length_append] at this ⊢
  rw [List.length_cons]
  omega
end
section
variable {P : Program} {w : World} {mg : Str → Option Value} {base : Heap} {g : G}
theorem fnL_ok {x qual : Str} {st : Stmt} {f : Addr} {fd : FuncData} {N ps : List Str} {q k n m : Nat} {body : List U → PSt} (F : Fun g.K x qual st f fd) (Sc : FnScope N ps (defScope st)) (hn : ps.length = n) (hN : N.length = n + m)
    (hb : ∀ (cdv : Value) (A : Around) (outer : List PySem.Env) (s : Shared) (H : Hp) (E : XK) (a : Addr) (ys : List U), Bw g ⟨H, boxM g, [(q, .ref a)], []⟩ q ys → Room k (A.deeper (envOfC qual (defScope st) s.heap.objs.size f cdv)) →
      PSs (cxOf (L2.CX P w) P w g.K mg base N qual (defScope st) f cdv A outer s H E) (defBody st) (lS g (fun c d _ H' => E c d H') ⟨H, boxM g, [(q, .ref a)], []⟩ (body ys))) :
    FnOk P w g.K mg base (L2.CX P w) (k + 1) f fd ps (spL g q n (runL body q m)) :=
  F.okX Sc (fun vs H Q E h => (spL_len h).trans hn.symm) (fun cdv A outer s H vs Q E hr h => by
    have hl0 := spL_len h
    obtain ⟨vs1, vs2, a, ws, ys, us, rfl, rfl, r, hl, sq, nb, ry, b, h⟩ := h
    refine ⟨_, hb cdv A outer s H E a ys ⟨a, ws, .head _, nb, sq, ry, boxM_nbL nb⟩ hr, _, S.startL r b (by rw [hl0, hN]; omega), post_mono (fun o ho => ?_) (fun e x => ?_) (post_bind.mp h)⟩
    · cases o with
      | nx ρ => exact fun σ' H' k s => ho .non H' [] s.extP s.bx ⟨rfl, .non⟩ List.nodup_nil fun x m => nomatch m
      | rt r ρ => exact fun v σ' H' A k s rv nd f => ho v H' A s.extP s.bx rv nd f
      | bk ρ => exact ho.elim
      | ct ρ => exact ho.elim
    · exact fun dd ρ σ' H' k s d => x dd H' s.extP s.bx d)
end
/-! ### calls -/
def argL (q n : Nat) (rs : List R) : Option (List U × List U) :=
  if rs.length = n then
    match rs[q]? with
    | some (.br ys) => (imRs (rs.eraseIdx q)).map fun us => (ys, us)
    | _ => none
  else none
def pCallL (q n : Nat) (fn : List U → List U → Res R) (pas : PAs) : PEx := fun ρ => (pas ρ).bind fun rs => (Res.opt (argL q n rs)).bind fun p => fn p.1 p.2
section
variable {g : G} {W : WX} {t : Fr} {X : Cx} {pos : Pos} {a b c e : Expr} {pa pb pc : PEx} {pas : PAs} {σ : L2.St} {H H1 : Hp}
theorem cut_br : ∀ {vs : List V} {rs : List R} {A : List Addr} {q : Nat} {ys us : List U}, RVs g H vs rs A → rs[q]? = some (.br ys) → imRs (rs.eraseIdx q) = some us →
    ∃ vs1 vs2 a ws, vs = vs1 ++ .ref a :: vs2 ∧ vs1.length = q ∧ RUs g H (vs1 ++ vs2) us ∧ SqL g.K H a ws ∧ Nb g a ∧ RUs g H ws ys
  | _, _, _, _, _, _, .nil, e, _ => by simp at e
  | _, _, _, 0, _, _, .cons h k, e, e2 => by
    simp at e; subst e
    obtain ⟨_, a, ws, rfl, h2, h3, h4⟩ := h
    exact ⟨[], _, a, ws, rfl, rfl, (ims_of k e2).2, h2, h4, h3⟩
  | _, _, _, q + 1, _, _, .cons (r := r) (rs := rs) h k, e, e2 => by
    change imRs (r :: rs.eraseIdx q) = some _ at e2
    unfold imRs at e2
    cases e3 : imR r with
    | none => rw [e3] at e2; cases e2
    | some u =>
      rw [e3] at e2
      obtain ⟨us, e4, rfl⟩ := map_some (show (imRs (rs.eraseIdx q)).map _ = some _ from e2)
      obtain ⟨vs1, vs2, a, ws, rfl, rfl, h1, h2, h3, h4⟩ := cut_br k (by simpa using e) e4
      exact ⟨_ :: vs1, vs2, a, ws, rfl, rfl, .cons (im_of h e3).2 h1, h2, h3, h4⟩
theorem ue_callL {q n : Nat} {fn : List U → List U → Res R} (h : PE X e (tCallS (spL g q n fn) (WE W) (lA g W t pas))) : PE X e (lE g W t (pCallL q n fn pas)) := by
  refine PE.imp h fun σ H Q h => ?_
  obtain ⟨ρ, sS, h⟩ := h
  refine ⟨ρ, sS, post_mono (fun rs hr vs H1 A x1 b1 r1 n1 f1 => ?_) (fun e x => x) (post_bind.mp h)⟩
  obtain ⟨p, ep, hf⟩ := post_opt (post_bind.mp hr)
  unfold argL at ep
  by_cases hl : rs.length = n
  · rw [if_pos hl] at ep
    cases e1 : rs[q]? with
    | none => rw [e1] at ep; cases ep
    | some r =>
      rw [e1] at ep
      cases r with
      | im u => cases ep
      | fr o => cases ep
      | br ys =>
        obtain ⟨us, e2, rfl⟩ := map_some (show (imRs (rs.eraseIdx q)).map _ = some p from ep)
        obtain ⟨vs1, vs2, a, ws, rfl, hq, h1, h2, h3, h4⟩ := cut_br r1 e1 e2
        refine ⟨vs1, vs2, a, ws, ys, us, rfl, hq, h1, ?_, h2, h3, h4, b1, post_mono (fun r hr v H2 B x2 b2 r2 n2 f2 => hr v H2 B (x1.trans x2) b2 r2 n2 fun y m => x1.back b1 (f2 y m)) (fun e x dd H2 x2 b2 d => x dd H2 (x1.trans x2) b2 d) hf⟩
        have z1 := h1.len
        have z2 := r1.len
        rw [List.length_append] at z1 z2
        rw [List.length_cons] at z2
        omega
  · rw [if_neg hl] at ep; cases ep
/-- [*x, ..] -/
def pStar (pa : PEx) (pas : PAs) : PAs := fun ρ => (pa ρ).bind fun r => (Res.opt (seqR r)).bind fun us => (pas ρ).bind fun rs => .ok (us.map .im ++ rs)
theorem RVs.ims : ∀ {vs ws : List V} {us : List U} {rs : List R} {A : List Addr}, RUs g H vs us → RVs g H ws rs A → RVs g H (vs ++ ws) (us.map .im ++ rs) A
  | _, _, _, _, _, .nil, k => k
  | _, _, _, _, _, .cons a h, k => by
    have z := RVs.cons (r := .im _) (A := []) ⟨rfl, a⟩ (RVs.ims h k)
    exact z
theorem ua_star {e : Expr} {es : List Expr} {sp : Pos} (eK : X.K = g.K) (he : PE X e (lE g W t pa)) (hr : PA X es (lA g W t pas)) (hs : starEach (.Starred e sp :: es) X.env = (true, eval e X.env) :: starEach es X.env := by rfl) : PA X (.Starred e sp :: es) (lA g W t (pStar pa pas)) := by
  refine PA.imp (StX.pa_star he hr hs) fun σ H Q h => ?_
  obtain ⟨ρ, sS, h⟩ := h
  refine ⟨ρ, sS, post_mono (fun r hr v H1 A x1 b1 r1 n1 f1 => ?_) (fun e x => x) (post_bind.mp h)⟩
  obtain ⟨us, e1, hr⟩ := post_opt (post_bind.mp hr)
  obtain ⟨p, ys, rfl, h2, h3, _⟩ := seqR_of r1 e1
  rw [eK]
  refine ⟨p, ys, rfl, h2.symm, ρ, sS.mono x1 b1, post_mono (fun rs hq vs H2 B x2 b2 r2 n2 f2 => ?_) (fun e x => x.back x1) (post_bind.mp hr)⟩
  exact hq _ H2 B (x1.trans x2) b2 (RVs.ims (h3.mono x2.kp) r2) n2 fun y m => x1.back b1 (f2 y m)
theorem us_st1 {st : Stmt} : PS X st (lS g W t fun _ => .st) := ⟨fun pins s σ H D I ⟨ρ, _, q⟩ => q.elim⟩
end
end Rl
/-! WnZL: list(zip(t, u)) of two tuples. -/
namespace WnZL
open PySem PySem.Spec PyProof.Rows
theorem nolen_zip : typeLookup (.type "zip") "__len__" = pure none := by rw [typeLookup_type, builtinLookup_eq_fast]; kernel_rfl
theorem nohint_zip : typeLookup (.type "zip") "__length_hint__" = pure none := by rw [typeLookup_type, builtinLookup_eq_fast]; kernel_rfl
section
variable {prog : Program} {w : World} {A : Around} {E : Value → Shared → Prop} {s : Shared}
theorem zipT_next_item_held {z TI TO T i1 i2 l1 l2 : Addr} {f : Bool} {oT : Obj} {k1 k2 : Nat} {xs ys : Array Value} {x y : Value} {Q : Value → Shared → Prop} (D : ZipApart z TI TO i1 i2 l1 l2)
    (hz : IsZipHeld s.heap z TI TO T f) (hT : s.heap.get? T = some oT) (hTI : IsPair s.heap TI (.ref i1) (.ref i2))
    (h1 : s.heap.IsTupleIter i1 l1 k1) (h2 : s.heap.IsTupleIter i2 l2 k2) (hl1 : s.heap.IsTuple l1 xs) (hl2 : s.heap.IsTuple l2 ys) (hx : xs[k1]? = some x) (hy : ys[k2]? = some y)
    (hQ : ∀ h', IsZipHeld h' z TI TO T true → h'.IsTupleIter i1 l1 (k1 + 1) → h'.IsTupleIter i2 l2 (k2 + 1) → IsPair h' s.heap.objs.size x y → h'.objs.size = s.heap.objs.size + 1 →
      (∀ c o, c ≠ z → c ≠ i1 → c ≠ i2 → s.heap.get? c = some o → h'.get? c = some o) → Q (.ref s.heap.objs.size) { s with heap := h' }) :
    wpAny (model prog w) A (Builtin.«zip.__next__» ⟨[.ref z], []⟩) (fun fin s' => ∃ v, fin = .done (.ret v) ∧ Q v s') E s := by
  show wpAny _ _ (field (.ref z) 2 >>= _) _ _ _
  refine wpAny_bind (wpAny_field hz rfl (x := .bool false) rfl ?_)
  show wpAny _ _ (field (.ref z) 3 >>= _) _ _ _
  refine wpAny_bind (wpAny_field hz rfl (x := .ref TI) rfl ?_)
  refine wpAny_bind (wpAny_seqItems hTI rfl ?_)
  show wpAny _ _ (Builtin.SmallTypes.ownedTupleIsFree (.ref z) >>= _) _ _ _
  refine wpAny_bind (wpAny_tupleHeld_zip hz hT fun h₁ hz₁ hs₁ => ?_)
  simp only [Bool.false_eq_true, if_false]
  refine wpAny_bind ?_
  rw [← Array.forIn_toList]
  simp only [List.forIn_cons,List.forIn_nil]
  refine wpAny_bind (wpAny_bind (wpAny_holding ?_))
  show wpAny _ _ (Builtin.SmallTypes.nextOf (.ref i1) >>= _) _ _ _
  refine wpAny_bind (RZ.nextOf_tuple_item (s := { s with heap := h₁ }) (h1.extBut hs₁.extBut D.i1z) (hl1.extBut hs₁.extBut D.l1z) hx fun h₂ h1₂ hs₂ => wpAny_pure ?_)
  refine wpAny_pure ?_
  refine wpAny_bind (wpAny_bind (wpAny_holding ?_))
  show wpAny _ _ (Builtin.SmallTypes.nextOf (.ref i2) >>= _) _ _ _
  refine wpAny_bind (RZ.nextOf_tuple_item (s := { s with heap := h₂ }) ((h2.extBut hs₁.extBut D.i2z).extBut hs₂.extBut D.i12.symm) ((hl2.extBut hs₁.extBut D.l2z).extBut hs₂.extBut D.l2i1) hy fun h₃ h2₃ hs₃ => wpAny_pure ?_)
  refine wpAny_pure (wpAny_pure ?_)
  show wpAny _ _ (newTuple [x, y] >>= _) _ _ _
  refine wpAny_bind (wpAny_newTuple ?_)
  have hsz : h₃.objs.size = s.heap.objs.size := by rw [hs₃.1, hs₂.1, hs₁.1]
  have hz₃ : IsZipHeld h₃ z TI TO T true := hs₃.extBut _ _ D.i2z.symm (hs₂.extBut _ _ D.i1z.symm hz₁)
  have hk : ∀ c o, c ≠ z → c ≠ i1 → c ≠ i2 → s.heap.get? c = some o → h₃.get? c = some o := fun c o c1 c2 c3 e => hs₃.extBut _ _ c3 (hs₂.extBut _ _ c2 (hs₁.extBut _ _ c1 e))
  have h1₃ : h₃.IsTupleIter i1 l1 (k1 + 1) := h1₂.extBut hs₃.extBut D.i12
  refine wpAny_pure ⟨_, rfl, ?_⟩
  show Q (.ref h₃.objs.size) _
  have hp : IsPair (h₃.push { cls := .type "tuple", data := .seq #[x, y] }) h₃.objs.size x y := Heap.get?_push_size _ rfl
  have hz4 : (h₃.push { cls := .type "tuple", data := .seq #[x, y] }).objs.size = h₃.objs.size + 1 := Heap.size_push ..
  rw [hsz] at hp hz4 ⊢
  exact hQ _ (Heap.get?_push_of_some _ hz₃) (h1₃.at fun o e => Heap.get?_push_of_some _ e) (h2₃.at fun o e => Heap.get?_push_of_some _ e) hp hz4 fun c o c1 c2 c3 e => Heap.get?_push_of_some _ (hk c o c1 c2 c3 e)
theorem zipT_next_end_held {z TI TO T i1 i2 l1 l2 : Addr} {f : Bool} {oT : Obj} {k1 k2 : Nat} {xs ys : Array Value} {Q : Fin → Shared → Prop} (hh : A.handled = none) (D : ZipApart z TI TO i1 i2 l1 l2)
    (hz : IsZipHeld s.heap z TI TO T f) (hT : s.heap.get? T = some oT) (hTI : IsPair s.heap TI (.ref i1) (.ref i2))
    (h1 : s.heap.IsTupleIter i1 l1 k1) (h2 : s.heap.IsTupleIter i2 l2 k2) (hl1 : s.heap.IsTuple l1 xs) (hl2 : s.heap.IsTuple l2 ys) (hend : xs[k1]? = none ∨ ys[k2]? = none)
    (hE : ∀ h' e, (∀ c o, c ≠ z → c ≠ i1 → c ≠ i2 → s.heap.get? c = some o → h'.get? c = some o) → (∃ o, h'.get? e = some o ∧ o.cls = .type "StopIteration") → E (.ref e) { s with heap := h' }) :
    wpAny (model prog w) A (Builtin.«zip.__next__» ⟨[.ref z], []⟩) Q E s := by
  show wpAny _ _ (field (.ref z) 2 >>= _) _ _ _
  refine wpAny_bind (wpAny_field hz rfl (x := .bool false) rfl ?_)
  show wpAny _ _ (field (.ref z) 3 >>= _) _ _ _
  refine wpAny_bind (wpAny_field hz rfl (x := .ref TI) rfl ?_)
  refine wpAny_bind (wpAny_seqItems hTI rfl ?_)
  show wpAny _ _ (Builtin.SmallTypes.ownedTupleIsFree (.ref z) >>= _) _ _ _
  refine wpAny_bind (wpAny_tupleHeld_zip hz hT fun h₁ hz₁ hs₁ => ?_)
  simp only [Bool.false_eq_true, if_false]
  refine wpAny_bind ?_
  rw [← Array.forIn_toList]
  simp only [List.forIn_cons,List.forIn_nil]
  refine wpAny_bind (wpAny_bind (wpAny_holding ?_))
  show wpAny _ _ (Builtin.SmallTypes.nextOf (.ref i1) >>= _) _ _ _
  cases hx : xs[k1]? with
  | none =>
    refine wpAny_bind (RZ.nextOf_tuple_end (s := { s with heap := h₁ }) hh (h1.extBut hs₁.extBut D.i1z) (hl1.extBut hs₁.extBut D.l1z) hx fun h₂ e hs₂ he => ?_)
    exact hE h₂ e (fun c o c1 c2 _ x => hs₂ _ _ c2 (hs₁.extBut _ _ c1 x)) he
  | some x =>
    have hy : ys[k2]? = none := by rcases hend with h | h; rw [hx] at h; cases h; exact h
    refine wpAny_bind (RZ.nextOf_tuple_item (s := { s with heap := h₁ }) (h1.extBut hs₁.extBut D.i1z) (hl1.extBut hs₁.extBut D.l1z) hx fun h₂ h1₂ hs₂ => wpAny_pure ?_)
    refine wpAny_pure ?_
    refine wpAny_bind (wpAny_bind (wpAny_holding ?_))
    show wpAny _ _ (Builtin.SmallTypes.nextOf (.ref i2) >>= _) _ _ _
    refine wpAny_bind (RZ.nextOf_tuple_end (s := { s with heap := h₂ }) hh ((h2.extBut hs₁.extBut D.i2z).extBut hs₂.extBut D.i12.symm) ((hl2.extBut hs₁.extBut D.l2z).extBut hs₂.extBut D.l2i1) hy fun h₃ e hs₃ he => ?_)
    exact hE h₃ e (fun c o c1 c2 c3 x => hs₃ _ _ c3 (hs₂.extBut _ _ c2 (hs₁.extBut _ _ c1 x))) he
theorem pyNext_item_held {z TI TO T i1 i2 l1 l2 : Addr} {f : Bool} {oT : Obj} {k1 k2 : Nat} {xs ys : Array Value} {x y : Value} {Q : Option Value → Shared → Prop} (D : ZipApart z TI TO i1 i2 l1 l2)
    (hz : IsZipHeld s.heap z TI TO T f) (hT : s.heap.get? T = some oT) (hTI : IsPair s.heap TI (.ref i1) (.ref i2))
    (h1 : s.heap.IsTupleIter i1 l1 k1) (h2 : s.heap.IsTupleIter i2 l2 k2) (hl1 : s.heap.IsTuple l1 xs) (hl2 : s.heap.IsTuple l2 ys) (hx : xs[k1]? = some x) (hy : ys[k2]? = some y)
    (hQ : ∀ h', IsZipHeld h' z TI TO T true → h'.IsTupleIter i1 l1 (k1 + 1) → h'.IsTupleIter i2 l2 (k2 + 1) → IsPair h' s.heap.objs.size x y → h'.objs.size = s.heap.objs.size + 1 →
      (∀ c o, c ≠ z → c ≠ i1 → c ≠ i2 → s.heap.get? c = some o → h'.get? c = some o) → Q (some (.ref s.heap.objs.size)) { s with heap := h' }) :
    wpAny (model prog w) A (pyNext (.ref z)) Q E s := by
  have hTy : s.TypeIs (.ref z) "zip" := ⟨_, hz, rfl⟩
  unfold pyNext
  exact wpAny_bind (wpAny_attempt (wpAny_callSpecial?_slot (name := Str.ofString "__next__") hTy F.slot_zip_next
    (wpAny_call_entry F.slot_zip_next hTy F.entry_zip_next
      (zipT_next_item_held D hz hT hTI h1 h2 hl1 hl2 hx hy fun h' a1 a3 a4 a5 a6 a7 => wpAny_pure (hQ h' a1 a3 a4 a5 a6 a7)) (F.args_zip_next_1 _))))
theorem pyNext_end_held {z TI TO T i1 i2 l1 l2 : Addr} {f : Bool} {oT : Obj} {k1 k2 : Nat} {xs ys : Array Value} {Q : Option Value → Shared → Prop} (hh : A.handled = none) (D : ZipApart z TI TO i1 i2 l1 l2)
    (hz : IsZipHeld s.heap z TI TO T f) (hT : s.heap.get? T = some oT) (hTI : IsPair s.heap TI (.ref i1) (.ref i2))
    (h1 : s.heap.IsTupleIter i1 l1 k1) (h2 : s.heap.IsTupleIter i2 l2 k2) (hl1 : s.heap.IsTuple l1 xs) (hl2 : s.heap.IsTuple l2 ys) (hend : xs[k1]? = none ∨ ys[k2]? = none)
    (hQ : ∀ h', (∀ c o, c ≠ z → c ≠ i1 → c ≠ i2 → s.heap.get? c = some o → h'.get? c = some o) → Q none { s with heap := h' }) : wpAny (model prog w) A (pyNext (.ref z)) Q E s := by
  have hTy : s.TypeIs (.ref z) "zip" := ⟨_, hz, rfl⟩
  unfold pyNext
  refine wpAny_bind (wpAny_attempt (wpAny_callSpecial?_slot (name := Str.ofString "__next__") hTy F.slot_zip_next
    (wpAny_call_entry F.slot_zip_next hTy F.entry_zip_next (zipT_next_end_held hh D hz hT hTI h1 h2 hl1 hl2 hend fun h' e hk he => ?_) (F.args_zip_next_1 _))))
  obtain ⟨o, ho, hc⟩ := he
  refine wpAny_bind (wpAny_isInstance (T := "StopIteration") (b := true) ⟨o, ho, hc⟩ isSubtype_stop ?_)
  exact wpAny_pure (hQ _ hk)
end
end WnZL
/-! WnZL2: list(zip(t, u)): the walk. -/
namespace WnZL
open PySem PySem.Spec PyProof.Rows
/-- a zip over two tuples behind i turns -/
structure ZS (z TI TO i1 i2 a b : Addr) (xs ys : Array Value) (i : Nat) (h : Heap) : Prop where
  ti : IsPair h TI (.ref i1) (.ref i2)
  h1 : h.IsTupleIter i1 a i
  h2 : h.IsTupleIter i2 b i
  l1 : h.IsTuple a xs
  l2 : h.IsTuple b ys
  st : (IsZip h z TI TO .none ∧ ∃ x y, IsPair h TO x y) ∨ ∃ T f oT, IsZipHeld h z TI TO T f ∧ h.get? T = some oT
theorem IsTupleK {h h' : Heap} {a : Addr} {xs : Array Value} (k : ∀ o, h.get? a = some o → h'.get? a = some o) (x : h.IsTuple a xs) : h'.IsTuple a xs := let ⟨o, ho, r⟩ := x; ⟨o, k o ho, r⟩
theorem ZS.frame {z TI TO i1 i2 a b : Addr} {xs ys : Array Value} {i : Nat} {h h' : Heap} (s : ZS z TI TO i1 i2 a b xs ys i h) (k : ∀ c ∈ [z, TI, TO, i1, i2, a, b], ∀ o, h.get? c = some o → h'.get? c = some o) (al : ∀ c o, h.get? c = some o → ∃ o', h'.get? c = some o') : ZS z TI TO i1 i2 a b xs ys i h' where
  ti := k TI (by simp) _ s.ti
  h1 := s.h1.at fun o q => k i1 (by simp) o q
  h2 := s.h2.at fun o q => k i2 (by simp) o q
  l1 := IsTupleK (k a (by simp)) s.l1
  l2 := IsTupleK (k b (by simp)) s.l2
  st := by
    rcases s.st with ⟨h1, x, y, h2⟩ | ⟨T, f, oT, h1, h2⟩
    · exact .inl ⟨k z (by simp) _ h1, x, y, k TO (by simp) _ h2⟩
    · obtain ⟨o', h3⟩ := al T oT h2
      exact .inr ⟨T, f, o', k z (by simp) _ h1, h3⟩
section
variable {prog : Program} {w : World} {A : Around} {E : Value → Shared → Prop} {s : Shared}
theorem next_item {z TI TO i1 i2 a b : Addr} {xs ys : Array Value} {i : Nat} {x y : Value} {Q : Option Value → Shared → Prop} (D : ZipApart z TI TO i1 i2 a b) (st : ZS z TI TO i1 i2 a b xs ys i s.heap) (hx : xs[i]? = some x) (hy : ys[i]? = some y)
    (hQ : ∀ h', ZS z TI TO i1 i2 a b xs ys (i + 1) h' → IsPair h' s.heap.objs.size x y → h'.objs.size = s.heap.objs.size + 1 → (∀ c o, c ≠ z → c ≠ TO → c ≠ i1 → c ≠ i2 → s.heap.get? c = some o → h'.get? c = some o) → Q (some (.ref s.heap.objs.size)) { s with heap := h' }) :
    wpAny (model prog w) A (pyNext (.ref z)) Q E s := by
  obtain ⟨ti, h1, h2, l1, l2, st⟩ := st
  rcases st with ⟨hz, x0, y0, hTO⟩ | ⟨T, f, oT, hz, hT⟩
  · refine RZ.pyNext_zipT_item D hz ti hTO h1 h2 l1 l2 hx hy fun h' b1 b2 b3 b4 b5 b6 b7 => ?_
    exact hQ h' ⟨b7 _ _ D.TIz D.TITO D.TIi1 D.TIi2 ti, b3, b4, IsTupleK (fun o => b7 _ o D.l1z D.l1TO D.l1i1 D.l1i2) l1, IsTupleK (fun o => b7 _ o D.l2z D.l2TO D.l2i1 D.l2i2) l2, .inr ⟨_, false, _, b1, b5⟩⟩ b5 b6 b7
  · refine pyNext_item_held D hz hT ti h1 h2 l1 l2 hx hy fun h' b1 b3 b4 b5 b6 b7 => ?_
    have alive : ∃ o, h'.get? T = some o := by
      by_cases e1 : T = z
      · rw [e1]; exact ⟨_, b1⟩
      · by_cases e2 : T = i1
        · rw [e2]; obtain ⟨o, ho, _⟩ := b3; exact ⟨o, ho⟩
        · by_cases e3 : T = i2
          · rw [e3]; obtain ⟨o, ho, _⟩ := b4; exact ⟨o, ho⟩
          · exact ⟨oT, b7 T oT e1 e2 e3 hT⟩
    obtain ⟨o', ho'⟩ := alive
    exact hQ h' ⟨b7 _ _ D.TIz D.TIi1 D.TIi2 ti, b3, b4, IsTupleK (fun o => b7 _ o D.l1z D.l1i1 D.l1i2) l1, IsTupleK (fun o => b7 _ o D.l2z D.l2i1 D.l2i2) l2, .inr ⟨T, true, o', b1, ho'⟩⟩ b5 b6 fun c o c1 _ c2 c3 => b7 c o c1 c2 c3
theorem next_end {z TI TO i1 i2 a b : Addr} {xs ys : Array Value} {i : Nat} {Q : Option Value → Shared → Prop} (hh : A.handled = none) (D : ZipApart z TI TO i1 i2 a b) (st : ZS z TI TO i1 i2 a b xs ys i s.heap) (hend : xs[i]? = none ∨ ys[i]? = none)
    (hQ : ∀ h', (∀ c o, c ≠ z → c ≠ TO → c ≠ i1 → c ≠ i2 → s.heap.get? c = some o → h'.get? c = some o) → Q none { s with heap := h' }) :
    wpAny (model prog w) A (pyNext (.ref z)) Q E s := by
  obtain ⟨ti, h1, h2, l1, l2, st⟩ := st
  rcases st with ⟨hz, x0, y0, hTO⟩ | ⟨T, f, oT, hz, hT⟩
  · exact RZ.pyNext_zipT_end hh D hz ti hTO h1 h2 l1 l2 hend hQ
  · exact pyNext_end_held hh D hz hT ti h1 h2 l1 l2 hend fun h' k => hQ h' fun c o c1 _ c2 c3 => k c o c1 c2 c3
/-- the tuples given so far -/
structure Gv (N : Nat) (xs ys : Array Value) (Ts : List Addr) (h : Heap) : Prop where
  nd : Ts.Nodup
  bd : ∀ T ∈ Ts, N ≤ T ∧ T < h.objs.size
  at_ : ∀ (j : Nat) (T : Addr), Ts[j]? = some T → ∃ x y, xs[j]? = some x ∧ ys[j]? = some y ∧ IsPair h T x y
abbrev IsL (h : Heap) (S : Addr) (Ts : List Addr) (c : Nat) : Prop := h.get? S = some { cls := .type "list", dict := none, data := .seq (Ts.map Value.ref).toArray c, slots := #[] }
theorem loopZ {R : Result → Shared → Prop} (hh : A.handled = none) {z TI TO i1 i2 a b S N n : Nat} {xs ys : Array Value} (D : ZipApart z TI TO i1 i2 a b) (hS : S ∉ [z, TI, TO, i1, i2, a, b]) (hN : ∀ c ∈ [z, TO, i1, i2, S], c < N) (hn : n = min xs.size ys.size) (hz : n ≤ sizeLine) (res : Value) :
    ∀ (k i : Nat) (s : Shared) (Ts : List Addr) (c : Nat), n - i = k → i ≤ n → ZS z TI TO i1 i2 a b xs ys i s.heap → IsL s.heap S Ts c → Ts.length = i → Gv N xs ys Ts s.heap → N ≤ s.heap.objs.size →
    (∀ h' Ts' c', (∀ c o, c ∉ [z, TO, i1, i2, S] → s.heap.get? c = some o → h'.get? c = some o) → IsL h' S Ts' c' → Ts'.length = n → Gv N xs ys Ts' h' → R (.ok (.ret res)) { s with heap := h' }) →
    codeAny (model prog w) A (.builtin "list.extend.loop" ⟨[.ref S, .ref z, res], []⟩) R s := by
  intro k
  induction k with
  | zero =>
    intro i s Ts c hk hi hst hL hl ho hN' hR
    have hin : i = n := by omega
    refine codeAny_builtin F.entry_extend_loop ?_
    rw [Around.under_plainId F.plain_extend_loop _]
    show wpAny _ A.in1 (pyNext (.ref z) >>= _) _ _ s
    refine wpAny_bind (next_end hh D hst ?_ fun h' k => ?_)
    · by_cases h : xs.size ≤ i
      · exact .inl (Array.getElem?_eq_none h)
      · exact .inr (Array.getElem?_eq_none (by omega))
    · have k' : ∀ c o, c ∉ [z, TO, i1, i2, S] → s.heap.get? c = some o → h'.get? c = some o := fun c o m e => k c o (fun q => m (by simp [q])) (fun q => m (by simp [q])) (fun q => m (by simp [q])) (fun q => m (by simp [q])) e
      have kS : IsL h' S Ts c := k S _ (fun q => hS (by simp [q])) (fun q => hS (by simp [q])) (fun q => hS (by simp [q])) (fun q => hS (by simp [q])) hL
      refine wpAny_pure (hR h' Ts c k' kS (by omega) ⟨ho.nd, fun T m => ?_, fun j T e => ?_⟩)
      · obtain ⟨b1, b2⟩ := ho.bd T m
        obtain ⟨j, hj⟩ := List.mem_iff_getElem?.mp m
        obtain ⟨x, y, _, _, hp⟩ := ho.at_ j T hj
        exact ⟨b1, Heap.lt_size (k' T _ (fun q => absurd (hN T q) (by omega)) hp)⟩
      · obtain ⟨x, y, e1, e2, hp⟩ := ho.at_ j T e
        exact ⟨x, y, e1, e2, k' T _ (fun q => absurd (hN T q) (by have := (ho.bd T (List.mem_of_getElem? e)).1; omega)) hp⟩
  | succ k ih =>
    intro i s Ts c hk hi hst hL hl ho hN' hR
    have hlt : i < n := by omega
    obtain ⟨x, hx⟩ : ∃ x, xs[i]? = some x := ⟨_, Array.getElem?_eq_getElem (by omega)⟩
    obtain ⟨y, hy⟩ : ∃ y, ys[i]? = some y := ⟨_, Array.getElem?_eq_getElem (by omega)⟩
    refine codeAny_builtin F.entry_extend_loop ?_
    rw [Around.under_plainId F.plain_extend_loop _]
    show wpAny _ A.in1 (pyNext (.ref z) >>= _) _ _ s
    refine wpAny_bind (next_item D hst hx hy fun h' hst' hp hsz kk => ?_)
    have kS : IsL h' S Ts c := kk S _ (fun q => hS (by simp [q])) (fun q => hS (by simp [q])) (fun q => hS (by simp [q])) (fun q => hS (by simp [q])) hL
    show wpAny _ A.in1 (updateSeq S (·.push (.ref s.heap.objs.size)) >>= _) _ _ _
    refine wpAny_bind ?_
    obtain ⟨c2, hS2⟩ : ∃ c2, IsL (h'.update S (Obj.mapSeq (·.push (Value.ref s.heap.objs.size)))) S (Ts ++ [s.heap.objs.size]) c2 := by
      have z := Heap.get?_update_self (Obj.mapSeq (·.push (Value.ref s.heap.objs.size))) kS rfl
      have e : (Ts ++ [s.heap.objs.size]).map Value.ref = (Ts.map Value.ref) ++ [Value.ref s.heap.objs.size] := by rw [List.map_append]; rfl
      have e2 : ((Ts ++ [s.heap.objs.size]).map Value.ref).toArray = (Ts.map Value.ref).toArray.push (Value.ref s.heap.objs.size) := by rw [e]; simp
      unfold IsL
      rw [e2]
      exact ⟨_, z.trans (congrArg some rfl)⟩
    have other : ∀ c o, c ≠ S → h'.get? c = some o → (h'.update S (Obj.mapSeq (·.push (Value.ref s.heap.objs.size)))).get? c = some o := fun c o q e => (Heap.get?_update_other _ _ (Ne.symm q)).trans e
    have sz2 : (h'.update S (Obj.mapSeq (·.push (Value.ref s.heap.objs.size)))).objs.size = s.heap.objs.size + 1 := by rw [Heap.size_update, hsz]
    have SN : S < N := hN S (by simp)
    have kT : ∀ c o, c ∉ [z, TO, i1, i2, S] → s.heap.get? c = some o → (h'.update S (Obj.mapSeq (·.push (Value.ref s.heap.objs.size)))).get? c = some o := fun c o m e =>
      other c o (fun q => m (by simp [q])) (kk c o (fun q => m (by simp [q])) (fun q => m (by simp [q])) (fun q => m (by simp [q])) (fun q => m (by simp [q])) e)
    refine wpAny_updateSeq kS rfl (wpAny_pure ⟨plainId_quiet F.plain_extend_loop _, ih (i + 1) _ (Ts ++ [s.heap.objs.size]) _ (by omega) hlt (hst'.frame (fun c m o e => other c o (fun q => hS (q ▸ m)) e) fun c o e => ?_) hS2 (by rw [List.length_append, hl]; rfl) ⟨?_, fun T m => ?_, fun j T e => ?_⟩ (by show N ≤ (h'.update S _).objs.size; rw [sz2]; omega) fun h'' Ts' c' k2 => ?_⟩) ?_ ?_
    · by_cases q : c = S
      · rw [q]; exact ⟨_, hS2⟩
      · exact ⟨o, other c o q e⟩
    · refine List.nodup_append.mpr ⟨ho.nd, by simp, fun p hp q hq e => ?_⟩
      rw [List.mem_singleton.mp hq] at e
      have := (ho.bd p hp).2
      rw [e] at this
      exact Nat.lt_irrefl _ this
    · show N ≤ T ∧ T < (h'.update S _).objs.size
      rw [sz2]
      rcases List.mem_append.mp m with m | m
      · obtain ⟨b1, b2⟩ := ho.bd T m
        exact ⟨b1, Nat.lt_succ_of_lt b2⟩
      · rw [List.mem_singleton.mp m]
        exact ⟨hN', Nat.lt_succ_self _⟩
    · rw [List.getElem?_append] at e
      by_cases hj : j < Ts.length
      · rw [if_pos hj] at e
        obtain ⟨x', y', e1, e2, hp'⟩ := ho.at_ j T e
        exact ⟨x', y', e1, e2, kT T _ (fun q => absurd (hN T q) (by have := (ho.bd T (List.mem_of_getElem? e)).1; omega)) hp'⟩
      · rw [if_neg hj] at e
        have ej : j = i := by
          have := (List.getElem?_eq_some_iff.mp e).1
          rw [List.length_singleton] at this
          omega
        subst ej
        rw [show j - Ts.length = 0 from by omega] at e
        have eT : s.heap.objs.size = T := by simpa using e
        subst eT
        exact ⟨x, y, hx, hy, other _ _ (by omega) hp⟩
    · exact hR h'' Ts' c' fun c o m e => k2 c o m (kT c o m e)
    · simp only [List.size_toArray,List.length_map]
      omega
    · simp only [Array.size_push,List.size_toArray,List.length_map]
      omega
end
end WnZL
/-! WnZL3: list(zip(t, u)): the call, the rule. -/
namespace WnZL
open PySem PySem.Spec PyProof.Rows
section
variable {prog : Program} {w : World} {A : Around} {E : Value → Shared → Prop} {s : Shared} {R : Result → Shared → Prop}
theorem extendZ (hh : A.handled = none) {z TI TO i1 i2 a b S N n : Nat} {xs ys : Array Value} (D : ZipApart z TI TO i1 i2 a b) (hS : S ∉ [z, TI, TO, i1, i2, a, b]) (hN : ∀ c ∈ [z, TO, i1, i2, S], c < N) (hn : n = min xs.size ys.size) (hz : n ≤ sizeLine) (res : Value) (c₀ : Nat)
    (hzz : IsZip s.heap z TI TO .none) (st : ZS z TI TO i1 i2 a b xs ys 0 s.heap) (hL : IsL s.heap S [] c₀) (hN' : N ≤ s.heap.objs.size)
    (hR : ∀ h' Ts' c', (∀ c o, c ∉ [z, TO, i1, i2, S] → s.heap.get? c = some o → h'.get? c = some o) → IsL h' S Ts' c' → Ts'.length = n → Gv N xs ys Ts' h' → R (.ok (.ret res)) { s with heap := h' }) :
    wpAny (model prog w) A.in1 (Builtin.List.listExtendWith (.ref S) (.ref z) res)
      (fun fin s' => match fin with | .done f => R (.ok f) s' | .again c' => c'.quiet = true ∧ codeAny (model prog w) A c' R s') (fun e s' => R (.error e) s') s := by
  have hSz : S ≠ z := fun e => hS (by simp [e])
  have hT : s.TypeIs (.ref z) "zip" := ⟨_, hzz, rfl⟩
  unfold Builtin.List.listExtendWith
  refine wpAny_bind (wpAny_typeOf hT ?_)
  have h1 : Builtin.List.listSameRef (.ref S) (.ref z) = false := by simp [Builtin.List.listSameRef, hSz]
  have h2 : (Value.type "zip" == Value.type "list") = false := by decide
  have h3 : (Value.type "zip" == Value.type "tuple") = false := by decide
  simp only [h1, h2, h3,Bool.or_false,Bool.false_eq_true, if_false]
  refine wpAny_bind (wpAny_pyIter_zip hzz ?_)
  refine wpAny_bind (wpAny_holding ?_)
  unfold Builtin.List.listLengthHint
  refine wpAny_bind (wpAny_specialOf hT nolen_zip ?_)
  show wpAny _ A.in1 (specialOf (Value.ref z) (Str.ofString "__length_hint__") >>= _) _ _ _
  refine wpAny_bind (wpAny_specialOf hT nohint_zip ?_)
  refine wpAny_pure ?_
  show wpAny _ A.in1 (rule "list.extend.makes-room" >>= fun _ => Builtin.List.listTouch (.ref S) >>= fun _ =>
    again (.builtin "list.extend.loop" ⟨[.ref S, .ref z, res], []⟩)) _ _ _
  refine wpAny_bind (wpAny_rule ?_)
  refine wpAny_bind ?_
  show wpAny _ A.in1 (updateSeq S (·.push .none) >>= fun _ => updateSeq S (·.pop)) _ _ _
  refine wpAny_bind (wpAny_updateSeq hL rfl ?_)
  have hS₂ := Heap.get?_update_self (Obj.mapSeq (·.push Value.none)) hL rfl
  refine wpAny_updateSeq (hz := by seq_fits) hS₂ rfl ?_
  have hS₃ := Heap.get?_update_self (Obj.mapSeq (·.pop)) hS₂ rfl
  have oth : ∀ c o, c ≠ S → s.heap.get? c = some o → ((s.heap.update S (Obj.mapSeq (·.push Value.none))).update S (Obj.mapSeq (·.pop))).get? c = some o :=
    fun c o hb e => (Heap.get?_update_other _ _ (Ne.symm hb)).trans ((Heap.get?_update_other _ _ (Ne.symm hb)).trans e)
  have hsz : ((s.heap.update S (Obj.mapSeq (·.push Value.none))).update S (Obj.mapSeq (·.pop))).objs.size = s.heap.objs.size := by rw [Heap.size_update, Heap.size_update]
  refine wpAny_pure ⟨plainId_quiet F.plain_extend_loop _, loopZ (A := A) hh D hS hN hn hz res n 0 _ [] _ rfl (Nat.zero_le _) (st.frame (fun c m o e => oth c o (fun q => hS (q ▸ m)) e) fun c o e => ?_) hS₃ rfl ⟨List.nodup_nil, fun T m => (nomatch m), fun j T e => by simp at e⟩ (by show N ≤ ((s.heap.update S _).update S _).objs.size; rw [hsz]; exact hN') fun h' Ts' c' k2 => ?_⟩
  · by_cases q : c = S
    · rw [q]; exact ⟨_, hS₃⟩
    · exact ⟨o, oth c o q e⟩
  · exact hR h' Ts' c' fun c o m e => k2 c o m (oth c o (fun q => m (by simp [q])) e)
theorem initZ (hh : A.handled = none) {z TI TO i1 i2 a b S N n : Nat} {xs ys : Array Value} (D : ZipApart z TI TO i1 i2 a b) (hS : S ∉ [z, TI, TO, i1, i2, a, b]) (hN : ∀ c ∈ [z, TO, i1, i2, S], c < N) (hn : n = min xs.size ys.size) (hz : n ≤ sizeLine)
    (hzz : IsZip s.heap z TI TO .none) (st : ZS z TI TO i1 i2 a b xs ys 0 s.heap) (hL : s.heap.get? S = some { cls := .type "list", data := .seq #[] }) (hN' : N ≤ s.heap.objs.size)
    (hR : ∀ h' Ts' c', (∀ c o, c ∉ [z, TO, i1, i2, S] → s.heap.get? c = some o → h'.get? c = some o) → IsL h' S Ts' c' → Ts'.length = n → Gv N xs ys Ts' h' → R (.ok (.ret .none)) { s with heap := h' }) :
    wpAny (model prog w) A.in1 (Builtin.«list.__init__» ⟨[.ref S, .ref z], []⟩)
      (fun fin s' => match fin with | .done f => R (.ok f) s' | .again c' => c'.quiet = true ∧ codeAny (model prog w) A c' R s') (fun e s' => R (.error e) s') s := by
  show wpAny _ A.in1 (do let old ← Builtin.List.listItems (.ref S); Builtin.List.listUpdate (.ref S) (fun _ => #[]); letGo old.toList.reverse; Builtin.List.listExtendWith (.ref S) (.ref z) .none) _ _ s
  refine wpAny_bind ?_
  unfold Builtin.List.listItems
  refine wpAny_bind (wpAny_seqItems hL rfl (wpAny_pure ?_))
  show wpAny _ A.in1 (updateSeq S (fun _ => #[]) >>= fun _ => letGo (#[] : Array Value).toList.reverse >>= fun _ => Builtin.List.listExtendWith (.ref S) (.ref z) .none) _ _ s
  refine wpAny_bind (wpAny_updateSeq hL rfl ?_)
  have hS₂ := Heap.get?_update_self (Obj.mapSeq (fun _ => (#[] : Array Value))) hL rfl
  have oth : ∀ c o, c ≠ S → s.heap.get? c = some o → (s.heap.update S (Obj.mapSeq (fun _ => (#[] : Array Value)))).get? c = some o :=
    fun c o hb e => (Heap.get?_update_other _ _ (Ne.symm hb)).trans e
  have hsz : (s.heap.update S (Obj.mapSeq (fun _ => (#[] : Array Value)))).objs.size = s.heap.objs.size := by rw [Heap.size_update]
  refine wpAny_bind (wpAny_letGo ?_)
  refine extendZ (s := { s with heap := s.heap.update S (Obj.mapSeq (fun _ => (#[] : Array Value))) }) hh D hS hN hn hz .none _ (oth z _ (fun q => hS (by simp [q])) hzz) (st.frame (fun c m o e => oth c o (fun q => hS (q ▸ m)) e) fun c o e => ?_) hS₂ (by show N ≤ (s.heap.update S _).objs.size; rw [hsz]; exact hN') fun h' Ts' c' k2 => ?_
  · by_cases q : c = S
    · rw [q]; exact ⟨_, hS₂⟩
    · exact ⟨o, oth c o q e⟩
  · exact hR h' Ts' c' fun c o m e => k2 c o m (oth c o (fun q => m (by simp [q])) e)
theorem call_list_zip {Q : Value → Shared → Prop} (hh : A.handled = none) {z TI TO i1 i2 a b n : Nat} {xs ys : Array Value} (D : ZipApart z TI TO i1 i2 a b) (hn : n = min xs.size ys.size) (hz : n ≤ sizeLine)
    (hzz : IsZip s.heap z TI TO .none) (st : ZS z TI TO i1 i2 a b xs ys 0 s.heap) (hlt : ∀ c ∈ [z, TI, TO, i1, i2, a, b], c < s.heap.objs.size)
    (hQ : ∀ h' Ts' c', (∀ c o, c ∉ [z, TO, i1, i2] → s.heap.get? c = some o → h'.get? c = some o) → IsL h' s.heap.objs.size Ts' c' → Ts'.length = n → Gv (s.heap.objs.size + 1) xs ys Ts' h' → Q (.ref s.heap.objs.size) { s with heap := h' }) :
    wpAny (model prog w) A (call (.type "list") [.ref z]) Q E s := by
  refine callType_codes (Q₁ := fun obj s₁ => obj = .ref s.heap.objs.size ∧ s₁ = { s with heap := s.heap.push { cls := .type "list", data := .seq #[] } }) F.called_list (F.typeCall_list_1 _) F.entry_list_init
    (code_list_new _ ⟨rfl, rfl⟩) fun obj s₁ h₁ => ?_
  obtain ⟨rfl, rfl⟩ := h₁
  have hS : (s.heap.push { cls := .type "list", data := .seq #[] }).get? s.heap.objs.size = some { cls := .type "list", data := .seq #[] } := Heap.get?_push_size _ rfl
  have up : ∀ c o, s.heap.get? c = some o → (s.heap.push { cls := .type "list", data := .seq #[] }).get? c = some o := fun c o e => Heap.get?_push_of_some _ e
  have hsz : (s.heap.push { cls := .type "list", data := .seq #[] }).objs.size = s.heap.objs.size + 1 := Heap.size_push ..
  have hh1 : A.in1.handled = none := hh
  refine ⟨⟨_, hS, rfl⟩, F.args_list_init_2 _ _, initZ (A := A.in1) (s := { s with heap := s.heap.push { cls := .type "list", data := .seq #[] } }) (N := s.heap.objs.size + 1) (n := n) hh1 D (fun m => Nat.lt_irrefl _ (hlt _ m)) (fun c m => ?_) hn hz (up _ _ hzz) (st.frame (fun c _ o e => up c o e) fun c o e => ⟨o, up c o e⟩) hS (by show _ ≤ (s.heap.push _).objs.size; rw [hsz]; exact Nat.le_refl _) fun h' Ts' c' k2 l1 l2 l3 => ?_⟩
  · have e' : c = z ∨ c = TO ∨ c = i1 ∨ c = i2 ∨ c = s.heap.objs.size := by simpa using m
    rcases e' with q | q | q | q | q
    · rw [q]; exact Nat.lt_succ_of_lt (hlt z (by simp))
    · rw [q]; exact Nat.lt_succ_of_lt (hlt TO (by simp))
    · rw [q]; exact Nat.lt_succ_of_lt (hlt i1 (by simp))
    · rw [q]; exact Nat.lt_succ_of_lt (hlt i2 (by simp))
    · rw [q]; exact Nat.lt_succ_self _
  · refine ⟨rfl, hQ h' Ts' c' (fun c o m e => k2 c o (fun q => ?_) (up c o e)) l1 l2 l3⟩
    have q' : c = z ∨ c = TO ∨ c = i1 ∨ c = i2 ∨ c = s.heap.objs.size := by simpa using q
    rcases q' with q | q | q | q | q
    · exact m (by simp [q])
    · exact m (by simp [q])
    · exact m (by simp [q])
    · exact m (by simp [q])
    · have := Heap.lt_size e
      rw [q] at this
      exact Nat.lt_irrefl _ this
end
/-! ### what was made is known -/
open L2 Wn
/-- at each address a new pair -/
inductive Fit (h : Heap) : List Addr → List (V × V) → Prop
  | nil : Fit h [] []
  | cons {T : Addr} {Ts : List Addr} {x y : V} {u v : Value} {ps : List (V × V)} : RelV x u → RelV y v → IsPair h T u v → Fit h Ts ps → Fit h (T :: Ts) ((x, y) :: ps)
inductive Tps (K : PySem.W.Frag) (H : Hp) : List Addr → List (V × V) → Prop
  | nil : Tps K H [] []
  | cons {T : Addr} {Ts : List Addr} {x y : V} {ps : List (V × V)} : PT K H T [x, y] → Tps K H Ts ps → Tps K H (T :: Ts) ((x, y) :: ps)
section
variable {X : Cx} {pins : List (Addr × Obj)} {σ : L2.St} {s : Shared} {h' : Heap}
theorem takeTs : ∀ {Ts : List Addr} {ps : List (V × V)} {H : Hp}, Fit h' Ts ps → Inv X pins σ H { s with heap := h' } → Ts.Nodup → (∀ T ∈ Ts, FpOk X pins H T) → ∃ H', Inv X pins σ H' { s with heap := h' } ∧ Same H H' ∧ (∀ c, c ∉ Ts → H' c = H c) ∧ Tps X.K H' Ts ps
  | _, _, H, .nil, I, _, _ => ⟨H, I, fun _ _ e => e, fun _ _ => rfl, .nil⟩
  | _, _, H, .cons (T := T) (Ts := Ts) (x := x) (y := y) (u := u) (v := v) rx ry hp F, I, nd, hf => by
    obtain ⟨n1, n2⟩ := List.nodup_cons.mp nd
    have fT := hf T (.head _)
    have hn : H T = none := fT.1
    have I1 := I.take (t' := s.toks) (h' := h') (it := T) (o := .frz { cls := .type "tuple", data := .seq #[u, v] } (.tup [x, y])) (fun _ _ _ e => e) fT ⟨hp, (by show 2 ≤ sizeLine; decide), [u, v], .cons rx (.cons ry .nil), ⟨_, hp, rfl, _, rfl⟩⟩
    obtain ⟨H', I2, s2, k2, t2⟩ := takeTs F I1 n2 fun T' m => by
      obtain ⟨q1, q2⟩ := hf T' (.tail _ m)
      exact ⟨(upd_ne fun z => n1 (by rw [← z]; exact m)).trans q1, q2⟩
    have sm := same_new (o := .frz { cls := .type "tuple", data := .seq #[u, v] } (.tup [x, y])) hn
    refine ⟨H', I2, fun a o e => s2 a o (sm a o e), fun c m => ?_, .cons (.inl ⟨{ cls := .type "tuple", data := .seq #[u, v] }, s2 _ _ upd_same, rfl, rfl⟩) t2⟩
    rw [List.mem_cons, not_or] at m
    exact (k2 c m.2).trans (upd_ne m.1)
theorem valsV {xs : List V} {us : List Value} {i : Nat} {u : Value} (r : Vals xs us) (e : us[i]? = some u) : ∃ x, xs[i]? = some x ∧ RelV x u := by
  have hl := r.length
  obtain ⟨hi, _⟩ := List.getElem?_eq_some_iff.mp e
  have hx : xs[i]? = some xs[i] := List.getElem?_eq_getElem (by omega)
  obtain ⟨u', e', r'⟩ := r.get hx
  rw [e] at e'
  cases e'
  exact ⟨_, hx, r'⟩
theorem fit_of {xs ys : List V} {us vs : List Value} (rx : Vals xs us) (ry : Vals ys vs) {N : Nat} : ∀ {Ts : List Addr} {k : Nat}, (∀ (j : Nat) (T : Addr), Ts[j]? = some T → ∃ x y, us.toArray[k + j]? = some x ∧ vs.toArray[k + j]? = some y ∧ IsPair h' T x y) → Ts.length + k = min us.length vs.length → Fit h' Ts ((xs.zip ys).drop k)
  | [], k, _, hl => by
    have l1 := rx.length
    have l2 := ry.length
    have : (xs.zip ys).drop k = [] := by
      apply List.drop_eq_nil_of_le
      rw [List.length_zip, l1, l2]
      simp only [List.length_nil] at hl
      omega
    rw [this]
    exact .nil
  | T :: Ts, k, h, hl => by
    obtain ⟨u, v, e1, e2, hp⟩ := h 0 T rfl
    have e1 : us[k]? = some u := by simpa using e1
    have e2 : vs[k]? = some v := by simpa using e2
    obtain ⟨x, ex, r1⟩ := valsV rx e1
    obtain ⟨y, ey, r2⟩ := valsV ry e2
    have ez : (xs.zip ys)[k]? = some (x, y) := by rw [List.getElem?_zip_eq_some]; exact ⟨ex, ey⟩
    have hd : (xs.zip ys).drop k = (x, y) :: (xs.zip ys).drop (k + 1) := by
      obtain ⟨hlt, e⟩ := List.getElem?_eq_some_iff.mp ez
      rw [← e]
      exact List.drop_eq_getElem_cons hlt
    rw [hd]
    exact .cons r1 r2 hp (fit_of rx ry (N := N) (Ts := Ts) (k := k + 1) (fun j T' e => by
      obtain ⟨x', y', q1, q2, q3⟩ := h (j + 1) T' e
      exact ⟨x', y', by rw [show k + 1 + j = k + (j + 1) from by omega]; exact q1, by rw [show k + 1 + j = k + (j + 1) from by omega]; exact q2, q3⟩) (by rw [List.length_cons] at hl; omega))
end
end WnZL
/-! WnZL4: list(zip(t, u)): the rule. -/
namespace WnZL
open PySem PySem.Spec PyProof.Rows L2 Wn
def tListZip (K : PySem.W.Frag) (ta : TA) : TE := fun σ H Q => ta σ H fun vs H1 => ∃ (a b : Addr) (xs ys : List V), vs = [.ref a, .ref b] ∧ SqT K H1 a xs ∧ SqT K H1 b ys ∧ xs.length ≤ 1000 ∧
  ∀ l Ts H2, Same H1 H2 → Tps K H2 Ts (xs.zip ys) → H1 l = none → H2 l = none → Q (.ref l) (upd H2 l (.lst (Ts.map V.ref)))
theorem pe_listZip {X : Cx} {e e2 : Expr} {ta : TA} {p p2 q pos : Pos} (hg : Gl X "list") (hm : X.mg "list" = none) (hg2 : Gl X "zip") (hm2 : X.mg "zip" = none) (ha : PA X [e, e2] ta) (hc : X.calm = true := by rfl)
    (hs : starEach [e, e2] X.env = (false, eval e X.env) :: starEach [e2] X.env := by rfl) (hpl : (backTo q (starEach [e2] X.env)).any (·.1) = false := by rfl) :
    PE X (.Call (.Name "list" p) [.Call (.Name "zip" p2) [e, e2] [] q] [] pos) (tListZip X.K ta) := by
  refine ⟨fun pins s σ H Q I h => ?_⟩
  refine Call_ (ld_blt I hg hm PyProof.Rows.boot_list ?_)
  refine PyProof.Rows.callWith_type1 (PyProof.Rows.args_cons ?_ rfl) rfl rfl
  refine Call_ (ld_blt I hg2 hm2 PyProof.Rows.boot_zip (PyProof.Rows.callWith_type1 (thn (ha.run q pins s σ H _ I h) fun us s1 ⟨vs, H1, I1, r1, q1⟩ => ?_) hs hpl))
  obtain ⟨a, b, xs, ys, ex, hqx, hqy, hl, q1⟩ := q1
  subst ex
  cases r1 with
  | cons r rr =>
    cases rr with
    | cons r' rr =>
      cases rr
      cases r
      cases r'
      obtain ⟨its, rv, p1, _⟩ := I1.tuple hqx
      obtain ⟨its2, rv2, p2', _⟩ := I1.tuple hqy
      obtain ⟨o1, ho1, _⟩ := id p1
      obtain ⟨o2, ho2, _⟩ := id p2'
      have la := Heap.lt_size ho1
      have lb := Heap.lt_size ho2
      have l1 := rv.length
      have l2 := rv2.length
      refine RZ.call_zipT (show s1.heap.IsTuple a its.toArray from p1) (show s1.heap.IsTuple b its2.toArray from p2') fun h1 hz hTI hTO i1 i2 hsz hk => ?_
      refine PyProof.Rows.args_nil ?_
      have hlen : min its.toArray.size its2.toArray.size ≤ sizeLine := by rw [sizeLine_eq, List.size_toArray]; omega
      refine call_list_zip (s := { s1 with heap := h1 }) (I1.ok.hd hc) (PySem.W.ktu_apart s1.heap.objs.size a b la lb) rfl hlen hz ⟨hTI, i1, i2, IsTupleK (fun o => hk a o) p1, IsTupleK (fun o => hk b o) p2', .inl ⟨hz, _, _, hTO⟩⟩ (fun c m => ?_) fun h' Ts c' k2 hL hn gv => ?_
      · show c < h1.objs.size
        rw [hsz]
        have m' : c = s1.heap.objs.size + 4 ∨ c = s1.heap.objs.size + 2 ∨ c = s1.heap.objs.size + 3 ∨ c = s1.heap.objs.size ∨ c = s1.heap.objs.size + 1 ∨ c = a ∨ c = b := by simpa using m
        rcases m' with q | q | q | q | q | q | q
        · rw [q]; exact Nat.lt_succ_self _
        · rw [q]; exact Nat.add_lt_add_left (by decide) _
        · rw [q]; exact Nat.add_lt_add_left (by decide) _
        · rw [q]; exact Nat.lt_add_of_pos_right (by decide)
        · rw [q]; exact Nat.add_lt_add_left (by decide) _
        · rw [q]; exact Nat.lt_of_lt_of_le la (Nat.le_add_right _ _)
        · rw [q]; exact Nat.lt_of_lt_of_le lb (Nat.le_add_right _ _)
      · have ge : ∀ c, c ∈ [s1.heap.objs.size + 4, s1.heap.objs.size + 3, s1.heap.objs.size, s1.heap.objs.size + 1] → s1.heap.objs.size ≤ c := fun c m => by
          have m' : c = s1.heap.objs.size + 4 ∨ c = s1.heap.objs.size + 3 ∨ c = s1.heap.objs.size ∨ c = s1.heap.objs.size + 1 := by simpa using m
          omega
        have kk : ∀ c o, s1.heap.get? c = some o → h'.get? c = some o := fun c o e => k2 c o (fun m => absurd (Heap.lt_size e) (Nat.not_lt.mpr (ge c m))) (hk c o e)
        have I2 : Inv X pins σ H1 { s1 with heap := h' } := I1.kept (t' := s1.toks) kk
        have big : ∀ T ∈ Ts, s1.heap.objs.size ≤ T := fun T m => Nat.le_trans (by rw [hsz]; omega) (gv.bd T m).1
        have fit := fit_of (h' := h') rv rv2 (N := 0) (Ts := Ts) (k := 0) (fun j T e => by
          rw [Nat.zero_add]
          exact gv.at_ j T e) (by rw [hn, List.size_toArray, List.size_toArray]; rfl)
        rw [List.drop_zero] at fit
        obtain ⟨H2, I3, sm, k3, tp⟩ := takeTs fit I2 gv.nd fun T m => I1.fpOk (big T m) (I1.hok.fresh (big T m))
        have hS : s1.heap.objs.size ≤ h1.objs.size := by rw [hsz]; exact Nat.le_add_right _ _
        have n1 : H1 h1.objs.size = none := I1.hok.fresh hS
        have nT : h1.objs.size ∉ Ts := fun m => by
          have := (gv.bd _ m).1
          exact Nat.lt_irrefl _ this
        have n2 : H2 h1.objs.size = none := (k3 _ nT).trans n1
        have I4 := I3.take (t' := s1.toks) (h' := h') (it := h1.objs.size) (o := .lst (Ts.map V.ref)) (fun _ _ _ e => e) (by
          obtain ⟨_, q2⟩ := I1.fpOk (H' := H1) hS n1
          exact ⟨n2, q2⟩) ⟨by rw [List.length_map, hn]; exact hlen, Ts.map Value.ref, c', (by
            clear hL hn gv fit tp big nT n2 I3 k3
            induction Ts with
            | nil => exact .nil
            | cons T Ts ih => exact .cons rfl ih), hL⟩
        exact ⟨.ref h1.objs.size, _, I4, rfl, q1 _ Ts H2 sm tp n1 n2⟩
end WnZL
/-! Rl: list(zip(t, u)). -/
namespace Rl
open PySem PySem.Spec PyProof.Rows L2 Wn WnZL
section
variable {g : G} {W : WX} {t : Fr} {X : Cx} {pos : Pos} {a b c e : Expr} {pa pb pc : PEx} {pas : PAs} {σ : L2.St} {H H1 : Hp}
theorem tps_ru : ∀ {Ts : List Addr} {xs ys : List V} {us ws : List U}, Tps g.K H Ts (xs.zip ys) → RUs g H xs us → RUs g H ys ws → RUs g H (Ts.map V.ref) ((zipU us ws).map .tup)
  | _, _, _, _, _, h, .nil, _ => by cases h; exact .nil
  | _, _, _, _, _, h, .cons _ _, .nil => by cases h; exact .nil
  | _, _, _, _, _, h, .cons a r, .cons b q => by
    cases h with
    | cons p h => exact .cons (.tup p (.cons a (.cons b .nil))) (tps_ru h r q)
def fListZip : List R → Option R
  | [.im (.tup xs), .im (.tup ys)] => if xs.length ≤ 1000 then some (.fr (.ol (((zipU xs ys).map .tup).map .lf))) else none
  | _ => none
theorem ue_listZip (h : PE X e (tListZip g.K (lA g W t pas))) : PE X e (lE g W t (pFn fListZip pas)) := by
  refine PE.imp h fun σ H Q h => ?_
  obtain ⟨ρ, sS, h⟩ := h
  refine ⟨ρ, sS, post_mono (fun rs hr vs H1 A x1 b1 r1 n1 f1 => ?_) (fun e x => x) (post_bind.mp h)⟩
  obtain ⟨c, ec, q⟩ := post_opt hr
  match rs, ec, r1 with
  | [.im (.tup xs), .im (.tup ys)], ec, r1 =>
    change (if _ then _ else _) = _ at ec
    by_cases hl : xs.length ≤ 1000
    · rw [if_pos hl] at ec
      cases ec
      obtain ⟨v, w, _, _, rfl, ⟨_, h1⟩, ⟨_, h2⟩, _⟩ := vals_two r1
      cases h1 with
      | @tup a1 vs1 _ p1 p2 =>
        cases h2 with
        | @tup a2 vs2 _ p3 p4 =>
          refine ⟨a1, a2, vs1, vs2, rfl, p1.sq, p3.sq, by rw [p2.len]; exact hl, fun l Ts H2 sm tp n1' n2' => ?_⟩
          have ru := tps_ru tp (p2.mono (kp_same sm)) (p4.mono (kp_same sm))
          have sm2 := same_new (o := .lst (Ts.map V.ref)) n2'
          have x12 := x1.trans (.of sm)
          refine q _ _ [l] (x12.trans (.of sm2)) ((b1.same sm).same sm2) ⟨.ol upd_same (to_leafs (ru.mono (kp_same sm2))), fun a m => ?_⟩ (by simp) fun a m => ?_
          · rw [List.mem_singleton.mp m]
            exact b1.nb n1'
          · rw [List.mem_singleton.mp m]
            exact x1.back b1 n1'
    · rw [if_neg hl] at ec; cases ec
end
end Rl
/-! Rl: methods of an object that a name owns. -/
namespace Rl
open PySem PySem.Spec PyProof.Rows L2 Wn
section
variable {g : G} {W : WX} {t : Fr} {X : Cx} {pos : Pos} {a b c e : Expr} {pa pb pc : PEx} {pas : PAs} {σ : L2.St} {H H1 : Hp}
theorem us_mcX' {st : Stmt} {i k n : Nat} {fn : List O → List U → Res (List O × U)} {m : Str} {tA : TA} (hA : ∀ σ H Q, lA g W t pas σ H Q → tA σ H Q) (hm : m ∉ (g.ct k).ns) (h : PS X st (tDrop (tMethX (g.ct k).C m (spM g k n fn) (WE W) (tVar i) tA))) : PS X st (lS g W t (pMc i k n fn pas)) := by
  refine PS.imp h fun D σ H h => ?_
  obtain ⟨ρ, sS, h⟩ := h
  obtain ⟨os, e1, h⟩ := oi_at (f := fun os => (pas ρ).bind fun rs => (Res.opt (argU n rs)).bind fun us => (fn os us).bind fun p => Res.ok (Out.nx (ρ.set i (.ow (.oi k p.1))))) h
  obtain ⟨A, s1, -, -⟩ := sS.sl
  obtain ⟨v, B, g1, g2, -⟩ := s1.atOw e1
  cases g2 with
  | oi h1 hn h2 =>
    rename_i ad dx fs A2
    have hno : m ∉ fs.map Prod.fst := by
      rw [hn]
      exact fun z => hm ((List.take_sublist _ _).subset z)
    refine ⟨.ref ad, g1, ad, dx, fs, rfl, h1, lookup_no hno, hA _ _ _ ⟨ρ, sS, post_mono (fun rs hr vs H1 A x1 b1 r1 n1 f1 => ?_) (fun e x => x.wx sS) (post_bind.mp h)⟩⟩
    obtain ⟨us, eu, hf⟩ := post_opt (post_bind.mp hr)
    obtain ⟨ru, hl⟩ := argU_of r1 eu
    obtain ⟨ad', z1, z2⟩ := mc_core (Q := fun v H2 => D.nx σ H2) (E := WE W σ) sS x1 b1 e1 ru hl (fun v H2 ρ' k s q => q σ H2 k s) (fun e dd H2 ρ' k s d x => x dd ρ' σ H2 k s d) hf
    have ea : ad' = ad := by rw [g1] at z1; cases z1; rfl
    subst ea
    exact z2
theorem us_mcX {st : Stmt} {i k n : Nat} {fn : List O → List U → Res (List O × U)} {m : Str} (hm : m ∉ (g.ct k).ns) (h : PS X st (tDrop (tMethX (g.ct k).C m (spM g k n fn) (WE W) (tVar i) (lA g W t pas)))) : PS X st (lS g W t (pMc i k n fn pas)) := us_mcX' (fun _ _ _ h => h) hm h
theorem us_mcX0 {st : Stmt} {i k n : Nat} {fn : List O → List U → Res (List O × U)} {m : Str} (hm : m ∉ (g.ct k).ns) (h : PS X st (tDrop (tMethX (g.ct k).C m (spM g k n fn) (WE W) (tVar i) tNil))) : PS X st (lS g W t (pMc i k n fn pNil)) := us_mcX' (tA := tNil) (fun _ _ _ h => lnilA h) hm h
theorem us_mcF1 {st : Stmt} {i k n : Nat} {fn : List O → List U → Res (List O × U)} (h : PS X st (tDrop (tCallS (spM g k n fn) (WE W) (tCons (tVar i) (lA g W t pas))))) : PS X st (lS g W t (pMc i k n fn pas)) := us_mcF (fun _ _ _ h => h) h
theorem us_mcF0 {st : Stmt} {i k n : Nat} {fn : List O → List U → Res (List O × U)} (h : PS X st (tDrop (tCallS (spM g k n fn) (WE W) (tCons (tVar i) tNil)))) : PS X st (lS g W t (pMc i k n fn pNil)) := us_mcF (tA := tNil) (fun _ _ _ h => lnilA h) h
theorem ue_mbX' {i k n : Nat} {fn : List O → List U → Res R} {m : Str} {tA : TA} (hA : ∀ σ H Q, lA g W t pas σ H Q → tA σ H Q) (hm : m ∉ (g.ct k).ns) (h : PE X e (tMethX (g.ct k).C m (spB g k n fn) (WE W) (tVar i) tA)) : PE X e (lE g W t (pMb i k n fn pas)) := by
  refine PE.imp h fun σ H Q h => ?_
  obtain ⟨ρ, sS, h⟩ := h
  obtain ⟨os, e1, h⟩ := oi_at (f := fun os => (pas ρ).bind fun rs => (Res.opt (argU n rs)).bind fun us => fn os us) h
  obtain ⟨v, B, g1, g2, -, g3, g4, -, -⟩ := sS.putG (Ext.refl H) sS.bx e1
  have g2' := g2
  cases g2 with
  | oi h1 hn h2 =>
    rename_i ad dx fs A2
    have hno : m ∉ fs.map Prod.fst := by
      rw [hn]
      exact fun z => hm ((List.take_sublist _ _).subset z)
    refine ⟨.ref ad, g1, ad, dx, fs, rfl, h1, lookup_no hno, hA _ _ _ ⟨ρ, sS, post_mono (fun rs hr vs H1 A x1 b1 r1 n1 f1 => ?_) (fun e x => x) (post_bind.mp h)⟩⟩
    obtain ⟨us, eu, hf⟩ := post_opt (post_bind.mp hr)
    obtain ⟨ru, hl⟩ := argU_of r1 eu
    exact ⟨ad, vs, us, os, _, rfl, ru, hl, b1, g2'.ext x1 fun y m => (g4 y m).2, g3, fun y m => (g4 y m).2, post_mono (fun r hr v H2 C x2 b2 r2 n2 f2 => hr v H2 C (x1.trans x2) b2 r2 n2 fun y m => x1.back b1 (f2 y m)) (fun e x dd H2 x2 b2 d => x dd H2 (x1.trans x2) b2 d) hf⟩
theorem ue_mbX {i k n : Nat} {fn : List O → List U → Res R} {m : Str} (hm : m ∉ (g.ct k).ns) (h : PE X e (tMethX (g.ct k).C m (spB g k n fn) (WE W) (tVar i) (lA g W t pas))) : PE X e (lE g W t (pMb i k n fn pas)) := ue_mbX' (fun _ _ _ h => h) hm h
theorem ue_mbX0 {i k n : Nat} {fn : List O → List U → Res R} {m : Str} (hm : m ∉ (g.ct k).ns) (h : PE X e (tMethX (g.ct k).C m (spB g k n fn) (WE W) (tVar i) tNil)) : PE X e (lE g W t (pMb i k n fn pNil)) := ue_mbX' (tA := tNil) (fun _ _ _ h => lnilA h) hm h
end
end Rl
/-! Rl: a try with one clause without a name. -/
namespace Rl
open PySem PySem.Spec PyProof.Rows L2 Wn
def pTryO (ks : List Nat) (body : PSt) (k : Nat) (ph : PSt) : PSt := fun ρ => (body ρ).catch fun e => if e.c ∈ ks then (if e.c = k then (ph ρ).calm else .ex e) else .st
section
variable {g : G} {W : WX} {t : Fr} {X : Cx} {pos : Pos} {σ : L2.St} {H : Hp}
theorem ltryO {D : Ends} {body ph : PSt} {ks : List Nat} {k : Nat} (ok : XOk g ks) (hk : k ∈ ks) (h : lS g W t (pTryO ks body k ph) D σ H) :
    lS1 g (wOnly g.K (.ref (g.xt k).C) (fun _ _ _ => lS g W0 t ph) W D) t body D σ H := by
  obtain ⟨ρ, sS, h⟩ := h
  refine ⟨ρ, sS, post_mono (fun a h => h) (fun e h => ?_) (post_catch h)⟩
  by_cases hc : e.c ∈ ks
  · rw [if_pos hc] at h
    intro dd σ' H' kp s d
    refine ⟨e.c == k, ok _ hc _ hk, fun q a na => ?_, fun q => ?_⟩
    · rw [if_pos (beq_iff_eq.mp q)] at h
      refine ⟨ρ, s, post_mono (fun o ho => ?_) (fun e x => x.elim) (post_calm.mp h)⟩
      exact oS.back kp ho
    · rw [if_neg (beq_eq_false_iff_ne.mp q)] at h
      exact h dd ρ σ' H' kp s d
  · rw [if_neg hc] at h; exact h.elim
theorem us_tryO {x : Str} {body suite : List Stmt} {b₀ : Stmt} {np pos' : Pos} {bp ph : PSt} {ks : List Nat} {k : Nat} (eK : X.K = g.K) (ok : XOk g ks) (hk : k ∈ ks) (hs : X.stack = X.env :: X.outer) (hf : X.env.frame = some X.env.locals) (hc : Names X x (.ref (g.xt k).C)) (tk : Takes X W)
    (hb : ∀ (W' : WX) (pn : List (Addr × Obj)) (xe : Value → Shared → Prop), Takes (X.tr pn xe) W' → PassesOwn (model X.prog X.w) X.A X.env xe → PSs (X.tr pn xe) body (lS1 g W' t bp))
    (hsu : ∀ (a : Addr) (oe : Obj) (pn : List (Addr × Obj)), PSs (X.suite a ((a, oe) :: pn)) (b₀ :: suite) (lS g W0 t ph)) :
    PS X (.Try body [.ExceptHandler (some (.Name x np)) none (b₀ :: suite) pos'] [] [] pos) (lS g W t (pTryO ks bp k ph)) := by
  have h := ps_try_only (pos := pos) (np := np) (pos' := pos') (tb := fun W' => lS1 g W' t bp) (ts := fun _ _ _ => lS g W0 t ph) hs hf hc tk hb fun a oe _ _ pn _ _ => hsu a oe pn
  rw [eK] at h
  exact PS.imp h fun D σ H q => ltryO ok hk q
end
end Rl
/-! Rl: is not, of flags. -/
namespace Rl
open PySem PySem.Spec PyProof.Rows L2 Wn
section
variable {g : G}
def pNotB (a b : R) : Option R := match a, b with
  | .im (.bl x), .im (.bl y) => some (.im (.bl (!decide (x = y))))
  | _, _ => none
theorem snd_notB : Snd2 g rNotB pNotB := by
  intro H v w a b c A B Q bx ra rb e q
  unfold pNotB at e
  split at e
  · cases e
    obtain ⟨_, ra⟩ := ra
    obtain ⟨_, rb⟩ := rb
    cases ra
    cases rb
    exact ⟨_, _, rfl, rfl, imQ q (.bl _)⟩
  · cases e
end
end Rl
/-! Rl: a try of several statements, of which the first one alone may raise. -/
namespace Rl
open PySem PySem.Spec PyProof.Rows L2 Wn
def pSeqC (p q : PSt) : PSt := fun ρ => (p ρ).bind fun o => match o with
  | .nx ρ' => (q ρ').calm
  | o => .ok o
section
variable {g : G} {W : WX} {t : Fr} {X : Cx} {pos : Pos} {σ : L2.St} {H : Hp}
theorem lseq1 {p q : PSt} {D : Ends} (h : lS1 g W t (pSeqC p q) D σ H) : tSeq (lS1 g W t p) (lS g W0 t q) D σ H := by
  obtain ⟨ρ, sS, h⟩ := h
  refine ⟨ρ, sS, post_mono (fun o ho => ?_) (fun e x => x) (post_bind.mp h)⟩
  cases o with
  | nx ρ' => exact fun σ' H' k s => ⟨ρ', s, post_mono (fun o h => oS.back k h) (fun e h => h.elim) (post_calm.mp ho)⟩
  | rt r ρ' => exact ho
  | bk ρ' => exact ho
  | ct ρ' => exact ho
theorem u1_cons {a : Stmt} {l : List Stmt} {p q : PSt} (h : PS X a (lS1 g W t p)) (hl : PSs X l (lS g W0 t q)) : PSs X (a :: l) (lS1 g W t (pSeqC p q)) :=
  PSs.imp (pss_cons h hl) fun _ _ _ h => lseq1 h
end
end Rl
/-! Rl: two lists put together, known or not. -/
namespace Rl
open PySem PySem.Spec PyProof.Rows L2 Wn
def rCatL (K : PySem.W.Frag) : R2 := fun x y H Q => ∃ a b xs ys, x = .ref a ∧ y = .ref b ∧ SqL K H a xs ∧ SqL K H b ys ∧ xs.length + ys.length ≤ sizeLine ∧ ∀ p, H p = none → Q (.ref p) (upd H p (.lst (xs ++ ys)))
theorem op_addLU {X : Cx} {K : PySem.W.Frag} (e : X.K = K) : OpR X (binaryOp .Add) (rCatL K) := by
  subst e
  intro pins s σ H x y v u Q I rx ry h
  obtain ⟨a, b, xs, ys, rfl, rfl, ha, hb, hz, q⟩ := h
  cases rx
  cases ry
  obtain ⟨its, r1, p1, _⟩ := I.list ha
  obtain ⟨its2, r2, p2, _⟩ := I.list hb
  obtain ⟨⟨cls, dd, data, sl⟩, ho, hc, n, hd⟩ := p1.isList
  obtain ⟨⟨cls2, dd2, data2, sl2⟩, ho2, hc2, n2, hd2⟩ := p2.isList
  simp only at hc hd hc2 hd2
  subst hc hd hc2 hd2
  have l1 := r1.length
  have l2 := r2.length
  refine concat_meets ⟨_, ho, rfl⟩ ⟨_, ho2, rfl⟩ noFill_list_add seq_list_add PySem.F.slot_list_add PySem.F.entry_list_add (PySem.F.args_list_add_2 _ _) (list_addW a b its.toArray its2.toArray n n2 dd dd2 sl sl2 (by rw [List.size_toArray, List.size_toArray]; omega)) ⟨ho, ho2, ?_⟩
  have ea : its.toArray ++ its2.toArray = (its ++ its2).toArray := by simp
  rw [ea]
  exact ⟨.ref _, _, I.lnew (t' := s.toks) (r1.append r2) (by rw [List.length_append]; omega), rfl, q _ I.fresh⟩
def pAddM (a b : R) : Option R := (lstR a).bind fun x => (lstR b).bind fun y => if x.length + y.length ≤ 100000 then some (.fr (.ol ((x ++ y).map .lf))) else none
theorem snd_addM {g : G} : Snd2 g (rCatL g.K) pAddM := by
  intro H v w a b c A B Q bx ra rb e q
  unfold pAddM at e
  cases h1 : lstR a with
  | none => rw [h1] at e; cases e
  | some x =>
    cases h2 : lstR b with
    | none => rw [h1, h2] at e; cases e
    | some y =>
      rw [h1, h2] at e
      change (if _ then _ else _) = _ at e
      by_cases hl : x.length + y.length ≤ 100000
      · rw [if_pos hl] at e
        cases e
        obtain ⟨p, vs, rfl, h3, h4⟩ := ra.lst h1
        obtain ⟨p', ws, rfl, h5, h6⟩ := rb.lst h2
        exact ⟨p, p', vs, ws, rfl, rfl, h3, h5, by rw [h4.len, h6.len]; exact sz5 hl, fun l nl => frQ bx q nl (h4.append h6)⟩
      · rw [if_neg hl] at e; cases e
end Rl
/-! Wn: an own exception class without own __init__, made with nothing. -/
namespace Wn
open PySem PySem.Spec PyProof.Rows L2
section
variable {X : Cx} {C : Addr} {bmB : List Value} {B newId initId : String}
/-- C() -/
theorem pmk_own0 {x : Str} {p pos : Pos} (F : ExcBaseFacts B newId initId bmB) (q : PySem.W.excIn X.K C bmB newId = true) (gC : X.mg x = some (.ref C)) (kC : PySem.W.keepIn X.K (.ref C) = true) (r : Raises X (.ref C)) (hg : Gl X x)
    (hdb : (x == ("__debug__" : Str)) = false := by decide) : PMk X (.Call (.Name x p) [] [] pos) (fun _ H Q => Q (.ref C) none H) := by
  intro pins s σ H Q I h
  refine wpAny_Call_Name_kw (ld_glob I hg gC ?_ hdb)
  refine PySem.W.callWith_K0 I.kIn kC ?_
  show wpAny _ _ (call (.ref C) []) _ _ _
  obtain ⟨bm, N, nm, qn, bs, hdct, sn, sub, ab, col, dd, k0, k1, k2, k3, k5, mN, hC, hN, hni, T⟩ := exc_obj I.kIn q
  refine wpAny_call_exc_subT F T hC hN hni (fun h' e hm => ?_) (Nat.zero_le _)
  exact mk_of I hm r h (I.hok.gone hm.new)
end
/-- what the written part tells of an own exception class without own __init__ -/
structure XCls0 (K : PySem.W.Frag) (D : Addr) : Prop where
  c : ExcC K D
  q : PySem.W.excIn K D [.type "ValueError", .type "Exception", .type "BaseException", .type "object"] "ValueError.__new__" = true
  kC : PySem.W.keepIn K (.ref D) = true
  tyC : PySem.W.typeIn K (.ref D) = some (.type "type")
end Wn
/-! Rl: an error without values, raised. -/
namespace Rl
open PySem PySem.Spec PyProof.Rows L2 Wn
section
variable {g : G} {W : WX} {t : Fr} {X : Cx}
theorem us_raise0 {st : Stmt} {c : Nat} (hn : (g.xt c).ns = []) (h : PS X st (fun _ σ H => W (.ref (g.xt c).C) none σ H)) : PS X st (lS g W t (pRz c 0 pNil)) := by
  refine PS.imp h fun D σ H h => ?_
  obtain ⟨ρ, sS, h⟩ := h
  have h : xS g W t H ⟨c, []⟩ := h
  exact h none ρ σ H (Kp.refl H) sS (.no hn)
/-- what is raised by C() -/
theorem pmk_e0 {K : PySem.W.Frag} {C : Addr} (T : XCls0 K C) (eK : X.K = K) {x : Str} {p pos : Pos} (gC : X.mg x = some (.ref C)) (hg : Gl X x) (hdb : (x == ("__debug__" : Str)) = false := by decide) :
    PMk X (.Call (.Name x p) [] [] pos) (fun _ H Q => Q (.ref C) none H) := by
  subst eK
  exact pmk_own0 PySem.F.excBase_ValueError T.q gC T.kC (raises_own T.c.hs T.tyC) hg hdb
def ph0 (f : PSt) : List U → PSt
  | [] => f
  | _ => fun _ => .st
theorem uh0 {sts : List Stmt} {k i : Nat} {f : PSt} {a : Addr} {cls : Value} {d : Option Addr} (h : ∀ dd, cls = .ref (g.xt k).C → d = dd → PSs X sts (lS g W0 (tH t i a dd k []) f)) : PSs X sts (lH g t k i (ph0 f) a cls d) :=
  uh fun dd us hc hd => match us with
    | [] => h dd hc hd
    | _ :: _ => us_st
end
end Rl
/-! Rl: defs that change trees that several arguments own. -/
namespace Rl
open PySem PySem.Spec PyProof.Rows L2 Wn
abbrev WArg := Nat ⊕ R
/-- the arguments as slots; what a name owns is taken out of its slot -/
def argS : List WArg → List Sl → Option (List Sl × List Sl)
  | [], ρ => some ([], ρ)
  | .inl i :: as, ρ => match (ρ[i]? : Option Sl) with
    | some (.ow o) => (argS as (ρ.set i .un)).map fun p => (.ow o :: p.1, p.2)
    | _ => none
  | .inr (.im u) :: as, ρ => (argS as ρ).map fun p => (.im u :: p.1, p.2)
  | .inr (.fr o) :: as, ρ => (argS as ρ).map fun p => (.ow o :: p.1, p.2)
  | .inr (.br _) :: _, _ => none
/-- what the names own behind the call -/
def putS : List WArg → Env → Env → Option Env
  | [], ρ, _ => some ρ
  | .inl i :: as, ρ, .ow o :: rs => putS as (ρ.set i (.ow o)) rs
  | .inr _ :: as, ρ, _ :: rs => putS as ρ rs
  | _, _, _ => none
/-- what the arguments hold at a def's end: what was owned is looked up -/
def endS : Env → Env → Option Env
  | [], _ => some []
  | .ow _ :: ρ0, .ow o :: ρ => (endS ρ0 ρ).map (.ow o :: ·)
  | .im u :: ρ0, _ :: ρ => (endS ρ0 ρ).map (.im u :: ·)
  | _, _ => none
inductive WVs (g : G) (H : Hp) (σ : L2.St) : List V → List WArg → List Addr → Prop
  | nil : WVs g H σ [] [] []
  | own {v : V} {vs : List V} {i : Nat} {as : List WArg} {B : List Addr} : σ[i]? = some (some v) → WVs g H σ vs as B → WVs g H σ (v :: vs) (.inl i :: as) B
  | val {v : V} {vs : List V} {r : R} {as : List WArg} {A B : List Addr} : RV g H v r A → WVs g H σ vs as B → WVs g H σ (v :: vs) (.inr r :: as) (A ++ B)
abbrev PWs := Env → Res (List WArg)
def pwNil : PWs := fun _ => .ok []
def pwOwn (i : Nat) (b : PWs) : PWs := fun (ρ : List Sl) =>
  match (ρ[i]? : Option Sl) with
  | some (.ow _) => (b ρ).bind fun xs => .ok (.inl i :: xs)
  | _ => .st
def pwVal (a : PEx) (b : PWs) : PWs := fun ρ => (a ρ).bind fun x => (b ρ).bind fun xs => .ok (.inr x :: xs)
/-- the pins of the slots qs -/
def pinsOf (qs : List Nat) (vs : List V) : List (Nat × V) := qs.filterMap fun q => (vs[q]?).map fun v => (q, v)
def ownQ : Env → Nat → List Nat
  | [], _ => []
  | .ow _ :: ρ, k => k :: ownQ ρ (k + 1)
  | _ :: ρ, k => ownQ ρ (k + 1)
/-- what a def promises that changes what its arguments own -/
def spW (g : G) (n : Nat) (qs : List Nat) (fn : Env → Res (Env × U)) : Sp := fun vs H Q E => ∃ ρ A, Slots g H (vs.map some) ρ A ∧ A.Nodup ∧ (∀ y ∈ A, Nb g y) ∧ ρ.length = n ∧ ownQ ρ 0 = qs ∧ BoxR g H ∧
  (fn ρ).post (fun p => ∀ v H' B, Fm g A H H' → Kp g H H' → Th H H' → BoxR g H' → Slots g H' (vs.map some) p.1 B → B.Nodup → (∀ y ∈ B, y ∈ A ∨ (H y = none ∧ Nb g y)) → RU g H' v p.2 → Q v H') (fun e => ∀ dd H', Fm g A H H' → Kp g H H' → Th H H' → BoxR g H' → Xd g H' dd e → E (.ref (g.xt e.c).C) dd H')
def endW (ρ0 : Env) (o : Out) : Res (Env × U) :=
  match o with
  | .nx ρ => (Res.opt (endS ρ0 ρ)).bind fun r => .ok (r, .non)
  | .rt r ρ => (Res.opt (imR r)).bind fun u => (Res.opt (endS ρ0 ρ)).bind fun r => .ok (r, u)
  | _ => .st
def runW (body : PSt) (m : Nat) (ρ0 : Env) : Res (Env × U) := (body (ρ0 ++ List.replicate m .un)).bind (endW ρ0)
section
variable {g : G} {W : WX} {t : Fr} {X : Cx} {pos : Pos} {a b c e : Expr} {pa pb pc : PEx} {pas : PAs} {σ : L2.St} {H H1 : Hp}
theorem Slots.app {H : Hp} {m : Nat} : ∀ {σ : List (Option V)} {ρ : Env} {A : List Addr}, Slots g H σ ρ A → Slots g H (σ ++ List.replicate m none) (ρ ++ List.replicate m .un) A
  | _, _, _, .nil => slots_un m
  | _, _, _, .un h => .un h.app
  | _, _, _, .im r h => .im r h.app
  | _, _, _, .ow r h => .ow r h.app
/-- what the arguments hold at the end -/
theorem end_slots {H H' : Hp} (k : Kp g H H') : ∀ {vs : List V} {σ : List (Option V)} {ρ0 ρ res : Env} {A0 A : List Addr}, Slots g H (vs.map some) ρ0 A0 → Slots g H' σ ρ A →
    (∀ (i : Nat) (o : O), (ρ0[i]? : Option Sl) = some (Sl.ow o) → ∃ v, vs[i]? = some v ∧ σ[i]? = some (some v)) → endS ρ0 ρ = some res → ∃ B, Slots g H' (vs.map some) res B ∧ B.Sublist A
  | [], _, _, _, _, _, _, .nil, _, _, e => by cases e; exact ⟨[], .nil, List.nil_sublist _⟩
  | v :: vs, _, _, _, _, _, _, .un h, s, hp, e => by cases s <;> cases e
  | v :: vs, _, _, _, _, _, _, .im r h, s, hp, e => by
    have go : ∀ {u x σ ρ0 ρ A0 A A1 res} (r : RU g H v u), Slots g H (vs.map some) ρ0 A0 → Slots g H' σ ρ A → A.Sublist A1 → (∀ (i : Nat) (o : O), ((Sl.im u :: ρ0 : List Sl)[i]? : Option Sl) = some (Sl.ow o) → ∃ v', (v :: vs)[i]? = some v' ∧ ((x : Option V) :: σ)[i]? = some (some v')) → (endS ρ0 ρ).map (Sl.im u :: ·) = some res → ∃ B, Slots g H' ((v :: vs).map some) res B ∧ B.Sublist A1 := fun r h s sub hp e => by
      obtain ⟨res', e1, rfl⟩ := map_some e
      obtain ⟨B, h1, h2⟩ := end_slots k h s (fun i o hi => by
        obtain ⟨v', a, b⟩ := hp (i + 1) o (by simpa using hi)
        exact ⟨v', by simpa using a, by simpa using b⟩) e1
      exact ⟨B, .im (r.mono k) h1, h2.trans sub⟩
    cases s with
    | nil => cases e
    | un s => exact go r h s (List.Sublist.refl _) hp e
    | im r2 s => exact go r h s (List.Sublist.refl _) hp e
    | ow r2 s => exact go r h s (List.sublist_append_right _ _) hp e
  | v :: vs, _, _, _, _, _, _, .ow r h, s, hp, e => by
    cases s with
    | nil => cases e
    | un s => cases e
    | im r2 s => cases e
    | ow r2 s =>
      obtain ⟨res', e1, rfl⟩ := map_some e
      obtain ⟨B, h1, h2⟩ := end_slots k h s (fun i o hi => by
        obtain ⟨v', a, b⟩ := hp (i + 1) o (by simpa using hi)
        exact ⟨v', by simpa using a, by simpa using b⟩) e1
      obtain ⟨v', a, b⟩ := hp 0 _ rfl
      have ev : v' = v := by simpa using a.symm
      subst ev
      have ev2 := Option.some.inj (Option.some.inj b)
      subst ev2
      exact ⟨_, .ow r2 h1, List.Sublist.append_left h2 _⟩
theorem ownQ_mem : ∀ {ρ : List Sl} {k i : Nat} {o : O}, (ρ[i]? : Option Sl) = some (Sl.ow o) → k + i ∈ ownQ ρ k
  | [], _, _, _, e => by simp at e
  | .ow _ :: ρ, k, 0, _, e => .head _
  | .un :: ρ, k, 0, _, e => by simp at e
  | .im _ :: ρ, k, 0, _, e => by simp at e
  | .ow _ :: ρ, k, i + 1, _, e => by
    have := ownQ_mem (k := k + 1) (i := i) (by simpa using e)
    exact .tail _ (by rw [show k + (i + 1) = k + 1 + i by omega]; exact this)
  | .un :: ρ, k, i + 1, _, e => by
    have := ownQ_mem (k := k + 1) (i := i) (by simpa using e)
    show k + (i + 1) ∈ ownQ ρ (k + 1)
    rw [show k + (i + 1) = k + 1 + i by omega]; exact this
  | .im _ :: ρ, k, i + 1, _, e => by
    have := ownQ_mem (k := k + 1) (i := i) (by simpa using e)
    show k + (i + 1) ∈ ownQ ρ (k + 1)
    rw [show k + (i + 1) = k + 1 + i by omega]; exact this
theorem pins_fst {qs : List Nat} {vs : List V} (h : ∀ q ∈ qs, q < vs.length) : (pinsOf qs vs).map Prod.fst = qs := by
  induction qs with
  | nil => rfl
  | cons q qs ih =>
    have e := List.getElem?_eq_getElem (h q (.head _))
    have : pinsOf (q :: qs) vs = (q, vs[q]'(h q (.head _))) :: pinsOf qs vs := by
      unfold pinsOf
      rw [List.filterMap_cons, e]
      rfl
    rw [this, List.map_cons, ih fun q' m => h q' (.tail _ m)]
theorem pins_mem {qs : List Nat} {vs : List V} {p : Nat × V} (h : p ∈ pinsOf qs vs) : vs[p.1]? = some p.2 := by
  unfold pinsOf at h
  obtain ⟨q, _, e⟩ := List.mem_filterMap.mp h
  cases e2 : vs[q]? with
  | none => rw [e2] at e; cases e
  | some v => rw [e2] at e; cases e; exact e2
theorem mem_pins {qs : List Nat} {vs : List V} {q : Nat} {v : V} (h : q ∈ qs) (e : vs[q]? = some v) : (q, v) ∈ pinsOf qs vs := List.mem_filterMap.mpr ⟨q, h, by rw [e]; rfl⟩
theorem ownQ_lt : ∀ {ρ : Env} {k q : Nat}, q ∈ ownQ ρ k → q < k + ρ.length
  | .ow _ :: ρ, k, q, m => by
    rcases List.mem_cons.mp m with rfl | m
    · show q < q + (ρ.length + 1); omega
    · have := ownQ_lt m; show q < k + (ρ.length + 1); omega
  | .un :: ρ, k, q, m => by have := ownQ_lt (ρ := ρ) (k := k + 1) m; show q < k + (ρ.length + 1); omega
  | .im _ :: ρ, k, q, m => by have := ownQ_lt (ρ := ρ) (k := k + 1) m; show q < k + (ρ.length + 1); omega
theorem S.startW {H : Hp} {vs : List V} {ρ0 : Env} {N : List Str} {m : Nat} {A : List Addr} {qs : List Nat} (r : Slots g H (vs.map some) ρ0 A) (b : BoxR g H) (nd : A.Nodup) (nb : ∀ y ∈ A, Nb g y) (hm : N.length - vs.length = m) :
    S g ⟨H, A ++ boxM g, pinsOf qs vs, []⟩ (ρ0 ++ List.replicate m .un) (L2.start N vs) H where
  sl := ⟨A, by
    unfold L2.start
    rw [hm]
    exact r.app, nd, fun a m => ⟨.inl (List.mem_append_left _ m), nb a m⟩⟩
  bx := b
  fr := fun _ _ h _ => h
  kp := Kp.refl H
  th := fun _ o h => ⟨o, h⟩
  ps := fun p m => by
    have e := pins_mem m
    unfold L2.start
    obtain ⟨hl, -⟩ := List.getElem?_eq_some_iff.mp e
    rw [List.getElem?_append_left (by rw [List.length_map]; exact hl), List.getElem?_map, e]
    rfl
  bm := fun b c h => List.mem_append_right _ (by unfold boxM; rw [h]; exact .head _)
  xd := fun p m => nomatch m
theorem w_end {H : Hp} {vs : List V} {ρ0 : Env} {m : Nat} {A : List Addr} {body : PSt} {Q : VK} {E : XK} {N : List Str} {qs : List Nat} (r : Slots g H (vs.map some) ρ0 A) (b : BoxR g H) (nd : A.Nodup) (nb : ∀ y ∈ A, Nb g y) (hN : N.length - vs.length = m) (hq : ownQ ρ0 0 = qs)
    (h : (runW body m ρ0).post (fun p => ∀ v H' B, Fm g A H H' → Kp g H H' → Th H H' → BoxR g H' → Slots g H' (vs.map some) p.1 B → B.Nodup → (∀ y ∈ B, y ∈ A ∨ (H y = none ∧ Nb g y)) → RU g H' v p.2 → Q v H') (fun e => ∀ dd H', Fm g A H H' → Kp g H H' → Th H H' → BoxR g H' → Xd g H' dd e → E (.ref (g.xt e.c).C) dd H')) :
    lS g (fun c d _ H' => E c d H') ⟨H, A ++ boxM g, pinsOf qs vs, []⟩ body { nx := fun _ H' => Q .non H', rt := Q } (L2.start N vs) H := by
  have fin : ∀ (u : U) (ρ : Env) (σ' : L2.St) (H' : Hp) (v : V), S g ⟨H, A ++ boxM g, pinsOf qs vs, []⟩ ρ σ' H' → RU g H' v u →
      ((Res.opt (endS ρ0 ρ)).bind fun r => Res.ok (r, u)).post (fun p => ∀ v H' B, Fm g A H H' → Kp g H H' → Th H H' → BoxR g H' → Slots g H' (vs.map some) p.1 B → B.Nodup → (∀ y ∈ B, y ∈ A ∨ (H y = none ∧ Nb g y)) → RU g H' v p.2 → Q v H') (fun e => ∀ dd H', Fm g A H H' → Kp g H H' → Th H H' → BoxR g H' → Xd g H' dd e → E (.ref (g.xt e.c).C) dd H') → Q v H' := fun u ρ σ' H' v s ru ho => by
    obtain ⟨res, er, ho⟩ := post_opt (post_bind.mp ho)
    obtain ⟨A1, s1, s2, s3⟩ := s.sl
    obtain ⟨B, g1, g2⟩ := end_slots s.kp r s1 (fun i o hi => by
      have mq : i ∈ qs := by rw [← hq]; have := ownQ_mem (k := 0) hi; rwa [Nat.zero_add] at this
      have hl : i < vs.length := by
        have := r.len
        rw [List.length_map] at this
        rw [this]
        exact (List.getElem?_eq_some_iff.mp hi).1
      have ev := List.getElem?_eq_getElem hl
      exact ⟨_, ev, s.ps _ (mem_pins mq ev)⟩) er
    refine ho v H' B s.fm s.kp s.th s.bx g1 (g2.nodup s2) (fun y m => ?_) ru
    obtain ⟨q1, q2⟩ := s3 y (g2.subset m)
    rcases q1 with q1 | q1
    · rcases List.mem_append.mp q1 with z | z
      · exact .inl z
      · exact (boxM_nb z q2).elim
    · exact .inr ⟨q1, q2⟩
  refine ⟨_, S.startW r b nd nb hN, post_mono (fun o ho => ?_) (fun e x => ?_) (post_bind.mp h)⟩
  · cases o with
    | nx ρ => exact fun σ' H' k s => fin .non ρ σ' H' .non s .non ho
    | rt r ρ =>
      intro v σ' H' A' k s rv _ _
      obtain ⟨u, eu, ho⟩ := post_opt (post_bind.mp ho)
      exact fin u ρ σ' H' v s (im_of rv eu).2 ho
    | bk ρ => exact ho.elim
    | ct ρ => exact ho.elim
  · exact fun dd ρ σ' H' k s d => x dd H' s.fm s.kp s.th s.bx d
theorem spW_len {n : Nat} {qs : List Nat} {fn : Env → Res (Env × U)} {vs : List V} {H : Hp} {Q : VK} {E : XK} (h : spW g n qs fn vs H Q E) : vs.length = n := by
  obtain ⟨ρ, A, r, _, _, hl, _⟩ := h
  have := r.len
  rw [List.length_map] at this
  rw [this, hl]
/-- no name that stays is set -/
theorem apartW {ps : List (Nat × V)} {qs : List Nat} {j : Nat} (h : ps.map Prod.fst = qs) (n : j ∉ qs) : ∀ p ∈ ps, p.1 ≠ j := fun p m e => n (by rw [← h, ← e]; exact List.mem_map_of_mem m)
theorem apartWs {ps : List (Nat × V)} {qs : List Nat} {js : List Nat} (h : ps.map Prod.fst = qs) (n : ∀ q ∈ qs, q ∉ js) : ∀ p ∈ ps, p.1 ∉ js := fun p m => n _ (by rw [← h]; exact List.mem_map_of_mem m)
end
section
variable {P : Program} {w : World} {mg : Str → Option Value} {base : Heap} {g : G}
/-- a def that changes what its arguments own does what its reading does -/
theorem fnW_ok {x qual : Str} {st : Stmt} {f : Addr} {fd : FuncData} {N ps : List Str} {k n m : Nat} {qs : List Nat} {body : PSt} (F : Fun g.K x qual st f fd) (Sc : FnScope N ps (defScope st)) (hn : ps.length = n) (hN : N.length = n + m)
    (hb : ∀ (cdv : Value) (A : Around) (outer : List PySem.Env) (s : Shared) (H : Hp) (E : XK) (pp : List (Nat × V)) (B : List Addr), pp.map Prod.fst = qs → Room k (A.deeper (envOfC qual (defScope st) s.heap.objs.size f cdv)) →
      PSs (cxOf (L2.CX P w) P w g.K mg base N qual (defScope st) f cdv A outer s H E) (defBody st) (lS g (fun c d _ H' => E c d H') ⟨H, B ++ boxM g, pp, []⟩ body)) :
    FnOk P w g.K mg base (L2.CX P w) (k + 1) f fd ps (spW g n qs (runW body m)) :=
  F.okX Sc (fun vs H Q E h => (spW_len h).trans hn.symm) (fun cdv A outer s H vs Q E hr h => by
    have hl0 := spW_len h
    obtain ⟨ρ, B, r, nd, nb, hl, hq, b, h⟩ := h
    exact ⟨_, hb cdv A outer s H E (pinsOf qs vs) B (pins_fst fun q m => by rw [hl0, ← hl]; rw [← hq] at m; have := ownQ_lt m; omega) hr, w_end r b nd nb (by rw [hl0, hN]; omega) hq h⟩)
end
/-! ### calls -/
def pCwK (n : Nat) (qs : List Nat) (fn : Env → Res (Env × U)) (ρ : Env) (as : List WArg) : Res (Env × U) :=
  (Res.opt (argS as ρ)).bind fun p => if p.1.length = n ∧ ownQ p.1 0 = qs then (fn p.1).bind fun q => (Res.opt (putS as p.2 q.1)).bind fun ρ' => .ok (ρ', q.2) else .st
def pCwD (n : Nat) (qs : List Nat) (fn : Env → Res (Env × U)) (pas : PWs) : PSt := fun ρ => (pas ρ).bind fun as => (pCwK n qs fn ρ as).bind fun p => .ok (.nx p.1)
def pCwA (i n : Nat) (qs : List Nat) (fn : Env → Res (Env × U)) (pas : PWs) : PSt := fun ρ => (pas ρ).bind fun as => (pCwK n qs fn ρ as).bind fun p => .ok (.nx (p.1.set i (.im p.2)))
def pCwR (n : Nat) (qs : List Nat) (fn : Env → Res (Env × U)) (pas : PWs) : PSt := fun ρ => (pas ρ).bind fun as => (pCwK n qs fn ρ as).bind fun p => .ok (.rt (.im p.2) p.1)
section
variable {g : G} {W : WX} {t : Fr} {X : Cx} {pos : Pos} {a b c e : Expr} {pa pb pc : PEx} {pas : PWs} {σ : L2.St} {H H1 : Hp}
def lW (g : G) (W : WX) (t : Fr) (p : PWs) : TA := fun σ H Q => ∃ ρ, S g t ρ σ H ∧ (p ρ).post (fun as => ∀ vs H' A, Ext g H H' → BoxR g H' → WVs g H' σ vs as A → A.Nodup → (∀ a ∈ A, H a = none) → Q vs H') (Wx g W σ H)
theorem WVs.mono {H H' : Hp} (e : Ext g H H') : ∀ {vs : List V} {as : List WArg} {A : List Addr}, WVs g H σ vs as A → WVs g H' σ vs as A
  | _, _, _, .nil => .nil
  | _, _, _, .own s h => .own s (h.mono e)
  | _, _, _, .val a h => .val (a.mono e) (h.mono e)
theorem WVs.there {H : Hp} : ∀ {vs : List V} {as : List WArg} {A : List Addr}, WVs g H σ vs as A → ∀ a ∈ A, ∃ u, H a = some u
  | _, _, _, .nil, _, m => nomatch m
  | _, _, _, .own _ h, x, m => h.there x m
  | _, _, _, .val a b, x, m => by
    rcases List.mem_append.mp m with q | q
    · exact a.there x q
    · exact b.there x q
theorem uw_nil : PA X [] (lW g W t pwNil) := PA.imp pa_nil fun σ H Q h => by
  obtain ⟨ρ, sS, h⟩ := h
  exact h [] H [] (Ext.refl H) sS.bx .nil List.nodup_nil fun x m => nomatch m
theorem uw_own {es : List Expr} {i : Nat} (ha : PE X a (tVar i)) (hb : PA X es (lW g W t pas)) (hs : starEach (a :: es) X.env = (false, eval a X.env) :: starEach es X.env := by rfl) : PA X (a :: es) (lW g W t (pwOwn i pas)) := by
  refine PA.imp (pa_cons ha hb hs) fun σ H Q h => ?_
  obtain ⟨ρ, sS, h⟩ := h
  unfold pwOwn at h
  cases e : (ρ[i]? : Option Sl) with
  | none => rw [e] at h; exact h.elim
  | some sl =>
    rw [e] at h
    cases sl with
    | un => exact h.elim
    | im u => exact h.elim
    | ow o =>
      obtain ⟨A, s1, -, -⟩ := sS.sl
      obtain ⟨v, B, hv, -⟩ := s1.atOw e
      exact ⟨v, hv, ρ, sS, post_mono (fun as ha vs H1 A x1 b1 r1 n1 f1 => ha (v :: vs) H1 A x1 b1 (.own hv r1) n1 f1) (fun e x => x) (post_bind.mp h)⟩
theorem uw_val {es : List Expr} (ha : PE X a (lE g W t pa)) (hb : PA X es (lW g W t pas)) (hs : starEach (a :: es) X.env = (false, eval a X.env) :: starEach es X.env := by rfl) : PA X (a :: es) (lW g W t (pwVal pa pas)) := by
  refine PA.imp (pa_cons ha hb hs) fun σ H Q h => ?_
  obtain ⟨ρ, sS, h⟩ := h
  refine ⟨ρ, sS, post_mono (fun r hr v H1 A x1 b1 r1 n1 f1 => ?_) (fun e x => x) (post_bind.mp h)⟩
  refine ⟨ρ, sS.mono x1 b1, post_mono (fun as ha vs H2 B x2 b2 r2 n2 f2 => ?_) (fun e x => x.back x1) (post_bind.mp hr)⟩
  obtain ⟨n, f⟩ := fresh2 x1 b1 n1 f1 r1.there n2 f2
  exact ha (v :: vs) H2 (A ++ B) (x1.trans x2) b2 (.val (r1.mono x2) r2) n f
/-- the arguments' cells, taken out of the names' slots -/
theorem arg_slots : ∀ {vs : List V} {as : List WArg} {F : List Addr}, WVs g H σ vs as F → ∀ {ρ args ρ1 : Env} {A : List Addr}, Slots g H σ ρ A → A.Nodup → (∀ a ∈ A, Nb g a) → F.Nodup → (∀ a ∈ F, a ∉ A) → argS as ρ = some (args, ρ1) →
    ∃ B A', Slots g H (vs.map some) args B ∧ Slots g H σ ρ1 A' ∧ B.Nodup ∧ A'.Sublist A ∧ (∀ x ∈ B, (x ∈ A ∨ x ∈ F) ∧ Nb g x) ∧ ∀ x ∈ A', x ∉ B
  | _, _, _, .nil, ρ, args, ρ1, A, s, n, nb, nF, dF, e => by
    cases e
    exact ⟨[], A, .nil, s, List.nodup_nil, List.Sublist.refl _, fun x m => (nomatch m), fun x _ m => (nomatch m)⟩
  | _, _, _, .own (v := v) (i := i) hv w, ρ, args, ρ1, A, s, n, nb, nF, dF, e => by
    unfold argS at e
    cases e1 : ρ[i]? with
    | none => rw [e1] at e; cases e
    | some sl =>
      rw [e1] at e
      cases sl with
      | un => cases e
      | im u => cases e
      | ow o =>
        obtain ⟨p, e2, e3⟩ := map_some e
        obtain ⟨args', ρ'⟩ := p
        cases e3
        obtain ⟨v', B0, A0, g1, g2, g3, g4, g5, g6, g7⟩ := s.take n e1
        have ev : v' = v := by rw [g1] at hv; cases hv; rfl
        subst ev
        obtain ⟨B, A', h1, h2, h3, h4, h5, h6⟩ := arg_slots w g5 (g6.nodup n) (fun a m => nb a (g6.subset m)) nF (fun a m z => dF a m (g6.subset z)) e2
        refine ⟨B0 ++ B, A', .ow g2 h1, h2, List.nodup_append.mpr ⟨g3, h3, fun x hx y hy z => ?_⟩, h4.trans g6, fun x m => ?_, fun x m z => ?_⟩
        · subst z
          rcases (h5 x hy).1 with q | q
          · exact g7 x q hx
          · exact dF x q (g4 x hx)
        · rcases List.mem_append.mp m with q | q
          · exact ⟨.inl (g4 x q), nb x (g4 x q)⟩
          · exact ⟨(h5 x q).1.imp_left fun z => g6.subset z, (h5 x q).2⟩
        · rcases List.mem_append.mp z with q | q
          · exact g7 x (h4.subset m) q
          · exact h6 x m q
  | _, _, _, .val (v := v) (r := r) (A := A1) (B := F2) rv w, ρ, args, ρ1, A, s, n, nb, nF, dF, e => by
    obtain ⟨nF1, nF2, nF3⟩ := List.nodup_append.mp nF
    cases r with
    | br xs => cases e
    | im u =>
      obtain ⟨p, e2, e3⟩ := map_some (show (argS _ ρ).map _ = some _ from e)
      obtain ⟨args', ρ'⟩ := p
      cases e3
      obtain ⟨B, A', h1, h2, h3, h4, h5, h6⟩ := arg_slots w s n nb nF2 (fun a m => dF a (List.mem_append_right _ m)) e2
      exact ⟨B, A', .im rv.2 h1, h2, h3, h4, fun x m => ⟨(h5 x m).1.imp_right fun z => List.mem_append_right _ z, (h5 x m).2⟩, h6⟩
    | fr o =>
      obtain ⟨p, e2, e3⟩ := map_some (show (argS _ ρ).map _ = some _ from e)
      obtain ⟨args', ρ'⟩ := p
      cases e3
      obtain ⟨B, A', h1, h2, h3, h4, h5, h6⟩ := arg_slots w s n nb nF2 (fun a m => dF a (List.mem_append_right _ m)) e2
      refine ⟨A1 ++ B, A', .ow rv.1 h1, h2, List.nodup_append.mpr ⟨nF1, h3, fun x hx y hy z => ?_⟩, h4, fun x m => ?_, fun x m z => ?_⟩
      · subst z
        rcases (h5 x hy).1 with q | q
        · exact dF x (List.mem_append_left _ hx) q
        · exact nF3 x hx x q rfl
      · rcases List.mem_append.mp m with q | q
        · exact ⟨.inr (List.mem_append_left _ q), rv.2 x q⟩
        · exact ⟨(h5 x q).1.imp_right fun z => List.mem_append_right _ z, (h5 x q).2⟩
      · rcases List.mem_append.mp z with q | q
        · exact dF x (List.mem_append_left _ q) (h4.subset m)
        · exact h6 x m q
theorem put_slots {H' : Hp} : ∀ {vs : List V} {as : List WArg} {F : List Addr}, WVs g H σ vs as F → ∀ {ρ1 res ρ2 : Env} {A B : List Addr}, Slots g H' σ ρ1 A → A.Nodup → Slots g H' (vs.map some) res B → B.Nodup → (∀ x ∈ A, x ∉ B) → putS as ρ1 res = some ρ2 →
    ∃ A', Slots g H' σ ρ2 A' ∧ A'.Nodup ∧ ∀ x ∈ A', x ∈ A ∨ x ∈ B
  | _, _, _, .nil, ρ1, res, ρ2, A, B, s, n, r, nB, d, e => by
    cases r
    cases e
    exact ⟨A, s, n, fun x m => .inl m⟩
  | _, _, _, .own (i := i) hv w, ρ1, res, ρ2, A, B, s, n, r, nB, d, e => by
    cases r with
    | un r => cases e
    | im _ r => cases e
    | @ow v o _ _ B1 B2 ro r =>
      obtain ⟨n1, n2, n3⟩ := List.nodup_append.mp nB
      obtain ⟨A1, h1, h2, h3⟩ := s.setOw ro n1 i n fun a m z => d a m (List.mem_append_left _ z)
      rw [set_self hv] at h1
      obtain ⟨A2, h4, h5, h6⟩ := put_slots w h1 h2 r n2 (fun x m z => by
        rcases h3 x m with q | q
        · exact d x q (List.mem_append_right _ z)
        · exact n3 x q x z rfl) e
      exact ⟨A2, h4, h5, fun x m => by
        rcases h6 x m with q | q
        · rcases h3 x q with q | q
          · exact .inl q
          · exact .inr (List.mem_append_left _ q)
        · exact .inr (List.mem_append_right _ q)⟩
  | _, _, _, .val rv w, ρ1, res, ρ2, A, B, s, n, r, nB, d, e => by
    cases r with
    | un r =>
      obtain ⟨A2, h4, h5, h6⟩ := put_slots w s n r nB d e
      exact ⟨A2, h4, h5, h6⟩
    | im _ r =>
      obtain ⟨A2, h4, h5, h6⟩ := put_slots w s n r nB d e
      exact ⟨A2, h4, h5, h6⟩
    | @ow v o _ _ B1 B2 ro r =>
      obtain ⟨n1, n2, n3⟩ := List.nodup_append.mp nB
      obtain ⟨A2, h4, h5, h6⟩ := put_slots w s n r n2 (fun x m z => d x m (List.mem_append_right _ z)) e
      exact ⟨A2, h4, h5, fun x m => (h6 x m).imp_right fun z => List.mem_append_right _ z⟩
/-- a call that changes what its arguments own -/
theorem cw_core {ρ : Env} {n : Nat} {qs : List Nat} {fn : Env → Res (Env × U)} {vs : List V} {as : List WArg} {F : List Addr} {P : Env × U → Prop} {Xp : Er → Prop} {Q : VK} {E : XK} (sS : S g t ρ σ H) (x1 : Ext g H H1) (b1 : BoxR g H1) (w : WVs g H1 σ vs as F) (nF : F.Nodup) (fF : ∀ a ∈ F, H a = none)
    (hQ : ∀ v u H2 ρ', Kp g H H2 → S g t ρ' σ H2 → RU g H2 v u → P (ρ', u) → Q v H2) (hE : ∀ e dd H2 ρ', Kp g H H2 → S g t ρ' σ H2 → Xd g H2 dd e → Xp e → E (.ref (g.xt e.c).C) dd H2)
    (hf : (pCwK n qs fn ρ as).post P Xp) : spW g n qs fn vs H1 Q E := by
  obtain ⟨⟨args, ρ1⟩, ea, hf⟩ := post_opt (post_bind.mp hf)
  obtain ⟨A0, s1, s2, s3⟩ := sS.sl
  have nbA : ∀ a ∈ A0, Nb g a := fun a m => (s3 a m).2
  have s1' := s1.ext x1 nbA
  obtain ⟨B, A', h1, h2, h3, h4, h5, h6⟩ := arg_slots w s1' s2 nbA nF (fun a m z => by
    obtain ⟨u, hu⟩ := s1.there a z
    rw [fF a m] at hu
    cases hu) ea
  have sm := sS.mono x1 b1
  by_cases hc : args.length = n ∧ ownQ args 0 = qs
  case neg => rw [if_neg hc] at hf; exact hf.elim
  rw [if_pos hc] at hf
  have Bt : ∀ x ∈ B, x ∈ t.M ∨ t.H0 x = none := fun x m => by
    rcases (h5 x m).1 with q | q
    · exact (s3 x q).1
    · exact .inr (sS.out (fF x q))
  have fr : ∀ H2, Fm g B H1 H2 → ∀ x o, t.H0 x = some o → x ∉ t.M → H2 x = some o := fun H2 f x u hx m => f x u (sm.fr x u hx m) (fun z => by
    rcases Bt x z with y | y
    · exact m y
    · rw [y] at hx; cases hx) fun b c hb z => m (z ▸ sS.bm b c hb)
  have th : ∀ H2, Th H1 H2 → ∀ x o, t.H0 x = some o → ∃ o', H2 x = some o' := fun H2 h x o hx => by
    obtain ⟨o', ho⟩ := sm.th x o hx
    exact h x o' ho
  refine ⟨args, B, h1, h3, fun y m => (h5 y m).2, hc.1, hc.2, b1, post_mono (fun q hq v H2 B' f k tt b2 r nB hB rv => ?_) (fun e he dd H2 f k tt b2 d => ?_) (post_bind.mp hf)⟩
  · obtain ⟨ρ2, e2, hp⟩ := post_opt (post_bind.mp hq)
    have g1 : Slots g H2 σ ρ1 A' := h2.fm k f (fun a m => nbA a (h4.subset m)) h6
    obtain ⟨A2, g2, g3, g4⟩ := put_slots w g1 (h4.nodup s2) r nB (fun x m z => by
      rcases hB x z with y | y
      · exact h6 x m y
      · obtain ⟨u, hu⟩ := h2.there x m
        rw [y.1] at hu
        cases hu) e2
    refine hQ v q.2 H2 ρ2 (x1.kp.trans k) ⟨⟨A2, g2, g3, fun x m => ?_⟩, b2, fr H2 f, sm.kp.trans k, th H2 tt, sm.ps, sm.bm, fun p m => (sm.xd p m).mono k⟩ rv hp
    rcases g4 x m with z | z
    · exact s3 x (h4.subset z)
    · rcases hB x z with y | y
      · exact ⟨Bt x y, (h5 x y).2⟩
      · exact ⟨.inr (sS.out (x1.back b1 y.1)), y.2⟩
  · have g1 : Slots g H2 σ ρ1 A' := h2.fm k f (fun a m => nbA a (h4.subset m)) h6
    exact hE e dd H2 ρ1 (x1.kp.trans k) ⟨⟨A', g1, h4.nodup s2, fun x m => s3 x (h4.subset m)⟩, b2, fr H2 f, sm.kp.trans k, th H2 tt, sm.ps, sm.bm, fun p m => (sm.xd p m).mono k⟩ d he
theorem us_cwD {st : Stmt} {n : Nat} {qs : List Nat} {fn : Env → Res (Env × U)} (h : PS X st (tDrop (tCallS (spW g n qs fn) (WE W) (lW g W t pas)))) : PS X st (lS g W t (pCwD n qs fn pas)) := by
  refine PS.imp h fun D σ H h => ?_
  obtain ⟨ρ, sS, h⟩ := h
  refine ⟨ρ, sS, post_mono (fun as ha vs H1 A x1 b1 r1 n1 f1 => ?_) (fun e x => x.wx sS) (post_bind.mp h)⟩
  exact cw_core (P := fun p => oS g t D H (.nx p.1)) (Xp := xS g W t H) sS x1 b1 r1 n1 f1 (fun v u H2 ρ' k s rv hp => hp σ H2 k s) (fun e dd H2 ρ' k s d hp => hp dd ρ' σ H2 k s d) (post_mono (fun p hp => hp) (fun e x => x) (post_bind.mp ha))
theorem us_cwA {st : Stmt} {i n : Nat} {qs : List Nat} {fn : Env → Res (Env × U)} (hi : ∀ p ∈ t.ps, p.1 ≠ i) (h : PS X st (tAsg (tCallS (spW g n qs fn) (WE W) (lW g W t pas)) (gName i))) : PS X st (lS g W t (pCwA i n qs fn pas)) := by
  refine PS.imp h fun D σ H h => ?_
  obtain ⟨ρ, sS, h⟩ := h
  refine ⟨ρ, sS, post_mono (fun as ha vs H1 A x1 b1 r1 n1 f1 => ?_) (fun e x => x.wx sS) (post_bind.mp h)⟩
  exact cw_core (P := fun p => oS g t D H (.nx (p.1.set i (.im p.2)))) (Xp := xS g W t H) sS x1 b1 r1 n1 f1 (fun v u H2 ρ' k s rv hp => hp _ H2 k (s.setIm rv hi)) (fun e dd H2 ρ' k s d hp => hp dd ρ' σ H2 k s d) (post_mono (fun p hp => hp) (fun e x => x) (post_bind.mp ha))
theorem us_cwR {st : Stmt} {n : Nat} {qs : List Nat} {fn : Env → Res (Env × U)} (h : PS X st (tRet (tCallS (spW g n qs fn) (WE W) (lW g W t pas)))) : PS X st (lS g W t (pCwR n qs fn pas)) := by
  refine PS.imp h fun D σ H h => ?_
  obtain ⟨ρ, sS, h⟩ := h
  refine ⟨ρ, sS, post_mono (fun as ha vs H1 A x1 b1 r1 n1 f1 => ?_) (fun e x => x.wx sS) (post_bind.mp h)⟩
  exact cw_core (P := fun p => oS g t D H (.rt (.im p.2) p.1)) (Xp := xS g W t H) sS x1 b1 r1 n1 f1 (fun v u H2 ρ' k s rv hp => hp v σ H2 [] k s ⟨rfl, rv⟩ List.nodup_nil fun x m => nomatch m) (fun e dd H2 ρ' k s d hp => hp dd ρ' σ H2 k s d) (post_mono (fun p hp => hp) (fun e x => x) (post_bind.mp ha))
end
end Rl
/-! Rl: lists in a list that a name owns. -/
namespace Rl
open PySem PySem.Spec PyProof.Rows L2 Wn
section
variable {g : G} {W : WX} {t : Fr} {X : Cx} {pos : Pos} {a b c e : Expr} {pa pb pc : PEx} {pas : PAs} {σ : L2.St} {H H1 : Hp}
def pPx (i j : Nat) : PEx := fun (ρ : List Sl) =>
  match (ρ[i]? : Option Sl) with
  | some (.ow (.ol os)) => .opt ((os[j]?).bind readO)
  | _ => .st
theorem ol_at {α : Type} {i : Nat} {ρ : List Sl} {f : List O → Res α} {P : α → Prop} {E : Er → Prop}
    (h : (match (ρ[i]? : Option Sl) with
      | some (.ow (.ol os)) => f os
      | _ => (.st : Res α)).post P E) : ∃ os, ρ[i]? = some (.ow (.ol os)) ∧ (f os).post P E := by
  cases e : ρ[i]? with
  | none => rw [e] at h; exact h.elim
  | some sl =>
    rw [e] at h
    cases sl with
    | un => exact h.elim
    | im u => exact h.elim
    | ow o =>
      cases o with
      | lf u => exact h.elim
      | ol os => exact ⟨os, rfl, h⟩
      | oi c os => exact h.elim
/-- x[j], x a list that the name owns -/
theorem ue_px {i j : Nat} (eK : X.K = g.K) (ha : PE X a (tVar i)) (hb : PE X b (tC (.int (j : Nat)))) (hs : PlainIx b) : PE X (.Subscript a b pos) (lE g W t (pPx i j)) := by
  refine PE.imp (pe_ix (ix_U eK) ha hb hs) fun σ H Q h => ?_
  obtain ⟨ρ, sS, h⟩ := h
  obtain ⟨os, e1, h⟩ := ol_at (f := fun os => Res.opt ((os[j]?).bind readO)) h
  obtain ⟨r, e2, q⟩ := post_opt h
  cases e3 : os[j]? with
  | none => rw [e3] at e2; cases e2
  | some o =>
    rw [e3] at e2
    obtain ⟨A, s1, s2, s3⟩ := sS.sl
    obtain ⟨v, B, g1, g2, g3⟩ := s1.atOw e1
    cases g2 with
    | ol h1 h2 =>
      obtain ⟨w, A1, Bj, A3, q1, q2, q3, _⟩ := h2.cut e3
      exact ⟨_, g1, .inl ⟨_, _, _, w, rfl, rfl, .inl (.inl (.inl h1)), atI_nat q1, q w H [] (Ext.refl H) sS.bx (readO_of q2 (fun x m => (s3 x (g3 x (.tail _ (by rw [q3]; exact List.mem_append_right _ (List.mem_append_left _ m))))).2) e2) List.nodup_nil fun x m => nomatch m⟩⟩
/-- a list of values in a list that the name owns -/
theorem S.putL {ρ : List Sl} {i j : Nat} {os xs : List O} {us : List U} (sS : S g t ρ σ H) (x1 : Ext g H H1) (b1 : BoxR g H1) (e1 : ρ[i]? = some (.ow (.ol os))) (e2 : os[j]? = some (.ol xs)) (e3 : leafs xs = some us) :
    ∃ a ys p vs, σ[i]? = some (some (.ref a)) ∧ H a = some (.lst ys) ∧ ys[j]? = some (.ref p) ∧ H p = some (.lst vs) ∧ H1 p = some (.lst vs) ∧ RUs g H vs us ∧
      ∀ ws us', RUs g H1 ws us' → Kp g H1 (upd H1 p (.lst ws)) ∧ S g t (ρ.set i (.ow (.ol (os.set j (.ol (us'.map .lf)))))) σ (upd H1 p (.lst ws)) := by
  obtain ⟨v, B, g1, g2, g2', g3, g4, g5, -⟩ := sS.putG x1 b1 e1
  cases g2 with
  | ol h1 h2 =>
    rename_i ad ys A2
    obtain ⟨w, A1, Bj, A3, q1, q2, q3, -⟩ := h2.cut e2
    cases q2 with
    | ol y1 y2 =>
      rename_i p vs A5
      obtain ⟨rfl, y3⟩ := leafs_of y2 e3
      have pB : p ∈ ad :: A2 := .tail _ (by rw [q3]; exact List.mem_append_right _ (.head _))
      have aB : ad ∈ ad :: A2 := .head _
      have sm : ∀ x u, x ∈ ad :: A2 → H x = some u → H1 x = some u := fun x u m hx => x1.sm x u hx fun b c hb => ((g4 x m).2 b c hb).1
      refine ⟨ad, ys, p, vs, g1, h1, q1, y1, sm p _ pB y1, y3, fun ws us' r' => ?_⟩
      have hp1 := sm p _ pB y1
      have kp : Kp g H1 (upd H1 p (.lst ws)) := kp_of hp1 fun z => z
      obtain ⟨nd1, nd2⟩ := List.nodup_cons.mp g3
      have pA : p ∈ A2 := by rw [q3]; exact List.mem_append_right _ (.head _)
      have ne : ad ≠ p := fun z => nd1 (z ▸ pA)
      have h2' : ROs g H1 ys os A2 := ROs.mono x1.kp h2 fun x m => by
        obtain ⟨u, hu⟩ := h2.there x m
        rw [hu]
        exact sm x u (.tail _ m) hu
      obtain ⟨w', A1', Bj', A3', z1, z2, z3, z4⟩ := h2'.cut e2
      have ew : w' = .ref p := by rw [q1] at z1; cases z1; rfl
      subst ew
      cases z2 with
      | ol y1' y2' =>
        rename_i vs' A5'
        obtain ⟨rfl, _⟩ := leafs_of y2' e3
        have nd2' := nd2
        rw [z3] at nd2'
        have pn : ∀ x ∈ A1' ++ A3', x ≠ p := fun x m z => by
          obtain ⟨m1, m2, m3⟩ := List.nodup_append.mp nd2'
          rcases List.mem_append.mp m with q | q
          · exact m3 x q p (.head _) z
          · exact (List.nodup_cons.mp m2).1 (z ▸ q)
        have ros := z4 (upd H1 p (.lst ws)) (.ref p) (.ol (us'.map .lf)) [p] kp (fun x m => upd_ne (pn x m)) (.ol upd_same (to_leafs (RUs.mono kp r')))
        have hset : ys.set j (.ref p) = ys := by
          apply List.ext_getElem?
          intro j'
          by_cases hj : j = j'
          · subst hj
            rw [List.getElem?_set_self', z1]; rfl
          · rw [List.getElem?_set_ne hj]
        rw [hset] at ros
        refine ⟨kp, g5 _ _ _ (fm_upd pB) kp th_upd (box_upd b1 (g4 p pB).2) (.ol ((upd_ne ne).trans (sm ad _ aB h1)) ros) ?_ fun x m => .inl ?_⟩
        · rw [z3] at g3; exact g3
        · rw [z3]; exact m
/-- a list in a list, changed by what the arguments are -/
def pLsP (i j : Nat) (f : List U → List R → Option (List U)) (pas : PAs) : PSt := fun (ρ : List Sl) =>
  match (ρ[i]? : Option Sl) with
  | some (.ow (.ol os)) => (Res.opt (olU os j)).bind fun us => (pas ρ).bind fun rs => (Res.opt (f us rs)).bind fun us' => .ok (.nx (ρ.set i (.ow (.ol (os.set j (.ol (us'.map .lf)))))))
  | _ => .st
theorem pLsP_at {i j : Nat} {f : List U → List R → Option (List U)} {ρ : List Sl} {P : Out → Prop} {E : Er → Prop} (h : (pLsP i j f pas ρ).post P E) :
    ∃ os xs us, ρ[i]? = some (.ow (.ol os)) ∧ os[j]? = some (.ol xs) ∧ leafs xs = some us ∧ (pas ρ).post (fun rs => ((Res.opt (f us rs)).bind fun us' => Res.ok (Out.nx (ρ.set i (.ow (.ol (os.set j (.ol (us'.map .lf)))))))).post P E) E := by
  obtain ⟨os, e1, h⟩ := ol_at (f := fun os => (Res.opt (olU os j)).bind fun us => (pas ρ).bind fun rs => (Res.opt (f us rs)).bind fun us' => Res.ok (Out.nx (ρ.set i (.ow (.ol (os.set j (.ol (us'.map .lf)))))))) h
  obtain ⟨us, e2, h⟩ := post_opt (post_bind.mp h)
  obtain ⟨xs, e3, e4⟩ := olU_of e2
  exact ⟨os, xs, us, e1, e3, e4, post_bind.mp h⟩
/-- x[j].append(e) -/
theorem us_appP {st : Stmt} {i j : Nat} (h : PS X st (tDrop (tBM g.K "list" rAppend (tOp (fun x y H Q => rIxA g.K x y H Q ∨ rIxS x y H Q) (tVar i) (tC (.int (j : Nat)))) (lA g W t pas)))) : PS X st (lS g W t (pLsP i j fAppU pas)) := by
  refine PS.imp h fun D σ H h => ?_
  obtain ⟨ρ, sS, h⟩ := h
  obtain ⟨os, xs, us, e1, e2, e3, h⟩ := pLsP_at h
  obtain ⟨ad, ys, p, vs, q1, q2, q3, q4, _, _, _⟩ := sS.putL (Ext.refl H) sS.bx e1 e2 e3
  refine ⟨.ref ad, q1, .inl ⟨ad, ys, _, .ref p, rfl, rfl, .inl (.inl (.inl q2)), atI_nat q3, .inl ⟨rfl, vs, .inl (.inl q4)⟩, ρ, sS, post_mono (fun rs hr vs2 H1 A x1 b1 r1 n1 f1 => ?_) (fun e x => x.wx sS) h⟩⟩
  obtain ⟨us', eo, q⟩ := post_opt (post_bind.mp hr)
  match rs, eo, r1 with
  | [r], eo, r1 =>
    change (if _ then _ else _) = _ at eo
    by_cases hl : us.length ≤ 100000
    · rw [if_pos hl] at eo
      obtain ⟨u, e4, rfl⟩ := map_some eo
      obtain ⟨v, rfl, rv⟩ := vals_one r1
      have ru := (im_of rv e4).2
      obtain ⟨ad', ys', p', vs', z1, z2, z3, z4, z5, z6, z7⟩ := sS.putL x1 b1 e1 e2 e3
      have ea : ad' = ad := by rw [q1] at z1; cases z1; rfl
      subst ea
      have ef : ys' = ys := by rw [q2] at z2; cases z2; rfl
      subst ef
      have ep : p' = p := by rw [q3] at z3; cases z3; rfl
      subst ep
      obtain ⟨kp, s⟩ := z7 (vs' ++ [v]) (us ++ [u]) ((z6.mono x1.kp).append (.cons ru .nil))
      exact ⟨p', vs', v, rfl, rfl, z5, by rw [z6.len]; exact Nat.lt_of_le_of_lt hl (by decide), q σ _ (x1.kp.trans kp) s⟩
    · rw [if_neg hl] at eo; cases eo
/-- x[j][k] = e -/
def pSetP (i j : Nat) (p pk : PEx) : PSt := pLsP i j fSetU (pCons p (pCons pk pNil))
theorem us_setP {st : Stmt} {i j : Nat} {p pk : PEx} (h : PS X st (tAsg (lE g W t p) (gSub (tOp (fun x y H Q => rIxA g.K x y H Q ∨ rIxS x y H Q) (tVar i) (tC (.int (j : Nat)))) (lE g W t pk) rSetL))) : PS X st (lS g W t (pSetP i j p pk)) := by
  refine PS.imp h fun D σ H h => ?_
  obtain ⟨ρ, sS, h⟩ := h
  obtain ⟨os, xs, us, e1, e2, e3, h⟩ := pLsP_at h
  refine ⟨ρ, sS, post_mono (fun r hr v H1 A x1 b1 r1 n1 f1 => ?_) (fun e x => x.wx sS) (post_bind.mp h)⟩
  have hr : ((pk ρ).bind fun x => (pNil ρ).bind fun xs => Res.ok (x :: xs)).post _ _ := post_bind.mp hr
  have sS1 := sS.mono x1 b1
  obtain ⟨ad, ys, p0, vs, q1, q2, q3, q4, _, _, _⟩ := sS1.putL (Ext.refl H1) b1 e1 e2 e3
  refine ⟨.ref ad, q1, .inl ⟨ad, ys, _, .ref p0, rfl, rfl, .inl (.inl (.inl q2)), atI_nat q3, ρ, sS1, post_mono (fun k' hk w H2 B x2 b2 r2 n2 f2 => ?_) (fun e x => (x.wx sS).back x1) (post_bind.mp hr)⟩⟩
  have hk : ((Res.opt (fSetU us [r, k'])).bind fun us' => Res.ok (Out.nx (ρ.set i (.ow (.ol (os.set j (.ol (us'.map .lf)))))))).post (oS g t D H) (xS g W t H) := hk
  obtain ⟨us', eo, q⟩ := post_opt (post_bind.mp hk)
  change (imR r).bind _ = some us' at eo
  cases e5 : imR r with
  | none => rw [e5] at eo; cases eo
  | some u =>
    cases e4 : iR k' with
    | none => rw [e5, e4] at eo; cases eo
    | some z =>
      rw [e5, e4] at eo
      obtain ⟨j', e6, rfl⟩ := map_some (show (ixN us.length z).map _ = some us' from eo)
      obtain ⟨ad', ys', p', vs', z1, z2, z3, z4, z5, z6, z7⟩ := sS1.putL x2 b2 e1 e2 e3
      have ea : ad' = ad := by rw [q1] at z1; cases z1; rfl
      subst ea
      have ef : ys' = ys := by rw [q2] at z2; cases z2; rfl
      subst ef
      have ep : p' = p0 := by rw [q3] at z3; cases z3; rfl
      subst ep
      have ru := (im_of r1 e5).2.mono x2.kp
      obtain ⟨kp, s⟩ := z7 (vs'.set j' v) (us.set j' u) ((z6.mono x2.kp).setAt ru j')
      exact ⟨p', vs', z, j', rfl, iR_of r2 e4, z5, by rw [z6.len]; exact e6, q σ _ ((x1.trans x2).kp.trans kp) s⟩
/-- x[j] = e, e perhaps a new tree -/
def setLO (i j : Nat) (r : R) (ρ : Env) : Option Env :=
  match ρ[i]? with
  | some (.ow (.ol os)) => if j < os.length then (ownR r).map fun o => ρ.set i (.ow (.ol (os.set j o))) else none
  | _ => none
def pSetJ (i j : Nat) (p : PEx) : PSt := fun ρ => (p ρ).bind fun r => (Res.opt (setLO i j r ρ)).bind fun ρ' => .ok (.nx ρ')
theorem us_setJ {st : Stmt} {i j : Nat} (h : PS X st (tAsg (lE g W t pa) (gSub (tVar i) (tC (.int (j : Nat))) rSetL))) : PS X st (lS g W t (pSetJ i j pa)) := by
  refine PS.imp h fun D σ H h => ?_
  obtain ⟨ρ, sS, h⟩ := h
  refine ⟨ρ, sS, post_mono (fun r hr v H1 A x1 b1 r1 n1 f1 => ?_) (fun e x => x.wx sS) (post_bind.mp h)⟩
  obtain ⟨ρ', e, q⟩ := post_opt (post_bind.mp hr)
  unfold setLO at e
  cases e1 : ρ[i]? with
  | none => rw [e1] at e; cases e
  | some sl =>
    rw [e1] at e
    cases sl with
    | un => cases e
    | im u => cases e
    | ow o0 =>
     cases o0 with
     | lf u => cases e
     | oi c' os => cases e
     | ol os =>
      change (if _ then _ else _) = _ at e
      by_cases hj : j < os.length
      · rw [if_pos hj] at e
        obtain ⟨o, e2, rfl⟩ := map_some e
        obtain ⟨ro, nb⟩ := own_of r1 e2
        obtain ⟨w, B, g1, g2, g2', g3, g4, g5, -⟩ := sS.putG x1 b1 e1
        cases g2' with
        | ol h1 h2 =>
          rename_i ad ys A2
          obtain ⟨o0, eo⟩ : ∃ o0, os[j]? = some o0 := ⟨_, List.getElem?_eq_getElem hj⟩
          obtain ⟨w', A1, B0, A3, y1, y2, y3, y4⟩ := h2.cut eo
          have kp : Kp g H1 (upd H1 ad (.lst (ys.set j v))) := kp_of h1 fun z => z
          obtain ⟨n3, n4⟩ := List.nodup_cons.mp g3
          rw [y3] at n3 n4 g3 g4 g5
          obtain ⟨m1, m2, m3⟩ := List.nodup_append.mp n4
          obtain ⟨m4, m5, m6⟩ := List.nodup_append.mp m2
          have fresh : ∀ x ∈ ad :: (A1 ++ (B0 ++ A3)), x ∉ A := fun x m z => by
            obtain ⟨⟨u, hu⟩, _⟩ := g4 x m
            rw [f1 x z] at hu
            cases hu
          have adA : ad ∉ A := fresh ad (.head _)
          have ros := y4 (upd H1 ad (.lst (ys.set j v))) v o A kp (fun x m => upd_ne fun z => n3 (by
            rw [← z]
            rcases List.mem_append.mp m with q | q
            · exact List.mem_append_left _ q
            · exact List.mem_append_right _ (List.mem_append_right _ q))) (ro.mono kp fun x m => upd_ne fun z => adA (z ▸ m))
          have s := g5 _ (.ol (os.set j o)) (ad :: (A1 ++ (A ++ A3))) (fm_upd (.head _)) kp th_upd (box_upd b1 (g4 ad (.head _)).2) (.ol upd_same ros) (List.nodup_cons.mpr ⟨fun m => by
            rcases List.mem_append.mp m with q | q
            · exact n3 (List.mem_append_left _ q)
            · rcases List.mem_append.mp q with q | q
              · exact adA q
              · exact n3 (List.mem_append_right _ (List.mem_append_right _ q)), List.nodup_append.mpr ⟨m1, List.nodup_append.mpr ⟨n1, m5, fun x hx y hy z => fresh y (.tail _ (List.mem_append_right _ (List.mem_append_right _ hy))) (z ▸ hx)⟩, fun x hx y hy z => by
              rcases List.mem_append.mp hy with q | q
              · exact fresh x (.tail _ (List.mem_append_left _ hx)) (z ▸ q)
              · exact m3 x hx y (List.mem_append_right _ q) z⟩⟩) fun x m => by
            rcases List.mem_cons.mp m with q | q
            · exact .inl (q ▸ .head _)
            · rcases List.mem_append.mp q with q | q
              · exact .inl (.tail _ (List.mem_append_left _ q))
              · rcases List.mem_append.mp q with q | q
                · exact .inr ⟨f1 x q, nb x q⟩
                · exact .inl (.tail _ (List.mem_append_right _ (List.mem_append_right _ q)))
          have hix : ixN os.length ((j : Nat) : Int) = some j := by unfold ixN; simp [hj]
          exact ⟨.ref ad, g1, ad, ys, ((j : Nat) : Int), j, rfl, rfl, h1, by rw [h2.len]; exact hix, q σ _ (x1.kp.trans kp) s⟩
      · rw [if_neg hj] at e; cases e
/-! ### {"a": e, ..}[k] -/
theorem units1 {k : Nat} {A : Around} (r : Room k A) : A.units + 1 < cLine := by have := r.un; omega
def dgP : List (Str × PEx) → PAs
  | [] => pNil
  | p :: l => pCons p.2 (dgP l)
def dgT (g : G) (W : WX) (t : Fr) : List (Str × PEx) → List (TE × TE)
  | [] => []
  | p :: l => (tC (.str p.1), lE g W t p.2) :: dgT g W t l
def pairsV : List (Str × PEx) → List V → List (V × V)
  | p :: l, v :: vs => (.str p.1, v) :: pairsV l vs
  | _, _ => []
def pairsK : List (Str × PEx) → List V → List (Key × V)
  | p :: l, v :: vs => (.inr p.1, v) :: pairsK l vs
  | _, _ => []
theorem pairsV_eq : ∀ {l : List (Str × PEx)} {vs : List V}, pairsV l vs = (pairsK l vs).map fun kv => (kV kv.1, kv.2)
  | [], _ => rfl
  | _ :: _, [] => rfl
  | p :: l, v :: vs => by
    show _ :: pairsV l vs = _
    rw [pairsV_eq]
    rfl
theorem pairsK_len : ∀ {l : List (Str × PEx)} {vs : List V}, (pairsK l vs).length ≤ l.length
  | [], _ => Nat.zero_le _
  | _ :: _, [] => Nat.zero_le _
  | p :: l, v :: vs => Nat.succ_le_succ pairsK_len
theorem pairsK_in : ∀ {l : List (Str × PEx)} {vs : List V} {x : Key × V}, x ∈ pairsK l vs → ∃ k, x.1 = .inr k ∧ k ∈ l.map Prod.fst
  | _ :: _, [], _, m => nomatch m
  | [], [], _, m => nomatch m
  | [], _ :: _, _, m => nomatch m
  | p :: l, v :: vs, x, m => by
    rcases List.mem_cons.mp (show x ∈ (Sum.inr p.1, v) :: pairsK l vs from m) with rfl | m
    · exact ⟨_, rfl, .head _⟩
    · obtain ⟨k, a, b⟩ := pairsK_in m
      exact ⟨k, a, .tail _ b⟩
theorem put_new {kvs : List (Key × V)} {k : Key} {v : V} (h : ∀ x ∈ kvs, x.1 ≠ k) : putK kvs k v = kvs ++ [(k, v)] := by
  unfold putK
  rw [if_neg]
  intro q
  obtain ⟨x, m, e⟩ := List.any_eq_true.mp q
  exact h x m (of_decide_eq_true e)
theorem merge_new : ∀ {l : List (Str × PEx)} {vs : List V} {acc : List (Key × V)}, (l.map Prod.fst).Nodup → (∀ x ∈ acc, ∀ k ∈ l.map Prod.fst, x.1 ≠ .inr k) → mergeK acc (pairsK l vs) = acc ++ pairsK l vs
  | [], _, _, _, _ => by show _ = _ ++ []; rw [List.append_nil]; rfl
  | _ :: _, [], _, _, _ => by show _ = _ ++ []; rw [List.append_nil]; rfl
  | p :: l, v :: vs, acc, nd, h => by
    rw [List.map_cons, List.nodup_cons] at nd
    show mergeK (putK acc (.inr p.1) v) (pairsK l vs) = acc ++ ((.inr p.1, v) :: pairsK l vs)
    rw [put_new fun x m => h x m _ (.head _), merge_new nd.2 fun x m k hk => ?_, List.append_assoc]
    · rfl
    · rcases List.mem_append.mp m with m | m
      · exact h x m k (.tail _ hk)
      · rw [List.mem_singleton.mp m]
        intro e
        have e : p.1 = k := Sum.inr.inj e
        exact nd.1 (e ▸ hk)
theorem pairs_at {H : Hp} {z : Str} : ∀ {l : List (Str × PEx)} {vs : List V} {us : List U} {u : U}, RUs g H vs us → us[(l.map Prod.fst).idxOf z]? = some u → l.length = us.length → ∃ v, valV (pairsK l vs) (.inr z : Key) = some v ∧ RU g H v u
  | [], _, us, u, r, e, hl => by
    cases us with
    | nil => simp at e
    | cons => cases hl
  | p :: l, _, _, u, .nil, e, hl => by cases hl
  | p :: l, _, _, u, .cons (v := v) (vs := vs) r rs, e, hl => by
    by_cases hp : p.1 = z
    · subst hp
      rw [List.map_cons, List.idxOf_cons_self] at e
      cases e
      exact ⟨v, valV_pos rfl, r⟩
    · have ne : (p.1 == z) = false := beq_eq_false_iff_ne.mpr hp
      rw [List.map_cons, List.idxOf_cons, ne] at e
      obtain ⟨v', h1, h2⟩ := pairs_at (l := l) (z := z) rs (by simpa using e) (Nat.succ.inj hl)
      exact ⟨v', (valV_neg fun e => hp (Sum.inr.inj e)).trans h1, h2⟩
theorem lpairs : ∀ {l : List (Str × PEx)} {ρ : Env} {H : Hp} {Q : List (V × V) → Hp → Prop}, S g t ρ σ H →
    (dgP l ρ).post (fun rs => ∃ us, imRs rs = some us ∧ ∀ vs H', Ext g H H' → BoxR g H' → RUs g H' vs us → Q (pairsV l vs) H') (Wx g W σ H) → tPairs (dgT g W t l) σ H Q
  | [], ρ, H, Q, sS, h => by
    obtain ⟨us, e, h⟩ := h
    cases e
    exact h [] H (Ext.refl H) sS.bx .nil
  | p :: l, ρ, H, Q, sS, h => by
    refine ⟨ρ, sS, post_mono (fun r hr v H1 A x1 b1 r1 n1 f1 => ?_) (fun e x => x) (post_bind.mp h)⟩
    refine lpairs (sS.mono x1 b1) (post_mono (fun rs h => ?_) (fun e x => x.back x1) (post_bind.mp hr))
    obtain ⟨us, e, h⟩ := h
    change (imR r).bind _ = some us at e
    cases e1 : imR r with
    | none => rw [e1] at e; cases e
    | some u =>
      rw [e1] at e
      obtain ⟨us', e2, rfl⟩ := map_some (show (imRs rs).map _ = some us from e)
      exact ⟨us', e2, fun vs H' x2 b2 r2 => h (v :: vs) H' (x1.trans x2) b2 (.cons ((im_of r1 e1).2.mono x2.kp) r2)⟩
def dgR (ks : List Str) (us : List U) (r : R) : Option R :=
  match r with
  | .im (.str z) => if ks.Nodup ∧ ks.length = us.length ∧ ks.length ≤ 15 then (us[ks.idxOf z]?).map .im else none
  | _ => none
def pDg (l : List (Str × PEx)) (pk : PEx) : PEx := fun ρ => (dgP l ρ).bind fun rs => (Res.opt (imRs rs)).bind fun us => (pk ρ).bind fun r => .opt (dgR (l.map Prod.fst) us r)
theorem ue_dg {keys : List (Option Expr)} {values : List Expr} {i : Expr} {p2 : Pos} {l : List (Str × PEx)} {pk : PEx} (hu : X.A.units + 1 < cLine) (h : PPs X p2 keys values (dgT g W t l)) (hall : keys.all (·.isSome) = true) (hl : keys.length = values.length) (h0 : keys ≠ []) (h15 : keys.length ≤ 15) (hi : PE X i (lE g W t pk)) (hs : NoSl i) (l15 : l.length ≤ 15) :
    PE X (.Subscript (.Dict keys values p2) i pos) (lE g W t (pDg l pk)) := by
  refine PE.imp (pe_dget hu (pe_disp h hall hl h0 h15) hi hs) fun σ H Q h => ?_
  obtain ⟨ρ, sS, h⟩ := h
  intro p np
  have x0 : Ext g H (upd H p (.dK [])) := Ext.new np
  have b0 : BoxR g (upd H p (.dK [])) := sS.bx.same (same_new np)
  refine lpairs (sS.mono x0 b0) (post_mono (fun rs hr => ?_) (fun e x => x.back x0) (post_bind.mp h))
  obtain ⟨us, eu, hr⟩ := post_opt (post_bind.mp hr)
  refine ⟨us, eu, fun vs H2 x2 b2 r2 => ?_⟩
  have nbp : Nb g p := sS.bx.nb np
  have hp2 : H2 p = some (.dK []) := x2.sm p _ upd_same fun b c hb => (nbp b c hb).1
  refine ⟨hp2, pairsK l vs, pairsV_eq, Nat.le_trans pairsK_len l15, ?_⟩
  have x02 := x0.trans x2
  have kp3 : Kp g H2 (upd H2 p (.dK (mergeK [] (pairsK l vs)))) := kp_of hp2 fun z => z
  have x3 : Ext g H (upd H2 p (.dK (mergeK [] (pairsK l vs)))) := ⟨fun x o hx nb => (upd_ne fun z => by rw [z, np] at hx; cases hx).trans (x02.sm x o hx nb), x02.kp.trans kp3⟩
  have b3 : BoxR g (upd H2 p (.dK (mergeK [] (pairsK l vs)))) := box_upd b2 nbp
  refine ⟨ρ, sS.mono x3 b3, post_mono (fun r hk y H4 A x4 b4 r4 n4 f4 => ?_) (fun e x => x.back x3) (post_bind.mp hr)⟩
  obtain ⟨c, ec, q⟩ := post_opt hk
  match r, ec, r4 with
  | .im (.str z), ec, r4 =>
    have eA := r4.1
    subst eA
    have r4 : RU g H4 y (.str z) := r4.2
    cases r4
    change (if _ then _ else _) = _ at ec
    by_cases hc : (l.map Prod.fst).Nodup ∧ (l.map Prod.fst).length = us.length ∧ (l.map Prod.fst).length ≤ 15
    · rw [if_pos hc] at ec
      obtain ⟨u, e1, rfl⟩ := map_some ec
      obtain ⟨v, h1, h2⟩ := pairs_at (H := H2) r2 e1 (by rw [← hc.2.1, List.length_map])
      have hp4 : H4 p = some (.dK (mergeK [] (pairsK l vs))) := x4.sm p _ upd_same fun b c hb => (nbp b c hb).1
      rw [merge_new (acc := []) hc.1 (fun x m => (nomatch m)), List.nil_append] at hp4
      refine ⟨p, v, rfl, ?_, q v H4 [] (x3.trans x4) b4 ⟨rfl, (h2.mono kp3).mono x4.kp⟩ List.nodup_nil fun x m => nomatch m⟩
      rw [← h1]
      exact DGet.k (k := (.inr z : Key)) hp4
    · rw [if_neg hc] at ec; cases ec
end
end Rl
/-! Rl: comprehensions of two clauses. -/
namespace Rl
open PySem PySem.Spec PyProof.Rows L2 Wn
mutual
theorem bindT_at : ∀ {tg : Tg} {u : U} {ρ ρ1 : Env}, bindT tg u ρ = some ρ1 → ∀ k : Nat, (ρ1[k]? : Option Sl) = ρ[k]? ∨ (k ∈ tg.ix ∧ ∃ w, (ρ1[k]? : Option Sl) = some (.im w))
  | .nm i, u, ρ, _, e, k => by
    unfold bindT at e
    cases e
    by_cases h : i = k
    · subst h
      by_cases hl : i < ρ.length
      · exact .inr ⟨by unfold Tg.ix; exact .head _, u, List.getElem?_set_self hl⟩
      · refine .inl ?_
        rw [List.getElem?_set_self', List.getElem?_eq_none (by omega)]
        rfl
    · exact .inl (List.getElem?_set_ne h)
  | .tp ts, u, ρ, _, e, k => by
    cases u with
    | tup us =>
      unfold bindT at e
      by_cases hl : us.length = ts.length
      · rw [if_pos hl] at e
        unfold Tg.ix
        exact bindTs_at e k
      · rw [if_neg hl] at e; cases e
    | _ => unfold bindT at e; cases e
  | .ls ts, u, ρ, _, e, k => by
    cases u with
    | lst us =>
      unfold bindT at e
      by_cases hl : us.length = ts.length
      · rw [if_pos hl] at e
        unfold Tg.ix
        exact bindTs_at e k
      · rw [if_neg hl] at e; cases e
    | _ => unfold bindT at e; cases e
theorem bindTs_at : ∀ {ts : List Tg} {us : List U} {ρ ρ1 : Env}, bindTs ts us ρ = some ρ1 → ∀ k : Nat, (ρ1[k]? : Option Sl) = ρ[k]? ∨ (k ∈ Tg.ixs ts ∧ ∃ w, (ρ1[k]? : Option Sl) = some (.im w))
  | [], us, ρ, _, e, k => by
    cases us with
    | nil => unfold bindTs at e; cases e; exact .inl rfl
    | cons => unfold bindTs at e; cases e
  | t :: ts, us, ρ, ρ1, e, k => by
    cases us with
    | nil => unfold bindTs at e; cases e
    | cons u us =>
      unfold bindTs at e
      cases e1 : bindT t u ρ with
      | none => rw [e1] at e; cases e
      | some ρ' =>
        rw [e1] at e
        unfold Tg.ixs
        rcases bindTs_at (show bindTs ts us ρ' = some ρ1 from e) k with h | ⟨h, w, hw⟩
        · rcases bindT_at e1 k with h' | ⟨h', w, hw⟩
          · exact .inl (h.trans h')
          · exact .inr ⟨List.mem_append_left _ h', w, h.trans hw⟩
        · exact .inr ⟨List.mem_append_right _ h, w, hw⟩
end
theorem wipeE_at (ρ : Env) (j : Nat) : ∀ vs : List Nat, ((wipeE ρ vs)[j]? : Option Sl) = if j ∈ vs then (ρ[j]?).map (fun _ => Sl.un) else ρ[j]?
  | [] => by simp [wipeE]
  | v :: vs => by
    unfold wipeE
    by_cases h : j = v
    · subst h
      rw [List.getElem?_set_self', wipeE_at ρ j vs]
      by_cases h2 : j ∈ vs
      · rw [if_pos h2, if_pos (.head _)]
        cases ρ[j]? <;> rfl
      · rw [if_neg h2, if_pos (.head _)]
        rfl
    · rw [List.getElem?_set_ne (Ne.symm h), wipeE_at ρ j vs]
      by_cases h2 : j ∈ vs
      · rw [if_pos h2, if_pos (.tail _ h2)]
      · rw [if_neg h2, if_neg (fun m => (List.mem_cons.mp m).elim h h2)]
theorem Slots.patch {g : G} {H : Hp} : ∀ {σ : List (Option V)} {ρ : List Sl} {A : List Addr}, Slots g H σ ρ A → ∀ {σ' : List (Option V)} {ρ' : List Sl},
    (∀ k : Nat, (ρ'[k]? = ρ[k]? ∧ σ'[k]? = σ[k]?) ∨ (ρ[k]? = some .un ∧ ∃ x y, ρ'[k]? = some y ∧ σ'[k]? = some x ∧ (y = .un ∨ ∃ v u, x = some v ∧ y = .im u ∧ RU g H v u))) → Slots g H σ' ρ' A
  | _, _, _, .nil, σ', ρ', h => by
    rcases h 0 with ⟨a, b⟩ | ⟨a, _⟩
    · cases ρ' with
      | nil =>
        cases σ' with
        | nil => exact .nil
        | cons => cases b
      | cons => cases a
    · cases a
  | _, _, _, .un (x := x) s, σ', ρ', h => by
    have tl := fun (σs : List (Option V)) (ρs : List Sl) (e1 : σ' = σ'.headD none :: σs) (e2 : ρ' = ρ'.headD .un :: ρs) => s.patch (σ' := σs) (ρ' := ρs) fun k => by
      have := h (k + 1)
      rw [e1, e2] at this
      exact this
    rcases h 0 with ⟨a, b⟩ | ⟨_, x', y, a, b, c⟩
    · cases ρ' with
      | nil => cases a
      | cons y0 ρs =>
        cases σ' with
        | nil => cases b
        | cons x0 σs =>
          cases a
          exact .un (tl σs ρs rfl rfl)
    · cases ρ' with
      | nil => cases a
      | cons y0 ρs =>
        cases σ' with
        | nil => cases b
        | cons x0 σs =>
          cases a
          cases b
          rcases c with rfl | ⟨v, u, rfl, rfl, ru⟩
          · exact .un (tl σs ρs rfl rfl)
          · exact .im ru (tl σs ρs rfl rfl)
  | _, _, _, .im r s, σ', ρ', h => by
    rcases h 0 with ⟨a, b⟩ | ⟨a, _⟩
    · cases ρ' with
      | nil => cases a
      | cons y0 ρs =>
        cases σ' with
        | nil => cases b
        | cons x0 σs =>
          cases a
          cases b
          exact .im r (s.patch fun k => h (k + 1))
    · cases a
  | _, _, _, .ow r s, σ', ρ', h => by
    rcases h 0 with ⟨a, b⟩ | ⟨a, _⟩
    · cases ρ' with
      | nil => cases a
      | cons y0 ρs =>
        cases σ' with
        | nil => cases b
        | cons x0 σs =>
          cases a
          cases b
          exact .ow r (s.patch fun k => h (k + 1))
    · cases a
section
variable {g : G} {W : WX} {t : Fr} {X : Cx} {pos : Pos} {e : Expr} {pa : PEx} {σ : L2.St} {H H1 : Hp}
/-- a comprehension's names, moved to a heap behind -/
theorem S_move {ρ ρ1 : Env} {σ2 : L2.St} {H' H2 : Hp} {vs : List Nat} (s1 : S g t ρ σ H1) (x : Ext g H1 H2) (b2 : BoxR g H2) (hps : ∀ p ∈ t.ps, p.1 ∉ vs) (s2 : S g t ρ1 σ2 H') (kp : Kp g H' H2) (hw : wipe σ2 vs = wipe σ vs)
    (hρ : ∀ k : Nat, (ρ1[k]? : Option Sl) = (wipeE ρ vs)[k]? ∨ (k ∈ vs ∧ ∃ w, (ρ1[k]? : Option Sl) = some (.im w))) : S g t ρ1 σ2 H2 := by
  have sw := (s1.mono x b2).wipe hps
  obtain ⟨A, h1, h2, h3⟩ := sw.sl
  obtain ⟨A2, g1, _, _⟩ := s2.sl
  have at' : ∀ k : Nat, k ∉ vs → σ2[k]? = (wipe σ vs)[k]? := fun k hk => by
    rw [← hw, wipe_at, if_neg hk]
  refine ⟨⟨A, h1.patch fun k => ?_, h2, h3⟩, sw.bx, sw.fr, sw.kp, sw.th, fun p m => ?_, sw.bm, sw.xd⟩
  · by_cases hk : k ∈ vs
    · cases hr : (ρ1[k]? : Option Sl) with
      | none =>
        refine .inl ⟨?_, ?_⟩
        · rcases hρ k with h | ⟨_, w, h⟩
          · exact hr.symm.trans h
          · rw [hr] at h; cases h
        · have l1 : σ2[k]? = none := by
            have := List.getElem?_eq_none_iff.mp hr
            exact List.getElem?_eq_none (by rw [g1.len]; exact this)
          have : (wipe σ2 vs)[k]? = none := by rw [wipe_at, if_pos hk, l1]; rfl
          rw [l1, ← hw, this]
      | some y =>
        have lt : k < ρ1.length := (List.getElem?_eq_some_iff.mp hr).1
        have ls : k < σ2.length := by rw [g1.len]; exact lt
        have ex : σ2[k]? = some σ2[k] := List.getElem?_eq_getElem ls
        have un : ((wipeE ρ vs)[k]? : Option Sl) = some .un := by
          have l2 : k < (wipe σ vs).length := by
            rw [← hw]
            have : ((wipe σ2 vs)[k]?).isSome = true := by rw [wipe_at, if_pos hk, ex]; rfl
            exact (List.getElem?_eq_some_iff.mp (Option.isSome_iff_exists.mp this).choose_spec).1
          have l3 : k < (wipeE ρ vs).length := by rw [← h1.len]; exact l2
          have : ((wipeE ρ vs)[k]? : Option Sl).isSome = true := by rw [List.getElem?_eq_getElem l3]; rfl
          rw [wipeE_at, if_pos hk] at this ⊢
          cases hx : (ρ[k]? : Option Sl) with
          | none => rw [hx] at this; cases this
          | some z => rfl
        refine .inr ⟨un, _, y, rfl, ex, ?_⟩
        rcases hρ k with h | ⟨_, w, h⟩
        · rw [un, hr] at h
          cases h
          exact .inl rfl
        · rw [hr] at h
          cases h
          obtain ⟨v, e1, e2⟩ := g1.atIm hr
          rw [ex] at e1
          exact .inr ⟨v, w, Option.some.inj e1, rfl, e2.mono kp⟩
    · refine .inl ⟨?_, at' k hk⟩
      rcases hρ k with h | ⟨h, _⟩
      · exact h
      · exact absurd h hk
  · have hk := hps p m
    have := s1.ps p m
    rw [at' p.1 hk, wipe_at, if_neg hk]
    exact this
def imS : R → Option (List U)
  | .im (.tup us) => some us
  | .im (.lst us) => some us
  | _ => none
def lstS (us : List U) (r : Res (List U)) : Res (List U) := if us.length ≤ 300 then r else .st
def mapR2 (bd : U → Env → Option Env) (cond : PTs') (tg1 : Tg) (cond1 : PTs') (elt : PEx) (vs1 : List Nat) (p1 : PEx) (ρ : Env) : List U → Res (List U)
  | [] => .ok []
  | u :: us => (Res.opt (bd u ρ)).bind fun ρ1 => (cond ρ1).bind fun b => if b = true then (p1 ρ1).bind fun r1 => (Res.opt (imS r1)).bind fun us1 => (lstS us1 (mapR (bindT tg1) cond1 elt (wipeE ρ1 vs1) us1)).bind fun ys => (mapR2 bd cond tg1 cond1 elt vs1 p1 ρ us).bind fun zs => .ok (ys ++ zs) else mapR2 bd cond tg1 cond1 elt vs1 p1 ρ us
def lcEnd2 (us : List U) (r : Res (List U)) : Res R := if us.length ≤ 300 then r.calm.bind fun ys => .ok (.fr (.ol (ys.map .lf))) else .st
def pLC2 (tg : Tg) (cond : PTs') (tg1 : Tg) (cond1 : PTs') (elt : PEx) (vs vs1 : List Nat) (p p1 : PEx) : PEx := fun ρ => (p ρ).bind fun r => (Res.opt (seqR r)).bind fun us => lcEnd2 us (mapR2 (bindT tg) cond tg1 cond1 elt vs1 p1 (wipeE ρ vs) us)
theorem lc_fin2 {us : List U} {r : Res (List U)} {P : R → Prop} {E : Er → Prop} (h : (lcEnd2 us r).post P E) : us.length ≤ 300 ∧ r.post (fun ys => P (.fr (.ol (ys.map .lf)))) fun _ => False := by
  unfold lcEnd2 at h
  by_cases hl : us.length ≤ 300
  · rw [if_pos hl] at h
    exact ⟨hl, post_calm.mp (post_bind.mp h)⟩
  · rw [if_neg hl] at h; exact h.elim
def LcQ (g : G) (H1 : Hp) (D : Addr) (N : Nat) (r : Res (List U)) (Fin : List U → Prop) (H' : Hp) : Prop :=
  Ext g H1 H' ∧ BoxR g H' ∧ ∃ acc ys, H' D = some (.lst acc) ∧ RUs g H' acc ys ∧ ys.length ≤ N ∧ r.post (fun zs => Fin (ys ++ zs)) fun _ => False
theorem lcq_yld {D : Addr} {H' H4 : Hp} {acc : List V} {ys : List U} {y : V} {w : U} {r : R} {A : List Addr} (n : H1 D = none) (bx : BoxR g H1) (e : Ext g H1 H') (hD : H' D = some (.lst acc)) (hr : RUs g H' acc ys) (x : Ext g H' H4) (b4 : BoxR g H4) (r4 : RV g H4 y r A) (ew : imR r = some w) :
    H4 D = some (.lst acc) ∧ Ext g H1 (upd H4 D (.lst (acc ++ [y]))) ∧ BoxR g (upd H4 D (.lst (acc ++ [y]))) ∧ RUs g (upd H4 D (.lst (acc ++ [y]))) (acc ++ [y]) (ys ++ [w]) ∧ Kp g H' (upd H4 D (.lst (acc ++ [y]))) := by
  have nbD : Nb g D := bx.nb n
  have h4 : H4 D = some (.lst acc) := x.sm D _ hD fun b' c hb => (nbD b' c hb).1
  have sm : Kp g H4 (upd H4 D (.lst (acc ++ [y]))) := fun p o hp st => by
    refine (upd_ne fun z => ?_).trans hp
    rw [z, h4] at hp
    cases hp
    exact st
  refine ⟨h4, ⟨fun p o hp nb => ?_, fun p o hp st => ?_⟩, fun b' c hb => ?_, ((hr.mono x.kp).mono sm).append (.cons ((im_of r4 ew).2.mono sm) .nil), x.kp.trans sm⟩
  · exact (upd_ne (ne_of_none hp n)).trans ((e.trans x).sm p o hp nb)
  · exact sm p o ((e.trans x).kp p o hp st) st
  · obtain ⟨nbc, cs, i1, d1, sd1, n1, hb1, hb2, hb3⟩ := b4 b' c hb
    exact ⟨nbc, cs, i1, d1, sd1, n1, (upd_ne (Ne.symm (nbD b' c hb).1)).trans hb1, (upd_ne (Ne.symm (nbD b' c hb).2)).trans hb2, hb3⟩
theorem in_list {K : PySem.W.Frag} {a : Addr} {xs : List V} {H4 : Hp} {Pv : Nat → Hp → Prop} {Nx : Hp → Prop} {F : V → Hp → (Hp → Prop) → Prop} (h0 : Pv 0 H4) (hl : ∀ i H, i ≤ xs.length → Pv i H → SqL K H a xs)
    (hs : ∀ i x H, xs[i]? = some x → Pv i H → F x H (Pv (i + 1))) (hd : ∀ H, Pv xs.length H → Nx H) :
    ∃ W1 : Nat → Nat → Hp → Prop, (∃ m, W1 0 m H4) ∧ ∀ j k H, W1 j k H → ((Itl K a).stop j H ∧ Nx H) ∨ ((Itl K a).go j H ∧ ∃ Nx1 : Hp → Prop, (∀ H', Nx1 H' → ∃ k', k' < k ∧ W1 (j + 1) k' H') ∧ ∀ x H', (Itl K a).yld j H x H' → F x H' Nx1) := by
  refine ⟨fun i m H => m = xs.length - i ∧ i ≤ xs.length ∧ Pv i H, ⟨xs.length, by simp, Nat.zero_le _, h0⟩, ?_⟩
  rintro i m H ⟨rfl, hi, p⟩
  have q := hl i H hi p
  by_cases hlt : i < xs.length
  · refine .inr ⟨⟨xs, xs[i], q, by simp [hlt]⟩, Pv (i + 1), fun H' p' => ⟨xs.length - (i + 1), by omega, rfl, hlt, p'⟩, fun x H' y => ?_⟩
    obtain ⟨e, y⟩ := y
    subst e
    exact hs i x _ (y xs q) p
  · have e : i = xs.length := by omega
    subst e
    exact .inl ⟨⟨xs, q, Nat.le_refl _⟩, hd H p⟩
theorem in_tup {K : PySem.W.Frag} {a : Addr} {xs : List V} {H4 : Hp} {Pv : Nat → Hp → Prop} {Nx : Hp → Prop} {F : V → Hp → (Hp → Prop) → Prop} (h0 : Pv 0 H4) (hl : ∀ i H, i ≤ xs.length → Pv i H → SqT K H a xs)
    (hs : ∀ i x H, xs[i]? = some x → Pv i H → F x H (Pv (i + 1))) (hd : ∀ H, Pv xs.length H → Nx H) :
    ∃ W1 : Nat → Nat → Hp → Prop, (∃ m, W1 0 m H4) ∧ ∀ j k H, W1 j k H → ((Itt K a).stop j H ∧ Nx H) ∨ ((Itt K a).go j H ∧ ∃ Nx1 : Hp → Prop, (∀ H', Nx1 H' → ∃ k', k' < k ∧ W1 (j + 1) k' H') ∧ ∀ x H', (Itt K a).yld j H x H' → F x H' Nx1) := by
  refine ⟨fun i m H => m = xs.length - i ∧ i ≤ xs.length ∧ Pv i H, ⟨xs.length, by simp, Nat.zero_le _, h0⟩, ?_⟩
  rintro i m H ⟨rfl, hi, p⟩
  have q := hl i H hi p
  by_cases hlt : i < xs.length
  · refine .inr ⟨⟨xs, xs[i], q, by simp [hlt]⟩, Pv (i + 1), fun H' p' => ⟨xs.length - (i + 1), by omega, rfl, hlt, p'⟩, fun x H' y => ?_⟩
    obtain ⟨e, y⟩ := y
    subst e
    exact hs i x _ (y xs q) p
  · have e : i = xs.length := by omega
    subst e
    exact .inl ⟨⟨xs, q, Nat.le_refl _⟩, hd H p⟩
variable {tg tg1 : Tg} {cond cond1 : PTs'} {elt p1 : PEx} {vs vs1 : List Nat}
/-- what is left of the inner clause, and then of the outer one -/
def rest2 (bd : U → Env → Option Env) (cond : PTs') (tg1 : Tg) (cond1 : PTs') (elt : PEx) (vs1 : List Nat) (p1 : PEx) (ρ ρ1 : Env) (us1 us : List U) : Res (List U) :=
  (mapR (bindT tg1) cond1 elt (wipeE ρ1 vs1) us1).bind fun ys => (mapR2 bd cond tg1 cond1 elt vs1 p1 ρ us).bind fun zs => .ok (ys ++ zs)
theorem lc2_in {D : Addr} {ρ ρ1 : Env} {σ2 : L2.St} {us us1 : List U} {Fin : List U → Prop} {N j : Nat} {u1 : U} {x : V} {H4 H' : Hp} (hix : ∀ i ∈ tg.ix, i ∈ vs) (hps : ∀ p ∈ t.ps, p.1 ∉ vs) (hix1 : ∀ i ∈ tg1.ix, i ∈ vs1) (hps1 : ∀ p ∈ t.ps, p.1 ∉ vs1) (hN : N + j < 100000)
    (s : S g t ρ σ H1) (n : H1 D = none) (s2 : S g t ρ1 σ2 H4) (hw : wipe σ2 vs = wipe σ vs) (hρ : ∀ k : Nat, (ρ1[k]? : Option Sl) = (wipeE ρ vs)[k]? ∨ (k ∈ vs ∧ ∃ w, (ρ1[k]? : Option Sl) = some (.im w)))
    (hu : us1[j]? = some u1) (ru : RU g H' x u1) (kp : Kp g H4 H') (h : LcQ g H1 D (N + j) (rest2 (bindT tg) cond tg1 cond1 elt vs1 p1 (wipeE ρ vs) ρ1 (us1.drop j) us) Fin H') :
    lG g t tg1 x (wipe σ2 vs1) H' fun σ3 H5 => wipe σ3 vs1 = wipe σ2 vs1 ∧ lT g W0 t cond1 σ3 H5 fun b H6 => if b = true then lE g W0 t elt σ3 H6 fun y H7 => ∃ acc, H7 D = some (.lst acc) ∧ acc.length < sizeLine ∧ (Kp g H4 (upd H7 D (.lst (acc ++ [y]))) ∧ LcQ g H1 D (N + (j + 1)) (rest2 (bindT tg) cond tg1 cond1 elt vs1 p1 (wipeE ρ vs) ρ1 (us1.drop (j + 1)) us) Fin (upd H7 D (.lst (acc ++ [y])))) else (Kp g H4 H6 ∧ LcQ g H1 D (N + (j + 1)) (rest2 (bindT tg) cond tg1 cond1 elt vs1 p1 (wipeE ρ vs) ρ1 (us1.drop (j + 1)) us) Fin H6) := by
  obtain ⟨e, b, acc, ys, hD, hr, hy, hm⟩ := h
  have nbD : Nb g D := s.bx.nb n
  have hd : us1.drop j = u1 :: us1.drop (j + 1) := by
    obtain ⟨hlt, e⟩ := List.getElem?_eq_some_iff.mp hu
    rw [← e]
    exact List.drop_eq_getElem_cons hlt
  rw [hd] at hm
  unfold rest2 at hm
  have hm := post_bind.mp hm
  unfold mapR at hm
  obtain ⟨ρ2, e1, hm⟩ := post_opt (post_bind.mp hm)
  have sm := S_move s e b hps s2 kp hw hρ
  refine ⟨_, u1, ρ2, sm.wipe hps1, ru, e1, fun σ' s' w' => ⟨?_, ρ2, s', post_mono (fun k hk H3 x3 b3 => ?_) (fun e x => x.elim) (post_bind.mp hm)⟩⟩
  · have z := w' vs1 hix1
    rw [z]
    apply List.ext_getElem?
    intro j
    rw [wipe_at, wipe_at]
    by_cases hj : j ∈ vs1
    · rw [if_pos hj, if_pos hj]; cases σ2[j]? <;> rfl
    · rw [if_neg hj, if_neg hj]
  · cases k with
    | false => exact ⟨kp.trans x3.kp, e.trans x3, b3, acc, ys, x3.sm D _ hD fun b' c hb => (nbD b' c hb).1, hr.mono x3.kp, by omega, post_bind.mpr hk⟩
    | true =>
      refine ⟨ρ2, s'.mono x3 b3, post_mono (fun r hr' y H5 A x4 b4 r4 n4 f4 => ?_) (fun e x => x.elim) (post_bind.mp hk)⟩
      obtain ⟨w, ew, hr'⟩ := post_opt (post_bind.mp hr')
      obtain ⟨q1, q2, q3, q4, q5⟩ := lcq_yld n s.bx e hD hr (x3.trans x4) b4 r4 ew
      refine ⟨acc, q1, ?_, kp.trans q5, q2, q3, acc ++ [y], ys ++ [w], upd_same, q4, by rw [List.length_append]; show ys.length + 1 ≤ _; omega, ?_⟩
      · rw [hr.len]
        exact Nat.lt_of_le_of_lt hy (Nat.lt_trans hN (by decide))
      · refine post_bind.mpr (post_mono (fun zs hz => ?_) (fun e x => x) (post_bind.mp hr'))
        have hz : ((mapR2 (bindT tg) cond tg1 cond1 elt vs1 p1 (wipeE ρ vs) us).bind fun vs => Res.ok ((w :: zs) ++ vs)).post (fun zs => Fin (ys ++ zs)) fun _ => False := hz
        refine post_bind.mpr (post_mono (fun vs hv => ?_) (fun e x => x) (post_bind.mp hz))
        show Fin (ys ++ [w] ++ (zs ++ vs))
        have hv : Fin (ys ++ ((w :: zs) ++ vs)) := hv
        rw [List.append_assoc]
        exact hv
theorem lc2_turn {D : Addr} {ρ : Env} {us : List U} {Fin : List U → Prop} {i : Nat} {u : U} {x : V} {H' : Hp} (hix : ∀ i ∈ tg.ix, i ∈ vs) (hps : ∀ p ∈ t.ps, p.1 ∉ vs) (hix1 : ∀ i ∈ tg1.ix, i ∈ vs1) (hps1 : ∀ p ∈ t.ps, p.1 ∉ vs1) (hl : us.length ≤ 300)
    (s : S g t ρ σ H1) (n : H1 D = none) (hu : us[i]? = some u) (ru : RU g H' x u) (h : LcQ g H1 D (300 * i) (mapR2 (bindT tg) cond tg1 cond1 elt vs1 p1 (wipeE ρ vs) (us.drop i)) Fin H') :
    lG g t tg x (wipe σ vs) H' fun σ2 H2 => wipe σ2 vs = wipe σ vs ∧ lT g W0 t cond σ2 H2 fun b H3 => if b = true then iSeq g.K (lE g W0 t p1) σ2 H3 fun J1 H4 => ∃ W1 : Nat → Nat → Hp → Prop, (∃ m, W1 0 m H4) ∧ ∀ j k H, W1 j k H →
      (J1.stop j H ∧ LcQ g H1 D (300 * (i + 1)) (mapR2 (bindT tg) cond tg1 cond1 elt vs1 p1 (wipeE ρ vs) (us.drop (i + 1))) Fin H) ∨ (J1.go j H ∧ ∃ Nx1 : Hp → Prop, (∀ H', Nx1 H' → ∃ k', k' < k ∧ W1 (j + 1) k' H') ∧ ∀ x H', J1.yld j H x H' → lG g t tg1 x (wipe σ2 vs1) H' fun σ3 H5 => wipe σ3 vs1 = wipe σ2 vs1 ∧ lT g W0 t cond1 σ3 H5 fun b H6 =>
        if b = true then lE g W0 t elt σ3 H6 fun y H7 => ∃ acc, H7 D = some (.lst acc) ∧ acc.length < sizeLine ∧ Nx1 (upd H7 D (.lst (acc ++ [y]))) else Nx1 H6)
      else LcQ g H1 D (300 * (i + 1)) (mapR2 (bindT tg) cond tg1 cond1 elt vs1 p1 (wipeE ρ vs) (us.drop (i + 1))) Fin H3 := by
  obtain ⟨e, b, acc, ys, hD, hr, hy, hm⟩ := h
  have nbD : Nb g D := s.bx.nb n
  have hi : i < us.length := (List.getElem?_eq_some_iff.mp hu).1
  have hd : us.drop i = u :: us.drop (i + 1) := by
    obtain ⟨hlt, e⟩ := List.getElem?_eq_some_iff.mp hu
    rw [← e]
    exact List.drop_eq_getElem_cons hlt
  rw [hd] at hm
  unfold mapR2 at hm
  obtain ⟨ρ1, e1, hm⟩ := post_opt (post_bind.mp hm)
  have hρ : ∀ k : Nat, (ρ1[k]? : Option Sl) = (wipeE ρ vs)[k]? ∨ (k ∈ vs ∧ ∃ w, (ρ1[k]? : Option Sl) = some (.im w)) := fun k => (bindT_at e1 k).imp id fun h => ⟨hix k h.1, h.2⟩
  refine ⟨_, u, ρ1, (s.mono e b).wipe hps, ru, e1, fun σ' s' w' => ?_⟩
  have hw : wipe σ' vs = wipe σ vs := by
    have z := w' vs hix
    rw [z]
    apply List.ext_getElem?
    intro j
    rw [wipe_at, wipe_at]
    by_cases hj : j ∈ vs
    · rw [if_pos hj, if_pos hj]; cases σ[j]? <;> rfl
    · rw [if_neg hj, if_neg hj]
  refine ⟨hw, ρ1, s', post_mono (fun k hk H3 x3 b3 => ?_) (fun e x => x.elim) (post_bind.mp hm)⟩
  cases k with
  | false => exact ⟨e.trans x3, b3, acc, ys, x3.sm D _ hD fun b' c hb => (nbD b' c hb).1, hr.mono x3.kp, by omega, hk⟩
  | true =>
    refine ⟨ρ1, s'.mono x3 b3, post_mono (fun r1 hr1 v H4 A x4 b4 rv nA fA => ?_) (fun e x => x.elim) (post_bind.mp hk)⟩
    obtain ⟨us1, eu, hr1⟩ := post_opt (post_bind.mp hr1)
    have hr1 := post_bind.mp hr1
    unfold lstS at hr1
    by_cases l1 : us1.length ≤ 300
    · rw [if_pos l1] at hr1
      have s2 : S g t ρ1 σ' H4 := s'.mono (x3.trans x4) b4
      have h4 : H4 D = some (.lst acc) := (x3.trans x4).sm D _ hD fun b' c hb => (nbD b' c hb).1
      have st0 : Kp g H4 H4 ∧ LcQ g H1 D (300 * i + 0) (rest2 (bindT tg) cond tg1 cond1 elt vs1 p1 (wipeE ρ vs) ρ1 (us1.drop 0) (us.drop (i + 1))) Fin H4 :=
        ⟨Kp.refl _, e.trans (x3.trans x4), b4, acc, ys, h4, hr.mono (x3.trans x4).kp, hy, post_bind.mpr hr1⟩
      have dn : ∀ {xs : List V} {H : Hp}, xs.length = us1.length → (Kp g H4 H ∧ LcQ g H1 D (300 * i + xs.length) (rest2 (bindT tg) cond tg1 cond1 elt vs1 p1 (wipeE ρ vs) ρ1 (us1.drop xs.length) (us.drop (i + 1))) Fin H) → LcQ g H1 D (300 * (i + 1)) (mapR2 (bindT tg) cond tg1 cond1 elt vs1 p1 (wipeE ρ vs) (us.drop (i + 1))) Fin H := fun {xs H} hx h => by
        obtain ⟨_, e', b', acc', ys', hD', hr', hy', hm'⟩ := h
        rw [hx, List.drop_length] at hm'
        unfold rest2 at hm'
        have hm' := post_bind.mp hm'
        unfold mapR at hm'
        have hm' : ((mapR2 (bindT tg) cond tg1 cond1 elt vs1 p1 (wipeE ρ vs) (us.drop (i + 1))).bind fun zs => .ok ([] ++ zs)).post (fun zs => Fin (ys' ++ zs)) fun _ => False := hm'
        exact ⟨e', b', acc', ys', hD', hr', by omega, post_mono (fun zs hz => hz) (fun e x => x) (post_bind.mp hm')⟩
      have bd : ∀ j : Nat, j < us1.length → 300 * i + j < 100000 := fun j hj => by omega
      cases r1 with
      | im w =>
        obtain ⟨rfl, rv⟩ := rv
        cases w with
        | lst ws =>
          cases eu
          cases rv with
          | lst f1 f2 =>
            rename_i p xs
            refine ⟨p, rfl, .inl ⟨⟨xs, f1.sq⟩, in_list (K := g.K) (a := p) (xs := xs) (Pv := fun j H => Kp g H4 H ∧ LcQ g H1 D (300 * i + j) (rest2 (bindT tg) cond tg1 cond1 elt vs1 p1 (wipeE ρ vs) ρ1 (us1.drop j) (us.drop (i + 1))) Fin H) (F := fun x H' N => lG g t tg1 x (wipe σ' vs1) H' fun σ3 H5 => wipe σ3 vs1 = wipe σ' vs1 ∧ lT g W0 t cond1 σ3 H5 fun b H6 => if b = true then lE g W0 t elt σ3 H6 fun y H7 => ∃ acc, H7 D = some (.lst acc) ∧ acc.length < sizeLine ∧ N (upd H7 D (.lst (acc ++ [y]))) else N H6) st0 (fun j H _ hp => (f1.mono hp.1).sq) (fun j x H hx hp => ?_) (fun H hp => dn f2.len hp)⟩⟩
            obtain ⟨u1, hu1, ru1⟩ := (f2.mono hp.1).atV hx
            exact lc2_in hix hps hix1 hps1 (bd j (List.getElem?_eq_some_iff.mp hu1).1) s n s2 hw hρ hu1 ru1 hp.1 hp.2
        | tup ws =>
          cases eu
          cases rv with
          | tup f1 f2 =>
            rename_i p xs
            refine ⟨p, rfl, .inr ⟨⟨xs, f1.sq⟩, in_tup (K := g.K) (a := p) (xs := xs) (Pv := fun j H => Kp g H4 H ∧ LcQ g H1 D (300 * i + j) (rest2 (bindT tg) cond tg1 cond1 elt vs1 p1 (wipeE ρ vs) ρ1 (us1.drop j) (us.drop (i + 1))) Fin H) (F := fun x H' N => lG g t tg1 x (wipe σ' vs1) H' fun σ3 H5 => wipe σ3 vs1 = wipe σ' vs1 ∧ lT g W0 t cond1 σ3 H5 fun b H6 => if b = true then lE g W0 t elt σ3 H6 fun y H7 => ∃ acc, H7 D = some (.lst acc) ∧ acc.length < sizeLine ∧ N (upd H7 D (.lst (acc ++ [y]))) else N H6) st0 (fun j H _ hp => sqT_mono hp.1 f1.sq) (fun j x H hx hp => ?_) (fun H hp => dn f2.len hp)⟩⟩
            obtain ⟨u1, hu1, ru1⟩ := (f2.mono hp.1).atV hx
            exact lc2_in hix hps hix1 hps1 (bd j (List.getElem?_eq_some_iff.mp hu1).1) s n s2 hw hρ hu1 ru1 hp.1 hp.2
        | _ => cases eu
      | br ws => cases eu
      | fr o => cases eu
    · rw [if_neg l1] at hr1; exact hr1.elim
theorem lc2_done {D : Addr} {Fin : List U → Prop} {H' : Hp} {Q : VK} {m : Res (List U)} (b1 : BoxR g H1) (n : H1 D = none) (hm : m = .ok []) {k : Nat} (h : LcQ g H1 D k m Fin H')
    (hF : ∀ ys, Fin ys → ∀ v H'' A, Ext g H1 H'' → BoxR g H'' → RV g H'' v (.fr (.ol (ys.map .lf))) A → A.Nodup → (∀ a ∈ A, H1 a = none) → Q v H'') : Q (.ref D) H' := by
  obtain ⟨e, b, acc, ys, hD, hr, hy, h⟩ := h
  rw [hm] at h
  have h : Fin (ys ++ []) := h
  rw [List.append_nil] at h
  exact hF ys h _ H' [D] e b ⟨.ol hD (to_leafs hr), fun x m => by rw [List.mem_singleton.mp m]; exact b1.nb n⟩ (by simp) fun x m => by rw [List.mem_singleton.mp m]; exact n
theorem llc2 (hix : ∀ i ∈ tg.ix, i ∈ vs) (hps : ∀ p ∈ t.ps, p.1 ∉ vs) (hix1 : ∀ i ∈ tg1.ix, i ∈ vs1) (hps1 : ∀ p ∈ t.ps, p.1 ∉ vs1) {Q : VK} (h : lE g W t (pLC2 tg cond tg1 cond1 elt vs vs1 pa p1) σ H Q) : tLc2 (iSeq g.K (lE g W t pa)) (lG g t tg) (lT g W0 t cond) (iSeq g.K (lE g W0 t p1)) (lG g t tg1) (lT g W0 t cond1) (lE g W0 t elt) vs vs1 σ H Q := by
  obtain ⟨ρ, sS, h⟩ := h
  refine ⟨ρ, sS, post_mono (fun r hr v H1 A x1 b1 r1 n1 f1 => ?_) (fun e x => x) (post_bind.mp h)⟩
  obtain ⟨us, e1, hr⟩ := post_opt (post_bind.mp hr)
  obtain ⟨hl, hr⟩ := lc_fin2 hr
  obtain ⟨Fin, hFin, hr⟩ : ∃ Fin : List U → Prop, (∀ ys, Fin ys → ∀ v H' A, Ext g H H' → BoxR g H' → RV g H' v (.fr (.ol (ys.map .lf))) A → A.Nodup → (∀ a ∈ A, H a = none) → Q v H') ∧ (mapR2 (bindT tg) cond tg1 cond1 elt vs1 p1 (wipeE ρ vs) us).post Fin fun _ => False := ⟨_, fun ys h => h, hr⟩
  have st0 : ∀ D : Addr, H1 D = none → LcQ g H1 D (300 * 0) (mapR2 (bindT tg) cond tg1 cond1 elt vs1 p1 (wipeE ρ vs) (us.drop 0)) Fin (upd H1 D (.lst [])) := fun D nD => ⟨.new nD, b1.same (same_new nD), [], [], upd_same, .nil, Nat.zero_le _, hr⟩
  unfold seqR at e1
  cases e2 : lstR r with
  | some ws =>
    rw [e2, Option.some_or] at e1
    cases e1
    obtain ⟨a, xs, rfl, h2, h3⟩ := r1.lstS e2
    refine ⟨a, rfl, .inl ⟨⟨xs, h2 H1 (Ext.refl H1)⟩, fun D nD => in_list (K := g.K) (a := a) (xs := xs) (Pv := fun i H => LcQ g H1 D (300 * i) (mapR2 (bindT tg) cond tg1 cond1 elt vs1 p1 (wipeE ρ vs) (us.drop i)) Fin H) (Nx := fun H => Q (.ref D) H) (F := fun x H' N => lG g t tg x (wipe σ vs) H' fun σ2 H2 => wipe σ2 vs = wipe σ vs ∧ lT g W0 t cond σ2 H2 fun b H3 => if b = true then iSeq g.K (lE g W0 t p1) σ2 H3 fun J1 H4 => ∃ W1 : Nat → Nat → Hp → Prop, (∃ m, W1 0 m H4) ∧ ∀ j k H, W1 j k H → (J1.stop j H ∧ N H) ∨ (J1.go j H ∧ ∃ Nx1 : Hp → Prop, (∀ H', Nx1 H' → ∃ k', k' < k ∧ W1 (j + 1) k' H') ∧ ∀ x H', J1.yld j H x H' → lG g t tg1 x (wipe σ2 vs1) H' fun σ3 H5 => wipe σ3 vs1 = wipe σ2 vs1 ∧ lT g W0 t cond1 σ3 H5 fun b H6 => if b = true then lE g W0 t elt σ3 H6 fun y H7 => ∃ acc, H7 D = some (.lst acc) ∧ acc.length < sizeLine ∧ Nx1 (upd H7 D (.lst (acc ++ [y]))) else Nx1 H6) else N H3) (st0 D nD) (fun i H' _ hp => h2 H' hp.1) (fun i x H' hx hp => ?_) (fun H' hp => ?_)⟩⟩
    · obtain ⟨u, hu, ru⟩ := (h3.mono hp.1.kp).atV hx
      exact lc2_turn hix hps hix1 hps1 hl (sS.mono x1 b1) nD hu ru hp
    · rw [h3.len] at hp
      refine lc2_done b1 nD (by rw [List.drop_length]; rfl) hp fun ys hF v H'' A x2 b2 r2 n2 f2 => hFin ys hF v H'' A (x1.trans x2) b2 r2 n2 fun y m => x1.back b1 (f2 y m)
  | none =>
    rw [e2, Option.none_or] at e1
    obtain ⟨a, xs, rfl, h2, h3⟩ := r1.tup e1
    refine ⟨a, rfl, .inr ⟨⟨xs, h2⟩, fun D nD => in_tup (K := g.K) (a := a) (xs := xs) (Pv := fun i H => LcQ g H1 D (300 * i) (mapR2 (bindT tg) cond tg1 cond1 elt vs1 p1 (wipeE ρ vs) (us.drop i)) Fin H) (Nx := fun H => Q (.ref D) H) (F := fun x H' N => lG g t tg x (wipe σ vs) H' fun σ2 H2 => wipe σ2 vs = wipe σ vs ∧ lT g W0 t cond σ2 H2 fun b H3 => if b = true then iSeq g.K (lE g W0 t p1) σ2 H3 fun J1 H4 => ∃ W1 : Nat → Nat → Hp → Prop, (∃ m, W1 0 m H4) ∧ ∀ j k H, W1 j k H → (J1.stop j H ∧ N H) ∨ (J1.go j H ∧ ∃ Nx1 : Hp → Prop, (∀ H', Nx1 H' → ∃ k', k' < k ∧ W1 (j + 1) k' H') ∧ ∀ x H', J1.yld j H x H' → lG g t tg1 x (wipe σ2 vs1) H' fun σ3 H5 => wipe σ3 vs1 = wipe σ2 vs1 ∧ lT g W0 t cond1 σ3 H5 fun b H6 => if b = true then lE g W0 t elt σ3 H6 fun y H7 => ∃ acc, H7 D = some (.lst acc) ∧ acc.length < sizeLine ∧ Nx1 (upd H7 D (.lst (acc ++ [y]))) else Nx1 H6) else N H3) (st0 D nD) (fun i H' _ hp => sqT_mono hp.1.kp h2) (fun i x H' hx hp => ?_) (fun H' hp => ?_)⟩⟩
    · obtain ⟨u, hu, ru⟩ := (h3.mono hp.1.kp).atV hx
      exact lc2_turn hix hps hix1 hps1 hl (sS.mono x1 b1) nD hu ru hp
    · rw [h3.len] at hp
      refine lc2_done b1 nD (by rw [List.drop_length]; rfl) hp fun ys hF v H'' A x2 b2 r2 n2 f2 => hFin ys hF v H'' A (x1.trans x2) b2 r2 n2 fun y m => x1.back b1 (f2 y m)
theorem ue_lc2 (hix : ∀ i ∈ tg.ix, i ∈ vs) (hps : ∀ p ∈ t.ps, p.1 ∉ vs) (hix1 : ∀ i ∈ tg1.ix, i ∈ vs1) (hps1 : ∀ p ∈ t.ps, p.1 ∉ vs1) (h : PE X e (tLc2 (iSeq g.K (lE g W t pa)) (lG g t tg) (lT g W0 t cond) (iSeq g.K (lE g W0 t p1)) (lG g t tg1) (lT g W0 t cond1) (lE g W0 t elt) vs vs1)) : PE X e (lE g W t (pLC2 tg cond tg1 cond1 elt vs vs1 pa p1)) := PE.imp h fun _ _ _ h => llc2 hix hps hix1 hps1 h
end
end Rl
/-! Rl: functions with keyword-only parameters: their defs and their calls. -/
namespace Rl
open PySem PySem.Spec PyProof.Rows L2 Wn
section
variable {CT : CXT} {Z : Cx} {kk a1 : Nat} {fi : Addr} {dta : FuncData} {prs nms : List Str} {sq : Sp} {Ex : L2.St → XK} {cn : Str} {px pz : Pos} {e1 : Expr} {er : List Expr} {kwl : List Keyword} {tp tq : TA} {mg1 : List Value → List Value → List Value} {mgV : List V → List V → List V}
def tCallNS (a1 m1 : Nat) (sq : Sp) (mgV : List V → List V → List V) (Ex : L2.St → XK) (tp tq : TA) : TE := fun σ H Q => tCallN a1 m1 sq mgV (Ex σ) tp tq σ H Q
/-- f(e, .., k = v, ..), in a try too -/
theorem pe_callNS (F : FnOk Z.prog Z.w Z.K Z.mg Z.base CT kk fi dta prs sq) (room : Room kk Z.A) (gl : Gl Z cn) (gm : Z.mg cn = some (.ref fi)) (kp : PySem.W.keepIn Z.K (.ref fi) = true) (B : KBn Z.K dta prs a1 nms mg1 mgV) (ps : ∀ τ, PassesAt CT Z τ (Ex τ)) (pa1 : PA Z (e1 :: er) tp) (pk1 : PK Z kwl tq)
    (named : (backToKw pz (keywordEach kwl Z.env)).all (·.1.isSome) = true := by rfl) (names : (backToKw pz (keywordEach kwl Z.env)).filterMap (·.1) = nms := by rfl) (nodbg : (cn == ("__debug__" : Str)) = false := by decide)
    (first : starEach (e1 :: er) Z.env = (false, eval e1 Z.env) :: starEach er Z.env := by rfl) (plain : ((backTo pz (starEach (e1 :: er) Z.env)).any (·.1) || (backToKw pz (keywordEach kwl Z.env)).any (·.1.isNone)) = false := by rfl) :
    PE Z (.Call (.Name cn px) (e1 :: er) kwl pz) (tCallNS a1 nms.length sq mgV Ex tp tq) := ⟨fun ks1 st τ h R J wish => by
  have wish : tp τ h fun xs h1 => tq τ h1 fun ys h2 => _ := wish
  refine wpAny_Call_Name_kw (ld_glob J gl gm ?_ nodbg)
  refine PySem.W.callWith_KW (h₀ := Z.base) J.ok.mod.kin kp named (thn (pa1.run pz ks1 st τ h _ J wish) fun as s1 ⟨xs, h1, J1, r1, w1⟩ => ?_) plain first
  refine thn (pk1.run pz ks1 s1 τ h1 _ J1 w1) fun bs s2 ⟨ys, h2, J2, r2, la, lb, w2⟩ => ⟨J2.kIn, ?_⟩
  rw [names]
  refine wpAny_call (codeAny_mono (F.run Z.A Z.stack s2 h2 ⟨as, nms.zip bs⟩ (mg1 as bs) (mgV xs ys) R (Ex τ) room J2.env0 (B.to s2 as bs J2.kIn (r1.length.symm.trans la) (r2.length.symm.trans lb)) (B.rel r1 r2) w2) fun out s3 got => ?_)
  match out, got with
  | .error e, got => exact ps τ ks1 _ _ e s3 J2 got
  | .ok (.ret u), got => exact J2.after got
  | .ok .next, got => exact got.elim
  | .ok .brk, got => exact got.elim
  | .ok .cont, got => exact got.elim⟩
end
section
variable {g : G} {W : WX} {t : Fr} {X : Cx} {e : Expr} {pas pks : PAs} {σ : L2.St} {H H1 : Hp}
def pCallK (n m : Nat) (gU : List U → List U → List U) (fn : List U → Res R) (pas pks : PAs) : PEx := fun ρ => (pas ρ).bind fun rs => (Res.opt (if rs.length = n then imRs rs else none)).bind fun us => (pks ρ).bind fun zs => (Res.opt (if zs.length = m then imRs zs else none)).bind fun ws => fn (gU us ws)
theorem ue_callK {n m k : Nat} {gU : List U → List U → List U} {gV : List V → List V → List V} {fn : List U → Res R}
    (hg : ∀ H vs zs us ws, RUs g H vs us → RUs g H zs ws → us.length = n → ws.length = m → RUs g H (gV vs zs) (gU us ws) ∧ (gU us ws).length = k)
    (h : PE X e (tCallNS n m (spF g k fn) gV (WE W) (lA g W t pas) (lA g W t pks))) : PE X e (lE g W t (pCallK n m gU fn pas pks)) := PE.imp h fun σ H Q h => by
  obtain ⟨ρ, sS, h⟩ := h
  refine ⟨ρ, sS, post_mono (fun rs hr vs H1 A x1 b1 r1 n1 f1 => ?_) (fun e x => x) (post_bind.mp h)⟩
  obtain ⟨us, eu, hr⟩ := post_opt (post_bind.mp hr)
  obtain ⟨ru, hl⟩ := args_of r1 eu
  refine ⟨ρ, sS.mono x1 b1, post_mono (fun zs hz ys H2 B x2 b2 r2 n2 f2 => ?_) (fun e x => x.back x1) (post_bind.mp hr)⟩
  obtain ⟨ws, ew, hz⟩ := post_opt (post_bind.mp hz)
  obtain ⟨rw', hlw⟩ := args_of r2 ew
  obtain ⟨r3, l3⟩ := hg H2 vs ys us ws (ru.mono x2.kp) rw' hl hlw
  exact ⟨by rw [ru.len, hl], by rw [rw'.len, hlw], _, r3, l3, b2, post_mono (fun r hr v H3 C x3 b3 r3 n3 f3 => hr v H3 C ((x1.trans x2).trans x3) b3 r3 n3 fun y m => (x1.trans x2).back b2 (f3 y m)) (fun e x dd H3 x3 b3 d => x dd H3 ((x1.trans x2).trans x3) b3 d) hz⟩
theorem hk_app {n m k : Nat} (e : n + m = k) : ∀ (H : Hp) (vs zs : List V) (us ws : List U), RUs g H vs us → RUs g H zs ws → us.length = n → ws.length = m → RUs g H (vs ++ zs) (us ++ ws) ∧ (us ++ ws).length = k := fun H vs zs us ws a b c d => ⟨a.append b, by rw [List.length_append, c, d, e]⟩
theorem hk_def {n k : Nat} {ds : List V} {du : List U} (hd : ∀ H, RUs g H ds du) (e : n + du.length = k) : ∀ (H : Hp) (vs zs : List V) (us ws : List U), RUs g H vs us → RUs g H zs ws → us.length = n → ws.length = 0 → RUs g H (vs ++ ds) (us ++ du) ∧ (us ++ du).length = k := fun H vs zs us ws a b c d => ⟨a.append (hd H), by rw [List.length_append, c, e]⟩
end
section
variable {P : Program} {w : World} {mg : Str → Option Value} {base : Heap} {g : G}
/-- a def with keyword-only parameters -/
theorem fn_okD {x qual : Str} {params : Arguments} {bd : List Stmt} {sc : Scope} {dvs : List V} {kws : List (Str × V)} {f : Addr} {fd : FuncData} {N ps : List Str} {k n m : Nat} {body : PSt} (F : FunD g.K x qual params bd sc dvs kws f fd) (Sc : FnScope N ps sc) (hn : ps.length = n) (hN : N.length = n + m)
    (hb : ∀ (cdv : Value) (A : Around) (outer : List PySem.Env) (s : Shared) (H : Hp) (E : XK), Room k (A.deeper (envOfC qual sc s.heap.objs.size f cdv)) →
      PSs (cxOf (L2.CX P w) P w g.K mg base N qual sc f cdv A outer s H E) bd (lS g (fun c d _ H' => E c d H') ⟨H, boxM g, [], []⟩ body)) :
    FnOk P w g.K mg base (L2.CX P w) (k + 1) f fd ps (spF g n (runF body m)) := by
  refine F.ok Sc (fun vs H Q E h => ?_) (fun cdv A outer s H vs Q E hr h => ?_)
  · obtain ⟨us, r, hl, _⟩ := h
    rw [r.len, hl, hn]
  · obtain ⟨us, r, hl, b, h⟩ := h
    refine ⟨_, hb cdv A outer s H E hr, _, S.start r b (m := m) (by rw [r.len, hl, hN]; omega), post_mono (fun o ho => ?_) (fun e x => ?_) (post_bind.mp h)⟩
    · cases o with
      | nx ρ => exact fun σ' H' k s => ho .non H' [] s.ext s.bx ⟨rfl, .non⟩ List.nodup_nil fun x m => nomatch m
      | rt r ρ => exact fun v σ' H' A k s rv nd f => ho v H' A s.ext s.bx rv nd f
      | bk ρ => exact ho.elim
      | ct ρ => exact ho.elim
    · exact fun dd ρ σ' H' k s d => x dd H' s.ext s.bx d
end
end Rl
/-! Rl: a loop over a written tuple of pairs whose first items may be new lists; x.clear(). -/
namespace Rl
open PySem PySem.Spec PyProof.Rows L2 Wn
section
variable {g : G} {W : WX} {t : Fr} {X : Cx} {e : Expr} {pas pks : PAs} {σ : L2.St} {H H1 : Hp}
def fClr (_ : List O) : List R → Option (List O)
  | [] => some []
  | _ => none
def two : List R → Option (R × U)
  | [r, s] => (imR s).map fun u => (r, u)
  | _ => none
def evD : List (PEx × PEx) → Env → Res (List (R × U))
  | [], _ => .ok []
  | (p, q) :: l, ρ => (pCons p (pCons q pNil) ρ).bind fun xs => (Res.opt (two xs)).bind fun ru => (evD l ρ).bind fun rs => .ok (ru :: rs)
def pLoopD (i j : Nat) (body : PSt) : List (R × U) → PSt
  | [], ρ => .ok (.nx ρ)
  | (r, u) :: l, ρ => (Res.opt (bindR i r ρ)).bind fun ρ1 => (body (ρ1.set j (.im u))).bind fun o => match o with
    | .nx ρ2 => pLoopD i j body l ρ2
    | .ct ρ2 => pLoopD i j body l ρ2
    | .bk ρ2 => .ok (.nx ρ2)
    | .rt r ρ2 => .ok (.rt r ρ2)
def pForD (rows : List (PEx × PEx)) (i j : Nat) (body : PSt) : PSt := fun ρ => (evD rows ρ).bind fun rs => if rs.length ≤ 1000 then pLoopD i j body rs ρ else .st
/-- the rows as they stand -/
inductive RD (g : G) (H : Hp) : List V → List (R × U) → List Addr → Prop
  | nil : RD g H [] [] []
  | cons {p : Addr} {x y : V} {r : R} {u : U} {vs : List V} {rs : List (R × U)} {A B : List Addr} : PT g.K H p [x, y] → RV g H x r A → RU g H y u → RD g H vs rs B → RD g H (.ref p :: vs) ((r, u) :: rs) (A ++ B)
theorem RD.mono {H H' : Hp} (e : Ext g H H') : ∀ {vs : List V} {rs : List (R × U)} {A : List Addr}, RD g H vs rs A → RD g H' vs rs A
  | _, _, _, .nil => .nil
  | _, _, _, .cons a b c d => .cons (pt_mono e.kp a) (b.mono e) (c.mono e.kp) (d.mono e)
theorem RD.len {H : Hp} : ∀ {vs : List V} {rs : List (R × U)} {A : List Addr}, RD g H vs rs A → vs.length = rs.length
  | _, _, _, .nil => rfl
  | _, _, _, .cons _ _ _ d => by rw [List.length_cons, List.length_cons, d.len]
theorem RD.there {H : Hp} : ∀ {vs : List V} {rs : List (R × U)} {A : List Addr}, RD g H vs rs A → ∀ a ∈ A, ∃ u, H a = some u
  | _, _, _, .nil, _, m => nomatch m
  | _, _, _, .cons _ b _ d, a, m => (List.mem_append.mp m).elim (b.there a) (d.there a)
def rowsT (g : G) (W : WX) (t : Fr) : List (PEx × PEx) → TA
  | [] => tNil
  | (p, q) :: l => tCons (tTupP (lA g W t (pCons p (pCons q pNil)))) (rowsT g W t l)
theorem rows_run : ∀ {l : List (PEx × PEx)} {σ : L2.St} {H : Hp} {ρ : Env} {K : List V → Hp → Prop}, S g t ρ σ H →
    (evD l ρ).post (fun rs => ∀ vs H' A, Ext g H H' → BoxR g H' → RD g H' vs rs A → A.Nodup → (∀ a ∈ A, H a = none) → K vs H') (Wx g W σ H) → rowsT g W t l σ H K
  | [], σ, H, ρ, K, sS, h => h [] H [] (Ext.refl H) sS.bx .nil List.nodup_nil fun x m => nomatch m
  | (p, q) :: l, σ, H, ρ, K, sS, h => by
    unfold evD at h
    refine ⟨ρ, sS, post_mono (fun xs hx vs H1 A x1 b1 r1 n1 f1 => ?_) (fun e x => x) (post_bind.mp h)⟩
    obtain ⟨ru, e2, hx⟩ := post_opt (post_bind.mp hx)
    match xs, e2, r1 with
    | [r, s], e2, .cons (v := x) (vs := ws) (A := A1) (B := A2) ra rb =>
      obtain ⟨u, eu, rfl⟩ := map_some (show (imR s).map _ = _ from e2)
      cases rb with
      | cons rb rc =>
        cases rc
        obtain ⟨rfl, ry⟩ := im_of rb eu
        rename_i y _ _
        refine ⟨(by show 2 ≤ sizeLine; decide), fun P H2 nt => ?_⟩
        have b2 := b1.same nt.same
        have x2 : Ext g H H2 := x1.trans (.of nt.same)
        refine rows_run (sS.mono x2 b2) (post_mono (fun rs hr vs H3 B x3 b3 r3 n3 f3 => ?_) (fun e x => x.back x2) (post_bind.mp hx))
        have fr := fresh2 x2 b2 n1 f1 (fun a m => by
          obtain ⟨z, hz⟩ := (RVs.cons ra (.cons rb .nil)).there a m
          exact ⟨z, nt.same _ _ hz⟩) n3 f3
        have rr := RD.cons (pt_mono x3.kp nt.pt) ((ra.mono (.of nt.same)).mono x3) ((ry.mono (kp_same nt.same)).mono x3.kp) r3
        refine hr _ H3 _ (x2.trans x3) b3 rr ?_ ?_
        · have := fr.1
          simpa using this
        · have := fr.2
          intro a m
          exact this a (by simpa using m)
theorem RV_at {H' : Hp} {v : V} {r : R} {A : List Addr} {i : Nat} {ρ ρ' : Env} (h : RV g H1 v r A) (k : Kp g H1 H') (s : ∀ a ∈ A, H' a = H1 a) (e : bindR i r ρ = some ρ') : RV g H' v r A := by
  cases r with
  | im u => exact ⟨h.1, h.2.mono k⟩
  | br us => cases e
  | fr o => exact ⟨h.1.mono k s, h.2⟩
theorem S_weak {H' : Hp} {M B : List Addr} {ρ : Env} {ps : List (Nat × V)} {xs : List (Option Addr × Er)} (s : S g ⟨H1, M, ps, xs⟩ ρ σ H') : S g ⟨H1, M ++ B, ps, xs⟩ ρ σ H' where
  sl := by
    obtain ⟨A, h1, h2, h3⟩ := s.sl
    exact ⟨A, h1, h2, fun a m => ⟨(h3 a m).1.imp (fun z => List.mem_append_left _ z) id, (h3 a m).2⟩⟩
  bx := s.bx
  fr := fun x o hx nm => s.fr x o hx fun m => nm (List.mem_append_left _ m)
  kp := s.kp
  th := s.th
  ps := s.ps
  bm := fun b c e => List.mem_append_left _ (s.bm b c e)
  xd := s.xd
theorem S_bindM {H' : Hp} {M A : List Addr} {ρ ρ' : Env} {ps : List (Nat × V)} {xs : List (Option Addr × Er)} {v : V} {r : R} {i : Nat} (s : S g ⟨H1, M, ps, xs⟩ ρ σ H') (h : RV g H' v r A) (n : A.Nodup) (dM : ∀ a ∈ A, a ∉ M) (d1 : ∀ a ∈ A, ∃ u, H1 a = some u) (e : bindR i r ρ = some ρ') (hi : ∀ p ∈ ps, p.1 ≠ i) : S g ⟨H1, M ++ A, ps, xs⟩ ρ' (σ.set i (some v)) H' := by
  cases r with
  | im u => cases e; exact (S_weak s).setIm h.2 hi
  | br us => cases e
  | fr o =>
    cases e
    obtain ⟨A0, h1, h2, h3⟩ := s.sl
    obtain ⟨A', h4, h5, h6⟩ := h1.setOw h.1 n i h2 fun a m z => by
      rcases (h3 a m).1 with q | q
      · exact dM a z q
      · obtain ⟨u, hu⟩ := d1 a z
        have q : H1 a = none := q
        rw [hu] at q; cases q
    have s1 := S_weak (B := A) s
    refine ⟨⟨A', h4, h5, fun a m => ?_⟩, s1.bx, s1.fr, s1.kp, s1.th, set_ps hi s1.ps, s1.bm, s1.xd⟩
    rcases h6 a m with z | z
    · exact ⟨(h3 a z).1.imp (fun z => List.mem_append_left _ z) id, (h3 a z).2⟩
    · exact ⟨.inl (List.mem_append_right _ z), h.2 a z⟩
theorem S_back {H' : Hp} {M : List Addr} {ρ ρ' : Env} {σ' : L2.St} (s1 : S g t ρ σ H1) (hM : ∀ a ∈ M, a ∈ t.M ∨ t.H0 a = none) (s : S g ⟨H1, M, t.ps, t.xs⟩ ρ' σ' H') : S g t ρ' σ' H' where
  sl := by
    obtain ⟨A, h1, h2, h3⟩ := s.sl
    refine ⟨A, h1, h2, fun a m => ⟨?_, (h3 a m).2⟩⟩
    rcases (h3 a m).1 with z | z
    · exact hM a z
    · refine .inr ?_
      have z : H1 a = none := z
      cases hx : t.H0 a with
      | none => rfl
      | some o =>
        obtain ⟨o', ho⟩ := s1.th a o hx
        rw [z] at ho; cases ho
  bx := s.bx
  fr := fun x o hx nm => s.fr x o (s1.fr x o hx nm) fun m => by
    rcases hM x m with z | z
    · exact nm z
    · rw [hx] at z; cases z
  kp := s1.kp.trans s.kp
  th := fun x o hx => by
    obtain ⟨o', ho⟩ := s1.th x o hx
    exact s.th x o' ho
  ps := s.ps
  bm := s1.bm
  xd := s.xd
theorem pss_any {ι : Type} {sts : List Stmt} {T : ι → TS} (h : ∀ i, PSs X sts (T i)) : PSs X sts (fun D σ H => ∃ i, T i D σ H) := ⟨fun pins s σ H D I ⟨i, q⟩ => (h i).run pins s σ H D I q⟩
theorem us_forD {st : Stmt} {bd : List Stmt} {rows : List (PEx × PEx)} {i j : Nat} {body : PSt} (hp : t.ps = []) (hx : t.xs = []) (hb : ∀ q : Hp × List Addr, PSs X bd (lS g W ⟨q.1, q.2, [], []⟩ body))
    (hf : ∀ tb, PSs X bd tb → PS X st (tFor (iTup g.K (tTupP (rowsT g W t rows))) (gTup g.K 2 (gCons (gName i) (gCons (gName j) gNil))) tb)) : PS X st (lS g W t (pForD rows i j body)) := by
  refine PS.imp (hf _ (pss_any hb)) fun D σ H h => ?_
  obtain ⟨ρ, sS, h⟩ := h
  refine rows_run sS (post_mono (fun rs hr vs H1 A x1 b1 rd nA fA => ?_) (fun e x => x.wx sS) (post_bind.mp h))
  obtain ⟨A0, z1, z2, z3⟩ := sS.sl
  have hr2 : rs.length ≤ 1000 ∧ (pLoopD i j body rs ρ).post (oS g t D H) (xS g W t H) := by
    by_cases hl : rs.length ≤ 1000
    · rw [if_pos hl] at hr
      exact ⟨hl, hr⟩
    · rw [if_neg hl] at hr
      exact hr.elim
  obtain ⟨hl, hr⟩ := hr2
  refine ⟨by rw [rd.len]; exact Nat.le_trans hl (by decide), fun P H2 nt => ⟨P, rfl, ⟨vs, nt.pt.sq⟩, ?_⟩⟩
  have x2 : Ext g H H2 := x1.trans (.of nt.same)
  have b2 := b1.same nt.same
  have s2 := sS.mono x2 b2
  have rd2 := rd.mono (.of nt.same)
  have bkS : ∀ {M : List Addr} {ρ' : Env} {σ' : L2.St} {H' : Hp}, (∀ a ∈ M, a ∈ t.M ∨ t.H0 a = none) → S g ⟨H2, M, [], []⟩ ρ' σ' H' → S g t ρ' σ' H' := fun hM s => S_back s2 hM (by rw [hp, hx]; exact s)
  refine for_tup (K := g.K) (a := P) (xs := vs) (g := gTup g.K 2 (gCons (gName i) (gCons (gName j) gNil))) (tb := fun D σ H => ∃ q : Hp × List Addr, lS g W ⟨q.1, q.2, [], []⟩ body D σ H) (D := D) (σ := σ) (H := H2) (fun k σ' H' => ∃ ρ' M B, S g ⟨H2, M, [], []⟩ ρ' σ' H' ∧ (∀ a ∈ M, a ∈ t.M ∨ t.H0 a = none) ∧ RD g H2 (vs.drop k) (rs.drop k) B ∧ B.Nodup ∧ (∀ a ∈ B, a ∉ M) ∧ (∀ a ∈ B, t.H0 a = none) ∧ (pLoopD i j body (rs.drop k) ρ').post (oS g t D H2) (xS g W t H2)) ?_ (fun k σ' H' _ hq => ?_) (fun k x σ' H' hk hq => ?_) (fun σ' H' hq => ?_)
  · refine ⟨ρ, (t.M ++ A0).filter (fun a => (H a).isSome), A, ?_, fun a m => ?_, rd2, nA, fun a m z => ?_, fun a m => sS.out (fA a m), post_mono (fun o h => oS.back x2.kp h) (fun e h => h.back x2.kp) hr⟩
    · refine ⟨⟨A0, z1.ext x2 fun a m => (z3 a m).2, z2, fun a m => ⟨.inl (List.mem_filter.mpr ⟨List.mem_append_right _ m, ?_⟩), (z3 a m).2⟩⟩, b2, fun x o hx _ => hx, Kp.refl _, fun x o hx => ⟨o, hx⟩, (fun p m => nomatch m), fun b c e => ?_, (fun p m => nomatch m)⟩
      · obtain ⟨u, hu⟩ := z1.there a m
        rw [hu]; rfl
      · refine List.mem_filter.mpr ⟨List.mem_append_left _ (sS.bm b c e), ?_⟩
        obtain ⟨_, _, _, _, _, _, h1, _⟩ := sS.bx b c e
        rw [h1]; rfl
    · obtain ⟨m, _⟩ := List.mem_filter.mp m
      rcases List.mem_append.mp m with m | m
      · exact .inl m
      · exact (z3 a m).1
    · have := (List.mem_filter.mp z).2
      rw [fA a m] at this
      cases this
  · obtain ⟨ρ', M, B, s, _⟩ := hq
    exact (pt_mono s.kp nt.pt).sq
  · obtain ⟨ρ', M, B, s, hM, rdk, nB, dB, fB, hh⟩ := hq
    have hd : vs.drop k = x :: vs.drop (k + 1) := by
      obtain ⟨hlt, e⟩ := List.getElem?_eq_some_iff.mp hk
      rw [← e]
      exact List.drop_eq_getElem_cons hlt
    rw [hd] at rdk
    have tl : rs.drop (k + 1) = (rs.drop k).tail := List.tail_drop.symm
    cases hrs : rs.drop k with
    | nil => rw [hrs] at rdk; cases rdk
    | cons ru rs' =>
      rw [hrs] at rdk hh tl
      have tl : rs.drop (k + 1) = rs' := tl
      cases rdk with
      | cons q1 q2 q3 q4 =>
        rename_i p x0 y0 r u A1 A2
        obtain ⟨n1, n2, n3⟩ := List.nodup_append.mp nB
        unfold pLoopD at hh
        obtain ⟨ρ1, e1, hh⟩ := post_opt (post_bind.mp hh)
        have agree : ∀ a ∈ A1, H' a = H2 a := fun a m => by
          obtain ⟨o, ho⟩ := q2.there a m
          rw [ho]
          exact s.fr a o ho (dB a (List.mem_append_left _ m))
        have sb := S_bindM s (RV_at q2 s.kp agree e1) n1 (fun a m => dB a (List.mem_append_left _ m)) (fun a m => q2.there a m) e1 (fun p m => nomatch m)
        have sc := sb.setIm (q3.mono s.kp) (i := j) (fun p m => nomatch m)
        have hM' : ∀ a ∈ M ++ A1, a ∈ t.M ∨ t.H0 a = none := fun a m => (List.mem_append.mp m).elim (hM a) fun m => .inr (fB a (List.mem_append_left _ m))
        refine ⟨p, [x0, y0], rfl, (pt_mono s.kp q1).sq, rfl, x0, [y0], rfl, y0, [], rfl, rfl, (H2, M ++ A1), ρ1.set j (.im u), sc, post_mono (fun o ho => ?_) (fun e x => ?_) (post_bind.mp hh)⟩
        · have nxt : ∀ {ρ2 : Env} {σ'' : L2.St} {H'' : Hp}, S g ⟨H2, M ++ A1, [], []⟩ ρ2 σ'' H'' → (pLoopD i j body rs' ρ2).post (oS g t D H2) (xS g W t H2) → ∃ ρ' M B, S g ⟨H2, M, [], []⟩ ρ' σ'' H'' ∧ (∀ a ∈ M, a ∈ t.M ∨ t.H0 a = none) ∧ RD g H2 (vs.drop (k + 1)) (rs.drop (k + 1)) B ∧ B.Nodup ∧ (∀ a ∈ B, a ∉ M) ∧ (∀ a ∈ B, t.H0 a = none) ∧ (pLoopD i j body (rs.drop (k + 1)) ρ').post (oS g t D H2) (xS g W t H2) := fun s' hq => by
            rw [tl]
            refine ⟨_, _, A2, s', hM', q4, n2, fun a m z => ?_, fun a m => fB a (List.mem_append_right _ m), hq⟩
            rcases List.mem_append.mp z with z | z
            · exact dB a (List.mem_append_right _ m) z
            · exact n3 a z a m rfl
          cases o with
          | nx ρ2 => exact fun σ2 H3 k2 s2 => nxt s2 ho
          | ct ρ2 => exact fun σ2 H3 k2 s2 => nxt s2 ho
          | bk ρ2 => exact fun σ2 H3 k2 s3 => ho σ2 H3 (s.kp.trans k2) (bkS hM' s3)
          | rt r' ρ2 => exact fun v σ2 H3 A3 k2 s3 rv nd fr => ho v σ2 H3 A3 (s.kp.trans k2) (bkS hM' s3) rv nd fun a m => (bkS hM' s3 |> fun _ => s2.out (show H2 a = none from fr a m))
        · exact fun dd ρ' σ2 H3 k2 s3 d => x dd ρ' σ2 H3 (s.kp.trans k2) (bkS hM' s3) d
  · obtain ⟨ρ', M, B, s, hM, rdk, nB, dB, fB, hh⟩ := hq
    have : rs.drop vs.length = [] := by rw [rd.len, List.drop_length]
    rw [this] at hh
    exact hh σ' H' s.kp (bkS hM s)
theorem ur_nil : PA X [] (rowsT g W t []) := pa_nil
theorem ur_cons {a b : Expr} {es : List Expr} {p q : PEx} {l : List (PEx × PEx)} {x1 : _} {pos : Pos} (h1 : PA X [a, b] (lA g W t (pCons p (pCons q pNil)))) (h2 : PA X es (rowsT g W t l)) (hs : starEach (.Tuple [a, b] x1 pos :: es) X.env = (false, eval (.Tuple [a, b] x1 pos) X.env) :: starEach es X.env := by rfl) : PA X (.Tuple [a, b] x1 pos :: es) (rowsT g W t ((p, q) :: l)) := pa_cons (pe_tupP h1) h2 hs
theorem us_forD2 {tgx : Expr} {es : List Expr} {bd : List Stmt} {x1 : _} {p2 p3 : Pos} {rows : List (PEx × PEx)} {i j : Nat} {body : PSt} (hP : PassesOwn (model X.prog X.w) X.A X.env X.xe) (hc : X.calm = true) (hK : X.K = g.K) (hp : t.ps = []) (hx : t.xs = []) (hi : PA X es (rowsT g W t rows)) (hg : PG X tgx (gTup g.K 2 (gCons (gName i) (gCons (gName j) gNil))))
    (hb : ∀ q : Hp × List Addr, PSs X bd (lS g W ⟨q.1, q.2, [], []⟩ body)) : PS X (.For tgx (.Tuple es x1 p2) bd [] p3) (lS g W t (pForD rows i j body)) :=
  us_forD hp hx hb fun tb hb => by
    have hi' := pi_tup (tg := tgx) (pe_tupP (x1 := x1) (pos := p2) hi)
    rw [hK] at hi'
    exact ps_for (pos := p3) hP hc hi' hg hb
/-- x.clear() -/
theorem us_clr {st : Stmt} {i : Nat} (h : PS X st (tDrop (tBM0 g.K "list" rClear (tVar i)))) : PS X st (lS g W t (pLs i fClr pNil)) := by
  refine PS.imp h fun D σ H h => ?_
  obtain ⟨ρ, sS, h⟩ := h
  obtain ⟨os, e1, h⟩ := pLs_at h
  obtain ⟨a, xs, e2, ha⟩ := sS.olAt e1
  obtain ⟨a', A2, q1, q2, q3, q4, q5⟩ := sS.put (Ext.refl H) sS.bx e1 rfl
  have ea : a' = a := by rw [e2] at q1; cases q1; rfl
  subst ea
  have nst : ¬ Stay g (.lst xs) := fun z => z
  obtain ⟨n3, _⟩ := List.nodup_cons.mp q3
  obtain ⟨k, s⟩ := q5 (.lst []) _ (.ol []) [] ha nst (.ol upd_same .nil) (by simp) (fun x m => nomatch m)
  have h : oS g t D H (.nx (ρ.set i (.ow (.ol [])))) := h
  exact ⟨.ref a', e2, .inl ⟨rfl, xs, .inl (.inl ha)⟩, a', xs, rfl, rfl, ha, h σ _ k s⟩
end
end Rl
/-! Wn: len of an object of an own class with __len__. -/
namespace Wn
open PySem PySem.Spec PySem.Calls PyProof.Rows L2
section
variable {X : Cx} {CX : CXT} {C g : Addr} {n : Nat} {sp : Sp} {E : XK} {fd : FuncData} {ps : List Str}
structure OwnLen (K : PySem.W.Frag) (C g : Addr) : Prop where
  len : PySem.W.findIn K (.ref C) "__len__" = some (some (.ref g))
  fn : PySem.W.isFn K (.ref g) = true
theorem call_lenO {K : PySem.W.Frag} (eK : X.K = K) (T : OwnLen K C g) (F : FnOk X.prog X.w X.K X.mg X.base CX n g fd ps sp) (hb : Binds K fd ps []) (hr : Room (n + 1) X.A) (hx : Passes CX X E) :
    CallR X (.builtin "len") (fun xs H Q => ∃ a dx fs, xs = [.ref a] ∧ H a = some (.ins C dx fs) ∧ sp [.ref a] H (fun z H' => ∃ k : Int, z = .int k ∧ 0 ≤ k ∧ k < 2 ^ 63 ∧ Q (.int k) H') E) := by
  subst eK
  intro pins s σ H xs us Q I r h
  obtain ⟨a, dx, fs, rfl, ha, q⟩ := h
  obtain ⟨u, rfl, ru⟩ := vals1 r
  obtain rfl : u = Value.ref a := ru
  obtain ⟨mA, O, _⟩ := ins_get I.hok ha
  obtain ⟨od, J, _⟩ := O.look
  refine Calls.call_function_entry kind_len plain_len entry_len (args_len1 _) ?_
  unfold Builtin.«len»
  refine wpAny_bind (m := oneArg "len" _) (wpAny_pure ?_)
  refine wpAny_bind (m := callSpecial? (.ref a) (PySem.Str.ofString "__len__")) (PySem.W.special_fn I.kIn J T.len (beq_iff_eq.mp T.fn) ?_)
  refine wpAny_mono (run_fn1 (us := [.ref a]) (vs := [.ref a]) F hr hb hx I (.cons rfl .nil) q) (fun w s' z => ?_) fun _ _ x => x
  obtain ⟨z', H', I', rz, k, ek, h0, h1, qz⟩ := z
  subst ek
  obtain ⟨t, rfl⟩ : ∃ t, w = Value.int k t := rz
  refine wpAny_bind (wpAny_holding (wpAny_pure ?_))
  refine wpAny_bind (wpAny_letGo ?_)
  show wpAny _ _ (if k < 0 then _ else _) _ _ _
  rw [if_neg (by omega)]
  show wpAny _ _ (if k ≥ 2 ^ 63 then _ else _) _ _ _
  rw [if_neg (by omega)]
  exact wpAny_bind (wpAny_mkInt (wpAny_pure ⟨_, rfl, .int k, H', I'.tok _, ⟨_, rfl⟩, qz⟩))
end
end Wn
/-! Rl: properties of an own object, and its len. -/
namespace Rl
open PySem PySem.Spec PyProof.Rows L2 Wn
section
variable {g : G} {W : WX} {t : Fr} {X : Cx} {e : Expr} {σ : L2.St} {H H1 : Hp}
def pLk (i k : Nat) (fn : List O → List U → Res R) : PEx := fun (ρ : List Sl) =>
  match (ρ[i]? : Option Sl) with
  | some (.ow (.oi c os)) => if c = k then (fn os []).calm else .st
  | _ => .st
theorem pLk_at {i k : Nat} {fn : List O → List U → Res R} {ρ : List Sl} {P : R → Prop} {E : Er → Prop} (h : (pLk i k fn ρ).post P E) : ∃ os, ρ[i]? = some (.ow (.oi k os)) ∧ (fn os []).post P fun _ => False := by
  unfold pLk at h
  cases e : (ρ[i]? : Option Sl) with
  | none => rw [e] at h; exact h.elim
  | some sl =>
    rw [e] at h
    cases sl with
    | un => exact h.elim
    | im u => exact h.elim
    | ow o =>
      cases o with
      | lf u => exact h.elim
      | ol os => exact h.elim
      | oi c os =>
        change ((if c = k then (fn os []).calm else .st : Res R)).post P E at h
        by_cases hc : c = k
        · rw [if_pos hc] at h
          subst hc
          exact ⟨os, rfl, post_calm.mp h⟩
        · rw [if_neg hc] at h; exact h.elim
theorem ue_prop {i k : Nat} {fn : List O → List U → Res R} (h : PE X e (tProp (g.ct k).C (spB g k 1 fn) [] (WE W0 []) (tVar i))) : PE X e (lE g W t (pLk i k fn)) := by
  refine PE.imp h fun σ H Q h => ?_
  obtain ⟨ρ, sS, h⟩ := h
  obtain ⟨os, e1, h⟩ := pLk_at h
  obtain ⟨v, B, g1, g2, -, g3, g4, -, -⟩ := sS.putG (Ext.refl H) sS.bx e1
  have g2' := g2
  cases g2 with
  | oi h1 hn h2 =>
    rename_i ad dx fs A2
    exact ⟨.ref ad, g1, ad, dx, fs, rfl, h1, ad, [], [], os, _, rfl, .nil, rfl, sS.bx, g2', g3, fun y m => (g4 y m).2, post_mono (fun r hr v H2 C x2 b2 r2 n2 f2 => hr v H2 C x2 b2 r2 n2 f2) (fun e x => x.elim) h⟩
def pLen (i k : Nat) (fn : List O → List U → Res R) : PEx := fun ρ => (pLk i k fn ρ).bind fun r => .opt ((iR r).bind fun n => if 0 ≤ n ∧ n < 2 ^ 62 then some (.im (.int n)) else none)
theorem ue_len {i k : Nat} {fn : List O → List U → Res R} (h : PE X e (tCB (fun xs H Q => ∃ a dx fs, xs = [.ref a] ∧ H a = some (.ins (g.ct k).C dx fs) ∧ spB g k 1 fn [.ref a] H (fun z H' => ∃ n : Int, z = .int n ∧ 0 ≤ n ∧ n < 2 ^ 63 ∧ Q (.int n) H') (WE W0 [])) (tCons (tVar i) tNil))) : PE X e (lE g W t (pLen i k fn)) := by
  refine PE.imp h fun σ H Q h => ?_
  obtain ⟨ρ, sS, h⟩ := h
  obtain ⟨os, e1, h⟩ := pLk_at (post_bind.mp h)
  obtain ⟨v, B, g1, g2, -, g3, g4, -, -⟩ := sS.putG (Ext.refl H) sS.bx e1
  have g2' := g2
  cases g2 with
  | oi h1 hn h2 =>
    rename_i ad dx fs A2
    refine ⟨.ref ad, g1, ad, dx, fs, rfl, h1, ad, [], [], os, _, rfl, .nil, rfl, sS.bx, g2', g3, fun y m => (g4 y m).2, post_mono (fun r hr v H2 C x2 b2 r2 n2 f2 => ?_) (fun e x => x.elim) h⟩
    obtain ⟨c, ec, q⟩ := post_opt hr
    cases hn' : iR r with
    | none => rw [hn'] at ec; cases ec
    | some n =>
      rw [hn'] at ec
      change (if 0 ≤ n ∧ n < 2 ^ 62 then some (Rl.R.im (.int n)) else none) = some c at ec
      by_cases hb : 0 ≤ n ∧ n < 2 ^ 62
      · rw [if_pos hb] at ec
        cases ec
        have ev : v = .int n := iR_of r2 hn'
        exact ⟨n, ev, hb.1, by omega, q (.int n) H2 [] x2 b2 ⟨rfl, .int _⟩ List.nodup_nil fun x m => nomatch m⟩
      · rw [if_neg hb] at ec; cases ec
/-- f(x, ..), f a def that only looks at x -/
theorem ue_mbF' {i k n : Nat} {fn : List O → List U → Res R} {pas : PAs} {tA : TA} (hA : ∀ σ H Q, lA g W t pas σ H Q → tA σ H Q) (h : PE X e (tCallS (spB g k n fn) (WE W) (tCons (tVar i) tA))) : PE X e (lE g W t (pMb i k n fn pas)) := by
  refine PE.imp h fun σ H Q h => ?_
  obtain ⟨ρ, sS, h⟩ := h
  obtain ⟨os, e1, h⟩ := oi_at (f := fun os => (pas ρ).bind fun rs => (Res.opt (argU n rs)).bind fun us => fn os us) h
  obtain ⟨v, B, g1, g2, -, g3, g4, -, -⟩ := sS.putG (Ext.refl H) sS.bx e1
  have g2' := g2
  cases g2 with
  | oi h1 hn h2 =>
    rename_i ad dx fs A2
    refine ⟨.ref ad, g1, hA _ _ _ ⟨ρ, sS, post_mono (fun rs hr vs H1 A x1 b1 r1 n1 f1 => ?_) (fun e x => x) (post_bind.mp h)⟩⟩
    obtain ⟨us, eu, hf⟩ := post_opt (post_bind.mp hr)
    obtain ⟨ru, hl⟩ := argU_of r1 eu
    exact ⟨ad, vs, us, os, _, rfl, ru, hl, b1, g2'.ext x1 fun y m => (g4 y m).2, g3, fun y m => (g4 y m).2, post_mono (fun r hr v H2 C x2 b2 r2 n2 f2 => hr v H2 C (x1.trans x2) b2 r2 n2 fun y m => x1.back b1 (f2 y m)) (fun e x dd H2 x2 b2 d => x dd H2 (x1.trans x2) b2 d) hf⟩
theorem ue_mbF {i k n : Nat} {fn : List O → List U → Res R} {pas : PAs} (h : PE X e (tCallS (spB g k n fn) (WE W) (tCons (tVar i) (lA g W t pas)))) : PE X e (lE g W t (pMb i k n fn pas)) := ue_mbF' (fun _ _ _ h => h) h
theorem ue_mbF0 {i k n : Nat} {fn : List O → List U → Res R} (h : PE X e (tCallS (spB g k n fn) (WE W) (tCons (tVar i) tNil))) : PE X e (lE g W t (pMb i k n fn pNil)) := ue_mbF' (tA := tNil) (fun _ _ _ h => lnilA h) h
end
end Rl
/-! Rl: defs that change an own object, and leave it as it was where they raise. -/
namespace Rl
open PySem PySem.Spec PyProof.Rows L2 Wn
def spMx (g : G) (c n : Nat) (fn : List O → List U → Res (List O × U)) : Sp := fun vs H Q E => ∃ x vs' us os A, vs = .ref x :: vs' ∧ RUs g H vs' us ∧ us.length + 1 = n ∧ BoxR g H ∧ RO g H (.ref x) (.oi c os) A ∧ A.Nodup ∧ (∀ y ∈ A, Nb g y) ∧
  (fn os us).post (fun p => ∀ v H' B, Fm g A H H' → Kp g H H' → Th H H' → BoxR g H' → RO g H' (.ref x) (.oi c p.1) B → B.Nodup → (∀ y ∈ B, y ∈ A ∨ (H y = none ∧ Nb g y)) → RU g H' v p.2 → Q v H')
    (fun e => ∀ dd H' B, Fm g A H H' → Kp g H H' → Th H H' → BoxR g H' → RO g H' (.ref x) (.oi c os) B → B.Nodup → (∀ y ∈ B, y ∈ A ∨ (H y = none ∧ Nb g y)) → Xd g H' dd e → E (.ref (g.xt e.c).C) dd H')
section
variable {P : Program} {w : World} {mg : Str → Option Value} {base : Heap} {g : G}
theorem self_at {H H' : Hp} {x : Addr} {A : List Addr} {ρ : Env} {σ' : L2.St} {c : Nat} {os : List O} (s : S g ⟨H, A ++ boxM g, [(0, .ref x)], []⟩ ρ σ' H') (e1 : (ρ[0]? : Option Sl) = some (.ow (.oi c os))) : ∃ B, RO g H' (.ref x) (.oi c os) B ∧ B.Nodup ∧ ∀ y ∈ B, y ∈ A ∨ (H y = none ∧ Nb g y) := by
  obtain ⟨A1, s1, s2, s3⟩ := s.sl
  obtain ⟨v0, B, A', g1, g2, g3, g4, -⟩ := s1.take s2 e1
  have e2 := s.ps _ (.head _)
  have ev : v0 = .ref x := Option.some.inj (Option.some.inj (g1.symm.trans e2))
  subst ev
  refine ⟨B, g2, g3, fun y m => ?_⟩
  obtain ⟨q1, q2⟩ := s3 y (g4 y m)
  rcases q1 with q1 | q1
  · rcases List.mem_append.mp q1 with z | z
    · exact .inl z
    · unfold boxM at z
      cases hb : g.bad with
      | none => rw [hb] at z; cases z
      | some p =>
        rw [hb] at z
        obtain ⟨b', c⟩ := p
        exact absurd (List.mem_singleton.mp z) (q2 b' c hb).1
  · exact .inr ⟨q1, q2⟩
theorem m_endX {H : Hp} {vs : List V} {us : List U} {c m n : Nat} {x : Addr} {os : List O} {A : List Addr} {body : PSt} {Q : VK} {E : XK} {N : List Str} (r : RUs g H vs us) (b : BoxR g H) (ro : RO g H (.ref x) (.oi c os) A) (nd : A.Nodup) (nb : ∀ y ∈ A, Nb g y) (hN : N.length - (vs.length + 1) = m)
    (h : (runM c body m os us).post (fun p => ∀ v H' B, Fm g A H H' → Kp g H H' → Th H H' → BoxR g H' → RO g H' (.ref x) (.oi c p.1) B → B.Nodup → (∀ y ∈ B, y ∈ A ∨ (H y = none ∧ Nb g y)) → RU g H' v p.2 → Q v H') (fun e => ∀ dd H' B, Fm g A H H' → Kp g H H' → Th H H' → BoxR g H' → RO g H' (.ref x) (.oi c os) B → B.Nodup → (∀ y ∈ B, y ∈ A ∨ (H y = none ∧ Nb g y)) → Xd g H' dd e → E (.ref (g.xt e.c).C) dd H')) :
    lS1 g (fun c d _ H' => E c d H') ⟨H, A ++ boxM g, [(0, .ref x)], []⟩ body { nx := fun _ H' => Q .non H', rt := Q } (L2.start N (.ref x :: vs)) H := by
  have fin : ∀ (u : U) (ρ : Env) (σ' : L2.St) (H' : Hp) (v : V) (X : Er → Prop), S g ⟨H, A ++ boxM g, [(0, .ref x)], []⟩ ρ σ' H' → RU g H' v u →
      (selfM c u ρ).post (fun p => ∀ v H' B, Fm g A H H' → Kp g H H' → Th H H' → BoxR g H' → RO g H' (.ref x) (.oi c p.1) B → B.Nodup → (∀ y ∈ B, y ∈ A ∨ (H y = none ∧ Nb g y)) → RU g H' v p.2 → Q v H') X → Q v H' := fun u ρ σ' H' v X s ru ho => by
    unfold selfM at ho
    cases e1 : ρ[0]? with
    | none => rw [e1] at ho; exact ho.elim
    | some sl =>
      rw [e1] at ho
      cases sl with
      | un => exact ho.elim
      | im u => exact ho.elim
      | ow o0 =>
        cases o0 with
        | lf u => exact ho.elim
        | ol os => exact ho.elim
        | oi c' os' =>
          change (if c' = c then Res.ok (os', u) else .st : Res (List O × U)).post _ _ at ho
          by_cases hc : c' = c
          · rw [if_pos hc] at ho
            subst hc
            obtain ⟨B, g2, g3, g4⟩ := self_at s e1
            exact ho v H' B s.fm s.kp s.th s.bx g2 g3 g4 ru
          · rw [if_neg hc] at ho; exact ho.elim
  refine ⟨_, S.startM r b ro nd nb hN, post_mono (fun o ho => ?_) (fun e x => ?_) (post_bind.mp h)⟩
  · cases o with
    | nx ρ => exact fun σ' H' k s => fin .non ρ σ' H' .non _ s .non ho
    | rt r ρ =>
      intro v σ' H' A' k s rv _ _
      obtain ⟨u, eu, ho⟩ := post_opt (post_bind.mp ho)
      exact fin u ρ σ' H' v _ s (im_of rv eu).2 ho
    | bk ρ => exact ho.elim
    | ct ρ => exact ho.elim
  · intro dd σ' H' k s d
    obtain ⟨B, g2, g3, g4⟩ := self_at s rfl
    exact x dd H' B s.fm s.kp s.th s.bx g2 g3 g4 d
theorem spMx_len {c n : Nat} {fn : List O → List U → Res (List O × U)} {vs : List V} {H : Hp} {Q : VK} {E : XK} (h : spMx g c n fn vs H Q E) : vs.length = n := by
  obtain ⟨x, vs', us, os, A, rfl, r, hl, _⟩ := h
  rw [List.length_cons, r.len, hl]
theorem fnMx_ok {x qual : Str} {st : Stmt} {f : Addr} {fd : FuncData} {N ps : List Str} {c k n m : Nat} {body : PSt} (F : Fun g.K x qual st f fd) (Sc : FnScope N ps (defScope st)) (hn : ps.length = n) (hN : N.length = n + m)
    (hb : ∀ (cdv : Value) (A : Around) (outer : List PySem.Env) (s : Shared) (H : Hp) (E : XK) (x : Addr) (B : List Addr), Room k (A.deeper (envOfC qual (defScope st) s.heap.objs.size f cdv)) →
      PSs (cxOf (L2.CX P w) P w g.K mg base N qual (defScope st) f cdv A outer s H E) (defBody st) (lS1 g (fun c d _ H' => E c d H') ⟨H, B ++ boxM g, [(0, .ref x)], []⟩ body)) :
    FnOk P w g.K mg base (L2.CX P w) (k + 1) f fd ps (spMx g c n (runM c body m)) :=
  F.okX Sc (fun vs H Q E h => (spMx_len h).trans hn.symm) (fun cdv A outer s H vs Q E hr h => by
    have hl0 := spMx_len h
    obtain ⟨x, vs', us, os, B, rfl, r, hl, b, ro, nd, nb, h⟩ := h
    exact ⟨_, hb cdv A outer s H E x B hr, m_endX (n := n) r b ro nd nb (by rw [List.length_cons] at hl0; rw [hl0, hN]; omega) h⟩)
end
section
variable {g : G} {W : WX} {t : Fr} {X : Cx} {pas : PAs} {σ : L2.St} {H H1 : Hp}
theorem mc_coreX {ρ : Env} {i k n : Nat} {fn : List O → List U → Res (List O × U)} {os : List O} {D : Ends} {vs : List V} {us : List U} (sS : S g t ρ σ H) (x1 : Ext g H H1) (b1 : BoxR g H1) (e1 : ρ[i]? = some (.ow (.oi k os))) (ru : RUs g H1 vs us) (hl : us.length + 1 = n) {Q : VK} {E : XK}
    (hQ : ∀ v H2 ρ', Kp g H H2 → S g t ρ' σ H2 → oS g t D H (.nx ρ') → Q v H2) (hE : ∀ e dd H2, Kp g H H2 → S g t ρ σ H2 → Xd g H2 dd e → xS1 g W t ρ H e → E (.ref (g.xt e.c).C) dd H2)
    (hf : ((fn os us).bind fun p => Res.ok (Out.nx (ρ.set i (.ow (.oi k p.1))))).post (oS g t D H) (xS1 g W t ρ H)) :
    ∃ x, σ[i]? = some (some (.ref x)) ∧ spMx g k n fn (.ref x :: vs) H1 Q E := by
  obtain ⟨v, B, g1, g2, g2', g3, g4, g5, g6⟩ := sS.putG x1 b1 e1
  obtain ⟨ad, rfl⟩ : ∃ ad, v = .ref ad := by cases g2 with | oi => exact ⟨_, rfl⟩
  have same : ρ.set i (.ow (.oi k os)) = ρ := by
    apply List.ext_getElem?
    intro j
    by_cases hj : i = j
    · subst hj
      rw [List.getElem?_set_self (List.getElem?_eq_some_iff.mp e1).1, e1]
    · rw [List.getElem?_set_ne hj]
  refine ⟨ad, g1, ad, vs, us, os, B, rfl, ru, hl, b1, g2', g3, fun y m => (g4 y m).2, post_mono (fun p hp v H2 C f k2 tt b2 ro nd hC rv => ?_) (fun e he dd H2 C f k2 tt b2 ro nd hC d => ?_) (post_bind.mp hf)⟩
  · exact hQ v H2 _ (x1.kp.trans k2) (g5 H2 _ C f k2 tt b2 ro nd fun x m => (hC x m).imp_right fun z => ⟨x1.back b1 z.1, z.2⟩) hp
  · have s2 := g5 H2 _ C f k2 tt b2 ro nd fun x m => (hC x m).imp_right fun z => ⟨x1.back b1 z.1, z.2⟩
    rw [same] at s2
    exact hE e dd H2 (x1.kp.trans k2) s2 d he
theorem u1_mcX' {st : Stmt} {i k n : Nat} {fn : List O → List U → Res (List O × U)} {m : Str} {tA : TA} (hA : ∀ σ H Q, lA g W t pas σ H Q → tA σ H Q) (hm : m ∉ (g.ct k).ns) (h : PS X st (tDrop (tMethX (g.ct k).C m (spMx g k n fn) (WE W) (tVar i) tA))) : PS X st (lS1 g W t (pMc i k n fn pas)) := by
  refine PS.imp h fun D σ H h => ?_
  obtain ⟨ρ, sS, h⟩ := h
  obtain ⟨os, e1, h⟩ := oi_at (f := fun os => (pas ρ).bind fun rs => (Res.opt (argU n rs)).bind fun us => (fn os us).bind fun p => Res.ok (Out.nx (ρ.set i (.ow (.oi k p.1))))) h
  obtain ⟨A, s1, -, -⟩ := sS.sl
  obtain ⟨v, B, g1, g2, -⟩ := s1.atOw e1
  cases g2 with
  | oi h1 hn h2 =>
    rename_i ad dx fs A2
    have hno : m ∉ fs.map Prod.fst := by
      rw [hn]
      exact fun z => hm ((List.take_sublist _ _).subset z)
    refine ⟨.ref ad, g1, ad, dx, fs, rfl, h1, lookup_no hno, hA _ _ _ ⟨ρ, sS, post_mono (fun rs hr vs H1 A x1 b1 r1 n1 f1 => ?_) (fun e x => x.wx sS) (post_bind.mp h)⟩⟩
    obtain ⟨us, eu, hf⟩ := post_opt (post_bind.mp hr)
    obtain ⟨ru, hl⟩ := argU_of r1 eu
    obtain ⟨ad', z1, z2⟩ := mc_coreX (Q := fun v H2 => D.nx σ H2) (E := WE W σ) sS x1 b1 e1 ru hl (fun v H2 ρ' k s q => q σ H2 k s) (fun e dd H2 k s d x => x dd σ H2 k s d) hf
    have ea : ad' = ad := by rw [g1] at z1; cases z1; rfl
    subst ea
    exact z2
theorem u1_mcX {st : Stmt} {i k n : Nat} {fn : List O → List U → Res (List O × U)} {m : Str} (hm : m ∉ (g.ct k).ns) (h : PS X st (tDrop (tMethX (g.ct k).C m (spMx g k n fn) (WE W) (tVar i) (lA g W t pas)))) : PS X st (lS1 g W t (pMc i k n fn pas)) := u1_mcX' (fun _ _ _ h => h) hm h
theorem u1_mcX0 {st : Stmt} {i k n : Nat} {fn : List O → List U → Res (List O × U)} {m : Str} (hm : m ∉ (g.ct k).ns) (h : PS X st (tDrop (tMethX (g.ct k).C m (spMx g k n fn) (WE W) (tVar i) tNil))) : PS X st (lS1 g W t (pMc i k n fn pNil)) := u1_mcX' (tA := tNil) (fun _ _ _ h => lnilA h) hm h
/-- y = f(x, ..) or y = x.m(..), where x is changed and a value is given -/
def pMcA (i c n : Nat) (fn : List O → List U → Res (List O × U)) (pas : PAs) (j : Nat) : PSt := fun (ρ : List Sl) =>
  match (ρ[i]? : Option Sl) with
  | some (.ow (.oi k os)) => if k = c then (pas ρ).bind fun rs => (Res.opt (argU n rs)).bind fun us => (fn os us).bind fun p => .ok (.nx ((ρ.set i (.ow (.oi c p.1))).set j (.im p.2))) else .st
  | _ => .st
theorem mc_coreA {ρ : Env} {i j k n : Nat} {fn : List O → List U → Res (List O × U)} {os : List O} {D : Ends} {vs : List V} {us : List U} (hj : ∀ p ∈ t.ps, p.1 ≠ j) (sS : S g t ρ σ H) (x1 : Ext g H H1) (b1 : BoxR g H1) (e1 : ρ[i]? = some (.ow (.oi k os))) (ru : RUs g H1 vs us) (hl : us.length + 1 = n) {Q : VK} {E : XK}
    (hQ : ∀ v H2 ρ', Kp g H H2 → S g t ρ' (σ.set j (some v)) H2 → oS g t D H (.nx ρ') → Q v H2) (hE : ∀ e dd H2 ρ', Kp g H H2 → S g t ρ' σ H2 → Xd g H2 dd e → xS g W t H e → E (.ref (g.xt e.c).C) dd H2)
    (hf : ((fn os us).bind fun p => Res.ok (Out.nx ((ρ.set i (.ow (.oi k p.1))).set j (.im p.2)))).post (oS g t D H) (xS g W t H)) :
    ∃ x, σ[i]? = some (some (.ref x)) ∧ spM g k n fn (.ref x :: vs) H1 Q E := by
  obtain ⟨v, B, g1, g2, g2', g3, g4, g5, g6⟩ := sS.putG x1 b1 e1
  obtain ⟨ad, rfl⟩ : ∃ ad, v = .ref ad := by cases g2 with | oi => exact ⟨_, rfl⟩
  refine ⟨ad, g1, ad, vs, us, os, B, rfl, ru, hl, b1, g2', g3, fun y m => (g4 y m).2, post_mono (fun p hp v H2 C f k2 tt b2 ro nd hC rv => ?_) (fun e he dd H2 f k2 tt b2 d => ?_) (post_bind.mp hf)⟩
  · exact hQ v H2 _ (x1.kp.trans k2) ((g5 H2 _ C f k2 tt b2 ro nd fun x m => (hC x m).imp_right fun z => ⟨x1.back b1 z.1, z.2⟩).setIm rv hj) hp
  · exact hE e dd H2 _ (x1.kp.trans k2) (g6 H2 f k2 tt b2) d he
theorem us_mcFA' {st : Stmt} {i j k n : Nat} {fn : List O → List U → Res (List O × U)} {tA : TA} (hj : ∀ p ∈ t.ps, p.1 ≠ j) (hA : ∀ σ H Q, lA g W t pas σ H Q → tA σ H Q) (h : PS X st (tAsg (tCallS (spM g k n fn) (WE W) (tCons (tVar i) tA)) (gName j))) : PS X st (lS g W t (pMcA i k n fn pas j)) := by
  refine PS.imp h fun D σ H h => ?_
  obtain ⟨ρ, sS, h⟩ := h
  obtain ⟨os, e1, h⟩ := oi_at (f := fun os => (pas ρ).bind fun rs => (Res.opt (argU n rs)).bind fun us => (fn os us).bind fun p => Res.ok (Out.nx ((ρ.set i (.ow (.oi k p.1))).set j (.im p.2)))) h
  obtain ⟨A, s1, -, -⟩ := sS.sl
  obtain ⟨v, B, g1, g2, -⟩ := s1.atOw e1
  refine ⟨v, g1, hA _ _ _ ⟨ρ, sS, post_mono (fun rs hr vs H1 A x1 b1 r1 n1 f1 => ?_) (fun e x => x.wx sS) (post_bind.mp h)⟩⟩
  obtain ⟨us, eu, hf⟩ := post_opt (post_bind.mp hr)
  obtain ⟨ru, hl⟩ := argU_of r1 eu
  obtain ⟨ad', z1, z2⟩ := mc_coreA (Q := fun v H2 => D.nx (σ.set j (some v)) H2) (E := WE W σ) hj sS x1 b1 e1 ru hl (fun v H2 ρ' k s q => q _ H2 k s) (fun e dd H2 ρ' k s d x => x dd ρ' σ H2 k s d) hf
  have ea : v = .ref ad' := by rw [g1] at z1; cases z1; rfl
  subst ea
  exact z2
theorem us_mcFA {st : Stmt} {i j k n : Nat} {fn : List O → List U → Res (List O × U)} (hj : ∀ p ∈ t.ps, p.1 ≠ j) (h : PS X st (tAsg (tCallS (spM g k n fn) (WE W) (tCons (tVar i) (lA g W t pas))) (gName j))) : PS X st (lS g W t (pMcA i k n fn pas j)) := us_mcFA' hj (fun _ _ _ h => h) h
end
end Rl
/-! Rl: a dict of texts that a name holds up to the return behind it. -/
namespace Rl
open PySem PySem.Spec PyProof.Rows L2 Wn
section
variable {g : G} {W : WX} {t : Fr} {X : Cx} {pos : Pos} {σ : L2.St} {H H1 : Hp}
/-- the frame behind a dict that a name holds -/
def tD (t : Fr) (i : Nat) (p : Addr) (H0 : Hp) (M : List Addr) : Fr := ⟨H0, M, (i, .ref p) :: t.ps, t.xs⟩
/-- the name i holds a dict -/
def Dk (g : G) (t : Fr) (i : Nat) (ks : List Str) (us : List U) : Prop :=
  ∃ (p : Addr) (l : List (Str × PEx)) (vs : List V), (i, V.ref p) ∈ t.ps ∧ p ∉ t.M ∧ t.H0 p = some (.dK (pairsK l vs)) ∧ RUs g t.H0 vs us ∧ l.map Prod.fst = ks ∧ ks.Nodup ∧ ks.length = us.length ∧ ks.length ≤ 15
theorem S.dictIn {ρ : Env} {i : Nat} {p : Addr} {A0 : List Addr} (s : S g t ρ σ H1) (h1 : Slots g H1 σ ρ A0) (h2 : A0.Nodup) (h3 : ∀ a ∈ A0, (a ∈ t.M ∨ t.H0 a = none) ∧ Nb g a) (hp : p ∉ A0) (nb : Nb g p) (hi : ∀ q ∈ t.ps, q.1 ≠ i) (hl : i < σ.length) :
    S g (tD t i p H1 ((A0 ++ t.M).filter fun a => decide (a ≠ p))) (ρ.set i .un) (σ.set i (some (.ref p))) H1 := by
  obtain ⟨A', h4, h5⟩ := h1.setUn i (some (.ref p))
  refine ⟨⟨A', h4, h5.nodup h2, fun a m => ?_⟩, s.bx, fun x o e _ => e, Kp.refl _, fun x o e => ⟨o, e⟩, fun q m => ?_, fun b c hb => ?_, s.xd⟩
  · have m' := h5.subset m
    refine ⟨.inl (List.mem_filter.mpr ⟨List.mem_append_left _ m', decide_eq_true fun e => hp (e ▸ m')⟩), (h3 a m').2⟩
  · rcases List.mem_cons.mp m with z | z
    · rw [z]; exact List.getElem?_set_self hl
    · exact set_ps hi s.ps q z
  · exact List.mem_filter.mpr ⟨List.mem_append_right _ (s.bm b c hb), decide_eq_true fun e => (nb b c hb).1 e.symm⟩
theorem S.dictOut {ρ ρ' : Env} {i : Nat} {p : Addr} {A0 : List Addr} {σ' : L2.St} {H' : Hp} (s : S g t ρ σ H1) (h1 : Slots g H1 σ ρ A0) (h3 : ∀ a ∈ A0, (a ∈ t.M ∨ t.H0 a = none) ∧ Nb g a)
    (s' : S g (tD t i p H1 ((A0 ++ t.M).filter fun a => decide (a ≠ p))) ρ' σ' H') : S g t ρ' σ' H' := by
  obtain ⟨A, a1, a2, a3⟩ := s'.sl
  refine ⟨⟨A, a1, a2, fun a m => ⟨?_, (a3 a m).2⟩⟩, s'.bx, fun x o e n => ?_, s.kp.trans s'.kp, fun x o e => ?_, fun q m => s'.ps q (.tail _ m), s.bm, s'.xd⟩
  · rcases (a3 a m).1 with z | z
    · rcases List.mem_append.mp (List.mem_filter.mp z).1 with y | y
      · exact (h3 a y).1
      · exact .inl y
    · exact .inr (s.out z)
  · refine s'.fr x o (s.fr x o e n) fun z => ?_
    rcases List.mem_append.mp (List.mem_filter.mp z).1 with y | y
    · rcases (h3 x y).1 with w | w
      · exact n w
      · rw [e] at w; cases w
    · exact n y
  · obtain ⟨o', e'⟩ := s.th x o e
    exact s'.th x o' e'
def lED (g : G) (W : WX) (i : Nat) (ks : List Str) (q : List U → PEx) : TE := fun σ H Q => ∃ t' us, Dk g t' i ks us ∧ lE g W t' (q us) σ H Q
def pDictR (i : Nat) (l : List (Str × PEx)) (q : List U → PEx) : PSt := fun ρ => (dgP l ρ).bind fun rs => (Res.opt ((imRs rs).bind fun us => if (l.map Prod.fst).Nodup ∧ (l.map Prod.fst).length = us.length ∧ i < ρ.length then some us else none)).bind fun us => (q us (ρ.set i .un)).bind fun r => .ok (.rt r (ρ.set i .un))
theorem us_dictR {st : Stmt} {e : Expr} {l : List (Str × PEx)} {i : Nat} {q : List U → PEx} (hi : ∀ p ∈ t.ps, p.1 ≠ i) (l15 : l.length ≤ 15) (h1 : PS X st (tAsg (tDisp (dgT g W t l)) (gName i)))
    (h2 : ∀ t' us, Dk g t' i (l.map Prod.fst) us → PE X e (lE g W t' (q us))) : PSs X [st, .Return (some e) pos] (lS g W t (pDictR i l q)) := by
  have h3 : PE X e (lED g W i (l.map Prod.fst) q) := ⟨fun pins s σ H Q I ⟨t', us, hd, h⟩ => (h2 t' us hd).run pins s σ H Q I h⟩
  refine PSs.imp (pss_cons h1 (pss_one (ps_ret h3))) fun D σ H h => ?_
  obtain ⟨ρ, sS, h⟩ := h
  intro p np
  have x0 : Ext g H (upd H p (.dK [])) := Ext.new np
  have b0 : BoxR g (upd H p (.dK [])) := sS.bx.same (same_new np)
  refine lpairs (sS.mono x0 b0) (post_mono (fun rs hr => ?_) (fun e x => (x.wx sS).back x0) (post_bind.mp h))
  obtain ⟨us, eu, hr⟩ := post_opt (post_bind.mp hr)
  cases e0 : imRs rs with
  | none => rw [e0] at eu; cases eu
  | some us' =>
  rw [e0] at eu
  change (if _ then _ else _) = _ at eu
  by_cases hc : (l.map Prod.fst).Nodup ∧ (l.map Prod.fst).length = us'.length ∧ i < ρ.length
  case neg => rw [if_neg hc] at eu; cases eu
  rw [if_pos hc] at eu
  cases eu
  obtain ⟨c1, c2, c3⟩ := hc
  refine ⟨us, rfl, fun vs H2 x2 b2 r2 => ?_⟩
  have nbp : Nb g p := sS.bx.nb np
  have hp2 : H2 p = some (.dK []) := x2.sm p _ upd_same fun b c hb => (nbp b c hb).1
  refine ⟨hp2, pairsK l vs, pairsV_eq, Nat.le_trans pairsK_len l15, ?_⟩
  have x02 := x0.trans x2
  have kp3 : Kp g H2 (upd H2 p (.dK (mergeK [] (pairsK l vs)))) := kp_of hp2 fun z => z
  have x3 : Ext g H (upd H2 p (.dK (mergeK [] (pairsK l vs)))) := ⟨fun x o hx nb => (upd_ne fun z => by rw [z, np] at hx; cases hx).trans (x02.sm x o hx nb), x02.kp.trans kp3⟩
  have b3 : BoxR g (upd H2 p (.dK (mergeK [] (pairsK l vs)))) := box_upd b2 nbp
  rw [merge_new (acc := []) c1 (fun x m => (nomatch m)), List.nil_append] at kp3 x3 b3 ⊢
  have s1 := sS.mono x3 b3
  obtain ⟨A0, a1, a2, a3⟩ := sS.sl
  have hpA : p ∉ A0 := fun m => by
    obtain ⟨u, hu⟩ := a1.there p m
    rw [np] at hu; cases hu
  have a1' : Slots g (upd H2 p (.dK (pairsK l vs))) σ ρ A0 := a1.mono x3.kp fun a m => by
    obtain ⟨u, hu⟩ := a1.there a m
    rw [hu]
    exact x3.sm a u hu fun b c hb => ((a3 a m).2 b c hb).1
  have sI := s1.dictIn a1' a2 a3 hpA nbp hi (by rw [a1.len]; exact c3)
  refine ⟨_, us, ⟨p, l, vs, .head _, fun m => ?_, upd_same, r2.mono kp3, rfl, c1, c2, by rw [List.length_map]; exact l15⟩, ρ.set i .un, sI, post_mono (fun r hq v H4 A x4 b4 r4 n4 f4 => ?_) (fun e x => ?_) (post_bind.mp hr)⟩
  · have := (List.mem_filter.mp m).2
    exact of_decide_eq_true this rfl
  · exact hq v _ H4 A (x3.kp.trans x4.kp) (s1.dictOut a1' a3 (sI.mono x4 b4)) r4 n4 fun a m => s1.out (f4 a m)
  · intro dd H4 x4 b4 d
    exact x dd _ _ H4 (x3.kp.trans x4.kp) (s1.dictOut a1' a3 (sI.mono x4 b4)) d
theorem valV_none {z : Str} : ∀ {l : List (Str × PEx)} {vs : List V}, z ∉ l.map Prod.fst → valV (pairsK l vs) (.inr z : Key) = none
  | [], _, _ => rfl
  | _ :: _, [], _ => rfl
  | p :: l, v :: vs, h => by
    rw [List.map_cons, List.mem_cons, not_or] at h
    exact (valV_neg fun e => h.1 (Sum.inr.inj e).symm).trans (valV_none h.2)
theorem Dk.at {ρ : Env} {i : Nat} {ks : List Str} {us : List U} (d : Dk g t i ks us) (s : S g t ρ σ H) : ∃ p, σ[i]? = some (some (.ref p)) ∧ ∀ H1, Ext g H H1 → ∀ z : Str, ∃ o, DGet H1 p (.str z) o ∧ o.isSome = decide (z ∈ ks) ∧ ∀ u, us[ks.idxOf z]? = some u → ∃ v, o = some v ∧ RU g H1 v u := by
  obtain ⟨p, l, vs, h1, h2, h3, h4, h5, h6, h7, _⟩ := d
  subst h5
  refine ⟨p, s.ps _ h1, fun H1 x z => ⟨_, DGet.k (k := (.inr z : Key)) (x.sm p _ (s.fr p _ h3 h2) fun b c hb e => h2 (e ▸ s.bm b c hb)), ?_, fun u e => ?_⟩⟩
  · by_cases hz : z ∈ l.map Prod.fst
    · have hlt : (l.map Prod.fst).idxOf z < us.length := by rw [← h7]; exact List.idxOf_lt_length_of_mem hz
      obtain ⟨v, e1, _⟩ := pairs_at (z := z) (l := l) h4 (List.getElem?_eq_getElem hlt) (by rw [← h7, List.length_map])
      rw [e1, decide_eq_true hz]; rfl
    · rw [valV_none hz, decide_eq_false hz]; rfl
  · obtain ⟨v, e1, e2⟩ := pairs_at (z := z) (l := l) h4 e (by rw [← h7, List.length_map])
    exact ⟨v, e1, (e2.mono s.kp).mono x.kp⟩
def pInDk (ks : List Str) (pa : PEx) : PEx := fun ρ => (pa ρ).bind fun r => .opt (match r with
  | .im (.str z) => some (.im (.bl (decide (z ∈ ks))))
  | _ => none)
theorem ue_inDk {a b : Expr} {i : Nat} {ks : List Str} {us : List U} {pa : PEx} (hu : X.A.units + 1 < cLine) (d : Dk g t i ks us) (ha : PE X a (lE g W t pa)) (hb : PE X b (tVar i)) (hm : behindInMarks .In b = false) :
    PE X (.Compare a [.In] [b] pos) (lE g W t (pInDk ks pa)) := by
  refine PE.imp (pe_cmp (pc_din hu ha hb) hm) fun σ H Q h => ?_
  obtain ⟨ρ, sS, h⟩ := h
  refine ⟨ρ, sS, post_mono (fun r hr v H1 A x1 b1 r1 n1 f1 => ?_) (fun e x => x) (post_bind.mp h)⟩
  obtain ⟨c, ec, q⟩ := post_opt hr
  obtain ⟨p, e1, e2⟩ := d.at sS
  match r, ec, r1 with
  | .im (.str z), ec, r1 =>
    cases ec
    have r1 : RU g H1 v (.str z) := r1.2
    cases r1
    obtain ⟨o, g1, g2, _⟩ := e2 H1 x1 z
    refine ⟨_, e1, p, o, rfl, g1, ?_⟩
    rw [g2]
    exact q _ H1 [] x1 b1 ⟨rfl, .bl _⟩ List.nodup_nil fun x m => nomatch m
def pIxDk (ks : List Str) (us : List U) (pk : PEx) : PEx := fun ρ => (pk ρ).bind fun r => .opt (dgR ks us r)
theorem ue_ixDk {a b : Expr} {i : Nat} {ks : List Str} {us : List U} {pk : PEx} (hu : X.A.units + 1 < cLine) (d : Dk g t i ks us) (ha : PE X a (tVar i)) (hb : PE X b (lE g W t pk)) (hs : NoSl b) :
    PE X (.Subscript a b pos) (lE g W t (pIxDk ks us pk)) := by
  refine PE.imp (pe_dget hu ha hb hs) fun σ H Q h => ?_
  obtain ⟨ρ, sS, h⟩ := h
  obtain ⟨p, e1, e2⟩ := d.at sS
  refine ⟨_, e1, ρ, sS, post_mono (fun r hr v H1 A x1 b1 r1 n1 f1 => ?_) (fun e x => x) (post_bind.mp h)⟩
  obtain ⟨c, ec, q⟩ := post_opt hr
  match r, ec, r1 with
  | .im (.str z), ec, r1 =>
    have r1 : RU g H1 v (.str z) := r1.2
    cases r1
    change (if _ then _ else _) = _ at ec
    by_cases hc : ks.Nodup ∧ ks.length = us.length ∧ ks.length ≤ 15
    case neg => rw [if_neg hc] at ec; cases ec
    rw [if_pos hc] at ec
    obtain ⟨u, eu, rfl⟩ := map_some ec
    obtain ⟨o, g1, _, g3⟩ := e2 H1 x1 z
    obtain ⟨v', ev, rv⟩ := g3 u eu
    subst ev
    exact ⟨p, v', rfl, g1, q v' H1 [] x1 b1 ⟨rfl, rv⟩ List.nodup_nil fun x m => nomatch m⟩
end
end Rl
local macro_rules | `(tactic| walk_at "hs") => `(tactic| (first | exact ⟨_, L2.upd_same⟩ | exact ⟨_, by assumption⟩ | (refine Wn.has_ne ?_ ?_; (focus (walk_at "ne")); walk_at "hs")))
local macro_rules | `(tactic| walk_at "ne") => `(tactic| (first | assumption | (refine Ne.symm ?_; assumption) | (refine Wn.ne_ex ?_ (by assumption); walk_at "hs") | (refine Ne.symm ?_; refine Wn.ne_ex ?_ (by assumption); walk_at "hs")))
local macro_rules | `(tactic| walk_at "lk") => `(tactic| with_unfolding_all (first | assumption | exact L2.upd_same | (refine Wn.lk_ne ?_ ?_; (focus (walk_at "ne")); walk_at "lk") ))
local macro_rules | `(tactic| walk_at "sm") => `(tactic| (first | exact L2.Same.refl _ | assumption | (refine Wn.same_upd ?_ ?_; (focus (walk_at "sm")); assumption)))
local macro_rules | `(tactic| walk_at "sc") => `(tactic| with_unfolding_all (first | exact .inl ⟨by decide, by decide⟩ | exact .inr ⟨by decide, by decide⟩ | (show (0:Int) < _; first | decide | omega) | (constructor <;> first | decide | omega) | (refine ⟨?_, ?_, ?_⟩ <;> decide) | exact .inl ⟨by omega, by omega⟩ | exact .inr ⟨by omega, by omega⟩))
local macro_rules | `(tactic| walk_at "go1") => `(tactic| (first
  | (with_reducible apply L2.iteT)
  | (with_reducible apply L2.iteF)
  | (with_reducible apply Wn.r_seq)
  | (with_reducible apply Wn.r_asg)
  | (with_reducible apply Wn.r_op)
  | (with_reducible apply Wn.r_un)
  | (with_reducible apply Wn.r_c)
  | (with_reducible apply Wn.r_test)
  | (with_reducible apply Wn.r_tb)
  | (with_reducible apply Wn.r_bl)
  | (with_reducible apply Wn.r_ifs)
  | (with_reducible apply Wn.r_ifj)
  | (with_reducible apply Wn.r_yes)
  | (with_reducible apply Wn.r_lst)
  | (with_reducible apply Wn.r_tup)
  | (with_reducible apply Wn.r_ret)
  | (with_reducible apply Wn.r_next)
  | (with_reducible apply Wn.r_drop)
  | (with_reducible apply Wn.r_nil)
  | (with_reducible apply Wn.r_cons)
  | (with_reducible apply Wn.r_cb)
  | (with_reducible apply Wn.r_gsub)
  | (with_reducible apply Wn.r_I0)
  | (with_reducible apply Wn.r_int1)
  | (with_reducible apply Wn.r_call)
  | (with_reducible apply Wn.r_andr)
  | (with_reducible apply Wn.r_andv)
  | (with_reducible apply Wn.r_orv)
  | (with_reducible apply Wn.r_notv)
  | (with_reducible apply Wn.r_and)
  | (with_reducible apply Wn.r_or)
  | (with_reducible apply Wn.r_not)
  | (with_reducible apply Wn.r_ife)
  | ((with_reducible apply Wn.r_wipe); (focus ((with_unfolding_all exact rfl); done)))
  | ((with_reducible apply Wn.ite_t); (focus ((with_unfolding_all first | decide | exact decide_eq_true rfl | exact Wn.nd_t (Wn.clash_ne rfl) | fail); done)))
  | ((with_reducible apply Wn.ite_f); (focus ((with_unfolding_all first | decide | exact decide_eq_false (Wn.clash_ne rfl) | exact Wn.nd_f rfl | fail); done)))
  | ((with_reducible apply Wn.r_lens); (focus ((first | exact Or.inl (by assumption) | exact Or.inr (by assumption) | exact Or.inl (L2.SqL.of (by walk_at "lk")) | exact Or.inr (L2.SqT.of (by walk_at "lk")) | fail); done)))
  | ((with_reducible apply (Wn.r_isTup (b := true))); (focus ((first | assumption | fail); done)); (focus ((with_unfolding_all first | exact rfl | fail); done)))
  | ((with_reducible apply (Wn.r_isTup (b := false))); (focus ((first | assumption | fail); done)); (focus ((with_unfolding_all first | exact rfl | fail); done)))
  | ((with_reducible apply (Wn.r_isLst (b := true))); (focus ((first | assumption | fail); done)); (focus ((with_unfolding_all first | exact rfl | fail); done)))
  | ((with_reducible apply (Wn.r_isLst (b := false))); (focus ((first | assumption | fail); done)); (focus ((with_unfolding_all first | exact rfl | fail); done)))
  | ((with_reducible apply (Wn.r_isBl (b := true))); (focus ((first | assumption | fail); done)); (focus ((with_unfolding_all first | exact rfl | fail); done)))
  | ((with_reducible apply (Wn.r_isBl (b := false))); (focus ((first | assumption | fail); done)); (focus ((with_unfolding_all first | exact rfl | fail); done)))
  | ((with_reducible apply (Wn.r_isIn (b := true))); (focus ((first | assumption | fail); done)); (focus ((with_unfolding_all first | exact rfl | fail); done)))
  | ((with_reducible apply (Wn.r_isIn (b := false))); (focus ((first | assumption | fail); done)); (focus ((with_unfolding_all first | exact rfl | fail); done)))
  | ((with_reducible apply (Wn.r_isSt (b := true))); (focus ((first | assumption | fail); done)); (focus ((with_unfolding_all first | exact rfl | fail); done)))
  | ((with_reducible apply (Wn.r_isSt (b := false))); (focus ((first | assumption | fail); done)); (focus ((with_unfolding_all first | exact rfl | fail); done)))
  | ((with_reducible apply Wn.r_sz); (focus ((with_unfolding_all first | (simp only [List.length_cons,List.length_nil]; decide) | fail); done)))
  | ((with_reducible apply Wn.r_var); (focus ((with_unfolding_all exact rfl); done)))
  | ((with_reducible apply Wn.r_gname); (focus ((with_unfolding_all exact rfl); done)))
  | ((with_reducible apply Wn.r_ix); (focus (walk_at "lk"; done)); (focus ((with_unfolding_all exact rfl); done)))
  | ((with_reducible apply Wn.r_ixt); (focus (walk_at "lk"; done)); (focus ((with_unfolding_all exact rfl); done)))
  | ((with_reducible apply Wn.r_lenl); (focus (walk_at "lk"; done)))
  | ((with_reducible apply Wn.r_lent); (focus (walk_at "lk"; done)))
  | ((with_reducible apply Wn.r_setl); (focus (walk_at "lk"; done)); (focus ((with_unfolding_all exact rfl); done)); (focus ((dsimp only [Int.reduceToNat,List.set]; try exact rfl); done)))
  | ((with_reducible apply Wn.r_eq); (focus ((with_unfolding_all exact rfl); done)))
  | ((with_reducible apply Wn.r_ne); (focus ((with_unfolding_all exact rfl); done)))
  | ((with_reducible apply Wn.r_I); (focus (walk_at "sc"; done)))))
local macro_rules | `(tactic| walk_at "go") => `(tactic| repeat (walk_at "go1"))


namespace Wn
open PySem PySem.Spec PyProof.Rows L2
def top (i : Nat) : Stmt := PySem.Challenge.pw_wrongshown_k08_rule_with_part.main.body.getD i (.Pass ⟨0, 0, 0, 0⟩)
abbrev sMix : Stmt := top 17
abbrev sBox : Stmt := top 18
abbrev sDraw : Stmt := top 19
abbrev sSame : Stmt := top 20
theorem scMix : FnScope ["_law_value", "_law_k", "_law_number"] ["_law_value", "_law_k"] (defScope sMix) := ⟨rfl, rfl, rfl, by decide +kernel, rfl, by decide +kernel, by decide +kernel⟩
theorem scBox : FnScope ["_law_script", "_law_cell", "_law_cells", "_law_seed"] ["_law_script"] (defScope sBox) := ⟨rfl, rfl, rfl, by decide +kernel, rfl, by decide +kernel, by decide +kernel⟩
theorem scDraw : FnScope ["_law_box_here", "_law_many", "_law_cell", "_law_digit"] ["_law_box_here", "_law_many"] (defScope sDraw) := ⟨rfl, rfl, rfl, by decide +kernel, rfl, by decide +kernel, by decide +kernel⟩
/-! ### promises -/
def spMix : Sp := fun vs H Q _ => ∃ v k : Int, vs = [.int v, .int k] ∧ ∀ r : Int, 0 ≤ r → Q (.int r) H
structure BoxAt (H : Hp) (b c : Addr) : Prop where
  ne : b ≠ c
  ex : ∃ (cs : List Int) (i d sd n : Int), H b = some (.lst [.ref c, .int i, .int d, .int sd, .int n]) ∧ H c = some (.lst (cs.map V.int)) ∧ 0 ≤ i ∧ 0 ≤ d
def spBox (K : PySem.W.Frag) : Sp := fun vs H Q _ => ∃ (a : Addr) (ns : List Int), vs = [.ref a] ∧ SqL K H a (ns.map V.int) ∧ ns.length ≤ 63 ∧
  ∀ H' b c, Same H H' → H b = none → H c = none → BoxAt H' b c → Q (.ref b) H'
def spDraw : Sp := fun vs H Q _ => ∃ (b c : Addr) (m : Int), vs = [.ref b, .int m] ∧ 0 < m ∧ m < 1073741824 ∧ BoxAt H b c ∧
  ∀ (r : Int) (H' : Hp), 0 ≤ r → r < m → (∀ x, x ≠ b → H' x = H x) → BoxAt H' b c → Q (.int r) H'
theorem boxAt_upd {H H0 : Hp} {b c : Addr} {cs : List Int} {i d sd n : Int} (ne : b ≠ c) (hc : H c = some (.lst (cs.map V.int))) (hb : H b = some (.lst [.ref c, .int i, .int d, .int sd, .int n])) (hi : 0 ≤ i) (hd : 0 ≤ d) : BoxAt H b c := ⟨ne, cs, i, d, sd, n, hb, hc, hi, hd⟩
section
variable {P : Program} {w : World} {K : PySem.W.Frag} {mg : Str → Option Value} {base : Heap}
theorem ok_mix {f : Addr} {fd : FuncData} {k : Nat} (F : Fun K "_law_mix" "_law_mix" sMix f fd) (mi : mg "int" = none) : FnOk P w K mg base CX0 (k + 1) f fd ["_law_value", "_law_k"] spMix := by
  refine F.ok scMix (fun vs H Q E h => ?_) (fun cdv A outer s H vs Q E hr h => ?_)
  · obtain ⟨v, k, rfl, _⟩ := h
    rfl
  · obtain ⟨v, k, rfl, q⟩ := h
    refine ⟨_, pss_cons (ps_set (i := 2) scMix.nd rfl (.inl rfl) (pe_op op_mod (pe_op op_mul (pe_op op_add (pe_op op_add (pe_callTy call_intI (by rfl) mi (by decide +kernel) (pa_cons (pv 0) pa_nil)) (pe_op op_mul pe_int (pv 1))) pe_int) pe_int) pe_int))
      (pss_cons (ps_set (i := 2) scMix.nd rfl (.inl rfl) (pe_op op_mod (pe_op op_mul (pv 2) (pe_op op_add (pe_op op_fdiv (pv 2) pe_int) pe_int)) pe_int))
      (pss_one (ps_ret (pe_op op_mod (pe_op op_mul (pv 2) (pe_op op_add (pe_op op_fdiv (pv 2) pe_int) pe_int)) pe_int)))), ?_⟩
    show tSeq _ _ _ [_, _, none] _
    walk_at "go"
    exact q _ (Int.emod_nonneg _ (by decide))
theorem ok_draw {f fM : Addr} {fd fdM : FuncData} (F : Fun K "_law_draw" "_law_draw" sDraw f fd) (FM : Fun K "_law_mix" "_law_mix" sMix fM fdM) (bM : Binds K fdM ["_law_value", "_law_k"] []) (gM : mg "_law_mix" = some (.ref fM))
    (mi : mg "int" = none) (ml : mg "len" = none) : FnOk P w K mg base CX0 2 f fd ["_law_box_here", "_law_many"] spDraw := by
  have GM : FnOk P w K mg base CX0 1 fM fdM ["_law_value", "_law_k"] spMix := ok_mix FM mi
  refine F.ok scDraw (fun vs H Q E h => ?_) (fun cdv A outer s H vs Q E hr h => ?_)
  · obtain ⟨b, c, m, rfl, _⟩ := h
    rfl
  · obtain ⟨b, c, m, rfl, hm, hm2, ⟨hbc, cs, i, d, sd, n, hb, hc, hi, hd⟩, q⟩ := h
    refine ⟨_, pss_cons (ps_asg (pe_op op_add (pe_ix ix_l (pv 0) pe_int (fun _ _ => rfl)) pe_int) (pg_sub (pv 0) pe_int set_list))
      (pss_cons (ps_ifj (PW.pt (pw_and (pt_cmpR op_eq (pe_ix ix_l (pv 0) pe_int (fun _ _ => rfl)) pe_int (nomark _)) (pw_and1 (pt_cmpR op_lt (pe_ix ix_l (pv 0) pe_int (fun _ _ => rfl)) (pe_callB call_lenL (by rfl) ml PySem.boot_len (pa_cons (pe_ix ix_l (pv 0) pe_int (fun _ _ => rfl)) pa_nil)) (nomark _)))))
        (pss_cons (ps_set (i := 2) scDraw.nd rfl (.inl rfl) (pe_ix ix_l (pe_ix ix_l (pv 0) pe_int (fun _ _ => rfl)) (pe_ix ix_l (pv 0) pe_int (fun _ _ => rfl)) (fun _ _ => rfl)))
        (pss_cons (ps_asg (pe_op op_add (pe_ix ix_l (pv 0) pe_int (fun _ _ => rfl)) pe_int) (pg_sub (pv 0) pe_int set_list))
        (pss_cons (ps_if (pt_cmpR op_lt (pv 2) (pe_op op_pow pe_int pe_int) (nomark _))
          (pss_one (ps_ret (pe_op op_mod (pe_callTy call_intI (by rfl) mi (by decide +kernel) (pa_cons (pe_call GM hr (by rfl) gM FM.kp bM .nil pass0 (pa_cons (pv 2) (pa_cons (pe_ix ix_l (pv 0) pe_int (fun _ _ => rfl)) pa_nil))) pa_nil)) (pv 1)))) pss_nil)
        (pss_one (ps_asg (pv 2) (pg_sub (pv 0) pe_int set_list)))))) pss_nil)
      (pss_cons (ps_if (pt_cmpR op_eq (pe_ix ix_l (pv 0) pe_int (fun _ _ => rfl)) pe_int (nomark _))
          (pss_one (ps_ret (pe_op op_mod (pe_callTy call_intI (by rfl) mi (by decide +kernel) (pa_cons (pe_call GM hr (by rfl) gM FM.kp bM .nil pass0 (pa_cons (pe_ix ix_l (pv 0) pe_int (fun _ _ => rfl)) (pa_cons (pe_ix ix_l (pv 0) pe_int (fun _ _ => rfl)) pa_nil))) pa_nil)) (pv 1)))) pss_nil)
      (pss_cons (ps_set (i := 3) scDraw.nd rfl (.inl rfl) (pe_op op_mod (pe_callTy call_intI (by rfl) mi (by decide +kernel) (pa_cons (pe_ix ix_l (pv 0) pe_int (fun _ _ => rfl)) pa_nil)) (pv 1)))
      (pss_cons (ps_asg (pe_op op_fdivN (pe_callTy call_intI (by rfl) mi (by decide +kernel) (pa_cons (pe_ix ix_l (pv 0) pe_int (fun _ _ => rfl)) pa_nil)) (pv 1)) (pg_sub (pv 0) pe_int set_list))
      (pss_one (ps_ret (pv 3))))))), ?_⟩
    show tSeq _ _ _ [_, _, none, none] _
    walk_at "go"
    have fin : ∀ (H' : Hp) (i' d' sd' n' r : Int), 0 ≤ r → (∀ x, x ≠ b → H' x = H x) → H' b = some (.lst [.ref c, .int i', .int d', .int sd', .int n']) → 0 ≤ i' → 0 ≤ d' → Q (.int (r % m)) H' := fun H' i' d' sd' n' r hr0 hx hb' hi' hd' =>
      q _ H' (Int.emod_nonneg _ (by omega)) (Int.emod_lt_of_pos _ hm) hx ⟨hbc, cs, i', d', sd', n', hb', (hx c hbc.symm).trans hc, hi', hd'⟩
    have tail : ∀ (H' : Hp) (i' d' sd' n' : Int) (D : Ends) (c2 : Option V), (∀ x, x ≠ b → H' x = H x) → H' b = some (.lst [.ref c, .int i', .int d', .int sd', .int n']) → 0 ≤ i' → 0 ≤ d' → D.rt = Q →
      tSeq (tIfS (tTest (tOp rEq (tOp rIx' (tVar 0) (tC (V.int 2))) (tC (V.int 0))))
              (tRet (tOp (rI (fun x j => 0 < j) fun i j => V.int (i % j)) (tCB rInt1 (tCons (tCall spMix [] E0 (tCons (tOp rIx' (tVar 0) (tC (V.int 3))) (tCons (tOp rIx' (tVar 0) (tC (V.int 4))) tNil))) tNil)) (tVar 1))) tNext)
        (tSeq (tAsg (tOp (rI (fun x j => 0 < j) fun i j => V.int (i % j)) (tCB rInt1 (tCons (tOp rIx' (tVar 0) (tC (V.int 2))) tNil)) (tVar 1)) (gName 3))
        (tSeq (tAsg (tOp (rI CDivN fun i j => V.int (i.fdiv j)) (tCB rInt1 (tCons (tOp rIx' (tVar 0) (tC (V.int 2))) tNil)) (tVar 1)) (gSub (tVar 0) (tC (V.int 2)) rSetL))
        (tRet (tVar 3)))) D [some (V.ref b), some (V.int m), c2, none] H' := by
      intro H' i' d' sd' n' D c2 hx hb' hi' hd' hD
      walk_at "go"
      first | refine Wn.ifd_int (fun e1 => ?_) (fun e1 => ?_) | refine Wn.ifd (fun e1 => ?_) (fun e1 => ?_)
      · walk_at "go"
        refine ⟨_, _, rfl, fun r hr0 => ?_⟩
        walk_at "go"
        rw [hD]
        exact fin H' i' d' sd' n' r hr0 hx hb' hi' hd'
      · walk_at "go"
        rw [hD]
        refine q _ _ (Int.emod_nonneg _ (by omega)) (Int.emod_lt_of_pos _ hm) (fun x hne => (upd_ne hne).trans (hx x hne)) ⟨hbc, cs, _, _, _, _, upd_same, (upd_ne hbc.symm).trans ((hx c hbc.symm).trans hc), hi', ?_⟩
        rw [Int.fdiv_eq_ediv_of_nonneg _ (by omega)]
        exact Int.ediv_nonneg hd' (by omega)
    first | refine Wn.ifd_int (fun e0 => ?_) (fun e0 => ?_) | refine Wn.ifd (fun e0 => ?_) (fun e0 => ?_)
    · walk_at "go"
      first | refine Wn.ifd_int (fun e1 => ?_) (fun e1 => ?_) | refine Wn.ifd (fun e1 => ?_) (fun e1 => ?_)
      · walk_at "go"
        have e2 : i < (cs.length : Int) := by rw [List.length_map] at e1; exact e1
        obtain ⟨j, rfl⟩ : ∃ j : Nat, i = (j : Int) := ⟨i.toNat, by omega⟩
        have hj : j < cs.length := by omega
        refine r_ix (xs := cs.map V.int) (v := .int cs[j]) (by walk_at "lk") (atI_nat (by rw [List.getElem?_map, List.getElem?_eq_getElem hj]; rfl)) ?_
        generalize cs[j] = z
        walk_at "go"
        first | refine Wn.ifd_int (fun e3 => ?_) (fun e3 => ?_) | refine Wn.ifd (fun e3 => ?_) (fun e3 => ?_)
        · walk_at "go"
          refine ⟨_, _, rfl, fun r hr0 => ?_⟩
          walk_at "go"
          exact fin _ _ _ _ _ _ hr0 (fun x hne => (upd_ne hne).trans (upd_ne hne)) upd_same (by omega) hd
        · walk_at "go"
          have e4 : (1000000000000000000 : Int) ≤ z := by
            have e5 : (10 : Int) ^ (Int.toNat 18) = 1000000000000000000 := by decide
            omega
          refine r_join ?_
          refine tail _ _ _ _ _ { nx := fun _ H' => Q .non H', rt := Q } _ ?_ (by exact upd_same) ?_ ?_ rfl
          · exact fun x hne => (upd_ne hne).trans ((upd_ne hne).trans (upd_ne hne))
          · omega
          · omega
      · walk_at "go"
        refine r_join ?_
        refine tail _ _ _ _ _ { nx := fun _ H' => Q .non H', rt := Q } _ ?_ (by exact upd_same) ?_ ?_ rfl
        · exact fun x hne => upd_ne hne
        · omega
        · omega
    · walk_at "go"
      refine r_join ?_
      refine tail _ _ _ _ _ { nx := fun _ H' => Q .non H', rt := Q } _ ?_ (by exact upd_same) ?_ ?_ rfl
      · exact fun x hne => upd_ne hne
      · omega
      · omega
end
end Wn


namespace Wn
open PySem PySem.Spec PyProof.Rows L2
theorem cut63 {ns : List Int} (h : ns.length ≤ 63) : cutV (ns.map V.int) none (some 63) = ns.map V.int := by
  unfold cutV
  rw [show HT.sIx (ns.map V.int).length (ns.map V.int).length (some 63) = min 63 (ns.map V.int).length from HT.sIx_nat _ _ 63, HT.sIx_none]
  rw [List.drop_zero, Nat.sub_zero, List.length_map, Nat.min_eq_right h]
  exact List.take_of_length_le (by rw [List.length_map]; exact Nat.le_refl _)
theorem small63 {n : Nat} (h : n ≤ 63) : n < sizeLine := Nat.lt_of_le_of_lt h (by decide)
section
variable {P : Program} {w : World} {K : PySem.W.Frag} {mg : Str → Option Value} {base : Heap}
theorem ok_box {f fM : Addr} {fd fdM : FuncData} (F : Fun K "_law_box" "_law_box" sBox f fd) (FM : Fun K "_law_mix" "_law_mix" sMix fM fdM) (bM : Binds K fdM ["_law_value", "_law_k"] []) (gM : mg "_law_mix" = some (.ref fM))
    (mi : mg "int" = none) : FnOk P w K mg base CX0 2 f fd ["_law_script"] (spBox K) := by
  have GM : FnOk P w K mg base CX0 1 fM fdM ["_law_value", "_law_k"] spMix := ok_mix FM mi
  refine F.ok scBox (fun vs H Q E h => ?_) (fun cdv A outer s H vs Q E hr h => ?_)
  · obtain ⟨a, ns, rfl, _⟩ := h
    rfl
  · obtain ⟨a, ns, rfl, hS, h63, q⟩ := h
    refine ⟨_, pss_cons (ps_setLc (i := 2) (own := [("_law_cell", 1)]) (g := gName 1) (tt := tYes) rfl scBox.nd rfl rfl (sw_true rfl rfl rfl (by decide +kernel)) (pi_list (pe_slice sl_list (pv 0) po_none (po_some pe_int))) (blkOk_by (N := ["_law_script", "_law_cell", "_law_cells", "_law_seed"]) (sc := defScope sBox) (by decide +kernel)) (fun _ _ _ _ _ => pg_name (i := 1) scBox.nd rfl (Or.inl rfl)) (fun _ _ _ _ _ => pts_nil) (fun _ _ _ _ _ => pe_callTy call_intI (by rfl) mi (by decide +kernel) (pa_cons (pv 1) pa_nil)))
      (pss_cons (ps_set (i := 3) scBox.nd rfl (.inl rfl) pe_int)
      (pss_cons (ps_for PassesOwn.never rfl (pi_list (pv 2)) (pg_name (i := 1) scBox.nd rfl (.inl rfl)) (pss_one (ps_set (i := 3) scBox.nd rfl (.inl rfl) (pe_call GM hr (by rfl) gM FM.kp bM .nil pass0 (pa_cons (pe_op op_add (pv 3) (pv 1)) (pa_cons pe_int pa_nil))))))
      (pss_one (ps_ret (pe_lst (pa_cons (pv 2) (pa_cons pe_int (pa_cons pe_int (pa_cons (pv 3) (pa_cons pe_int pa_nil)))))))))), ?_⟩
    show tSeq _ _ _ [_, none, none, none] _
    walk_at "go"
    refine ⟨.ref a, rfl, 63, rfl, a, ns.map V.int, rfl, hS, fun c0 n0 => ?_⟩
    rw [cut63 h63]
    have s0 : Same H (upd H c0 (.lst (ns.map V.int))) := fun b o e => (upd_ne (ne_of_none e n0)).trans e
    generalize hH1 : upd H c0 (.lst (ns.map V.int)) = H1
    rw [hH1] at s0
    have e0 : H1 c0 = some (.lst (ns.map V.int)) := by rw [← hH1]; exact upd_same
    refine ⟨c0, rfl, ⟨_, .inl (.inl e0)⟩, fun D nD => ?_⟩
    refine lc_list (K := K) (a := c0) (xs := ns.map V.int) (fun i H' => Same H1 H' ∧ H' D = some (.lst ((ns.take i).map V.int))) ⟨fun b o e => (upd_ne (ne_of_none e nD)).trans e, upd_same⟩ (fun i H' _ h => h.1.seq (.inl (.inl e0))) ?_ ?_
    · rintro i x H' hi ⟨sm, hD⟩
      obtain ⟨z, hz, rfl⟩ := map_at hi
      walk_at "go"
      refine ⟨_, hD, ?_, fun b o e => ?_, ?_⟩
      · rw [List.length_map, List.length_take]
        exact small63 (by omega)
      · exact (upd_ne (ne_of_none e nD)).trans (sm _ _ e)
      · rw [upd_same, take_at hz, List.map_append]
        rfl
    · rintro H2 ⟨sm, hD⟩
      rw [List.length_map, List.take_length] at hD
      walk_at "go"
      refine ⟨_, rfl, D, rfl, ⟨_, .inl (.inl hD)⟩, for_list (K := K) (a := D) (xs := ns.map V.int) (fun i σ H' => H' = H2 ∧ ∃ (c : Option V) (sd : Int), σ = [some (.ref a), c, some (.ref D), some (.int sd)]) ⟨rfl, _, _, rfl⟩ (fun i σ H' _ h => by rw [h.1]; exact .inl (.inl hD)) ?_ ?_⟩
      · rintro i x σ H' hi ⟨rfl, c, sd, rfl⟩
        obtain ⟨z, hz, rfl⟩ := map_at hi
        walk_at "go"
        refine ⟨_, _, rfl, fun r _ => ?_⟩
        walk_at "go"
        exact ⟨_, _, rfl⟩
      · rintro σ H' ⟨rfl, c, sd, rfl⟩
        walk_at "go"
        intro p np
        have hne : p ≠ D := fun e => by rw [e, hD] at np; cases np
        refine q _ p D (fun b o e => (upd_ne (ne_of_none (sm _ _ (s0 _ _ e)) np)).trans (sm _ _ (s0 _ _ e))) ((s0.trans sm).free np) (s0.free nD) ⟨hne, ns, 0, 0, sd, 0, upd_same, (upd_ne hne.symm).trans hD, by decide, by decide⟩
end
end Wn


namespace Wn
open PySem PySem.Spec PyProof.Rows L2
theorem scSame : FnScope ["_law_told_here", "_law_due", "_law_k"] ["_law_told_here", "_law_due"] (defScope sSame) := ⟨rfl, rfl, rfl, by decide +kernel, rfl, by decide +kernel, by decide +kernel⟩
mutual
/-- no list or tuple in it is long; no dict is in it -/
def dsz : PyData → Bool
  | .list xs => decide (xs.length ≤ 100000) && dszAll xs
  | .tuple xs => decide (xs.length ≤ 100000) && dszAll xs
  | .dict _ => false
  | _ => true
def dszAll : List PyData → Bool
  | [] => true
  | x :: xs => dsz x && dszAll xs
end
theorem dszAll_at : ∀ {ds : List PyData} {i : Nat} {d : PyData}, dszAll ds = true → ds[i]? = some d → dsz d = true
  | [], _, _, _, e => by simp at e
  | x :: xs, 0, d, h, e => by
    simp at e; subst e
    unfold dszAll at h
    exact (Bool.and_eq_true_iff.mp h).1
  | x :: xs, i + 1, d, h, e => by
    unfold dszAll at h
    exact dszAll_at (i := i) (Bool.and_eq_true_iff.mp h).2 (by simpa using e)
theorem depthAll_at : ∀ {ds : List PyData} {i : Nat} {d : PyData}, ds[i]? = some d → d.depth ≤ PyData.depthAll ds
  | [], _, _, e => by simp at e
  | x :: xs, 0, d, e => by
    simp at e; subst e
    unfold PyData.depthAll
    exact Nat.le_max_left _ _
  | x :: xs, i + 1, d, e => by
    unfold PyData.depthAll
    exact Nat.le_trans (depthAll_at (i := i) (by simpa using e)) (Nat.le_max_right _ _)
theorem same_sqT {K : PySem.W.Frag} {H H' : Hp} {a : Addr} {xs : List V} (e : Same H H') (h : SqT K H a xs) : SqT K H' a xs := by
  rcases h with (h | ⟨o, h⟩) | h
  · exact .inl (.inl (e _ _ h))
  · exact .inl (.inr ⟨o, e _ _ h⟩)
  · exact .inr h
/-- of depth below n -/
def spSame (K : PySem.W.Frag) (n : Nat) : Sp := fun vs H Q _ => ∃ (x y : V) (d : PyData), vs = [x, y] ∧ Dp K H x d ∧ Dp K H y d ∧ d.depth < n ∧ dsz d = true ∧ ∀ H', Same H H' → Q (.bl true) H'
structure Blt (mg : Str → Option Value) : Prop where
  isi : mg "isinstance" = none
  tuple : mg "tuple" = none
  list : mg "list" = none
  len : mg "len" = none
  all : mg "all" = none
  range : mg "range" = none
  bool : mg "bool" = none
  int : mg "int" = none
  str : mg "str" = none
section
variable {P : Program} {w : World} {K : PySem.W.Frag} {mg : Str → Option Value} {base : Heap}
theorem ok_same {f : Addr} {fd : FuncData} (F : Fun K "_law_same" "_law_same" sSame f fd) (bF : Binds K fd ["_law_told_here", "_law_due"] []) (gF : mg "_law_same" = some (.ref f)) (B : Blt mg) : ∀ n : Nat, FnOk P w K mg base CX0 (n + 1) f fd ["_law_told_here", "_law_due"] (spSame K n) := by
  intro n
  induction n with
  | zero =>
    refine F.ok scSame (fun vs H Q E h => ?_) (fun cdv A outer s H vs Q E hr h => ?_)
    · obtain ⟨x, y, d, rfl, _⟩ := h
      rfl
    · obtain ⟨x, y, d, _, _, _, hd, _⟩ := h
      exact absurd hd (Nat.not_lt_zero _)
  | succ n ih =>
    refine F.ok scSame (fun vs H Q E h => ?_) (fun cdv A outer s H vs Q E hr h => ?_)
    · obtain ⟨x, y, d, rfl, _⟩ := h
      rfl
    · obtain ⟨x, y, d, rfl, hx, hy, hd, hsh, q⟩ := h
      refine ⟨_, pss_cons (ps_if (PW.pt (pw_or (pt_val (pe_callB (call_isiK' (K := K) rfl) (by rfl) B.isi boot_isinstance (pa_cons (pv 1) (pa_cons (pe_bltn (v := .ty "tuple") (by rfl) B.tuple (by decide +kernel) rfl) pa_nil)))) (pw_or1 (pt_val (pe_callB (call_isiK' (K := K) rfl) (by rfl) B.isi boot_isinstance (pa_cons (pv 1) (pa_cons (pe_bltn (v := .ty "list") (by rfl) B.list (by decide +kernel) rfl) pa_nil)))))))
        (pss_cons (ps_if (PW.pt (pw_or (pt_cmpR op_ne (pe_callB (call_isiK' (K := K) rfl) (by rfl) B.isi boot_isinstance (pa_cons (pv 1) (pa_cons (pe_bltn (v := .ty "tuple") (by rfl) B.tuple (by decide +kernel) rfl) pa_nil))) (pe_callB (call_isiK' (K := K) rfl) (by rfl) B.isi boot_isinstance (pa_cons (pv 0) (pa_cons (pe_bltn (v := .ty "tuple") (by rfl) B.tuple (by decide +kernel) rfl) pa_nil))) (nomark _))
            (pw_or1 (pt_cmpR op_ne (pe_callB (call_isiK' (K := K) rfl) (by rfl) B.isi boot_isinstance (pa_cons (pv 1) (pa_cons (pe_bltn (v := .ty "list") (by rfl) B.list (by decide +kernel) rfl) pa_nil))) (pe_callB (call_isiK' (K := K) rfl) (by rfl) B.isi boot_isinstance (pa_cons (pv 0) (pa_cons (pe_bltn (v := .ty "list") (by rfl) B.list (by decide +kernel) rfl) pa_nil))) (nomark _)))))
          (pss_one (ps_ret pe_bl)) pss_nil)
        (pss_cons (ps_if (pt_cmpR op_ne (pe_callB (call_lenK (K := K) rfl) (by rfl) B.len PySem.boot_len (pa_cons (pv 0) pa_nil)) (pe_callB (call_lenK (K := K) rfl) (by rfl) B.len PySem.boot_len (pa_cons (pv 1) pa_nil)) (nomark _)) (pss_one (ps_ret pe_bl)) pss_nil)
        (pss_one (ps_ret (pe_callB (cr_allK (K := K) rfl rfl) (by rfl) B.all boot_all (pa_cons (pe_lc (own := [("_law_k", 2)]) (g := gName 2) (tt := tYes) rfl scSame.nd (pi_range1 (by rfl) B.range (pa_cons (pe_callB (call_lenK (K := K) rfl) (by rfl) B.len PySem.boot_len (pa_cons (pv 1) pa_nil)) pa_nil)) (blkOk_by (N := ["_law_told_here", "_law_due", "_law_k"]) (sc := defScope sSame) (by decide +kernel)) (fun _ _ _ _ _ => pg_name (i := 2) scSame.nd rfl (Or.inl rfl)) (fun _ _ _ _ _ => pts_nil)
          (fun _ _ _ _ _ => pe_call ih hr (by rfl) gF F.kp bF .nil pass0 (pa_cons (pe_ix (ix_aK (K := K) rfl) (pv 0) (pv 2) (fun _ _ => rfl)) (pa_cons (pe_ix (ix_aK (K := K) rfl) (pv 1) (pv 2) (fun _ _ => rfl)) pa_nil)))) pa_nil)))))) pss_nil)
        (pss_cons (ps_if (pt_cmpR op_isN (pv 1) pe_non (nomark _)) (pss_one (ps_ret (pe_cmpR op_isN (pv 0) pe_non (nomark _)))) pss_nil)
        (pss_cons (ps_if (PW.pt (pw_or (pt_val (pe_callB (call_isiK' (K := K) rfl) (by rfl) B.isi boot_isinstance (pa_cons (pv 1) (pa_cons (pe_bltn (v := .ty "bool") (by rfl) B.bool (by decide +kernel) rfl) pa_nil)))) (pw_or1 (pt_val (pe_callB (call_isiK' (K := K) rfl) (by rfl) B.isi boot_isinstance (pa_cons (pv 0) (pa_cons (pe_bltn (v := .ty "bool") (by rfl) B.bool (by decide +kernel) rfl) pa_nil)))))))
          (pss_one (ps_ret (pe_and (pe_callB (call_isiK' (K := K) rfl) (by rfl) B.isi boot_isinstance (pa_cons (pv 1) (pa_cons (pe_bltn (v := .ty "bool") (by rfl) B.bool (by decide +kernel) rfl) pa_nil))) (pe_and (pe_callB (call_isiK' (K := K) rfl) (by rfl) B.isi boot_isinstance (pa_cons (pv 0) (pa_cons (pe_bltn (v := .ty "bool") (by rfl) B.bool (by decide +kernel) rfl) pa_nil))) (pe_one (pe_cmpR op_eq (pv 1) (pv 0) (nomark _))))))) pss_nil)
        (pss_cons (ps_if (pt_val (pe_callB (call_isiK' (K := K) rfl) (by rfl) B.isi boot_isinstance (pa_cons (pv 1) (pa_cons (pe_bltn (v := .ty "int") (by rfl) B.int (by decide +kernel) rfl) pa_nil))))
          (pss_one (ps_ret (pe_and (pe_callB (call_isiK' (K := K) rfl) (by rfl) B.isi boot_isinstance (pa_cons (pv 0) (pa_cons (pe_bltn (v := .ty "int") (by rfl) B.int (by decide +kernel) rfl) pa_nil))) (pe_one (pe_cmpR op_eq (pv 0) (pv 1) (nomark _)))))) pss_nil)
        (pss_one (ps_ret (pe_and (pe_callB (call_isiK' (K := K) rfl) (by rfl) B.isi boot_isinstance (pa_cons (pv 0) (pa_cons (pe_bltn (v := .ty "str") (by rfl) B.str (by decide +kernel) rfl) pa_nil))) (pe_one (pe_cmpR op_eq (pv 0) (pv 1) (nomark _))))))))), ?_⟩
      show tSeq _ _ _ [_, _, none] _
      cases d with
      | none =>
        cases hx; cases hy
        have h1 : Dp K H .non .none := .non
        walk_at "go"
        exact qdec rfl (q _ (Same.refl _))
      | bool b =>
        cases hx; cases hy
        have h1 : Dp K H (.bl b) (.bool b) := .bl b
        walk_at "go"
        exact qdec rfl (q _ (Same.refl _))
      | int i =>
        cases hx; cases hy
        have h1 : Dp K H (.int i) (.int i) := .int i
        walk_at "go"
        exact qdec rfl (q _ (Same.refl _))
      | str x =>
        cases hx; cases hy
        have h1 : Dp K H (.str x) (.str x) := .str x
        walk_at "go"
        exact qdec rfl (q _ (Same.refl _))
      | list ds =>
        have h1 := hx
        have h2 := hy
        cases hx with
        | lst hs1 ha1 =>
        rename_i a1 xs1
        cases hy with
        | lst hs2 ha2 =>
        rename_i a2 xs2
        have l1 := dpAll_len ha1
        have l2 := dpAll_len ha2
        walk_at "go"
        refine ite_f (nd_f (by rw [l1, l2])) ?_
        walk_at "go"
        have hdd : PyData.depthAll ds < n := by
          have h3 : PyData.depthAll ds + 1 < n + 1 := by simpa [PyData.depth] using hd
          omega
        have hsz : ds.length ≤ 100000 ∧ dszAll ds = true := by
          have hsh : (decide (ds.length ≤ 100000) && dszAll ds) = true := by simpa [dsz] using hsh
          exact ⟨of_decide_eq_true (Bool.and_eq_true_iff.mp hsh).1, (Bool.and_eq_true_iff.mp hsh).2⟩
        obtain ⟨hsz, hsa⟩ := hsz
        have hsz2 : 100000 < sizeLine := by decide
        refine ⟨.ref a2, rfl, a2, xs2, rfl, .inl hs2, xs2.length, rfl, by omega, by omega, fun D nD => ?_⟩
        refine lc_range (lo := 0) (n := xs2.length) (fun i H' => Same H H' ∧ H' D = some (.lst ((List.replicate i true).map V.bl))) ⟨same_new nD, upd_same⟩ ?_ ?_
        · rintro i H' hi ⟨sm, hD⟩
          have hi1 : i < xs1.length := by omega
          obtain ⟨d1, e1, p1⟩ := dpAll_at ha1 (List.getElem?_eq_getElem hi1)
          obtain ⟨d2, e2, p2⟩ := dpAll_at ha2 (List.getElem?_eq_getElem hi)
          have e12 : d1 = d2 := Option.some.inj (e1.symm.trans e2)
          subst e12
          have k1 : SqL K H' a1 xs1 ∨ SqT K H' a1 xs1 := .inl (sm.seq hs1)
          have k2 : SqL K H' a2 xs2 ∨ SqT K H' a2 xs2 := .inl (sm.seq hs2)
          walk_at "go"
          refine r_ixa k1 (by rw [Int.zero_add]; exact atI_nat (List.getElem?_eq_getElem hi1)) ?_
          walk_at "go"
          refine r_ixa k2 (by rw [Int.zero_add]; exact atI_nat (List.getElem?_eq_getElem hi)) ?_
          walk_at "go"
          refine ⟨_, _, d1, rfl, dp_mono sm p1, dp_mono sm p2, Nat.lt_of_le_of_lt (depthAll_at e1) hdd, dszAll_at hsa e1, fun H2 s2 => ?_⟩
          refine ⟨_, s2 _ _ hD, ?_, fun b o e => (upd_ne (ne_of_none e nD)).trans (s2 _ _ (sm _ _ e)), ?_⟩
          · rw [List.length_map, List.length_replicate]; omega
          · rw [upd_same, List.replicate_succ', List.map_append]; rfl
        · rintro H' ⟨sm, hD⟩
          walk_at "go"
          refine ⟨D, _, rfl, .inl (.inl hD), ?_⟩
          rw [show (List.replicate xs2.length true).all id = true by simp]
          exact q _ sm
      | tuple ds =>
        have h1 := hx
        have h2 := hy
        cases hx with
        | tup hs1 ha1 =>
        rename_i a1 xs1
        cases hy with
        | tup hs2 ha2 =>
        rename_i a2 xs2
        have l1 := dpAll_len ha1
        have l2 := dpAll_len ha2
        walk_at "go"
        refine ite_f (nd_f (by rw [l1, l2])) ?_
        walk_at "go"
        have hdd : PyData.depthAll ds < n := by
          have h3 : PyData.depthAll ds + 1 < n + 1 := by simpa [PyData.depth] using hd
          omega
        have hsz : ds.length ≤ 100000 ∧ dszAll ds = true := by
          have hsh : (decide (ds.length ≤ 100000) && dszAll ds) = true := by simpa [dsz] using hsh
          exact ⟨of_decide_eq_true (Bool.and_eq_true_iff.mp hsh).1, (Bool.and_eq_true_iff.mp hsh).2⟩
        obtain ⟨hsz, hsa⟩ := hsz
        have hsz2 : 100000 < sizeLine := by decide
        refine ⟨.ref a2, rfl, a2, xs2, rfl, .inr hs2, xs2.length, rfl, by omega, by omega, fun D nD => ?_⟩
        refine lc_range (lo := 0) (n := xs2.length) (fun i H' => Same H H' ∧ H' D = some (.lst ((List.replicate i true).map V.bl))) ⟨same_new nD, upd_same⟩ ?_ ?_
        · rintro i H' hi ⟨sm, hD⟩
          have hi1 : i < xs1.length := by omega
          obtain ⟨d1, e1, p1⟩ := dpAll_at ha1 (List.getElem?_eq_getElem hi1)
          obtain ⟨d2, e2, p2⟩ := dpAll_at ha2 (List.getElem?_eq_getElem hi)
          have e12 : d1 = d2 := Option.some.inj (e1.symm.trans e2)
          subst e12
          have k1 : SqL K H' a1 xs1 ∨ SqT K H' a1 xs1 := .inr (same_sqT sm hs1)
          have k2 : SqL K H' a2 xs2 ∨ SqT K H' a2 xs2 := .inr (same_sqT sm hs2)
          walk_at "go"
          refine r_ixa k1 (by rw [Int.zero_add]; exact atI_nat (List.getElem?_eq_getElem hi1)) ?_
          walk_at "go"
          refine r_ixa k2 (by rw [Int.zero_add]; exact atI_nat (List.getElem?_eq_getElem hi)) ?_
          walk_at "go"
          refine ⟨_, _, d1, rfl, dp_mono sm p1, dp_mono sm p2, Nat.lt_of_le_of_lt (depthAll_at e1) hdd, dszAll_at hsa e1, fun H2 s2 => ?_⟩
          refine ⟨_, s2 _ _ hD, ?_, fun b o e => (upd_ne (ne_of_none e nD)).trans (s2 _ _ (sm _ _ e)), ?_⟩
          · rw [List.length_map, List.length_replicate]; omega
          · rw [upd_same, List.replicate_succ', List.map_append]; rfl
        · rintro H' ⟨sm, hD⟩
          walk_at "go"
          refine ⟨D, _, rfl, .inl (.inl hD), ?_⟩
          rw [show (List.replicate xs2.length true).all id = true by simp]
          exact q _ sm
      | dict ds => cases hx
end
end Wn


namespace Wn
open PySem PySem.Spec PyProof.Rows L2
/-! the law's draws, its box, its likeness: as readings -/
end Wn
namespace Rl
open PySem PySem.Spec PyProof.Rows L2 Wn
def drwN : List R → Option Int
  | [.im .box, .im (.int m)] => if 0 < m ∧ m < 1073741824 then some m else none
  | _ => none
def pDraw (pas : PAs) : PEx := fun ρ => (pas ρ).bind fun rs => (Res.opt (drwN rs)).bind fun m => .dm m fun r => .ok (.im (.int r))
section
variable {g : G} {W : WX} {t : Fr} {X : Cx} {pos : Pos} {e : Expr} {pas : PAs} {σ : L2.St} {H H1 : Hp}
theorem boxR_at {b c : Addr} (h : BoxR g H) (e : g.bad = some (b, c)) : BoxAt H b c := ⟨(h b c e).1, (h b c e).2⟩
theorem boxR_of {b c : Addr} (e : g.bad = some (b, c)) (x : BoxAt H b c) : BoxR g H := fun b' c' e' => by
  rw [e] at e'
  cases e'
  exact ⟨x.ne, x.ex⟩
theorem ldraw {Q : VK} {E : XK} (h : lE g W t (pDraw pas) σ H Q) : tCall spDraw [] E (lA g W t pas) σ H Q := by
  obtain ⟨ρ, sS, h⟩ := h
  refine ⟨ρ, sS, post_mono (fun rs hr vs H1 A x1 b1 r1 n1 f1 => ?_) (fun e x => x) (post_bind.mp h)⟩
  obtain ⟨m, em, hq⟩ := post_opt (post_bind.mp hr)
  clear hr
  unfold drwN at em
  split at em
  · rename_i m'
    by_cases hm : 0 < m' ∧ m' < 1073741824
    · rw [if_pos hm] at em
      cases em
      obtain ⟨v, w, B, C, rfl, h1, h2, _⟩ := vals_two r1
      obtain ⟨_, h1⟩ := h1
      obtain ⟨_, h2⟩ := h2
      cases h1 with
      | box hb =>
        cases h2
        rename_i b c
        have bx := boxR_at b1 hb
        refine ⟨b, c, m, rfl, hm.1, hm.2, bx, fun r H2 r0 rm hx bx2 => ?_⟩
        refine hq r r0 rm (.int r) H2 [] (x1.trans ⟨fun y o ey nb => (hx y (nb b c hb)).trans ey, fun y o ey st => ?_⟩) (boxR_of hb bx2) ⟨rfl, .int _⟩ List.nodup_nil fun x m => nomatch m
        by_cases z : y = b
        · obtain ⟨cs, i, d, sd, n, q1, _⟩ := bx.ex
          rw [z, q1] at ey
          cases ey
          exact st.elim
        · exact (hx y z).trans ey
    · rw [if_neg hm] at em; cases em
  · cases em
theorem ue_draw {E : XK} (h : PE X e (tCall spDraw [] E (lA g W t pas))) : PE X e (lE g W t (pDraw pas)) := PE.imp h fun _ _ _ h => ldraw h
/-! likeness, where both are the same -/
open Classical in
noncomputable def smR (n : Nat) : List R → Option R
  | [a, b] => (pyR a).bind fun d => (pyR b).bind fun e => if d = e ∧ d.depth < n ∧ dsz d = true then some (.im (.bl true)) else none
  | _ => none
open Classical in
theorem lsame {n : Nat} {Q : VK} {E : XK} (h : lE g W t (pFn (smR n) pas) σ H Q) : tCall (spSame g.K n) [] E (lA g W t pas) σ H Q := by
  obtain ⟨ρ, sS, h⟩ := h
  refine ⟨ρ, sS, post_mono (fun rs hr vs H1 A x1 b1 r1 n1 f1 => ?_) (fun e x => x) (post_bind.mp h)⟩
  obtain ⟨z, ez, q⟩ := post_opt hr
  unfold smR at ez
  split at ez
  · rename_i a b
    cases e1 : pyR a with
    | none => rw [e1] at ez; cases ez
    | some d =>
      cases e2 : pyR b with
      | none => rw [e1, e2] at ez; cases ez
      | some d' =>
        rw [e1, e2] at ez
        change (if _ then _ else _) = _ at ez
        split at ez
        · rename_i hd
          obtain ⟨rfl, h1, h2⟩ := hd
          cases ez
          obtain ⟨v, w, B, C, rfl, h3, h4, _⟩ := vals_two r1
          exact ⟨v, w, d, rfl, h3.dp e1, h4.dp e2, h1, h2, fun H' s => q (.bl true) H' [] (x1.trans (.of s)) (b1.same s) ⟨rfl, .bl _⟩ List.nodup_nil fun x m => nomatch m⟩
        · cases ez
  · cases ez
theorem ue_same {n : Nat} {E : XK} (h : PE X e (tCall (spSame g.K n) [] E (lA g W t pas))) : PE X e (lE g W t (pFn (smR n) pas)) := PE.imp h fun _ _ _ h => lsame h
/-! the box is made, the rest runs with it -/
def lBox (gg : Option (Addr × Addr) → G) (W : WX) (H0 : Hp) (p : PSt) : TS := fun D σ H => ∃ b c, lS (gg (some (b, c))) W ⟨H0, [b], [], []⟩ p D σ H
theorem us_box {gg : Option (Addr × Addr) → G} {H0 : Hp} {p : PSt} {sts : List Stmt} (h : ∀ b c, PSs X sts (lS (gg (some (b, c))) W ⟨H0, [b], [], []⟩ p)) : PSs X sts (lBox gg W H0 p) := ⟨fun pins s σ H D I ⟨b, c, q⟩ => (h b c).run pins s σ H D I q⟩
end
end Rl
namespace Wn
end Wn


namespace Wn
open PySem PySem.Spec PyProof.Rows L2
/-! a law's body: the box, then its reading -/
def spLaw (K : PySem.W.Frag) : Sp := fun vs H Q _ => ∃ (a : Addr) (ns : List Int), vs = [.ref a] ∧ SqL K H a (ns.map V.int) ∧ ns.length ≤ 63 ∧ ∀ H', Q (.bl true) H'
end Wn
namespace Rl
open PySem PySem.Spec PyProof.Rows L2 Wn
/-- the reading says True, whatever is drawn -/
def Says (p : PSt) (m : Nat) : Prop := (p (.un :: .im .box :: List.replicate m .un)).post (fun o => ∃ ρ, o = .rt (.im (.bl true)) ρ) (fun _ => False)
def lBoxA (gg : Option (Addr × Addr) → G) (p : PSt) : TS := fun D σ H => ∃ b c, lS (gg (some (b, c))) W0 ⟨H, [b], [], []⟩ p D σ H
theorem us_boxA {X : Cx} {gg : Option (Addr × Addr) → G} {p : PSt} {sts : List Stmt} (h : ∀ H0 b c, PSs X sts (lS (gg (some (b, c))) W0 ⟨H0, [b], [], []⟩ p)) : PSs X sts (lBoxA gg p) := ⟨fun pins s σ H D I ⟨b, c, q⟩ => (h H b c).run pins s σ H D I q⟩
theorem law_start {gg : Option (Addr × Addr) → G} {p : PSt} {m : Nat} {x : Option V} {b c : Addr} {H : Hp} {Q : VK} (hp : Says p m) (hg : (gg (some (b, c))).bad = some (b, c)) (hB : BoxAt H b c) (q : ∀ H', Q (.bl true) H') :
    lBoxA gg p { nx := fun _ H' => Q .non H', rt := Q } (x :: some (.ref b) :: List.replicate m none) H := by
  refine ⟨b, c, _, ?_, post_mono (fun o ho => ?_) (fun e he => he.elim) hp⟩
  · exact {
      sl := ⟨[], .un (.im (.box hg) (slots_un m)), List.nodup_nil, fun a m => nomatch m⟩
      bx := boxR_of hg hB
      fr := fun x o h _ => h
      kp := Kp.refl H
      th := fun x o h => ⟨o, h⟩
      ps := fun p m => nomatch m
      bm := fun b' c' h => by rw [hg] at h; cases h; exact .head _
      xd := fun p m => nomatch m }
  · obtain ⟨ρ, rfl⟩ := ho
    intro v σ' H' A k s rv nd f
    obtain ⟨_, rv⟩ := rv
    cases rv
    exact q H'
/-- the same, closed: what it says is not unfolded where it is named -/
structure SaysI (p : PSt) (m : Nat) : Prop where
  says : Says p m
theorem law_startI {gg : Option (Addr × Addr) → G} {p : PSt} {m : Nat} {x : Option V} {b c : Addr} {H : Hp} {Q : VK} (hp : SaysI p m) (hg : (gg (some (b, c))).bad = some (b, c)) (hB : BoxAt H b c) (q : ∀ H', Q (.bl true) H') :
    lBoxA gg p { nx := fun _ H' => Q .non H', rt := Q } (x :: some (.ref b) :: List.replicate m none) H := law_start hp.says hg hB q
end Rl
namespace Wn
end Wn
/-! Hdx: what the top leaves, looked at by one Hook: more facts. -/
namespace Hx
open PySem PySem.Spec PyProof.Rows L2 Wn
theorem bb {a b : Bool} (h : (a && b) = true) : a = true ∧ b = true := Bool.and_eq_true_iff.mp h
theorem funOf {K : PySem.W.Frag} {x q : Str} {st : Stmt} {f : Addr} {fd : FuncData} (F : FunD K x q (defArgs st) (defBody st) (defScope st) [] [] f fd) : L2.Fun K x q st f fd := by
  obtain ⟨oc, od, dV, kV, doc, pm, an, cdv, ct, osl, rfl, lk, hcd, hD, hK⟩ := F.ex
  rcases hD with ⟨_, rfl⟩ | ⟨e, _⟩
  · exact ⟨⟨oc, od, kV, doc, pm, an, cdv, ct, osl, rfl, lk, hcd⟩, F.kp⟩
  · exact absurd rfl e
def oexB (K : PySem.W.Frag) (C : Addr) : Bool := match K.lookup C with
  | some ⟨.type t, _, .cls cd, sl⟩ => (match cd.mro, sl.toList with
    | .ref C' :: bm, [_, _, _, _, some (.builtin n), _] => decide (t = "type") && (decide (C' = C) && (decide (n = "ValueError.__new__") && (cd.hasDict && (!cd.hasDel && PySem.HandSPX.refsVE bm))))
    | _, _ => false)
  | _ => false
theorem oexB_ok {K : PySem.W.Frag} {C : Addr} (q : oexB K C = true) : ∃ nm qn N bs bm sn sub ab col dd k0 k1 k2 k3 k5, K.lookup C = some (excClassObj nm qn C N bs bm true sn sub ab col dd k0 k1 k2 k3 k5 "ValueError.__new__") ∧ PySem.HandSPX.refsVE bm = true := by
  unfold oexB at q
  split at q
  · rename_i t dd cd sl ho
    split at q
    · rename_i C' bm k0 k1 k2 k3 n k5 hm hs
      obtain ⟨a1, q⟩ := bb q
      obtain ⟨a2, q⟩ := bb q
      obtain ⟨a3, q⟩ := bb q
      obtain ⟨a4, q⟩ := bb q
      obtain ⟨a5, a6⟩ := bb q
      have a1 := of_decide_eq_true a1
      have a2 := of_decide_eq_true a2
      have a3 := of_decide_eq_true a3
      subst a1 a2 a3
      obtain ⟨nm, bs, mro, ns, qn, hd, sn, sub, ab, col, del⟩ := cd
      dsimp only at hm a4 a5
      subst hm a4
      have a5 : del = false := by cases del with
        | false => rfl
        | true => cases a5
      subst a5
      have hsl : sl = #[k0, k1, k2, k3, some (.builtin "ValueError.__new__"), k5] := by
        obtain ⟨l⟩ := sl
        simp only at hs
        rw [hs]
      subst hsl
      exact ⟨nm, qn, ns, bs, bm, sn, sub, ab, col, dd, k0, k1, k2, k3, k5, ho, a6⟩
    · cases q
  · cases q
def oB (a b : Option Bool) : Bool := decide (a = b)
def vB (a b : Option Value) : Bool := decide (a = b)
def xB (K : PySem.W.Frag) (C : Addr) : Bool := oexB K C && (He.eqO (PySem.W.findIn K (.ref C) "__setattr__") (some (some (.builtin "object.__setattr__"))) && (oB (PySem.W.subIn K (.ref C) (.type "BaseException")) (some true) && (vB (PySem.W.typeIn K (.ref C)) (some (.type "type")) && (PySem.W.keepIn K (.ref C) && (He.eqO (PySem.W.findIn K (.ref C) "__getattribute__") (some (some (.builtin "BaseException.__getattribute__"))) && (He.eqO (PySem.W.findIn K (.ref C) "__getattr__") (some none) && (PySem.W.hasDictIn K C && (He.eqO (PySem.W.findIn K (.ref C) "__class__") (some (some (.builtin "object.__class__"))) && (He.eqO (PySem.W.specialIn K (.builtin "object.__class__") "__get__") (some (some (.builtin "getset_descriptor.__get__"))) && (oB (PySem.W.takesIn K (.builtin "object.__class__")) (some true) && oB (PySem.W.mroIn K C (.type "object")) (some true)))))))))))
theorem xB_ok {K : PySem.W.Frag} {C : Addr} (q : xB K C = true) : Wn.XCls K C := by
  obtain ⟨a0, q⟩ := bb q
  obtain ⟨a1, q⟩ := bb q
  obtain ⟨a2, q⟩ := bb q
  obtain ⟨a3, q⟩ := bb q
  obtain ⟨a4, q⟩ := bb q
  obtain ⟨a5, q⟩ := bb q
  obtain ⟨a6, q⟩ := bb q
  obtain ⟨a7, q⟩ := bb q
  obtain ⟨a8, q⟩ := bb q
  obtain ⟨a9, q⟩ := bb q
  obtain ⟨b1, b2⟩ := bb q
  exact ⟨⟨oexB_ok a0, He.eqO_ok a1, of_decide_eq_true a2, of_decide_eq_true a3, a4⟩, ⟨He.eqO_ok a5, He.eqO_ok a6, of_decide_eq_true a2, a7, He.eqO_ok a8, He.eqO_ok a9, of_decide_eq_true b1, of_decide_eq_true b2⟩⟩
def x0B (K : PySem.W.Frag) (C : Addr) : Bool := PySem.W.excIn K C [.type "ValueError", .type "Exception", .type "BaseException", .type "object"] "ValueError.__new__" && (oB (PySem.W.subIn K (.ref C) (.type "BaseException")) (some true) && (vB (PySem.W.typeIn K (.ref C)) (some (.type "type")) && (PySem.W.keepIn K (.ref C) && (He.eqO (PySem.W.findIn K (.ref C) "__getattribute__") (some (some (.builtin "BaseException.__getattribute__"))) && (He.eqO (PySem.W.findIn K (.ref C) "__getattr__") (some none) && (PySem.W.hasDictIn K C && (He.eqO (PySem.W.findIn K (.ref C) "__class__") (some (some (.builtin "object.__class__"))) && (He.eqO (PySem.W.specialIn K (.builtin "object.__class__") "__get__") (some (some (.builtin "getset_descriptor.__get__"))) && (oB (PySem.W.takesIn K (.builtin "object.__class__")) (some true) && oB (PySem.W.mroIn K C (.type "object")) (some true))))))))))
theorem x0B_ok {K : PySem.W.Frag} {C : Addr} (q : x0B K C = true) : Wn.XCls0 K C := by
  obtain ⟨a0, q⟩ := bb q
  obtain ⟨a2, q⟩ := bb q
  obtain ⟨a3, q⟩ := bb q
  obtain ⟨a4, q⟩ := bb q
  obtain ⟨a5, q⟩ := bb q
  obtain ⟨a6, q⟩ := bb q
  obtain ⟨a7, q⟩ := bb q
  obtain ⟨a8, q⟩ := bb q
  obtain ⟨a9, q⟩ := bb q
  obtain ⟨b1, b2⟩ := bb q
  exact ⟨⟨He.eqO_ok a5, He.eqO_ok a6, of_decide_eq_true a2, a7, He.eqO_ok a8, He.eqO_ok a9, of_decide_eq_true b1, of_decide_eq_true b2⟩, a0, a4, of_decide_eq_true a3⟩
def inB (K : PySem.W.Frag) (x : Str) : Bool := vB (PySem.W.typeIn K (.ref (He.ma K (He.ga K x) "__init__"))) (some (.type "function"))
theorem inB_ok {K : PySem.W.Frag} {x : Str} (q : inB K x = true) : PySem.W.typeIn K (.ref (He.ma K (He.ga K x) "__init__")) = some (.type "function") := of_decide_eq_true q
def wtB (K : PySem.W.Frag) (a : Addr) (vs : List He.Dv) : Bool := match K.lookup a with
  | some ⟨.type c, none, .seq its _, _⟩ => decide (c = "tuple") && (decide (its.size ≤ sizeLine) && He.relAll (vs.map (He.Dv.v K)) its.toList)
  | _ => false
theorem wtB_ok {K : PySem.W.Frag} {a : Addr} {vs : List He.Dv} (h : wtB K a vs = true) : Rl.WT K a (vs.map (He.Dv.v K)) := by
  unfold wtB at h
  cases q : K.lookup a with
  | none => rw [q] at h; cases h
  | some o =>
    obtain ⟨oc, od, dt, osl⟩ := o
    rw [q] at h
    cases oc with
    | type c =>
      cases od with
      | none =>
        cases dt with
        | seq its n =>
          obtain ⟨h1, h2⟩ := bb (show (decide (c = "tuple") && (decide (its.size ≤ sizeLine) && He.relAll (vs.map (He.Dv.v K)) its.toList)) = true from h)
          obtain ⟨h3, h4⟩ := bb h2
          exact ⟨_, its, n, q, congrArg Value.type (of_decide_eq_true h1), rfl, rfl, of_decide_eq_true h3, He.relAll_ok h4⟩
        | _ => cases h
      | some b => cases dt <;> cases h
    | _ => cases od <;> cases dt <;> cases h
/-- what a table's key stands for, as an address -/
def ka (K : PySem.W.Frag) (x k : Str) : Addr := match PySem.W.nsIn K (He.ga K x) k with
  | some (some (.ref a)) => a
  | _ => 0
def entB (K : PySem.W.Frag) (x k : Str) (v : V) : Bool := match PySem.W.nsIn K (He.ga K x) k with
  | some (some u) => He.relB v u
  | _ => false
theorem ent_ok {K : PySem.W.Frag} {w : World} {x k : Str} {v : V} {es : Array DictEntry} {n : Nat} (D : L2.KDict K w (He.ga K x) es n) (h : entB K x k v = true) : L2.KDct K w (He.ga K x) k v := by
  unfold entB at h
  cases e : PySem.W.nsIn K (He.ga K x) k with
  | none => rw [e] at h; cases h
  | some r =>
    rw [e] at h
    cases r with
    | none => cases h
    | some u => exact ⟨es, n, u, D.at_, D.lit, e, He.relB_ok h⟩
def kitB (K : PySem.W.Frag) (x y : Str) (b : Bool) : Bool := oB (PySem.W.kitOne K (.ref (He.ga K x)) (.ref (He.ga K y))) (some b)
theorem kitB_ok {K : PySem.W.Frag} {x y : Str} {b : Bool} (h : kitB K x y b = true) : PySem.W.kitOne K (.ref (He.ga K x)) (.ref (He.ga K y)) = some b := of_decide_eq_true h
def neB (K : PySem.W.Frag) (x y : Str) : Bool := !(He.ga K x == He.ga K y)
theorem neB_ok {K : PySem.W.Frag} {x y : Str} (h : neB K x y = true) : He.ga K x ≠ He.ga K y := fun e => by
  unfold neB at h
  rw [e, beq_self_eq_true] at h
  cases h
def allB (fs : List (PySem.W.Frag → Bool)) (K : PySem.W.Frag) : Bool := fs.all fun f => f K
theorem all_at {fs : List (PySem.W.Frag → Bool)} {K : PySem.W.Frag} (h : allB fs K = true) (i : Nat) {f : PySem.W.Frag → Bool} (e : fs[i]? = some f := by rfl) : f K = true := List.all_eq_true.mp h f (List.mem_of_getElem? e)
end Hx
/-! Hdy: a top's equation from its parts, each by a kernel run of its own. -/
namespace Hx
open PySem PySem.W PySem.Calls
theorem mp2 {σ α β : Type} {x : Option σ} {f : σ → α} {g : σ → β} {a : α} {b : β} (h1 : x.map f = some a) (h2 : x.map g = some b) : x.map (fun s => (f s, g s)) = some (a, b) := by
  cases x with
  | none => cases h1
  | some s =>
    have e1 : f s = a := Option.some.inj h1
    have e2 : g s = b := Option.some.inj h2
    show some (f s, g s) = _
    rw [e1, e2]
theorem mpAnd {σ : Type} {x : Option σ} {f g : σ → Bool} (h1 : x.map f = some true) (h2 : x.map g = some true) : x.map (fun s => f s && g s) = some true := by
  cases x with
  | none => cases h1
  | some s =>
    have e1 : f s = true := Option.some.inj h1
    have e2 : g s = true := Option.some.inj h2
    show some (f s && g s) = _
    rw [e1, e2]
    rfl
theorem mpCg {σ α : Type} {x : Option σ} {f g : σ → α} {a : α} (h : ∀ s, f s = g s) (h1 : x.map g = some a) : x.map f = some a := by
  have e : f = g := funext h
  rw [e]
  exact h1
/-- a law's facts, taken off the tree -/
abbrev frX (n : Nat) (s : SharedT) : PySem.W.Frag := He.frT (HandSHeadRun.getT s) (He.asD (HandSHeadRun.getT s) n)
theorem obs_parts {n : Nat} {fa fb : List He.Fa} {fn : List He.DefD} {ts : List He.Tab} {ex : PySem.W.Frag → Bool} {x : Option SharedT} {w : World}
    (h1 : x.map (fun s => fa.all fun f => f.ok (frX n s)) = some true)
    (h2 : x.map (fun s => fb.all fun f => f.ok (frX n s)) = some true)
    (h3 : x.map (fun s => ((fn.all fun d => d.ok (frX n s)), fn.map fun d => He.fnW (frX n s) d.at_)) = some (true, fn.map He.DefD.val))
    (h4 : x.map (fun s => (ts.map (fun t => He.dicW (frX n s) (t.1 (frX n s))), ex (frX n s) && He.tabsB (HandSHeadRun.getT s) [] (frX n s))) = some (ts.map (fun t => some (He.keysIn w.params t.2)), true)) :
    x.map (fun s => He.obsX n (fa ++ fb) fn ts [] ex (HandSHeadRun.getT s)) = some (He.valX fn ts w) := by
  cases x with
  | none => cases h1
  | some s =>
    have e1 : (fa.all fun f => f.ok (frX n s)) = true := Option.some.inj h1
    have e2 : (fb.all fun f => f.ok (frX n s)) = true := Option.some.inj h2
    have e3 : ((fn.all fun d => d.ok (frX n s)), fn.map fun d => He.fnW (frX n s) d.at_) = (true, fn.map He.DefD.val) := Option.some.inj h3
    have e4 : (ts.map (fun t => He.dicW (frX n s) (t.1 (frX n s))), ex (frX n s) && He.tabsB (HandSHeadRun.getT s) [] (frX n s)) = (ts.map (fun t => some (He.keysIn w.params t.2)), true) := Option.some.inj h4
    have e5 : (fn.all fun d => d.ok (frX n s)) = true := congrArg Prod.fst e3
    have e6 : (fn.map fun d => He.fnW (frX n s) d.at_) = fn.map He.DefD.val := congrArg Prod.snd e3
    have e7 : ts.map (fun t => He.dicW (frX n s) (t.1 (frX n s))) = ts.map (fun t => some (He.keysIn w.params t.2)) := congrArg Prod.fst e4
    have e8 : (ex (frX n s) && He.tabsB (HandSHeadRun.getT s) [] (frX n s)) = true := congrArg Prod.snd e4
    have e9 : ((fa ++ fb).all fun f => f.ok (frX n s)) = true := by rw [List.all_append, e1, e2]; rfl
    show some (((((fa ++ fb).all fun f => f.ok (frX n s)) && fn.all fun d => d.ok (frX n s), fn.map fun d => He.fnW (frX n s) d.at_), ts.map (fun t => He.dicW (frX n s) (t.1 (frX n s)))), ex (frX n s) && He.tabsB (HandSHeadRun.getT s) [] (frX n s)) = some (((true, fn.map He.DefD.val), ts.map (fun t => some (He.keysIn w.params t.2))), true)
    rw [e9, e5, e6, e7, e8]
    rfl
theorem run_parts {r : OpenRow} {q : Program} {H : Hook} {ob : SharedT → H.α} {M : Nat} {loose : List PySem.Str} {w : World}
    (h1 : ∀ os : OsState, (HandSHeadRun.endF (HandSHeadRun.stepQ (HandSHeadRun.denQ HandSHeadRun.tabQ) r.prog w) M r.prog w os).map (fun s => HandSHeadRun.looksF r.prog (boot_heap w.params) s.abs) = some true)
    (h2 : ∀ os : OsState, (HandSHeadRun.endF (HandSHeadRun.stepQ (HandSHeadRun.denQ HandSHeadRun.tabQ) r.prog w) M r.prog w os).map (fun s => HandSHeadRun.seenQ q loose (importedModules r.prog.main.body) (fun s => xlAt q [] s && recOk r.toRowW.records s) s.abs) = some (openGood q loose))
    (h3 : ∀ os : OsState, (HandSHeadRun.endF (HandSHeadRun.stepQ (HandSHeadRun.denQ HandSHeadRun.tabQ) r.prog w) M r.prog w os).map ob = some (H.val w)) :
    HandSHeadRun.RunEq r q H ob M loose w := fun os => mp2 (h1 os) (mp2 (h2 os) (h3 os))
end Hx
namespace Hx
open PySem PySem.W PySem.Calls
/-- a law's facts over addresses that are given -/
def obsA (as : List Addr) (fa : List He.Fa) (fn : List He.DefD) (ts : List He.Tab) (ex : PySem.W.Frag → Bool) (g : Addr → Option Obj) : He.AlX :=
  (He.obsT fa fn ts (He.frT g as), ex (He.frT g as))
theorem saysA {as : List Addr} {fa : List He.Fa} {fn : List He.DefD} {ts : List He.Tab} {ex : PySem.W.Frag → Bool} {w : World} {h : Heap}
    (e : obsA as fa fn ts ex h.get? = He.valX fn ts w) : He.SaysX fa fn ts [] ex w h (He.frT h.get? as) := by
  have z1 := congrArg Prod.fst e
  have z2 := congrArg Prod.snd e
  exact ⟨z1, z2, fun p hp => (List.not_mem_nil hp).elim, fun p hp => (List.not_mem_nil hp).elim, fun p hp => (List.not_mem_nil hp).elim⟩
def hookA (as : List Addr) (fa : List He.Fa) (fn : List He.DefD) (ts : List He.Tab) (ex : PySem.W.Frag → Bool) : PySem.W.Hook where
  α := He.AlX
  obs := fun s => obsA as fa fn ts ex s.heap.get?
  val := fun w => He.valX fn ts w
  says := fun w h => ∃ K : PySem.W.Frag, K.In h ∧ He.SaysX fa fn ts [] ex w h K
  of := fun _ _ e => Exists.intro _ (And.intro He.frT_in (saysA e))
  keeps := fun w h h' z k => z.elim fun K y => ⟨K, y.1.keeps k, ⟨y.2.t, y.2.more, y.2.hd, y.2.out, fun p hp => k _ _ (y.2.empty p hp)⟩⟩
theorem obsA_eq {as : List Addr} {fa : List He.Fa} {fn : List He.DefD} {ts : List He.Tab} {ex : PySem.W.Frag → Bool} {g : Addr → Option Obj} {s : Shared} (h : ∀ a, g a = s.heap.get? a) :
    obsA as fa fn ts ex g = (hookA as fa fn ts ex).obs s := congrArg (obsA as fa fn ts ex) (funext h)
end Hx


namespace Wn
open PySem PySem.Spec PyProof.Rows L2
abbrev s_is_name : Stmt := top 5
theorem sc_is_name : FnScope ["value", "letter"] ["value"] (defScope s_is_name) := ⟨rfl, rfl, rfl, by decide +kernel, rfl, by decide +kernel, by decide +kernel⟩
abbrev s_has_items : Stmt := top 6
theorem sc_has_items : FnScope ["value", "count"] ["value", "count"] (defScope s_has_items) := ⟨rfl, rfl, rfl, by decide +kernel, rfl, by decide +kernel, by decide +kernel⟩
abbrev s_are_names : Stmt := top 7
theorem sc_are_names : FnScope ["values", "value"] ["values"] (defScope s_are_names) := ⟨rfl, rfl, rfl, by decide +kernel, rfl, by decide +kernel, by decide +kernel⟩
abbrev s_are_pairs : Stmt := top 14
theorem sc_are_pairs : FnScope ["values", "pair"] ["values"] (defScope s_are_pairs) := ⟨rfl, rfl, rfl, by decide +kernel, rfl, by decide +kernel, by decide +kernel⟩
abbrev s_is_allowed : Stmt := top 13
theorem sc_is_allowed : FnScope ["part", "value"] ["part", "value"] (defScope s_is_allowed) := ⟨rfl, rfl, rfl, by decide +kernel, rfl, by decide +kernel, by decide +kernel⟩
abbrev s_wrong_part_rules : Stmt := top 12
theorem sc_wrong_part_rules : FnScope ["values", "part", "value"] ["values"] (defScope s_wrong_part_rules) := ⟨rfl, rfl, rfl, by decide +kernel, rfl, by decide +kernel, by decide +kernel⟩
abbrev s_Rule_init : Stmt := inClass (top 11) 0
theorem sc_Rule_init : FnScope ["self", "opens", "checks", "around", "wipes", "taken", "sending", "part"] ["self", "opens", "checks", "around", "wipes", "taken", "sending"] (defScope s_Rule_init) := ⟨rfl, rfl, rfl, by decide +kernel, rfl, by decide +kernel, by decide +kernel⟩
abbrev s_Rule_with_part : Stmt := inClass (top 11) 3
theorem sc_Rule_with_part : FnScope ["self", "part", "value", "held", "values", "own", "kept", "opens", "checks", "around", "wipes", "taken", "sending"] ["self", "part", "value"] (defScope s_Rule_with_part) := ⟨rfl, rfl, rfl, by decide +kernel, rfl, by decide +kernel, by decide +kernel⟩
abbrev s_InvalidRule_init : Stmt := inClass (top 3) 0
theorem sc_InvalidRule_init : FnScope ["self", "part"] ["self", "part"] (defScope s_InvalidRule_init) := ⟨rfl, rfl, rfl, by decide +kernel, rfl, by decide +kernel, by decide +kernel⟩
abbrev s_L_fits : Stmt := top 21
theorem sc_L_fits : FnScope ["_law_part", "_law_value", "_law_menus"] ["_law_part", "_law_value"] (defScope s_L_fits) := ⟨rfl, rfl, rfl, by decide +kernel, rfl, by decide +kernel, by decide +kernel⟩
abbrev s_L_six : Stmt := top 22
theorem sc_L_six : FnScope ["_law_rule"] ["_law_rule"] (defScope s_L_six) := ⟨rfl, rfl, rfl, by decide +kernel, rfl, by decide +kernel, by decide +kernel⟩
abbrev s_L_told : Stmt := top 23
theorem sc_L_told : FnScope ["_law_rule", "_law_part", "_law_value", "error", "_law_made"] ["_law_rule", "_law_part", "_law_value"] (defScope s_L_told) := ⟨rfl, rfl, rfl, by decide +kernel, rfl, by decide +kernel, by decide +kernel⟩
abbrev s_law : Stmt := top 24
theorem sc_law : FnScope ["_law_script", "_law_box_here", "_law_parts", "_law_names", "_law_values", "_law_six_here", "_law_rule", "_law_k", "_law_part", "_law_value", "_law_due", "_law_changed"] ["_law_script"] (defScope s_law) := ⟨rfl, rfl, rfl, by decide +kernel, rfl, by decide +kernel, by decide +kernel⟩
set_option genSizeOf false in
set_option genInjectivity false in
structure Txt (w : World) (K : PySem.W.Frag) (mg : Str → Option Value) where
  B : Blt mg
  set : mg "set" = none
  zip : mg "zip" = none
  sorted : mg "sorted" = none
  f_is_name : Addr
  d_is_name : FuncData
  F_is_name : Fun K "is_name" "is_name" s_is_name f_is_name d_is_name
  b_is_name : Binds K d_is_name ["value"] []
  g_is_name : mg "is_name" = some (.ref f_is_name)
  f_has_items : Addr
  d_has_items : FuncData
  F_has_items : Fun K "has_items" "has_items" s_has_items f_has_items d_has_items
  b_has_items : Binds K d_has_items ["value", "count"] []
  g_has_items : mg "has_items" = some (.ref f_has_items)
  f_are_names : Addr
  d_are_names : FuncData
  F_are_names : Fun K "are_names" "are_names" s_are_names f_are_names d_are_names
  b_are_names : Binds K d_are_names ["values"] []
  g_are_names : mg "are_names" = some (.ref f_are_names)
  f_are_pairs : Addr
  d_are_pairs : FuncData
  F_are_pairs : Fun K "are_pairs" "are_pairs" s_are_pairs f_are_pairs d_are_pairs
  b_are_pairs : Binds K d_are_pairs ["values"] []
  g_are_pairs : mg "are_pairs" = some (.ref f_are_pairs)
  f_is_allowed : Addr
  d_is_allowed : FuncData
  F_is_allowed : Fun K "is_allowed" "is_allowed" s_is_allowed f_is_allowed d_is_allowed
  b_is_allowed : Binds K d_is_allowed ["part", "value"] []
  g_is_allowed : mg "is_allowed" = some (.ref f_is_allowed)
  f_wrong_part_rules : Addr
  d_wrong_part_rules : FuncData
  F_wrong_part_rules : Fun K "wrong_part" "wrong_part" s_wrong_part_rules f_wrong_part_rules d_wrong_part_rules
  b_wrong_part_rules : Binds K d_wrong_part_rules ["values"] []
  g_wrong_part_rules : mg "wrong_part" = some (.ref f_wrong_part_rules)
  f_L_mix : Addr
  d_L_mix : FuncData
  F_L_mix : Fun K "_law_mix" "_law_mix" sMix f_L_mix d_L_mix
  b_L_mix : Binds K d_L_mix ["_law_value", "_law_k"] []
  g_L_mix : mg "_law_mix" = some (.ref f_L_mix)
  f_L_box : Addr
  d_L_box : FuncData
  F_L_box : Fun K "_law_box" "_law_box" sBox f_L_box d_L_box
  b_L_box : Binds K d_L_box ["_law_script"] []
  g_L_box : mg "_law_box" = some (.ref f_L_box)
  f_L_draw : Addr
  d_L_draw : FuncData
  F_L_draw : Fun K "_law_draw" "_law_draw" sDraw f_L_draw d_L_draw
  b_L_draw : Binds K d_L_draw ["_law_box_here", "_law_many"] []
  g_L_draw : mg "_law_draw" = some (.ref f_L_draw)
  f_L_same : Addr
  d_L_same : FuncData
  F_L_same : Fun K "_law_same" "_law_same" sSame f_L_same d_L_same
  b_L_same : Binds K d_L_same ["_law_told_here", "_law_due"] []
  g_L_same : mg "_law_same" = some (.ref f_L_same)
  f_L_fits : Addr
  d_L_fits : FuncData
  F_L_fits : Fun K "_law_fits" "_law_fits" s_L_fits f_L_fits d_L_fits
  b_L_fits : Binds K d_L_fits ["_law_part", "_law_value"] []
  g_L_fits : mg "_law_fits" = some (.ref f_L_fits)
  f_L_six : Addr
  d_L_six : FuncData
  F_L_six : Fun K "_law_six" "_law_six" s_L_six f_L_six d_L_six
  b_L_six : Binds K d_L_six ["_law_rule"] []
  g_L_six : mg "_law_six" = some (.ref f_L_six)
  f_L_told : Addr
  d_L_told : FuncData
  F_L_told : Fun K "_law_told" "_law_told" s_L_told f_L_told d_L_told
  b_L_told : Binds K d_L_told ["_law_rule", "_law_part", "_law_value"] []
  g_L_told : mg "_law_told" = some (.ref f_L_told)
  C_Rule : Addr
  g_Rule : mg "Rule" = some (.ref C_Rule)
  cl_Rule : Cls K C_Rule
  na_Rule_opens : NoAttr K C_Rule "opens"
  na_Rule_checks : NoAttr K C_Rule "checks"
  na_Rule_around : NoAttr K C_Rule "around"
  na_Rule_wipes : NoAttr K C_Rule "wipes"
  na_Rule_taken : NoAttr K C_Rule "taken"
  na_Rule_sending : NoAttr K C_Rule "sending"
  f_Rule_init : Addr
  d_Rule_init : FuncData
  F_Rule_init : FunD K "__init__" "Rule.__init__" (defArgs s_Rule_init) (defBody s_Rule_init) (defScope s_Rule_init) [] [("wipes", .bl false), ("taken", .str "same"), ("sending", .str "wait")] f_Rule_init d_Rule_init
  M_Rule : Mk K C_Rule f_Rule_init
  a_PARTS : Addr
  g_PARTS : mg "PARTS" = some (.ref a_PARTS)
  w_PARTS : Rl.WT K a_PARTS [(.str "opens"), (.str "checks"), (.str "around"), (.str "wipes"), (.str "taken"), (.str "sending")]
  a_CHOICES : Addr
  g_CHOICES : mg "CHOICES" = some (.ref a_CHOICES)
  q_CHOICES_0 : Addr
  k_CHOICES_0 : KDct K w a_CHOICES "opens" (.ref q_CHOICES_0)
  w_CHOICES_0 : Rl.WT K q_CHOICES_0 [(.str "enter"), (.str "leave"), (.str "send")]
  q_CHOICES_1 : Addr
  k_CHOICES_1 : KDct K w a_CHOICES "checks" (.ref q_CHOICES_1)
  w_CHOICES_1 : Rl.WT K q_CHOICES_1 [(.str "enter"), (.str "leave")]
  q_CHOICES_2 : Addr
  k_CHOICES_2 : KDct K w a_CHOICES "around" (.ref q_CHOICES_2)
  w_CHOICES_2 : Rl.WT K q_CHOICES_2 [(.str "own"), (.str "looks")]
  q_CHOICES_3 : Addr
  k_CHOICES_3 : KDct K w a_CHOICES "wipes" (.ref q_CHOICES_3)
  w_CHOICES_3 : Rl.WT K q_CHOICES_3 [(.bl false), (.bl true)]
  q_CHOICES_4 : Addr
  k_CHOICES_4 : KDct K w a_CHOICES "taken" (.ref q_CHOICES_4)
  w_CHOICES_4 : Rl.WT K q_CHOICES_4 [(.str "any"), (.str "same"), (.str "last")]
  q_CHOICES_5 : Addr
  k_CHOICES_5 : KDct K w a_CHOICES "sending" (.ref q_CHOICES_5)
  w_CHOICES_5 : Rl.WT K q_CHOICES_5 [(.str "bar"), (.str "wait"), (.str "go")]
  f_Rule_with_part : Addr
  d_Rule_with_part : FuncData
  F_Rule_with_part : Fun K "with_part" "Rule.with_part" s_Rule_with_part f_Rule_with_part d_Rule_with_part
  b_Rule_with_part : Binds K d_Rule_with_part ["self", "part", "value"] []
  m_Rule_with_part : Meth K C_Rule "with_part" f_Rule_with_part
  C_InvalidRule : Addr
  g_InvalidRule : mg "InvalidRule" = some (.ref C_InvalidRule)
  x_InvalidRule : XCls K C_InvalidRule
  f_InvalidRule_init : Addr
  d_InvalidRule_init : FuncData
  F_InvalidRule_init : Fun K "__init__" "InvalidRule.__init__" s_InvalidRule_init f_InvalidRule_init d_InvalidRule_init
  b_InvalidRule_init : Binds K d_InvalidRule_init ["self", "part"] []
  i_InvalidRule : PySem.W.findIn K (.ref C_InvalidRule) "__init__" = some (some (.ref f_InvalidRule_init))
  t_InvalidRule : PySem.W.typeIn K (.ref f_InvalidRule_init) = some (.type "function")
  n_InvalidRule0 : PySem.W.findIn K (.ref C_InvalidRule) "part" = some none
  n_InvalidRule_part : PySem.W.findIn K (.ref C_InvalidRule) "part" = some none
  CS : Addr
  g_ShownError : mg "ShownError" = some (.ref CS)
  km_InvalidRule_ShownError : PySem.W.kitOne K (.ref C_InvalidRule) (.ref CS) = some true
  xm_InvalidRule_InvalidRule : PySem.W.exmOne K (.ref C_InvalidRule) (.ref C_InvalidRule) = some true
abbrev Txt.isinstance {w : World} {K : PySem.W.Frag} {mg : Str → Option Value} (T : Txt w K mg) : mg "isinstance" = none := T.B.isi
abbrev Txt.len {w : World} {K : PySem.W.Frag} {mg : Str → Option Value} (T : Txt w K mg) : mg "len" = none := T.B.len
abbrev Txt.range {w : World} {K : PySem.W.Frag} {mg : Str → Option Value} (T : Txt w K mg) : mg "range" = none := T.B.range
abbrev Txt.all {w : World} {K : PySem.W.Frag} {mg : Str → Option Value} (T : Txt w K mg) : mg "all" = none := T.B.all
abbrev Txt.str_ {w : World} {K : PySem.W.Frag} {mg : Str → Option Value} (T : Txt w K mg) : mg "str" = none := T.B.str
abbrev Txt.int_ {w : World} {K : PySem.W.Frag} {mg : Str → Option Value} (T : Txt w K mg) : mg "int" = none := T.B.int
abbrev Txt.bool_ {w : World} {K : PySem.W.Frag} {mg : Str → Option Value} (T : Txt w K mg) : mg "bool" = none := T.B.bool
abbrev Txt.tuple_ {w : World} {K : PySem.W.Frag} {mg : Str → Option Value} (T : Txt w K mg) : mg "tuple" = none := T.B.tuple
abbrev Txt.list_ {w : World} {K : PySem.W.Frag} {mg : Str → Option Value} (T : Txt w K mg) : mg "list" = none := T.B.list
end Wn


namespace Wn
open PySem PySem.Spec PyProof.Rows L2
def xfa0 : List (He.Fa) := [.glo "is_name",
  .glo "has_items",
  .glo "are_names",
  .glo "are_pairs",
  .glo "is_allowed",
  .glo "wrong_part",
  .glo "_law_mix",
  .glo "_law_box",
  .glo "_law_draw",
  .glo "_law_same",
  .glo "_law_fits",
  .glo "_law_six",
  .glo "_law_told",
  .glo "Rule",
  .cls "Rule",
  .noat "Rule" "opens",
  .noat "Rule" "checks",
  .noat "Rule" "around",
  .noat "Rule" "wipes",
  .noat "Rule" "taken",
  .noat "Rule" "sending",
  .mkr "Rule",
  .glo "PARTS",
  .glo "CHOICES",
  .meth "Rule" "with_part"]
def xfa1 : List (He.Fa) := [.free "set",
  .free "zip",
  .free "sorted",
  .glo "InvalidRule",
  .meth "InvalidRule" "__init__",
  .noat "InvalidRule" "part",
  .glo "ShownError",
  .exm "InvalidRule" "InvalidRule" true,
  .free "isinstance",
  .free "tuple",
  .free "list",
  .free "len",
  .free "all",
  .free "range",
  .free "bool",
  .free "int",
  .free "str",
  .glo "law"]
def xfa : List (He.Fa) := xfa0 ++ xfa1
def dd0 : He.DefD := ⟨("is_name", none), "is_name", "is_name", defArgs s_is_name, defBody s_is_name, defScope s_is_name, [], []⟩
def dd1 : He.DefD := ⟨("has_items", none), "has_items", "has_items", defArgs s_has_items, defBody s_has_items, defScope s_has_items, [], []⟩
def dd2 : He.DefD := ⟨("are_names", none), "are_names", "are_names", defArgs s_are_names, defBody s_are_names, defScope s_are_names, [], []⟩
def dd3 : He.DefD := ⟨("are_pairs", none), "are_pairs", "are_pairs", defArgs s_are_pairs, defBody s_are_pairs, defScope s_are_pairs, [], []⟩
def dd4 : He.DefD := ⟨("is_allowed", none), "is_allowed", "is_allowed", defArgs s_is_allowed, defBody s_is_allowed, defScope s_is_allowed, [], []⟩
def dd5 : He.DefD := ⟨("wrong_part", none), "wrong_part", "wrong_part", defArgs s_wrong_part_rules, defBody s_wrong_part_rules, defScope s_wrong_part_rules, [], []⟩
def dd6 : He.DefD := ⟨("_law_mix", none), "_law_mix", "_law_mix", defArgs sMix, defBody sMix, defScope sMix, [], []⟩
def dd7 : He.DefD := ⟨("_law_box", none), "_law_box", "_law_box", defArgs sBox, defBody sBox, defScope sBox, [], []⟩
def dd8 : He.DefD := ⟨("_law_draw", none), "_law_draw", "_law_draw", defArgs sDraw, defBody sDraw, defScope sDraw, [], []⟩
def dd9 : He.DefD := ⟨("_law_same", none), "_law_same", "_law_same", defArgs sSame, defBody sSame, defScope sSame, [], []⟩
def dd10 : He.DefD := ⟨("_law_fits", none), "_law_fits", "_law_fits", defArgs s_L_fits, defBody s_L_fits, defScope s_L_fits, [], []⟩
def dd11 : He.DefD := ⟨("_law_six", none), "_law_six", "_law_six", defArgs s_L_six, defBody s_L_six, defScope s_L_six, [], []⟩
def dd12 : He.DefD := ⟨("_law_told", none), "_law_told", "_law_told", defArgs s_L_told, defBody s_L_told, defScope s_L_told, [], []⟩
def dd13 : He.DefD := ⟨("law", none), "law", "law", defArgs s_law, defBody s_law, defScope s_law, [], []⟩
def dd14 : He.DefD := ⟨("Rule", some "__init__"), "__init__", "Rule.__init__", defArgs s_Rule_init, defBody s_Rule_init, defScope s_Rule_init, [], [("wipes", .bl false), ("taken", .str "same"), ("sending", .str "wait")]⟩
def dd15 : He.DefD := ⟨("Rule", some "with_part"), "with_part", "Rule.with_part", defArgs s_Rule_with_part, defBody s_Rule_with_part, defScope s_Rule_with_part, [], []⟩
def dd16 : He.DefD := ⟨("InvalidRule", some "__init__"), "__init__", "InvalidRule.__init__", defArgs s_InvalidRule_init, defBody s_InvalidRule_init, defScope s_InvalidRule_init, [], []⟩
def xfn0 : List (He.DefD) := [dd0,
  dd1,
  dd2,
  dd3,
  dd4,
  dd5,
  dd6,
  dd7,
  dd8,
  dd9,
  dd10,
  dd11,
  dd12,
  dd13,
  dd14,
  dd15,
  dd16]
def xfn : List (He.DefD) := xfn0
def tt0 : He.Tab := ((fun K => He.ga K "CHOICES"), ["opens", "checks", "around", "wipes", "taken", "sending"])
def xts : List He.Tab := [tt0]
def xex0 : List (PySem.W.Frag → Bool) := [fun K => Hx.wtB K (He.ga K "PARTS") [.str "opens", .str "checks", .str "around", .str "wipes", .str "taken", .str "sending"],
  fun K => Hx.entB K "CHOICES" "opens" (.ref (Hx.ka K "CHOICES" "opens")),
  fun K => Hx.wtB K (Hx.ka K "CHOICES" "opens") [.str "enter", .str "leave", .str "send"],
  fun K => Hx.entB K "CHOICES" "checks" (.ref (Hx.ka K "CHOICES" "checks")),
  fun K => Hx.wtB K (Hx.ka K "CHOICES" "checks") [.str "enter", .str "leave"],
  fun K => Hx.entB K "CHOICES" "around" (.ref (Hx.ka K "CHOICES" "around")),
  fun K => Hx.wtB K (Hx.ka K "CHOICES" "around") [.str "own", .str "looks"],
  fun K => Hx.entB K "CHOICES" "wipes" (.ref (Hx.ka K "CHOICES" "wipes")),
  fun K => Hx.wtB K (Hx.ka K "CHOICES" "wipes") [.bl false, .bl true],
  fun K => Hx.entB K "CHOICES" "taken" (.ref (Hx.ka K "CHOICES" "taken")),
  fun K => Hx.wtB K (Hx.ka K "CHOICES" "taken") [.str "any", .str "same", .str "last"],
  fun K => Hx.entB K "CHOICES" "sending" (.ref (Hx.ka K "CHOICES" "sending")),
  fun K => Hx.wtB K (Hx.ka K "CHOICES" "sending") [.str "bar", .str "wait", .str "go"],
  fun K => Hx.xB K (He.ga K "InvalidRule"),
  fun K => Hx.inB K "InvalidRule",
  fun K => Hx.kitB K "InvalidRule" "ShownError" true]
def xex : List (PySem.W.Frag → Bool) := xex0
def xas : List Addr := [3, 6, 4, 21, 31, 51, 58, 65, 70, 71, 72, 125, 136, 143, 148, 153, 160, 165, 172, 177, 184, 191, 198, 205, 0, 20, 30, 50, 57, 64, 69, 73, 74, 75, 76, 77, 78, 124, 135, 142, 147, 152, 159, 164, 171, 176, 183, 190, 197, 204, 15, 16, 17, 18, 19, 29, 32, 48, 49, 54, 55, 56, 59, 60, 61, 62, 63, 66, 67, 68, 93, 100, 107, 112, 121, 123, 126, 127, 130, 131, 132, 133, 134, 137, 138, 139, 140, 141, 144, 145, 146, 149, 150, 151, 154, 155, 156, 157, 158, 161, 162, 163, 166, 167, 168, 169, 170, 173, 174, 175, 178, 179, 180, 181, 182, 185, 186, 187, 188, 189, 192, 193, 194, 195, 196, 199, 200, 201, 202, 203, 47, 92, 86, 99, 106, 111, 120, 119, 42, 43, 44, 45, 46, 87, 88, 89, 90, 91, 94, 95, 96, 97, 98, 101, 102, 103, 104, 105, 108, 109, 110, 122, 118]
abbrev xhk : PySem.W.Hook := Hx.hookA xas xfa xfn xts (Hx.allB xex)
def xob (s : PySem.W.SharedT) : He.AlX := Hx.obsA xas xfa xfn xts (Hx.allB xex) (HandSHeadRun.getT s)
theorem xob_eq (s : PySem.W.SharedT) : xob s = xhk.obs s.abs := Hx.obsA_eq (HandSHeadRun.getT_eq s)
abbrev xR : PySem.W.OpenRow := PySem.W.OpenLaw.row PySem.Challenge.rw_wrongshown_k08_rule_with_part
def xloose : List PySem.Str := (["_wall", "__name__", "ShownError", "InvalidRule", "is_name", "has_items", "are_names", "PARTS", "CHOICES", "Rule", "wrong_part", "is_allowed", "are_pairs", "around_word", "_law_mix", "_law_box", "_law_draw", "_law_same", "_law_fits", "_law_six", "_law_told"] : List PySem.Str)
set_option maxHeartbeats 0 in
theorem xFL (w : World) (os : OsState) : (HandSHeadRun.endF (HandSHeadRun.stepQ (HandSHeadRun.denQ HandSHeadRun.tabQ) (PySem.W.OpenRow.toRowW xR).prog (w.withFollow "special-get-raises" false)) 9000 (PySem.W.OpenRow.toRowW xR).prog (w.withFollow "special-get-raises" false) os).map (fun s => HandSHeadRun.looksF (PySem.W.OpenRow.toRowW xR).prog (PySem.W.boot_heap (w.withFollow "special-get-raises" false).params) s.abs) = some (true) := by kernel_rfl
set_option maxHeartbeats 0 in
theorem xFS (w : World) (os : OsState) : (HandSHeadRun.endF (HandSHeadRun.stepQ (HandSHeadRun.denQ HandSHeadRun.tabQ) (PySem.W.OpenRow.toRowW xR).prog (w.withFollow "special-get-raises" false)) 9000 (PySem.W.OpenRow.toRowW xR).prog (w.withFollow "special-get-raises" false) os).map (fun s => HandSHeadRun.seenQ (PySem.W.view (PySem.W.OpenRow.toRowW xR).prog [24]) xloose (importedModules (PySem.W.OpenRow.toRowW xR).prog.main.body) (fun s => PySem.W.xlAt (PySem.W.view (PySem.W.OpenRow.toRowW xR).prog [24]) [] s && PySem.W.recOk (PySem.W.OpenRow.toRowW xR).records s) s.abs) = some (PySem.W.openGood (PySem.W.view (PySem.W.OpenRow.toRowW xR).prog [24]) xloose) := by kernel_rfl
set_option maxHeartbeats 0 in
theorem xFO (w : World) (os : OsState) : (HandSHeadRun.endF (HandSHeadRun.stepQ (HandSHeadRun.denQ HandSHeadRun.tabQ) (PySem.W.OpenRow.toRowW xR).prog (w.withFollow "special-get-raises" false)) 9000 (PySem.W.OpenRow.toRowW xR).prog (w.withFollow "special-get-raises" false) os).map (xob) = some (xhk.val (w.withFollow "special-get-raises" false)) := by kernel_rfl
theorem xrunF (w : World) : HandSHeadRun.RunEq xR (PySem.W.view xR.prog [24]) xhk xob 9000 xloose (w.withFollow "special-get-raises" false) := Hx.run_parts (r := xR) (fun os => xFL w os) (fun os => xFS w os) fun os => xFO w os
set_option maxHeartbeats 0 in
theorem xTL (w : World) (os : OsState) : (HandSHeadRun.endF (HandSHeadRun.stepQ (HandSHeadRun.denQ HandSHeadRun.tabQ) (PySem.W.OpenRow.toRowW xR).prog (w.withFollow "special-get-raises" true)) 9000 (PySem.W.OpenRow.toRowW xR).prog (w.withFollow "special-get-raises" true) os).map (fun s => HandSHeadRun.looksF (PySem.W.OpenRow.toRowW xR).prog (PySem.W.boot_heap (w.withFollow "special-get-raises" true).params) s.abs) = some (true) := by kernel_rfl
set_option maxHeartbeats 0 in
theorem xTS (w : World) (os : OsState) : (HandSHeadRun.endF (HandSHeadRun.stepQ (HandSHeadRun.denQ HandSHeadRun.tabQ) (PySem.W.OpenRow.toRowW xR).prog (w.withFollow "special-get-raises" true)) 9000 (PySem.W.OpenRow.toRowW xR).prog (w.withFollow "special-get-raises" true) os).map (fun s => HandSHeadRun.seenQ (PySem.W.view (PySem.W.OpenRow.toRowW xR).prog [24]) xloose (importedModules (PySem.W.OpenRow.toRowW xR).prog.main.body) (fun s => PySem.W.xlAt (PySem.W.view (PySem.W.OpenRow.toRowW xR).prog [24]) [] s && PySem.W.recOk (PySem.W.OpenRow.toRowW xR).records s) s.abs) = some (PySem.W.openGood (PySem.W.view (PySem.W.OpenRow.toRowW xR).prog [24]) xloose) := by kernel_rfl
set_option maxHeartbeats 0 in
theorem xTO (w : World) (os : OsState) : (HandSHeadRun.endF (HandSHeadRun.stepQ (HandSHeadRun.denQ HandSHeadRun.tabQ) (PySem.W.OpenRow.toRowW xR).prog (w.withFollow "special-get-raises" true)) 9000 (PySem.W.OpenRow.toRowW xR).prog (w.withFollow "special-get-raises" true) os).map (xob) = some (xhk.val (w.withFollow "special-get-raises" true)) := by kernel_rfl
theorem xrunT (w : World) : HandSHeadRun.RunEq xR (PySem.W.view xR.prog [24]) xhk xob 9000 xloose (w.withFollow "special-get-raises" true) := Hx.run_parts (r := xR) (fun os => xTL w os) (fun os => xTS w os) fun os => xTO w os
theorem xrun (w : World) : HandSHeadRun.RunEq xR (PySem.W.view xR.prog [24]) xhk xob 9000 xloose w :=
  PySem.W.byRow2 "special-get-raises" (P := fun w => HandSHeadRun.RunEq xR (PySem.W.view xR.prog [24]) xhk xob 9000 xloose w) xrunF xrunT w
end Wn


namespace Wn
open PySem PySem.Spec PyProof.Rows L2
theorem kb_plain {K : PySem.W.Frag} {fd : FuncData} {ps : List Str} {n : Nat} (b : Binds K fd ps []) (h : ps.length = n) : KBn K fd ps n [] (fun us _ => us) (fun vs _ => vs) :=
  ⟨fun s us ws X l1 l2 => by
    have := b s us X (by rw [List.append_nil, l1, h])
    rw [List.append_nil] at this
    exact this, fun r1 _ => r1⟩
theorem kb_Rule {K : PySem.W.Frag} {f : Addr} {fd : FuncData} (F : FunD K "__init__" "Rule.__init__" (defArgs s_Rule_init) (defBody s_Rule_init) (defScope s_Rule_init) [] [("wipes", .bl false), ("taken", .str "same"), ("sending", .str "wait")] f fd) :
    KBn K fd ["self", "opens", "checks", "around", "wipes", "taken", "sending"] 4 ["wipes", "taken", "sending"] (fun us ws => us ++ ws) (fun vs zs => vs ++ zs) := by
  obtain ⟨mv, h⟩ := F.kbinds0 (ps := ["self", "opens", "checks", "around", "wipes", "taken", "sending"]) 4 ["wipes", "taken", "sending"] [] (fun a m z => a ++ z) (by simp) (by simp) (fun r1 r2 r3 => r1.append r3)
    (fun D doc pm an cdv ct us mv ws l1 l2 l3 => by
      match us, mv, ws, l1, l2, l3 with
      | [a0, a1, a2, a3], [], [z0, z1, z2], _, _, _ => rfl)
  exact h
theorem kb0_Rule {K : PySem.W.Frag} {f : Addr} {fd : FuncData} (F : FunD K "__init__" "Rule.__init__" (defArgs s_Rule_init) (defBody s_Rule_init) (defScope s_Rule_init) [] [("wipes", .bl false), ("taken", .str "same"), ("sending", .str "wait")] f fd) :
    ∃ mv : List Value, KBn K fd ["self", "opens", "checks", "around", "wipes", "taken", "sending"] 4 [] (fun us ws => us ++ mv) (fun vs zs => vs ++ [.bl false, .str "same", .str "wait"]) := by
  obtain ⟨mv, h⟩ := F.kbinds0 (ps := ["self", "opens", "checks", "around", "wipes", "taken", "sending"]) 4 [] [("wipes", .bl false), ("taken", .str "same"), ("sending", .str "wait")] (fun a m z => a ++ m) (by simp) (by simp) (fun r1 r2 r3 => r1.append r2)
    (fun D doc pm an cdv ct us mv ws l1 l2 l3 => by
      match us, mv, ws, l1, l2, l3 with
      | [a0, a1, a2, a3], [d0, d1, d2], [], _, _, _ => exact ⟨_, _, _, _, _, _, rfl, rfl, _, _, _, _, _, _, rfl, rfl, _, _, _, _, _, _, rfl, rfl, rfl⟩)
  exact ⟨mv, h⟩
end Wn
namespace Rl
open PySem PySem.Spec PyProof.Rows L2 Wn
def _root_.Wn.Txt.gg {w : World} {K : PySem.W.Frag} {mg : Str → Option Value} (T : Txt w K mg) (bad : Option (Addr × Addr)) : G where
  K := K
  ct := fun c => match c with
    | _ => ⟨T.C_Rule, ["opens", "checks", "around", "wipes", "taken", "sending"]⟩
  im := [0]
  xt := fun c => match c with
    | _ => ⟨T.C_InvalidRule, ["part"]⟩
  bad := bad
theorem na_Rule {w : World} {K : PySem.W.Frag} {mg : Str → Option Value} (T : Txt w K mg) : ∀ f ∈ (["opens", "checks", "around", "wipes", "taken", "sending"] : List Str), NoAttr K T.C_Rule f := fun f hf => by
  simp only [List.mem_cons,List.not_mem_nil, or_false] at hf
  rcases hf with rfl | rfl | rfl | rfl | rfl | rfl
  · exact T.na_Rule_opens
  · exact T.na_Rule_checks
  · exact T.na_Rule_around
  · exact T.na_Rule_wipes
  · exact T.na_Rule_taken
  · exact T.na_Rule_sending
theorem _root_.Wn.Txt.r_PARTS {w : World} {K : PySem.W.Frag} {mg : Str → Option Value} (T : Txt w K mg) (bad : Option (Addr × Addr)) : Ever (T.gg bad) (.ref T.a_PARTS) (.tup [(.str "opens"), (.str "checks"), (.str "around"), (.str "wipes"), (.str "taken"), (.str "sending")]) := ever_tup T.w_PARTS fun _ => (.cons (.str _) (.cons (.str _) (.cons (.str _) (.cons (.str _) (.cons (.str _) (.cons (.str _) .nil))))))
abbrev tb_CHOICES : List (Str × U) := [("opens", (.tup [(.str "enter"), (.str "leave"), (.str "send")])), ("checks", (.tup [(.str "enter"), (.str "leave")])), ("around", (.tup [(.str "own"), (.str "looks")])), ("wipes", (.tup [(.bl false), (.bl true)])), ("taken", (.tup [(.str "any"), (.str "same"), (.str "last")])), ("sending", (.tup [(.str "bar"), (.str "wait"), (.str "go")]))]
theorem kd_CHOICES {w : World} {K : PySem.W.Frag} {mg : Str → Option Value} (T : Txt w K mg) (bad : Option (Addr × Addr)) : KdOk (T.gg bad) w T.a_CHOICES tb_CHOICES := (kd_cons T.k_CHOICES_0 (ever_tup T.w_CHOICES_0 fun _ => (.cons (.str _) (.cons (.str _) (.cons (.str _) .nil)))) (kd_cons T.k_CHOICES_1 (ever_tup T.w_CHOICES_1 fun _ => (.cons (.str _) (.cons (.str _) .nil))) (kd_cons T.k_CHOICES_2 (ever_tup T.w_CHOICES_2 fun _ => (.cons (.str _) (.cons (.str _) .nil))) (kd_cons T.k_CHOICES_3 (ever_tup T.w_CHOICES_3 fun _ => (.cons (.bl _) (.cons (.bl _) .nil))) (kd_cons T.k_CHOICES_4 (ever_tup T.w_CHOICES_4 fun _ => (.cons (.str _) (.cons (.str _) (.cons (.str _) .nil)))) (kd_cons T.k_CHOICES_5 (ever_tup T.w_CHOICES_5 fun _ => (.cons (.str _) (.cons (.str _) (.cons (.str _) .nil)))) kd_nil))))))
theorem hg_pl {g : G} {n k : Nat} (e : n + 1 = k) : ∀ H v vs zs us ws, RUs g H vs us → RUs g H zs ws → us.length = n → ws.length = 0 → ∃ vs' : List V, (v :: vs : List V) = v :: vs' ∧ RUs g H vs' us ∧ us.length + 1 = k := fun H v vs zs us ws a b c d => ⟨vs, rfl, a, by rw [c]; exact e⟩
theorem _root_.Wn.Txt.gok {w : World} {K : PySem.W.Frag} {mg : Str → Option Value} (T : Txt w K mg) (bad : Option (Addr × Addr)) : GOk (T.gg bad) where
  cls := fun _ _ => T.cl_Rule
  na := fun _ _ => na_Rule T
  nd := fun _ _ => by show (["opens", "checks", "around", "wipes", "taken", "sending"] : List Str).Nodup; decide
theorem _root_.Wn.Txt.own_Rule {w : World} {K : PySem.W.Frag} {mg : Str → Option Value} (T : Txt w K mg) (bad : Option (Addr × Addr)) : Own (T.gg bad) 0 where
  cls := T.cl_Rule
  na := na_Rule T
  nd := by show (["opens", "checks", "around", "wipes", "taken", "sending"] : List Str).Nodup; decide
  sh := by show 6 < 1000; decide
  st := fun c h e => by
    have h : c ∈ [0] := h
    simp only [List.mem_cons,List.not_mem_nil, or_false] at h
    rcases h with rfl
    · rfl
theorem _root_.Wn.Txt.mk_Rule {w : World} {K : PySem.W.Frag} {mg : Str → Option Value} (T : Txt w K mg) (bad : Option (Addr × Addr)) : MkOk (T.gg bad) 0 6 true := ⟨rfl, by decide, fun h => by simp [Wn.Txt.gg]⟩
theorem _root_.Wn.Txt.xok {w : World} {K : PySem.W.Frag} {mg : Str → Option Value} (T : Txt w K mg) (bad : Option (Addr × Addr)) : XOk (T.gg bad) [0] := fun k hk k' hk' => by
  cases List.mem_singleton.mp hk
  cases List.mem_singleton.mp hk'
  exact T.xm_InvalidRule_InvalidRule
theorem hg_def0_Rule {g : G} {n k : Nat} (e : n + 3 + 1 = k) : ∀ H v vs zs us ws, RUs g H vs us → RUs g H zs ws → us.length = n → ws.length = 0 → ∃ vs' : List V, (v :: vs : List V) ++ [.bl false, .str "same", .str "wait"] = v :: vs' ∧ RUs g H vs' (us ++ [.bl false, .str "same", .str "wait"]) ∧ (us ++ [.bl false, .str "same", .str "wait"] : List U).length + 1 = k := fun H v vs zs us ws a b c d => ⟨vs ++ [.bl false, .str "same", .str "wait"], rfl, a.append (.cons (.bl _) (.cons (.str _) (.cons (.str _) .nil))), by rw [List.length_append, c]; exact e⟩
theorem hg_app {g : G} {n m k : Nat} (e : n + m + 1 = k) : ∀ H v vs zs us ws, RUs g H vs us → RUs g H zs ws → us.length = n → ws.length = m → ∃ vs' : List V, (v :: vs : List V) ++ zs = v :: vs' ∧ RUs g H vs' (us ++ ws) ∧ (us ++ ws : List U).length + 1 = k := fun H v vs zs us ws a b c d => ⟨vs ++ zs, rfl, a.append b, by rw [List.length_append, c, d, e]⟩
section
variable {P : Program} {w : World} {K : PySem.W.Frag} {mg : Str → Option Value} {base : Heap}
noncomputable def B_is_name : PSt := (pSeq (pIfS (pOr (pNot (pTru (pFn fIsi (pCons (pVar 0) (pCons (pC (.ty "str")) pNil))))) (pNot (pTs (pCh pLe pLe (pC (.int 1)) (pFn fLen (pCons (pVar 0) pNil)) (pC (.int 8)))))) (pRet (pC (.bl false))) pSkip) (pRet (pFn fAll (pCons (pLC strR (.nm 1) pYes (pCh pLeS pLeS (pC (.str "a")) (pVar 1) (pC (.str "z"))) [1] (pVar 0)) pNil))))
noncomputable def F_is_name : List U → Res R := runF B_is_name 1
theorem rk_is_name (T : Txt w K mg) (bad : Option (Addr × Addr)) : FnOk P w K mg base (L2.CX P w) 1 T.f_is_name T.d_is_name ["value"] (spF (T.gg bad) 1 F_is_name) :=
  fn_ok (g := T.gg bad) (k := 0) (n := 1) (m := 1) (body := B_is_name) T.F_is_name sc_is_name rfl rfl fun cdv A outer s H E hr =>
    (us_cons (us_if (PW.pt (uw_or (ut_not (ue_tt (ue_fn snd_isi (pe_callB (call_isiK' rfl) (by rfl) T.isinstance boot_isinstance (ua_cons (ue_var (pv 0)) (ua_cons (ue_c (pe_bltn (v := .ty "str") (by rfl) T.str_ (by decide +kernel) rfl) fun _ => .ty _) ua_nil)))) (by intro _; rfl) rfl)) (pw_or1 (ut_not (ut_ch snd_le snd_le (pt_chain op_le op_le (ue_c pe_int fun _ => .int _) (ue_fn snd_len (pe_callB (cl_len rfl) (by rfl) T.len PySem.boot_len (ua_cons (ue_var (pv 0)) ua_nil))) (ue_c pe_int fun _ => .int _))))))) (us_one (us_ret (ps_ret (ue_c pe_bl fun _ => .bl _)))) us_nil) (us_one (us_ret (ps_ret (ue_fn snd_all (pe_callB (cr_allK rfl rfl) (by rfl) T.all boot_all (ua_cons (ue_lcS (by decide) (by exact fun p m => nomatch m) (pe_lc (own := [("letter", 1)]) rfl sc_is_name.nd (pi_str (ue_var (pv 0))) (blkOk_by (N := ["value", "letter"]) (sc := defScope s_is_name) (by decide +kernel)) (fun _ _ _ _ _ => (ug_nm (fun p m => nomatch m) (pg_name (i := 1) sc_is_name.nd rfl (Or.inl rfl)))) (fun _ _ _ _ _ => ut_yes) (fun _ _ _ _ _ => (ue_chE snd_leS snd_leS (pe_chain op_le_str op_le_str (ue_c pe_str fun _ => .str _) (ue_var (pv 1)) (ue_c pe_str fun _ => .str _)))))) ua_nil)))))))
noncomputable def B_has_items : PSt := (pRet (pB (pAnd (pTs (pFn fIsi (pCons (pVar 0) (pCons (pC (.ty "tuple")) pNil)))) (pTs (pOp (pEq false) (pFn fLen (pCons (pVar 0) pNil)) (pVar 1))))))
noncomputable def F_has_items : List U → Res R := runF B_has_items 0
theorem rk_has_items (T : Txt w K mg) (bad : Option (Addr × Addr)) : FnOk P w K mg base (L2.CX P w) 2 T.f_has_items T.d_has_items ["value", "count"] (spF (T.gg bad) 2 F_has_items) :=
  fn_ok (g := T.gg bad) (k := 1) (n := 2) (m := 0) (body := B_has_items) T.F_has_items sc_has_items rfl rfl fun cdv A outer s H E hr =>
    (us_one (us_ret (ps_ret (ue_and (ue_fn snd_isi (pe_callB (call_isiK' rfl) (by rfl) T.isinstance boot_isinstance (ua_cons (ue_var (pv 0)) (ua_cons (ue_c (pe_bltn (v := .ty "tuple") (by rfl) T.tuple_ (by decide +kernel) rfl) fun _ => .ty _) ua_nil)))) (ue_one (ue_cmp (op_eqU rfl (room65 hr)) snd_eq (ue_fn snd_len (pe_callB (cl_len rfl) (by rfl) T.len PySem.boot_len (ua_cons (ue_var (pv 0)) ua_nil))) (ue_var (pv 1)) (nomark _)))))))
noncomputable def B_are_names : PSt := (pRet (pB (pAnd (pTs (pFn fAll (pCons (pLC seqR (.nm 1) pYes (pFrz (pCall 1 F_is_name (pCons (pVar 1) pNil))) [1] (pVar 0)) pNil))) (pTs (pOp (pEq false) (pUn lenSetR (pVar 0)) (pFn fLen (pCons (pVar 0) pNil)))))))
noncomputable def F_are_names : List U → Res R := runF B_are_names 1
theorem rk_are_names (T : Txt w K mg) (bad : Option (Addr × Addr)) : FnOk P w K mg base (L2.CX P w) 2 T.f_are_names T.d_are_names ["values"] (spF (T.gg bad) 1 F_are_names) :=
  fn_ok (g := T.gg bad) (k := 1) (n := 1) (m := 1) (body := B_are_names) T.F_are_names sc_are_names rfl rfl fun cdv A outer s H E hr =>
    (us_one (us_ret (ps_ret (ue_and (ue_fn snd_all (pe_callB (cr_allK rfl rfl) (by rfl) T.all boot_all (ua_cons (ue_lcQ (by decide) (by exact fun p m => nomatch m) (pe_lc (own := [("value", 1)]) rfl sc_are_names.nd (pi_seq (K := (T.gg bad).K) rfl (ue_var (pv 0))) (blkOk_by (N := ["values", "value"]) (sc := defScope s_are_names) (by decide +kernel)) (fun _ _ _ _ _ => (ug_nm (fun p m => nomatch m) (pg_name (i := 1) sc_are_names.nd rfl (Or.inl rfl)))) (fun _ _ _ _ _ => ut_yes) (fun _ _ _ _ _ => (ue_frz (ue_call (pe_callS (rk_is_name T bad) (hr.mono (by decide)) (by rfl) T.g_is_name T.F_is_name.kp T.b_is_name (fun σ => passAt takes0 σ) (ua_cons (ue_var (pv 1)) ua_nil))))))) ua_nil))) (ue_one (ue_cmp (op_eqU rfl (room65 hr)) snd_eq (ue_lenSet (pe_lenSetK (K := (T.gg bad).K) rfl rfl (by rfl) T.len (by rfl) T.set (ue_var (pv 0)))) (ue_fn snd_len (pe_callB (cl_len rfl) (by rfl) T.len PySem.boot_len (ua_cons (ue_var (pv 0)) ua_nil))) (nomark _)))))))
noncomputable def B_are_pairs : PSt := (pSeq (pIfS (pNot (pTru (pFn fAll (pCons (pLC seqR (.nm 1) pYes (pB (pAnd (pTs (pCall 2 F_has_items (pCons (pVar 1) (pCons (pC (.int 2)) pNil)))) (pTs (pCall 1 F_are_names (pCons (pVar 1) pNil))))) [1] (pVar 0)) pNil)))) (pRet (pC (.bl false))) pSkip) (pRet (pOp (pEq false) (pUn lenSetTR (pVar 0)) (pFn fLen (pCons (pVar 0) pNil)))))
noncomputable def F_are_pairs : List U → Res R := runF B_are_pairs 1
theorem rk_are_pairs (T : Txt w K mg) (bad : Option (Addr × Addr)) : FnOk P w K mg base (L2.CX P w) 3 T.f_are_pairs T.d_are_pairs ["values"] (spF (T.gg bad) 1 F_are_pairs) :=
  fn_ok (g := T.gg bad) (k := 2) (n := 1) (m := 1) (body := B_are_pairs) T.F_are_pairs sc_are_pairs rfl rfl fun cdv A outer s H E hr =>
    (us_cons (us_if (ut_not (ue_tt (ue_fn snd_all (pe_callB (cr_allK rfl rfl) (by rfl) T.all boot_all (ua_cons (ue_lcQ (by decide) (by exact fun p m => nomatch m) (pe_lc (own := [("pair", 1)]) rfl sc_are_pairs.nd (pi_seq (K := (T.gg bad).K) rfl (ue_var (pv 0))) (blkOk_by (N := ["values", "pair"]) (sc := defScope s_are_pairs) (by decide +kernel)) (fun _ _ _ _ _ => (ug_nm (fun p m => nomatch m) (pg_name (i := 1) sc_are_pairs.nd rfl (Or.inl rfl)))) (fun _ _ _ _ _ => ut_yes) (fun _ _ _ _ _ => (ue_and (ue_call (pe_callS (rk_has_items T bad) (hr.mono (by decide)) (by rfl) T.g_has_items T.F_has_items.kp T.b_has_items (fun σ => passAt takes0 σ) (ua_cons (ue_var (pv 1)) (ua_cons (ue_c pe_int fun _ => .int _) ua_nil)))) (ue_one (ue_call (pe_callS (rk_are_names T bad) (hr.mono (by decide)) (by rfl) T.g_are_names T.F_are_names.kp T.b_are_names (fun σ => passAt takes0 σ) (ua_cons (ue_var (pv 1)) ua_nil)))))))) ua_nil))) (by intro _; rfl) rfl)) (us_one (us_ret (ps_ret (ue_c pe_bl fun _ => .bl _)))) us_nil) (us_one (us_ret (ps_ret (ue_cmp (op_eqU rfl (room65 hr)) snd_eq (ue_lenSetT (pe_lenSetT (K := (T.gg bad).K) rfl rfl (room65 hr) (by rfl) T.len (by rfl) T.set (ue_var (pv 0)))) (ue_fn snd_len (pe_callB (cl_len rfl) (by rfl) T.len PySem.boot_len (ua_cons (ue_var (pv 0)) ua_nil))) (nomark _))))))
noncomputable def B_is_allowed : PSt := (pSeq (pIfS (pAnd (pTs (pOp pEqX (pVar 0) (pC (.str "around")))) (pTru (pFn fIsi (pCons (pVar 1) (pCons (pC (.ty "tuple")) pNil))))) (pRet (pCall 1 F_are_pairs (pCons (pVar 1) pNil))) pSkip) (pSeq (pIfS (pTs (pOp pEqX (pVar 0) (pC (.str "wipes")))) (pRet (pFn fIsi (pCons (pVar 1) (pCons (pC (.ty "bool")) pNil)))) pSkip) (pRet (pOp (pInX false) (pVar 1) (pKd tb_CHOICES (pVar 0))))))
noncomputable def F_is_allowed : List U → Res R := runF B_is_allowed 0
theorem rk_is_allowed (T : Txt w K mg) (bad : Option (Addr × Addr)) : FnOk P w K mg base (L2.CX P w) 4 T.f_is_allowed T.d_is_allowed ["part", "value"] (spF (T.gg bad) 2 F_is_allowed) :=
  fn_ok (g := T.gg bad) (k := 3) (n := 2) (m := 0) (body := B_is_allowed) T.F_is_allowed sc_is_allowed rfl rfl fun cdv A outer s H E hr =>
    (us_cons (us_if (PW.pt (uw_and (ut_cmp (op_eqX rfl (room65 hr)) snd_eqX (ue_var (pv 0)) (ue_c pe_str fun _ => .str _) (nomark _)) (pw_and1 (ue_tt (ue_fn snd_isi (pe_callB (call_isiK' rfl) (by rfl) T.isinstance boot_isinstance (ua_cons (ue_var (pv 1)) (ua_cons (ue_c (pe_bltn (v := .ty "tuple") (by rfl) T.tuple_ (by decide +kernel) rfl) fun _ => .ty _) ua_nil)))) (by intro _; rfl) rfl)))) (us_one (us_ret (ps_ret (ue_call (pe_callS (rk_are_pairs T bad) (hr.mono (by decide)) (by rfl) T.g_are_pairs T.F_are_pairs.kp T.b_are_pairs (fun σ => passAt (takes_of rfl rfl rfl rfl) σ) (ua_cons (ue_var (pv 1)) ua_nil)))))) us_nil) (us_cons (us_if (ut_cmp (op_eqX rfl (room65 hr)) snd_eqX (ue_var (pv 0)) (ue_c pe_str fun _ => .str _) (nomark _)) (us_one (us_ret (ps_ret (ue_fn snd_isi (pe_callB (call_isiK' rfl) (by rfl) T.isinstance boot_isinstance (ua_cons (ue_var (pv 1)) (ua_cons (ue_c (pe_bltn (v := .ty "bool") (by rfl) T.bool_ (by decide +kernel) rfl) fun _ => .ty _) ua_nil))))))) us_nil) (us_one (us_ret (ps_ret (ue_cmp (op_inX rfl (room65 hr)) snd_inX (ue_var (pv 1)) (ue_kd (w := w) rfl rfl (kd_CHOICES T bad) (pe_globR (by rfl) T.g_CHOICES) (ue_var (pv 0)) (fun _ _ => rfl)) (by rfl)))))))
noncomputable def B_wrong_part_rules : PSt := (pSeq (pForW (pZip (pCons (pC (.tup [(.str "opens"), (.str "checks"), (.str "around"), (.str "wipes"), (.str "taken"), (.str "sending")])) (pCons (pVar 0) pNil))) [.nm 1, .nm 2] (pIfS (pNot (pTru (pCall 2 F_is_allowed (pCons (pVar 1) (pCons (pVar 2) pNil))))) (pRet (pVar 1)) pSkip)) (pRet (pC .non)))
noncomputable def F_wrong_part_rules : List U → Res R := runF B_wrong_part_rules 2
theorem rk_wrong_part_rules (T : Txt w K mg) (bad : Option (Addr × Addr)) : FnOk P w K mg base (L2.CX P w) 5 T.f_wrong_part_rules T.d_wrong_part_rules ["values"] (spF (T.gg bad) 1 F_wrong_part_rules) :=
  fn_ok (g := T.gg bad) (k := 4) (n := 1) (m := 2) (body := B_wrong_part_rules) T.F_wrong_part_rules sc_wrong_part_rules rfl rfl fun cdv A outer s H E hr =>
    (us_cons (us_forW (ps_for (passes_of rfl) rfl (ui_zip (RZ.pi_zipA (by rfl) T.zip (ua_cons (ue_c (pe_globR (by rfl) T.g_PARTS) (T.r_PARTS bad)) (ua_cons (ue_var (pv 0)) ua_nil)))) (ug_tpl (n := 2) rfl (pg_tupK rfl rfl (ugs_cons (pgs_cons (ug_nm (fun p m => nomatch m) (pg_name (i := 1) sc_wrong_part_rules.nd rfl (Or.inl rfl))) (ugs_cons (pgs_cons (ug_nm (fun p m => nomatch m) (pg_name (i := 2) sc_wrong_part_rules.nd rfl (Or.inl rfl))) ugs_nil)))))) (us_one (us_if (ut_not (ue_tt (ue_call (pe_callS (rk_is_allowed T bad) (hr.mono (by decide)) (by rfl) T.g_is_allowed T.F_is_allowed.kp T.b_is_allowed (fun σ => passAt (takes_of rfl rfl rfl rfl) σ) (ua_cons (ue_var (pv 1)) (ua_cons (ue_var (pv 2)) ua_nil)))) (by intro _; rfl) rfl)) (us_one (us_ret (ps_ret (ue_var (pv 1))))) us_nil)))) (us_one (us_ret (ps_ret (ue_c pe_non fun _ => .non)))))
end
end Rl
namespace Wn
open PySem PySem.Spec PyProof.Rows L2
section
variable {P : Program} {w : World} {K : PySem.W.Frag} {mg : Str → Option Value} {base : Heap}
theorem ok_InvalidRule_init (T : Txt w K mg) : FnOk P w K mg base CX0 1 T.f_InvalidRule_init T.d_InvalidRule_init ["self", "part"] (spE1 T.C_InvalidRule "part") := by
  refine T.F_InvalidRule_init.ok sc_InvalidRule_init (fun vs H Q E h => ?_) (fun cdv A outer s H vs Q E hr h => ?_)
  · obtain ⟨a, v, rfl, _⟩ := h
    rfl
  · obtain ⟨a, v, rfl, ha, q⟩ := h
    refine ⟨_, pss_one (ps_ost (pv 0) (pv 1)), ?_⟩
    exact ⟨v, rfl, .ref a, rfl, a, T.C_InvalidRule, rfl, T.x_InvalidRule.o, T.n_InvalidRule0, .inl ⟨ha, fun d nd ne => q d nd ne⟩⟩
end
end Wn
namespace Rl
open PySem PySem.Spec PyProof.Rows L2 Wn
section
variable {P : Program} {w : World} {K : PySem.W.Frag} {mg : Str → Option Value} {base : Heap}
noncomputable def B_Rule_init : PSt := (pSeq (pAsg 7 (pFrz (pCall 1 F_wrong_part_rules (pCons (pTup (pCons (pVar 1) (pCons (pVar 2) (pCons (pVar 3) (pCons (pVar 4) (pCons (pVar 5) (pCons (pVar 6) pNil))))))) pNil)))) (pSeq (pIfS (pTs (pOp (pIs true) (pVar 7) (pC .non))) (pRz 0 1 (pCons (pVar 7) pNil)) pSkip) (pSeq (pFld 0 0 0 (pVar 1)) (pSeq (pFld 0 1 0 (pVar 2)) (pSeq (pFld 0 2 0 (pIf (pTru (pFn fIsi (pCons (pVar 3) (pCons (pC (.ty "tuple")) pNil)))) (pFn fTup (pCons (pFn fSortP (pCons (pVar 3) pNil)) pNil)) (pVar 3))) (pSeq (pFld 0 3 0 (pVar 4)) (pSeq (pFld 0 4 0 (pVar 5)) (pFld 0 5 0 (pVar 6)))))))))
noncomputable def I_Rule : List U → Res (List O) := runI 0 B_Rule_init 1
theorem rk_Rule_init (T : Txt w K mg) (bad : Option (Addr × Addr)) : FnOk P w K mg base (L2.CX P w) 6 T.f_Rule_init T.d_Rule_init ["self", "opens", "checks", "around", "wipes", "taken", "sending"] (spI (T.gg bad) 0 7 I_Rule) :=
  init_okD (g := T.gg bad) (c := 0) (k := 5) (n := 7) (m := 1) (body := B_Rule_init) T.F_Rule_init sc_Rule_init rfl rfl fun cdv A outer s H E x hr =>
    (us_cons (us_asg (i := 7) (fun p m => by rw [List.mem_singleton.mp m]; show ¬ (0 = 7); decide) (ps_set (i := 7) sc_Rule_init.nd rfl (Or.inl rfl) (ue_frz (ue_call (pe_callS (rk_wrong_part_rules T bad) (hr.mono (by decide)) (by rfl) T.g_wrong_part_rules T.F_wrong_part_rules.kp T.b_wrong_part_rules (fun σ => passAt (takes_of rfl rfl rfl rfl) σ) (ua_cons (ue_tup (k := 0) (ua_cons (ue_var (pv 1)) (ua_cons (ue_var (pv 2)) (ua_cons (ue_var (pv 3)) (ua_cons (ue_var (pv 4)) (ua_cons (ue_var (pv 5)) (ua_cons (ue_var (pv 6)) ua_nil))))))) ua_nil)))))) (us_cons (us_if (ut_cmp op_notN snd_isnot (ue_var (pv 7)) (ue_c pe_non fun _ => .non) (nomark _)) (us_one (us_raise1 (c := 0) (f := "part") rfl (ps_raise rfl (takes_of rfl rfl rfl rfl) (pmk_oex T.x_InvalidRule.o T.i_InvalidRule T.t_InvalidRule (ok_InvalidRule_init T) (hr.mono (by decide)) T.b_InvalidRule_init .nil pass0 (by rfl) T.g_InvalidRule (ua_cons (ue_var (pv 7)) ua_nil))))) us_nil) (us_cons (us_fld (T.own_Rule bad) (j := 0) rfl (ps_fld (pv 0) (ue_var (pv 1)) (by rfl))) (us_cons (us_fld (T.own_Rule bad) (j := 1) rfl (ps_fld (pv 0) (ue_var (pv 2)) (by rfl))) (us_cons (us_fld (T.own_Rule bad) (j := 2) rfl (ps_fld (pv 0) (ue_if (ue_tt (ue_fn snd_isi (pe_callB (call_isiK' rfl) (by rfl) T.isinstance boot_isinstance (ua_cons (ue_var (pv 3)) (ua_cons (ue_c (pe_bltn (v := .ty "tuple") (by rfl) T.tuple_ (by decide +kernel) rfl) fun _ => .ty _) ua_nil)))) (by intro _; rfl) rfl) (ue_fn snd_tup (pe_callTy (cl_tup rfl) (by rfl) T.tuple_ (by decide +kernel) (ua_cons (ue_fn snd_sortP (pe_callB (cr_sortedQ rfl) (by rfl) T.sorted PyProof.Rows.boot_sorted (ua_cons (ue_var (pv 3)) ua_nil))) ua_nil))) (ue_var (pv 3))) (by rfl))) (us_cons (us_fld (T.own_Rule bad) (j := 3) rfl (ps_fld (pv 0) (ue_var (pv 4)) (by rfl))) (us_cons (us_fld (T.own_Rule bad) (j := 4) rfl (ps_fld (pv 0) (ue_var (pv 5)) (by rfl))) (us_one (us_fld (T.own_Rule bad) (j := 5) rfl (ps_fld (pv 0) (ue_var (pv 6)) (by rfl)))))))))))
noncomputable def B_Rule_with_part : PSt := (pSeq (pIfS (pTs (pOp (pInX true) (pVar 1) (pC (.tup [(.str "opens"), (.str "checks"), (.str "around"), (.str "wipes"), (.str "taken"), (.str "sending")])))) (pRz 0 1 (pCons (pVar 1) pNil)) pSkip) (pSeq (pAsg 3 (pTup (pCons (pUn (pAt [(0, 0)]) (pVar 0)) (pCons (pUn (pAt [(0, 1)]) (pVar 0)) (pCons (pUn (pAt [(0, 2)]) (pVar 0)) (pCons (pUn (pAt [(0, 3)]) (pVar 0)) (pCons (pUn (pAt [(0, 4)]) (pVar 0)) (pCons (pUn (pAt [(0, 5)]) (pVar 0)) pNil)))))))) (pSeq (pAsg 4 (pLCW [.nm 5, .nm 6] pYes (pIf (pTs (pOp pEqX (pVar 5) (pVar 1))) (pVar 2) (pVar 6)) [5, 6] (pZip (pCons (pC (.tup [(.str "opens"), (.str "checks"), (.str "around"), (.str "wipes"), (.str "taken"), (.str "sending")])) (pCons (pVar 3) pNil))))) (pSeq (pFz 4 (pAsgT (.ls [.nm 7, .nm 8, .nm 9, .nm 10, .nm 11, .nm 12]) (pVar 4))) (pRet (pMk true 0 6 3 3 (fun us ws => us ++ ws) I_Rule (pCons (pVar 7) (pCons (pVar 8) (pCons (pVar 9) pNil))) (pCons (pVar 10) (pCons (pVar 11) (pCons (pVar 12) pNil)))))))))
noncomputable def F_Rule_with_part : List U → Res R := runF B_Rule_with_part 10
theorem rk_Rule_with_part (T : Txt w K mg) (bad : Option (Addr × Addr)) : FnOk P w K mg base (L2.CX P w) 8 T.f_Rule_with_part T.d_Rule_with_part ["self", "part", "value"] (spF (T.gg bad) 3 F_Rule_with_part) :=
  fn_ok (g := T.gg bad) (k := 7) (n := 3) (m := 10) (body := B_Rule_with_part) T.F_Rule_with_part sc_Rule_with_part rfl rfl fun cdv A outer s H E hr =>
    (us_cons (us_if (ut_cmp (op_notinX rfl (room65 hr)) snd_inX (ue_var (pv 1)) (ue_c (pe_globR (by rfl) T.g_PARTS) (T.r_PARTS bad)) (by rfl)) (us_one (us_raise1 (c := 0) (f := "part") rfl (ps_raise rfl (takes_of rfl rfl rfl rfl) (pmk_oex T.x_InvalidRule.o T.i_InvalidRule T.t_InvalidRule (ok_InvalidRule_init T) (hr.mono (by decide)) T.b_InvalidRule_init .nil pass0 (by rfl) T.g_InvalidRule (ua_cons (ue_var (pv 1)) ua_nil))))) us_nil) (us_cons (us_asg (i := 3) (fun p m => nomatch m) (ps_set (i := 3) sc_Rule_with_part.nd rfl (Or.inl rfl) (ue_tup (k := 0) (ua_cons (ue_at (tb := [(0, 0)]) (T.gok bad) rfl (by intro p hp; simp only [List.mem_cons,List.not_mem_nil, or_false] at hp; rcases hp with rfl <;> rfl) (ue_var (pv 0)) rfl) (ua_cons (ue_at (tb := [(0, 1)]) (T.gok bad) rfl (by intro p hp; simp only [List.mem_cons,List.not_mem_nil, or_false] at hp; rcases hp with rfl <;> rfl) (ue_var (pv 0)) rfl) (ua_cons (ue_at (tb := [(0, 2)]) (T.gok bad) rfl (by intro p hp; simp only [List.mem_cons,List.not_mem_nil, or_false] at hp; rcases hp with rfl <;> rfl) (ue_var (pv 0)) rfl) (ua_cons (ue_at (tb := [(0, 3)]) (T.gok bad) rfl (by intro p hp; simp only [List.mem_cons,List.not_mem_nil, or_false] at hp; rcases hp with rfl <;> rfl) (ue_var (pv 0)) rfl) (ua_cons (ue_at (tb := [(0, 4)]) (T.gok bad) rfl (by intro p hp; simp only [List.mem_cons,List.not_mem_nil, or_false] at hp; rcases hp with rfl <;> rfl) (ue_var (pv 0)) rfl) (ua_cons (ue_at (tb := [(0, 5)]) (T.gok bad) rfl (by intro p hp; simp only [List.mem_cons,List.not_mem_nil, or_false] at hp; rcases hp with rfl <;> rfl) (ue_var (pv 0)) rfl) ua_nil))))))))) (us_cons (us_asgI (i := 4) (fun p m => nomatch m) (fun _ _ _ h => llcW (by decide) (by exact fun p m => nomatch m) h) (ps_setLc (i := 4) (own := [("own", 5), ("kept", 6)]) rfl sc_Rule_with_part.nd rfl rfl (sw_true rfl rfl rfl (by decide +kernel)) (ui_zip (RZ.pi_zipA (by rfl) T.zip (ua_cons (ue_c (pe_globR (by rfl) T.g_PARTS) (T.r_PARTS bad)) (ua_cons (ue_var (pv 3)) ua_nil)))) (blkOk_by (N := ["self", "part", "value", "held", "values", "own", "kept", "opens", "checks", "around", "wipes", "taken", "sending"]) (sc := defScope s_Rule_with_part) (by decide +kernel)) (fun _ _ _ _ _ => (ug_tpl (n := 2) rfl (pg_tupK rfl rfl (ugs_cons (pgs_cons (ug_nm (fun p m => nomatch m) (pg_name (i := 5) sc_Rule_with_part.nd rfl (Or.inl rfl))) (ugs_cons (pgs_cons (ug_nm (fun p m => nomatch m) (pg_name (i := 6) sc_Rule_with_part.nd rfl (Or.inl rfl))) ugs_nil))))))) (fun _ _ _ _ _ => ut_yes) (fun _ _ _ _ _ => (ue_if (ut_cmp (op_eqX rfl (room65 hr)) snd_eqX (ue_var (pv 5)) (ue_var (pv 1)) (nomark _)) (ue_var (pv 2)) (ue_var (pv 6)))))) (us_cons (us_fz (i := 4) (us_asgT (ps_asg (ue_var (pv 4)) (ug_ls (n := 6) rfl (pg_lstK rfl rfl (ugs_cons (pgs_cons (ug_nm (fun p m => nomatch m) (pg_name (i := 7) sc_Rule_with_part.nd rfl (Or.inl rfl))) (ugs_cons (pgs_cons (ug_nm (fun p m => nomatch m) (pg_name (i := 8) sc_Rule_with_part.nd rfl (Or.inl rfl))) (ugs_cons (pgs_cons (ug_nm (fun p m => nomatch m) (pg_name (i := 9) sc_Rule_with_part.nd rfl (Or.inl rfl))) (ugs_cons (pgs_cons (ug_nm (fun p m => nomatch m) (pg_name (i := 10) sc_Rule_with_part.nd rfl (Or.inl rfl))) (ugs_cons (pgs_cons (ug_nm (fun p m => nomatch m) (pg_name (i := 11) sc_Rule_with_part.nd rfl (Or.inl rfl))) (ugs_cons (pgs_cons (ug_nm (fun p m => nomatch m) (pg_name (i := 12) sc_Rule_with_part.nd rfl (Or.inl rfl))) ugs_nil))))))))))))))))) (us_one (us_ret (ps_ret (ue_mkS (im := true) (c := 0) (L := 6) (n := 3) (m := 3) (k := 7) (gU := (fun us ws => us ++ ws)) (T.mk_Rule bad) (hg_app (by rfl)) (pe_makeKS T.M_Rule (rk_Rule_init T bad) (hr.mono (by decide)) (by rfl) T.g_Rule (kb_Rule T.F_Rule_init) (fun σ => passAt (takes_of rfl rfl rfl rfl) σ) (ua_cons (ue_var (pv 7)) (ua_cons (ue_var (pv 8)) (ua_cons (ue_var (pv 9)) ua_nil))) (uk_cons (ue_var (pv 10)) (uk_cons (ue_var (pv 11)) (uk_cons (ue_var (pv 12)) uk_nil))))))))))))
end
end Rl
namespace Wn
end Wn


namespace Wn
open PySem PySem.Spec PyProof.Rows L2
end Wn
namespace Rl
open PySem PySem.Spec PyProof.Rows L2 Wn
section
variable {P : Program} {w : World} {K : PySem.W.Frag} {mg : Str → Option Value} {base : Heap}
noncomputable def B_L_fits : PSt := (pSeq (pIfS (pNot (pTru (pFn fIsi (pCons (pVar 0) (pCons (pC (.ty "str")) pNil))))) (pRet (pC (.bl false))) pSkip) (pSeq (pIfS (pTs (pOp (pEq false) (pVar 0) (pC (.str "wipes")))) (pRet (pFn fIsi (pCons (pVar 1) (pCons (pC (.ty "bool")) pNil)))) pSkip) (pSeq (pIfS (pAnd (pTs (pOp (pEq false) (pVar 0) (pC (.str "around")))) (pTru (pFn fIsi (pCons (pVar 1) (pCons (pC (.ty "tuple")) pNil))))) (pRet (pOp (pIn false) (pVar 1) (pTup (pCons (pTup pNil) (pCons (pTup (pCons (pTup (pCons (pC (.str "b")) (pCons (pC (.str "a")) pNil))) (pCons (pTup (pCons (pC (.str "a")) (pCons (pC (.str "b")) pNil))) pNil))) pNil))))) pSkip) (pDictR 2 [("opens", (pTup (pCons (pC (.str "enter")) (pCons (pC (.str "leave")) (pCons (pC (.str "send")) pNil))))), ("checks", (pTup (pCons (pC (.str "enter")) (pCons (pC (.str "leave")) pNil)))), ("around", (pTup (pCons (pC (.str "own")) (pCons (pC (.str "looks")) pNil)))), ("taken", (pTup (pCons (pC (.str "any")) (pCons (pC (.str "same")) (pCons (pC (.str "last")) pNil))))), ("sending", (pTup (pCons (pC (.str "bar")) (pCons (pC (.str "wait")) (pCons (pC (.str "go")) pNil)))))] fun dus => (pB (pAnd (pTs (pInDk ["opens", "checks", "around", "taken", "sending"] (pVar 0))) (pTs (pB (pAnd (pTs (pFn fIsi (pCons (pVar 1) (pCons (pC (.ty "str")) pNil)))) (pTs (pOp (pIn false) (pVar 1) (pIxDk ["opens", "checks", "around", "taken", "sending"] dus (pVar 0)))))))))))))
noncomputable def F_L_fits : List U → Res R := runF B_L_fits 1
theorem rk_L_fits (T : Txt w K mg) (bad : Option (Addr × Addr)) : FnOk P w K mg base (L2.CX P w) 2 T.f_L_fits T.d_L_fits ["_law_part", "_law_value"] (spF (T.gg bad) 2 F_L_fits) :=
  fn_ok (g := T.gg bad) (k := 1) (n := 2) (m := 1) (body := B_L_fits) T.F_L_fits sc_L_fits rfl rfl fun cdv A outer s H E hr =>
    (us_cons (us_if (ut_not (ue_tt (ue_fn snd_isi (pe_callB (call_isiK' rfl) (by rfl) T.isinstance boot_isinstance (ua_cons (ue_var (pv 0)) (ua_cons (ue_c (pe_bltn (v := .ty "str") (by rfl) T.str_ (by decide +kernel) rfl) fun _ => .ty _) ua_nil)))) (by intro _; rfl) rfl)) (us_one (us_ret (ps_ret (ue_c pe_bl fun _ => .bl _)))) us_nil) (us_cons (us_if (ut_cmp (op_eqU rfl (room65 hr)) snd_eq (ue_var (pv 0)) (ue_c pe_str fun _ => .str _) (nomark _)) (us_one (us_ret (ps_ret (ue_fn snd_isi (pe_callB (call_isiK' rfl) (by rfl) T.isinstance boot_isinstance (ua_cons (ue_var (pv 1)) (ua_cons (ue_c (pe_bltn (v := .ty "bool") (by rfl) T.bool_ (by decide +kernel) rfl) fun _ => .ty _) ua_nil))))))) us_nil) (us_cons (us_if (PW.pt (uw_and (ut_cmp (op_eqU rfl (room65 hr)) snd_eq (ue_var (pv 0)) (ue_c pe_str fun _ => .str _) (nomark _)) (pw_and1 (ue_tt (ue_fn snd_isi (pe_callB (call_isiK' rfl) (by rfl) T.isinstance boot_isinstance (ua_cons (ue_var (pv 1)) (ua_cons (ue_c (pe_bltn (v := .ty "tuple") (by rfl) T.tuple_ (by decide +kernel) rfl) fun _ => .ty _) ua_nil)))) (by intro _; rfl) rfl)))) (us_one (us_ret (ps_ret (ue_cmp (op_inU rfl (room65 hr)) snd_in (ue_var (pv 1)) (ue_tup (k := 0) (ua_cons (ue_tup (k := 0) ua_nil) (ua_cons (ue_tup (k := 0) (ua_cons (ue_tup (k := 0) (ua_cons (ue_c pe_str fun _ => .str _) (ua_cons (ue_c pe_str fun _ => .str _) ua_nil))) (ua_cons (ue_tup (k := 0) (ua_cons (ue_c pe_str fun _ => .str _) (ua_cons (ue_c pe_str fun _ => .str _) ua_nil))) ua_nil))) ua_nil))) (by rfl))))) us_nil) (us_dictR (l := [("opens", (pTup (pCons (pC (.str "enter")) (pCons (pC (.str "leave")) (pCons (pC (.str "send")) pNil))))), ("checks", (pTup (pCons (pC (.str "enter")) (pCons (pC (.str "leave")) pNil)))), ("around", (pTup (pCons (pC (.str "own")) (pCons (pC (.str "looks")) pNil)))), ("taken", (pTup (pCons (pC (.str "any")) (pCons (pC (.str "same")) (pCons (pC (.str "last")) pNil))))), ("sending", (pTup (pCons (pC (.str "bar")) (pCons (pC (.str "wait")) (pCons (pC (.str "go")) pNil)))))]) (i := 2) (fun p m => nomatch m) (by decide) (ps_set (i := 2) sc_L_fits.nd rfl (Or.inl rfl) (pe_disp (pps_cons pe_str (ue_tup (k := 0) (ua_cons (ue_c pe_str fun _ => .str _) (ua_cons (ue_c pe_str fun _ => .str _) (ua_cons (ue_c pe_str fun _ => .str _) ua_nil)))) (pps_cons pe_str (ue_tup (k := 0) (ua_cons (ue_c pe_str fun _ => .str _) (ua_cons (ue_c pe_str fun _ => .str _) ua_nil))) (pps_cons pe_str (ue_tup (k := 0) (ua_cons (ue_c pe_str fun _ => .str _) (ua_cons (ue_c pe_str fun _ => .str _) ua_nil))) (pps_cons pe_str (ue_tup (k := 0) (ua_cons (ue_c pe_str fun _ => .str _) (ua_cons (ue_c pe_str fun _ => .str _) (ua_cons (ue_c pe_str fun _ => .str _) ua_nil)))) (pps_cons pe_str (ue_tup (k := 0) (ua_cons (ue_c pe_str fun _ => .str _) (ua_cons (ue_c pe_str fun _ => .str _) (ua_cons (ue_c pe_str fun _ => .str _) ua_nil)))) pps_nil))))) rfl rfl (by simp) (by decide))) (fun _ dus hd => (ue_and (ue_inDk (units1 hr) hd (ue_var (pv 0)) (pv 2) (by rfl)) (ue_and (ue_fn snd_isi (pe_callB (call_isiK' rfl) (by rfl) T.isinstance boot_isinstance (ua_cons (ue_var (pv 1)) (ua_cons (ue_c (pe_bltn (v := .ty "str") (by rfl) T.str_ (by decide +kernel) rfl) fun _ => .ty _) ua_nil)))) (ue_one (ue_cmp (op_inU rfl (room65 hr)) snd_in (ue_var (pv 1)) (ue_ixDk (units1 hr) hd (pv 2) (ue_var (pv 0)) (fun _ _ => rfl)) (by rfl))))))))))
noncomputable def B_L_six : PSt := (pRet (pTup (pCons (pUn (pAt [(0, 0)]) (pVar 0)) (pCons (pUn (pAt [(0, 1)]) (pVar 0)) (pCons (pUn (pAt [(0, 2)]) (pVar 0)) (pCons (pUn (pAt [(0, 3)]) (pVar 0)) (pCons (pUn (pAt [(0, 4)]) (pVar 0)) (pCons (pUn (pAt [(0, 5)]) (pVar 0)) pNil))))))))
noncomputable def F_L_six : List U → Res R := runF B_L_six 0
theorem rk_L_six (T : Txt w K mg) (bad : Option (Addr × Addr)) : FnOk P w K mg base (L2.CX P w) 1 T.f_L_six T.d_L_six ["_law_rule"] (spF (T.gg bad) 1 F_L_six) :=
  fn_ok (g := T.gg bad) (k := 0) (n := 1) (m := 0) (body := B_L_six) T.F_L_six sc_L_six rfl rfl fun cdv A outer s H E hr =>
    (us_one (us_ret (ps_ret (ue_tup (k := 0) (ua_cons (ue_at (tb := [(0, 0)]) (T.gok bad) rfl (by intro p hp; simp only [List.mem_cons,List.not_mem_nil, or_false] at hp; rcases hp with rfl <;> rfl) (ue_var (pv 0)) rfl) (ua_cons (ue_at (tb := [(0, 1)]) (T.gok bad) rfl (by intro p hp; simp only [List.mem_cons,List.not_mem_nil, or_false] at hp; rcases hp with rfl <;> rfl) (ue_var (pv 0)) rfl) (ua_cons (ue_at (tb := [(0, 2)]) (T.gok bad) rfl (by intro p hp; simp only [List.mem_cons,List.not_mem_nil, or_false] at hp; rcases hp with rfl <;> rfl) (ue_var (pv 0)) rfl) (ua_cons (ue_at (tb := [(0, 3)]) (T.gok bad) rfl (by intro p hp; simp only [List.mem_cons,List.not_mem_nil, or_false] at hp; rcases hp with rfl <;> rfl) (ue_var (pv 0)) rfl) (ua_cons (ue_at (tb := [(0, 4)]) (T.gok bad) rfl (by intro p hp; simp only [List.mem_cons,List.not_mem_nil, or_false] at hp; rcases hp with rfl <;> rfl) (ue_var (pv 0)) rfl) (ua_cons (ue_at (tb := [(0, 5)]) (T.gok bad) rfl (by intro p hp; simp only [List.mem_cons,List.not_mem_nil, or_false] at hp; rcases hp with rfl <;> rfl) (ue_var (pv 0)) rfl) ua_nil))))))))))
noncomputable def B_L_told : PSt := (pSeq (pTry [0] (pAsg 4 (pFrz (pMeth 0 3 F_Rule_with_part (pVar 0) (pCons (pVar 1) (pCons (pVar 2) pNil))))) [(0, 3, (ph1 fun u0 => (pRet (pTup (pCons (pC (.str "refused")) (pCons (pC u0) pNil))))))]) (pRet (pTup (pCons (pC (.str "rule")) (pCons (pFrz (pCall 1 F_L_six (pCons (pVar 4) pNil))) pNil)))))
noncomputable def F_L_told : List U → Res R := runF B_L_told 2
theorem rk_L_told (T : Txt w K mg) (bad : Option (Addr × Addr)) : FnOk P w K mg base (L2.CX P w) 9 T.f_L_told T.d_L_told ["_law_rule", "_law_part", "_law_value"] (spF (T.gg bad) 3 F_L_told) :=
  fn_ok (g := T.gg bad) (k := 8) (n := 3) (m := 2) (body := B_L_told) T.F_L_told sc_L_told rfl rfl fun cdv A outer s H E hr =>
    (us_cons (us_tryA (l := [(0, 3, (ph1 fun u0 => (pRet (pTup (pCons (pC (.str "refused")) (pCons (pC u0) pNil))))))]) (ks := [0]) rfl (T.xok bad) (by intro p hp; refine ⟨?_, fun q m => nomatch m⟩; simp only [List.mem_cons,List.not_mem_nil, or_false] at hp; rcases hp with rfl <;> simp) rfl rfl sc_L_told.nd (takes_of rfl rfl rfl rfl) (fun W pn xe tk _ => (u1_one (u1_asg (i := 4) (fun p m => nomatch m) (ps_set (i := 4) sc_L_told.nd rfl (Or.inl rfl) (ue_frz (ue_methX (k := 0) (by show ¬ (("with_part" : Str) ∈ (["opens", "checks", "around", "wipes", "taken", "sending"] : List Str)); decide +kernel) (pe_methX (ue_var (pv 0)) T.cl_Rule T.m_Rule_with_part (rk_Rule_with_part T bad) (hr.mono (by decide)) T.b_Rule_with_part (fun σ => passAt tk σ) (ua_cons (ue_var (pv 1)) (ua_cons (ue_var (pv 2)) ua_nil))))))))) (HdsA.cons (i := 3) rfl rfl ⟨rfl, by decide, Or.inl T.g_InvalidRule⟩ (fun a oe cls d pn hz hf => uh1 fun dd u0 hc hd => (us_one (us_ret (ps_ret (ue_tup (k := 0) (ua_cons (ue_c pe_str fun _ => .str _) (ua_cons (ue_err (k := 0) (j := 0) (u := u0) rfl (by show (["part"] : List Str).Nodup; decide) rfl hc hd (pe_xf ⟨T.x_InvalidRule.c.hg, T.x_InvalidRule.c.hk, T.x_InvalidRule.c.hs, T.x_InvalidRule.c.hd⟩ T.n_InvalidRule_part hz hf (pv 3))) ua_nil))))))) HdsA.nil)) (us_one (us_ret (ps_ret (ue_tup (k := 0) (ua_cons (ue_c pe_str fun _ => .str _) (ua_cons (ue_frz (ue_call (pe_callS (rk_L_six T bad) (hr.mono (by decide)) (by rfl) T.g_L_six T.F_L_six.kp T.b_L_six (fun σ => passAt (takes_of rfl rfl rfl rfl) σ) (ua_cons (ue_var (pv 4)) ua_nil)))) ua_nil)))))))
end
end Rl
namespace Wn
end Wn


namespace Wn
open PySem PySem.Spec PyProof.Rows L2
end Wn
namespace Rl
open PySem PySem.Spec PyProof.Rows L2 Wn
section
variable {P : Program} {w : World} {K : PySem.W.Frag} {mg : Str → Option Value} {base : Heap}
noncomputable def B_law : PSt := (pSeq (pAsg 2 (pTup (pCons (pC (.str "opens")) (pCons (pC (.str "checks")) (pCons (pC (.str "around")) (pCons (pC (.str "wipes")) (pCons (pC (.str "taken")) (pCons (pC (.str "sending")) pNil)))))))) (pSeq (pAsg 3 (pFrz (pOp pAdd (pVar 2) (pTup (pCons (pC (.str "")) (pCons (pC (.str "Opens")) (pCons (pC .non) (pCons (pC (.int 0)) (pCons (pFrz (pLst (pCons (pC (.str "taken")) pNil))) (pCons (pC (.bl true)) (pCons (pC (.str "room")) pNil))))))))))) (pSeq (pAsg 4 (pLst (pCons (pC (.str "enter")) (pCons (pC (.str "leave")) (pCons (pC (.str "send")) (pCons (pC (.str "own")) (pCons (pC (.str "looks")) (pCons (pC (.str "any")) (pCons (pC (.str "same")) (pCons (pC (.str "last")) (pCons (pC (.str "bar")) (pCons (pC (.str "wait")) (pCons (pC (.str "go")) (pCons (pC (.bl true)) (pCons (pC (.bl false)) pNil))))))))))))))) (pSeq (pLs 4 fExt (pCons (pLst (pCons (pTup pNil) (pCons (pTup (pCons (pTup (pCons (pC (.str "b")) (pCons (pC (.str "a")) pNil))) (pCons (pTup (pCons (pC (.str "a")) (pCons (pC (.str "b")) pNil))) pNil))) (pCons (pTup (pCons (pTup (pCons (pC (.str "a")) (pCons (pC (.str "a")) pNil))) pNil)) (pCons (pLst (pCons (pTup (pCons (pC (.str "a")) (pCons (pC (.str "b")) pNil))) pNil)) (pCons (pC (.int 0)) (pCons (pC (.int 1)) (pCons (pC .non) (pCons (pC (.str "")) (pCons (pLst (pCons (pC (.str "own")) pNil)) (pCons (pC .emp) pNil))))))))))) pNil)) (pSeq (pAsg 5 (pFrz (pLst (pCons (pC (.str "leave")) (pCons (pC (.str "enter")) (pCons (pC (.str "looks")) (pCons (pC (.bl true)) (pCons (pC (.str "any")) (pCons (pC (.str "go")) pNil))))))))) (pSeq (pAsg 6 (pMk true 0 6 3 3 (fun us ws => us ++ ws) I_Rule (pCons (pC (.str "leave")) (pCons (pC (.str "enter")) (pCons (pC (.str "looks")) pNil))) (pCons (pC (.bl true)) (pCons (pC (.str "any")) (pCons (pC (.str "go")) pNil))))) (pSeq (pFz 4 (pForR (.nm 7) (pCons (pC (.int 14)) pNil) (pSeq (pAsg 8 (pOp pIx (pVar 3) (pDraw (pCons (pVar 1) (pCons (pOp pAdd (pC (.int 6)) (pOp pMul (pC (.int 7)) (pOp pMod (pVar 7) (pC (.int 2))))) pNil))))) (pSeq (pAsg 9 (pOp pIx (pVar 4) (pDraw (pCons (pVar 1) (pCons (pFn fLen (pCons (pVar 4) pNil)) pNil))))) (pSeq (pAsg 10 (pTup (pCons (pC (.str "refused")) (pCons (pVar 8) pNil)))) (pSeq (pAsg 11 (pFn fLst (pCons (pVar 5) pNil))) (pSeq (pIfS (pTru (pCall 2 F_L_fits (pCons (pVar 8) (pCons (pVar 9) pNil)))) (pSeq (pSetI 11 (pVar 9) (pTix (pVar 2) (pVar 8))) (pSeq (pIfS (pTru (pFn fIsi (pCons (pVar 9) (pCons (pC (.ty "tuple")) pNil)))) (pSetI 11 (pFn fTup (pCons (pFn fSortP (pCons (pVar 9) pNil)) pNil)) (pC (.int 2))) pSkip) (pAsg 10 (pTup (pCons (pC (.str "rule")) (pCons (pFn fTup (pCons (pVar 11) pNil)) pNil)))))) pSkip) (pSeq (pIfS (pOr (pNot (pTru (pFn (smR 12) (pCons (pFrz (pCall 3 F_L_told (pCons (pVar 6) (pCons (pVar 8) (pCons (pVar 9) pNil))))) (pCons (pVar 10) pNil))))) (pNot (pTru (pFn (smR 12) (pCons (pFrz (pCall 1 F_L_six (pCons (pVar 6) pNil))) (pCons (pFn fTup (pCons (pVar 5) pNil)) pNil)))))) (pRet (pC (.bl false))) pSkip) (pFz 11 (pIfS (pTs (pOp (pEq false) (pOp pIx (pVar 10) (pC (.int 0))) (pC (.str "rule")))) (pSeq (pAsg 6 (pFrz (pMeth 0 3 F_Rule_with_part (pVar 6) (pCons (pVar 8) (pCons (pVar 9) pNil))))) (pAsg 5 (pVar 11))) pSkip)))))))))) (pRet (pFn (smR 12) (pCons (pFrz (pCall 1 F_L_six (pCons (pVar 6) pNil))) (pCons (pFn fTup (pCons (pVar 5) pNil)) pNil)))))))))))
theorem rk_law (T : Txt w K mg) {f : Addr} {fd : FuncData} (F : Fun K "law" "law" s_law f fd) (hp : Says B_law 10) : FnOk P w K mg base CX0 14 f fd ["_law_script"] (spLaw K) := by
  refine F.ok sc_law (fun vs H Q E h => ?_) (fun cdv A outer s H vs Q E hr h => ?_)
  · obtain ⟨a, ns, rfl, _⟩ := h
    rfl
  · obtain ⟨a, ns, rfl, hS, h63, q⟩ := h
    refine ⟨_, pss_cons (ps_set (i := 1) sc_law.nd rfl (Or.inl rfl) (pe_call (ok_box T.F_L_box T.F_L_mix T.b_L_mix T.g_L_mix T.B.int) (hr.mono (by decide)) (by rfl) T.g_L_box T.F_L_box.kp T.b_L_box .nil (E := E0) pass0 (pa_cons (pv 0) pa_nil))) (us_boxA (gg := T.gg) fun H0 b c =>
      (us_cons (us_asg (i := 2) (fun p m => nomatch m) (ps_set (i := 2) sc_law.nd rfl (Or.inl rfl) (ue_tup (k := 0) (ua_cons (ue_c pe_str fun _ => .str _) (ua_cons (ue_c pe_str fun _ => .str _) (ua_cons (ue_c pe_str fun _ => .str _) (ua_cons (ue_c pe_str fun _ => .str _) (ua_cons (ue_c pe_str fun _ => .str _) (ua_cons (ue_c pe_str fun _ => .str _) ua_nil))))))))) (us_cons (us_asg (i := 3) (fun p m => nomatch m) (ps_set (i := 3) sc_law.nd rfl (Or.inl rfl) (ue_frz (ue_op (op_addU rfl) snd_add (ue_var (pv 2)) (ue_tup (k := 0) (ua_cons (ue_c pe_str fun _ => .str _) (ua_cons (ue_c pe_str fun _ => .str _) (ua_cons (ue_c pe_non fun _ => .non) (ua_cons (ue_c pe_int fun _ => .int _) (ua_cons (ue_frz (ue_lst (ua_cons (ue_c pe_str fun _ => .str _) ua_nil))) (ua_cons (ue_c pe_bl fun _ => .bl _) (ua_cons (ue_c pe_str fun _ => .str _) ua_nil)))))))))))) (us_cons (us_asg (i := 4) (fun p m => nomatch m) (ps_set (i := 4) sc_law.nd rfl (Or.inl rfl) (ue_lst (ua_cons (ue_c pe_str fun _ => .str _) (ua_cons (ue_c pe_str fun _ => .str _) (ua_cons (ue_c pe_str fun _ => .str _) (ua_cons (ue_c pe_str fun _ => .str _) (ua_cons (ue_c pe_str fun _ => .str _) (ua_cons (ue_c pe_str fun _ => .str _) (ua_cons (ue_c pe_str fun _ => .str _) (ua_cons (ue_c pe_str fun _ => .str _) (ua_cons (ue_c pe_str fun _ => .str _) (ua_cons (ue_c pe_str fun _ => .str _) (ua_cons (ue_c pe_str fun _ => .str _) (ua_cons (ue_c pe_bl fun _ => .bl _) (ua_cons (ue_c pe_bl fun _ => .bl _) ua_nil)))))))))))))))) (us_cons (us_ext (i := 4) (ps_expr (pe_bm PySem.F.plainAttrs_list PySem.F.slot_list_extend PySem.F.type_list_extend mt_extend (pv 4) (ua_cons (ue_lst (ua_cons (ue_tup (k := 0) ua_nil) (ua_cons (ue_tup (k := 0) (ua_cons (ue_tup (k := 0) (ua_cons (ue_c pe_str fun _ => .str _) (ua_cons (ue_c pe_str fun _ => .str _) ua_nil))) (ua_cons (ue_tup (k := 0) (ua_cons (ue_c pe_str fun _ => .str _) (ua_cons (ue_c pe_str fun _ => .str _) ua_nil))) ua_nil))) (ua_cons (ue_tup (k := 0) (ua_cons (ue_tup (k := 0) (ua_cons (ue_c pe_str fun _ => .str _) (ua_cons (ue_c pe_str fun _ => .str _) ua_nil))) ua_nil)) (ua_cons (ue_lst (ua_cons (ue_tup (k := 0) (ua_cons (ue_c pe_str fun _ => .str _) (ua_cons (ue_c pe_str fun _ => .str _) ua_nil))) ua_nil)) (ua_cons (ue_c pe_int fun _ => .int _) (ua_cons (ue_c pe_int fun _ => .int _) (ua_cons (ue_c pe_non fun _ => .non) (ua_cons (ue_c pe_str fun _ => .str _) (ua_cons (ue_lst (ua_cons (ue_c pe_str fun _ => .str _) ua_nil)) (ua_cons ue_emp ua_nil))))))))))) ua_nil)))) (us_cons (us_asg (i := 5) (fun p m => nomatch m) (ps_set (i := 5) sc_law.nd rfl (Or.inl rfl) (ue_frz (ue_lst (ua_cons (ue_c pe_str fun _ => .str _) (ua_cons (ue_c pe_str fun _ => .str _) (ua_cons (ue_c pe_str fun _ => .str _) (ua_cons (ue_c pe_bl fun _ => .bl _) (ua_cons (ue_c pe_str fun _ => .str _) (ua_cons (ue_c pe_str fun _ => .str _) ua_nil)))))))))) (us_cons (us_asg (i := 6) (fun p m => nomatch m) (ps_set (i := 6) sc_law.nd rfl (Or.inl rfl) (ue_mkS (im := true) (c := 0) (L := 6) (n := 3) (m := 3) (k := 7) (gU := (fun us ws => us ++ ws)) (T.mk_Rule (some (b, c))) (hg_app (by rfl)) (pe_makeKS T.M_Rule (rk_Rule_init T (some (b, c))) (hr.mono (by decide)) (by rfl) T.g_Rule (kb_Rule T.F_Rule_init) (fun σ => passAt takes0 σ) (ua_cons (ue_c pe_str fun _ => .str _) (ua_cons (ue_c pe_str fun _ => .str _) (ua_cons (ue_c pe_str fun _ => .str _) ua_nil))) (uk_cons (ue_c pe_bl fun _ => .bl _) (uk_cons (ue_c pe_str fun _ => .str _) (uk_cons (ue_c pe_str fun _ => .str _) uk_nil))))))) (us_cons (us_fz (i := 4) (us_forR (ps_for PassesOwn.never rfl (pi_range1 (by rfl) T.range (ua_cons (ue_c pe_int fun _ => .int _) ua_nil)) (ug_nm (fun p m => nomatch m) (pg_name (i := 7) sc_law.nd rfl (Or.inl rfl))) (us_cons (us_asg (i := 8) (fun p m => nomatch m) (ps_set (i := 8) sc_law.nd rfl (Or.inl rfl) (ue_ix rfl (ue_var (pv 3)) (ue_draw (pe_call (ok_draw T.F_L_draw T.F_L_mix T.b_L_mix T.g_L_mix T.int_ T.len) (hr.mono (by decide)) (by rfl) T.g_L_draw T.F_L_draw.kp T.b_L_draw .nil (E := E0) pass0 (ua_cons (ue_var (pv 1)) (ua_cons (ue_op (op_addU rfl) snd_add (ue_c pe_int fun _ => .int _) (ue_op (op_mulU rfl) snd_mul (ue_c pe_int fun _ => .int _) (ue_op op_mod snd_mod (ue_var (pv 7)) (ue_c pe_int fun _ => .int _)))) ua_nil)))) (fun _ _ => rfl)))) (us_cons (us_asg (i := 9) (fun p m => nomatch m) (ps_set (i := 9) sc_law.nd rfl (Or.inl rfl) (ue_ix rfl (ue_var (pv 4)) (ue_draw (pe_call (ok_draw T.F_L_draw T.F_L_mix T.b_L_mix T.g_L_mix T.int_ T.len) (hr.mono (by decide)) (by rfl) T.g_L_draw T.F_L_draw.kp T.b_L_draw .nil (E := E0) pass0 (ua_cons (ue_var (pv 1)) (ua_cons (ue_fn snd_len (pe_callB (cl_len rfl) (by rfl) T.len PySem.boot_len (ua_cons (ue_var (pv 4)) ua_nil))) ua_nil)))) (fun _ _ => rfl)))) (us_cons (us_asg (i := 10) (fun p m => nomatch m) (ps_set (i := 10) sc_law.nd rfl (Or.inl rfl) (ue_tup (k := 0) (ua_cons (ue_c pe_str fun _ => .str _) (ua_cons (ue_var (pv 8)) ua_nil))))) (us_cons (us_asg (i := 11) (fun p m => nomatch m) (ps_set (i := 11) sc_law.nd rfl (Or.inl rfl) (ue_fn snd_lst (pe_callTy (call_listTK rfl) (by rfl) T.list_ (by decide +kernel) (ua_cons (ue_var (pv 5)) ua_nil))))) (us_cons (us_if (ue_tt (ue_call (pe_callS (rk_L_fits T (some (b, c))) (hr.mono (by decide)) (by rfl) T.g_L_fits T.F_L_fits.kp T.b_L_fits (fun σ => passAt takes0 σ) (ua_cons (ue_var (pv 8)) (ua_cons (ue_var (pv 9)) ua_nil)))) (by intro _; rfl) rfl) (us_cons (us_setI (i := 11) (ps_asg (ue_var (pv 9)) (pg_sub (pv 11) (ue_idx (pe_bp rfl PySem.F.slot_tuple_index PySem.F.type_tuple_index mt_tup_index (ue_var (pv 2)) (pa_cons (ue_var (pv 8)) pa_nil))) set_list))) (us_cons (us_if (ue_tt (ue_fn snd_isi (pe_callB (call_isiK' rfl) (by rfl) T.isinstance boot_isinstance (ua_cons (ue_var (pv 9)) (ua_cons (ue_c (pe_bltn (v := .ty "tuple") (by rfl) T.tuple_ (by decide +kernel) rfl) fun _ => .ty _) ua_nil)))) (by intro _; rfl) rfl) (us_one (us_setI (i := 11) (ps_asg (ue_fn snd_tup (pe_callTy (cl_tup rfl) (by rfl) T.tuple_ (by decide +kernel) (ua_cons (ue_fn snd_sortP (pe_callB (cr_sortedQ rfl) (by rfl) T.sorted PyProof.Rows.boot_sorted (ua_cons (ue_var (pv 9)) ua_nil))) ua_nil))) (pg_sub (pv 11) (ue_c pe_int fun _ => .int _) set_list)))) us_nil) (us_one (us_asg (i := 10) (fun p m => nomatch m) (ps_set (i := 10) sc_law.nd rfl (Or.inl rfl) (ue_tup (k := 0) (ua_cons (ue_c pe_str fun _ => .str _) (ua_cons (ue_fn snd_tup (pe_callTy (cl_tup rfl) (by rfl) T.tuple_ (by decide +kernel) (ua_cons (ue_var (pv 11)) ua_nil))) ua_nil)))))))) us_nil) (us_cons (us_if (PW.pt (uw_or (ut_not (ue_tt (ue_same (n := 12) (pe_call (ok_same T.F_L_same T.b_L_same T.g_L_same T.B 12) (hr.mono (by decide)) (by rfl) T.g_L_same T.F_L_same.kp T.b_L_same .nil (E := E0) pass0 (ua_cons (ue_frz (ue_call (pe_callS (rk_L_told T (some (b, c))) (hr.mono (by decide)) (by rfl) T.g_L_told T.F_L_told.kp T.b_L_told (fun σ => passAt takes0 σ) (ua_cons (ue_var (pv 6)) (ua_cons (ue_var (pv 8)) (ua_cons (ue_var (pv 9)) ua_nil)))))) (ua_cons (ue_var (pv 10)) ua_nil)))) (by intro _; rfl) rfl)) (pw_or1 (ut_not (ue_tt (ue_same (n := 12) (pe_call (ok_same T.F_L_same T.b_L_same T.g_L_same T.B 12) (hr.mono (by decide)) (by rfl) T.g_L_same T.F_L_same.kp T.b_L_same .nil (E := E0) pass0 (ua_cons (ue_frz (ue_call (pe_callS (rk_L_six T (some (b, c))) (hr.mono (by decide)) (by rfl) T.g_L_six T.F_L_six.kp T.b_L_six (fun σ => passAt takes0 σ) (ua_cons (ue_var (pv 6)) ua_nil)))) (ua_cons (ue_fn snd_tup (pe_callTy (cl_tup rfl) (by rfl) T.tuple_ (by decide +kernel) (ua_cons (ue_var (pv 5)) ua_nil))) ua_nil)))) (by intro _; rfl) rfl))))) (us_one (us_ret (ps_ret (ue_c pe_bl fun _ => .bl _)))) us_nil) (us_one (us_fz (i := 11) (us_if (ut_cmp (op_eqU rfl (room65 hr)) snd_eq (ue_ix rfl (ue_var (pv 10)) (ue_c pe_int fun _ => .int _) (fun _ _ => rfl)) (ue_c pe_str fun _ => .str _) (nomark _)) (us_cons (us_asg (i := 6) (fun p m => nomatch m) (ps_set (i := 6) sc_law.nd rfl (Or.inl rfl) (ue_frz (ue_methX (k := 0) (by show ¬ (("with_part" : Str) ∈ (["opens", "checks", "around", "wipes", "taken", "sending"] : List Str)); decide +kernel) (pe_methX (ue_var (pv 6)) T.cl_Rule T.m_Rule_with_part (rk_Rule_with_part T (some (b, c))) (hr.mono (by decide)) T.b_Rule_with_part (fun σ => passAt takes0 σ) (ua_cons (ue_var (pv 8)) (ua_cons (ue_var (pv 9)) ua_nil))))))) (us_one (us_asg (i := 5) (fun p m => nomatch m) (ps_set (i := 5) sc_law.nd rfl (Or.inl rfl) (ue_var (pv 11)))))) us_nil)))))))))))) (us_one (us_ret (ps_ret (ue_same (n := 12) (pe_call (ok_same T.F_L_same T.b_L_same T.g_L_same T.B 12) (hr.mono (by decide)) (by rfl) T.g_L_same T.F_L_same.kp T.b_L_same .nil (E := E0) pass0 (ua_cons (ue_frz (ue_call (pe_callS (rk_L_six T (some (b, c))) (hr.mono (by decide)) (by rfl) T.g_L_six T.F_L_six.kp T.b_L_six (fun σ => passAt takes0 σ) (ua_cons (ue_var (pv 6)) ua_nil)))) (ua_cons (ue_fn snd_tup (pe_callTy (cl_tup rfl) (by rfl) T.tuple_ (by decide +kernel) (ua_cons (ue_var (pv 5)) ua_nil))) ua_nil))))))))))))))), ?_⟩
    exact ⟨.ref a, rfl, a, ns, rfl, hS, h63, fun H1 b c s1 nb nc hB => law_start (m := 10) hp rfl hB q⟩
end
end Rl
namespace Wn
end Wn


namespace Wn
open PySem PySem.Spec PyProof.Rows L2
end Wn
namespace Rl
open PySem PySem.Spec PyProof.Rows L2 Wn
/-! the rules of readings with draws, over post; then over pst, which no unifier opens -/
def runO (P : R → Prop) : Out → Prop
  | .nx _ => P (.im .non)
  | .rt r _ => P r
  | _ => False
theorem rngR_at {j : Int} (h1 : -(2 ^ 62) ≤ j) (h2 : j < 2 ^ 62) : rngR [.im (.int j)] = some (rng j.toNat) := if_pos ⟨h1, h2⟩
theorem rngR_ok {n : Nat} (h : n < 1000) : rngR [.im (.int n)] = some (rng n) := rngR_at (by omega) (by omega)
theorem rng_len (n : Nat) : (rng n).length = n := by unfold rng; rw [List.length_map, List.length_range]
theorem slO_some {p : PEx} {ρ : Env} {i : Int} (e : p ρ = .ok (.im (.int i))) : pSlO (some p) ρ = .ok (some i) := by
  show ((p ρ).bind _) = _
  rw [e]
  rfl
namespace Q
def thenO (q : PSt) (P : Out → Prop) (X : Er → Prop) : Out → Prop
  | .nx ρ => (q ρ).post P X
  | o => P o
theorem p_seq {p q : PSt} {ρ : Env} {P : Out → Prop} {X : Er → Prop} (h : (p ρ).post (thenO q P X) X) : (pSeq p q ρ).post P X :=
  post_bind.mpr (post_mono (fun o ho => by cases o <;> exact ho) (fun _ x => x) h)
theorem p_run {body : PSt} {m : Nat} {us : List U} {ρ : Env} {P : R → Prop} {X : Er → Prop} (e : us.map Sl.im ++ List.replicate m Sl.un = ρ) (h : (body ρ).post (runO P) X) : (runF body m us).post P X := by
  subst e
  unfold runF
  refine post_bind.mpr (post_mono (fun o ho => ?_) (fun _ x => x) h)
  cases o <;> first | exact ho | exact ho.elim
theorem p_asg {i : Nat} {p : PEx} {ρ : Env} {P : Out → Prop} {X : Er → Prop} (h : (p ρ).post (fun r => ∃ ρ', bindR i r ρ = some ρ' ∧ P (.nx ρ')) X) : (pAsg i p ρ).post P X :=
  post_bind.mpr (post_mono (fun r ⟨ρ', e, q⟩ => by show ((Res.opt (bindR i r ρ)).bind _).post P X; rw [e]; exact q) (fun _ x => x) h)
theorem p_forR {tg : Tg} {pas : PAs} {body : PSt} {ρ : Env} {P : Out → Prop} {X : Er → Prop} (h : (pas ρ).post (fun rs => ∃ n : Nat, rs = [.im (.int n)] ∧ n < 1000 ∧ (pLoop (bindT tg) body (rng n) ρ).post P X) X) : (pForR tg pas body ρ).post P X :=
  post_bind.mpr (post_mono (fun rs ⟨n, e, hn, q⟩ => by
    subst e
    show ((Res.opt (rngR [.im (.int n)])).bind _).post P X
    rw [rngR_ok hn]
    exact q) (fun _ x => x) h)
theorem p_if {c : PTs'} {p q : PSt} {ρ : Env} {P : Out → Prop} {X : Er → Prop} (h : (c ρ).post (fun b => (b = true → (p ρ).post P X) ∧ (b = false → (q ρ).post P X)) X) : (pIfS c p q ρ).post P X :=
  post_bind.mpr (post_mono (fun b hb => by cases b with
    | true => exact hb.1 rfl
    | false => exact hb.2 rfl) (fun _ x => x) h)
theorem p_app {i : Nat} {pas : PAs} {ρ : List Sl} {os : List O} {P : Out → Prop} {X : Er → Prop} (e : ρ[i]? = some (.ow (.ol os))) (hl : os.length ≤ 100000) (h : (pas ρ).post (fun rs => ∃ r o, rs = [r] ∧ ownR r = some o ∧ P (.nx (ρ.set i (.ow (.ol (os ++ [o])))))) X) : (pLs i fApp pas ρ).post P X := by
  unfold pLs
  rw [e]
  refine post_bind.mpr (post_mono (fun rs ⟨r, o, e1, e2, q⟩ => ?_) (fun _ x => x) h)
  subst e1
  show ((Res.opt (if _ then _ else _)).bind _).post P X
  rw [if_pos hl, e2]
  exact q
theorem post_loop {bd : U → Env → Option Env} {body : PSt} {P : Out → Prop} {X : Er → Prop} (Inv : Nat → Env → Prop) : ∀ {us : List U} {ρ : Env} (i : Nat),
    Inv i ρ → (∀ j u ρ, us[j]? = some u → Inv (i + j) ρ → ∃ ρ1, bd u ρ = some ρ1 ∧ (body ρ1).post (fun o => match o with
      | .nx ρ2 => Inv (i + j + 1) ρ2
      | .ct ρ2 => Inv (i + j + 1) ρ2
      | .bk ρ2 => P (.nx ρ2)
      | .rt r ρ2 => P (.rt r ρ2)) X) → (∀ ρ, Inv (i + us.length) ρ → P (.nx ρ)) → (pLoop bd body us ρ).post P X
  | [], ρ, i, h, _, e => e ρ h
  | u :: us, ρ, i, h, hs, e => by
    obtain ⟨ρ1, e1, hb⟩ := hs 0 u ρ rfl h
    unfold pLoop
    rw [e1]
    refine post_bind.mpr (show (Res.ok ρ1).post _ _ from post_bind.mpr (post_mono (fun o ho => ?_) (fun _ x => x) hb))
    have next : ∀ ρ2, Inv (i + 1) ρ2 → (pLoop bd body us ρ2).post P X := fun ρ2 h2 => post_loop Inv (i + 1) h2 (fun j u ρ e hI => by
      have hI : Inv (i + (j + 1)) ρ := by rw [show i + (j + 1) = i + 1 + j by omega]; exact hI
      have := hs (j + 1) u ρ e hI
      rw [show i + 1 + j + 1 = i + (j + 1) + 1 by omega]
      exact this) (fun ρ hI => e ρ (by rw [List.length_cons, show i + (us.length + 1) = i + 1 + us.length by omega]; exact hI))
    cases o with
    | nx ρ2 => exact next ρ2 ho
    | ct ρ2 => exact next ρ2 ho
    | bk ρ2 => exact ho
    | rt r ρ2 => exact ho
theorem p_op {f : R → R → Option R} {pa pb : PEx} {ρ : Env} {P : R → Prop} {X : Er → Prop} (h : (pa ρ).post (fun a => (pb ρ).post (fun b => ∃ c, f a b = some c ∧ P c) X) X) : (pOp f pa pb ρ).post P X :=
  post_bind.mpr (post_mono (fun a ha => post_bind.mpr (post_mono (fun b ⟨c, e, q⟩ => by rw [e]; exact q) (fun _ x => x) ha)) (fun _ x => x) h)
theorem p_frz {p : PEx} {ρ : Env} {P : R → Prop} {X : Er → Prop} (h : (p ρ).post (fun r => ∃ r', frzR r = some r' ∧ P r') X) : (pFrz p ρ).post P X :=
  post_bind.mpr (post_mono (fun r ⟨c, e, q⟩ => by rw [e]; exact q) (fun _ x => x) h)
theorem p_un {f : R → Option R} {p : PEx} {ρ : Env} {P : R → Prop} {X : Er → Prop} (h : (p ρ).post (fun r => ∃ r', f r = some r' ∧ P r') X) : (pUn f p ρ).post P X :=
  post_bind.mpr (post_mono (fun r ⟨c, e, q⟩ => by rw [e]; exact q) (fun _ x => x) h)
theorem p_fn {f : List R → Option R} {p : PAs} {ρ : Env} {P : R → Prop} {X : Er → Prop} (h : (p ρ).post (fun r => ∃ r', f r = some r' ∧ P r') X) : (pFn f p ρ).post P X :=
  post_bind.mpr (post_mono (fun r ⟨c, e, q⟩ => by rw [e]; exact q) (fun _ x => x) h)
theorem p_cons {a : PEx} {b : PAs} {ρ : Env} {P : List R → Prop} {X : Er → Prop} (h : (a ρ).post (fun x => (b ρ).post (fun xs => P (x :: xs)) X) X) : (pCons a b ρ).post P X :=
  post_bind.mpr (post_mono (fun x hx => post_bind.mpr hx) (fun _ x => x) h)
theorem p_tup {p : PAs} {ρ : Env} {P : R → Prop} {X : Er → Prop} (h : (p ρ).post (fun rs => ∃ us, rs.length ≤ 1000 ∧ imRs rs = some us ∧ P (.im (.tup us))) X) : (pTup p ρ).post P X :=
  post_bind.mpr (post_mono (fun r ⟨c, l, e, q⟩ => by show (Res.opt (if _ then _ else _)).post P X; rw [if_pos l, e]; exact q) (fun _ x => x) h)
theorem p_draw {pas : PAs} {ρ : Env} {m : Int} {P : R → Prop} {X : Er → Prop} (e : pas ρ = .ok [.im .box, .im (.int m)]) (h0 : 0 < m) (h1 : m < 1073741824) (h : ∀ r, 0 ≤ r → r < m → P (.im (.int r))) : (pDraw pas ρ).post P X := by
  unfold pDraw
  rw [e]
  show ((Res.opt (drwN [.im .box, .im (.int m)])).bind _).post P X
  rw [show drwN [.im .box, .im (.int m)] = some m from if_pos ⟨h0, h1⟩]
  exact h
theorem p_lc {it : R → Option (List U)} {tg : Tg} {cond : PTs'} {elt p : PEx} {vs : List Nat} {ρ : Env} {P : R → Prop} {X : Er → Prop} (h : (p ρ).post (fun r => ∃ us, it r = some us ∧ us.length ≤ 100000 ∧ (mapR (bindT tg) cond elt (wipeE ρ vs) us).post (fun ys => P (.fr (.ol (ys.map .lf)))) (fun _ => False)) X) : (pLC it tg cond elt vs p ρ).post P X :=
  post_bind.mpr (post_mono (fun r ⟨us, e, l, q⟩ => by
    rw [e]
    show (lcEnd us _).post P X
    unfold lcEnd
    rw [if_pos l]
    exact post_bind.mpr (post_calm.mpr q)) (fun _ x => x) h)
theorem p_lcR {tg : Tg} {cond : PTs'} {elt : PEx} {p : PAs} {vs : List Nat} {ρ : Env} {P : R → Prop} {X : Er → Prop} (h : (p ρ).post (fun r => ∃ n : Nat, r = [.im (.int n)] ∧ n < 1000 ∧ (mapR (bindT tg) cond elt (wipeE ρ vs) (rng n)).post (fun ys => P (.fr (.ol (ys.map .lf)))) (fun _ => False)) X) : (pLCR tg cond elt vs p ρ).post P X :=
  post_bind.mpr (post_mono (fun r ⟨n, e, l, q⟩ => by
    subst e
    rw [rngR_ok l]
    show (lcEnd (rng n) _).post P X
    unfold lcEnd
    rw [if_pos (by rw [rng_len]; omega)]
    exact post_bind.mpr (post_calm.mpr q)) (fun _ x => x) h)
theorem map_post {bd : U → Env → Option Env} {elt : PEx} {ρ : Env} {G : U → U → Prop} {P : List U → Prop} {X : Er → Prop} : ∀ {us : List U}, (∀ u ∈ us, ∃ ρ1, bd u ρ = some ρ1 ∧ (elt ρ1).post (fun r => ∃ y, r = .im y ∧ G u y) X) → (∀ ys, Paired G us ys → P ys) → (mapR bd pYes elt ρ us).post P X
  | [], _, h => h [] .nil
  | u :: us, h, hp => by
    obtain ⟨ρ1, e1, e2⟩ := h u (.head _)
    unfold mapR
    rw [e1]
    show ((elt ρ1).bind _).post P X
    refine post_bind.mpr (post_mono (fun r ⟨y, e, gy⟩ => ?_) (fun _ x => x) e2)
    subst e
    show ((mapR bd pYes elt ρ us).bind _).post P X
    exact post_bind.mpr (map_post (G := G) (fun u m => h u (.tail _ m)) fun ys hy => hp _ (.cons gy hy))
theorem p_fz {i : Nat} {p : PSt} {ρ : Env} {o : O} {u : U} {P : Out → Prop} {X : Er → Prop} (e : ρ[i]? = some (.ow o)) (e2 : frzO o = some u) (h : (p (ρ.set i (.im u))).post P X) : (pFz i p ρ).post P X := by
  unfold pFz
  rw [e]
  show ((Res.opt (frzO o)).bind _).post P X
  rw [e2]
  exact h
theorem post_ok {α : Type} {r : Res α} {a : α} {P : α → Prop} {X : Er → Prop} (e : r = .ok a) (h : P a) : r.post P X := by rw [e]; exact h
theorem post_dm {α : Type} {r : Res α} {n : Int} {k : Int → Res α} {P : α → Prop} {X : Er → Prop} (e : r = .dm n k) (h : ∀ i, 0 ≤ i → i < n → (k i).post P X) : r.post P X := by rw [e]; exact h
theorem post_d1 {α : Type} {r : Res α} {n : Int} {f : Int → α} {P : α → Prop} {X : Er → Prop} (e : r = .dm n fun i => .ok (f i)) (h : ∀ i, 0 ≤ i → i < n → P (f i)) : r.post P X := by rw [e]; exact h
theorem p_call {n : Nat} {fn : List U → Res R} {pas : PAs} {ρ : Env} {P : R → Prop} {X : Er → Prop} (h : (pas ρ).post (fun rs => ∃ us, rs.length = n ∧ imRs rs = some us ∧ (fn us).post P X) X) : (pCall n fn pas ρ).post P X :=
  post_bind.mpr (post_mono (fun rs ⟨us, l, e, q⟩ => by
    show ((Res.opt (if _ then _ else _)).bind _).post P X
    rw [if_pos l, e]
    exact q) (fun _ x => x) h)
theorem p_ret {p : PEx} {ρ : Env} {P : Out → Prop} {X : Er → Prop} (h : (p ρ).post (fun r => P (.rt r ρ)) X) : (pRet p ρ).post P X := post_bind.mpr h
theorem p_and {a b : PTs'} {ρ : Env} {P : Bool → Prop} {X : Er → Prop} (h : (a ρ).post (fun c => (c = true → (b ρ).post P X) ∧ (c = false → P false)) X) : (pAnd a b ρ).post P X :=
  post_bind.mpr (post_mono (fun c hc => by cases c with
    | true => exact hc.1 rfl
    | false => exact post_ok rfl (hc.2 rfl)) (fun _ x => x) h)
theorem p_ts {p : PEx} {ρ : Env} {P : Bool → Prop} {X : Er → Prop} (h : (p ρ).post (fun r => ∃ b, bR r = some b ∧ P b) X) : (pTs p ρ).post P X :=
  post_bind.mpr (post_mono (fun r ⟨b, e, q⟩ => by rw [e]; exact post_ok rfl q) (fun _ x => x) h)
theorem p_setI {i : Nat} {p pk : PEx} {ρ : List Sl} {os : List O} {u : U} {k j : Nat} {P : Out → Prop} {X : Er → Prop} (e : ρ[i]? = some (.ow (.ol os))) (e1 : p ρ = .ok (.im u)) (e2 : pk ρ = .ok (.im (.int k))) (hj : ixN os.length k = some j) (h : P (.nx (ρ.set i (.ow (.ol (os.set j (.lf u))))))) : (pSetI i p pk ρ).post P X := by
  unfold pSetI pLs
  rw [e]
  show ((pCons p (pCons pk pNil) ρ).bind _).post P X
  unfold pCons
  rw [e1]
  show (((pk ρ).bind _ |>.bind _).bind _).post P X
  rw [e2]
  show ((Res.opt ((ixN os.length k).map _)).bind _).post P X
  rw [hj]
  exact h
theorem p_lst {p : PAs} {ρ : Env} {P : R → Prop} {X : Er → Prop} (h : (p ρ).post (fun rs => ∃ os, rs.length ≤ 1000 ∧ ownRs rs = some os ∧ P (.fr (.ol os))) X) : (pLst p ρ).post P X :=
  post_bind.mpr (post_mono (fun r ⟨c, l, e, q⟩ => by show (Res.opt (if _ then _ else _)).post P X; rw [if_pos l, e]; exact q) (fun _ x => x) h)
theorem p_slU {pa p2 : PEx} {ρ : Env} {i : Int} {P : R → Prop} {X : Er → Prop} (e2 : p2 ρ = .ok (.im (.int i))) (h : (pa ρ).post (fun a => ∃ c, pCut none (some i) a = some c ∧ P c) X) : (pSl pa none (some p2) ρ).post P X :=
  post_bind.mpr (post_mono (fun a ⟨c, e, q⟩ => by
    rw [slO_some e2]
    show (Res.opt (pCut none (some i) a)).post P X
    rw [e]
    exact q) (fun _ x => x) h)
theorem p_asgT {tg : Tg} {p : PEx} {ρ : Env} {P : Out → Prop} {X : Er → Prop} (h : (p ρ).post (fun r => ∃ u ρ', imR r = some u ∧ bindT tg u ρ = some ρ' ∧ P (.nx ρ')) X) : (pAsgT tg p ρ).post P X :=
  post_bind.mpr (post_mono (fun r ⟨u, ρ', e1, e2, q⟩ => by
    show ((Res.opt (imR r)).bind _).post P X
    rw [e1]
    show ((Res.opt (bindT tg u ρ)).bind _).post P X
    rw [e2]
    exact q) (fun _ x => x) h)
theorem p_for {it : R → Option (List U)} {tg : Tg} {p : PEx} {body : PSt} {ρ : Env} {P : Out → Prop} {X : Er → Prop} (h : (p ρ).post (fun r => ∃ us, it r = some us ∧ (pLoop (bindT tg) body us ρ).post P X) X) : (pFor it tg p body ρ).post P X :=
  post_bind.mpr (post_mono (fun r ⟨us, e, q⟩ => by
    show ((Res.opt (it r)).bind _).post P X
    rw [e]
    exact q) (fun _ x => x) h)
end Q
@[irreducible] def Res.pst {α : Type} (r : Res α) (P : α → Prop) (X : Er → Prop) : Prop := r.post P X
theorem pst_eq {α : Type} (r : Res α) (P : α → Prop) (X : Er → Prop) : r.pst P X = r.post P X := by unfold Res.pst; rfl
theorem pst_mono {α : Type} {P P' : α → Prop} {X X' : Er → Prop} (hP : ∀ a, P a → P' a) (hX : ∀ e, X e → X' e) {r : Res α} (h : r.pst P X) : r.pst P' X' := by
  rw [pst_eq] at *
  exact post_mono hP hX h
theorem pst_bind {α β : Type} {f : α → Res β} {P : β → Prop} {X : Er → Prop} {r : Res α} : (r.bind f).pst P X ↔ r.pst (fun a => (f a).pst P X) X := by
  simp only [pst_eq]
  exact post_bind
def thenO (q : PSt) (P : Out → Prop) (X : Er → Prop) : Out → Prop
  | .nx ρ => (q ρ).pst P X
  | o => P o
theorem then_eq (q : PSt) (P : Out → Prop) (X : Er → Prop) : thenO q P X = Q.thenO q P X := by
  funext o
  cases o <;> first | rfl | exact pst_eq _ _ _
theorem p_seq {p q : PSt} {ρ : Env} {P : Out → Prop} {X : Er → Prop} (h : (p ρ).pst (thenO q P X) X) : (pSeq p q ρ).pst P X := by
  simp only [pst_eq, then_eq] at *
  exact Q.p_seq h
theorem p_run {body : PSt} {m : Nat} {us : List U} {ρ : Env} {P : R → Prop} {X : Er → Prop} (e : us.map Sl.im ++ List.replicate m Sl.un = ρ) (h : (body ρ).pst (runO P) X) : (runF body m us).pst P X := by
  simp only [pst_eq, then_eq] at *
  exact Q.p_run e h
theorem p_asg {i : Nat} {p : PEx} {ρ : Env} {P : Out → Prop} {X : Er → Prop} (h : (p ρ).pst (fun r => ∃ ρ', bindR i r ρ = some ρ' ∧ P (.nx ρ')) X) : (pAsg i p ρ).pst P X := by
  simp only [pst_eq, then_eq] at *
  exact Q.p_asg h
theorem p_forR {tg : Tg} {pas : PAs} {body : PSt} {ρ : Env} {P : Out → Prop} {X : Er → Prop} (h : (pas ρ).pst (fun rs => ∃ n : Nat, rs = [.im (.int n)] ∧ n < 1000 ∧ (pLoop (bindT tg) body (rng n) ρ).pst P X) X) : (pForR tg pas body ρ).pst P X := by
  simp only [pst_eq, then_eq] at *
  exact Q.p_forR h
theorem p_if {c : PTs'} {p q : PSt} {ρ : Env} {P : Out → Prop} {X : Er → Prop} (h : (c ρ).pst (fun b => (b = true → (p ρ).pst P X) ∧ (b = false → (q ρ).pst P X)) X) : (pIfS c p q ρ).pst P X := by
  simp only [pst_eq, then_eq] at *
  exact Q.p_if h
theorem p_app {i : Nat} {pas : PAs} {ρ : List Sl} {os : List O} {P : Out → Prop} {X : Er → Prop} (e : ρ[i]? = some (.ow (.ol os))) (hl : os.length ≤ 100000) (h : (pas ρ).pst (fun rs => ∃ r o, rs = [r] ∧ ownR r = some o ∧ P (.nx (ρ.set i (.ow (.ol (os ++ [o])))))) X) : (pLs i fApp pas ρ).pst P X := by
  simp only [pst_eq, then_eq] at *
  exact Q.p_app e hl h
theorem post_loop {bd : U → Env → Option Env} {body : PSt} {P : Out → Prop} {X : Er → Prop} (Inv : Nat → Env → Prop) : ∀ {us : List U} {ρ : Env} (i : Nat),
    Inv i ρ → (∀ j u ρ, us[j]? = some u → Inv (i + j) ρ → ∃ ρ1, bd u ρ = some ρ1 ∧ (body ρ1).pst (fun o => match o with
      | .nx ρ2 => Inv (i + j + 1) ρ2
      | .ct ρ2 => Inv (i + j + 1) ρ2
      | .bk ρ2 => P (.nx ρ2)
      | .rt r ρ2 => P (.rt r ρ2)) X) → (∀ ρ, Inv (i + us.length) ρ → P (.nx ρ)) → (pLoop bd body us ρ).pst P X := by
  simp only [pst_eq, then_eq] at *
  exact Q.post_loop Inv
theorem p_op {f : R → R → Option R} {pa pb : PEx} {ρ : Env} {P : R → Prop} {X : Er → Prop} (h : (pa ρ).pst (fun a => (pb ρ).pst (fun b => ∃ c, f a b = some c ∧ P c) X) X) : (pOp f pa pb ρ).pst P X := by
  simp only [pst_eq, then_eq] at *
  exact Q.p_op h
theorem p_frz {p : PEx} {ρ : Env} {P : R → Prop} {X : Er → Prop} (h : (p ρ).pst (fun r => ∃ r', frzR r = some r' ∧ P r') X) : (pFrz p ρ).pst P X := by
  simp only [pst_eq, then_eq] at *
  exact Q.p_frz h
theorem p_un {f : R → Option R} {p : PEx} {ρ : Env} {P : R → Prop} {X : Er → Prop} (h : (p ρ).pst (fun r => ∃ r', f r = some r' ∧ P r') X) : (pUn f p ρ).pst P X := by
  simp only [pst_eq, then_eq] at *
  exact Q.p_un h
theorem p_fn {f : List R → Option R} {p : PAs} {ρ : Env} {P : R → Prop} {X : Er → Prop} (h : (p ρ).pst (fun r => ∃ r', f r = some r' ∧ P r') X) : (pFn f p ρ).pst P X := by
  simp only [pst_eq, then_eq] at *
  exact Q.p_fn h
theorem p_cons {a : PEx} {b : PAs} {ρ : Env} {P : List R → Prop} {X : Er → Prop} (h : (a ρ).pst (fun x => (b ρ).pst (fun xs => P (x :: xs)) X) X) : (pCons a b ρ).pst P X := by
  simp only [pst_eq, then_eq] at *
  exact Q.p_cons h
theorem p_tup {p : PAs} {ρ : Env} {P : R → Prop} {X : Er → Prop} (h : (p ρ).pst (fun rs => ∃ us, rs.length ≤ 1000 ∧ imRs rs = some us ∧ P (.im (.tup us))) X) : (pTup p ρ).pst P X := by
  simp only [pst_eq, then_eq] at *
  exact Q.p_tup h
theorem p_draw {pas : PAs} {ρ : Env} {m : Int} {P : R → Prop} {X : Er → Prop} (e : pas ρ = .ok [.im .box, .im (.int m)]) (h0 : 0 < m) (h1 : m < 1073741824) (h : ∀ r, 0 ≤ r → r < m → P (.im (.int r))) : (pDraw pas ρ).pst P X := by
  simp only [pst_eq, then_eq] at *
  exact Q.p_draw e h0 h1 h
theorem p_lc {it : R → Option (List U)} {tg : Tg} {cond : PTs'} {elt p : PEx} {vs : List Nat} {ρ : Env} {P : R → Prop} {X : Er → Prop} (h : (p ρ).pst (fun r => ∃ us, it r = some us ∧ us.length ≤ 100000 ∧ (mapR (bindT tg) cond elt (wipeE ρ vs) us).pst (fun ys => P (.fr (.ol (ys.map .lf)))) (fun _ => False)) X) : (pLC it tg cond elt vs p ρ).pst P X := by
  simp only [pst_eq, then_eq] at *
  exact Q.p_lc h
theorem p_lcR {tg : Tg} {cond : PTs'} {elt : PEx} {p : PAs} {vs : List Nat} {ρ : Env} {P : R → Prop} {X : Er → Prop} (h : (p ρ).pst (fun r => ∃ n : Nat, r = [.im (.int n)] ∧ n < 1000 ∧ (mapR (bindT tg) cond elt (wipeE ρ vs) (rng n)).pst (fun ys => P (.fr (.ol (ys.map .lf)))) (fun _ => False)) X) : (pLCR tg cond elt vs p ρ).pst P X := by
  simp only [pst_eq, then_eq] at *
  exact Q.p_lcR h
theorem map_post {bd : U → Env → Option Env} {elt : PEx} {ρ : Env} {G : U → U → Prop} {P : List U → Prop} {X : Er → Prop} : ∀ {us : List U}, (∀ u ∈ us, ∃ ρ1, bd u ρ = some ρ1 ∧ (elt ρ1).pst (fun r => ∃ y, r = .im y ∧ G u y) X) → (∀ ys, Paired G us ys → P ys) → (mapR bd pYes elt ρ us).pst P X := by
  simp only [pst_eq, then_eq] at *
  exact Q.map_post 
theorem p_fz {i : Nat} {p : PSt} {ρ : Env} {o : O} {u : U} {P : Out → Prop} {X : Er → Prop} (e : ρ[i]? = some (.ow o)) (e2 : frzO o = some u) (h : (p (ρ.set i (.im u))).pst P X) : (pFz i p ρ).pst P X := by
  simp only [pst_eq, then_eq] at *
  exact Q.p_fz e e2 h
theorem post_ok {α : Type} {r : Res α} {a : α} {P : α → Prop} {X : Er → Prop} (e : r = .ok a) (h : P a) : r.pst P X := by
  simp only [pst_eq, then_eq] at *
  exact Q.post_ok e h
theorem post_dm {α : Type} {r : Res α} {n : Int} {k : Int → Res α} {P : α → Prop} {X : Er → Prop} (e : r = .dm n k) (h : ∀ i, 0 ≤ i → i < n → (k i).pst P X) : r.pst P X := by
  simp only [pst_eq, then_eq] at *
  exact Q.post_dm e h
theorem post_d1 {α : Type} {r : Res α} {n : Int} {f : Int → α} {P : α → Prop} {X : Er → Prop} (e : r = .dm n fun i => .ok (f i)) (h : ∀ i, 0 ≤ i → i < n → P (f i)) : r.pst P X := by
  simp only [pst_eq, then_eq] at *
  exact Q.post_d1 e h
theorem p_call {n : Nat} {fn : List U → Res R} {pas : PAs} {ρ : Env} {P : R → Prop} {X : Er → Prop} (h : (pas ρ).pst (fun rs => ∃ us, rs.length = n ∧ imRs rs = some us ∧ (fn us).pst P X) X) : (pCall n fn pas ρ).pst P X := by
  simp only [pst_eq, then_eq] at *
  exact Q.p_call h
theorem p_ret {p : PEx} {ρ : Env} {P : Out → Prop} {X : Er → Prop} (h : (p ρ).pst (fun r => P (.rt r ρ)) X) : (pRet p ρ).pst P X := by
  simp only [pst_eq, then_eq] at *
  exact Q.p_ret h
theorem p_and {a b : PTs'} {ρ : Env} {P : Bool → Prop} {X : Er → Prop} (h : (a ρ).pst (fun c => (c = true → (b ρ).pst P X) ∧ (c = false → P false)) X) : (pAnd a b ρ).pst P X := by
  simp only [pst_eq, then_eq] at *
  exact Q.p_and h
theorem p_ts {p : PEx} {ρ : Env} {P : Bool → Prop} {X : Er → Prop} (h : (p ρ).pst (fun r => ∃ b, bR r = some b ∧ P b) X) : (pTs p ρ).pst P X := by
  simp only [pst_eq, then_eq] at *
  exact Q.p_ts h
theorem p_setI {i : Nat} {p pk : PEx} {ρ : List Sl} {os : List O} {u : U} {k j : Nat} {P : Out → Prop} {X : Er → Prop} (e : ρ[i]? = some (.ow (.ol os))) (e1 : p ρ = .ok (.im u)) (e2 : pk ρ = .ok (.im (.int k))) (hj : ixN os.length k = some j) (h : P (.nx (ρ.set i (.ow (.ol (os.set j (.lf u))))))) : (pSetI i p pk ρ).pst P X := by
  simp only [pst_eq, then_eq] at *
  exact Q.p_setI e e1 e2 hj h
theorem p_lst {p : PAs} {ρ : Env} {P : R → Prop} {X : Er → Prop} (h : (p ρ).pst (fun rs => ∃ os, rs.length ≤ 1000 ∧ ownRs rs = some os ∧ P (.fr (.ol os))) X) : (pLst p ρ).pst P X := by
  simp only [pst_eq, then_eq] at *
  exact Q.p_lst h
theorem p_slU {pa p2 : PEx} {ρ : Env} {i : Int} {P : R → Prop} {X : Er → Prop} (e2 : p2 ρ = .ok (.im (.int i))) (h : (pa ρ).pst (fun a => ∃ c, pCut none (some i) a = some c ∧ P c) X) : (pSl pa none (some p2) ρ).pst P X := by
  simp only [pst_eq, then_eq] at *
  exact Q.p_slU e2 h
theorem p_asgT {tg : Tg} {p : PEx} {ρ : Env} {P : Out → Prop} {X : Er → Prop} (h : (p ρ).pst (fun r => ∃ u ρ', imR r = some u ∧ bindT tg u ρ = some ρ' ∧ P (.nx ρ')) X) : (pAsgT tg p ρ).pst P X := by
  simp only [pst_eq, then_eq] at *
  exact Q.p_asgT h
theorem p_for {it : R → Option (List U)} {tg : Tg} {p : PEx} {body : PSt} {ρ : Env} {P : Out → Prop} {X : Er → Prop} (h : (p ρ).pst (fun r => ∃ us, it r = some us ∧ (pLoop (bindT tg) body us ρ).pst P X) X) : (pFor it tg p body ρ).pst P X := by
  simp only [pst_eq, then_eq] at *
  exact Q.p_for h
end Rl
namespace Wn
end Wn


namespace Wn
open PySem PySem.Spec PyProof.Rows L2
end Wn
namespace Rl
open PySem PySem.Spec PyProof.Rows L2 Wn
/-- names: different, all of letters -/
structure Nms (zs : List Str) (n : Nat) : Prop where
  len : zs.length = n
  nd : zs.Nodup
  nm : ∀ z ∈ zs, nameB z = true
theorem Nms.add {zs : List Str} {n : Nat} {z : Str} (h : Nms zs n) (hz : nameB z = true) (hn : z ∉ zs) : Nms (zs ++ [z]) (n + 1) where
  len := by rw [List.length_append, h.len]; rfl
  nd := List.nodup_append.mpr ⟨h.nd, by simp, fun a ha b hb e => hn (by rw [List.mem_singleton] at hb; rw [← hb, ← e]; exact ha)⟩
  nm := fun x hx => (List.mem_append.mp hx).elim (h.nm x) fun q => by rw [List.mem_singleton.mp q]; exact hz
theorem rng_in {n j : Nat} {u : U} (e : (rng n)[j]? = some u) : j < n ∧ u = .int (j : Nat) := by
  have := (List.getElem?_eq_some_iff.mp e).1
  rw [rng_len] at this
  refine ⟨this, ?_⟩
  unfold rng at e
  rw [List.getElem?_map, List.getElem?_range this] at e
  exact (Option.some.inj e).symm
/-- a comprehension without draws -/
theorem map_det {bd : U → Env → Option Env} {cond : PTs'} {elt : PEx} {ρ : Env} {c : U → Bool} {f : U → U} : ∀ {us : List U}, (∀ u ∈ us, ∃ ρ1, bd u ρ = some ρ1 ∧ cond ρ1 = .ok (c u) ∧ (c u = true → elt ρ1 = .ok (.im (f u)))) → mapR bd cond elt ρ us = .ok ((us.filter c).map f)
  | [], _ => rfl
  | u :: us, h => by
    obtain ⟨ρ1, e1, e2, e3⟩ := h u (.head _)
    have ih := map_det (us := us) fun u m => h u (.tail _ m)
    unfold mapR
    rw [e1]
    show ((cond ρ1).bind _) = _
    rw [e2]
    show (if _ then _ else _) = _
    cases hc : c u with
    | true =>
      rw [if_pos rfl, e3 hc, List.filter_cons_of_pos (by rw [hc]), ih]
      rfl
    | false => rw [if_neg (by decide), List.filter_cons_of_neg (by rw [hc]; decide), ih]
def stO (zs : List Str) : List O := zs.map fun z => .lf (.str z)
theorem leafs_st : ∀ zs : List Str, leafs (stO zs) = some (zs.map .str)
  | [] => rfl
  | z :: zs => by
    show (leafs (stO zs)).map _ = _
    rw [leafs_st zs]
    rfl
theorem abc_ix {i : Int} (h0 : 0 ≤ i) (h : i < 26) : pIx (.im (.str "abcdefghijklmnopqrstuvwxyz")) (.im (.int i)) = some (.im (.str ⟨#[97 + i.toNat]⟩)) := by
  unfold pIx iR
  simp only [Option.bind_some]
  rw [if_pos (show (PySem.Str.ofString "abcdefghijklmnopqrstuvwxyz").length ≤ 100000 by decide +kernel), abc_at h0 h]
  rfl
theorem add_str {a b : Str} (h : a.length + b.length ≤ 100000) : pAdd (.im (.str a)) (.im (.str b)) = some (.im (.str (a ++ b))) := by
  unfold pAdd pAddI fI pAddS iR sR
  simp only [Option.bind_none,Option.bind_some,Option.none_or]
  rw [if_pos h, Option.some_or]
theorem ix_lst {us : List U} {i : Nat} {u : U} (h : us[i]? = some u) : pIx (.im (.lst us)) (.im (.int i)) = some (.im u) := by
  show (atI us (i : Nat)).map R.im = _
  rw [atI_nat h]
  rfl
theorem ix_tup {us : List U} {i : Nat} {u : U} (h : us[i]? = some u) : pIx (.im (.tup us)) (.im (.int i)) = some (.im u) := by
  show (atI us (i : Nat)).map R.im = _
  rw [atI_nat h]
  rfl
theorem stO_add (zs : List Str) (x : Str) : stO zs ++ [.lf (.str x)] = stO (zs ++ [x]) := by
  unfold stO
  rw [List.map_append]
  rfl
theorem frz_lfs : ∀ us : List U, frzOs (us.map .lf) = some us
  | [] => rfl
  | u :: us => by
    show (frzO (.lf u)).bind _ = _
    show (frzOs (us.map .lf)).map _ = _
    rw [frz_lfs us]
    rfl
theorem frz_lf (us : List U) : frzO (.ol (us.map .lf)) = some (.lst us) := by
  show (frzOs (us.map .lf)).map _ = _
  rw [frz_lfs]
  rfl
theorem strU_abc : strU "abcdefghijklmnopqrstuvwxyz" = (List.range 26).map fun i => .str ⟨#[97 + i]⟩ := by
  unfold strU
  rw [abc_list, List.map_map]
  rfl
theorem abc_few : (strU "abcdefghijklmnopqrstuvwxyz").length ≤ 100000 := by rw [strU_abc, List.length_map, List.length_range]; decide
theorem abc_in {u : U} (m : u ∈ strU "abcdefghijklmnopqrstuvwxyz") : ∃ i, i < 26 ∧ u = .str ⟨#[97 + i]⟩ := by
  rw [strU_abc] at m
  obtain ⟨i, hi, rfl⟩ := List.mem_map.mp m
  exact ⟨i, List.mem_range.mp hi, rfl⟩
/-- what the rest of the word is, behind z -/
def tailU (z : Str) : U → U
  | .str x => .str (z ++ x)
  | u => u
def freeU (z : Str) (zs : List Str) : U → Bool
  | .str x => !decide (z ++ x ∈ zs)
  | _ => false
theorem free_abc (z : Str) (zs : List Str) : (freeL z zs 26).map U.str = ((strU "abcdefghijklmnopqrstuvwxyz").filter (freeU z zs)).map (tailU z) := by
  rw [strU_abc]
  unfold freeL
  rw [List.filter_map, List.filter_map, List.map_map, List.map_map]
  rfl
theorem strs_flat : ∀ zs : List Str, (zs.map U.str).all flatU = true
  | [] => rfl
  | z :: zs => by rw [List.map_cons, List.all_cons, strs_flat zs]; rfl
theorem strs_any (z : Str) : ∀ zs : List Str, ((zs.map U.str).any fun y => eqU y (.str z)) = decide (z ∈ zs)
  | [] => by simp
  | x :: zs => by
    rw [List.map_cons, List.any_cons, strs_any z zs]
    have e : eqU (.str x) (.str z) = (x == z) := by unfold eqU; rfl
    rw [e]
    by_cases h : x = z
    · subst h; simp
    · rw [beq_eq_false_iff_ne.mpr h, Bool.false_or]
      simp [List.mem_cons, Ne.symm h]
theorem in_strs {z : Str} {zs : List Str} {r : R} (hr : seqR r = some (zs.map U.str) := by rfl) {neg : Bool} : pIn neg (.im (.str z)) r = some (.im (.bl (if neg then !decide (z ∈ zs) else decide (z ∈ zs)))) := by
  unfold pIn uR
  rw [hr]
  simp only [Option.bind_some]
  have e : flatU (.str z) = true := rfl
  rw [if_pos (by unfold fits; rw [e, strs_flat]; rfl), strs_any]
end Rl
namespace Wn
end Wn


namespace Wn
open PySem PySem.Spec PyProof.Rows L2
end Wn
namespace Rl
open PySem PySem.Spec PyProof.Rows L2 Wn
def entU : Option Str → U
  | none => .non
  | some z => .str z
def rowU (r : List (Option Str)) : U := .tup (r.map entU)
def rowOk (r : List (Option Str)) : Prop := ∀ z, some z ∈ r → nameB z = true
theorem ix_in {us : List U} {r : Int} (h0 : 0 ≤ r) (h1 : r < us.length) : ∃ u ∈ us, pIx (.im (.lst us)) (.im (.int r)) = some (.im u) ∧ pIx (.im (.tup us)) (.im (.int r)) = some (.im u) := by
  obtain ⟨k, rfl⟩ := Int.eq_ofNat_of_zero_le h0
  have hl : k < us.length := by omega
  have e : us[k]? = some us[k] := List.getElem?_eq_getElem hl
  exact ⟨us[k], List.getElem_mem hl, ix_lst e, ix_tup e⟩
def EntG (_ y : U) : Prop := ∃ e : Option Str, y = entU e ∧ ∀ z, e = some z → nameB z = true
theorem row_of : ∀ {us ys : List U}, Paired EntG us ys → ∃ row : List (Option Str), ys = row.map entU ∧ row.length = us.length ∧ rowOk row
  | _, _, .nil => ⟨[], rfl, rfl, fun z m => nomatch m⟩
  | _, _, .cons ⟨e, he, ho⟩ h => by
    obtain ⟨row, h1, h2, h3⟩ := row_of h
    refine ⟨e :: row, by rw [he, h1]; rfl, by rw [List.length_cons, List.length_cons, h2], fun z m => ?_⟩
    rcases List.mem_cons.mp m with q | q
    · exact ho z q.symm
    · exact h3 z q
theorem leafs_lf : ∀ us : List U, leafs (us.map .lf) = some us
  | [] => rfl
  | u :: us => by
    show (leafs (us.map .lf)).map _ = _
    rw [leafs_lf us]
    rfl
theorem tup_fr (us : List U) : fTup [.fr (.ol (us.map .lf))] = some (.im (.tup us)) := by
  show (seqR (.fr (.ol (us.map .lf)))).map _ = _
  rw [show seqR (.fr (.ol (us.map .lf))) = some us by show Option.or (leafs (us.map .lf)) (tupR _) = _; rw [leafs_lf]; rfl]
  rfl
/-! a field -/
structure Fld where
  first : Str
  looks : Option Str
  nearA : List (Option Str)
  nearL : List (List (Option Str))
  far : Option (List (Option Str))
def Fld.nearU (f : Fld) : U := match f.looks with
  | none => rowU f.nearA
  | some _ => .tup (f.nearL.map rowU)
def Fld.farU (f : Fld) : U := match f.far with
  | none => .non
  | some r => rowU r
def Fld.toU (f : Fld) : U := .tup [.str f.first, entU f.looks, f.nearU, f.farU]
structure Fld.Ok (ws names : List Str) (name : Str) (f : Fld) : Prop where
  first : f.first ∈ ws
  looks : ∀ l, f.looks = some l → l ≠ name ∧ l ∈ names
  alone : f.looks = none → f.nearA.length = ws.length ∧ rowOk f.nearA
  pairs : ∀ l, f.looks = some l → f.nearL.length = ws.length ∧ ∀ r ∈ f.nearL, r.length = ws.length ∧ rowOk r
  far : ∀ r, f.far = some r → r.length = ws.length ∧ rowOk r
def notU (name : Str) : U → Bool
  | .str x => !decide (x = name)
  | _ => false
theorem len_tup (us : List U) : fLen [.im (.tup us)] = some (.im (.int us.length)) := rfl
theorem len_lst (us : List U) : fLen [.im (.lst us)] = some (.im (.int us.length)) := rfl
theorem eq_int (a b : Int) : pEq false (.im (.int a)) (.im (.int b)) = some (.im (.bl (a == b))) := by
  unfold pEq uR
  simp only [Option.bind_some]
  rw [if_pos (show ((flatU (.int a) && flatU (.int b) && !mixed (.int a) (.int b)) || _) = true by rfl)]
  unfold eqU
  rfl
theorem gt_int (a b : Int) : pGt (.im (.int a)) (.im (.int b)) = some (.im (.bl (decide (a > b)))) := rfl
theorem eq_str {neg : Bool} (a b : Str) : pEq neg (.im (.str a)) (.im (.str b)) = some (.im (.bl (if neg then !(a == b) else a == b))) := by
  unfold pEq uR
  simp only [Option.bind_some]
  rw [if_pos (show ((flatU (.str a) && flatU (.str b) && !mixed (.str a) (.str b)) || _) = true by rfl)]
  unfold eqU
  rfl
theorem others_eq (names : List Str) (name : Str) : ((names.map U.str).filter (notU name)).map id = (names.filter fun x => !decide (x = name)).map U.str := by
  rw [List.map_id, List.filter_map]
  rfl
theorem rows_of {m : Nat} : ∀ {us ys : List U}, Paired (fun _ y => ∃ row, y = rowU row ∧ row.length = m ∧ rowOk row) us ys → ∃ L : List (List (Option Str)), ys = L.map rowU ∧ L.length = us.length ∧ ∀ r ∈ L, r.length = m ∧ rowOk r
  | _, _, .nil => ⟨[], rfl, rfl, fun z m => nomatch m⟩
  | _, _, .cons ⟨row, he, h0, ho⟩ h => by
    obtain ⟨L, h1, h2, h3⟩ := rows_of h
    refine ⟨row :: L, by rw [he, h1]; rfl, by rw [List.length_cons, List.length_cons, h2], fun z m => ?_⟩
    rcases List.mem_cons.mp m with q | q
    · rw [q]; exact ⟨h0, ho⟩
    · exact h3 z q
end Rl
namespace Wn
end Wn


namespace Wn
open PySem PySem.Spec PyProof.Rows L2
end Wn
namespace Rl
open PySem PySem.Spec PyProof.Rows L2 Wn
structure Parts where
  ws : List Str
  fs : List (Str × Fld)
  room : Int
def pairU (p : Str × Fld) : U := .tup [.str p.1, p.2.toU]
def Parts.fieldsU (F : Parts) : U := .tup (F.fs.map pairU)
def Parts.toU (F : Parts) : U := .tup [.tup (F.ws.map .str), F.fieldsU, .int F.room]
structure Parts.Ok (F : Parts) : Prop where
  w2 : 2 ≤ F.ws.length
  w3 : F.ws.length ≤ 3
  wn : F.ws.Nodup
  wk : ∀ z ∈ F.ws, nameB z = true
  f1 : 1 ≤ F.fs.length
  f3 : F.fs.length ≤ 3
  fn : (F.fs.map (·.1)).Nodup
  fk : ∀ z ∈ F.fs.map (·.1), nameB z = true
  fld : ∀ p ∈ F.fs, p.2.Ok F.ws (F.fs.map (·.1)) p.1
  r1 : 1 ≤ F.room
  r3 : F.room ≤ 3
theorem stO_lf (zs : List Str) : stO zs = (zs.map U.str).map .lf := by
  unfold stO
  rw [List.map_map]
  rfl
theorem Nms.set0 {zs : List Str} {n : Nat} {z : Str} (h : Nms zs n) (hz : nameB z = true) (hn : z ∉ zs) : Nms (zs.set 0 z) n := by
  cases zs with
  | nil => exact h
  | cons x zs =>
    have nd := List.nodup_cons.mp h.nd
    refine ⟨by rw [← h.len]; rfl, List.nodup_cons.mpr ⟨fun m => hn (.tail _ m), nd.2⟩, fun y m => ?_⟩
    rcases List.mem_cons.mp m with q | q
    · rw [q]; exact hz
    · exact h.nm y (.tail _ q)
theorem pairs_of {ws names : List Str} : ∀ {ns : List Str} {ys : List U}, Paired (fun u y => ∀ n : Str, u = .str n → ∃ f : Fld, y = pairU (n, f) ∧ f.Ok ws names n) (ns.map U.str) ys → ∃ fs : List (Str × Fld), ys = fs.map pairU ∧ fs.map (·.1) = ns ∧ ∀ p ∈ fs, p.2.Ok ws names p.1
  | [], _, .nil => ⟨[], rfl, rfl, fun z m => nomatch m⟩
  | n :: ns, _, .cons h k => by
    obtain ⟨f, e, ok⟩ := h n rfl
    obtain ⟨fs, h1, h2, h3⟩ := pairs_of k
    refine ⟨(n, f) :: fs, by rw [e, h1]; rfl, by rw [List.map_cons, h2], fun z m => ?_⟩
    rcases List.mem_cons.mp m with q | q
    · rw [q]; exact ok
    · exact h3 z q
end Rl
namespace Wn
end Wn


namespace Wn
open PySem PySem.Spec PyProof.Rows L2
end Wn
namespace Rl
open PySem PySem.Spec PyProof.Rows L2 Wn
/-! readings without draws: what they are -/
theorem e_seq {p q : PSt} {ρ ρ' : Env} {x : Res Out} (e : p ρ = .ok (.nx ρ')) (h : q ρ' = x) : pSeq p q ρ = x := by unfold pSeq; rw [e]; exact h
theorem e_seqR {p q : PSt} {ρ ρ' : Env} {r : R} (e : p ρ = .ok (.rt r ρ')) : pSeq p q ρ = .ok (.rt r ρ') := by unfold pSeq; rw [e]; rfl
theorem e_seqX {p q : PSt} {ρ : Env} {x : Er} (e : p ρ = .ex x) : pSeq p q ρ = .ex x := by unfold pSeq; rw [e]; rfl
theorem e_if {c : PTs'} {p q : PSt} {ρ : Env} {b : Bool} {x : Res Out} (e : c ρ = .ok b) (h1 : b = true → p ρ = x) (h0 : b = false → q ρ = x) : pIfS c p q ρ = x := by
  unfold pIfS
  rw [e]
  cases b with
  | true => exact h1 rfl
  | false => exact h0 rfl
theorem e_ret {p : PEx} {ρ : Env} {r : R} (e : p ρ = .ok r) : pRet p ρ = .ok (.rt r ρ) := by unfold pRet; rw [e]; rfl
theorem e_run {body : PSt} {m : Nat} {us : List U} {ρ ρ' : Env} {r : R} (e : us.map Sl.im ++ List.replicate m Sl.un = ρ) (h : body ρ = .ok (.rt r ρ')) : runF body m us = .ok r := by
  subst e
  unfold runF
  rw [h]
  rfl
theorem e_or {a b : PTs'} {ρ : Env} {x y : Bool} (e : a ρ = .ok x) (h : x = false → b ρ = .ok y) : pOr a b ρ = .ok (x || y) := by
  unfold pOr
  rw [e]
  cases x with
  | true => rfl
  | false => exact h rfl
theorem e_and {a b : PTs'} {ρ : Env} {x y : Bool} (e : a ρ = .ok x) (h : x = true → b ρ = .ok y) : pAnd a b ρ = .ok (x && y) := by
  unfold pAnd
  rw [e]
  cases x with
  | true => exact h rfl
  | false => rfl
theorem e_not {a : PTs'} {ρ : Env} {x : Bool} (e : a ρ = .ok x) : pNot a ρ = .ok (!x) := by unfold pNot; rw [e]; rfl
theorem e_b {a : PTs'} {ρ : Env} {x : Bool} (e : a ρ = .ok x) : pB a ρ = .ok (.im (.bl x)) := by unfold pB; rw [e]; rfl
theorem e_ts {p : PEx} {ρ : Env} {x : Bool} (e : p ρ = .ok (.im (.bl x))) : pTs p ρ = .ok x := by unfold pTs; rw [e]; rfl
theorem e_tru {p : PEx} {ρ : Env} {x : Bool} (e : p ρ = .ok (.im (.bl x))) : pTru p ρ = .ok x := by unfold pTru; rw [e]; rfl
theorem e_fn {f : List R → Option R} {p : PAs} {ρ : Env} {rs : List R} {r : R} (e : p ρ = .ok rs) (h : f rs = some r) : pFn f p ρ = .ok r := by unfold pFn; rw [e]; show Res.opt (f rs) = _; rw [h]; rfl
theorem e_op {f : R → R → Option R} {a b : PEx} {ρ : Env} {x y r : R} (e : a ρ = .ok x) (e2 : b ρ = .ok y) (h : f x y = some r) : pOp f a b ρ = .ok r := by unfold pOp; rw [e]; show (b ρ).bind _ = _; rw [e2]; show Res.opt (f x y) = _; rw [h]; rfl
theorem e_cons {a : PEx} {b : PAs} {ρ : Env} {x : R} {xs : List R} (e : a ρ = .ok x) (h : b ρ = .ok xs) : pCons a b ρ = .ok (x :: xs) := by unfold pCons; rw [e]; show (b ρ).bind _ = _; rw [h]; rfl
theorem e_call {n : Nat} {fn : List U → Res R} {pas : PAs} {ρ : Env} {rs : List R} {us : List U} {x : Res R} (e : pas ρ = .ok rs) (l : rs.length = n) (h : imRs rs = some us) (k : fn us = x) : pCall n fn pas ρ = x := by
  unfold pCall
  rw [e]
  show ((Res.opt (if _ then _ else _)).bind _) = _
  rw [if_pos l, h]
  exact k
theorem e_lc {it : R → Option (List U)} {tg : Tg} {elt p : PEx} {vs : List Nat} {ρ : Env} {r : R} {us : List U} {f : U → U} (e : p ρ = .ok r) (h : it r = some us) (l : us.length ≤ 100000) (k : ∀ u ∈ us, ∃ ρ1, bindT tg u (wipeE ρ vs) = some ρ1 ∧ elt ρ1 = .ok (.im (f u))) : pLC it tg pYes elt vs p ρ = .ok (.fr (.ol ((us.map f).map .lf))) := by
  unfold pLC
  rw [e]
  show ((Res.opt (it r)).bind _) = _
  rw [h]
  show lcEnd us _ = _
  unfold lcEnd
  have m := map_det (bd := bindT tg) (cond := pYes) (elt := elt) (ρ := wipeE ρ vs) (c := fun _ => true) (f := f) (us := us) fun u m => by
    obtain ⟨ρ1, e1, e2⟩ := k u m
    exact ⟨ρ1, e1, rfl, fun _ => e2⟩
  rw [if_pos l, m, List.filter_eq_self.mpr (fun _ _ => rfl)]
  rfl
theorem bools_map (g : U → Bool) : ∀ us : List U, bools (us.map fun u => .bl (g u)) = some (us.map g)
  | [] => rfl
  | u :: us => by
    show (bools (us.map fun u => .bl (g u))).map _ = _
    rw [bools_map g us]
    rfl
theorem all_map (g : U → Bool) (us : List U) : fAll [.fr (.ol ((us.map fun u => U.bl (g u)).map .lf))] = some (.im (.bl (us.all g))) := by
  show ((leafs _).bind _) = _
  rw [leafs_lf]
  show ((bools _).map _) = _
  rw [bools_map]
  show some (R.im (.bl ((us.map g).all id))) = _
  rw [List.all_map]
  rfl
/-- a comprehension of truths, all of them -/
theorem e_all {it : R → Option (List U)} {tg : Tg} {elt p : PEx} {vs : List Nat} {ρ : Env} {r : R} {us : List U} (g : U → Bool) (e : p ρ = .ok r) (h : it r = some us) (l : us.length ≤ 100000) (k : ∀ u ∈ us, ∃ ρ1, bindT tg u (wipeE ρ vs) = some ρ1 ∧ elt ρ1 = .ok (.im (.bl (g u)))) : pFn fAll (pCons (pLC it tg pYes elt vs p) pNil) ρ = .ok (.im (.bl (us.all g))) :=
  e_fn (e_cons (e_lc (f := fun u => .bl (g u)) e h l k) rfl) (all_map g us)
theorem e_isi {p : PEx} {ρ : Env} {u : U} {t n : String} (e : p ρ = .ok (.im u)) (ht : tyR (.im u) = some t) (h1 : t ∈ tys) (h2 : n ∈ tys.tail) : pFn fIsi (pCons p (pCons (pC (.ty n)) pNil)) ρ = .ok (.im (.bl (isT t n))) :=
  e_fn (e_cons e rfl) (by
    show (tyR (.im u)).bind _ = _
    rw [ht]
    exact if_pos ⟨h1, h2⟩)
theorem e_ch {f f' : R → R → Option R} {a b c : PEx} {ρ : Env} {x y z : R} {k k' : Bool} (e1 : a ρ = .ok x) (e2 : b ρ = .ok y) (h : f x y = some (.im (.bl k))) (e3 : c ρ = .ok z) (h' : f' y z = some (.im (.bl k'))) : pCh f f' a b c ρ = .ok (.im (.bl (k && k'))) := by
  unfold pCh
  rw [e1]
  show ((b ρ).bind _) = _
  rw [e2]
  show ((Res.opt ((f x y).bind bR)).bind _) = _
  rw [h]
  show (if k = true then _ else _) = _
  cases k with
  | false => rfl
  | true =>
    show ((c ρ).bind _) = _
    rw [e3]
    show Res.opt (f' y z) = _
    rw [h']
    rfl
theorem e_len {p : PEx} {ρ : Env} {us : List U} {r : R} (e : p ρ = .ok r) (h : sR r = none) (h2 : seqR r = some us) : pFn fLen (pCons p pNil) ρ = .ok (.im (.int us.length)) :=
  e_fn (e_cons e rfl) (by
    unfold fLen
    simp only [h, h2]
    rfl)
theorem e_lenS {p : PEx} {ρ : Env} {z : Str} (e : p ρ = .ok (.im (.str z))) (h : z.length ≤ 1000) : pFn fLen (pCons p pNil) ρ = .ok (.im (.int z.length)) := e_fn (e_cons e rfl) (if_pos (by omega))
theorem le_nat (a b : Nat) : pLe (.im (.int a)) (.im (.int b)) = some (.im (.bl (decide (a ≤ b)))) := by
  show some (R.im (.bl (decide ((a : Int) ≤ b)))) = _
  congr 3
  exact decide_eq_decide.mpr Int.ofNat_le
theorem letter_a (c : Nat) : pLeS (.im (.str "a")) (.im (.str ⟨#[c]⟩)) = some (.im (.bl (decide (97 ≤ c)))) := by
  show some (R.im (.bl (!decide (([c] : List Nat) < (PySem.Str.ofString "a").cps.toList)))) = _
  rw [show (PySem.Str.ofString "a").cps.toList = [97] by decide +kernel]
  congr 3
  by_cases h : 97 ≤ c
  · rw [decide_eq_true h, decide_eq_false (by simp [List.cons_lt_cons_iff]; omega)]; rfl
  · rw [decide_eq_false h, decide_eq_true (by simp [List.cons_lt_cons_iff]; omega)]; rfl
theorem letter_z (c : Nat) : pLeS (.im (.str ⟨#[c]⟩)) (.im (.str "z")) = some (.im (.bl (decide (c ≤ 122)))) := by
  show some (R.im (.bl (!decide ((PySem.Str.ofString "z").cps.toList < ([c] : List Nat))))) = _
  rw [show (PySem.Str.ofString "z").cps.toList = [122] by decide +kernel]
  congr 3
  by_cases h : c ≤ 122
  · rw [decide_eq_true h, decide_eq_false (by simp [List.cons_lt_cons_iff]; omega)]; rfl
  · rw [decide_eq_false h, decide_eq_true (by simp [List.cons_lt_cons_iff]; omega)]; rfl
def lowU : U → Bool
  | .str x => lowB x
  | _ => false
theorem low_all (z : Str) : (strU z).all lowU = lowB z := by
  unfold strU lowB
  rw [List.all_map]
  congr 1
  funext c
  show (([c] : List Nat).all fun c => decide (97 ≤ c) && decide (c ≤ 122)) = _
  simp
theorem low1 (c : Nat) : lowU (.str ⟨#[c]⟩) = (decide (97 ≤ c) && decide (c ≤ 122)) := by
  show lowB ⟨#[c]⟩ = _
  unfold lowB
  simp
theorem nameB_eq (z : Str) : nameB z = (decide (1 ≤ z.length) && decide (z.length ≤ 8) && lowB z) := rfl
/-- a plain value -/
def tyU : U → Option String
  | .str z => if z.length ≤ 1000 then some "str" else none
  | .tup us => if us.length ≤ 1000 then some "tuple" else none
  | .lst us => if us.length ≤ 1000 then some "list" else none
  | u => tyR (.im u)
def nameU : U → Bool
  | .str z => nameB z
  | _ => false
theorem isi_no {u : U} {n : String} {ρ : Env} {p : PEx} (e : p ρ = .ok (.im u)) (k : (∃ t, tyR (.im u) = some t ∧ t ∈ tys ∧ n ∈ tys.tail ∧ isT t n = false)) : pFn fIsi (pCons p (pCons (pC (.ty n)) pNil)) ρ = .ok (.im (.bl false)) := by
  obtain ⟨t, h1, h2, h3, h4⟩ := k
  rw [e_isi e h1 h2 h3, h4]
theorem is_name_str {z : Str} (h : z.length ≤ 1000) : F_is_name [.str z] = .ok (.im (.bl (nameB z))) := by
  unfold F_is_name
  refine e_run (ρ := [.im (.str z), .un]) (ρ' := [.im (.str z), .un]) rfl ?_
  unfold B_is_name
  have hi : pFn fIsi (pCons (pVar 0) (pCons (pC (.ty "str")) pNil)) [.im (.str z), .un] = .ok (.im (.bl true)) := e_isi (t := "str") rfl rfl (by decide) (by decide)
  have hc : pTs (pCh pLe pLe (pC (.int 1)) (pFn fLen (pCons (pVar 0) pNil)) (pC (.int 8))) [.im (.str z), .un] = .ok (decide (1 ≤ z.length) && decide (z.length ≤ 8)) :=
    e_ts (e_ch rfl (e_lenS rfl h) (le_nat 1 z.length) rfl (le_nat z.length 8))
  have ho := e_or (e_not (e_tru hi)) fun _ => e_not hc
  rw [nameB_eq]
  cases hb : (decide (1 ≤ z.length) && decide (z.length ≤ 8)) with
  | true =>
    rw [hb] at ho
    refine e_seq (e_if ho (fun h => nomatch h) fun _ => rfl) (e_ret ?_)
    have := e_all (it := strR) (tg := .nm 1) (elt := pCh pLeS pLeS (pC (.str "a")) (pVar 1) (pC (.str "z"))) (p := pVar 0) (vs := [1]) (ρ := [.im (.str z), .un]) (r := .im (.str z)) (us := strU z) lowU rfl rfl (by rw [strU_len]; exact Nat.le_trans h (by decide)) (fun u m => ?_)
    · rw [this, low_all, Bool.true_and]
    · obtain ⟨c, hc, rfl⟩ := List.mem_map.mp m
      refine ⟨_, rfl, ?_⟩
      rw [show lowU (.str ⟨#[c]⟩) = (decide (97 ≤ c) && decide (c ≤ 122)) from low1 c]
      exact e_ch (x := .im (.str "a")) (y := .im (.str ⟨#[c]⟩)) (z := .im (.str "z")) rfl rfl (letter_a c) rfl (letter_z c)
  | false =>
    rw [hb] at ho
    exact e_seqR (e_if ho (fun _ => rfl) fun h => nomatch h)
theorem is_name_no {u : U} (h : ∃ t, tyR (.im u) = some t ∧ t ∈ tys ∧ isT t "str" = false) : F_is_name [u] = .ok (.im (.bl false)) := by
  obtain ⟨t, h1, h2, h3⟩ := h
  unfold F_is_name
  refine e_run (ρ := [.im u, .un]) (ρ' := [.im u, .un]) rfl ?_
  unfold B_is_name
  have hi : pFn fIsi (pCons (pVar 0) (pCons (pC (.ty "str")) pNil)) [.im u, .un] = .ok (.im (.bl (isT t "str"))) := e_isi rfl h1 h2 (by decide)
  rw [h3] at hi
  exact e_seqR (e_if (e_or (e_not (e_tru hi)) (y := true) (fun h => nomatch h)) (fun _ => rfl) fun h => nomatch h)
/-- a plain value: one that isinstance knows, not long -/
inductive Pl : U → Prop
  | non : Pl .non
  | bl (b : Bool) : Pl (.bl b)
  | int (i : Int) : Pl (.int i)
  | str {z : Str} (h : z.length ≤ 1000) (a : (z.cps.toList.all fun c => decide (c < 128)) = true) : Pl (.str z)
  | tup {us : List U} (l : us.length ≤ 1000) (h : ∀ u ∈ us, Pl u) : Pl (.tup us)
  | lst {us : List U} (l : us.length ≤ 1000) (h : ∀ u ∈ us, Pl u) : Pl (.lst us)
  | emp : Pl .emp
theorem is_name_eq {u : U} (h : Pl u) : F_is_name [u] = .ok (.im (.bl (nameU u))) := by
  cases h with
  | str h => exact is_name_str h
  | non => exact is_name_no ⟨_, rfl, by decide, by decide⟩
  | bl b => exact is_name_no ⟨_, rfl, by decide, by decide⟩
  | int i => exact is_name_no ⟨_, rfl, by decide, by decide⟩
  | tup l h => exact is_name_no ⟨_, rfl, by decide, by decide⟩
  | lst l h => exact is_name_no ⟨_, rfl, by decide, by decide⟩
  | emp => exact is_name_no ⟨_, rfl, by decide, by decide⟩
/-! rows -/
def rowB (n : Nat) : U → Bool
  | .tup us => us.length == n && us.all fun u => match u with | .non => true | u => nameU u
  | _ => false
def hasB (n : Nat) : U → Bool
  | .tup us => us.length == n
  | _ => false
theorem isi_tup {p : PEx} {ρ : Env} {u : U} (e : p ρ = .ok (.im u)) (h : Pl u) : pFn fIsi (pCons p (pCons (pC (.ty "tuple")) pNil)) ρ = .ok (.im (.bl (match u with | .tup _ => true | _ => false))) := by
  cases h with
  | str h => exact e_isi e rfl (by decide) (by decide)
  | non => exact e_isi e rfl (by decide) (by decide)
  | bl b => exact e_isi e rfl (by decide) (by decide)
  | int i => exact e_isi e rfl (by decide) (by decide)
  | tup l h => exact e_isi e rfl (by decide) (by decide)
  | lst l h => exact e_isi e rfl (by decide) (by decide)
  | emp => exact e_isi e rfl (by decide) (by decide)
theorem eq_nat (a b : Nat) : pEq false (.im (.int a)) (.im (.int b)) = some (.im (.bl (a == b))) := by
  rw [eq_int]
  congr 3
  rw [Bool.eq_iff_iff, beq_iff_eq, beq_iff_eq]
  exact Int.ofNat_inj
theorem has_items_eq {u : U} (h : Pl u) (n : Nat) : F_has_items [u, .int n] = .ok (.im (.bl (hasB n u))) := by
  unfold F_has_items
  refine e_run (ρ := [.im u, .im (.int n)]) (ρ' := [.im u, .im (.int n)]) rfl ?_
  unfold B_has_items
  refine e_ret (e_b ?_)
  have h1 := e_ts (isi_tup (p := pVar 0) (ρ := [.im u, .im (.int n)]) rfl h)
  cases u with
  | tup us => exact e_and h1 fun _ => e_ts (e_op (e_len (us := us) rfl rfl rfl) rfl (eq_nat us.length n))
  | _ => exact e_and (y := false) h1 fun h => nomatch h
def nonU : U → Bool
  | .non => true
  | _ => false
theorem is_non {u : U} : pIs false (.im u) (.im .non) = some (.im (.bl (nonU u))) := by
  cases u <;> rfl
end Rl
namespace Wn
end Wn


namespace Wn
open PySem PySem.Spec PyProof.Rows L2
end Wn
namespace Rl
open PySem PySem.Spec PyProof.Rows L2 Wn
def rowsB (n : Nat) : U → Bool
  | .tup us => us.length == n && us.all (rowB n)
  | _ => false
def nearB (n : Nat) : U → U → Bool
  | .non, v => rowB n v
  | _, v => rowsB n v
theorem e_frz {p : PEx} {ρ : Env} {u : U} (e : p ρ = .ok (.im u)) : pFrz p ρ = .ok (.im u) := by unfold pFrz; rw [e]; rfl
theorem e_frzL {p : PEx} {ρ : Env} {us : List U} (e : p ρ = .ok (.fr (.ol (us.map .lf)))) : pFrz p ρ = .ok (.im (.lst us)) := by
  unfold pFrz
  rw [e]
  show Res.opt ((frzO (.ol (us.map .lf))).map R.im) = _
  rw [frz_lf]
  rfl
/-! names -/
def strsU : List U → List Str
  | [] => []
  | .str z :: us => z :: strsU us
  | _ :: us => strsU us
def nmsB (us : List U) : Bool := us.all nameU && (WnSet.cnt (strsU us) (strsU us).length == us.length)
theorem txts_names : ∀ {us : List U}, us.all nameU = true → txts us = some (strsU us) ∧ (strsU us).length = us.length
  | [], _ => ⟨rfl, rfl⟩
  | u :: us, h => by
    rw [List.all_cons, Bool.and_eq_true] at h
    obtain ⟨h1, h2⟩ := txts_names h.2
    cases u with
    | str z => exact ⟨by show (txts us).map _ = _; rw [h1]; rfl, by show (strsU us).length + 1 = us.length + 1; rw [h2]⟩
    | _ => cases h.1
theorem are_names_eq {w : U} {us : List U} (hw : w = .tup us ∨ w = .lst us) (l : us.length ≤ 1000) (h : ∀ u ∈ us, Pl u) : F_are_names [w] = .ok (.im (.bl (nmsB us))) := by
  have hs : seqR (.im w) = some us := by rcases hw with rfl | rfl <;> rfl
  have hs2 : sR (.im w) = none := by rcases hw with rfl | rfl <;> rfl
  unfold F_are_names
  refine e_run (ρ := [.im w, .un]) (ρ' := [.im w, .un]) rfl ?_
  unfold B_are_names
  refine e_ret (e_b ?_)
  refine e_and (e_ts (e_all (r := .im w) nameU rfl hs (by omega) fun u m => ⟨[.im w, .im u], rfl, e_frz (e_call (us := [u]) rfl rfl rfl (is_name_eq (h u m)))⟩)) fun hall => e_ts ?_
  obtain ⟨h1, h2⟩ := txts_names hall
  have e1 : pUn lenSetR (pVar 0) [.im w, .un] = .ok (.im (.int (WnSet.cnt (strsU us) (strsU us).length : Nat))) := by
    show Res.opt (lenSetR (.im w)) = _
    unfold lenSetR
    rw [hs]
    show Res.opt ((txts us).bind _) = _
    rw [h1]
    show Res.opt (if _ then _ else _) = _
    rw [if_pos (by omega)]
    rfl
  exact e_op e1 (e_len (r := .im w) rfl hs2 hs) (eq_nat _ _)
def wordsB : U → Bool
  | .tup us => decide (2 ≤ us.length) && decide (us.length ≤ 3) && nmsB us
  | _ => false
def tupB : U → Bool
  | .tup _ => true
  | _ => false
theorem isi_tupB {p : PEx} {ρ : Env} {u : U} (e : p ρ = .ok (.im u)) (h : Pl u) : pFn fIsi (pCons p (pCons (pC (.ty "tuple")) pNil)) ρ = .ok (.im (.bl (tupB u))) := by
  have := isi_tup e h
  cases h <;> exact this
/-! pairs -/
def fstU : U → U
  | .tup (a :: _) => a
  | u => u
def sndU : U → U
  | .tup (_ :: b :: _) => b
  | u => u
theorem pair_of {p : U} (h : hasB 2 p = true) : ∃ a b, p = .tup [a, b] := by
  cases p with
  | tup us =>
    match us, h with
    | [a, b], _ => exact ⟨a, b, rfl⟩
  | _ => cases h
def fieldsB : U → Bool
  | .tup ps => (decide (1 ≤ ps.length) && decide (ps.length ≤ 3)) && (ps.all (hasB 2) && (nmsB (ps.map fstU) && ps.all fun p => hasB 4 (sndU p)))
  | _ => false
theorem Pl.items {us : List U} (h : Pl (.tup us)) : us.length ≤ 1000 ∧ ∀ u ∈ us, Pl u := by
  cases h with
  | tup l h => exact ⟨l, h⟩
end Rl
namespace Wn
end Wn


namespace Wn
open PySem PySem.Spec PyProof.Rows L2
end Wn
namespace Rl
open PySem PySem.Spec PyProof.Rows L2 Wn
theorem name_strOk {z : Str} (h : nameB z = true) : PyData.strOk z = true := by
  have h2 := nameB_low h
  unfold lowB at h2
  unfold PyData.strOk
  rw [List.all_eq_true] at h2
  rw [Array.all_eq_true]
  intro i hi
  have h3 := h2 z.cps[i] (by rw [Array.mem_toList_iff]; exact Array.getElem_mem hi)
  simp only [Bool.and_eq_true, decide_eq_true_eq] at h3
  simp only [decide_eq_true_eq]
  omega
theorem toPys_strs : ∀ xs : List Str, toPys (xs.map .str) = some (xs.map PyData.str)
  | [] => rfl
  | x :: xs => by
    show ((toPy (.str x)).bind _) = _
    show ((toPys (xs.map .str)).map _) = _
    rw [toPys_strs xs]
    rfl
theorem strs_lay : ∀ {xs : List Str}, (∀ z ∈ xs, nameB z = true) → PyData.canLayAll0 (xs.map PyData.str) = true
  | [], _ => rfl
  | x :: xs, h => by
    show (PyData.canLay0 (.str x) && PyData.canLayAll0 (xs.map PyData.str)) = true
    rw [strs_lay fun z m => h z (.tail _ m), Bool.and_true]
    exact name_strOk (h x (.head _))
theorem strs_depth : ∀ xs : List Str, PyData.depthAll (xs.map PyData.str) ≤ 1
  | [] => by decide
  | x :: xs => by
    have := strs_depth xs
    show max (PyData.depth (.str x)) (PyData.depthAll (xs.map PyData.str)) ≤ 1
    exact Nat.max_le.mpr ⟨by show 0 ≤ 1; decide, this⟩
theorem names_shp {xs : List Str} (h : ∀ z ∈ xs, nameB z = true) : shp (.lst (xs.map .str)) = true := by
  unfold shp toPy
  rw [toPys_strs]
  show SeqAt.shaped (.list (xs.map PyData.str)) = true
  unfold SeqAt.shaped
  have d := strs_depth xs
  rw [show PyData.canLay0 (.list (xs.map PyData.str)) = true from strs_lay h, Bool.true_and]
  refine decide_eq_true ?_
  show PyData.depthAll (xs.map PyData.str) + 1 ≤ 64
  omega
theorem name_shp {z : Str} (h : nameB z = true) : shp (.str z) = true := by
  show SeqAt.shaped (.str z) = true
  unfold SeqAt.shaped
  rw [show PyData.canLay0 (.str z) = true from name_strOk h]
  rfl
/-- comparable with texts -/
def Cm (u : U) : Prop := u = .emp ∨ flatU u = true ∨ shp u = true
def inB (u : U) (xs : List Str) : Bool := match u with
  | .str z => decide (z ∈ xs)
  | _ => false
def eqB (u : U) (x : Str) : Bool := match u with
  | .str z => z == x
  | _ => false
theorem any_in {u : U} : ∀ {xs : List Str}, ((xs.map U.str).any fun y => eqU y u) = inB u xs := by
  intro xs
  cases u with
  | str z => exact strs_any z xs
  | _ =>
    refine List.any_eq_false.mpr fun y m => ?_
    obtain ⟨x, _, rfl⟩ := List.mem_map.mp m
    simp [eqU]
theorem allS_strs : ∀ xs : List Str, allS (xs.map .str) = true
  | [] => rfl
  | x :: xs => by
    show (true && allS (xs.map .str)) = true
    rw [allS_strs xs]
    rfl
theorem notin_X {u : U} (h : Cm u) {xs : List Str} (hx : ∀ z ∈ xs, nameB z = true) {r : R} (hr : seqR r = some (xs.map .str)) : pInX true (.im u) r = some (.im (.bl (!inB u xs))) := by
  unfold pInX
  have gen : fits u (xs.map .str) = true → pIn true (.im u) r = some (.im (.bl (!inB u xs))) := fun hf => by
    unfold pIn
    show (some u).bind _ = _
    rw [hr]
    show (if _ then _ else _) = _
    rw [if_pos hf, any_in]
    rfl
  rcases h with rfl | h | h
  · have e : pIn true (.im .emp) r = none := by
      unfold pIn
      show (some U.emp).bind _ = _
      rw [hr]
      rfl
    rw [e]
    show pInE true (.im .emp) r = _
    unfold pInE
    rw [hr]
    show (if _ then _ else _) = _
    rw [if_pos (allS_strs xs)]
    rfl
  · rw [gen (by unfold fits; rw [h, strs_flat]; rfl)]; rfl
  · rw [gen (by unfold fits; rw [h, names_shp hx]; simp)]; rfl
theorem eq_X {u : U} (h : Cm u) {x : Str} (hx : nameB x = true) : pEqX (.im u) (.im (.str x)) = some (.im (.bl (eqB u x))) := by
  unfold pEqX
  have gen : ((flatU u && flatU (.str x) && !mixed u (.str x)) || (shp u && shp (.str x))) = true → pEq false (.im u) (.im (.str x)) = some (.im (.bl (eqB u x))) := fun hf => by
    unfold pEq
    show (if ((flatU u && flatU (.str x) && !mixed u (.str x)) || (shp u && shp (.str x))) = true then some (R.im (.bl (eqU u (.str x)))) else none) = _
    rw [if_pos hf]
    cases u <;> simp [eqU, eqB]
  rcases h with rfl | h | h
  · rfl
  · rw [gen (by rw [h]; cases u <;> rfl)]; rfl
  · rw [gen (by rw [h, name_shp hx]; simp)]; rfl
def wrongU (ws ns : List Str) (name : Str) (a k v w : U) : U :=
  if (!inB a ws) = true then .str "first" else if (!nonU k && (eqB k name || !inB k ns)) = true then .str "looks" else if (!nearB ws.length k v) = true then .str "near" else if (!nonU w && !rowB ws.length w) = true then .str "far" else .non
theorem not_non {u : U} : pIs true (.im u) (.im .non) = some (.im (.bl (!nonU u))) := by cases u <;> rfl
end Rl
namespace Wn
end Wn


namespace Wn
open PySem PySem.Spec PyProof.Rows L2
end Wn
namespace Rl
open PySem PySem.Spec PyProof.Rows L2 Wn
def wholeB : U → Bool
  | .int i => decide (1 ≤ i) && decide (i ≤ 3)
  | _ => false
theorem le_i (a b : Int) : pLe (.im (.int a)) (.im (.int b)) = some (.im (.bl (decide (a ≤ b)))) := rfl
theorem names_strs : ∀ {us : List U}, us.all nameU = true → us = (strsU us).map .str ∧ ∀ z ∈ strsU us, nameB z = true
  | [], _ => ⟨rfl, fun z m => nomatch m⟩
  | u :: us, h => by
    rw [List.all_cons, Bool.and_eq_true] at h
    obtain ⟨h1, h2⟩ := names_strs h.2
    cases u with
    | str z =>
      refine ⟨by show U.str z :: us = U.str z :: (strsU us).map .str; rw [← h1], fun y m => ?_⟩
      rcases List.mem_cons.mp m with q | q
      · rw [q]; exact h.1
      · exact h2 y q
    | _ => cases h.1
/-- a field's four, and what is wrong in it -/
def pairW (ws ns : List Str) : U → U
  | .tup [.str n, .tup [a, k, v, w]] => wrongU ws ns n a k v w
  | _ => .non
def firstW (ws ns : List Str) : List U → Option (U × U)
  | [] => none
  | p :: ps => if nonU (pairW ws ns p) = true then firstW ws ns ps else some (pairW ws ns p, fstU p)
def checkU (w f s : U) : Option (U × U) :=
  if (!wordsB w) = true then some (.str "words", .str "") else if (!fieldsB f) = true then some (.str "fields", .str "") else
    match w, f with
    | .tup ws, .tup ps => match firstW (strsU ws) (strsU (ps.map fstU)) ps with
      | some e => some e
      | none => if (!wholeB s) = true then some (.str "room", .str "") else none
    | _, _ => none
/-- the values that stand where texts are looked for can be compared with texts -/
def DomF (f : U) : Prop := ∀ ps, f = .tup ps → ∀ n a k v w, .tup [n, .tup [a, k, v, w]] ∈ ps → Cm a ∧ Cm k
theorem four_of {p : U} (h : hasB 4 p = true) : ∃ a k v w, p = .tup [a, k, v, w] := by
  cases p with
  | tup us =>
    match us, h with
    | [a, b, c, d], _ => exact ⟨a, b, c, d, rfl⟩
  | _ => cases h
def raiseO (x : Option (U × U)) (r : Res Out) : Res Out := match x with
  | some (p, n) => .ex ⟨0, [n, p]⟩
  | none => r
theorem e_rz {pas : PAs} {ρ : Env} {a b : U} (e : pas ρ = .ok [.im a, .im b]) : pRz 0 2 pas ρ = .ex ⟨0, [b, a]⟩ := by unfold pRz; rw [e]; rfl
theorem e_asg {i : Nat} {p : PEx} {ρ ρ' : Env} {r : R} (e : p ρ = .ok r) (h : bindR i r ρ = some ρ') : pAsg i p ρ = .ok (.nx ρ') := by
  unfold pAsg
  rw [e]
  show ((Res.opt (bindR i r ρ)).bind _) = _
  rw [h]
  rfl
end Rl
namespace Wn
end Wn


namespace Wn
open PySem PySem.Spec PyProof.Rows L2
end Wn
namespace Rl
open PySem PySem.Spec PyProof.Rows L2 Wn
theorem e_runN {body : PSt} {m : Nat} {us : List U} {ρ ρ' : Env} (e : us.map Sl.im ++ List.replicate m Sl.un = ρ) (h : body ρ = .ok (.nx ρ')) : runF body m us = .ok (.im .non) := by
  subst e
  unfold runF
  rw [h]
  rfl
theorem e_runX {body : PSt} {m : Nat} {us : List U} {ρ : Env} {x : Er} (e : us.map Sl.im ++ List.replicate m Sl.un = ρ) (h : body ρ = .ex x) : runF body m us = .ex x := by
  subst e
  unfold runF
  rw [h]
  rfl
def raiseR {α : Type} (x : Option (U × U)) (r : Res α) : Res α := match x with
  | some (p, n) => .ex ⟨0, [n, p]⟩
  | none => r
def fsts : U → U
  | .tup ps => .tup (ps.map fstU)
  | u => u
theorem e_fld {c k i : Nat} {p : PEx} {ρ ρ' : Env} {r : R} (e : p ρ = .ok r) (h : fldO c k i r ρ = some ρ') : pFld c k i p ρ = .ok (.nx ρ') := by
  unfold pFld
  rw [e]
  show ((Res.opt (fldO c k i r ρ)).bind _) = _
  rw [h]
  rfl
theorem check_fields {w f s : U} (h : checkU w f s = none) : fieldsB f = true := by
  unfold checkU at h
  by_cases h1 : (!wordsB w) = true
  · rw [if_pos h1] at h; cases h
  by_cases h2 : (!fieldsB f) = true
  · rw [if_neg h1, if_pos h2] at h; cases h
  simpa using h2
end Rl
namespace Wn
end Wn


namespace Wn
open PySem PySem.Spec PyProof.Rows L2
end Wn
namespace Rl
open PySem PySem.Spec PyProof.Rows L2 Wn
/-! parts that are right: Form is made -/
theorem pl_name {z : Str} (h : nameB z = true) : Pl (.str z) := .str (by have := (nameB_len h).2; omega) (by
  have h2 := nameB_low h
  unfold lowB at h2
  rw [List.all_eq_true] at h2 ⊢
  intro c m
  have := Bool.and_eq_true_iff.mp (h2 c m)
  have := of_decide_eq_true this.2
  exact decide_eq_true (by omega))
theorem pl_ent {o : Option Str} (h : ∀ z, o = some z → nameB z = true) : Pl (entU o) := by
  cases o with
  | none => exact .non
  | some z => exact pl_name (h z rfl)
theorem pl_row {r : List (Option Str)} (h : rowOk r) (l : r.length ≤ 3) : Pl (rowU r) := .tup (by rw [List.length_map]; omega) fun u m => by
  obtain ⟨o, ho, rfl⟩ := List.mem_map.mp m
  exact pl_ent fun z e => h z (e ▸ ho)
theorem row_is {r : List (Option Str)} (h : rowOk r) {n : Nat} (l : r.length = n) : rowB n (rowU r) = true := by
  show ((r.map entU).length == n && (r.map entU).all _) = true
  rw [List.length_map, l, beq_self_eq_true, Bool.true_and, List.all_eq_true]
  intro u m
  obtain ⟨o, ho, rfl⟩ := List.mem_map.mp m
  cases o with
  | none => rfl
  | some z => exact h z ho
theorem strsU_map : ∀ xs : List Str, strsU (xs.map .str) = xs
  | [] => rfl
  | x :: xs => by
    show x :: strsU (xs.map .str) = x :: xs
    rw [strsU_map xs]
theorem nms_is {xs : List Str} (h : ∀ z ∈ xs, nameB z = true) (nd : xs.Nodup) : nmsB (xs.map .str) = true := by
  unfold nmsB
  rw [strsU_map, List.length_map, WnSet.cnt_nodup nd xs.length (Nat.le_refl _), beq_self_eq_true, Bool.and_true, List.all_eq_true]
  intro u m
  obtain ⟨z, hz, rfl⟩ := List.mem_map.mp m
  exact h z hz
section
variable {F : Parts} (ok : F.Ok)
include ok
theorem words_is : wordsB (.tup (F.ws.map .str)) = true := by
  show ((decide (2 ≤ (F.ws.map U.str).length) && decide ((F.ws.map U.str).length ≤ 3)) && nmsB (F.ws.map .str)) = true
  rw [nms_is ok.wk ok.wn, List.length_map, decide_eq_true ok.w2, decide_eq_true ok.w3]
  rfl
theorem fst_is : (F.fs.map pairU).map fstU = (F.fs.map (·.1)).map .str := by
  rw [List.map_map, List.map_map]
  rfl
theorem fields_is : fieldsB F.fieldsU = true := by
  show ((decide (1 ≤ (F.fs.map pairU).length) && decide ((F.fs.map pairU).length ≤ 3)) && ((F.fs.map pairU).all (hasB 2) && (nmsB ((F.fs.map pairU).map fstU) && (F.fs.map pairU).all fun p => hasB 4 (sndU p)))) = true
  rw [fst_is ok, nms_is ok.fk ok.fn, List.length_map, decide_eq_true ok.f1, decide_eq_true ok.f3, List.all_map, List.all_map]
  have a : F.fs.all (hasB 2 ∘ pairU) = true := List.all_eq_true.mpr fun p _ => rfl
  have b : F.fs.all ((fun p => hasB 4 (sndU p)) ∘ pairU) = true := List.all_eq_true.mpr fun p _ => rfl
  rw [a, b]
  rfl
theorem wrong_no {p : Str × Fld} (m : p ∈ F.fs) : pairW F.ws (F.fs.map (·.1)) (pairU p) = .non := by
  have o := ok.fld p m
  show wrongU F.ws (F.fs.map (·.1)) p.1 (.str p.2.first) (entU p.2.looks) p.2.nearU p.2.farU = .non
  unfold wrongU
  rw [if_neg (by show ¬ (!decide (p.2.first ∈ F.ws)) = true; rw [decide_eq_true o.first]; decide)]
  cases hl : p.2.looks with
  | none =>
    rw [if_neg (by show ¬ (!true && _) = true; rw [Bool.not_true, Bool.false_and]; decide)]
    have hn : p.2.nearU = rowU p.2.nearA := by unfold Fld.nearU; rw [hl]
    rw [if_neg (by rw [hn]; show ¬ (!rowB F.ws.length (rowU p.2.nearA)) = true; rw [row_is (o.alone hl).2 (o.alone hl).1]; decide)]
    refine if_neg ?_
    unfold Fld.farU
    cases hf : p.2.far with
    | none => exact fun h => nomatch (show (!true && _) = true from h)
    | some r => show ¬ (_ && !rowB F.ws.length (rowU r)) = true; rw [row_is (o.far r hf).2 (o.far r hf).1]; simp
  | some k =>
    obtain ⟨h1, h2⟩ := o.looks k hl
    obtain ⟨h3, h4⟩ := o.pairs k hl
    rw [if_neg (by show ¬ (!false && ((k == p.1) || !decide (k ∈ F.fs.map (·.1)))) = true; rw [decide_eq_true h2, beq_eq_false_iff_ne.mpr h1]; decide)]
    have hn : p.2.nearU = .tup (p.2.nearL.map rowU) := by unfold Fld.nearU; rw [hl]
    have hb : rowsB F.ws.length (.tup (p.2.nearL.map rowU)) = true := by
      show ((p.2.nearL.map rowU).length == F.ws.length && (p.2.nearL.map rowU).all (rowB F.ws.length)) = true
      rw [List.length_map, h3, beq_self_eq_true, Bool.true_and, List.all_eq_true]
      intro u m
      obtain ⟨r, hr, rfl⟩ := List.mem_map.mp m
      exact row_is (h4 r hr).2 (h4 r hr).1
    rw [if_neg (by rw [hn]; show ¬ (!rowsB F.ws.length (.tup (p.2.nearL.map rowU))) = true; rw [hb]; decide)]
    refine if_neg ?_
    unfold Fld.farU
    cases hf : p.2.far with
    | none => exact fun h => nomatch (show (!true && _) = true from h)
    | some r => show ¬ (_ && !rowB F.ws.length (rowU r)) = true; rw [row_is (o.far r hf).2 (o.far r hf).1]; simp
theorem first_no : ∀ {fs : List (Str × Fld)}, (∀ p ∈ fs, p ∈ F.fs) → firstW F.ws (F.fs.map (·.1)) (fs.map pairU) = none
  | [], _ => rfl
  | p :: fs, h => by
    show (if _ then _ else _) = _
    rw [wrong_no ok (h p (.head _)), if_pos (show nonU .non = true from rfl)]
    exact first_no fun q m => h q (.tail _ m)
theorem check_no : checkU (.tup (F.ws.map .str)) F.fieldsU (.int F.room) = none := by
  unfold checkU
  rw [words_is ok, fields_is ok]
  show (match firstW (strsU (F.ws.map .str)) (strsU ((F.fs.map pairU).map fstU)) (F.fs.map pairU) with
    | some e => some e
    | none => if (!wholeB (.int F.room)) = true then some (.str "room", .str "") else none) = none
  rw [fst_is ok, strsU_map, strsU_map, first_no ok fun p m => m]
  show (if (!(decide (1 ≤ F.room) && decide (F.room ≤ 3))) = true then some (U.str "room", U.str "") else none) = none
  rw [decide_eq_true ok.r1, decide_eq_true ok.r3]
  rfl
theorem pl_words : Pl (.tup (F.ws.map .str)) := .tup (by rw [List.length_map]; have := ok.w3; omega) fun u m => by
  obtain ⟨z, hz, rfl⟩ := List.mem_map.mp m
  exact pl_name (ok.wk z hz)
theorem pl_fld {p : Str × Fld} (m : p ∈ F.fs) : Pl p.2.toU := by
  have o := ok.fld p m
  have w3 := ok.w3
  refine .tup (by show 4 ≤ 1000; decide) fun u hu => ?_
  simp only [List.mem_cons,List.not_mem_nil, or_false] at hu
  rcases hu with rfl | rfl | rfl | rfl
  · exact pl_name (ok.wk _ o.first)
  · exact pl_ent fun z e => ok.fk z (o.looks z e).2
  · unfold Fld.nearU
    cases hl : p.2.looks with
    | none => exact pl_row (o.alone hl).2 (by rw [(o.alone hl).1]; exact w3)
    | some k =>
      refine .tup (by rw [List.length_map, (o.pairs k hl).1]; omega) fun u hu => ?_
      obtain ⟨r, hr, rfl⟩ := List.mem_map.mp hu
      have := (o.pairs k hl).2 r hr
      exact pl_row this.2 (by rw [this.1]; exact w3)
  · unfold Fld.farU
    cases hf : p.2.far with
    | none => exact .non
    | some r => exact pl_row (o.far r hf).2 (by rw [(o.far r hf).1]; exact w3)
theorem pl_fields : Pl F.fieldsU := .tup (by rw [List.length_map]; have := ok.f3; omega) fun u m => by
  obtain ⟨p, hp, rfl⟩ := List.mem_map.mp m
  refine .tup (by show 2 ≤ 1000; decide) fun u hu => ?_
  simp only [List.mem_cons,List.not_mem_nil, or_false] at hu
  rcases hu with rfl | rfl
  · exact pl_name (ok.fk _ (List.mem_map.mpr ⟨p, hp, rfl⟩))
  · exact pl_fld ok hp
theorem dom_fields : DomF F.fieldsU := fun ps e n a k v w m => by
  cases e
  obtain ⟨p, hp, e⟩ := List.mem_map.mp m
  cases e
  exact ⟨.inr (.inl rfl), .inr (.inl (by cases p.2.looks <;> rfl))⟩
end
theorem e_mk {im : Bool} {c L n m : Nat} {gU : List U → List U → List U} {fn : List U → Res (List O)} {pas pks : PAs} {ρ : Env} {rs zs : List R} {us ws : List U} (e1 : pas ρ = .ok rs) (l1 : rs.length = n) (h1 : imRs rs = some us) (e2 : pks ρ = .ok zs) (l2 : zs.length = m) (h2 : imRs zs = some ws) : pMk im c L n m gU fn pas pks ρ = (fn (gU us ws)).bind (finO im c L) := by
  unfold pMk
  rw [e1]
  show ((Res.opt (if rs.length = n then imRs rs else none)).bind _) = _
  rw [if_pos l1, h1]
  show ((pks ρ).bind _) = _
  rw [e2]
  show ((Res.opt (if zs.length = m then imRs zs else none)).bind _) = _
  rw [if_pos l2, h2]
  rfl
def Parts.names (F : Parts) : List Str := F.fs.map (·.1)
/-- what a form holds -/
def Parts.formL (F : Parts) : List U := [.tup (F.ws.map .str), F.fieldsU, .int F.room, .tup (F.names.map .str)]
def Parts.formU (F : Parts) : U := .ins 0 F.formL
section
variable {F : Parts} (ok : F.Ok)
include ok
end
end Rl
namespace Wn
end Wn


namespace Wn
open PySem PySem.Spec PyProof.Rows L2
end Wn
namespace Rl
open PySem PySem.Spec PyProof.Rows L2 Wn
/-! plain data, no deeper than n -/
inductive Dt : Nat → U → Prop
  | non {n : Nat} : Dt n .non
  | bl {n : Nat} (b : Bool) : Dt n (.bl b)
  | int {n : Nat} (i : Int) : Dt n (.int i)
  | str {n : Nat} {z : Str} (h : z.length ≤ 1000) (a : (z.cps.toList.all fun c => decide (c < 128)) = true) : Dt n (.str z)
  | tup {n : Nat} {us : List U} (l : us.length ≤ 1000) (h : ∀ u ∈ us, Dt n u) : Dt (n + 1) (.tup us)
  | lst {n : Nat} {us : List U} (l : us.length ≤ 1000) (h : ∀ u ∈ us, Dt n u) : Dt (n + 1) (.lst us)
theorem Dt.pl {n : Nat} {u : U} (h : Dt n u) : Pl u := by
  induction h with
  | non => exact .non
  | bl b => exact .bl b
  | int i => exact .int i
  | str h a => exact .str h a
  | tup l _ ih => exact .tup l ih
  | lst l _ ih => exact .lst l ih
theorem Dt.up {n : Nat} {u : U} (h : Dt n u) : Dt (n + 1) u := by
  induction h with
  | non => exact .non
  | bl b => exact .bl b
  | int i => exact .int i
  | str h a => exact .str h a
  | tup l _ ih => exact .tup l ih
  | lst l _ ih => exact .lst l ih
theorem toPys_of {n : Nat} : ∀ {us : List U}, (∀ u ∈ us, ∃ d, toPy u = some d ∧ PyData.canLay0 d = true ∧ PyData.depth d ≤ n) → ∃ ds, toPys us = some ds ∧ PyData.canLayAll0 ds = true ∧ PyData.depthAll ds ≤ n
  | [], _ => ⟨[], rfl, rfl, Nat.zero_le _⟩
  | u :: us, h => by
    obtain ⟨d, e1, e2, e3⟩ := h u (.head _)
    obtain ⟨ds, f1, f2, f3⟩ := toPys_of (us := us) fun u m => h u (.tail _ m)
    refine ⟨d :: ds, ?_, ?_, ?_⟩
    · show ((toPy u).bind _) = _
      rw [e1]
      show ((toPys us).map _) = _
      rw [f1]
      rfl
    · show (PyData.canLay0 d && PyData.canLayAll0 ds) = true
      rw [e2, f2]
      rfl
    · show max (PyData.depth d) (PyData.depthAll ds) ≤ n
      exact Nat.max_le.mpr ⟨e3, f3⟩
theorem ascii_ok {z : Str} (h : (z.cps.toList.all fun c => decide (c < 128)) = true) : PyData.strOk z = true := by
  unfold PyData.strOk
  rw [List.all_eq_true] at h
  rw [Array.all_eq_true]
  intro i hi
  have h3 := of_decide_eq_true (h z.cps[i] (by rw [Array.mem_toList_iff]; exact Array.getElem_mem hi))
  exact decide_eq_true (by omega)
theorem Dt.py {n : Nat} {u : U} (h : Dt n u) : ∃ d, toPy u = some d ∧ PyData.canLay0 d = true ∧ PyData.depth d ≤ n := by
  induction h with
  | non => exact ⟨_, rfl, rfl, Nat.zero_le _⟩
  | bl b => exact ⟨_, rfl, rfl, Nat.zero_le _⟩
  | int i => exact ⟨_, rfl, rfl, Nat.zero_le _⟩
  | str h a => exact ⟨_, rfl, ascii_ok a, Nat.zero_le _⟩
  | tup l _ ih =>
    obtain ⟨ds, e1, e2, e3⟩ := toPys_of ih
    refine ⟨.tuple ds, ?_, e2, Nat.succ_le_succ e3⟩
    unfold toPy
    rw [e1]
    rfl
  | lst l _ ih =>
    obtain ⟨ds, e1, e2, e3⟩ := toPys_of ih
    refine ⟨.list ds, ?_, e2, Nat.succ_le_succ e3⟩
    unfold toPy
    rw [e1]
    rfl
theorem Dt.shp {n : Nat} {u : U} (h : Dt n u) (l : n ≤ 64) : shp u = true := by
  obtain ⟨d, e1, e2, e3⟩ := h.py
  unfold Rl.shp
  rw [e1]
  show SeqAt.shaped d = true
  unfold SeqAt.shaped
  rw [e2, Bool.true_and]
  exact decide_eq_true (by omega)
theorem Dt.cm {n : Nat} {u : U} (h : Dt n u) (l : n ≤ 64) : Cm u := .inr (.inr (h.shp l))
theorem Dt.nm {n : Nat} {z : Str} (h : nameB z = true) : Dt n (.str z) := by
  cases pl_name h with
  | str a b => exact .str a b
end Rl
namespace Wn
end Wn


namespace Wn
open PySem PySem.Spec PyProof.Rows L2
end Wn
namespace Rl
open PySem PySem.Spec PyProof.Rows L2 Wn
/-! more rules: picks, cuts, lists made, loops -/
theorem add_tup {a b : List U} (h : a.length + b.length ≤ 100000) : pAdd (.im (.tup a)) (.im (.tup b)) = some (.im (.tup (a ++ b))) := by
  unfold pAdd pAddI fI pAddS pAddT iR sR tupR
  simp only [Option.bind_none,Option.bind_some,Option.none_or]
  rw [if_pos h]
theorem cutG_in {α : Type} {xs : List α} {lo hi : Option Int} {x : α} (h : x ∈ cutG xs lo hi) : x ∈ xs := List.mem_of_mem_drop (List.mem_of_mem_take h)
theorem cutG_len {α : Type} (xs : List α) (lo hi : Option Int) : (cutG xs lo hi).length ≤ xs.length := by
  unfold cutG
  rw [List.length_take, List.length_drop]
  omega
theorem e_lst {pas : PAs} {ρ : Env} {rs : List R} {os : List O} (e : pas ρ = .ok rs) (l : rs.length ≤ 1000) (h : ownRs rs = some os) : pLst pas ρ = .ok (.fr (.ol os)) := by
  unfold pLst
  rw [e]
  show Res.opt (if _ then _ else _) = _
  rw [if_pos l, h]
  rfl
theorem e_frzO {p : PEx} {ρ : Env} {o : O} {u : U} (e : p ρ = .ok (.fr o)) (h : frzO o = some u) : pFrz p ρ = .ok (.im u) := by
  unfold pFrz
  rw [e]
  show Res.opt ((frzO o).map R.im) = _
  rw [h]
  rfl
theorem e_slU {us : List U} {p p2 : PEx} {ρ : Env} {i : Int} (e : p ρ = .ok (.im (.tup us))) (e2 : p2 ρ = .ok (.im (.int i))) : pSl p none (some p2) ρ = .ok (.im (.tup (cutG us none (some i)))) := by
  unfold pSl
  rw [e, slO_some e2]
  rfl
theorem e_slL {us : List U} {p p2 : PEx} {ρ : Env} {i : Int} (e : p ρ = .ok (.im (.tup us))) (e2 : p2 ρ = .ok (.im (.int i))) : pSl p (some p2) none ρ = .ok (.im (.tup (cutG us (some i) none))) := by
  unfold pSl
  rw [e, slO_some e2]
  rfl
theorem p_pick {pm : PEx} {pas : PAs} {ρ : Env} {us : List U} {P : R → Prop} {X : Er → Prop} (e : pm ρ = .ok (.im (.lst us)) ∨ pm ρ = .ok (.im (.tup us))) (ed : pas ρ = .ok [.im .box, .im (.int (us.length : Nat))]) (h0 : 0 < us.length) (h1 : us.length < 1000000) (h : ∀ u ∈ us, P (.im u)) : (pOp pIx pm (pDraw pas) ρ).pst P X := by
  rcases e with e | e
  · refine p_op (post_ok e (p_draw (m := us.length) ed (by omega) (by omega) fun r r0 r1 => ?_))
    obtain ⟨u, hu, e1, _⟩ := ix_in r0 r1
    exact ⟨_, e1, h u hu⟩
  · refine p_op (post_ok e (p_draw (m := us.length) ed (by omega) (by omega) fun r r0 r1 => ?_))
    obtain ⟨u, hu, _, e1⟩ := ix_in r0 r1
    exact ⟨_, e1, h u hu⟩
theorem p_seqE {p q : PSt} {ρ ρ' : Env} {P : Out → Prop} {X : Er → Prop} (e : p ρ = .ok (.nx ρ')) (h : (q ρ').pst P X) : (pSeq p q ρ).pst P X := p_seq (post_ok e h)
theorem p_sif {c : PTs'} {p q : PSt} {ρ : Env} {b : Bool} {P : Out → Prop} {X : Er → Prop} (e : c ρ = .ok b) (h1 : b = true → (p ρ).pst (thenO q P X) X) (h0 : b = false → (q ρ).pst P X) : (pSeq (pIfS c p pSkip) q ρ).pst P X := p_seq (p_if (post_ok e ⟨h1, fun h => post_ok rfl (h0 h)⟩))
theorem e_aeq {i : Nat} {k : Int} {ρ : Env} {j : Int} (e : pVar i ρ = .ok (.im (.int j))) : pTs (pOp (pEq false) (pVar i) (pC (.int k))) ρ = .ok (j == k) := e_ts (e_op e rfl (eq_int _ _))
theorem cut_lens {α : Type} (row : List α) (k : Nat) : (cutG row none (some (k : Int))).length ≤ min k row.length ∧ (cutG row (some ((k : Int) + 1)) none).length ≤ row.length - min (k + 1) row.length := by
  unfold cutG
  rw [show ((k : Int) + 1) = ((k + 1 : Nat) : Int) by omega, HT.sIx_none, HT.sIx_none, HT.sIx_nat, HT.sIx_nat, List.length_take, List.length_drop, List.length_take, List.length_drop]
  omega
theorem cut_two {α : Type} (row : List α) {at' : Int} (h : 0 ≤ at') : (cutG row none (some at')).length + (cutG row (some (at' + 1)) none).length ≤ row.length := by
  obtain ⟨k, rfl⟩ := Int.eq_ofNat_of_zero_le h
  have := cut_lens row k
  omega
theorem cut_lt {α : Type} (row : List α) {at' : Int} (h : 0 ≤ at') (h1 : at' < row.length) : (cutG row none (some at')).length + (cutG row (some (at' + 1)) none).length + 1 ≤ row.length := by
  obtain ⟨k, rfl⟩ := Int.eq_ofNat_of_zero_le h
  have := cut_lens row k
  omega
theorem cutG_map {α β : Type} (f : α → β) (xs : List α) (lo hi : Option Int) : cutG (xs.map f) lo hi = (cutG xs lo hi).map f := by
  unfold cutG
  rw [List.length_map, List.map_take, List.map_drop]
theorem e_asgT {tg : Tg} {p : PEx} {ρ ρ' : Env} {u : U} (e : p ρ = .ok (.im u)) (h : bindT tg u ρ = some ρ') : pAsgT tg p ρ = .ok (.nx ρ') := by
  unfold pAsgT
  rw [e]
  show ((Res.opt (bindT tg u ρ)).bind _) = _
  rw [h]
  rfl
theorem cutG_1 {α : Type} (x : α) (xs : List α) : cutG (x :: xs) none (some 1) = [x] := by
  unfold cutG
  rw [HT.sIx_none, show ((1 : Int)) = ((1 : Nat) : Int) from rfl, HT.sIx_nat, Nat.min_eq_left (by rw [List.length_cons]; omega)]
  rfl
theorem e_tup {pas : PAs} {ρ : Env} {rs : List R} {us : List U} (e : pas ρ = .ok rs) (l : rs.length ≤ 1000) (h : imRs rs = some us) : pTup pas ρ = .ok (.im (.tup us)) := by
  unfold pTup
  rw [e]
  show Res.opt (if _ then _ else _) = _
  rw [if_pos l, h]
  rfl
theorem pow_i {i j k : Int} (h : 0 ≤ j ∧ j ≤ 1000000 ∧ i.natAbs < 2 ^ 64) (e : i ^ j.toNat = k) : pPowI (.im (.int i)) (.im (.int j)) = some (.im (.int k)) := by
  show (if _ then _ else _ : Option U).map R.im = _
  rw [if_pos h, e]
  rfl
end Rl
namespace Wn
end Wn


namespace Wn
open PySem PySem.Spec PyProof.Rows L2
end Wn
namespace Rl
open PySem PySem.Spec PyProof.Rows L2 Wn
/-! rules: what is allowed for their parts -/
theorem e_skip {c : PTs'} {p : PSt} {ρ : Env} (e : c ρ = .ok false) : pIfS c p pSkip ρ = .ok (.nx ρ) := e_if e (fun h => nomatch h) fun _ => rfl
theorem e_take {c : PTs'} {p q : PSt} {ρ : Env} {x : Res Out} (e : c ρ = .ok true) (h : p ρ = x) : pIfS c p q ρ = x := e_if e (fun _ => h) fun h => nomatch h
theorem e_pass {c : PTs'} {p q : PSt} {ρ : Env} {x : Res Out} (e : c ρ = .ok false) (h : q ρ = x) : pIfS c p q ρ = x := e_if e (fun h => nomatch h) fun _ => h
theorem e_andF {a b : PTs'} {ρ : Env} (e : a ρ = .ok false) : pAnd a b ρ = .ok false := e_and (y := false) e fun h => nomatch h
theorem e_orT {a b : PTs'} {ρ : Env} (e : a ρ = .ok true) : pOr a b ρ = .ok true := e_or (y := true) e fun h => nomatch h
theorem eqX_strs (a b : Str) : pEqX (.im (.str a)) (.im (.str b)) = some (.im (.bl (a == b))) := by
  unfold pEqX
  rw [eq_str]
  rfl
theorem in_X {u : U} (h : Cm u) {xs : List Str} (hx : ∀ z ∈ xs, nameB z = true) {r : R} (hr : seqR r = some (xs.map .str)) : pInX false (.im u) r = some (.im (.bl (inB u xs))) := by
  unfold pInX
  have gen : fits u (xs.map .str) = true → pIn false (.im u) r = some (.im (.bl (inB u xs))) := fun hf => by
    unfold pIn
    show (some u).bind _ = _
    rw [hr]
    show (if _ then _ else _) = _
    rw [if_pos hf, any_in]
    rfl
  rcases h with rfl | h | h
  · have e : pIn false (.im .emp) r = none := by
      unfold pIn
      show (some U.emp).bind _ = _
      rw [hr]
      rfl
    rw [e]
    show pInE false (.im .emp) r = _
    unfold pInE
    rw [hr]
    show (if _ then _ else _) = _
    rw [if_pos (allS_strs xs)]
    rfl
  · rw [gen (by unfold fits; rw [h, strs_flat]; rfl)]; rfl
  · rw [gen (by unfold fits; rw [h, names_shp hx]; simp)]; rfl
theorem cnt_nd {α : Type} [DecidableEq α] [BEq α] [LawfulBEq α] (xs : List α) : ∀ i, i ≤ xs.length → WnSet.cnt xs i = i → (xs.take i).Nodup
  | 0, _, _ => by rw [List.take_zero]; exact List.nodup_nil
  | i + 1, hi, h => by
    have e : xs[i]? = some xs[i] := List.getElem?_eq_getElem hi
    have le := WnSet.cnt_le xs i
    unfold WnSet.cnt at h
    rw [e] at h
    dsimp only at h
    by_cases c : (xs.take i).any (· == xs[i]) = true
    · rw [if_pos c] at h; omega
    · rw [if_neg c] at h
      rw [List.take_add_one, e]
      refine List.nodup_append.mpr ⟨cnt_nd xs i (by omega) (by omega), by simp, fun a ha b hb z => c ?_⟩
      rw [Option.toList_some, List.mem_singleton] at hb
      exact List.any_eq_true.mpr ⟨a, ha, beq_iff_eq.mpr (z.trans hb)⟩
theorem cnt_dec {α : Type} [DecidableEq α] [BEq α] [LawfulBEq α] (xs : List α) : (WnSet.cnt xs xs.length == xs.length) = decide xs.Nodup := by
  by_cases h : xs.Nodup
  · rw [WnSet.cnt_nodup h _ (Nat.le_refl _), decide_eq_true h, beq_self_eq_true]
  · rw [decide_eq_false h]
    exact beq_eq_false_iff_ne.mpr fun z => h (by have := cnt_nd xs _ (Nat.le_refl _) z; rwa [List.take_length] at this)
theorem post_loop0 {bd : U → Env → Option Env} {body : PSt} {P : Out → Prop} {X : Er → Prop} (Inv : Nat → Env → Prop) {us : List U} {ρ : Env} (h0 : Inv 0 ρ) (hs : ∀ j u ρ, us[j]? = some u → Inv j ρ → ∃ ρ1, bd u ρ = some ρ1 ∧ (body ρ1).pst (fun o => match o with
      | .nx ρ2 => Inv (j + 1) ρ2
      | .ct ρ2 => Inv (j + 1) ρ2
      | .bk ρ2 => P (.nx ρ2)
      | .rt r ρ2 => P (.rt r ρ2)) X) (he : ∀ ρ, Inv us.length ρ → P (.nx ρ)) : (pLoop bd body us ρ).pst P X := by
  refine post_loop Inv 0 h0 (fun j u ρ e h => ?_) fun ρ h => he ρ (by rwa [Nat.zero_add] at h)
  rw [Nat.zero_add] at h ⊢
  exact hs j u ρ e h
def itemsU : U → List U
  | .tup us => us
  | _ => []
/-- a tuple of two different names -/
def pairB (u : U) : Bool := hasB 2 u && nmsB (itemsU u)
def prOf : U → Str × Str
  | .tup [.str x, .str y] => (x, y)
  | _ => ("", "")
theorem pairB_of {u : U} (h : pairB u = true) : ∃ p : Str × Str, u = pair2 p ∧ nameB p.1 = true ∧ nameB p.2 = true ∧ p.1 ≠ p.2 := by
  obtain ⟨h1, h2⟩ := Bool.and_eq_true_iff.mp h
  obtain ⟨a, b, rfl⟩ := pair_of h1
  obtain ⟨h3, h4⟩ := Bool.and_eq_true_iff.mp h2
  obtain ⟨n1, n2⟩ := Bool.and_eq_true_iff.mp (show (nameU a && (nameU b && true)) = true from h3)
  rw [Bool.and_true] at n2
  cases a with
  | str x =>
    cases b with
    | str y =>
      refine ⟨(x, y), rfl, n1, n2, fun z => ?_⟩
      have h5 := cnt_nd [x, y] 2 (Nat.le_refl _) (beq_iff_eq.mp h4)
      exact (List.nodup_cons.mp h5).1 (by rw [show x = y from z]; exact .head _)
    | _ => cases n2
  | _ => cases n1
theorem pairB_is {p : Str × Str} (h1 : nameB p.1 = true) (h2 : nameB p.2 = true) (h : p.1 ≠ p.2) : pairB (pair2 p) = true := by
  show (true && nmsB [.str p.1, .str p.2]) = true
  rw [Bool.true_and]
  have := nms_is (xs := [p.1, p.2]) (fun z m => by
    simp only [List.mem_cons,List.not_mem_nil, or_false] at m
    rcases m with rfl | rfl
    · exact h1
    · exact h2) (by simp [h])
  exact this
def prsB (us : List U) : Bool := us.all pairB && decide ((us.map prOf).Nodup)
theorem prs_tts : ∀ {us : List U}, us.all pairB = true → tts us = some ((us.map prOf).map fun p => [p.1, p.2])
  | [], _ => rfl
  | u :: us, h => by
    rw [List.all_cons, Bool.and_eq_true] at h
    obtain ⟨p, rfl, _⟩ := pairB_of h.1
    show ((txts [.str p.1, .str p.2]).bind fun z => (tts us).map fun zs => z :: zs) = _
    rw [prs_tts h.2]
    rfl
theorem prs_nd (ps : List (Str × Str)) : (ps.map fun p => [p.1, p.2]).Nodup ↔ ps.Nodup := by
  constructor
  · exact fun h => List.Pairwise.of_map _ (fun a b ne e => ne (by rw [e])) h
  · refine fun h => List.pairwise_map.mpr (h.imp fun {a b} ne e => ne ?_)
    injection e with e1 e2
    injection e2 with e2 _
    exact Prod.ext e1 e2
theorem are_pairs_eq {us : List U} (l : us.length < 64) (h : ∀ u ∈ us, Pl u) : F_are_pairs [.tup us] = .ok (.im (.bl (prsB us))) := by
  unfold F_are_pairs
  refine e_run (ρ := [.im (.tup us), .un]) (ρ' := [.im (.tup us), .un]) rfl ?_
  unfold B_are_pairs
  have ha := e_not (e_tru (e_all (it := seqR) (tg := .nm 1) (elt := pB (pAnd (pTs (pCall 2 F_has_items (pCons (pVar 1) (pCons (pC (.int 2)) pNil)))) (pTs (pCall 1 F_are_names (pCons (pVar 1) pNil))))) (p := pVar 0) (vs := [1]) (ρ := [.im (.tup us), .un]) (r := .im (.tup us)) pairB rfl rfl (by omega) fun u m => ⟨[.im (.tup us), .im u], rfl, by
    refine e_b (e_and (e_ts (e_call (us := [u, .int (2 : Nat)]) rfl rfl rfl (has_items_eq (h u m) 2))) fun h2 => ?_)
    obtain ⟨a, b, rfl⟩ := pair_of h2
    obtain ⟨l1, l2⟩ := Pl.items (h _ m)
    exact e_ts (e_call (us := [.tup [a, b]]) rfl rfl rfl (are_names_eq (.inl rfl) l1 l2))⟩))
  cases hb : us.all pairB with
  | false =>
    rw [hb] at ha
    have : prsB us = false := by unfold prsB; rw [hb]; rfl
    rw [this]
    exact e_seqR (e_take ha rfl)
  | true =>
    rw [hb] at ha
    refine e_seq (e_skip ha) (e_ret ?_)
    have e1 : pUn lenSetTR (pVar 0) [.im (.tup us), .un] = .ok (.im (.int (WnSet.cnt ((us.map prOf).map fun p => [p.1, p.2]) ((us.map prOf).map fun p => [p.1, p.2]).length : Nat))) := by
      show Res.opt (lenSetTR (.im (.tup us))) = _
      unfold lenSetTR
      show Res.opt ((tts us).bind _) = _
      rw [prs_tts hb]
      show Res.opt (if _ then _ else _) = _
      rw [if_pos (by rw [List.length_map, List.length_map]; exact l)]
      rfl
    have e2 := e_op e1 (e_len (p := pVar 0) (ρ := [.im (.tup us), .un]) (r := .im (.tup us)) rfl rfl rfl) (eq_nat _ us.length)
    rw [show us.length = ((us.map prOf).map fun p => [p.1, p.2]).length by rw [List.length_map, List.length_map], cnt_dec] at e2
    have : prsB us = decide (((us.map prOf).map fun p => [p.1, p.2]).Nodup) := by
      unfold prsB
      rw [hb, Bool.true_and]
      exact decide_eq_decide.mpr (prs_nd _).symm
    rw [this]
    exact e2
def blB : U → Bool
  | .bl _ => true
  | _ => false
theorem isi_blB {p : PEx} {ρ : Env} {u : U} (e : p ρ = .ok (.im u)) (h : Pl u) : pFn fIsi (pCons p (pCons (pC (.ty "bool")) pNil)) ρ = .ok (.im (.bl (blB u))) := by
  cases h with
  | str h => exact e_isi e rfl (by decide) (by decide)
  | non => exact e_isi e rfl (by decide) (by decide)
  | bl b => exact e_isi e rfl (by decide) (by decide)
  | int i => exact e_isi e rfl (by decide) (by decide)
  | tup l h => exact e_isi e rfl (by decide) (by decide)
  | lst l h => exact e_isi e rfl (by decide) (by decide)
  | emp => exact e_isi e rfl (by decide) (by decide)
/-- the six parts -/
inductive Pt where
  | opens | checks | around | wipes | taken | sending
def Pt.nm : Pt → Str
  | .opens => "opens"
  | .checks => "checks"
  | .around => "around"
  | .wipes => "wipes"
  | .taken => "taken"
  | .sending => "sending"
def Pt.ch : Pt → List Str
  | .opens => ["enter", "leave", "send"]
  | .checks => ["enter", "leave"]
  | .around => ["own", "looks"]
  | .wipes => []
  | .taken => ["any", "same", "last"]
  | .sending => ["bar", "wait", "go"]
def allowB (p : Pt) (v : U) : Bool := match p with
  | .around => if tupB v = true then prsB (itemsU v) else inB v Pt.around.ch
  | .wipes => blB v
  | p => inB v p.ch
/-- what a part may be asked about -/
structure Vr (v : U) : Prop where
  pl : Pl v
  cm : Cm v
  sh : ∀ us, v = .tup us → us.length < 64
theorem ch_names (p : Pt) : ∀ z ∈ p.ch, nameB z = true := by cases p <;> decide +kernel
theorem kd_at {p : Pt} (h : p ≠ .wipes) : pKd tb_CHOICES (pVar 0) = pKd tb_CHOICES (pVar 0) := rfl
theorem allowed_eq (p : Pt) {v : U} (h : Vr v) : F_is_allowed [.str p.nm, v] = .ok (.im (.bl (allowB p v))) := by
  unfold F_is_allowed
  refine e_run (ρ := [.im (.str p.nm), .im v]) (ρ' := [.im (.str p.nm), .im v]) rfl ?_
  unfold B_is_allowed
  have ea := e_ts (e_op (f := pEqX) (a := pVar 0) (b := pC (.str "around")) (ρ := [.im (.str p.nm), .im v]) rfl rfl (eqX_strs _ _))
  have ew := e_ts (e_op (f := pEqX) (a := pVar 0) (b := pC (.str "wipes")) (ρ := [.im (.str p.nm), .im v]) rfl rfl (eqX_strs _ _))
  have et := e_tru (isi_tupB (p := pVar 1) (ρ := [.im (.str p.nm), .im v]) rfl h.pl)
  have rest : ∀ xs : List Str, tb_CHOICES.lookup p.nm = some (.tup (xs.map .str)) → (∀ z ∈ xs, nameB z = true) → (p.nm == ("wipes" : Str)) = false →
      pSeq (pIfS (pTs (pOp pEqX (pVar 0) (pC (.str "wipes")))) (pRet (pFn fIsi (pCons (pVar 1) (pCons (pC (.ty "bool")) pNil)))) pSkip) (pRet (pOp (pInX false) (pVar 1) (pKd tb_CHOICES (pVar 0)))) [.im (.str p.nm), .im v] = .ok (.rt (.im (.bl (inB v xs))) [.im (.str p.nm), .im v]) := fun xs hk hx hw => by
    rw [hw] at ew
    refine e_seq (e_skip ew) (e_ret (e_op (y := .im (.tup (xs.map .str))) rfl ?_ (in_X h.cm hx rfl)))
    show Res.opt ((tb_CHOICES.lookup p.nm).map R.im) = _
    rw [hk]
    rfl
  cases p with
  | around =>
    rw [show (Pt.around.nm == ("around" : Str)) = true by decide +kernel] at ea
    cases ht : tupB v with
    | true =>
      cases v with
      | tup us =>
        rw [ht] at et
        exact e_seqR (e_take (e_and (y := true) ea fun _ => et) (e_ret (e_call (us := [.tup us]) rfl rfl rfl (are_pairs_eq (h.sh us rfl) (Pl.items h.pl).2))))
      | _ => cases ht
    | false =>
      rw [ht] at et
      have := e_seq (e_skip (p := pRet (pCall 1 F_are_pairs (pCons (pVar 1) pNil))) (e_and (y := false) ea fun _ => et)) (rest ["own", "looks"] (by kernel_rfl) (ch_names .around) (by decide +kernel))
      show _ = Res.ok (Out.rt (.im (.bl (if tupB v = true then prsB (itemsU v) else inB v Pt.around.ch))) _)
      rw [ht, if_neg (by decide)]
      exact this
  | wipes =>
    rw [show (Pt.wipes.nm == ("around" : Str)) = false by decide +kernel] at ea
    rw [show (Pt.wipes.nm == ("wipes" : Str)) = true by decide +kernel] at ew
    exact e_seq (e_skip (e_andF ea)) (e_seqR (e_take ew (e_ret (isi_blB rfl h.pl))))
  | opens =>
    rw [show (Pt.opens.nm == ("around" : Str)) = false by decide +kernel] at ea
    exact e_seq (e_skip (e_andF ea)) (rest ["enter", "leave", "send"] (by kernel_rfl) (ch_names .opens) (by decide +kernel))
  | checks =>
    rw [show (Pt.checks.nm == ("around" : Str)) = false by decide +kernel] at ea
    exact e_seq (e_skip (e_andF ea)) (rest ["enter", "leave"] (by kernel_rfl) (ch_names .checks) (by decide +kernel))
  | taken =>
    rw [show (Pt.taken.nm == ("around" : Str)) = false by decide +kernel] at ea
    exact e_seq (e_skip (e_andF ea)) (rest ["any", "same", "last"] (by kernel_rfl) (ch_names .taken) (by decide +kernel))
  | sending =>
    rw [show (Pt.sending.nm == ("around" : Str)) = false by decide +kernel] at ea
    exact e_seq (e_skip (e_andF ea)) (rest ["bar", "wait", "go"] (by kernel_rfl) (ch_names .sending) (by decide +kernel))
/-- the first part that is wrong -/
def wrongP : List (Pt × U) → Option Pt
  | [] => none
  | p :: ps => if allowB p.1 p.2 = true then wrongP ps else some p.1
def ptU : Option Pt → U
  | none => .non
  | some p => .str p.nm
def six (a b c d e f : U) : List (Pt × U) := [(.opens, a), (.checks, b), (.around, c), (.wipes, d), (.taken, e), (.sending, f)]
theorem loopW {s0 : Sl} : ∀ {ps : List (Pt × U)} {s1 s2 : Sl}, (∀ p ∈ ps, Vr p.2) → ∃ s1' s2', pLoop (bindT (.tp [.nm 1, .nm 2])) (pIfS (pNot (pTru (pCall 2 F_is_allowed (pCons (pVar 1) (pCons (pVar 2) pNil))))) (pRet (pVar 1)) pSkip) (ps.map fun p => .tup [.str p.1.nm, p.2]) [s0, s1, s2] =
    .ok (match wrongP ps with
      | none => .nx [s0, s1', s2']
      | some p => .rt (.im (.str p.nm)) [s0, s1', s2'])
  | [], s1, s2, _ => ⟨s1, s2, rfl⟩
  | p :: ps, s1, s2, h => by
    have hp := h p (.head _)
    have ec := e_not (e_tru (e_call (n := 2) (pas := pCons (pVar 1) (pCons (pVar 2) pNil)) (ρ := [s0, .im (.str p.1.nm), .im p.2]) (us := [.str p.1.nm, p.2]) rfl rfl rfl (allowed_eq p.1 hp)))
    cases hb : allowB p.1 p.2 with
    | true =>
      rw [hb] at ec
      obtain ⟨t1, t2, ih⟩ := loopW (s0 := s0) (s1 := .im (.str p.1.nm)) (s2 := .im p.2) fun q m => h q (.tail _ m)
      refine ⟨t1, t2, ?_⟩
      have ew : wrongP (p :: ps) = wrongP ps := if_pos hb
      rw [ew, ← ih]
      show ((Res.ok [s0, Sl.im (.str p.1.nm), .im p.2]).bind fun ρ1 => (pIfS _ _ _ ρ1).bind _) = _
      show ((pIfS _ _ _ [s0, Sl.im (.str p.1.nm), .im p.2]).bind _) = _
      rw [e_skip ec]
      rfl
    | false =>
      rw [hb] at ec
      refine ⟨.im (.str p.1.nm), .im p.2, ?_⟩
      have ew : wrongP (p :: ps) = some p.1 := if_neg (by rw [hb]; decide)
      rw [ew]
      show ((pIfS _ _ _ [s0, Sl.im (.str p.1.nm), .im p.2]).bind _) = _
      rw [e_take ec (e_ret (r := .im (.str p.1.nm)) rfl)]
      rfl
theorem wrong_part_eq {a b c d e f : U} (h : ∀ p ∈ six a b c d e f, Vr p.2) : F_wrong_part_rules [.tup [a, b, c, d, e, f]] = .ok (.im (ptU (wrongP (six a b c d e f)))) := by
  obtain ⟨s1, s2, hl⟩ := loopW (s0 := .im (.tup [a, b, c, d, e, f])) (s1 := .un) (s2 := .un) h
  have e1 : pForW (pZip (pCons (pC (.tup [(.str "opens"), (.str "checks"), (.str "around"), (.str "wipes"), (.str "taken"), (.str "sending")])) (pCons (pVar 0) pNil))) [.nm 1, .nm 2] (pIfS (pNot (pTru (pCall 2 F_is_allowed (pCons (pVar 1) (pCons (pVar 2) pNil))))) (pRet (pVar 1)) pSkip) [.im (.tup [a, b, c, d, e, f]), .un, .un] = _ := hl
  unfold F_wrong_part_rules
  cases hw : wrongP (six a b c d e f) with
  | none =>
    rw [hw] at e1
    refine e_run (ρ := [.im (.tup [a, b, c, d, e, f]), .un, .un]) (ρ' := [.im (.tup [a, b, c, d, e, f]), s1, s2]) rfl ?_
    unfold B_wrong_part_rules
    exact e_seq e1 rfl
  | some p =>
    rw [hw] at e1
    refine e_run (ρ := [.im (.tup [a, b, c, d, e, f]), .un, .un]) (ρ' := [.im (.tup [a, b, c, d, e, f]), s1, s2]) rfl ?_
    unfold B_wrong_part_rules
    exact e_seqR e1
end Rl
namespace Wn
end Wn


namespace Wn
open PySem PySem.Spec PyProof.Rows L2
end Wn
namespace Rl
open PySem PySem.Spec PyProof.Rows L2 Wn
/-! a rule is made, or refused -/
def sortU (c : U) : U := if tupB c = true then .tup ((sortP ((itemsU c).map prOf)).map pair2) else c
theorem prsU_pairs : ∀ {us : List U}, us.all pairB = true → prsU us = some (us.map prOf)
  | [], _ => rfl
  | u :: us, h => by
    rw [List.all_cons, Bool.and_eq_true] at h
    obtain ⟨p, rfl, _⟩ := pairB_of h.1
    show ((prsU us).map _) = _
    rw [prsU_pairs h.2]
    rfl
theorem e_rz1 {k : Nat} {pas : PAs} {ρ : Env} {a : U} (e : pas ρ = .ok [.im a]) : pRz k 1 pas ρ = .ex ⟨k, [a]⟩ := by unfold pRz; rw [e]; rfl
theorem e_ifx {c : PTs'} {p q : PEx} {ρ : Env} {b : Bool} {x : Res R} (e : c ρ = .ok b) (h1 : b = true → p ρ = x) (h0 : b = false → q ρ = x) : pIf c p q ρ = x := by
  unfold pIf
  rw [e]
  cases b with
  | true => exact h1 rfl
  | false => exact h0 rfl
theorem e_runI {c m : Nat} {body : PSt} {us : List U} {ρ ρ' : List Sl} {os : List O} (e : Sl.ow (.oi c []) :: (us.map .im ++ List.replicate m .un) = ρ) (h : body ρ = .ok (.nx ρ')) (k : selfO c ρ' = .ok os) : runI c body m us = .ok os := by
  subst e
  unfold runI
  rw [h]
  exact k
theorem e_runIX {c m : Nat} {body : PSt} {us : List U} {ρ : List Sl} {x : Er} (e : Sl.ow (.oi c []) :: (us.map .im ++ List.replicate m .un) = ρ) (h : body ρ = .ex x) : runI c body m us = .ex x := by
  subst e
  unfold runI
  rw [h]
  rfl
theorem selfO_at {c : Nat} {os : List O} {rest : List Sl} : selfO c (.ow (.oi c os) :: rest) = .ok os := by
  unfold selfO
  simp
theorem e_fldA {c k i : Nat} {p : PEx} {u : U} {os : List O} {rest : List Sl} (e : p (.ow (.oi c os) :: rest) = .ok (.im u)) (hl : os.length = k) (hi : i = 0) : pFld c k i p (.ow (.oi c os) :: rest) = .ok (.nx (.ow (.oi c (os ++ [.lf u])) :: rest)) := by
  subst hi
  refine e_fld e ?_
  show (if c = c ∧ os.length = k then _ else none) = _
  rw [if_pos ⟨rfl, hl⟩]
  rfl
def ruleL (a b c d e f : U) : List U := [a, b, sortU c, d, e, f]
theorem pt_non {o : Option Pt} : pIs true (.im (ptU o)) (.im .non) = some (.im (.bl o.isSome)) := by cases o <;> rfl
theorem wrong_none {a b c d e f : U} (h : wrongP (six a b c d e f) = none) : ∀ p ∈ six a b c d e f, allowB p.1 p.2 = true := by
  have gen : ∀ ps, wrongP ps = none → ∀ p ∈ ps, allowB p.1 p.2 = true := by
    intro ps
    induction ps with
    | nil => exact fun _ p m => nomatch m
    | cons q ps ih =>
      intro h p m
      unfold wrongP at h
      by_cases c : allowB q.1 q.2 = true
      · rw [if_pos c] at h
        rcases List.mem_cons.mp m with z | m
        · rw [z]; exact c
        · exact ih h p m
      · rw [if_neg c] at h; cases h
  exact gen _ h
theorem rule_init_eq {a b c d e f : U} (h : ∀ p ∈ six a b c d e f, Vr p.2) : I_Rule [a, b, c, d, e, f] = match wrongP (six a b c d e f) with
    | some p => .ex ⟨0, [.str p.nm]⟩
    | none => .ok ((ruleL a b c d e f).map .lf) := by
  unfold I_Rule
  have e1 : pAsg 7 (pFrz (pCall 1 F_wrong_part_rules (pCons (pTup (pCons (pVar 1) (pCons (pVar 2) (pCons (pVar 3) (pCons (pVar 4) (pCons (pVar 5) (pCons (pVar 6) pNil))))))) pNil))) [.ow (.oi 0 []), .im a, .im b, .im c, .im d, .im e, .im f, .un] = .ok (.nx [.ow (.oi 0 []), .im a, .im b, .im c, .im d, .im e, .im f, .im (ptU (wrongP (six a b c d e f)))]) :=
    e_asg (r := .im (ptU (wrongP (six a b c d e f)))) (e_frz (e_call (us := [.tup [a, b, c, d, e, f]]) rfl rfl rfl (wrong_part_eq h))) rfl
  have e2 := e_ts (e_op (f := pIs true) (a := pVar 7) (b := pC .non) (ρ := [.ow (.oi 0 []), .im a, .im b, .im c, .im d, .im e, .im f, .im (ptU (wrongP (six a b c d e f)))]) rfl rfl pt_non)
  cases hw : wrongP (six a b c d e f) with
  | some p =>
    rw [hw] at e1 e2
    refine e_runIX (ρ := [.ow (.oi 0 []), .im a, .im b, .im c, .im d, .im e, .im f, .un]) rfl ?_
    unfold B_Rule_init
    exact e_seq e1 (e_seqX (e_take e2 (e_rz1 (a := .str p.nm) rfl)))
  | none =>
    rw [hw] at e1 e2
    have hc := wrong_none hw (.around, c) (.tail _ (.tail _ (.head _)))
    have vc := h (.around, c) (.tail _ (.tail _ (.head _)))
    have es : pIf (pTru (pFn fIsi (pCons (pVar 3) (pCons (pC (.ty "tuple")) pNil)))) (pFn fTup (pCons (pFn fSortP (pCons (pVar 3) pNil)) pNil)) (pVar 3) [.ow (.oi 0 [.lf a, .lf b]), .im a, .im b, .im c, .im d, .im e, .im f, .im .non] = .ok (.im (sortU c)) := by
      refine e_ifx (e_tru (isi_tupB rfl vc.pl)) (fun ht => ?_) fun ht => ?_
      · cases c with
        | tup us =>
          change (if tupB (.tup us) = true then prsB us else inB (.tup us) Pt.around.ch) = true at hc
          rw [if_pos ht] at hc
          have hp := (Bool.and_eq_true_iff.mp hc).1
          refine e_fn (e_cons (x := .fr (.ol (((sortP (us.map prOf)).map pair2).map .lf))) (e_fn (rs := [.im (.tup us)]) rfl ?_) rfl) (tup_fr _)
          unfold fSortP
          show (prsU us).map (fun ps => R.fr (.ol (((sortP ps).map pair2).map .lf))) = _
          rw [prsU_pairs hp]
          rfl
        | _ => cases ht
      · have : sortU c = c := if_neg (by rw [ht]; decide)
        rw [this]
        rfl
    refine e_runI (ρ := [.ow (.oi 0 []), .im a, .im b, .im c, .im d, .im e, .im f, .un]) (ρ' := [.ow (.oi 0 [.lf a, .lf b, .lf (sortU c), .lf d, .lf e, .lf f]), .im a, .im b, .im c, .im d, .im e, .im f, .im .non]) rfl ?_ selfO_at
    unfold B_Rule_init
    exact e_seq e1 (e_seq (e_skip e2) (e_seq (e_fldA (u := a) rfl rfl rfl) (e_seq (e_fldA (u := b) rfl rfl rfl) (e_seq (e_fldA (u := sortU c) es rfl rfl) (e_seq (e_fldA (u := d) rfl rfl rfl) (e_seq (e_fldA (u := e) rfl rfl rfl) (e_fldA (u := f) rfl rfl rfl)))))))
/-- Rule(a, b, c, wipes=d, taken=e, sending=f) -/
theorem e_rule {pas pks : PAs} {ρ : Env} {a b c d e f : U} (h : ∀ p ∈ six a b c d e f, Vr p.2) (e1 : pas ρ = .ok [.im a, .im b, .im c]) (e2 : pks ρ = .ok [.im d, .im e, .im f]) : pMk true 0 6 3 3 (fun us ws => us ++ ws) I_Rule pas pks ρ = match wrongP (six a b c d e f) with
    | some p => .ex ⟨0, [.str p.nm]⟩
    | none => .ok (.im (.ins 0 (ruleL a b c d e f))) := by
  refine (e_mk (us := [a, b, c]) (ws := [d, e, f]) e1 rfl rfl e2 rfl rfl).trans ?_
  show Res.bind (I_Rule [a, b, c, d, e, f]) (finO true 0 6) = _
  rw [rule_init_eq h]
  cases wrongP (six a b c d e f) <;> rfl
/-- a rule that is right -/
inductive Ar where
  | own | looks | prs (ps : List (Str × Str))
def Ar.toU : Ar → U
  | .own => .str "own"
  | .looks => .str "looks"
  | .prs ps => .tup (ps.map pair2)
structure RuleM where
  opens : Str
  checks : Str
  around : Ar
  wipes : Bool
  taken : Str
  sending : Str
def RuleM.L (R : RuleM) : List U := [.str R.opens, .str R.checks, R.around.toU, .bl R.wipes, .str R.taken, .str R.sending]
def RuleM.toU (R : RuleM) : U := .ins 0 R.L
structure PrsOk (ps : List (Str × Str)) : Prop where
  nm : ∀ p ∈ ps, nameB p.1 = true ∧ nameB p.2 = true ∧ p.1 ≠ p.2
  nd : ps.Nodup
  sh : ps.length < 64
structure RuleM.Ok (R : RuleM) : Prop where
  opens : R.opens ∈ Pt.opens.ch
  checks : R.checks ∈ Pt.checks.ch
  around : ∀ ps, R.around = .prs ps → PrsOk ps ∧ Asc ps
  taken : R.taken ∈ Pt.taken.ch
  sending : R.sending ∈ Pt.sending.ch
theorem vr_str {z : Str} (h : nameB z = true) : Vr (.str z) := ⟨pl_name h, .inr (.inl rfl), fun us e => nomatch e⟩
theorem vr_bl (b : Bool) : Vr (.bl b) := ⟨.bl b, .inr (.inl rfl), fun us e => nomatch e⟩
theorem dt_pair {p : Str × Str} (h1 : nameB p.1 = true) (h2 : nameB p.2 = true) {n : Nat} : Dt (n + 1) (pair2 p) := .tup (by show 2 ≤ 1000; decide) fun u m => by
  simp only [List.mem_cons,List.not_mem_nil, or_false] at m
  rcases m with rfl | rfl
  · exact .nm h1
  · exact .nm h2
theorem vr_prs {ps : List (Str × Str)} (h : ∀ p ∈ ps, nameB p.1 = true ∧ nameB p.2 = true ∧ p.1 ≠ p.2) (l : ps.length < 64) : Vr (.tup (ps.map pair2)) := by
  have d : Dt 2 (.tup (ps.map pair2)) := .tup (by rw [List.length_map]; omega) fun u m => by
    obtain ⟨p, hp, rfl⟩ := List.mem_map.mp m
    exact dt_pair (h p hp).1 (h p hp).2.1
  exact ⟨d.pl, d.cm (by decide), fun us e => by cases e; rw [List.length_map]; exact l⟩
theorem prof_map (ps : List (Str × Str)) : (ps.map pair2).map prOf = ps := by
  rw [List.map_map]
  exact (List.map_congr_left fun p _ => rfl).trans (List.map_id ps)
theorem prsB_is {ps : List (Str × Str)} (h : PrsOk ps) : prsB (ps.map pair2) = true := by
  unfold prsB
  rw [prof_map, decide_eq_true h.nd, Bool.and_true, List.all_eq_true]
  intro u m
  obtain ⟨p, hp, rfl⟩ := List.mem_map.mp m
  exact pairB_is (h.nm p hp).1 (h.nm p hp).2.1 (h.nm p hp).2.2
def Ar.raw : Ar → Prop
  | .prs ps => PrsOk ps
  | _ => True
def Ar.srt : Ar → Ar
  | .prs ps => .prs (sortP ps)
  | a => a
theorem PrsOk.srt {ps : List (Str × Str)} (h : PrsOk ps) : PrsOk (sortP ps) := ⟨fun p m => h.nm p ((sortP_perm ps).mem_iff.mp m), (sortP_perm ps).nodup_iff.mpr h.nd, by rw [(sortP_perm ps).length_eq]; exact h.sh⟩
theorem vr_ar {a : Ar} (h : a.raw) : Vr a.toU := by
  cases a with
  | own => exact vr_str (by decide +kernel)
  | looks => exact vr_str (by decide +kernel)
  | prs ps => exact vr_prs h.nm h.sh
theorem allow_ar {a : Ar} (h : a.raw) : allowB .around a.toU = true := by
  cases a with
  | own => decide +kernel
  | looks => decide +kernel
  | prs ps => exact prsB_is h
theorem sort_ar {a : Ar} : sortU a.toU = a.srt.toU := by
  cases a with
  | own => rfl
  | looks => rfl
  | prs ps =>
    show U.tup ((sortP ((ps.map pair2).map prOf)).map pair2) = _
    rw [prof_map]
    rfl
theorem in_ch {z : Str} {xs : List Str} (h : z ∈ xs) : inB (.str z) xs = true := decide_eq_true h
theorem wrongP_ok {p : Pt × U} {ps : List (Pt × U)} (h : allowB p.1 p.2 = true) : wrongP (p :: ps) = wrongP ps := if_pos h
theorem six_good {o c t s : Str} {a : Ar} {w : Bool} (ho : o ∈ Pt.opens.ch) (hc : c ∈ Pt.checks.ch) (ha : a.raw) (ht : t ∈ Pt.taken.ch) (hs : s ∈ Pt.sending.ch) :
    (∀ p ∈ six (.str o) (.str c) a.toU (.bl w) (.str t) (.str s), Vr p.2) ∧ wrongP (six (.str o) (.str c) a.toU (.bl w) (.str t) (.str s)) = none := by
  constructor
  · intro p m
    simp only [six,List.mem_cons,List.not_mem_nil, or_false] at m
    rcases m with rfl | rfl | rfl | rfl | rfl | rfl
    · exact vr_str (ch_names .opens _ ho)
    · exact vr_str (ch_names .checks _ hc)
    · exact vr_ar ha
    · exact vr_bl _
    · exact vr_str (ch_names .taken _ ht)
    · exact vr_str (ch_names .sending _ hs)
  · unfold six
    have h1 : allowB .opens (.str o) = true := in_ch ho
    have h2 : allowB .checks (.str c) = true := in_ch hc
    have h4 : allowB .wipes (.bl w) = true := rfl
    have h5 : allowB .taken (.str t) = true := in_ch ht
    have h6 : allowB .sending (.str s) = true := in_ch hs
    exact (wrongP_ok (p := (Pt.opens, U.str o)) h1).trans ((wrongP_ok (p := (Pt.checks, U.str c)) h2).trans ((wrongP_ok (p := (Pt.around, a.toU)) (allow_ar ha)).trans ((wrongP_ok (p := (Pt.wipes, U.bl w)) h4).trans ((wrongP_ok (p := (Pt.taken, U.str t)) h5).trans (wrongP_ok (p := (Pt.sending, U.str s)) h6)))))
theorem e_good {pas pks : PAs} {ρ : Env} {o c t s : Str} {a : Ar} {w : Bool} (ho : o ∈ Pt.opens.ch) (hc : c ∈ Pt.checks.ch) (ha : a.raw) (ht : t ∈ Pt.taken.ch) (hs : s ∈ Pt.sending.ch) (e1 : pas ρ = .ok [.im (.str o), .im (.str c), .im a.toU]) (e2 : pks ρ = .ok [.im (.bl w), .im (.str t), .im (.str s)]) :
    pMk true 0 6 3 3 (fun us ws => us ++ ws) I_Rule pas pks ρ = .ok (.im (RuleM.toU ⟨o, c, a.srt, w, t, s⟩)) ∧ RuleM.Ok ⟨o, c, a.srt, w, t, s⟩ := by
  obtain ⟨h1, h2⟩ := six_good (w := w) ho hc ha ht hs
  refine ⟨?_, ⟨ho, hc, fun ps e => ?_, ht, hs⟩⟩
  · rw [e_rule h1 e1 e2, h2]
    show Res.ok (R.im (.ins 0 [.str o, .str c, sortU a.toU, .bl w, .str t, .str s])) = _
    rw [sort_ar]
    rfl
  · cases a with
    | own => cases e
    | looks => cases e
    | prs qs => cases e; exact ⟨PrsOk.srt ha, sortP_asc qs⟩
end Rl
namespace Wn
end Wn


namespace Wn
open PySem PySem.Spec PyProof.Rows L2
end Wn
namespace Rl
open PySem PySem.Spec PyProof.Rows L2 Wn
/-! a rule that is drawn -/
def prO (ps : List (Str × Str)) : List O := (ps.map pair2).map .lf
theorem ne_strs (a b : Str) : pEq true (.im (.str a)) (.im (.str b)) = some (.im (.bl (!(a == b)))) := eq_str a b
/-- the pairs so far: of the words so, in the order of the walk -/
structure PrAt (names : List Str) (i j : Nat) (ps : List (Str × Str)) : Prop where
  old : ∀ p ∈ ps, ∃ k l, names[k]? = some p.1 ∧ names[l]? = some p.2 ∧ p.1 ≠ p.2 ∧ (k < i ∨ k = i ∧ l < j)
  nd : ps.Nodup
  len : ps.length ≤ i * names.length + j
theorem PrAt.step {names : List Str} (nd : names.Nodup) {i j : Nat} {a b : Str} {ps : List (Str × Str)} (h : PrAt names i j ps) (ha : names[i]? = some a) (hb : names[j]? = some b) (ne : a ≠ b) : PrAt names i (j + 1) (ps ++ [(a, b)]) where
  old := fun p m => by
    rcases List.mem_append.mp m with m | m
    · obtain ⟨k, l, h1, h2, h3, h4⟩ := h.old p m
      exact ⟨k, l, h1, h2, h3, by omega⟩
    · rw [List.mem_singleton.mp m]
      exact ⟨i, j, ha, hb, ne, .inr ⟨rfl, by omega⟩⟩
  nd := List.nodup_append.mpr ⟨h.nd, by simp, fun p m q hq e => by
    rw [List.mem_singleton] at hq
    rw [e, hq] at m
    obtain ⟨k, l, h1, h2, _, h4⟩ := h.old _ m
    have e1 : k = i := (List.getElem?_inj (List.getElem?_eq_some_iff.mp h1).1 nd).mp (h1.trans ha.symm)
    have e2 : l = j := (List.getElem?_inj (List.getElem?_eq_some_iff.mp h2).1 nd).mp (h2.trans hb.symm)
    omega⟩
  len := by rw [List.length_append]; have := h.len; simp only [List.length_singleton]; omega
theorem PrAt.skip {names : List Str} {i j : Nat} {ps : List (Str × Str)} (h : PrAt names i j ps) : PrAt names i (j + 1) ps := ⟨fun p m => by
  obtain ⟨k, l, h1, h2, h3, h4⟩ := h.old p m
  exact ⟨k, l, h1, h2, h3, by omega⟩, h.nd, by have := h.len; omega⟩
theorem PrAt.row {names : List Str} {i : Nat} {ps : List (Str × Str)} (h : PrAt names i names.length ps) : PrAt names (i + 1) 0 ps := ⟨fun p m => by
  obtain ⟨k, l, h1, h2, h3, h4⟩ := h.old p m
  exact ⟨k, l, h1, h2, h3, by omega⟩, h.nd, by have := h.len; rw [Nat.add_mul]; omega⟩
theorem strs_in {names : List Str} {j : Nat} {u : U} (e : (names.map U.str)[j]? = some u) : ∃ a, names[j]? = some a ∧ u = .str a := by
  rw [List.getElem?_map] at e
  obtain ⟨a, h1, h2⟩ := map_some e
  exact ⟨a, h1, h2⟩
/-- one of three words is drawn -/
theorem p_of3 {pas : PAs} {ρ : Env} {a b c : Str} {P : R → Prop} {X : Er → Prop} (ed : pas ρ = .ok [.im .box, .im (.int 3)]) (h : ∀ z ∈ [a, b, c], P (.im (.str z))) : (pOp pIx (pFrz (pLst (pCons (pC (.str a)) (pCons (pC (.str b)) (pCons (pC (.str c)) pNil))))) (pDraw pas) ρ).pst P X :=
  p_pick (us := [.str a, .str b, .str c]) (.inl rfl) ed (by show 0 < 3; decide) (by show 3 < 1000000; decide) fun u m => by
    obtain ⟨z, hz, rfl⟩ := List.mem_map.mp (show u ∈ [a, b, c].map U.str from m)
    exact h z hz
theorem p_of2 {pas : PAs} {ρ : Env} {a b : Str} {P : R → Prop} {X : Er → Prop} (ed : pas ρ = .ok [.im .box, .im (.int 2)]) (h : ∀ z ∈ [a, b], P (.im (.str z))) : (pOp pIx (pFrz (pLst (pCons (pC (.str a)) (pCons (pC (.str b)) pNil)))) (pDraw pas) ρ).pst P X :=
  p_pick (us := [.str a, .str b]) (.inl rfl) ed (by show 0 < 2; decide) (by show 2 < 1000000; decide) fun u m => by
    obtain ⟨z, hz, rfl⟩ := List.mem_map.mp (show u ∈ [a, b].map U.str from m)
    exact h z hz
def Ar.over (names : List Str) : Ar → Prop
  | .prs ps => ∀ p ∈ ps, p.1 ∈ names ∧ p.2 ∈ names
  | _ => True
theorem Ar.over_srt {names : List Str} {a : Ar} (h : a.over names) : a.srt.over names := by
  cases a with
  | own => trivial
  | looks => trivial
  | prs ps => exact fun p m => h p ((sortP_perm ps).mem_iff.mp m)
end Rl
namespace Wn
end Wn


namespace Wn
open PySem PySem.Spec PyProof.Rows L2
end Wn
namespace Rl
open PySem PySem.Spec PyProof.Rows L2 Wn
/-! the law's own judging -/
theorem abc_has : ∀ c < 128, (!(Builtin.Str.occurrences (PySem.Str.ofString "abcdefghijklmnopqrstuvwxyz") ⟨#[c]⟩ 0 (PySem.Str.ofString "abcdefghijklmnopqrstuvwxyz").length 1).isEmpty) = (decide (97 ≤ c) && decide (c ≤ 122)) := by decide +kernel
theorem letter_in {c : Nat} (h : c < 128) : pInS (.im (.str ⟨#[c]⟩)) (.im (.str "abcdefghijklmnopqrstuvwxyz")) = some (.im (.bl (lowU (.str ⟨#[c]⟩)))) := by
  rw [low1, ← abc_has c h]
  rfl
theorem ne_nat (a b : Nat) : pEq true (.im (.int a)) (.im (.int b)) = some (.im (.bl (!(a == b)))) := by
  have e := eq_nat a b
  unfold pEq at e ⊢
  simp only [uR,Option.bind_some] at e ⊢
  split at e
  · rename_i h
    rw [if_pos h]
    simp only [if_true,Bool.false_eq_true, if_false,Option.some.injEq,R.im.injEq,U.bl.injEq] at e ⊢
    rw [e]
  · cases e
end Rl
namespace Wn
end Wn


namespace Wn
open PySem PySem.Spec PyProof.Rows L2
end Wn
namespace Rl
open PySem PySem.Spec PyProof.Rows L2 Wn
/-! the likeness of data (for the laws without the form's refusals) -/
theorem Dt.upTo {n : Nat} {u : U} (h : Dt n u) : ∀ k, Dt (n + k) u
  | 0 => h
  | k + 1 => (Dt.upTo h k).up
open Classical in
theorem sm_of {n : Nat} {u : U} {d : PyData} (e : toPy u = some d) (h1 : d.depth < n) (h2 : dsz d = true) : smR n [.im u, .im u] = some (.im (.bl true)) := by
  unfold smR
  show ((pyR (.im u)).bind _) = _
  rw [show pyR (.im u) = some d from e]
  show (if _ then _ else _) = _
  rw [if_pos ⟨rfl, h1, h2⟩]
/-! likeness of data -/
theorem dsz_of : ∀ {us : List U}, (∀ u ∈ us, ∃ d, toPy u = some d ∧ dsz d = true) → ∀ {ds : List PyData}, toPys us = some ds → dszAll ds = true ∧ ds.length = us.length
  | [], _, _, e => by cases e; exact ⟨rfl, rfl⟩
  | u :: us, h, ds, e => by
    obtain ⟨d, e1, e2⟩ := h u (.head _)
    obtain ⟨d', es, h1, h2, rfl⟩ := toPys_cons e
    rw [e1] at h1
    cases h1
    obtain ⟨a, b⟩ := dsz_of (fun u m => h u (.tail _ m)) h2
    exact ⟨by show (dsz d && dszAll es) = true; rw [e2, a]; rfl, by rw [List.length_cons, List.length_cons, b]⟩
theorem Dt.dsz {n : Nat} {u : U} (h : Dt n u) : ∃ d, toPy u = some d ∧ dsz d = true := by
  induction h with
  | non => exact ⟨_, rfl, rfl⟩
  | bl b => exact ⟨_, rfl, rfl⟩
  | int i => exact ⟨_, rfl, rfl⟩
  | str h a => exact ⟨_, rfl, rfl⟩
  | tup l h ih =>
    obtain ⟨ds, e1, _⟩ := toPys_of fun u m => (h u m).py
    obtain ⟨a, b⟩ := dsz_of ih e1
    refine ⟨.tuple ds, ?_, ?_⟩
    · unfold toPy
      rw [e1]
      rfl
    · show (decide (ds.length ≤ 100000) && dszAll ds) = true
      rw [a, b, Bool.and_true]
      exact decide_eq_true (by omega)
  | lst l h ih =>
    obtain ⟨ds, e1, _⟩ := toPys_of fun u m => (h u m).py
    obtain ⟨a, b⟩ := dsz_of ih e1
    refine ⟨.list ds, ?_, ?_⟩
    · unfold toPy
      rw [e1]
      rfl
    · show (decide (ds.length ≤ 100000) && dszAll ds) = true
      rw [a, b, Bool.and_true]
      exact decide_eq_true (by omega)
open Classical in
theorem sm_dt {n m : Nat} {u : U} (h : Dt n u) (l : n < m) : smR m [.im u, .im u] = some (.im (.bl true)) := by
  obtain ⟨d, e1, e2⟩ := h.dsz
  obtain ⟨d', e3, _, e4⟩ := h.py
  rw [e1] at e3
  cases e3
  unfold smR
  show ((pyR (.im u)).bind _) = _
  rw [show pyR (.im u) = some d from e1]
  show (if _ then _ else _) = _
  rw [if_pos ⟨rfl, by omega, e2⟩]
theorem dtx {n : Nat} {z : Str} (h : z.length ≤ 1000 ∧ (z.cps.toList.all fun c => decide (c < 128)) = true) : Dt n (.str z) := .str h.1 h.2
end Rl
namespace Wn
end Wn


namespace Wn
open PySem PySem.Spec PyProof.Rows L2
end Wn
namespace Rl
open PySem PySem.Spec PyProof.Rows L2 Wn
/-! the law's own judging of a rule's parts -/
theorem okb {α β : Type} (a : α) (f : α → Res β) : (Res.ok a).bind f = f a := rfl
theorem e_lcR {tg : Tg} {elt : PEx} {pas : PAs} {vs : List Nat} {ρ : Env} {n : Nat} {f : U → U} (e : pas ρ = .ok [.im (.int n)]) (l : n < 1000) (k : ∀ j < n, ∃ ρ1, bindT tg (.int (j : Nat)) (wipeE ρ vs) = some ρ1 ∧ elt ρ1 = .ok (.im (f (.int (j : Nat))))) : pLCR tg pYes elt vs pas ρ = .ok (.fr (.ol (((rng n).map f).map .lf))) := by
  unfold pLCR
  rw [e, okb, rngR_ok l]
  show lcEnd (rng n) (mapR (bindT tg) pYes elt (wipeE ρ vs) (rng n)) = _
  unfold lcEnd
  have m := map_det (bd := bindT tg) (cond := pYes) (elt := elt) (ρ := wipeE ρ vs) (c := fun _ => true) (f := f) (us := rng n) fun u m => by
    obtain ⟨j, hj, rfl⟩ := List.mem_map.mp m
    obtain ⟨ρ1, e1, e2⟩ := k j (List.mem_range.mp hj)
    exact ⟨ρ1, e1, rfl, fun _ => e2⟩
  rw [if_pos (by rw [rng_len]; omega), m, List.filter_eq_self.mpr (fun _ _ => rfl)]
  rfl
theorem e_allR {tg : Tg} {elt : PEx} {pas : PAs} {vs : List Nat} {ρ : Env} {n : Nat} (g : Nat → Bool) (e : pas ρ = .ok [.im (.int n)]) (l : n < 1000) (k : ∀ j < n, ∃ ρ1, bindT tg (.int (j : Nat)) (wipeE ρ vs) = some ρ1 ∧ elt ρ1 = .ok (.im (.bl (g j)))) : pFn fAll (pCons (pLCR tg pYes elt vs pas) pNil) ρ = .ok (.im (.bl ((List.range n).all g))) := by
  have h := e_lcR (f := fun u => .bl (match u with | .int i => g i.toNat | _ => false)) e l k
  refine e_fn (e_cons h rfl) ((all_map (fun u => match u with | .int i => g i.toNat | _ => false) (rng n)).trans ?_)
  unfold rng
  rw [List.all_map]
  rfl
theorem eq_pair2 (p q : Str × Str) : eqU (pair2 p) (pair2 q) = decide (p = q) := by
  show ((p.1 == q.1) && ((p.2 == q.2) && true)) = _
  rw [Bool.and_true, Bool.eq_iff_iff, Bool.and_eq_true, beq_iff_eq, beq_iff_eq, decide_eq_true_eq]
  exact ⟨fun h => Prod.ext h.1 h.2, fun h => by rw [h]; exact ⟨rfl, rfl⟩⟩
theorem any_pair2 (p : Str × Str) (ps : List (Str × Str)) : ((ps.map pair2).any fun y => eqU y (pair2 p)) = decide (p ∈ ps) := by
  rw [List.any_map]
  induction ps with
  | nil => rfl
  | cons q ps ih =>
    rw [List.any_cons, ih]
    show (eqU (pair2 q) (pair2 p) || _) = _
    rw [eq_pair2, Bool.eq_iff_iff, Bool.or_eq_true, decide_eq_true_eq, decide_eq_true_eq, decide_eq_true_eq, List.mem_cons]
    exact ⟨fun h => h.imp Eq.symm id, fun h => h.imp Eq.symm id⟩
/-- what stands at j is none of those ahead of it -/
def newAt {α : Type} [DecidableEq α] (xs : List α) (j : Nat) : Bool := match xs[j]? with
  | some x => !decide (x ∈ xs.take j)
  | none => true
theorem nd_range {α : Type} [DecidableEq α] (xs : List α) : (List.range xs.length).all (newAt xs) = decide xs.Nodup := by
  rw [Bool.eq_iff_iff, List.all_eq_true, decide_eq_true_eq]
  constructor
  · intro h
    refine List.pairwise_iff_getElem.mpr fun i j hi hj lt e => ?_
    have := h j (List.mem_range.mpr hj)
    unfold newAt at this
    rw [List.getElem?_eq_getElem hj] at this
    have := of_decide_eq_false ((Bool.not_eq_true' _).mp this)
    exact this (List.mem_take_iff_getElem.mpr ⟨i, by omega, e⟩)
  · intro h j hj
    have hj := List.mem_range.mp hj
    unfold newAt
    rw [List.getElem?_eq_getElem hj]
    refine (Bool.not_eq_true' _).mpr (decide_eq_false fun m => ?_)
    obtain ⟨i, hi, e2⟩ := List.mem_take_iff_getElem.mp m
    exact (List.pairwise_iff_getElem.mp h) i j (by omega) hj (by omega) e2
theorem isi_strB {p : PEx} {ρ : Env} {u : U} (e : p ρ = .ok (.im u)) (h : Pl u) : pFn fIsi (pCons p (pCons (pC (.ty "str")) pNil)) ρ = .ok (.im (.bl (match u with | .str _ => true | _ => false))) := by
  cases h with
  | str h => exact e_isi e rfl (by decide) (by decide)
  | non => exact e_isi e rfl (by decide) (by decide)
  | bl b => exact e_isi e rfl (by decide) (by decide)
  | int i => exact e_isi e rfl (by decide) (by decide)
  | tup l h => exact e_isi e rfl (by decide) (by decide)
  | lst l h => exact e_isi e rfl (by decide) (by decide)
  | emp => exact e_isi e rfl (by decide) (by decide)
theorem dt_prs {us : List U} (h : us.all pairB = true) (l : us.length < 64) : ∀ u ∈ us, Dt 1 u := fun u m => by
  obtain ⟨p, rfl, h1, h2, _⟩ := pairB_of (List.all_eq_true.mp h u m)
  exact dt_pair h1 h2
theorem us_prs {us : List U} (h : us.all pairB = true) : us = (us.map prOf).map pair2 := by
  rw [List.map_map]
  refine ((List.map_congr_left fun u m => ?_).trans (List.map_id us)).symm
  obtain ⟨p, rfl, _⟩ := pairB_of (List.all_eq_true.mp h u m)
  rfl
theorem cut_to {α : Type} (xs : List α) {j : Nat} : cutG xs none (some (j : Int)) = xs.take j := by
  unfold cutG
  rw [HT.sIx_none, HT.sIx_nat, List.drop_zero, Nat.sub_zero]
  by_cases h : j ≤ xs.length
  · rw [Nat.min_eq_left h]
  · rw [Nat.min_eq_right (by omega), List.take_of_length_le (Nat.le_refl _), List.take_of_length_le (by omega)]
end Rl
namespace Wn
end Wn


namespace Wn
open PySem PySem.Spec PyProof.Rows L2
end Wn
namespace Rl
open PySem PySem.Spec PyProof.Rows L2 Wn
/-! what is drawn, told and due -/
def ptN : Nat → Pt
  | 0 => .opens
  | 1 => .checks
  | 2 => .around
  | 3 => .wipes
  | 4 => .taken
  | _ => .sending
def menuL (p : Pt) : List U := match p with
  | .wipes => [.bl false, .bl true]
  | p => p.ch.map .str
def strB : U → Bool
  | .str _ => true
  | _ => false
theorem in_texts {z : Str} {xs : List Str} : pIn false (.im (.str z)) (.im (.tup (xs.map .str))) = some (.im (.bl (decide (z ∈ xs)))) := by
  show (if fits (.str z) (xs.map .str) = true then _ else _) = _
  have hf : fits (.str z) (xs.map .str) = true := by
    unfold fits
    rw [show flatU (.str z) = true from rfl, strs_flat]
    rfl
  rw [if_pos hf]
  have := any_in (u := .str z) (xs := xs)
  show some (R.im (.bl (if false = true then _ else _))) = _
  rw [if_neg (by decide), this]
  rfl
/-- the names of the pairs -/
def nm6 : List Str := ["a", "b", "abc", "z", "longname", "f"]
theorem nm6_ok : ∀ z ∈ nm6, nameB z = true := by decide +kernel
structure Pr6 (ps : List (Str × Str)) : Prop where
  nm : ∀ p ∈ ps, p.1 ∈ nm6 ∧ p.2 ∈ nm6 ∧ p.1 ≠ p.2
  nd : ps.Nodup
theorem Pr6.ok {ps : List (Str × Str)} (h : Pr6 ps) (l : ps.length < 64) : PrsOk ps := ⟨fun p m => ⟨nm6_ok _ (h.nm p m).1, nm6_ok _ (h.nm p m).2.1, (h.nm p m).2.2⟩, h.nd, l⟩
theorem dt_p {p : Str × Str} (h : p.1 ∈ nm6 ∧ p.2 ∈ nm6) {n : Nat} : Dt (n + 1) (pair2 p) := dt_pair (nm6_ok _ h.1) (nm6_ok _ h.2)
/-- a value that is right for the part -/
def Gd : Pt → U → Prop
  | .around, v => ∃ a : Ar, v = a.toU ∧ ∀ ps, a = .prs ps → Pr6 ps ∧ ps.length < 64
  | .wipes, v => ∃ b, v = .bl b
  | p, v => ∃ z ∈ p.ch, v = .str z
theorem gd_in {p : Pt} (h : p ≠ .around) {v : U} (m : v ∈ menuL p) : Gd p v := by
  cases p with
  | around => exact absurd rfl h
  | wipes =>
    simp only [menuL,List.mem_cons,List.not_mem_nil, or_false] at m
    rcases m with rfl | rfl
    · exact ⟨false, rfl⟩
    · exact ⟨true, rfl⟩
  | opens => obtain ⟨z, hz, rfl⟩ := List.mem_map.mp m; exact ⟨z, hz, rfl⟩
  | checks => obtain ⟨z, hz, rfl⟩ := List.mem_map.mp m; exact ⟨z, hz, rfl⟩
  | taken => obtain ⟨z, hz, rfl⟩ := List.mem_map.mp m; exact ⟨z, hz, rfl⟩
  | sending => obtain ⟨z, hz, rfl⟩ := List.mem_map.mp m; exact ⟨z, hz, rfl⟩
theorem gd_around {v : U} (m : v ∈ menuL .around) : Gd .around v := by
  simp only [menuL,Pt.ch,List.map_cons,List.map_nil,List.mem_cons,List.not_mem_nil, or_false] at m
  rcases m with rfl | rfl
  · exact ⟨.own, rfl, fun ps e => nomatch e⟩
  · exact ⟨.looks, rfl, fun ps e => nomatch e⟩
end Rl
namespace Wn
end Wn


namespace Wn
open PySem PySem.Spec PyProof.Rows L2
end Wn
namespace Rl
open PySem PySem.Spec PyProof.Rows L2 Wn
/-! any value, told and due -/
mutual
def dtB : Nat → U → Bool
  | _, .non => true
  | _, .bl _ => true
  | _, .int _ => true
  | _, .str z => decide (z.length ≤ 1000) && z.cps.toList.all fun c => decide (c < 128)
  | n + 1, .tup us => decide (us.length ≤ 1000) && dtBs n us
  | n + 1, .lst us => decide (us.length ≤ 1000) && dtBs n us
  | _, _ => false
def dtBs : Nat → List U → Bool
  | _, [] => true
  | n, u :: us => dtB n u && dtBs n us
end
mutual
theorem dtB_of : ∀ {n : Nat} {u : U}, dtB n u = true → Dt n u
  | _, .non, _ => .non
  | _, .bl b, _ => .bl b
  | _, .int i, _ => .int i
  | _, .str z, h => by
    have h := Bool.and_eq_true_iff.mp (show (decide (z.length ≤ 1000) && _) = true by unfold dtB at h; exact h)
    exact .str (of_decide_eq_true h.1) h.2
  | n + 1, .tup us, h => by
    have h := Bool.and_eq_true_iff.mp (show (decide (us.length ≤ 1000) && dtBs n us) = true by unfold dtB at h; exact h)
    exact .tup (of_decide_eq_true h.1) (dtBs_of h.2)
  | n + 1, .lst us, h => by
    have h := Bool.and_eq_true_iff.mp (show (decide (us.length ≤ 1000) && dtBs n us) = true by unfold dtB at h; exact h)
    exact .lst (of_decide_eq_true h.1) (dtBs_of h.2)
  | 0, .tup us, h => by unfold dtB at h; cases h
  | 0, .lst us, h => by unfold dtB at h; cases h
  | _, .ins c xs, h => by unfold dtB at h; cases h
  | _, .emp, h => by unfold dtB at h; cases h
  | _, .box, h => by unfold dtB at h; cases h
  | _, .ty n, h => by unfold dtB at h; cases h
  | _, .cl c, h => by unfold dtB at h; cases h
theorem dtBs_of : ∀ {n : Nat} {us : List U}, dtBs n us = true → ∀ u ∈ us, Dt n u
  | _, [], _, u, m => nomatch m
  | n, v :: us, h, u, m => by
    have h := Bool.and_eq_true_iff.mp (show (dtB n v && dtBs n us) = true by unfold dtBs at h; exact h)
    rcases List.mem_cons.mp m with e | m
    · rw [e]; exact dtB_of h.1
    · exact dtBs_of h.2 u m
end
def fewB : U → Bool
  | .tup us => decide (us.length < 64)
  | _ => true
def empB : U → Bool
  | .emp => true
  | _ => false
/-- whatever a part is given -/
structure Vv (v : U) : Prop where
  dt : v = .emp ∨ Dt 3 v
  few : fewB v = true
theorem Vv.vr {v : U} (h : Vv v) : Vr v := by
  refine ⟨?_, ?_, fun us e => ?_⟩
  · rcases h.dt with e | d
    · rw [e]; exact .emp
    · exact d.pl
  · rcases h.dt with e | d
    · exact .inl e
    · exact d.cm (by decide)
  · have := h.few
    rw [e] at this
    exact of_decide_eq_true this
theorem vv_of {v : U} (h : ((empB v || dtB 3 v) && fewB v) = true) : Vv v := by
  obtain ⟨h1, h2⟩ := Bool.and_eq_true_iff.mp h
  refine ⟨?_, h2⟩
  rcases Bool.or_eq_true_iff.mp h1 with z | z
  · cases v <;> first | exact .inl rfl | cases z
  · exact .inr (dtB_of z)
theorem vv_str {z : Str} (h : nameB z = true) : Vv (.str z) := ⟨.inr (.nm h), rfl⟩
theorem gd_vv {p : Pt} {v : U} (h : Gd p v) : Vv v := by
  have st : (∃ z ∈ p.ch, v = .str z) → Vv v := fun ⟨z, hz, e⟩ => by rw [e]; exact vv_str (ch_names p z hz)
  cases p with
  | around =>
    obtain ⟨a, rfl, ha⟩ := h
    cases a with
    | own => exact vv_str (by decide +kernel)
    | looks => exact vv_str (by decide +kernel)
    | prs ps =>
      obtain ⟨h1, h2⟩ := ha ps rfl
      refine ⟨.inr (.tup (by rw [List.length_map]; omega) fun u m => ?_), ?_⟩
      · obtain ⟨q, hq, rfl⟩ := List.mem_map.mp m
        exact dt_p ⟨(h1.nm q hq).1, (h1.nm q hq).2.1⟩
      · show decide ((ps.map pair2).length < 64) = true
        rw [List.length_map]
        exact decide_eq_true h2
  | wipes => obtain ⟨b, rfl⟩ := h; exact ⟨.inr (.bl b), rfl⟩
  | opens => exact st h
  | checks => exact st h
  | taken => exact st h
  | sending => exact st h
def tx (z : Str) : U := .str z
def menuV : List U := [tx "enter", tx "leave", tx "send", tx "own", tx "looks", tx "any", tx "bar", .bl true, .bl false, .int 0, .int 1, .non, tx "", tx "Own", .lst [tx "own"],
  .tup [.tup [tx "a", tx "a"]], .tup [.tup [tx "a", tx "b"], .tup [tx "a", tx "b"]], .lst [.tup [tx "a", tx "b"]], .tup [.tup [tx "a", tx "b", tx "c"]], .tup [.tup [tx "a", tx "B"]], .tup [tx "a", tx "b"],
  .tup [.tup [tx "a", tx ""]], .tup [.lst [tx "a", tx "b"]], .emp, .tup [.tup [tx "a", tx "b"], .non], .tup [.tup [tx "a", .int 1]], .tup [.tup []]]
theorem menuV_ok : ∀ u ∈ menuV, Vv u := by
  have h : (menuV.all fun v => (empB v || dtB 3 v) && fewB v) = true := by decide +kernel
  exact fun u m => vv_of (List.all_eq_true.mp h u m)
/-- what is told -/
def toldU (a b c d e f : U) : U := match wrongP (six a b c d e f) with
  | some p => .tup [.str "refused", .str p.nm, .bl true]
  | none => .tup [.str "made", .tup (ruleL a b c d e f)]
theorem six_eq {xs : List U} {a b c d e f : U} (hx : xs = [a, b, c, d, e, f]) : F_L_six [.ins 0 xs] = .ok (.im (.tup xs)) := by
  subst hx
  rfl
/-! what is due -/
def namesT : List U := [.str "opens", .str "checks", .str "around", .str "wipes", .str "taken", .str "sending"]
end Rl
namespace Wn
end Wn


namespace Wn
open PySem PySem.Spec PyProof.Rows L2
end Wn
namespace Rl
open PySem PySem.Spec PyProof.Rows L2 Wn
/-! with_part of a good rule for any part and any value -/
def RuleM.val (R : RuleM) : Pt → U
  | .opens => .str R.opens
  | .checks => .str R.checks
  | .around => R.around.toU
  | .wipes => .bl R.wipes
  | .taken => .str R.taken
  | .sending => .str R.sending
def Pt.ix : Pt → Nat
  | .opens => 0
  | .checks => 1
  | .around => 2
  | .wipes => 3
  | .taken => 4
  | .sending => 5
def partsZ : List Str := ["opens", "checks", "around", "wipes", "taken", "sending"]
theorem Pt.nm_in (p : Pt) : p.nm ∈ partsZ := by cases p <;> decide +kernel
theorem partsZ_nm : ∀ z ∈ partsZ, nameB z = true := by decide +kernel
theorem partsZ_pt {z : Str} (h : z ∈ partsZ) : ∃ p : Pt, z = p.nm := by
  simp only [partsZ,List.mem_cons,List.not_mem_nil, or_false] at h
  rcases h with rfl | rfl | rfl | rfl | rfl | rfl
  · exact ⟨.opens, rfl⟩
  · exact ⟨.checks, rfl⟩
  · exact ⟨.around, rfl⟩
  · exact ⟨.wipes, rfl⟩
  · exact ⟨.taken, rfl⟩
  · exact ⟨.sending, rfl⟩
theorem RuleM.vr {R : RuleM} (h : R.Ok) (q : Pt) : Vr (R.val q) ∧ allowB q (R.val q) = true := by
  cases q with
  | opens => exact ⟨vr_str (ch_names .opens _ h.opens), in_ch h.opens⟩
  | checks => exact ⟨vr_str (ch_names .checks _ h.checks), in_ch h.checks⟩
  | around =>
    have : R.around.raw := by
      cases ha : R.around with
      | own => trivial
      | looks => trivial
      | prs ps => exact (h.around ps ha).1
    exact ⟨vr_ar this, allow_ar this⟩
  | wipes => exact ⟨vr_bl _, rfl⟩
  | taken => exact ⟨vr_str (ch_names .taken _ h.taken), in_ch h.taken⟩
  | sending => exact ⟨vr_str (ch_names .sending _ h.sending), in_ch h.sending⟩
theorem RuleM.srt {R : RuleM} (h : R.Ok) : sortU R.around.toU = R.around.toU := by
  rw [sort_ar]
  cases ha : R.around with
  | own => rfl
  | looks => rfl
  | prs ps =>
    obtain ⟨h1, h2⟩ := h.around ps ha
    exact congrArg Ar.toU (congrArg Ar.prs (asc_uniq (sortP_asc ps) h2 (sortP_perm ps)))
def wq (R : RuleM) (p : Pt) (v : U) (q : Pt) : U := if (q.nm == p.nm) = true then v else R.val q
def heldT (R : RuleM) : List U := R.L
theorem e_lcWD {ts : List Tg} {elt : PEx} {pi : Env → Res (List (List U))} {vs : List Nat} {ρ : Env} {us : List (List U)} {f : U → U} (e : pi ρ = .ok us) (l : us.length ≤ 100000) (k : ∀ u ∈ us.map U.tup, ∃ ρ1, bindT (.tp ts) u (wipeE ρ vs) = some ρ1 ∧ elt ρ1 = .ok (.im (f u))) : pLCW ts pYes elt vs pi ρ = .ok (.fr (.ol (((us.map U.tup).map f).map .lf))) := by
  unfold pLCW
  rw [e]
  show lcEnd (us.map .tup) _ = _
  unfold lcEnd
  have m := map_det (bd := bindT (.tp ts)) (cond := pYes) (elt := elt) (ρ := wipeE ρ vs) (c := fun _ => true) (f := f) (us := us.map .tup) fun u m => by
    obtain ⟨ρ1, e1, e2⟩ := k u m
    exact ⟨ρ1, e1, rfl, fun _ => e2⟩
  rw [if_pos (by rw [List.length_map]; exact l), m, List.filter_eq_self.mpr (fun _ _ => rfl)]
  rfl
def pickF (p : Pt) (v : U) : U → U
  | .tup [.str z, x] => if (z == p.nm) = true then v else x
  | u => u
abbrev rowsW (R : RuleM) : List (List U) := [[.str "opens", .str R.opens], [.str "checks", .str R.checks], [.str "around", R.around.toU], [.str "wipes", .bl R.wipes], [.str "taken", .str R.taken], [.str "sending", .str R.sending]]
abbrev wpE (R : RuleM) (p : Pt) (v : U) (s3 s4 s5 s6 : Sl) : Env := [.im R.toU, .im (.str p.nm), .im v, s3, s4, s5, s6, .un, .un, .un, .un, .un, .un]
theorem wp_run {R : RuleM} (hR : R.Ok) (p : Pt) {v : U} (hv : Vr v) : F_Rule_with_part [R.toU, .str p.nm, v] = match wrongP (six (wq R p v .opens) (wq R p v .checks) (wq R p v .around) (wq R p v .wipes) (wq R p v .taken) (wq R p v .sending)) with
    | some q => .ex ⟨0, [.str q.nm]⟩
    | none => .ok (.im (.ins 0 (ruleL (wq R p v .opens) (wq R p v .checks) (wq R p v .around) (wq R p v .wipes) (wq R p v .taken) (wq R p v .sending)))) := by
  have vw : ∀ q, Vr (wq R p v q) := fun q => by
    unfold wq
    split
    · exact hv
    · exact (RuleM.vr hR q).1
  have c0 : pTs (pOp (pInX true) (pVar 1) (pC (.tup [.str "opens", .str "checks", .str "around", .str "wipes", .str "taken", .str "sending"]))) (wpE R p v .un .un .un .un) = .ok false := by
    refine e_ts (e_op (x := .im (.str p.nm)) (y := .im (.tup (partsZ.map .str))) rfl rfl ?_)
    rw [notin_X (vr_str (partsZ_nm _ p.nm_in)).cm partsZ_nm rfl]
    rw [in_ch p.nm_in]
    rfl
  have e3 : pAsg 3 (pTup (pCons (pUn (pAt [(0, 0)]) (pVar 0)) (pCons (pUn (pAt [(0, 1)]) (pVar 0)) (pCons (pUn (pAt [(0, 2)]) (pVar 0)) (pCons (pUn (pAt [(0, 3)]) (pVar 0)) (pCons (pUn (pAt [(0, 4)]) (pVar 0)) (pCons (pUn (pAt [(0, 5)]) (pVar 0)) pNil))))))) (wpE R p v .un .un .un .un) = .ok (.nx (wpE R p v (.im (.tup R.L)) .un .un .un)) := rfl
  have e4 : pLCW [.nm 5, .nm 6] pYes (pIf (pTs (pOp pEqX (pVar 5) (pVar 1))) (pVar 2) (pVar 6)) [5, 6] (pZip (pCons (pC (.tup [(.str "opens"), (.str "checks"), (.str "around"), (.str "wipes"), (.str "taken"), (.str "sending")])) (pCons (pVar 3) pNil))) (wpE R p v (.im (.tup R.L)) .un .un .un) = .ok (.fr (.ol ((((rowsW R).map U.tup).map (pickF p v)).map .lf))) := by
    refine e_lcWD (us := rowsW R) rfl (by show 6 ≤ 100000; decide) fun u m => ?_
    have gen : ∀ (z : Str) (x : U), ∃ ρ1, bindT (.tp [.nm 5, .nm 6]) (.tup [.str z, x]) (wipeE (wpE R p v (.im (.tup R.L)) .un .un .un) [5, 6]) = some ρ1 ∧ pIf (pTs (pOp pEqX (pVar 5) (pVar 1))) (pVar 2) (pVar 6) ρ1 = .ok (.im (pickF p v (.tup [.str z, x]))) := fun z x => by
      refine ⟨wpE R p v (.im (.tup R.L)) .un (.im (.str z)) (.im x), rfl, ?_⟩
      refine e_ifx (e_ts (e_op (x := .im (.str z)) (y := .im (.str p.nm)) rfl rfl (eqX_strs _ _))) (fun h => ?_) fun h => ?_
      · show _ = Res.ok (Rl.R.im (if (z == p.nm) = true then v else x))
        rw [if_pos h]; rfl
      · show _ = Res.ok (Rl.R.im (if (z == p.nm) = true then v else x))
        rw [if_neg (by rw [h]; decide)]; rfl
    simp only [List.map_cons,List.map_nil,List.mem_cons,List.not_mem_nil, or_false] at m
    rcases m with rfl | rfl | rfl | rfl | rfl | rfl <;> exact gen _ _
  have er := e_rule (pas := pCons (pVar 7) (pCons (pVar 8) (pCons (pVar 9) pNil))) (pks := pCons (pVar 10) (pCons (pVar 11) (pCons (pVar 12) pNil))) (ρ := [.im R.toU, .im (.str p.nm), .im v, .im (.tup R.L), .im (.lst [wq R p v .opens, wq R p v .checks, wq R p v .around, wq R p v .wipes, wq R p v .taken, wq R p v .sending]), .un, .un, .im (wq R p v .opens), .im (wq R p v .checks), .im (wq R p v .around), .im (wq R p v .wipes), .im (wq R p v .taken), .im (wq R p v .sending)]) (a := wq R p v .opens) (b := wq R p v .checks) (c := wq R p v .around) (d := wq R p v .wipes) (e := wq R p v .taken) (f := wq R p v .sending) (fun q m => by
    simp only [six,List.mem_cons,List.not_mem_nil, or_false] at m
    rcases m with rfl | rfl | rfl | rfl | rfl | rfl <;> exact vw _) rfl rfl
  have body : ∀ x, pRet (pMk true 0 6 3 3 (fun us ws => us ++ ws) I_Rule (pCons (pVar 7) (pCons (pVar 8) (pCons (pVar 9) pNil))) (pCons (pVar 10) (pCons (pVar 11) (pCons (pVar 12) pNil)))) [.im R.toU, .im (.str p.nm), .im v, .im (.tup R.L), .im (.lst [wq R p v .opens, wq R p v .checks, wq R p v .around, wq R p v .wipes, wq R p v .taken, wq R p v .sending]), .un, .un, .im (wq R p v .opens), .im (wq R p v .checks), .im (wq R p v .around), .im (wq R p v .wipes), .im (wq R p v .taken), .im (wq R p v .sending)] = x → B_Rule_with_part (wpE R p v .un .un .un .un) = x := fun x hx => by
    unfold B_Rule_with_part
    refine e_seq (e_skip c0) (e_seq e3 (e_seq (ρ' := wpE R p v (.im (.tup R.L)) (.ow (.ol ((((rowsW R).map U.tup).map (pickF p v)).map .lf))) .un .un) (e_asg e4 rfl) ?_))
    refine e_seq (ρ' := [.im R.toU, .im (.str p.nm), .im v, .im (.tup R.L), .im (.lst [wq R p v .opens, wq R p v .checks, wq R p v .around, wq R p v .wipes, wq R p v .taken, wq R p v .sending]), .un, .un, .im (wq R p v .opens), .im (wq R p v .checks), .im (wq R p v .around), .im (wq R p v .wipes), .im (wq R p v .taken), .im (wq R p v .sending)]) rfl hx
  cases hw : wrongP (six (wq R p v .opens) (wq R p v .checks) (wq R p v .around) (wq R p v .wipes) (wq R p v .taken) (wq R p v .sending)) with
  | some q =>
    rw [hw] at er
    exact e_runX (ρ := wpE R p v .un .un .un .un) rfl (body _ (by unfold pRet; rw [er]; rfl))
  | none =>
    rw [hw] at er
    exact e_run (ρ := wpE R p v .un .un .un .un) rfl (body _ (e_ret er))
theorem wp_bad {R : RuleM} {u v : U} (h : Cm u) (hn : inB u partsZ = false) : F_Rule_with_part [R.toU, u, v] = .ex ⟨0, [u]⟩ := by
  refine e_runX (ρ := [.im R.toU, .im u, .im v, .un, .un, .un, .un, .un, .un, .un, .un, .un, .un]) rfl ?_
  unfold B_Rule_with_part
  refine e_seqX (e_take (e_ts (x := true) (e_op (x := .im u) (y := .im (.tup (partsZ.map .str))) rfl rfl ?_)) (e_rz1 rfl))
  rw [notin_X h partsZ_nm rfl, hn]
  rfl
theorem inB_ex {v : U} {xs : List Str} (h : inB v xs = true) : ∃ z, v = .str z ∧ z ∈ xs := by
  cases v with
  | str z => exact ⟨z, rfl, of_decide_eq_true h⟩
  | _ => cases h
theorem nm_inj (p q : Pt) (h : (q.nm == p.nm) = true) : q = p := by
  revert h
  cases p <;> cases q <;> first | (intro _; rfl) | (intro h; exact absurd h (by decide +kernel))
theorem wrongP_first {p : Pt × U} {ps : List (Pt × U)} (h : allowB p.1 p.2 = false) : wrongP (p :: ps) = some p.1 := if_neg (by rw [h]; decide)
theorem wq_ne {R : RuleM} {p q : Pt} {v : U} (h : (q.nm == p.nm) = false) : wq R p v q = R.val q := if_neg (by rw [h]; decide)
theorem wq_eq {R : RuleM} {p : Pt} {v : U} : wq R p v p = v := if_pos (beq_self_eq_true _)
theorem wp_wrong {R : RuleM} (hR : R.Ok) (p : Pt) {v : U} (h : allowB p v = false) : wrongP (six (wq R p v .opens) (wq R p v .checks) (wq R p v .around) (wq R p v .wipes) (wq R p v .taken) (wq R p v .sending)) = some p := by
  have a : ∀ q, (q.nm == p.nm) = false → allowB q (wq R p v q) = true := fun q e => by rw [wq_ne e]; exact (RuleM.vr hR q).2
  have b : allowB p (wq R p v p) = false := by rw [wq_eq]; exact h
  unfold six
  cases p with
  | opens => exact wrongP_first (p := (Pt.opens, _)) b
  | checks => exact (wrongP_ok (p := (Pt.opens, _)) (a .opens (by decide +kernel))).trans (wrongP_first (p := (Pt.checks, _)) b)
  | around => exact (wrongP_ok (p := (Pt.opens, _)) (a .opens (by decide +kernel))).trans ((wrongP_ok (p := (Pt.checks, _)) (a .checks (by decide +kernel))).trans (wrongP_first (p := (Pt.around, _)) b))
  | wipes => exact (wrongP_ok (p := (Pt.opens, _)) (a .opens (by decide +kernel))).trans ((wrongP_ok (p := (Pt.checks, _)) (a .checks (by decide +kernel))).trans ((wrongP_ok (p := (Pt.around, _)) (a .around (by decide +kernel))).trans (wrongP_first (p := (Pt.wipes, _)) b)))
  | taken => exact (wrongP_ok (p := (Pt.opens, _)) (a .opens (by decide +kernel))).trans ((wrongP_ok (p := (Pt.checks, _)) (a .checks (by decide +kernel))).trans ((wrongP_ok (p := (Pt.around, _)) (a .around (by decide +kernel))).trans ((wrongP_ok (p := (Pt.wipes, _)) (a .wipes (by decide +kernel))).trans (wrongP_first (p := (Pt.taken, _)) b))))
  | sending => exact (wrongP_ok (p := (Pt.opens, _)) (a .opens (by decide +kernel))).trans ((wrongP_ok (p := (Pt.checks, _)) (a .checks (by decide +kernel))).trans ((wrongP_ok (p := (Pt.around, _)) (a .around (by decide +kernel))).trans ((wrongP_ok (p := (Pt.wipes, _)) (a .wipes (by decide +kernel))).trans ((wrongP_ok (p := (Pt.taken, _)) (a .taken (by decide +kernel))).trans (wrongP_first (p := (Pt.sending, _)) b)))))
theorem wp_none {R : RuleM} (hR : R.Ok) (p : Pt) {v : U} (h : allowB p v = true) : wrongP (six (wq R p v .opens) (wq R p v .checks) (wq R p v .around) (wq R p v .wipes) (wq R p v .taken) (wq R p v .sending)) = none := by
  have a : ∀ q, allowB q (wq R p v q) = true := fun q => by
    unfold wq
    split
    · rename_i e
      rw [nm_inj _ _ e]
      exact h
    · exact (RuleM.vr hR q).2
  unfold six
  exact (wrongP_ok (p := (Pt.opens, _)) (a .opens)).trans ((wrongP_ok (p := (Pt.checks, _)) (a .checks)).trans ((wrongP_ok (p := (Pt.around, _)) (a .around)).trans ((wrongP_ok (p := (Pt.wipes, _)) (a .wipes)).trans ((wrongP_ok (p := (Pt.taken, _)) (a .taken)).trans (wrongP_ok (p := (Pt.sending, _)) (a .sending))))))
theorem ar_ex {v : U} (hv : Vr v) (h : allowB .around v = true) : ∃ a : Ar, a.raw ∧ v = a.toU := by
  change (if tupB v = true then prsB (itemsU v) else inB v Pt.around.ch) = true at h
  cases ht : tupB v with
  | true =>
    rw [if_pos ht] at h
    cases v with
    | tup us =>
      have h : prsB us = true := h
      obtain ⟨h1, h2⟩ := Bool.and_eq_true_iff.mp h
      have eq : us = (us.map prOf).map pair2 := by
        rw [List.map_map]
        refine ((List.map_congr_left fun u m => ?_).trans (List.map_id us)).symm
        obtain ⟨q, rfl, _⟩ := pairB_of (List.all_eq_true.mp h1 u m)
        rfl
      refine ⟨.prs (us.map prOf), ⟨fun q m => ?_, of_decide_eq_true h2, by rw [List.length_map]; exact hv.sh us rfl⟩, congrArg U.tup eq⟩
      obtain ⟨u, mu, rfl⟩ := List.mem_map.mp m
      obtain ⟨q, rfl, q1, q2, q3⟩ := pairB_of (List.all_eq_true.mp h1 u mu)
      exact ⟨q1, q2, q3⟩
    | _ => cases ht
  | false =>
    rw [if_neg (by rw [ht]; decide)] at h
    obtain ⟨z, rfl, m⟩ := inB_ex h
    simp only [Pt.ch,List.mem_cons,List.not_mem_nil, or_false] at m
    rcases m with rfl | rfl
    · exact ⟨.own, trivial, rfl⟩
    · exact ⟨.looks, trivial, rfl⟩
/-- what with_part gives -/
theorem wp_good {R : RuleM} (hR : R.Ok) (p : Pt) {v : U} (hv : Vr v) (h : allowB p v = true) : ∃ R' : RuleM, R'.Ok ∧ F_Rule_with_part [R.toU, .str p.nm, v] = .ok (.im R'.toU) ∧ R'.L = R.L.set p.ix (sortU v) := by
  have e := wp_run hR p hv
  rw [wp_none hR p h] at e
  have s := RuleM.srt hR
  cases p with
  | opens =>
    obtain ⟨z, rfl, m⟩ := inB_ex h
    refine ⟨{ R with opens := z }, ⟨m, hR.checks, hR.around, hR.taken, hR.sending⟩, e.trans ?_, rfl⟩
    show Res.ok (Rl.R.im (.ins _ [.str z, .str R.checks, sortU R.around.toU, .bl R.wipes, .str R.taken, .str R.sending])) = _
    rw [s]; rfl
  | checks =>
    obtain ⟨z, rfl, m⟩ := inB_ex h
    refine ⟨{ R with checks := z }, ⟨hR.opens, m, hR.around, hR.taken, hR.sending⟩, e.trans ?_, rfl⟩
    show Res.ok (Rl.R.im (.ins _ [.str R.opens, .str z, sortU R.around.toU, .bl R.wipes, .str R.taken, .str R.sending])) = _
    rw [s]; rfl
  | around =>
    obtain ⟨a, ra, rfl⟩ := ar_ex hv h
    refine ⟨{ R with around := a.srt }, ⟨hR.opens, hR.checks, fun ps e => ?_, hR.taken, hR.sending⟩, e.trans ?_, ?_⟩
    · cases a with
      | own => cases e
      | looks => cases e
      | prs qs => cases e; exact ⟨PrsOk.srt ra, sortP_asc qs⟩
    · show Res.ok (Rl.R.im (.ins _ [.str R.opens, .str R.checks, sortU a.toU, .bl R.wipes, .str R.taken, .str R.sending])) = _
      rw [sort_ar]; rfl
    · show [_, _, a.srt.toU, _, _, _] = [_, _, sortU a.toU, _, _, _]
      rw [sort_ar]
  | wipes =>
    cases v with
    | bl b =>
      refine ⟨{ R with wipes := b }, ⟨hR.opens, hR.checks, hR.around, hR.taken, hR.sending⟩, e.trans ?_, rfl⟩
      show Res.ok (Rl.R.im (.ins _ [.str R.opens, .str R.checks, sortU R.around.toU, .bl b, .str R.taken, .str R.sending])) = _
      rw [s]; rfl
    | _ => cases h
  | taken =>
    obtain ⟨z, rfl, m⟩ := inB_ex h
    refine ⟨{ R with taken := z }, ⟨hR.opens, hR.checks, hR.around, m, hR.sending⟩, e.trans ?_, rfl⟩
    show Res.ok (Rl.R.im (.ins _ [.str R.opens, .str R.checks, sortU R.around.toU, .bl R.wipes, .str z, .str R.sending])) = _
    rw [s]; rfl
  | sending =>
    obtain ⟨z, rfl, m⟩ := inB_ex h
    refine ⟨{ R with sending := z }, ⟨hR.opens, hR.checks, hR.around, hR.taken, m⟩, e.trans ?_, rfl⟩
    show Res.ok (Rl.R.im (.ins _ [.str R.opens, .str R.checks, sortU R.around.toU, .bl R.wipes, .str R.taken, .str z])) = _
    rw [s]; rfl
end Rl
namespace Wn
end Wn


namespace Wn
open PySem PySem.Spec PyProof.Rows L2
end Wn
namespace Rl
open PySem PySem.Spec PyProof.Rows L2 Wn
/-! what the law holds for allowed -/
abbrev prAB : U := .tup [.str "a", .str "b"]
abbrev prBA : U := .tup [.str "b", .str "a"]
abbrev prAA : U := .tup [.str "a", .str "a"]
def valsL : List U := [.str "enter", .str "leave", .str "send", .str "own", .str "looks", .str "any", .str "same", .str "last", .str "bar", .str "wait", .str "go", .bl true, .bl false, .tup [], .tup [prBA, prAB], .tup [prAA], .lst [prAB], .int 0, .int 1, .non, .str "", .lst [.str "own"], .emp]
def badP : List U := [.str "", .str "Opens", .non, .int 0, .lst [.str "taken"], .bl true, .str "room"]
def ks5 : List Str := ["opens", "checks", "around", "taken", "sending"]
def us5 : List U := [.tup [.str "enter", .str "leave", .str "send"], .tup [.str "enter", .str "leave"], .tup [.str "own", .str "looks"], .tup [.str "any", .str "same", .str "last"], .tup [.str "bar", .str "wait", .str "go"]]
theorem vals_vv : ∀ v ∈ valsL, Vv v := by
  intro v m
  simp only [valsL,List.mem_cons,List.not_mem_nil, or_false] at m
  rcases m with rfl | rfl | rfl | rfl | rfl | rfl | rfl | rfl | rfl | rfl | rfl | rfl | rfl | rfl | rfl | rfl | rfl | rfl | rfl | rfl | rfl | rfl | rfl <;> first | exact ⟨.inr (dtB_of (by decide +kernel)), rfl⟩ | exact ⟨.inl rfl, rfl⟩
theorem bad_dt : ∀ u ∈ badP, Dt 2 u := by
  intro v m
  simp only [badP,List.mem_cons,List.not_mem_nil, or_false] at m
  rcases m with rfl | rfl | rfl | rfl | rfl | rfl | rfl <;> exact dtB_of (by decide +kernel)
theorem isi_s8 {p : PEx} {ρ : Env} {u : U} (e : p ρ = .ok (.im u)) (h : Pl u) : pFn fIsi (pCons p (pCons (pC (.ty "str")) pNil)) ρ = .ok (.im (.bl (strB u))) := by
  cases h with
  | str h => exact e_isi e rfl (by decide) (by decide)
  | non => exact e_isi e rfl (by decide) (by decide)
  | bl b => exact e_isi e rfl (by decide) (by decide)
  | int i => exact e_isi e rfl (by decide) (by decide)
  | tup l h => exact e_isi e rfl (by decide) (by decide)
  | lst l h => exact e_isi e rfl (by decide) (by decide)
  | emp => exact e_isi e rfl (by decide) (by decide)
theorem e_dictR {i : Nat} {l : List (Str × PEx)} {q : List U → PEx} {ρ : Env} {rs : List R} {us : List U} {r : R} (e : dgP l ρ = .ok rs) (h : imRs rs = some us) (nd : (l.map Prod.fst).Nodup ∧ (l.map Prod.fst).length = us.length ∧ i < ρ.length) (k : q us (ρ.set i .un) = .ok r) : pDictR i l q ρ = .ok (.rt r (ρ.set i .un)) := by
  unfold pDictR
  rw [e, okb, h]
  show ((Res.opt (if _ then some us else none)).bind _) = _
  rw [if_pos nd]
  show ((q us (ρ.set i .un)).bind _) = _
  rw [k]
  rfl
theorem e_inDk {ks : List Str} {pa : PEx} {ρ : Env} {z : Str} (e : pa ρ = .ok (.im (.str z))) : pInDk ks pa ρ = .ok (.im (.bl (decide (z ∈ ks)))) := by
  unfold pInDk
  rw [e]
  rfl
theorem e_ixDk {ks : List Str} {us : List U} {pa : PEx} {ρ : Env} {z : Str} {u : U} (e : pa ρ = .ok (.im (.str z))) (h : ks.Nodup ∧ ks.length = us.length ∧ ks.length ≤ 15) (h2 : us[ks.idxOf z]? = some u) : pIxDk ks us pa ρ = .ok (.im u) := by
  unfold pIxDk
  rw [e]
  show Res.opt (if _ then _ else _) = _
  rw [if_pos h, h2]
  rfl
abbrev dictQ : List U → PEx := fun dus => (pB (pAnd (pTs (pInDk ks5 (pVar 0))) (pTs (pB (pAnd (pTs (pFn fIsi (pCons (pVar 1) (pCons (pC (.ty "str")) pNil)))) (pTs (pOp (pIn false) (pVar 1) (pIxDk ks5 dus (pVar 0)))))))))
theorem ks5_ok : ks5.Nodup ∧ ks5.length = us5.length ∧ ks5.length ≤ 15 := ⟨by decide +kernel, rfl, by decide⟩
theorem fits_go {z : Str} {v : U} {b : Bool} (hv : Vr v) (hw : (z == ("wipes" : Str)) = false) (ha : (z == ("around" : Str)) = true → tupB v = false) (hq : dictQ us5 [.im (.str z), .im v, .un] = .ok (.im (.bl b))) : F_L_fits [.str z, v] = .ok (.im (.bl b)) := by
  unfold F_L_fits
  refine e_run (ρ := [.im (.str z), .im v, .un]) (ρ' := [.im (.str z), .im v, .un]) rfl ?_
  unfold B_L_fits
  have e0 := e_not (e_tru (e_isi (p := pVar 0) (ρ := [.im (.str z), .im v, .un]) (u := .str z) (t := "str") (n := "str") rfl rfl (by decide) (by decide)))
  have ew := e_ts (e_op (f := pEq false) (a := pVar 0) (b := pC (.str "wipes")) (ρ := [.im (.str z), .im v, .un]) rfl rfl (eq_str z "wipes" (neg := false)))
  have ea := e_ts (e_op (f := pEq false) (a := pVar 0) (b := pC (.str "around")) (ρ := [.im (.str z), .im v, .un]) rfl rfl (eq_str z "around" (neg := false)))
  have et := e_tru (isi_tupB (p := pVar 1) (ρ := [.im (.str z), .im v, .un]) rfl hv.pl)
  refine e_seq (e_skip e0) (e_seq (e_skip (ew.trans (congrArg Res.ok hw))) (e_seq (e_skip ((e_and ea fun _ => et).trans ?_)) ?_))
  · cases hz : (z == ("around" : Str)) with
    | true => rw [ha hz]; rfl
    | false => rfl
  · refine e_dictR (us := us5) (rs := us5.map .im) rfl rfl ⟨ks5_ok.1, rfl, by show 2 < 3; decide⟩ ?_
    exact hq
theorem fits_no {u v : U} (hu : u ∈ badP) (hv : Vr v) : F_L_fits [u, v] = .ok (.im (.bl false)) := by
  have gen : ∀ z : Str, (z == ("wipes" : Str)) = false → (z == ("around" : Str)) = false → decide (z ∈ ks5) = false → F_L_fits [.str z, v] = .ok (.im (.bl false)) := fun z h1 h2 h3 => by
    refine fits_go hv h1 (fun h => by rw [h2] at h; cases h) (e_b (e_andF (e_ts ?_)))
    rw [e_inDk (z := z) rfl, h3]
  have oth : strB u = false → Pl u → F_L_fits [u, v] = .ok (.im (.bl false)) := fun h hp => by
    unfold F_L_fits
    refine e_run (ρ := [.im u, .im v, .un]) (ρ' := [.im u, .im v, .un]) rfl ?_
    unfold B_L_fits
    refine e_seqR (e_take (e_not (x := false) (e_tru ?_)) rfl)
    rw [isi_s8 rfl hp, h]
  have hp := (bad_dt u hu).pl
  simp only [badP,List.mem_cons,List.not_mem_nil, or_false] at hu
  rcases hu with rfl | rfl | rfl | rfl | rfl | rfl | rfl
  · exact gen _ (by decide +kernel) (by decide +kernel) (by decide +kernel)
  · exact gen _ (by decide +kernel) (by decide +kernel) (by decide +kernel)
  · exact oth rfl hp
  · exact oth rfl hp
  · exact oth rfl hp
  · exact oth rfl hp
  · exact gen _ (by decide +kernel) (by decide +kernel) (by decide +kernel)
theorem fits_menu {p : Pt} {v : U} (hv : Vr v) (hp : p ≠ .wipes) (ht : p = .around → tupB v = false) : F_L_fits [.str p.nm, v] = .ok (.im (.bl (inB v p.ch))) := by
  have row : us5[ks5.idxOf p.nm]? = some (.tup (p.ch.map .str)) := by
    cases p with
    | wipes => exact absurd rfl hp
    | _ => kernel_rfl
  have hm : decide (p.nm ∈ ks5) = true := by
    cases p with
    | wipes => exact absurd rfl hp
    | _ => decide +kernel
  refine fits_go hv ?_ (fun h => ht ?_) ?_
  · cases p with
    | wipes => exact absurd rfl hp
    | _ => decide +kernel
  · exact nm_inj .around p h
  · have e1 := e_ts (e_inDk (ks := ks5) (pa := pVar 0) (ρ := [.im (.str p.nm), .im v, .un]) (z := p.nm) rfl)
    rw [hm] at e1
    have e2 := e_ts (isi_s8 (p := pVar 1) (ρ := [.im (.str p.nm), .im v, .un]) rfl hv.pl)
    refine e_b ((e_and (y := inB v p.ch) e1 fun _ => e_ts (e_b ?_)).trans rfl)
    cases v with
    | str x => exact e_and (x := true) e2 fun _ => e_ts (e_op (x := .im (.str x)) (y := .im (.tup (p.ch.map .str))) rfl (e_ixDk rfl ks5_ok row) in_texts)
    | _ => exact e_andF e2
theorem fits_pt (p : Pt) {v : U} (hv : v ∈ valsL) : F_L_fits [.str p.nm, v] = .ok (.im (.bl (allowB p v))) := by
  have vr := (vals_vv v hv).vr
  cases p with
  | opens => exact fits_menu (p := .opens) vr (by intro h; cases h) (by intro h; cases h)
  | checks => exact fits_menu (p := .checks) vr (by intro h; cases h) (by intro h; cases h)
  | taken => exact fits_menu (p := .taken) vr (by intro h; cases h) (by intro h; cases h)
  | sending => exact fits_menu (p := .sending) vr (by intro h; cases h) (by intro h; cases h)
  | wipes =>
    unfold F_L_fits
    refine e_run (ρ := [.im (.str "wipes"), .im v, .un]) (ρ' := [.im (.str "wipes"), .im v, .un]) rfl ?_
    unfold B_L_fits
    refine e_seq (e_skip (e_not (x := true) (e_tru (e_isi (p := pVar 0) (ρ := [.im (.str "wipes"), .im v, .un]) (u := .str "wipes") (t := "str") (n := "str") rfl rfl (by decide) (by decide))))) (e_seqR (e_take ?_ (e_ret (isi_blB rfl vr.pl))))
    exact (e_ts (e_op rfl rfl (eq_str "wipes" "wipes" (neg := false)))).trans (congrArg Res.ok (by decide +kernel))
  | around =>
    cases ht : tupB v with
    | false =>
      have := fits_menu (p := .around) vr (by intro h; cases h) (fun _ => ht)
      rw [this]
      show _ = Res.ok (Rl.R.im (.bl (if tupB v = true then prsB (itemsU v) else inB v Pt.around.ch)))
      rw [if_neg (by rw [ht]; decide)]
    | true =>
      unfold F_L_fits
      refine e_run (ρ := [.im (.str "around"), .im v, .un]) (ρ' := [.im (.str "around"), .im v, .un]) rfl ?_
      unfold B_L_fits
      have et := e_tru (isi_tupB (p := pVar 1) (ρ := [.im (.str "around"), .im v, .un]) rfl vr.pl)
      rw [ht] at et
      refine e_seq (e_skip (e_not (x := true) (e_tru (e_isi (p := pVar 0) (ρ := [.im (.str "around"), .im v, .un]) (u := .str "around") (t := "str") (n := "str") rfl rfl (by decide) (by decide))))) (e_seq (e_skip ?_) (e_seqR (e_take (e_and (x := true) (y := true) ?_ fun _ => et) (e_ret ?_))))
      · exact (e_ts (e_op rfl rfl (eq_str "around" "wipes" (neg := false)))).trans (congrArg Res.ok (by decide +kernel))
      · exact (e_ts (e_op rfl rfl (eq_str "around" "around" (neg := false)))).trans (congrArg Res.ok (by decide +kernel))
      · simp only [valsL,List.mem_cons,List.not_mem_nil, or_false] at hv
        rcases hv with rfl | rfl | rfl | rfl | rfl | rfl | rfl | rfl | rfl | rfl | rfl | rfl | rfl | rfl | rfl | rfl | rfl | rfl | rfl | rfl | rfl | rfl | rfl <;> first | (exact absurd ht (by decide)) | kernel_rfl
/-! what is told -/
theorem RuleM.dt {R : RuleM} (h : R.Ok) : ∀ u ∈ R.L, Dt 2 u := by
  have sd : ∀ {z : Str} {p : Pt}, z ∈ p.ch → Dt 2 (.str z) := fun {z p} h => .nm (ch_names p z h)
  intro u m
  simp only [RuleM.L,List.mem_cons,List.not_mem_nil, or_false] at m
  rcases m with rfl | rfl | rfl | rfl | rfl | rfl
  · exact sd h.opens
  · exact sd h.checks
  · cases ha : R.around with
    | own => exact dtB_of (by decide +kernel)
    | looks => exact dtB_of (by decide +kernel)
    | prs ps =>
      have hp := (h.around ps ha).1
      refine .tup (by rw [List.length_map]; have := hp.sh; omega) fun u m => ?_
      obtain ⟨p, hp', rfl⟩ := List.mem_map.mp m
      exact dt_pair (hp.nm p hp').1 (hp.nm p hp').2.1
  · exact .bl _
  · exact sd h.taken
  · exact sd h.sending
theorem told_no {R : RuleM} {u v : U} (e : F_Rule_with_part [R.toU, u, v] = .ex ⟨0, [u]⟩) : F_L_told [R.toU, u, v] = .ok (.im (.tup [.str "refused", u])) := by
  unfold F_L_told
  refine e_run (ρ := [.im R.toU, .im u, .im v, .un, .un]) (ρ' := [.im R.toU, .im u, .im v, .un, .un]) rfl ?_
  unfold B_L_told
  refine e_seqR ?_
  have eb : pAsg 4 (pFrz (pMeth 0 3 F_Rule_with_part (pVar 0) (pCons (pVar 1) (pCons (pVar 2) pNil)))) [.im R.toU, .im u, .im v, .un, .un] = .ex ⟨0, [u]⟩ := by
    have : pMeth 0 3 F_Rule_with_part (pVar 0) (pCons (pVar 1) (pCons (pVar 2) pNil)) [.im R.toU, .im u, .im v, .un, .un] = F_Rule_with_part [R.toU, u, v] := rfl
    unfold pAsg pFrz
    rw [this, e]
    rfl
  unfold pTry
  rw [eb]
  rfl
theorem told_yes {R S : RuleM} {u v : U} (e : F_Rule_with_part [R.toU, u, v] = .ok (.im S.toU)) : F_L_told [R.toU, u, v] = .ok (.im (.tup [.str "rule", .tup S.L])) := by
  unfold F_L_told
  refine e_run (ρ := [.im R.toU, .im u, .im v, .un, .un]) (ρ' := [.im R.toU, .im u, .im v, .un, .im S.toU]) rfl ?_
  unfold B_L_told
  have this : pMeth 0 3 F_Rule_with_part (pVar 0) (pCons (pVar 1) (pCons (pVar 2) pNil)) [.im R.toU, .im u, .im v, .un, .un] = F_Rule_with_part [R.toU, u, v] := rfl
  have eb : pAsg 4 (pFrz (pMeth 0 3 F_Rule_with_part (pVar 0) (pCons (pVar 1) (pCons (pVar 2) pNil)))) [.im R.toU, .im u, .im v, .un, .un] = .ok (.nx [.im R.toU, .im u, .im v, .un, .im S.toU]) := e_asg (e_frz (this.trans e)) rfl
  refine e_seq (ρ' := [.im R.toU, .im u, .im v, .un, .im S.toU]) ?_ (e_ret ?_)
  · unfold pTry
    rw [eb]
    rfl
  · exact e_tup (rs := [.im (.str "rule"), .im (.tup S.L)]) (us := [.str "rule", .tup S.L]) (e_cons rfl (e_cons (e_frz (e_call (us := [S.toU]) rfl rfl rfl (six_eq rfl))) rfl)) (by show 2 ≤ 1000; decide) rfl
end Rl
namespace Wn
end Wn


namespace Wn
open PySem PySem.Spec PyProof.Rows L2
end Wn
namespace Rl
open PySem PySem.Spec PyProof.Rows L2 Wn
abbrev E8 (R : RuleM) (s7 s8 s9 s10 s11 : Sl) : Env := [.un, .im .box, .im (.tup (partsZ.map .str)), .im (.tup (partsZ.map .str ++ badP)), .im (.lst valsL), .im (.lst R.L), .im R.toU, s7, s8, s9, s10, s11]
def R08 : RuleM := ⟨"leave", "enter", .looks, true, "any", "go"⟩
theorem R08_ok : R08.Ok := ⟨.tail _ (.head _), .head _, fun ps e => (by cases e), .head _, .tail _ (.tail _ (.head _))⟩
theorem tix_pt (p : Pt) {ρ : Env} (h2 : ρ[2]? = some (.im (.tup (partsZ.map .str)))) (h8 : ρ[8]? = some (.im (.str p.nm))) : pTix (pVar 2) (pVar 8) ρ = .ok (.im (.int (p.ix : Nat))) := by
  have a : pVar 2 ρ = .ok (.im (.tup (partsZ.map .str))) := by unfold pVar; rw [h2]; rfl
  have b : pVar 8 ρ = .ok (.im (.str p.nm)) := by unfold pVar; rw [h8]; rfl
  unfold pTix
  rw [a, okb]
  show ((Res.opt (tupR (.im (.tup (partsZ.map .str))))).bind _) = _
  rw [show tupR (.im (.tup (partsZ.map .str))) = some (partsZ.map .str) from rfl]
  show ((pVar 8 ρ).bind _) = _
  rw [b]
  clear a b h2 h8
  cases p <;> kernel_rfl
theorem same_L {R : RuleM} (hR : R.Ok) {ρ : Env} (h5 : ρ[5]? = some (.im (.lst R.L))) (h6 : ρ[6]? = some (.im R.toU)) : pFn (smR 12) (pCons (pFrz (pCall 1 F_L_six (pCons (pVar 6) pNil))) (pCons (pFn fTup (pCons (pVar 5) pNil)) pNil)) ρ = .ok (.im (.bl true)) := by
  have a : pVar 5 ρ = .ok (.im (.lst R.L)) := by unfold pVar; rw [h5]; rfl
  have b : pVar 6 ρ = .ok (.im R.toU) := by unfold pVar; rw [h6]; rfl
  have dT : Dt 3 (.tup R.L) := .tup (by show 6 ≤ 1000; decide) (RuleM.dt hR)
  exact e_fn (e_cons (e_frz (e_call (us := [R.toU]) (e_cons b rfl) rfl rfl (six_eq rfl))) (e_cons (x := .im (.tup R.L)) (e_fn (e_cons a rfl) rfl) rfl)) (sm_dt dT (by decide))
theorem names_at {u : U} (m : u ∈ partsZ.map U.str ++ badP) : (∃ p : Pt, u = .str p.nm) ∨ u ∈ badP := by
  rcases List.mem_append.mp m with m | m
  · obtain ⟨z, hz, rfl⟩ := List.mem_map.mp m
    obtain ⟨p, rfl⟩ := partsZ_pt hz
    exact .inl ⟨p, rfl⟩
  · exact .inr m
theorem bad_inB {u : U} (m : u ∈ badP) : inB u partsZ = false := by
  simp only [badP,List.mem_cons,List.not_mem_nil, or_false] at m
  rcases m with rfl | rfl | rfl | rfl | rfl | rfl | rfl <;> decide +kernel
theorem ed8 (j : Nat) {ρ : Env} (h1 : ρ[1]? = some (.im .box)) (h7 : ρ[7]? = some (.im (.int (j : Nat)))) : pCons (pVar 1) (pCons (pOp pAdd (pC (.int 6)) (pOp pMul (pC (.int 7)) (pOp pMod (pVar 7) (pC (.int 2))))) pNil) ρ = .ok [.im .box, .im (.int (6 + 7 * ((j : Int) % 2)))] := by
  have a : pVar 1 ρ = .ok (.im .box) := by unfold pVar; rw [h1]; rfl
  have b : pVar 7 ρ = .ok (.im (.int (j : Nat))) := by unfold pVar; rw [h7]; rfl
  have c : pOp pMod (pVar 7) (pC (.int 2)) ρ = .ok (.im (.int ((j : Int) % 2))) := e_op b (y := .im (.int 2)) rfl (by
    show (if (0 : Int) < 2 then some (U.int ((j : Int) % 2)) else none).map Rl.R.im = _
    rw [if_pos (by decide)]
    rfl)
  rcases (show (j : Int) % 2 = 0 ∨ (j : Int) % 2 = 1 by omega) with h | h
  · rw [h] at c ⊢
    exact e_cons a (e_cons (e_op (x := .im (.int 6)) rfl (e_op (x := .im (.int 7)) rfl c rfl) rfl) rfl)
  · rw [h] at c ⊢
    exact e_cons a (e_cons (e_op (x := .im (.int 6)) rfl (e_op (x := .im (.int 7)) rfl c rfl) rfl) rfl)
theorem says_law : Says B_law 10 := by
  show (B_law [.un, .im .box, .un, .un, .un, .un, .un, .un, .un, .un, .un, .un]).post (fun o => ∃ ρ, o = .rt (.im (.bl true)) ρ) (fun _ => False)
  rw [← pst_eq]
  unfold B_law
  refine p_seqE (ρ' := [.un, .im .box, .im (.tup (partsZ.map .str)), .un, .un, .un, .un, .un, .un, .un, .un, .un]) rfl ?_
  refine p_seqE (ρ' := [.un, .im .box, .im (.tup (partsZ.map .str)), .im (.tup (partsZ.map .str ++ badP)), .un, .un, .un, .un, .un, .un, .un, .un]) rfl ?_
  refine p_seqE (ρ' := [.un, .im .box, .im (.tup (partsZ.map .str)), .im (.tup (partsZ.map .str ++ badP)), .ow (.ol ((valsL.take 13).map .lf)), .un, .un, .un, .un, .un, .un, .un]) rfl ?_
  refine p_seqE (ρ' := [.un, .im .box, .im (.tup (partsZ.map .str)), .im (.tup (partsZ.map .str ++ badP)), .ow (.ol [.lf (.str "enter"), .lf (.str "leave"), .lf (.str "send"), .lf (.str "own"), .lf (.str "looks"), .lf (.str "any"), .lf (.str "same"), .lf (.str "last"), .lf (.str "bar"), .lf (.str "wait"), .lf (.str "go"), .lf (.bl true), .lf (.bl false), .lf (.tup []), .lf (.tup [prBA, prAB]), .lf (.tup [prAA]), .ol [.lf prAB], .lf (.int 0), .lf (.int 1), .lf .non, .lf (.str ""), .ol [.lf (.str "own")], .lf .emp]), .un, .un, .un, .un, .un, .un, .un]) rfl ?_
  refine p_seqE (ρ' := [.un, .im .box, .im (.tup (partsZ.map .str)), .im (.tup (partsZ.map .str ++ badP)), .ow (.ol [.lf (.str "enter"), .lf (.str "leave"), .lf (.str "send"), .lf (.str "own"), .lf (.str "looks"), .lf (.str "any"), .lf (.str "same"), .lf (.str "last"), .lf (.str "bar"), .lf (.str "wait"), .lf (.str "go"), .lf (.bl true), .lf (.bl false), .lf (.tup []), .lf (.tup [prBA, prAB]), .lf (.tup [prAA]), .ol [.lf prAB], .lf (.int 0), .lf (.int 1), .lf .non, .lf (.str ""), .ol [.lf (.str "own")], .lf .emp]), .im (.lst R08.L), .un, .un, .un, .un, .un, .un]) rfl ?_
  have em := (e_good (pas := pCons (pC (.str "leave")) (pCons (pC (.str "enter")) (pCons (pC (.str "looks")) pNil))) (pks := pCons (pC (.bl true)) (pCons (pC (.str "any")) (pCons (pC (.str "go")) pNil))) (ρ := [.un, .im .box, .im (.tup (partsZ.map .str)), .im (.tup (partsZ.map .str ++ badP)), .ow (.ol [.lf (.str "enter"), .lf (.str "leave"), .lf (.str "send"), .lf (.str "own"), .lf (.str "looks"), .lf (.str "any"), .lf (.str "same"), .lf (.str "last"), .lf (.str "bar"), .lf (.str "wait"), .lf (.str "go"), .lf (.bl true), .lf (.bl false), .lf (.tup []), .lf (.tup [prBA, prAB]), .lf (.tup [prAA]), .ol [.lf prAB], .lf (.int 0), .lf (.int 1), .lf .non, .lf (.str ""), .ol [.lf (.str "own")], .lf .emp]), .im (.lst R08.L), .un, .un, .un, .un, .un, .un]) (o := "leave") (c := "enter") (t := "any") (s := "go") (a := .looks) (w := true) R08_ok.opens R08_ok.checks trivial R08_ok.taken R08_ok.sending rfl rfl).1
  refine p_seqE (ρ' := [.un, .im .box, .im (.tup (partsZ.map .str)), .im (.tup (partsZ.map .str ++ badP)), .ow (.ol [.lf (.str "enter"), .lf (.str "leave"), .lf (.str "send"), .lf (.str "own"), .lf (.str "looks"), .lf (.str "any"), .lf (.str "same"), .lf (.str "last"), .lf (.str "bar"), .lf (.str "wait"), .lf (.str "go"), .lf (.bl true), .lf (.bl false), .lf (.tup []), .lf (.tup [prBA, prAB]), .lf (.tup [prAA]), .ol [.lf prAB], .lf (.int 0), .lf (.int 1), .lf .non, .lf (.str ""), .ol [.lf (.str "own")], .lf .emp]), .im (.lst R08.L), .im R08.toU, .un, .un, .un, .un, .un]) (e_asg em rfl) ?_
  refine p_seq (p_fz (u := .lst valsL) rfl rfl ?_)
  refine p_forR (post_ok (a := [.im (.int (14 : Nat))]) rfl ⟨14, rfl, by decide, ?_⟩)
  refine post_loop0 (fun _ (ρ : Env) => ∃ R s7 s8 s9 s10 s11, RuleM.Ok R ∧ ρ = E8 R s7 s8 s9 s10 s11) ⟨R08, _, _, _, _, _, R08_ok, rfl⟩ ?_ ?_
  · rintro j u ρ hj ⟨R, s7, s8, s9, s10, s11, hR, rfl⟩
    obtain ⟨_, rfl⟩ := rng_in hj
    refine ⟨E8 R (.im (.int j)) s8 s9 s10 s11, rfl, ?_⟩
    refine p_seq (p_asg (p_op (post_ok (a := .im (.tup (partsZ.map .str ++ badP))) rfl (p_draw (m := 6 + 7 * ((j : Int) % 2)) (ed8 j rfl rfl) (by omega) (by omega) fun r r0 r1 => ?_))))
    obtain ⟨u, hu, _, eu⟩ := ix_in (us := partsZ.map .str ++ badP) r0 (by show r < 13; omega)
    refine ⟨_, eu, E8 R (.im (.int j)) (.im u) s9 s10 s11, rfl, ?_⟩
    refine p_seq (p_asg (p_pick (us := valsL) (.inl rfl) rfl (by show 0 < 23; decide) (by show 23 < 1000000; decide) fun v hv => ?_))
    refine ⟨E8 R (.im (.int j)) (.im u) (.im v) s10 s11, rfl, ?_⟩
    have vr := (vals_vv v hv).vr
    refine p_seqE (ρ' := E8 R (.im (.int j)) (.im u) (.im v) (.im (.tup [.str "refused", u])) s11) rfl ?_
    refine p_seqE (ρ' := E8 R (.im (.int j)) (.im u) (.im v) (.im (.tup [.str "refused", u])) (.ow (.ol (R.L.map .lf)))) rfl ?_
    -- refused
    have no : Dt 2 u → F_L_fits [u, v] = .ok (.im (.bl false)) → F_Rule_with_part [R.toU, u, v] = .ex ⟨0, [u]⟩ → ∀ (P : Out → Prop), (∀ s10 s11, P (.nx (E8 R (.im (.int j)) (.im u) (.im v) s10 s11))) → (pSeq (pIfS (pTru (pCall 2 F_L_fits (pCons (pVar 8) (pCons (pVar 9) pNil)))) (pSeq (pSetI 11 (pVar 9) (pTix (pVar 2) (pVar 8))) (pSeq (pIfS (pTru (pFn fIsi (pCons (pVar 9) (pCons (pC (.ty "tuple")) pNil)))) (pSetI 11 (pFn fTup (pCons (pFn fSortP (pCons (pVar 9) pNil)) pNil)) (pC (.int 2))) pSkip) (pAsg 10 (pTup (pCons (pC (.str "rule")) (pCons (pFn fTup (pCons (pVar 11) pNil)) pNil)))))) pSkip) (pSeq (pIfS (pOr (pNot (pTru (pFn (smR 12) (pCons (pFrz (pCall 3 F_L_told (pCons (pVar 6) (pCons (pVar 8) (pCons (pVar 9) pNil))))) (pCons (pVar 10) pNil))))) (pNot (pTru (pFn (smR 12) (pCons (pFrz (pCall 1 F_L_six (pCons (pVar 6) pNil))) (pCons (pFn fTup (pCons (pVar 5) pNil)) pNil)))))) (pRet (pC (.bl false))) pSkip) (pFz 11 (pIfS (pTs (pOp (pEq false) (pOp pIx (pVar 10) (pC (.int 0))) (pC (.str "rule")))) (pSeq (pAsg 6 (pFrz (pMeth 0 3 F_Rule_with_part (pVar 6) (pCons (pVar 8) (pCons (pVar 9) pNil))))) (pAsg 5 (pVar 11))) pSkip))) (E8 R (.im (.int j)) (.im u) (.im v) (.im (.tup [.str "refused", u])) (.ow (.ol (R.L.map .lf))))).pst P (fun _ => False) := fun du ef ew P hP => by
      refine p_seqE (e_skip (e_tru (e_call (us := [u, v]) rfl rfl rfl ef))) ?_
      have dT : Dt 3 (.tup [.str "refused", u]) := .tup (by show 2 ≤ 1000; decide) fun x m => by
        simp only [List.mem_cons,List.not_mem_nil, or_false] at m
        rcases m with rfl | rfl
        · exact dtB_of (by decide +kernel)
        · exact du
      have e1 := e_tru (e_fn (f := smR 12) (e_cons (e_frz (e_call (n := 3) (fn := F_L_told) (pas := pCons (pVar 6) (pCons (pVar 8) (pCons (pVar 9) pNil))) (ρ := E8 R (.im (.int j)) (.im u) (.im v) (.im (.tup [.str "refused", u])) (.ow (.ol (R.L.map .lf)))) (us := [R.toU, u, v]) rfl rfl rfl (told_no ew))) (e_cons (a := pVar 10) (b := pNil) (x := .im (.tup [.str "refused", u])) rfl rfl)) (sm_dt dT (by decide)))
      refine p_seqE (e_skip (e_or (x := false) (y := false) (e_not e1) fun _ => e_not (e_tru (same_L hR rfl rfl)))) ?_
      refine p_fz rfl (frz_lf _) ?_
      refine post_ok (e_skip ?_) (hP _ _)
      exact (e_ts (e_op (x := .im (.str "refused")) rfl rfl (eq_str _ _ (neg := false)))).trans (congrArg Res.ok (by decide +kernel))
    rcases names_at hu with ⟨p, rfl⟩ | hb
    · cases hal : allowB p v with
      | false =>
        have ew := wp_run hR p vr
        rw [wp_wrong hR p hal] at ew
        exact no (.nm (partsZ_nm _ p.nm_in)) (by rw [fits_pt p hv, hal]) ew _ fun s10 s11 => ⟨R, _, _, _, _, _, hR, rfl⟩
      | true =>
        obtain ⟨S, hS, ew, eL⟩ := wp_good hR p vr hal
        have ef := e_tru (e_call (n := 2) (fn := F_L_fits) (pas := pCons (pVar 8) (pCons (pVar 9) pNil)) (ρ := E8 R (.im (.int j)) (.im (.str p.nm)) (.im v) (.im (.tup [.str "refused", .str p.nm])) (.ow (.ol (R.L.map .lf)))) (us := [.str p.nm, v]) rfl rfl rfl (fits_pt p hv))
        rw [hal] at ef
        have et := e_tru (isi_tupB (p := pVar 9) (ρ := E8 R (.im (.int j)) (.im (.str p.nm)) (.im v) (.im (.tup [.str "refused", .str p.nm])) (.ow (.ol ((R.L.set p.ix v).map .lf)))) rfl vr.pl)
        have hix : p.ix < 6 := by cases p <;> decide
        have e11 : pSetI 11 (pVar 9) (pTix (pVar 2) (pVar 8)) (E8 R (.im (.int j)) (.im (.str p.nm)) (.im v) (.im (.tup [.str "refused", .str p.nm])) (.ow (.ol (R.L.map .lf)))) = .ok (.nx (E8 R (.im (.int j)) (.im (.str p.nm)) (.im v) (.im (.tup [.str "refused", .str p.nm])) (.ow (.ol ((R.L.set p.ix v).map .lf))))) := by
          unfold pSetI pLs
          show ((pCons _ (pCons (pTix (pVar 2) (pVar 8)) pNil) _).bind _) = _
          rw [e_cons (x := .im v) rfl (e_cons (tix_pt p rfl rfl) rfl)]
          cases p <;> rfl
        have e12 : pIfS (pTru (pFn fIsi (pCons (pVar 9) (pCons (pC (.ty "tuple")) pNil)))) (pSetI 11 (pFn fTup (pCons (pFn fSortP (pCons (pVar 9) pNil)) pNil)) (pC (.int 2))) pSkip (E8 R (.im (.int j)) (.im (.str p.nm)) (.im v) (.im (.tup [.str "refused", .str p.nm])) (.ow (.ol ((R.L.set p.ix v).map .lf)))) = .ok (.nx (E8 R (.im (.int j)) (.im (.str p.nm)) (.im v) (.im (.tup [.str "refused", .str p.nm])) (.ow (.ol (S.L.map .lf))))) := by
          rw [eL]
          cases ht : tupB v with
          | false =>
            rw [ht] at et
            rw [show sortU v = v from if_neg (by rw [ht]; decide)]
            exact e_skip et
          | true =>
            rw [ht] at et
            refine e_take et ?_
            cases v with
            | tup us =>
              cases p with
              | around =>
                have hpr : us.all pairB = true := (Bool.and_eq_true_iff.mp (show prsB us = true from hal)).1
                have es : pFn fTup (pCons (pFn fSortP (pCons (pVar 9) pNil)) pNil) (E8 R (.im (.int j)) (.im (.str Pt.around.nm)) (.im (.tup us)) (.im (.tup [.str "refused", .str Pt.around.nm])) (.ow (.ol ((R.L.set Pt.around.ix (.tup us)).map .lf)))) = .ok (.im (sortU (.tup us))) := by
                  refine e_fn (e_cons (x := .fr (.ol (((sortP (us.map prOf)).map pair2).map .lf))) (e_fn (rs := [.im (.tup us)]) rfl ?_) rfl) (tup_fr _)
                  unfold fSortP
                  show (prsU us).map (fun ps => Rl.R.fr (.ol (((sortP ps).map pair2).map .lf))) = _
                  rw [prsU_pairs hpr]
                  rfl
                unfold pSetI pLs
                show ((pCons _ (pCons (pC (.int 2)) pNil) _).bind _) = _
                rw [e_cons es (e_cons (x := .im (.int 2)) rfl rfl)]
                rfl
              | wipes => cases hal
              | opens => cases hal
              | checks => cases hal
              | taken => cases hal
              | sending => cases hal
            | _ => cases ht
        have e10 : pAsg 10 (pTup (pCons (pC (.str "rule")) (pCons (pFn fTup (pCons (pVar 11) pNil)) pNil))) (E8 R (.im (.int j)) (.im (.str p.nm)) (.im v) (.im (.tup [.str "refused", .str p.nm])) (.ow (.ol (S.L.map .lf)))) = .ok (.nx (E8 R (.im (.int j)) (.im (.str p.nm)) (.im v) (.im (.tup [.str "rule", .tup S.L])) (.ow (.ol (S.L.map .lf))))) := rfl
        refine p_seqE (e_take ef (e_seq e11 (e_seq e12 e10))) ?_
        have dT : Dt 4 (.tup [.str "rule", .tup S.L]) := .tup (by show 2 ≤ 1000; decide) fun x m => by
          simp only [List.mem_cons,List.not_mem_nil, or_false] at m
          rcases m with rfl | rfl
          · exact dtB_of (by decide +kernel)
          · exact .tup (by show 6 ≤ 1000; decide) (RuleM.dt hS)
        have e1 := e_tru (e_fn (f := smR 12) (e_cons (e_frz (e_call (n := 3) (fn := F_L_told) (pas := pCons (pVar 6) (pCons (pVar 8) (pCons (pVar 9) pNil))) (ρ := E8 R (.im (.int j)) (.im (.str p.nm)) (.im v) (.im (.tup [.str "rule", .tup S.L])) (.ow (.ol (S.L.map .lf)))) (us := [R.toU, .str p.nm, v]) rfl rfl rfl (told_yes ew))) (e_cons (a := pVar 10) (b := pNil) (x := .im (.tup [.str "rule", .tup S.L])) rfl rfl)) (sm_dt dT (by decide)))
        refine p_seqE (e_skip (e_or (x := false) (y := false) (e_not e1) fun _ => e_not (e_tru (same_L hR rfl rfl)))) ?_
        refine p_fz rfl (frz_lf _) ?_
        refine post_ok (a := .nx (E8 S (.im (.int j)) (.im (.str p.nm)) (.im v) (.im (.tup [.str "rule", .tup S.L])) (.im (.lst S.L)))) (e_take ?_ ?_) ?_
        · exact (e_ts (e_op (x := .im (.str "rule")) rfl rfl (eq_str _ _ (neg := false)))).trans (congrArg Res.ok (by decide +kernel))
        · have this : pMeth 0 3 F_Rule_with_part (pVar 6) (pCons (pVar 8) (pCons (pVar 9) pNil)) (E8 R (.im (.int j)) (.im (.str p.nm)) (.im v) (.im (.tup [.str "rule", .tup S.L])) (.im (.lst S.L))) = F_Rule_with_part [R.toU, .str p.nm, v] := rfl
          exact e_seq (e_asg (e_frz (this.trans ew)) rfl) rfl
        · exact ⟨S, _, _, _, _, _, hS, rfl⟩
    · exact no (bad_dt u hb) (fits_no hb vr) (wp_bad (Dt.cm (bad_dt u hb) (by decide)) (bad_inB hb)) _ fun s10 s11 => ⟨R, _, _, _, _, _, hR, rfl⟩
  · rintro ρ ⟨R, s7, s8, s9, s10, s11, hR, rfl⟩
    exact p_ret (post_ok (a := .im (.bl true)) (same_L hR rfl rfl) ⟨_, rfl⟩)
end Rl
namespace Wn
end Wn


namespace Wn
open PySem PySem.Spec PyProof.Rows L2
theorem xfacts {l : PySem.W.OpenLaw} {w : World} {K : PySem.W.Frag} {h : Heap} {mg : Str → Option Value} {fa : Addr} (X : K.In h) (G : h.Ns mainGlobals mg) (hfa : mg ("law" : Str) = some (.ref fa)) (c : He.SaysX xfa xfn xts [] (Hx.allB xex) w h K) :
    ∃ fd : FuncData, (∀ (s : Shared) (v : Value), BindsTo s fd ⟨[v], []⟩ [("_law_script", v)]) ∧ ∀ base : Heap, K.In base → base.Ns mainGlobals mg → FnOk l.prog w K mg base CX0 14 fa fd ["_law_script"] (spLaw K) := by
  have e := hfa.symm.trans (He.glo_ok X G (c.t.d.fact 42 (f := .glo "law") rfl))
  cases e
  obtain ⟨d0, D0⟩ := c.t.d.def_ 0 (d := dd0) rfl
  have F0 : L2.Fun K "is_name" "is_name" s_is_name (He.ga K "is_name") d0 := Hx.funOf D0
  have b0 := F0.binds (ps := ["value"]) fun _ _ _ _ _ _ us hl => match us, hl with | [_], _ => rfl
  obtain ⟨d1, D1⟩ := c.t.d.def_ 1 (d := dd1) rfl
  have F1 : L2.Fun K "has_items" "has_items" s_has_items (He.ga K "has_items") d1 := Hx.funOf D1
  have b1 := F1.binds (ps := ["value", "count"]) fun _ _ _ _ _ _ us hl => match us, hl with | [_, _], _ => rfl
  obtain ⟨d2, D2⟩ := c.t.d.def_ 2 (d := dd2) rfl
  have F2 : L2.Fun K "are_names" "are_names" s_are_names (He.ga K "are_names") d2 := Hx.funOf D2
  have b2 := F2.binds (ps := ["values"]) fun _ _ _ _ _ _ us hl => match us, hl with | [_], _ => rfl
  obtain ⟨d3, D3⟩ := c.t.d.def_ 3 (d := dd3) rfl
  have F3 : L2.Fun K "are_pairs" "are_pairs" s_are_pairs (He.ga K "are_pairs") d3 := Hx.funOf D3
  have b3 := F3.binds (ps := ["values"]) fun _ _ _ _ _ _ us hl => match us, hl with | [_], _ => rfl
  obtain ⟨d4, D4⟩ := c.t.d.def_ 4 (d := dd4) rfl
  have F4 : L2.Fun K "is_allowed" "is_allowed" s_is_allowed (He.ga K "is_allowed") d4 := Hx.funOf D4
  have b4 := F4.binds (ps := ["part", "value"]) fun _ _ _ _ _ _ us hl => match us, hl with | [_, _], _ => rfl
  obtain ⟨d5, D5⟩ := c.t.d.def_ 5 (d := dd5) rfl
  have F5 : L2.Fun K "wrong_part" "wrong_part" s_wrong_part_rules (He.ga K "wrong_part") d5 := Hx.funOf D5
  have b5 := F5.binds (ps := ["values"]) fun _ _ _ _ _ _ us hl => match us, hl with | [_], _ => rfl
  obtain ⟨d6, D6⟩ := c.t.d.def_ 6 (d := dd6) rfl
  have F6 : L2.Fun K "_law_mix" "_law_mix" sMix (He.ga K "_law_mix") d6 := Hx.funOf D6
  have b6 := F6.binds (ps := ["_law_value", "_law_k"]) fun _ _ _ _ _ _ us hl => match us, hl with | [_, _], _ => rfl
  obtain ⟨d7, D7⟩ := c.t.d.def_ 7 (d := dd7) rfl
  have F7 : L2.Fun K "_law_box" "_law_box" sBox (He.ga K "_law_box") d7 := Hx.funOf D7
  have b7 := F7.binds (ps := ["_law_script"]) fun _ _ _ _ _ _ us hl => match us, hl with | [_], _ => rfl
  obtain ⟨d8, D8⟩ := c.t.d.def_ 8 (d := dd8) rfl
  have F8 : L2.Fun K "_law_draw" "_law_draw" sDraw (He.ga K "_law_draw") d8 := Hx.funOf D8
  have b8 := F8.binds (ps := ["_law_box_here", "_law_many"]) fun _ _ _ _ _ _ us hl => match us, hl with | [_, _], _ => rfl
  obtain ⟨d9, D9⟩ := c.t.d.def_ 9 (d := dd9) rfl
  have F9 : L2.Fun K "_law_same" "_law_same" sSame (He.ga K "_law_same") d9 := Hx.funOf D9
  have b9 := F9.binds (ps := ["_law_told_here", "_law_due"]) fun _ _ _ _ _ _ us hl => match us, hl with | [_, _], _ => rfl
  obtain ⟨d10, D10⟩ := c.t.d.def_ 10 (d := dd10) rfl
  have F10 : L2.Fun K "_law_fits" "_law_fits" s_L_fits (He.ga K "_law_fits") d10 := Hx.funOf D10
  have b10 := F10.binds (ps := ["_law_part", "_law_value"]) fun _ _ _ _ _ _ us hl => match us, hl with | [_, _], _ => rfl
  obtain ⟨d11, D11⟩ := c.t.d.def_ 11 (d := dd11) rfl
  have F11 : L2.Fun K "_law_six" "_law_six" s_L_six (He.ga K "_law_six") d11 := Hx.funOf D11
  have b11 := F11.binds (ps := ["_law_rule"]) fun _ _ _ _ _ _ us hl => match us, hl with | [_], _ => rfl
  obtain ⟨d12, D12⟩ := c.t.d.def_ 12 (d := dd12) rfl
  have F12 : L2.Fun K "_law_told" "_law_told" s_L_told (He.ga K "_law_told") d12 := Hx.funOf D12
  have b12 := F12.binds (ps := ["_law_rule", "_law_part", "_law_value"]) fun _ _ _ _ _ _ us hl => match us, hl with | [_, _, _], _ => rfl
  obtain ⟨d13, D13⟩ := c.t.d.def_ 13 (d := dd13) rfl
  obtain ⟨d14, D14⟩ := c.t.d.def_ 14 (d := dd14) rfl
  have F14 : FunD K "__init__" "Rule.__init__" (defArgs s_Rule_init) (defBody s_Rule_init) (defScope s_Rule_init) [] [("wipes", .bl false), ("taken", .str "same"), ("sending", .str "wait")] (He.ma K (He.ga K "Rule") "__init__") d14 := D14
  obtain ⟨es0, en0, T0⟩ := c.t.tab 0 (t := tt0) rfl
  obtain ⟨d15, D15⟩ := c.t.d.def_ 15 (d := dd15) rfl
  have F15 : L2.Fun K "with_part" "Rule.with_part" s_Rule_with_part (He.ma K (He.ga K "Rule") "with_part") d15 := Hx.funOf D15
  have b15 := F15.binds (ps := ["self", "part", "value"]) fun _ _ _ _ _ _ us hl => match us, hl with | [_, _, _], _ => rfl
  obtain ⟨d16, D16⟩ := c.t.d.def_ 16 (d := dd16) rfl
  have F16 : L2.Fun K "__init__" "InvalidRule.__init__" s_InvalidRule_init (He.ma K (He.ga K "InvalidRule") "__init__") d16 := Hx.funOf D16
  have b16 := F16.binds (ps := ["self", "part"]) fun _ _ _ _ _ _ us hl => match us, hl with | [_, _], _ => rfl
  have T : Txt w K mg := {
    B := ⟨He.free_ok X G (c.t.d.fact 33 (f := .free "isinstance") rfl), He.free_ok X G (c.t.d.fact 34 (f := .free "tuple") rfl), He.free_ok X G (c.t.d.fact 35 (f := .free "list") rfl), He.free_ok X G (c.t.d.fact 36 (f := .free "len") rfl), He.free_ok X G (c.t.d.fact 37 (f := .free "all") rfl), He.free_ok X G (c.t.d.fact 38 (f := .free "range") rfl), He.free_ok X G (c.t.d.fact 39 (f := .free "bool") rfl), He.free_ok X G (c.t.d.fact 40 (f := .free "int") rfl), He.free_ok X G (c.t.d.fact 41 (f := .free "str") rfl)⟩
    f_is_name := He.ga K "is_name"
    d_is_name := d0
    F_is_name := F0
    b_is_name := b0
    g_is_name := He.glo_ok X G (c.t.d.fact 0 (f := .glo "is_name") rfl)
    f_has_items := He.ga K "has_items"
    d_has_items := d1
    F_has_items := F1
    b_has_items := b1
    g_has_items := He.glo_ok X G (c.t.d.fact 1 (f := .glo "has_items") rfl)
    f_are_names := He.ga K "are_names"
    d_are_names := d2
    F_are_names := F2
    b_are_names := b2
    g_are_names := He.glo_ok X G (c.t.d.fact 2 (f := .glo "are_names") rfl)
    f_are_pairs := He.ga K "are_pairs"
    d_are_pairs := d3
    F_are_pairs := F3
    b_are_pairs := b3
    g_are_pairs := He.glo_ok X G (c.t.d.fact 3 (f := .glo "are_pairs") rfl)
    f_is_allowed := He.ga K "is_allowed"
    d_is_allowed := d4
    F_is_allowed := F4
    b_is_allowed := b4
    g_is_allowed := He.glo_ok X G (c.t.d.fact 4 (f := .glo "is_allowed") rfl)
    f_wrong_part_rules := He.ga K "wrong_part"
    d_wrong_part_rules := d5
    F_wrong_part_rules := F5
    b_wrong_part_rules := b5
    g_wrong_part_rules := He.glo_ok X G (c.t.d.fact 5 (f := .glo "wrong_part") rfl)
    f_L_mix := He.ga K "_law_mix"
    d_L_mix := d6
    F_L_mix := F6
    b_L_mix := b6
    g_L_mix := He.glo_ok X G (c.t.d.fact 6 (f := .glo "_law_mix") rfl)
    f_L_box := He.ga K "_law_box"
    d_L_box := d7
    F_L_box := F7
    b_L_box := b7
    g_L_box := He.glo_ok X G (c.t.d.fact 7 (f := .glo "_law_box") rfl)
    f_L_draw := He.ga K "_law_draw"
    d_L_draw := d8
    F_L_draw := F8
    b_L_draw := b8
    g_L_draw := He.glo_ok X G (c.t.d.fact 8 (f := .glo "_law_draw") rfl)
    f_L_same := He.ga K "_law_same"
    d_L_same := d9
    F_L_same := F9
    b_L_same := b9
    g_L_same := He.glo_ok X G (c.t.d.fact 9 (f := .glo "_law_same") rfl)
    f_L_fits := He.ga K "_law_fits"
    d_L_fits := d10
    F_L_fits := F10
    b_L_fits := b10
    g_L_fits := He.glo_ok X G (c.t.d.fact 10 (f := .glo "_law_fits") rfl)
    f_L_six := He.ga K "_law_six"
    d_L_six := d11
    F_L_six := F11
    b_L_six := b11
    g_L_six := He.glo_ok X G (c.t.d.fact 11 (f := .glo "_law_six") rfl)
    f_L_told := He.ga K "_law_told"
    d_L_told := d12
    F_L_told := F12
    b_L_told := b12
    g_L_told := He.glo_ok X G (c.t.d.fact 12 (f := .glo "_law_told") rfl)
    C_Rule := He.ga K "Rule"
    g_Rule := He.glo_ok X G (c.t.d.fact 13 (f := .glo "Rule") rfl)
    cl_Rule := He.cls_ok (c.t.d.fact 14 (f := .cls "Rule") rfl)
    na_Rule_opens := He.noat_ok (c.t.d.fact 15 (f := .noat "Rule" "opens") rfl)
    na_Rule_checks := He.noat_ok (c.t.d.fact 16 (f := .noat "Rule" "checks") rfl)
    na_Rule_around := He.noat_ok (c.t.d.fact 17 (f := .noat "Rule" "around") rfl)
    na_Rule_wipes := He.noat_ok (c.t.d.fact 18 (f := .noat "Rule" "wipes") rfl)
    na_Rule_taken := He.noat_ok (c.t.d.fact 19 (f := .noat "Rule" "taken") rfl)
    na_Rule_sending := He.noat_ok (c.t.d.fact 20 (f := .noat "Rule" "sending") rfl)
    f_Rule_init := (He.ma K (He.ga K "Rule") "__init__")
    d_Rule_init := d14
    F_Rule_init := F14
    M_Rule := He.mkr_ok (c.t.d.fact 21 (f := .mkr "Rule") rfl)
    a_PARTS := He.ga K "PARTS"
    g_PARTS := He.glo_ok X G (c.t.d.fact 22 (f := .glo "PARTS") rfl)
    w_PARTS := (Hx.wtB_ok (Hx.all_at c.more 0 (f := fun K => Hx.wtB K (He.ga K "PARTS") [.str "opens", .str "checks", .str "around", .str "wipes", .str "taken", .str "sending"]) rfl))
    a_CHOICES := He.ga K "CHOICES"
    g_CHOICES := He.glo_ok X G (c.t.d.fact 23 (f := .glo "CHOICES") rfl)
    q_CHOICES_0 := (Hx.ka K "CHOICES" "opens")
    k_CHOICES_0 := (Hx.ent_ok T0 (Hx.all_at c.more 1 (f := fun K => Hx.entB K "CHOICES" "opens" (.ref (Hx.ka K "CHOICES" "opens"))) rfl))
    w_CHOICES_0 := (Hx.wtB_ok (Hx.all_at c.more 2 (f := fun K => Hx.wtB K (Hx.ka K "CHOICES" "opens") [.str "enter", .str "leave", .str "send"]) rfl))
    q_CHOICES_1 := (Hx.ka K "CHOICES" "checks")
    k_CHOICES_1 := (Hx.ent_ok T0 (Hx.all_at c.more 3 (f := fun K => Hx.entB K "CHOICES" "checks" (.ref (Hx.ka K "CHOICES" "checks"))) rfl))
    w_CHOICES_1 := (Hx.wtB_ok (Hx.all_at c.more 4 (f := fun K => Hx.wtB K (Hx.ka K "CHOICES" "checks") [.str "enter", .str "leave"]) rfl))
    q_CHOICES_2 := (Hx.ka K "CHOICES" "around")
    k_CHOICES_2 := (Hx.ent_ok T0 (Hx.all_at c.more 5 (f := fun K => Hx.entB K "CHOICES" "around" (.ref (Hx.ka K "CHOICES" "around"))) rfl))
    w_CHOICES_2 := (Hx.wtB_ok (Hx.all_at c.more 6 (f := fun K => Hx.wtB K (Hx.ka K "CHOICES" "around") [.str "own", .str "looks"]) rfl))
    q_CHOICES_3 := (Hx.ka K "CHOICES" "wipes")
    k_CHOICES_3 := (Hx.ent_ok T0 (Hx.all_at c.more 7 (f := fun K => Hx.entB K "CHOICES" "wipes" (.ref (Hx.ka K "CHOICES" "wipes"))) rfl))
    w_CHOICES_3 := (Hx.wtB_ok (Hx.all_at c.more 8 (f := fun K => Hx.wtB K (Hx.ka K "CHOICES" "wipes") [.bl false, .bl true]) rfl))
    q_CHOICES_4 := (Hx.ka K "CHOICES" "taken")
    k_CHOICES_4 := (Hx.ent_ok T0 (Hx.all_at c.more 9 (f := fun K => Hx.entB K "CHOICES" "taken" (.ref (Hx.ka K "CHOICES" "taken"))) rfl))
    w_CHOICES_4 := (Hx.wtB_ok (Hx.all_at c.more 10 (f := fun K => Hx.wtB K (Hx.ka K "CHOICES" "taken") [.str "any", .str "same", .str "last"]) rfl))
    q_CHOICES_5 := (Hx.ka K "CHOICES" "sending")
    k_CHOICES_5 := (Hx.ent_ok T0 (Hx.all_at c.more 11 (f := fun K => Hx.entB K "CHOICES" "sending" (.ref (Hx.ka K "CHOICES" "sending"))) rfl))
    w_CHOICES_5 := (Hx.wtB_ok (Hx.all_at c.more 12 (f := fun K => Hx.wtB K (Hx.ka K "CHOICES" "sending") [.str "bar", .str "wait", .str "go"]) rfl))
    f_Rule_with_part := (He.ma K (He.ga K "Rule") "with_part")
    d_Rule_with_part := d15
    F_Rule_with_part := F15
    b_Rule_with_part := b15
    m_Rule_with_part := He.meth_ok (c.t.d.fact 24 (f := .meth "Rule" "with_part") rfl)
    set := He.free_ok X G (c.t.d.fact 25 (f := .free "set") rfl)
    zip := He.free_ok X G (c.t.d.fact 26 (f := .free "zip") rfl)
    sorted := He.free_ok X G (c.t.d.fact 27 (f := .free "sorted") rfl)
    C_InvalidRule := He.ga K "InvalidRule"
    g_InvalidRule := He.glo_ok X G (c.t.d.fact 28 (f := .glo "InvalidRule") rfl)
    x_InvalidRule := (Hx.xB_ok (Hx.all_at c.more 13 (f := fun K => Hx.xB K (He.ga K "InvalidRule")) rfl))
    f_InvalidRule_init := (He.ma K (He.ga K "InvalidRule") "__init__")
    d_InvalidRule_init := d16
    F_InvalidRule_init := F16
    b_InvalidRule_init := b16
    i_InvalidRule := (He.meth_ok (c.t.d.fact 29 (f := .meth "InvalidRule" "__init__") rfl)).at_
    t_InvalidRule := (Hx.inB_ok (Hx.all_at c.more 14 (f := fun K => Hx.inB K "InvalidRule") rfl))
    n_InvalidRule0 := He.noat_ok (c.t.d.fact 30 (f := .noat "InvalidRule" "part") rfl)
    n_InvalidRule_part := He.noat_ok (c.t.d.fact 30 (f := .noat "InvalidRule" "part") rfl)
    CS := He.ga K "ShownError"
    g_ShownError := He.glo_ok X G (c.t.d.fact 31 (f := .glo "ShownError") rfl)
    km_InvalidRule_ShownError := (Hx.kitB_ok (Hx.all_at c.more 15 (f := fun K => Hx.kitB K "InvalidRule" "ShownError" true) rfl))
    xm_InvalidRule_InvalidRule := He.exm_ok (c.t.d.fact 32 (f := .exm "InvalidRule" "InvalidRule" true) rfl) }
  have FL : L2.Fun K "law" "law" s_law (He.ga K "law") d13 := Hx.funOf D13
  have bl := FunD.bindsA (ps := ["_law_script"]) D13 fun _ _ _ _ _ _ us hl => match us, hl with | [_], _ => rfl
  exact ⟨d13, fun s v => bl s [v] rfl, fun base _ _ => Rl.rk_law T FL Rl.says_law⟩
end Wn
open PySem PySem.W PyProof.Rows
set_option maxHeartbeats 0 in
theorem PySem.Challenge.cw_wrongshown_k08_rule_with_part_holds : PySem.Challenge.rw_wrongshown_k08_rule_with_part.Holds := by
  w_on; o_law
  refine HandSHeadRun.head_any (r := OpenLaw.row PySem.Challenge.rw_wrongshown_k08_rule_with_part) (q := view (OpenLaw.row PySem.Challenge.rw_wrongshown_k08_rule_with_part).prog [24]) (H := Wn.xhk) (ob := Wn.xob) (M := 9000) (loose := Wn.xloose) (d := HandSHeadRun.topDef (OpenLaw.row PySem.Challenge.rw_wrongshown_k08_rule_with_part).prog 24) (kwd := []) Wn.xob_eq
    (by kernel_rfl) (fun s => by kernel_rfl) Wn.xrun (by kernel_rfl) (by kernel_rfl) (by kernel_rfl) (by rfl) (by first | assumption | decide +kernel) (by decide +kernel) ⟨rfl, rfl, rfl, rfl, rfl, by decide +kernel⟩ ?hw ?hc
  case hw => w_witness2
  case hc =>
    refine L2.walk_ofE (l := PySem.Challenge.rw_wrongshown_k08_rule_with_part) (n := 63) (k := 14) (x := "_law_script") (CX := L2.CX0) rfl (by decide) (by kernel_rfl) ⟨rfl, by decide, by decide⟩ ?F (fun _ _ _ _ z => z)
    intro w mg fa h Y G hmg0
    obtain ⟨K, KX, c⟩ := Y
    have hmg : mg ("law" : PySem.Str) = some (.ref fa) := by
      have e : (HandSHeadRun.topDef (OpenLaw.row PySem.Challenge.rw_wrongshown_k08_rule_with_part).prog 24).name = ("law" : PySem.Str) := by kernel_rfl
      rw [← e]
      exact hmg0
    obtain ⟨fd, hb, hF⟩ := Wn.xfacts (l := PySem.Challenge.rw_wrongshown_k08_rule_with_part) KX G hmg c
    exact ⟨K, fd, Wn.spLaw K, KX, hb, fun H a ns hl _ hS => ⟨a, ns, rfl, hS, hl, fun _ => rfl⟩, hF⟩
