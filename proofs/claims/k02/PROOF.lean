import PyProof.Rows.All
import Wide.All
import OpenK.AllK
import Wide.FinOn
import HandS.ForMost
import HandS.Conv
import HandS.Rev
import HandS.RevTup
import HandS.Wide
import HandS.IsInst
import HandS.Codes
import HandS.Comp
import HandS.HotCalls
import HandS.ExcInit
import HandS.ExcInitHot
import HandS.ExcField
import HandS.SuiteRaise
import KE.KExcIs
import HandS.Walk
import HandS.Text
import PyProof.StrLawsJoin
import PyProof.StrBlock2
import PyProof.Rows.StrMul
import HandS.Style
import HandS.Small
import PyProof.DictUpdate
import PyProof.EqKinds
import PyProof.Rows.StrJoinRep
import HandS.WideBits
import KE.RegKIsAll
import KE.RegKTryMore
import PySem.Challenge.RW_keptjoined_k02_check_houses
set_option Elab.async false
set_option linter.all false
set_option maxRecDepth 100000
set_option maxHeartbeats 4000000
/-! list(reversed(xs)) of a list: a new list with the items from behind -/
namespace LRev
open PySem RT
section
variable {prog : Program} {w : World} {A : Around} {E : Value → Shared → Prop} {s : Shared} {it l S : Addr} {items : Array Value}
/-- what a filled list tells -/
abbrev Back (items : Array Value) : Nat → Value → Prop := fun i v => items[items.size - 1 - i]? = some v
abbrev After (s : Shared) (S it : Addr) (items : Array Value) (K : Heap → Nat → Array Value → Prop) : Prop :=
  ∀ (g : Heap) (tk : Nat) (out : Array Value) (cap : Nat), (∀ b o, b ≠ S → b ≠ it → s.heap.get? b = some o → g.get? b = some o) →
    g.get? S = some { cls := .type "list", dict := none, data := .seq out cap, slots := #[] } →
      ItemsOf (Back items) out items.size → K g tk out
abbrev OutOf (prog : Program) (w : World) (A : Around) (R : Result → Shared → Prop) : Fin → Shared → Prop := fun fin t =>
  match fin with
  | .done f => R (.ok f) t
  | .again k => k.quiet = true ∧ codeAny (model prog w) A k R t
theorem extend {R : Result → Shared → Prop} (hh : A.handled = none) (hit : s.heap.IsRevIter it l ((items.size : Int) - 1)) (hl : s.heap.IsList l items)
    (hne : l ≠ it) (hz : items.size ≤ sizeLine) (hSi : S ≠ it) (hSl : S ≠ l) (res : Value) (c0 : Nat)
    (hS : s.heap.get? S = some { cls := .type "list", data := .seq #[] c0 })
    (k : After s S it items fun g tk _ => R (.ok (.ret res)) { s with heap := g, toks := tk }) :
    wpAny (model prog w) A.in1 (Builtin.List.listExtendWith (.ref S) (.ref it) res) (OutOf prog w A R) (fun e t => R (.error e) t) s := by
  have W := (Walks.listRev (prog := prog) (w := w) (A := A.in1) hh it l hne items).toS
  have out : S ∉ [it, l] := by
    simp only [List.mem_cons, List.not_mem_nil, or_false, not_or]
    exact ⟨hSi, hSl⟩
  have ty : s.TypeIs (.ref it) "list_reverseiterator" := hit.typeIs
  have other : Builtin.List.listSameRef (.ref S) (.ref it) = false := by simp [Builtin.List.listSameRef, hSi]
  unfold Builtin.List.listExtendWith
  refine wpAny_bind (wpAny_typeOf ty ?_)
  rw [if_neg (by rw [other]; decide)]
  refine wpAny_bind (wpAny_pyIter_revIter hit ?_)
  refine wpAny_bind (wpAny_holding ?_)
  unfold Builtin.List.listLengthHint
  refine wpAny_bind (wpAny_specialOf ty nolen_lri ?_)
  show wpAny _ A.in1 (specialOf (Value.ref it) (Str.ofString "__length_hint__") >>= _) _ _ _
  refine wpAny_bind (wpAny_specialOf ty hint_lri ?_)
  generalize nm : ("list_reverseiterator.__length_hint__" : String) = at0
  wp_delta
  rw [show splitId at0 = some ("list_reverseiterator", "__length_hint__") from by subst nm; decide +kernel]
  subst nm
  refine wpAny_bind (wpAny_isInstance (b := true) ty (by rw [isSubtype_type]; kernel_rfl) ?_)
  refine wpAny_pure ?_
  rw [if_neg (by decide)]
  have at1 : ((items.size : Nat) : Int) - 1 - ((0 : Nat) : Int) = (items.size : Int) - 1 := by omega
  refine wpAny_pure ⟨plainId_quiet F.plain_extend_loop _, ?_⟩
  refine codeAny_extend_loopS W hz _ out _ items.size 0 _ _ _ rfl (Nat.zero_le _) ⟨Nat.zero_le _, by rw [at1]; exact hit, hl⟩ hS (ItemsOf.nil _) fun t got cap mv ht hi => ?_
  rw [Moved.eq_with mv]
  refine k t.heap t.toks got cap (fun b o n1 n2 e => mv.heap b o (fun hm => ?_) e) ht hi
  rcases List.mem_cons.mp hm with e1 | hm
  · exact n1 e1
  · exact n2 (List.mem_singleton.mp hm)
theorem init {R : Result → Shared → Prop} (hh : A.handled = none) (hit : s.heap.IsRevIter it l ((items.size : Int) - 1)) (hl : s.heap.IsList l items)
    (hne : l ≠ it) (hz : items.size ≤ sizeLine) (hSi : S ≠ it) (hSl : S ≠ l) (hS : s.heap.get? S = some { cls := .type "list", data := .seq #[] })
    (k : After s S it items fun g tk _ => R (.ok (.ret .none)) { s with heap := g, toks := tk }) :
    wpAny (model prog w) A.in1 (Builtin.«list.__init__» ⟨[.ref S, .ref it], []⟩) (OutOf prog w A R) (fun e t => R (.error e) t) s := by
  show wpAny _ _ (Builtin.List.listItems (.ref S) >>= fun old => Builtin.List.listUpdate (.ref S) (fun _ => #[]) >>= fun _ => letGo old.toList.reverse >>= fun _ => Builtin.List.listExtendWith (.ref S) (.ref it) .none) _ _ s
  refine wpAny_bind ?_
  unfold Builtin.List.listItems
  refine wpAny_bind (wpAny_seqItems hS rfl (wpAny_pure ?_))
  show wpAny _ _ (updateSeq S (fun _ => #[]) >>= fun _ => (letGo (#[] : Array Value).toList.reverse >>= fun _ => Builtin.List.listExtendWith (.ref S) (.ref it) .none)) _ _ s
  refine wpAny_bind (wpAny_updateSeq hS rfl ?_)
  have hS2 := Heap.get?_update_self (Obj.mapSeq fun _ => (#[] : Array Value)) hS rfl
  have oth : ∀ b o, b ≠ S → s.heap.get? b = some o → (s.heap.update S (Obj.mapSeq fun _ => (#[] : Array Value))).get? b = some o := fun b o n e =>
    (Heap.get?_update_other _ _ (Ne.symm n)).trans e
  refine wpAny_bind (wpAny_letGo ?_)
  obtain ⟨ol, hol, cl, dl⟩ := id hl
  refine extend hh (hit.at fun o e => oth it o (Ne.symm hSi) e) ⟨ol, oth l ol (Ne.symm hSl) hol, cl, dl⟩ hne hz hSi hSl .none _ hS2 fun g tk got cap hk ht hi => ?_
  exact k g tk got cap (fun b o n1 n2 e => hk b o n1 n2 (oth b o n1 e)) ht hi
theorem callRev {Q : Value → Shared → Prop} (hh : A.handled = none) (hit : s.heap.IsRevIter it l ((items.size : Int) - 1)) (hl : s.heap.IsList l items) (hne : l ≠ it) (hz : items.size ≤ sizeLine)
    (k : ∀ (g : Heap) (tk : Nat) (out : Array Value) (cap : Nat), (∀ b o, b ≠ it → s.heap.get? b = some o → g.get? b = some o) →
      g.get? s.heap.objs.size = some { cls := .type "list", dict := none, data := .seq out cap, slots := #[] } → ItemsOf (Back items) out items.size →
        Q (.ref s.heap.objs.size) { s with heap := g, toks := tk }) :
    wpAny (model prog w) A (call (.type "list") [.ref it]) Q E s := by
  refine callType_codes (Q₁ := fun u t => u = .ref s.heap.objs.size ∧ t = { s with heap := s.heap.push { cls := .type "list", data := .seq #[] } })
    F.called_list (F.typeCall_list_1 _) F.entry_list_init (code_list_new _ ⟨rfl, rfl⟩) fun u t hu => ?_
  obtain ⟨rfl, rfl⟩ := hu
  have hS : (s.heap.push { cls := .type "list", data := .seq #[] }).get? s.heap.objs.size = some { cls := .type "list", data := .seq #[] } := Heap.get?_push_size _ rfl
  obtain ⟨oi, hoi, _⟩ := id hit
  obtain ⟨ol, hol, _⟩ := id hl
  refine ⟨⟨_, hS, rfl⟩, F.args_list_init_2 _ _, init (A := A.in1) hh (hit.at fun o e => Heap.get?_push_of_some _ e) (hl.push _) hne hz (Nat.ne_of_gt (Heap.lt_size hoi)) (Nat.ne_of_gt (Heap.lt_size hol)) hS fun g tk out cap hk hg hi => ?_⟩
  exact ⟨rfl, k g tk out cap (fun b o n e => hk b o (Nat.ne_of_lt (Heap.lt_size e)) n (Heap.get?_push_of_some _ e)) hg hi⟩
end
end LRev
namespace L2
open PySem PySem.Spec PyProof.Rows
/-- list(reversed(x)), x a list -/
def tLstRev (K : PySem.W.Frag) (te : TE) : TE := fun σ H Q => te σ H fun v h => ∃ (a : Addr) (xs : List V), v = .ref a ∧ SqL K h a xs ∧
  ∀ q, h q = none → Q (.ref q) (upd h q (.lst xs.reverse))
theorem pe_lstRev {X : Cx} {e : Expr} {te : TE} {p p2 pos pos2 : Pos} (hc : X.calm = true) (hg : Gl X "list") (hm : X.mg "list" = none) (hg2 : Gl X "reversed") (hm2 : X.mg "reversed" = none) (he : PE X e te)
    (n1 : starEach [e] X.env = (false, eval e X.env) :: starEach [] X.env := by rfl)
    (n2 : starEach [.Call (.Name "reversed" p2) [e] [] pos2] X.env = (false, eval (.Call (.Name "reversed" p2) [e] [] pos2) X.env) :: starEach [] X.env := by rfl) :
    PE X (.Call (.Name "list" p) [.Call (.Name "reversed" p2) [e] [] pos2] [] pos) (tLstRev X.K te) := by
  refine ⟨fun pins s σ H Q I h => ?_⟩
  refine Call_ (ld_blt I hg hm boot_list (PyProof.Rows.callWith_type1 (args_cons (Call_ (ld_blt I hg2 hm2 PyProof.Rows.boot_reversed (PyProof.Rows.callWith_type1
    (args_cons (thn (he.run pins s σ H _ I h) fun u s1 ⟨v, H1, I1, r1, q1⟩ => args_nil ?_) n1) n1 rfl))) n2) n2 rfl))
  obtain ⟨a, xs, rfl, hq, q⟩ := q1
  obtain rfl : u = Value.ref a := r1
  obtain ⟨its, rv, pl, hz⟩ := I1.list hq
  refine call_reversed_list pl.isList (args_nil ?_)
  have k0 : ∀ b o, s1.heap.get? b = some o → (s1.heap.push (revObj a ((its.toArray.size : Int) - 1))).get? b = some o := fun b o z => Heap.get?_push_of_some _ z
  have I2 : Inv X pins σ H1 { s1 with heap := s1.heap.push (revObj a ((its.toArray.size : Int) - 1)) } := I1.kept (t' := s1.toks) k0
  obtain ⟨f0, f1, f2, f3, f4, f5⟩ := I1.fpOk (H' := H1) (b := s1.heap.objs.size) (Nat.le_refl _) (I1.hok.fresh (Nat.le_refl _))
  have hl := pl.isList
  obtain ⟨ol, hol, _⟩ := id hl
  have far : a ≠ s1.heap.objs.size := Nat.ne_of_lt (Heap.lt_size hol)
  have fits : its.toArray.size ≤ sizeLine := by
    rw [List.size_toArray, ← rv.length]
    exact hz
  refine LRev.callRev (s := { s1 with heap := s1.heap.push (revObj a ((its.toArray.size : Int) - 1)) }) (I1.ok.hd hc) ⟨_, Heap.get?_push_size _ rfl, rfl, rfl⟩ (hl.push _) far fits fun g tk out cap hk hg hi => ?_
  have sz : (s1.heap.push (revObj a ((its.toArray.size : Int) - 1))).objs.size = s1.heap.objs.size + 1 := Heap.size_push _ _
  generalize hS : (s1.heap.push (revObj a ((its.toArray.size : Int) - 1))).objs.size = S at hg
  have fr : H1 S = none := I1.hok.fresh (by rw [← hS, sz]; exact Nat.le_succ _)
  have J : Inv X pins σ (upd H1 S (.lst xs.reverse)) { s1 with heap := g, toks := tk } :=
    I1.laid (h' := g) (t' := tk) (fun b o z => hk b o (Nat.ne_of_lt (Heap.lt_size z)) (k0 b o z)) (by rw [← hS, sz]; exact Nat.le_succ _)
      ⟨by rw [List.length_reverse]; exact hz, out.toList, cap, RT.vals_rev rv hi, by rw [Array.toArray_toList]; exact hg⟩
  exact ⟨.ref S, _, J, rfl, q S fr⟩
end L2
/-! a stepper for readings -/
namespace Rd
open PySem PySem.Spec PyProof.Rows L2
section
variable {D : Ends} {σ σ' : L2.St} {H : Hp} {Q : VK} {t u : TS} {te ta tb tc : TE} {tt uu : TT} {g : TG} {i : Nat} {v x y z : V} {r r' : R2} {B : Bool → Prop} {ts tr : TA} {n b c : L2.St → Hp → Prop} {rr : VK}
theorem seq (h : t ⟨u ⟨n, rr, b, c⟩, rr, b, c⟩ σ H) : tSeq t u ⟨n, rr, b, c⟩ σ H := h
theorem at0 {N : List Str} {vs : List V} (e : start N vs = σ) (h : t D σ H) : t D (start N vs) H := by
  rw [e]
  exact h
theorem nxt (h : n σ H) : tNext ⟨n, rr, b, c⟩ σ H := h
theorem brk (h : b σ H) : tBreak ⟨n, rr, b, c⟩ σ H := h
theorem cnt (h : c σ H) : tCont ⟨n, rr, b, c⟩ σ H := h
theorem ret (h : te σ H rr) : tRet te ⟨n, rr, b, c⟩ σ H := h
theorem retN (h : rr .non H) : tRetN ⟨n, rr, b, c⟩ σ H := h
theorem drop (h : te σ H fun _ H1 => n σ H1) : tDrop te ⟨n, rr, b, c⟩ σ H := h
theorem ifs (h : tt σ H fun b H1 => if b = true then t D σ H1 else u D σ H1) : tIfS tt t u D σ H := h
theorem asg (h : te σ H fun x H1 => g x σ H1 n) : tAsg te g ⟨n, rr, b, c⟩ σ H := h
theorem gname {P : L2.St → Hp → Prop} (e : σ.set i (some v) = σ') (h : P σ' H) : gName i v σ H P := by
  subst e
  exact h
theorem var (e : σ[i]? = some (some v)) (h : Q v H) : tVar i σ H Q := ⟨v, e, h⟩
theorem con (h : Q v H) : tC v σ H Q := h
theorem op (h : ta σ H fun x H1 => tb σ H1 fun y H2 => r x y H2 Q) : tOp r ta tb σ H Q := h
theorem un {r : V → Hp → VK → Prop} (h : ta σ H fun x H1 => r x H1 Q) : tUn r ta σ H Q := h
theorem test {Q : Bool → Hp → Prop} (h : te σ H fun x H' => ∃ k, x = .bl k ∧ Q k H') : tTest te σ H Q := h
theorem testB {Q : Bool → Hp → Prop} (h : te σ H fun x H' => ∃ k, x = .bl k ∧ Q k H') : tB te σ H Q := h
theorem exbl {P : Bool → Prop} {b : Bool} (h : P b) : ∃ k, V.bl b = V.bl k ∧ P k := ⟨b, rfl, h⟩
theorem and {Q : Bool → Hp → Prop} (h : tt σ H fun c H1 => if c = true then uu σ H1 Q else Q false H1) : tAnd tt uu σ H Q := h
theorem or {Q : Bool → Hp → Prop} (h : tt σ H fun c H1 => if c = true then Q true H1 else uu σ H1 Q) : tOr tt uu σ H Q := h
theorem not {Q : Bool → Hp → Prop} (h : tt σ H fun c H1 => Q (!c) H1) : tNot tt σ H Q := h
theorem andV (h : ta σ H fun x H1 => ∃ c, x = .bl c ∧ if c = true then tb σ H1 Q else Q (.bl false) H1) : tAndV ta tb σ H Q := h
theorem orV (h : ta σ H fun x H1 => ∃ c, x = .bl c ∧ if c = true then Q (.bl true) H1 else tb σ H1 Q) : tOrV ta tb σ H Q := h
theorem notV (h : ta σ H fun x H1 => ∃ c, x = .bl c ∧ Q (.bl (!c)) H1) : tNotV ta σ H Q := h
theorem ife (h : tt σ H fun c H1 => if c = true then ta σ H1 Q else tb σ H1 Q) : tIf tt ta tb σ H Q := h
theorem nil {Q : List V → Hp → Prop} (h : Q [] H) : tNil σ H Q := h
theorem cons {Q : List V → Hp → Prop} (h : te σ H fun x H1 => tr σ H1 fun xs H2 => Q (x :: xs) H2) : tCons te tr σ H Q := h
theorem tup (h : ts σ H fun xs H1 => xs.length ≤ sizeLine ∧ ∀ p, H1 p = none → Q (.ref p) (upd H1 p (.tup xs))) : tTup ts σ H Q := h
theorem lst (h : ts σ H fun xs H1 => xs.length ≤ sizeLine ∧ ∀ p, H1 p = none → Q (.ref p) (upd H1 p (.lst xs))) : tLst ts σ H Q := h
theorem call {sp : Sp} {dvs : List V} {E : XK} (h : ts σ H fun vs H1 => sp (vs ++ dvs) H1 Q E) : tCall sp dvs E ts σ H Q := h
theorem cb {r : List V → Hp → VK → Prop} (h : ts σ H fun vs H1 => r vs H1 Q) : tCB r ts σ H Q := h
theorem chain (h : ta σ H fun x H1 => tb σ H1 fun y H2 => r x y H2 fun z H3 => ∃ k, z = .bl k ∧ (if k = true then tc σ H3 fun w' H4 => r' y w' H4 Q else Q (.bl false) H3)) : tChain r r' ta tb tc σ H Q := h
/-- ints -/
theorem I0 {g : Int → Int → V} {i j : Int} (h : Q (g i j) H) : rI0 g (.int i) (.int j) H Q := ⟨i, j, rfl, rfl, h⟩
theorem I1 {C : Int → Int → Prop} {g : Int → Int → V} {i j : Int} (c : C i j) (h : Q (g i j) H) : rI C g (.int i) (.int j) H Q := ⟨i, j, rfl, rfl, c, h⟩
theorem U1 {g : Int → V} {i : Int} (h : Q (g i) H) : rU g (.int i) H Q := ⟨i, rfl, h⟩
theorem eq (e : scal x y = true) (h : Q (.bl (decide (x = y))) H) : rEq x y H Q := ⟨e, h⟩
theorem ne (e : scal x y = true) (h : Q (.bl (!decide (x = y))) H) : rNe x y H Q := ⟨e, h⟩
/-- tests -/
theorem iteD {p A B : Prop} [Decidable p] (h1 : p → A) (h2 : ¬ p → B) : if decide p = true then A else B := by
  by_cases h : p
  · rw [if_pos (decide_eq_true h)]
    exact h1 h
  · rw [if_neg (by rw [decide_eq_false h]; exact Bool.false_ne_true)]
    exact h2 h
theorem iteN {p A B : Prop} [Decidable p] (h1 : ¬ p → A) (h2 : p → B) : if (!decide p) = true then A else B := by
  by_cases h : p
  · rw [if_neg (by rw [decide_eq_true h]; exact Bool.false_ne_true)]
    exact h2 h
  · rw [if_pos (by rw [decide_eq_false h]; rfl)]
    exact h1 h
theorem iteI {i j : Int} {A B : Prop} (h1 : i = j → A) (h2 : i ≠ j → B) : if decide (V.int i = V.int j) = true then A else B := iteD (fun e => h1 (V.int.inj e)) fun n => h2 fun e => n (by rw [e])
theorem iteNI {i j : Int} {A B : Prop} (h1 : i ≠ j → A) (h2 : i = j → B) : if (!decide (V.int i = V.int j)) = true then A else B := iteN (fun n => h1 fun e => n (by rw [e])) fun e => h2 (V.int.inj e)
theorem iteB {b : Bool} {A B : Prop} (h1 : b = true → A) (h2 : b = false → B) : if b = true then A else B := by
  cases b with
  | true => exact iteT (h1 rfl)
  | false => exact iteF (h2 rfl)
theorem iteNB {b : Bool} {A B : Prop} (h1 : b = false → A) (h2 : b = true → B) : if (!b) = true then A else B := by
  cases b with
  | true => exact iteF (h2 rfl)
  | false => exact iteT (h1 rfl)
theorem rn1 {a : Addr} {A B : Prop} (h : B) : if decide (V.ref a = V.non) = true then A else B := h
theorem in1 {i : Int} {A B : Prop} (h : B) : if decide (V.int i = V.non) = true then A else B := h
theorem sn1 {i : Str} {A B : Prop} (h : B) : if decide (V.str i = V.non) = true then A else B := h
theorem bn1 {i : Bool} {A B : Prop} (h : B) : if decide (V.bl i = V.non) = true then A else B := h
theorem nn1 {A B : Prop} (h : A) : if decide (V.non = V.non) = true then A else B := h
theorem rn2 {a : Addr} {A B : Prop} (h : A) : if (!decide (V.ref a = V.non)) = true then A else B := h
theorem in2 {i : Int} {A B : Prop} (h : A) : if (!decide (V.int i = V.non)) = true then A else B := h
theorem sn2 {i : Str} {A B : Prop} (h : A) : if (!decide (V.str i = V.non)) = true then A else B := h
theorem bn2 {i : Bool} {A B : Prop} (h : A) : if (!decide (V.bl i = V.non)) = true then A else B := h
theorem nn2 {A B : Prop} (h : B) : if (!decide (V.non = V.non)) = true then A else B := h
theorem nt1 {A B : Prop} (h : B) : if (!true) = true then A else B := h
theorem nf1 {A B : Prop} (h : A) : if (!false) = true then A else B := h
theorem pick {c A B : Prop} [Decidable c] (hc : c) (h : A) : if c then A else B := by
  rw [if_pos hc]
  exact h
theorem skip {c A B : Prop} [Decidable c] (hc : ¬ c) (h : B) : if c then A else B := by
  rw [if_neg hc]
  exact h
end
/-! ### calls: a def with all that a caller needs -/
section
variable {P : Program} {w : World} {K : PySem.W.Frag} {mg : Str → Option Value} {base : Heap}
/-- the def of this name stands as the text says -/
def Def (K : PySem.W.Frag) (mg : Str → Option Value) (x : Str) (st : Stmt) (ps : List Str) : Prop := ∃ f fd, Fun K x x st f fd ∧ mg x = some (.ref f) ∧ Binds K fd ps []
/-- the def of this name keeps this promise -/
def Cal (P : Program) (w : World) (K : PySem.W.Frag) (mg : Str → Option Value) (base : Heap) (k : Nat) (x : Str) (ps : List Str) (sp : Sp) : Prop :=
  ∃ f fd, FnOk P w K mg base CX0 k f fd ps sp ∧ mg x = some (.ref f) ∧ PySem.W.keepIn K (.ref f) = true ∧ Binds K fd ps []
theorem Def.ok {x : Str} {st : Stmt} {ps N : List Str} {k : Nat} {sp : Sp} (F : Def K mg x st ps) (S : FnScope N ps (defScope st)) (len : ∀ vs H Q E, sp vs H Q E → vs.length = ps.length)
    (hbody : ∀ (f : Addr) (cdv : Value) (A : Around) (outer : List Env) (s : Shared) (H : Hp) (vs : List V) (Q : VK) (E : XK), Room k (A.deeper (envOfC x (defScope st) s.heap.objs.size f cdv)) → sp vs H Q E →
      ∃ t, PSs (cxOf CX0 P w K mg base N x (defScope st) f cdv A outer s H E).nox (defBody st) t ∧ t { nx := fun _ H' => Q .non H', rt := Q } (start N vs) H) : Cal P w K mg base (k + 1) x ps sp := by
  obtain ⟨f, fd, F, m, b⟩ := F
  exact ⟨f, fd, F.ok S len (fun cdv A outer s H vs Q E hr h => hbody f cdv A outer s H vs Q E hr h), m, F.kp, b⟩
theorem Cal.mono {x : Str} {ps : List Str} {j k : Nat} {sp : Sp} (C : Cal P w K mg base j x ps sp) (h : j ≤ k) : Cal P w K mg base k x ps sp := by
  obtain ⟨f, fd, F, r⟩ := C
  exact ⟨f, fd, F.mono h, r⟩
theorem Cal.imp {x : Str} {ps : List Str} {k : Nat} {sp sp' : Sp} (C : Cal P w K mg base k x ps sp) (h : ∀ vs H Q E, sp' vs H Q E → sp vs H Q E) : Cal P w K mg base k x ps sp' := by
  obtain ⟨f, fd, F, r⟩ := C
  exact ⟨f, fd, F.imp h, r⟩
end
theorem pe_cal {X : Cx} {e : Expr} {es : List Expr} {t : TA} {p pos : Pos} {j k : Nat} {x : Str} {ps : List Str} {sp : Sp} (C : Cal X.prog X.w X.K X.mg X.base j x ps sp) (hr : Room k X.A) (ha : PA X (e :: es) t) (hk : j ≤ k := by decide) (hg : Gl X x := by rfl)
    (hdb : (x == ("__debug__" : Str)) = false := by decide) (he : starEach (e :: es) X.env = (false, eval e X.env) :: starEach es X.env := by rfl) (hpl : (backTo pos (starEach es X.env)).any (·.1) = false := by rfl) :
    PE X (.Call (.Name x p) (e :: es) [] pos) (tCall sp [] E0 t) := by
  obtain ⟨f, fd, F, m, kp, b⟩ := C
  exact pe_call F (hr.mono hk) hg m kp b .nil pass0 ha hdb he hpl
theorem pe_cal0 {X : Cx} {p pos : Pos} {j k : Nat} {x : Str} {sp : Sp} (C : Cal X.prog X.w X.K X.mg X.base j x [] sp) (hr : Room k X.A) (hk : j ≤ k := by decide) (hg : Gl X x := by rfl)
    (hdb : (x == ("__debug__" : Str)) = false := by decide) :
    PE X (.Call (.Name x p) [] [] pos) (tCall sp [] E0 tNil) := by
  obtain ⟨f, fd, F, m, kp, b⟩ := C
  exact pe_call0 F (hr.mono hk) hg m kp b .nil pass0 hdb
/-- nothing is promised of a call that is never made -/
theorem Def.none {P : Program} {w : World} {K : PySem.W.Frag} {mg : Str → Option Value} {base : Heap} {x : Str} {st : Stmt} {ps : List Str} (D : Def K mg x st ps) : Cal P w K mg base 0 x ps fun _ _ _ _ => False := by
  obtain ⟨f, fd, F, m, b⟩ := D
  exact ⟨f, fd, ⟨fun _ _ _ _ h => h.elim, fun _ _ _ _ _ _ _ _ _ _ _ _ _ h => h.elim⟩, m, F.kp, b⟩
/-- what the top has left of a def -/
theorem def_mk {K : PySem.W.Frag} {mg : Str → Option Value} {h : Heap} {x : Str} {st : Stmt} {ps : List Str} {f : Addr} {oc : Value} {od an : Option Addr} {osl : Array (Option Value)} {kV dc pm cdv ct : Value} (X : K.In h) (G : h.Ns mainGlobals mg)
    (a : PySem.W.nsIn K mainGlobals x = some (some (.ref f))) (l : K.lookup f = some ⟨oc, od, .func (PySem.W.fnOf x x (defArgs st) (defBody st) (defScope st) .none kV dc pm an cdv ct), osl⟩) (c : PySem.W.codeIn K cdv x = true) (k : PySem.W.keepIn K (.ref f) = true)
    (hb : ∀ (kV doc pm : Value) (an : Option Addr) (cdv ct : Value) (us : List Value), us.length = ps.length → bindArgs (PySem.W.fnOf x x (defArgs st) (defBody st) (defScope st) .none kV doc pm an cdv ct) ⟨us, []⟩ = pure (ps.zip us)) : Def K mg x st ps :=
  ⟨f, _, fun_mk l c k, PySem.W.mg_of X G a, (fun_mk l c k).binds hb⟩
end Rd
namespace Rd
open PySem PySem.Spec PyProof.Rows L2
/-! ### built-ins with a reading of their own name -/
def rIntI : List V → Hp → VK → Prop := fun xs H Q => ∃ i, xs = [.int i] ∧ Q (.int i) H
def rIntB : List V → Hp → VK → Prop := fun xs H Q => ∃ k, xs = [.bl k] ∧ Q (.int (if k then 1 else 0)) H
def rLenQ (K : PySem.W.Frag) : List V → Hp → VK → Prop := fun xs H Q => ∃ p ys, xs = [.ref p] ∧ (SqL K H p ys ∨ SqT K H p ys) ∧ Q (.int ys.length) H
def rLenZ : List V → Hp → VK → Prop := fun xs H Q => ∃ z, xs = [.str z] ∧ z.length ≤ sizeLine ∧ Q (.int z.length) H
def rListQ (K : PySem.W.Frag) : List V → Hp → VK → Prop := fun xs H Q => ∃ p ys, xs = [.ref p] ∧ (SqL K H p ys ∨ SqT K H p ys) ∧ ∀ l, H l = none → Q (.ref l) (upd H l (.lst ys))
def rTupQ (K : PySem.W.Frag) : List V → Hp → VK → Prop := fun xs H Q => ∃ p ys, xs = [.ref p] ∧ SqL K H p ys ∧ ∀ l, H l = none → Q (.ref l) (upd H l (.tup ys))
def rMaxQ : List V → Hp → VK → Prop := fun xs H Q => ∃ i j, xs = [.int i, .int j] ∧ Q (.int (if j > i then j else i)) H
def rMinQ : List V → Hp → VK → Prop := fun xs H Q => ∃ i j, xs = [.int i, .int j] ∧ Q (.int (if j < i then j else i)) H
def rAbsQ : List V → Hp → VK → Prop := fun xs H Q => ∃ i, xs = [.int i] ∧ Q (.int (if i < 0 then -i else i)) H
def rStrQ : List V → Hp → VK → Prop := fun xs H Q => ∃ i, xs = [.int i] ∧ i.natAbs.log2 < 1920 ∧ Q (.str (toString i)) H
def rAddZ : R2 := fun x y H Q => ∃ i j, x = .str i ∧ y = .str j ∧ i.length + j.length ≤ sizeLine ∧ Q (.str (i ++ j)) H
def rInZ : R2 := fun x y H Q => ∃ (c : Nat) (z : Str), x = .str ⟨#[c]⟩ ∧ y = .str z ∧ Q (.bl (decide (c ∈ z.cps.toList))) H
def rNiZ : R2 := fun x y H Q => ∃ (c : Nat) (z : Str), x = .str ⟨#[c]⟩ ∧ y = .str z ∧ Q (.bl (!decide (c ∈ z.cps.toList))) H
def rLtZ : R2 := fun x y H Q => ∃ i j, x = .str i ∧ y = .str j ∧ Q (.bl (decide (i.cps.toList < j.cps.toList))) H
def rIsN : R2 := fun x y H Q => y = .non ∧ Q (.bl (decide (x = .non))) H
def rNoN : R2 := fun x y H Q => y = .non ∧ Q (.bl (!decide (x = .non))) H
section
variable {X : Cx}
theorem q_intI : CallR X (.type "int") rIntI := fun pins s σ H xs us Q I r h => call_int1 pins s σ H xs us Q I r (.inl h)
theorem q_intB : CallR X (.type "int") rIntB := fun pins s σ H xs us Q I r h => call_int1 pins s σ H xs us Q I r (.inr h)
theorem q_len : CallR X (.builtin "len") (rLenQ X.K) := call_len_seq
theorem q_lenZ : CallR X (.builtin "len") rLenZ := call_len_str
theorem q_list : CallR X (.type "list") (rListQ X.K) := call_list_of
theorem q_tup : CallR X (.type "tuple") (rTupQ X.K) := fun pins s σ H xs us Q I r ⟨p, ys, e, h, q⟩ => call_tuple_of pins s σ H xs us Q I r ⟨p, ys, e, .inl ⟨h, q⟩⟩
theorem q_max (hc : X.calm = true) : CallR X (.builtin "max") rMaxQ := call_max2 hc
theorem q_min (hc : X.calm = true) : CallR X (.builtin "min") rMinQ := call_min2 hc
theorem q_abs : CallR X (.builtin "abs") rAbsQ := call_abs
theorem q_str : CallR X (.type "str") rStrQ := call_str_int
theorem o_addZ : OpR X (binaryOp .Add) rAddZ := op_add_str
theorem o_inZ : OpR X (compareOp .In) rInZ := op_in_sign
theorem o_niZ : OpR X (compareOp .NotIn) rNiZ := op_notIn_sign
theorem o_ltZ : OpR X (compareOp .Lt) rLtZ := op_lt_str
theorem o_isN : OpR X (compareOp .Is) rIsN := op_isN
theorem o_noN : OpR X (compareOp .IsNot) rNoN := op_notN
end
section
variable {K : PySem.W.Frag} {D : Ends} {σ σ' : L2.St} {H : Hp} {Q : VK} {to ti te tb : TE} {t : TSet} {v x y : V} {p q : Addr} {xs ys : List V} {i j k : Int} {a b' : Str} {n b c : L2.St → Hp → Prop} {rr : VK}
theorem intI (h : Q (.int i) H) : rIntI [.int i] H Q := ⟨i, rfl, h⟩
theorem intB {c : Bool} (h : Q (.int (if c then 1 else 0)) H) : rIntB [.bl c] H Q := ⟨c, rfl, h⟩
theorem lenQ (h : SqL K H p xs ∨ SqT K H p xs) (g : Q (.int xs.length) H) : rLenQ K [.ref p] H Q := ⟨p, xs, rfl, h, g⟩
theorem lenZ (h : a.length ≤ sizeLine) (g : Q (.int a.length) H) : rLenZ [.str a] H Q := ⟨a, rfl, h, g⟩
theorem listQ (h : SqL K H p xs ∨ SqT K H p xs) (g : ∀ l, H l = none → Q (.ref l) (upd H l (.lst xs))) : rListQ K [.ref p] H Q := ⟨p, xs, rfl, h, g⟩
theorem tupQ (h : SqL K H p xs) (g : ∀ l, H l = none → Q (.ref l) (upd H l (.tup xs))) : rTupQ K [.ref p] H Q := ⟨p, xs, rfl, h, g⟩
theorem maxQ (h : Q (.int (if j > i then j else i)) H) : rMaxQ [.int i, .int j] H Q := ⟨i, j, rfl, h⟩
theorem minQ (h : Q (.int (if j < i then j else i)) H) : rMinQ [.int i, .int j] H Q := ⟨i, j, rfl, h⟩
theorem absQ (h : Q (.int (if i < 0 then -i else i)) H) : rAbsQ [.int i] H Q := ⟨i, rfl, h⟩
theorem strQ (c : i.natAbs.log2 < 1920) (h : Q (.str (toString i)) H) : rStrQ [.int i] H Q := ⟨i, rfl, c, h⟩
theorem addZ (c : a.length + b'.length ≤ sizeLine) (h : Q (.str (a ++ b')) H) : rAddZ (.str a) (.str b') H Q := ⟨a, b', rfl, rfl, c, h⟩
theorem inZ {c : Nat} (h : Q (.bl (decide (c ∈ a.cps.toList))) H) : rInZ (.str ⟨#[c]⟩) (.str a) H Q := ⟨c, a, rfl, rfl, h⟩
theorem niZ {c : Nat} (h : Q (.bl (!decide (c ∈ a.cps.toList))) H) : rNiZ (.str ⟨#[c]⟩) (.str a) H Q := ⟨c, a, rfl, rfl, h⟩
theorem ltZ (h : Q (.bl (decide (a.cps.toList < b'.cps.toList))) H) : rLtZ (.str a) (.str b') H Q := ⟨a, b', rfl, rfl, h⟩
theorem isN (h : Q (.bl (decide (x = .non))) H) : rIsN x .non H Q := ⟨rfl, h⟩
theorem noN (h : Q (.bl (!decide (x = .non))) H) : rNoN x .non H Q := ⟨rfl, h⟩
theorem ixL (h : SqL K H p xs) (e : atI xs i = some v) (g : Q v H) : rIxL K (.ref p) (.int i) H Q := ⟨p, xs, i, v, rfl, rfl, h, e, g⟩
theorem ixI {ns : List Int} (h : SqL K H p (ns.map V.int)) (h0 : 0 ≤ i) (h1 : i < ((ns.map V.int).length : Int)) (g : ∀ z, z ∈ ns → Q (.int z) H) : rIxL K (.ref p) (.int i) H Q := by
  rw [List.length_map] at h1
  have hj : i.toNat < ns.length := by omega
  have e : atI (ns.map V.int) ((i.toNat : Nat) : Int) = some (.int ns[i.toNat]) := atI_nat (by rw [List.getElem?_map, List.getElem?_eq_getElem hj]; rfl)
  rw [show ((i.toNat : Nat) : Int) = i by omega] at e
  exact ⟨p, _, i, _, rfl, rfl, h, e, g _ (List.getElem_mem hj)⟩
theorem ixT (h : SqT K H p xs) (e : atI xs i = some v) (g : Q v H) : rIxT K (.ref p) (.int i) H Q := ⟨p, xs, i, v, rfl, rfl, h, e, g⟩
theorem ixZ {c : Nat} (h : a.length ≤ sizeLine) (e : atI a.cps.toList i = some c) (g : Q (.str ⟨#[c]⟩) H) : rIxS (.str a) (.int i) H Q := ⟨a, i, c, rfl, rfl, h, e, g⟩
theorem gsub {P : L2.St → Hp → Prop} (h : to σ H fun o H1 => ti σ H1 fun i H2 => t o i v H2 fun H3 => P σ H3) : gSub to ti t v σ H P := h
theorem setL {P : Hp → Prop} {j : Nat} (h : H p = some (.lst xs)) (e : ixN xs.length k = some j) (e2 : xs.set j v = ys) (g : P (upd H p (.lst ys))) : rSetL (.ref p) (.int k) v H P := by
  subst e2
  exact ⟨p, xs, k, j, rfl, rfl, h, e, g⟩
theorem append (h : H p = some (.lst xs)) (c : xs.length < sizeLine) (g : Q .non (upd H p (.lst (xs ++ [y])))) : rAppend (.ref p) [y] H Q := ⟨p, xs, y, rfl, rfl, h, c, g⟩
theorem pop (h : H p = some (.lst xs)) (e : xs[xs.length - 1]? = some y) (g : Q y (upd H p (.lst xs.dropLast))) : rPop (.ref p) [] H Q := ⟨p, xs, y, rfl, rfl, h, e, g⟩
theorem cat (h : H p = some (.lst xs)) (h' : H q = some (.lst ys)) (c : xs.length + ys.length ≤ sizeLine) (g : ∀ l, H l = none → Q (.ref l) (upd H l (.lst (xs ++ ys)))) : rCat (.ref p) (.ref q) H Q := ⟨p, q, xs, ys, rfl, rfl, h, h', c, g⟩
theorem bm {T : String} {r : V → List V → Hp → VK → Prop} {ts : TA} (h : to σ H fun x H1 => tyV K T x H1 ∧ ts σ H1 fun xs H2 => r x xs H2 Q) : tBM K T r to ts σ H Q := h
theorem bm0 {T : String} {r : V → List V → Hp → VK → Prop} (h : to σ H fun x H1 => tyV K T x H1 ∧ r x [] H1 Q) : tBM0 K T r to σ H Q := h
theorem tyL {B : Prop} (h : H p = some (.lst xs)) (g : B) : tyV K "list" (.ref p) H ∧ B := ⟨.inl ⟨rfl, _, .inl (.inl h)⟩, g⟩
theorem gtup {n : Nat} {t : TGs} {P : L2.St → Hp → Prop} (h : SqT K H p xs) (e : xs.length = n) (g : t xs σ H P) : gTup K n t (.ref p) σ H P := ⟨p, xs, rfl, h, e, g⟩
theorem gnil {P : L2.St → Hp → Prop} (h : P σ H) : gNil [] σ H P := ⟨rfl, h⟩
theorem gcons {t : TG} {u : TGs} {P : L2.St → Hp → Prop} (h : t v σ H fun σ' H' => u xs σ' H' P) : gCons t u (v :: xs) σ H P := ⟨v, xs, rfl, h⟩
theorem par {i j : Nat} {ta : TA} (h : ta σ H fun vs H1 => ∃ v w, vs = [v, w] ∧ n ((σ.set i (some v)).set j (some w)) H1) : tPar i j ta ⟨n, rr, b, c⟩ σ H := h
theorem expar {P' : V → V → Prop} (h : P' x y) : ∃ v w, [x, y] = [v, w] ∧ P' v w := ⟨x, y, rfl, h⟩
theorem aug {i : Nat} {ti : TIp} (e : σ[i]? = some (some x)) (h : te σ H fun y H1 => ti x y H1 fun z H2 => n (σ.set i (some z)) H2) : tAug i te ti ⟨n, rr, b, c⟩ σ H := ⟨x, e, h⟩
theorem ipi {f : Int → Int → Int} (h : Q (.int (f i j)) H) : ipI f (.int i) (.int j) H Q := ⟨i, j, rfl, rfl, h⟩
theorem slice {r : V → Option Int → Option Int → Hp → VK → Prop} {tl th : TO} (h : te σ H fun x H1 => tl σ H1 fun l H2 => th σ H2 fun u H3 => r x l u H3 Q) : tSl r te tl th σ H Q := h
theorem noPart {P : Option Int → Hp → Prop} (h : P none H) : tNoPart σ H P := h
theorem part {P : Option Int → Hp → Prop} (h : te σ H fun x H1 => ∃ i, x = .int i ∧ P (some i) H1) : tPart te σ H P := h
theorem slL {lo hi : Option Int} (h : SqL K H p xs) (g : ∀ l, H l = none → Q (.ref l) (upd H l (.lst (cutV xs lo hi)))) : rSlL K (.ref p) lo hi H Q := ⟨p, xs, rfl, h, g⟩
theorem slZ {lo hi : Option Int} (h : a.length ≤ sizeLine) (g : Q (.str (cutS a lo hi)) H) : rSlS (.str a) lo hi H Q := ⟨a, rfl, h, g⟩
theorem exint {P' : Int → Prop} (h : P' i) : ∃ j, V.int i = V.int j ∧ P' j := ⟨i, rfl, h⟩
/-- what a loop walks -/
theorem iseq {R : It → Hp → Prop} (h : te σ H fun x H1 => ∃ a, x = .ref a ∧ (∃ xs, SqL K H1 a xs) ∧ R (Itl K a) H1) : iList K te σ H R := h
theorem exlst {P' : Addr → Prop} (h : SqL K H p ys) (g : P' p) : ∃ a, V.ref p = V.ref a ∧ (∃ zs, SqL K H a zs) ∧ P' a := ⟨p, rfl, ⟨ys, h⟩, g⟩
theorem irng1 {ta : TA} {R : It → Hp → Prop} (h : ta σ H fun vs H1 => ∃ j : Int, vs = [.int j] ∧ -(2 ^ 62) ≤ j ∧ j < 2 ^ 62 ∧ R (Itr 0 j.toNat) H1) : iRng1 ta σ H R := h
theorem exrng1 {P' : Int → Prop} (c : -(2 ^ 62) ≤ i ∧ i < 2 ^ 62) (h : P' i) : ∃ j : Int, [V.int i] = [V.int j] ∧ -(2 ^ 62) ≤ j ∧ j < 2 ^ 62 ∧ P' j := ⟨i, rfl, c.1, c.2, h⟩
theorem irng2 {ta : TA} {R : It → Hp → Prop} (h : ta σ H fun vs H1 => ∃ i j : Int, vs = [.int i, .int j] ∧ (-(2 ^ 62) ≤ i ∧ i < 2 ^ 62 ∧ -(2 ^ 62) ≤ j ∧ j < 2 ^ 62) ∧ R (Itr i (j - i).toNat) H1) : iRng2 ta σ H R := h
theorem exrng2 {P' : Int → Int → Prop} (c : -(2 ^ 62) ≤ i ∧ i < 2 ^ 62 ∧ -(2 ^ 62) ≤ j ∧ j < 2 ^ 62) (h : P' i j) : ∃ a b : Int, [V.int i, V.int j] = [V.int a, V.int b] ∧ (-(2 ^ 62) ≤ a ∧ a < 2 ^ 62 ∧ -(2 ^ 62) ≤ b ∧ b < 2 ^ 62) ∧ P' a b := ⟨i, j, rfl, c, h⟩
end
end Rd
/-! ### loops and comprehensions, what is walked apart from what is done -/
namespace Rd
open PySem PySem.Spec PyProof.Rows L2
/-- a for over a walk that has begun; a comprehension over one -/
def ForB (J : It) (g : TG) (tb : TS) (D : Ends) (σ : L2.St) (H : Hp) : Prop := tFor (fun _ H1 R => R J H1) g tb D σ H
def LcB (J : It) (g : TG) (tt : TT) (te : TE) (vs : List Nat) (σ : L2.St) (H : Hp) (Q : VK) : Prop := tLc (fun _ H1 R => R J H1) g tt te vs σ H Q
section
variable {K : PySem.W.Frag} {wi : TI} {g : TG} {tb : TS} {D : Ends} {σ : L2.St} {H : Hp} {tt : TT} {te : TE} {vs : List Nat} {Q : VK} {a : Addr} {xs : List V} {n b c : L2.St → Hp → Prop} {rr : VK} {lo : Int} {m : Nat} {P : Prop}
theorem forX (h : wi σ H fun J H1 => ForB J g tb D σ H1) : tFor wi g tb D σ H := h
theorem lcX (h : wi σ H fun J H1 => LcB J g tt te vs σ H1 Q) : tLc wi g tt te vs σ H Q := h
theorem forL (xs : List V) (Pv : Nat → L2.St → Hp → Prop) (h0 : Pv 0 σ H) (hl : ∀ i σ H, i ≤ xs.length → Pv i σ H → SqL K H a xs)
    (hs : ∀ i x σ H, xs[i]? = some x → Pv i σ H → g x σ H fun σ2 H2 => tb ⟨Pv (i + 1), rr, n, Pv (i + 1)⟩ σ2 H2) (hd : ∀ σ H, Pv xs.length σ H → n σ H) : ForB (Itl K a) g tb ⟨n, rr, b, c⟩ σ H :=
  for_list (D := ⟨n, rr, b, c⟩) Pv h0 hl hs hd
theorem forR (Pv : Nat → L2.St → Hp → Prop) (h0 : Pv 0 σ H)
    (hs : ∀ i σ H, i < m → Pv i σ H → g (.int (lo + i)) σ H fun σ2 H2 => tb ⟨Pv (i + 1), rr, n, Pv (i + 1)⟩ σ2 H2) (hd : ∀ σ H, Pv m σ H → n σ H) : ForB (Itr lo m) g tb ⟨n, rr, b, c⟩ σ H :=
  for_range (D := ⟨n, rr, b, c⟩) Pv h0 hs hd
/-- what a comprehension's turn is to do, at the new list L -/
def Turn1 (g : TG) (tt : TT) (te : TE) (vs : List Nat) (σ : L2.St) (L : Addr) (x : V) (h : Hp) (Nx : Hp → Prop) : Prop :=
  g x (wipe σ vs) h fun σ2 h2 => wipe σ2 vs = wipe σ vs ∧
    tt σ2 h2 fun k h3 => if k = true then (te σ2 h3 fun y h4 => ∃ out, h4 L = some (.lst out) ∧ out.length < sizeLine ∧ Nx (upd h4 L (.lst (out ++ [y])))) else Nx h3
theorem lcL (xs : List V) (f : ∀ L, H L = none → ∃ Pv : Nat → Hp → Prop, Pv 0 (upd H L (.lst [])) ∧ (∀ i h, i ≤ xs.length → Pv i h → SqL K h a xs) ∧
    (∀ i x h, xs[i]? = some x → Pv i h → Turn1 g tt te vs σ L x h (Pv (i + 1))) ∧ ∀ h, Pv xs.length h → Q (.ref L) h) : LcB (Itl K a) g tt te vs σ H Q := fun L hL => by
  obtain ⟨Pv, h0, hl, hs, hd⟩ := f L hL
  exact lc_list (Qd := Q (.ref L)) Pv h0 hl hs hd
theorem lcR (f : ∀ L, H L = none → ∃ Pv : Nat → Hp → Prop, Pv 0 (upd H L (.lst [])) ∧
    (∀ i h, i < m → Pv i h → Turn1 g tt te vs σ L (.int (lo + i)) h (Pv (i + 1))) ∧ ∀ h, Pv m h → Q (.ref L) h) : LcB (Itr lo m) g tt te vs σ H Q := fun L hL => by
  obtain ⟨Pv, h0, hs, hd⟩ := f L hL
  exact lc_range (Qd := Q (.ref L)) Pv h0 hs hd
theorem turn1 {L : Addr} {x : V} {h : Hp} {Nx : Hp → Prop} (q : g x (wipe σ vs) h fun σ2 h2 => wipe σ2 vs = wipe σ vs ∧
    tt σ2 h2 fun k h3 => if k = true then (te σ2 h3 fun y h4 => ∃ out, h4 L = some (.lst out) ∧ out.length < sizeLine ∧ Nx (upd h4 L (.lst (out ++ [y])))) else Nx h3) : Turn1 g tt te vs σ L x h Nx := q
theorem andI {A B : Prop} (h1 : A) (h2 : B) : A ∧ B := ⟨h1, h2⟩
theorem yes {Q' : Bool → Hp → Prop} (h : Q' true H) : tYes σ H Q' := h
theorem irR {ta : TA} {R : It → Hp → Prop} (h : ta σ H fun vs H1 => ∃ j : Int, vs = [.int j] ∧ -(2 ^ 62) ≤ j ∧ j < 2 ^ 62 ∧ R (Itr 0 j.toNat) H1) : iRng1 ta σ H R := h
/-- an item of a list of ints -/
theorem int_at {ns : List Int} {i : Nat} {x : V} (h : (ns.map V.int)[i]? = some x) : ∃ z, ns[i]? = some z ∧ x = .int z := by
  rw [List.getElem?_map] at h
  cases e : ns[i]? with
  | none =>
    rw [e] at h
    cases h
  | some z =>
    rw [e] at h
    exact ⟨z, rfl, (Option.some.inj h).symm⟩
theorem same_upd {H : Hp} {p : Addr} {o : HO} (h : H p = none) : Same H (upd H p o) := fun b x e => by
  rw [upd_ne (ne_of_none e h)]
  exact e
/-- a new object stands beside what stood -/
theorem new_ne {H : Hp} {p q : Addr} {o : HO} (h : H p = some o) (h' : H q = none) : q ≠ p := fun e => by
  rw [e, h] at h'
  cases h'
theorem free_of {H H' : Hp} {p : Addr} (h : H' p = none) (k : ∀ b o, H b = some o → H' b = some o) : H p = none := by
  cases e : H p with
  | none => rfl
  | some o =>
    rw [k p o e] at h
    cases h
end
end Rd
namespace Rd
open PySem PySem.Spec PyProof.Rows L2
section
variable {K : PySem.W.Frag} {D : Ends} {σ : L2.St} {H : Hp} {te ta tb : TE} {Q : VK} {p : Addr} {xs : List V} {i j : Int}
theorem lstRev (h : te σ H fun v h => ∃ a zs, v = .ref a ∧ SqL K h a zs ∧ ∀ q, h q = none → Q (.ref q) (upd h q (.lst zs.reverse))) : tLstRev K te σ H Q := h
theorem exrev {P' : List V → Prop} (h : SqL K H p xs) (g : P' xs) : ∃ a zs, V.ref p = V.ref a ∧ SqL K H a zs ∧ P' zs := ⟨p, xs, rfl, h, g⟩
theorem lstRg {tr : L2.St → Hp → (Int → Int → Hp → Prop) → Prop} (h : tr σ H fun a b H1 => RgOk a b ∧ ∀ q, H1 q = none → Q (.ref q) (upd H1 q (.lst (rgV a b)))) : tLstRg tr σ H Q := h
theorem rg1 {P' : Int → Int → Hp → Prop} (h : ta σ H fun x H1 => ∃ m, x = .int m ∧ P' 0 m H1) : tRg1 ta σ H P' := h
theorem rg2 {P' : Int → Int → Hp → Prop} (h : ta σ H fun x H1 => tb σ H1 fun y H2 => ∃ a b, x = .int a ∧ y = .int b ∧ P' a b H2) : tRg2 ta tb σ H P' := h
theorem exint2 {P' : Int → Int → Prop} (h : P' i j) : ∃ a b, V.int i = V.int a ∧ V.int j = V.int b ∧ P' a b := ⟨i, j, rfl, rfl, h⟩
/-- an item at an open place -/
theorem ixN' {i : Int} {x : V} (h : SqL K H p xs) (h0 : 0 ≤ i) (h1 : xs[i.toNat]? = some x) (g : Q x H) : rIxL K (.ref p) (.int i) H Q := by
  have e : atI xs ((i.toNat : Nat) : Int) = some x := atI_nat h1
  rw [show ((i.toNat : Nat) : Int) = i by omega] at e
  exact ⟨p, xs, i, x, rfl, rfl, h, e, g⟩
theorem ixT' {i : Int} {x : V} (h : SqT K H p xs) (h0 : 0 ≤ i) (h1 : xs[i.toNat]? = some x) (g : Q x H) : rIxT K (.ref p) (.int i) H Q := by
  have e : atI xs ((i.toNat : Nat) : Int) = some x := atI_nat h1
  rw [show ((i.toNat : Nat) : Int) = i by omega] at e
  exact ⟨p, xs, i, x, rfl, rfl, h, e, g⟩
theorem setN' {P' : Hp → Prop} {k : Int} {v : V} (h : H p = some (.lst xs)) (h0 : 0 ≤ k) (h1 : k < (xs.length : Int)) (g : P' (upd H p (.lst (xs.set k.toNat v)))) : rSetL (.ref p) (.int k) v H P' := by
  refine ⟨p, xs, k, k.toNat, rfl, rfl, h, ?_, g⟩
  unfold ixN
  rw [if_pos h0, if_pos h1]
end
theorem swap_perm {α : Type} {l : List α} {i j : Nat} {x y : α} (hx : l[i]? = some x) (hy : l[j]? = some y) : ((l.set i y).set j x).Perm l := by
  obtain ⟨hi, e1⟩ := List.getElem?_eq_some_iff.mp hx
  obtain ⟨hj, e2⟩ := List.getElem?_eq_some_iff.mp hy
  rw [← e1, ← e2]
  exact List.set_set_perm hi hj
end Rd
/-! ### data, and what isinstance says of it -/
namespace Rd
open PySem PySem.Spec PyProof.Rows L2
def tys : List String := ["NoneType", "bool", "int", "str", "list", "tuple", "dict"]
def isT (t T : String) : Bool := t == T || (t == "bool" && T == "int")
theorem kit_all : ∀ t ∈ tys, ∀ T ∈ tys.tail, kitB t T = some (isT t T) := by decide +kernel
def tn : PyData → String
  | .none => "NoneType"
  | .bool _ => "bool"
  | .int _ => "int"
  | .str _ => "str"
  | .list _ => "list"
  | .tuple _ => "tuple"
  | .dict _ => "dict"
section
variable {K : PySem.W.Frag} {H : Hp} {x y : V} {d : PyData} {a : Addr} {xs : List V} {Q : VK}
theorem tyL' (h : SqL K H a xs) : TyX K H (.ref a) (.type "list") := by
  rcases h with (h | ⟨o, h⟩) | ⟨o, its, n, h, c, _⟩
  · exact .base (.lst h)
  · exact .base (.frz h)
  · exact .kList h c
theorem tyT' (h : SqT K H a xs) : TyX K H (.ref a) (.type "tuple") := by
  rcases h with (h | ⟨o, h⟩) | ⟨o, its, n, h, c, _⟩
  · exact .base (.tup h)
  · exact .fTuple h
  · exact .kTuple h c
theorem isi {t T : String} {b : Bool} (ty : TyX K H x (.type t)) (ht : t ∈ tys) (hT : T ∈ tys.tail) (e : isT t T = b) (q : Q (.bl b) H) : rIsi K [x, .ty T] H Q := by
  subst e
  exact ⟨x, .ty T, _, _, _, rfl, .ty T, ty, kit_ty (kit_all t ht T hT), q⟩
theorem isiT {t T : String} (ty : TyX K H x (.type t)) (e : (t ∈ tys ∧ T ∈ tys.tail) ∧ isT t T = true) (q : Q (.bl true) H) : rIsi K [x, .ty T] H Q := isi ty e.1.1 e.1.2 e.2 q
theorem isiF {t T : String} (ty : TyX K H x (.type t)) (e : (t ∈ tys ∧ T ∈ tys.tail) ∧ isT t T = false) (q : Q (.bl false) H) : rIsi K [x, .ty T] H Q := isi ty e.1.1 e.1.2 e.2 q
theorem dp_ty (h : Dp K H x d) : TyX K H x (.type (tn d)) := by
  cases h with
  | non => exact .base .non
  | bl b => exact .base (.bl b)
  | int i => exact .base (.int i)
  | str s => exact .base (.str s)
  | lst h _ => exact tyL' h
  | tup h _ => exact tyT' h
end
/-- data no deeper than n, with short lists -/
inductive Fit : Nat → PyData → Prop
  | non {n : Nat} : Fit n .none
  | bl {n : Nat} (b : Bool) : Fit n (.bool b)
  | int {n : Nat} (i : Int) : Fit n (.int i)
  | str {n : Nat} (s : Str) : Fit n (.str s)
  | lst {n : Nat} {ds : List PyData} : ds.length ≤ 100000 → (∀ d ∈ ds, Fit n d) → Fit (n + 1) (.list ds)
  | tup {n : Nat} {ds : List PyData} : ds.length ≤ 100000 → (∀ d ∈ ds, Fit n d) → Fit (n + 1) (.tuple ds)
theorem Fit.mono {n m : Nat} {d : PyData} (h : Fit n d) (k : n ≤ m) : Fit m d := by
  induction h generalizing m with
  | non => exact .non
  | bl b => exact .bl b
  | int i => exact .int i
  | str s => exact .str s
  | lst l _ ih =>
    cases m with
    | zero => omega
    | succ m => exact .lst l fun d hd => ih d hd (by omega)
  | tup l _ ih =>
    cases m with
    | zero => omega
    | succ m => exact .tup l fun d hd => ih d hd (by omega)
section
variable {K : PySem.W.Frag} {H H' : Hp}
theorem sqT_same {a : Addr} {xs : List V} (e : Same H H') (h : SqT K H a xs) : SqT K H' a xs := by
  rcases h with (h | ⟨o, h⟩) | h
  · exact .inl (.inl (e _ _ h))
  · exact .inl (.inr ⟨o, e _ _ h⟩)
  · exact .inr h
theorem all_len : ∀ {vs : List V} {ds : List PyData}, DpAll K H vs ds → vs.length = ds.length
  | _, _, .nil => rfl
  | _, _, .cons _ r => by rw [List.length_cons, List.length_cons, all_len r]
theorem all_at' : ∀ (vs : List V) (ds : List PyData) (i : Nat) (d : PyData), DpAll K H vs ds → ds[i]? = some d → ∃ v, vs[i]? = some v ∧ Dp K H v d
  | _, [], _, _, _, e => by simp at e
  | [], _ :: _, _, _, h, _ => by cases h
  | v :: _, _ :: _, 0, _, h, e => by
    cases h with
    | cons a _ =>
      cases e
      exact ⟨v, rfl, a⟩
  | _ :: vs, _ :: ds, i + 1, d, h, e => by
    cases h with
    | cons _ r =>
      obtain ⟨v, ev, dv⟩ := all_at' vs ds i d r (by simpa using e)
      exact ⟨v, by simpa using ev, dv⟩
theorem all_at {vs : List V} {ds : List PyData} {i : Nat} {d : PyData} (h : DpAll K H vs ds) (e : ds[i]? = some d) : ∃ v, vs[i]? = some v ∧ Dp K H v d := all_at' vs ds i d h e
theorem all_append' : ∀ (vs : List V) (ds : List PyData) {ws : List V} {es : List PyData}, DpAll K H vs ds → DpAll K H ws es → DpAll K H (vs ++ ws) (ds ++ es)
  | [], [], _, _, _, h => h
  | _ :: vs, _ :: ds, _, _, h, h' => by
    cases h with
    | cons a r => exact .cons a (all_append' vs ds r h')
  | [], _ :: _, _, _, h, _ => by cases h
  | _ :: _, [], _, _, h, _ => by cases h
theorem all_append {vs ws : List V} {ds es : List PyData} (h : DpAll K H vs ds) (h' : DpAll K H ws es) : DpAll K H (vs ++ ws) (ds ++ es) := all_append' vs ds h h'
theorem all_mid {vs ws : List V} {ds es : List PyData} {v : V} {d : PyData} (h : DpAll K H vs ds) (a : Dp K H v d) (h' : DpAll K H ws es) : DpAll K H (vs ++ [v] ++ ws) (ds ++ d :: es) := by
  rw [List.append_assoc]
  exact all_append h (.cons a h')
mutual
theorem dp_same (e : Same H H') : ∀ {v : V} {d : PyData}, Dp K H v d → Dp K H' v d
  | _, _, .non => .non
  | _, _, .bl b => .bl b
  | _, _, .int i => .int i
  | _, _, .str s => .str s
  | _, _, .lst h r => .lst (e.seq h) (all_same e r)
  | _, _, .tup h r => .tup (sqT_same e h) (all_same e r)
theorem all_same (e : Same H H') : ∀ {v : List V} {d : List PyData}, DpAll K H v d → DpAll K H' v d
  | _, _, .nil => .nil
  | _, _, .cons h r => .cons (dp_same e h) (all_same e r)
end
end
end Rd
/-! ### signs and names -/
namespace Rd
open PySem PySem.Spec PyProof.Rows L2
abbrev cl (z : Str) : List Nat := z.cps.toList
theorem cl_len (z : Str) : (cl z).length = z.length := by simp [cl, Str.length]
theorem cl_add (a b : Str) : cl (a ++ b) = cl a ++ cl b := by
  show (a.cps ++ b.cps).toList = _
  rw [Array.toList_append]
theorem add_len (a b : Str) : (a ++ b).length = a.length + b.length := by
  rw [← cl_len, cl_add, List.length_append, cl_len, cl_len]
theorem cl_one (c : Nat) : cl ⟨#[c]⟩ = [c] := rfl
theorem one_len (c : Nat) : (⟨#[c]⟩ : Str).length = 1 := rfl
theorem cl_inj {a b : Str} (h : cl a = cl b) : a = b := by
  obtain ⟨⟨a⟩⟩ := a
  obtain ⟨⟨b⟩⟩ := b
  have h : a = b := h
  rw [h]
def Low (c : Nat) : Prop := 97 ≤ c ∧ c ≤ 122
def Aln (c : Nat) : Prop := Low c ∨ (48 ≤ c ∧ c ≤ 57)
instance (c : Nat) : Decidable (Low c) := inferInstanceAs (Decidable (_ ∧ _))
instance (c : Nat) : Decidable (Aln c) := inferInstanceAs (Decidable (_ ∨ _))
/-- the signs of a name -/
def Nm (l : List Nat) : Prop := ∃ c r, l = c :: r ∧ Low c ∧ ∀ x ∈ r, Aln x
theorem Nm.all {l : List Nat} (h : Nm l) : ∀ x ∈ l, Aln x := by
  obtain ⟨c, r, rfl, hc, hr⟩ := h
  intro x hx
  rcases List.mem_cons.mp hx with rfl | hx
  · exact .inl hc
  · exact hr x hx
theorem Nm.snoc {l : List Nat} (h : Nm l) {x : Nat} (a : Aln x) : Nm (l ++ [x]) := by
  obtain ⟨c, r, rfl, hc, hr⟩ := h
  refine ⟨c, r ++ [x], rfl, hc, fun y hy => ?_⟩
  rcases List.mem_append.mp hy with hy | hy
  · exact hr y hy
  · rw [List.mem_singleton.mp hy]
    exact a
theorem Nm.head {l : List Nat} (h : Nm l) : ∃ c, l[0]? = some c ∧ Low c := by
  obtain ⟨c, r, rfl, hc, _⟩ := h
  exact ⟨c, rfl, hc⟩
theorem sz5 {n : Nat} (h : n ≤ 100000) : n ≤ sizeLine := Nat.le_trans h (by decide)
theorem sz5' {n : Nat} (h : n ≤ 100000) : n < sizeLine := Nat.lt_of_le_of_lt h (by decide)
section
variable {K : PySem.W.Frag} {H : Hp} {Q : VK} {i : Int} {z : Str}
/-- a sign of a text, at an open place -/
theorem sign (hl : z.length ≤ 100000) (h0 : 0 ≤ i) (h1 : i < (z.length : Int)) (g : ∀ c, (cl z)[i.toNat]? = some c → c ∈ cl z → Q (.str ⟨#[c]⟩) H) : rIxS (.str z) (.int i) H Q := by
  have hj : i.toNat < (cl z).length := by
    rw [cl_len]
    omega
  have e1 := List.getElem?_eq_getElem hj
  have e : atI (cl z) ((i.toNat : Nat) : Int) = some (cl z)[i.toNat] := atI_nat e1
  rw [show ((i.toNat : Nat) : Int) = i by omega] at e
  exact ⟨z, i, _, rfl, rfl, sz5 hl, e, g _ e1 (List.getElem_mem hj)⟩
end
end Rd
namespace Rd
open PySem PySem.Spec PyProof.Rows L2
section
variable {σ : L2.St} {H : Hp} {cc : TT} {tb : TS} {n b c : L2.St → Hp → Prop} {rr : VK}
/-- a while by an invariant with a number that falls -/
theorem whileX (W : Nat → L2.St → Hp → Prop) (m0 : Nat) (h0 : W m0 σ H)
    (hs : ∀ m σ H, W m σ H → cc σ H fun k H1 => if k = true then ∃ N : L2.St → Hp → Prop, (∀ σ' H', N σ' H' → ∃ j, j < m ∧ W j σ' H') ∧ tb ⟨N, rr, n, N⟩ σ H1 else n σ H1) : tWhile cc tb ⟨n, rr, b, c⟩ σ H :=
  ⟨W, ⟨m0, h0⟩, hs⟩
theorem exN {m : Nat} {W : Nat → L2.St → Hp → Prop} (h : tb ⟨fun σ' H' => ∃ j, j < m ∧ W j σ' H', rr, n, fun σ' H' => ∃ j, j < m ∧ W j σ' H'⟩ σ H) :
    ∃ N : L2.St → Hp → Prop, (∀ σ' H', N σ' H' → ∃ j, j < m ∧ W j σ' H') ∧ tb ⟨N, rr, n, N⟩ σ H := ⟨_, fun _ _ z => z, h⟩
theorem lc0 {x : V} {xs : List V} {A B : Prop} (h : B) : if decide (V.int (((x :: xs).length : Nat) : Int) = V.int 0) = true then A else B := by
  rw [if_neg]
  · exact h
  · intro e
    have e := V.int.inj (of_decide_eq_true e)
    rw [List.length_cons] at e
    omega
theorem ln0 {A B : Prop} (h : A) : if decide (V.int ((([] : List V).length : Nat) : Int) = V.int 0) = true then A else B := h
end
end Rd
namespace Rd
theorem log_small {n : Int} (h0 : 0 ≤ n) (h1 : n ≤ 1000000) : n.natAbs.log2 < 1920 :=
  Nat.lt_trans (PySem.Flt.log2_lt_of (k := 20) (by decide) (by omega)) (by decide)
end Rd
namespace Rd
open PySem PySem.Spec PyProof.Rows L2
/-- ways that meet -/
theorem cut {t u : TS} {n b c : L2.St → Hp → Prop} {rr : VK} {σ : L2.St} {H : Hp} (Mid : L2.St → Hp → Prop) (h : t ⟨Mid, rr, b, c⟩ σ H) (k : ∀ σ' H', Mid σ' H' → u ⟨n, rr, b, c⟩ σ' H') : C8.tCut t u ⟨n, rr, b, c⟩ σ H := ⟨Mid, h, k⟩
end Rd
/-! ### data without lists stays where only lists are written -/
namespace Rd
open PySem PySem.Spec PyProof.Rows L2
inductive Tp : PyData → Prop
  | non : Tp .none
  | bl (b : Bool) : Tp (.bool b)
  | int (i : Int) : Tp (.int i)
  | str (s : Str) : Tp (.str s)
  | tup {ds : List PyData} : (∀ d ∈ ds, Tp d) → Tp (.tuple ds)
def Tk (H H' : Hp) : Prop := ∀ b o, (∀ xs, o ≠ HO.lst xs) → H b = some o → H' b = some o
theorem Tk.trans {H H1 H2 : Hp} (a : Tk H H1) (b : Tk H1 H2) : Tk H H2 := fun c o n e => b c o n (a c o n e)
theorem Same.tk {H H' : Hp} (a : Same H H') : Tk H H' := fun c o _ e => a c o e
/-- two lists may be written -/
theorem tk_but {H H' : Hp} {p q : Addr} {xs ys : List V} (hp : H p = some (.lst xs)) (hq : H q = some (.lst ys)) (k : ∀ b o, b ≠ p → b ≠ q → H b = some o → H' b = some o) : Tk H H' := fun b o n e =>
  k b o (fun z => by rw [z, hp] at e; exact n xs (Option.some.inj e).symm) (fun z => by rw [z, hq] at e; exact n ys (Option.some.inj e).symm) e
section
variable {K : PySem.W.Frag} {H H' : Hp}
theorem sqT_tk {a : Addr} {xs : List V} (e : Tk H H') (h : SqT K H a xs) : SqT K H' a xs := by
  rcases h with (h | ⟨o, h⟩) | h
  · exact .inl (.inl (e _ _ (fun _ z => by cases z) h))
  · exact .inl (.inr ⟨o, e _ _ (fun _ z => by cases z) h⟩)
  · exact .inr h
mutual
theorem dp_tk (e : Tk H H') : ∀ {v : V} {d : PyData}, Dp K H v d → Tp d → Dp K H' v d
  | _, _, .non, _ => .non
  | _, _, .bl b, _ => .bl b
  | _, _, .int i, _ => .int i
  | _, _, .str s, _ => .str s
  | _, _, .lst _ _, t => nomatch t
  | _, _, .tup h r, .tup t => .tup (sqT_tk e h) (all_tk e r t)
theorem all_tk (e : Tk H H') : ∀ {v : List V} {d : List PyData}, DpAll K H v d → (∀ x ∈ d, Tp x) → DpAll K H' v d
  | _, _, .nil, _ => .nil
  | _, _, .cons h r, t => .cons (dp_tk e h (t _ List.mem_cons_self)) (all_tk e r fun x hx => t x (List.mem_cons_of_mem _ hx))
end
end
end Rd
namespace Rd
open PySem PySem.Spec PyProof.Rows L2
section
variable {K : PySem.W.Frag} {H : Hp} {Q : VK} {a b : Str} {A B : Prop} {p : Addr} {z x : V} {zs xs : List V}
theorem iteSt (e : a = b) (h : A) : if decide (V.str a = V.str b) = true then A else B := by
  subst e
  rw [if_pos (decide_eq_true rfl)]
  exact h
theorem iteSf (e : ¬ a = b) (h : B) : if decide (V.str a = V.str b) = true then A else B := by
  rw [if_neg]
  · exact h
  · intro z
    exact e (V.str.inj (of_decide_eq_true z))
theorem popR (h : H p = some (.lst (z :: zs).reverse)) (g : Q z (upd H p (.lst zs.reverse))) : rPop (.ref p) [] H Q := by
  rw [List.reverse_cons] at h
  refine ⟨p, _, z, rfl, rfl, h, ?_, ?_⟩
  · rw [List.length_append, List.length_singleton, Nat.add_sub_cancel, List.getElem?_append_right (Nat.le_refl _), Nat.sub_self]
    rfl
  · rw [List.dropLast_concat]
    exact g
theorem appR (h : H p = some (.lst zs.reverse)) (c : zs.length < 100000) (g : Q .non (upd H p (.lst (z :: zs).reverse))) : rAppend (.ref p) [z] H Q := by
  refine ⟨p, _, z, rfl, rfl, h, ?_, ?_⟩
  · rw [List.length_reverse]
    exact sz5' (by omega)
  · rw [← List.reverse_cons]
    exact g
theorem niQ (h : SqL K H p xs ∨ SqT K H p xs) (f : flatV x = true ∧ xs.all flatV = true) (e : inV x xs = true) (g : Q (.bl false) H) : rIn K true x (.ref p) H Q := by
  refine ⟨p, xs, rfl, h, f.1, f.2, ?_⟩
  rw [if_pos rfl, e]
  exact g
theorem inQ (h : SqL K H p xs ∨ SqT K H p xs) (f : flatV x = true ∧ xs.all flatV = true) (e : inV x xs = true) (g : Q (.bl true) H) : rIn K false x (.ref p) H Q := by
  refine ⟨p, xs, rfl, h, f.1, f.2, ?_⟩
  rw [if_neg Bool.false_ne_true, e]
  exact g
end
end Rd
namespace Rd
open PySem PySem.Spec PyProof.Rows L2
theorem same_put {H H' : Hp} {p : Addr} (s : Same H H') (f : H p = none) (o : HO) : Same H (upd H' p o) := fun b u e => (upd_ne (ne_of_none e f)).trans (s b u e)
theorem tk_put {H : Hp} {p : Addr} {xs : List V} (h : H p = some (.lst xs)) (o : HO) : Tk H (upd H p o) := fun b u n e => (upd_ne fun z => by
  rw [z, h] at e
  exact n xs (Option.some.inj e).symm).trans e
theorem tk_new {H : Hp} {p : Addr} (h : H p = none) (o : HO) : Tk H (upd H p o) := fun b u _ e => (upd_ne (ne_of_none e h)).trans e
theorem ne_tl {H : Hp} {p q : Addr} {xs ys : List V} (h : H p = some (.tup xs)) (h' : H q = some (.lst ys)) : p ≠ q := fun z => by
  rw [z, h'] at h
  cases h
end Rd
/-! ### texts whose signs are signs -/
namespace Rd
open PySem PySem.Spec PyProof.Rows L2
def TxOk (z : Str) : Prop := z.cps.all (fun c => decide (c < 0x110000)) = true
instance (z : Str) : Decidable (TxOk z) := inferInstanceAs (Decidable (_ = true))
theorem txOk_iff {z : Str} : TxOk z ↔ ∀ c ∈ cl z, c < 0x110000 := by
  unfold TxOk
  rw [← Array.all_toList, List.all_eq_true]
  exact ⟨fun h c hc => of_decide_eq_true (h c hc), fun h c hc => decide_eq_true (h c hc)⟩
theorem txOk_nm {z : Str} (h : Nm (cl z)) : TxOk z := txOk_iff.mpr fun c hc => by
  rcases h.all c hc with a | a
  · have := a.2
    omega
  · have := a.2
    omega
theorem txOk_num (n : Int) : TxOk (toString n) := txOk_iff.mpr fun c hc => by
  have e : cl (PySem.Str.ofString (toString n)) = (toString n).toList.map Char.toNat := signs_ofString _
  have hc : c ∈ cl (PySem.Str.ofString (toString n)) := hc
  rw [e] at hc
  obtain ⟨x, _, rfl⟩ := List.mem_map.mp hc
  have v := x.valid
  have : x.toNat < 0x110000 := by
    rcases v with v | v
    · have : x.toNat < 0xd800 := v
      omega
    · exact v.2
  exact this
theorem txOk_add {a b : Str} (h : TxOk a) (h' : TxOk b) : TxOk (a ++ b) := txOk_iff.mpr fun c hc => by
  rw [cl_add] at hc
  rcases List.mem_append.mp hc with hc | hc
  · exact txOk_iff.mp h c hc
  · exact txOk_iff.mp h' c hc
end Rd
/-! ### within a comprehension: the written part by its own name -/
namespace Rd
open PySem PySem.Spec PyProof.Rows L2
section
variable {X : Cx} {K : PySem.W.Frag}
theorem sl_listK (h : X.K = K) : SlR X (rSlL K) := h ▸ sl_list
theorem ix_listK (h : X.K = K) : IxR X (rIxL K) := h ▸ ix_list
theorem ix_tupK (h : X.K = K) : IxR X (rIxT K) := h ▸ ix_tup
theorem q_lenK (h : X.K = K) : CallR X (.builtin "len") (rLenQ K) := h ▸ q_len
theorem q_listK (h : X.K = K) : CallR X (.type "list") (rListQ K) := h ▸ q_list
theorem q_tupK (h : X.K = K) : CallR X (.type "tuple") (rTupQ K) := h ▸ q_tup
end
end Rd
/-! while an exception is handled: a list walked by a comprehension, isinstance and fields of that exception -/
namespace Ho
open PySem PySem.Spec PyProof.Rows L2 HotX L2H
section
variable {prog : Program} {w : World} {A : Around} {E : Value → Shared → Prop} {s : Shared}
/-- a list's iterator has come to its end -/
theorem list_end {it l x1 : Addr} {i : Nat} {its : Array Value} {Q : Option Value → Shared → Prop} (hot : HotAt A x1 s.heap) (st : s.heap.IsListIter it l i) (hl : s.heap.IsList l its) (out : its[i]? = none)
    (k : ∀ h', (∀ b o, b ≠ it → s.heap.get? b = some o → h'.get? b = some o) → Q none { s with heap := h' }) : wpAny (model prog w) A (pyNext (.ref it)) Q E s := by
  have ty := st.typeIs
  obtain ⟨oi, gi, ci, di⟩ := st
  obtain ⟨ol, gl, _, n, dl⟩ := hl
  obtain ⟨hh, o1, vs1, g1, d1, c1⟩ := hot
  have apart : x1 ≠ it := by
    rintro rfl
    rw [gi] at g1
    cases g1
    rw [di] at d1
    cases d1
    cases c1
  unfold pyNext
  refine wpAny_bind (wpAny_attempt (wpAny_callSpecial?_slot (name := Str.ofString "__next__") ty slot_listiter_next
    (wpAny_call_entry slot_listiter_next ty entry_listiter_next ?_ (args_listiter_next _))))
  show wpAny _ _ (field (.ref it) 0 >>= _) _ _ s
  refine wpAny_bind (wpAny_field gi di (x := .ref l) rfl ?_)
  have notN : ¬ (Value.ref l == Value.none) = true := Bool.false_ne_true
  show wpAny _ _ (if (Value.ref l == Value.none) = true then _ else _) _ _ s
  rw [if_neg notN]
  show wpAny _ _ (field (.ref it) 1 >>= _) _ _ s
  refine wpAny_bind (wpAny_field gi di (x := .int i 0) rfl ?_)
  show wpAny _ _ (seqItems? (.ref l) >>= _) _ _ s
  refine wpAny_bind (wpAny_seqItems gl dl ?_)
  simp only [Int.toNat_natCast, out]
  refine wpAny_bind (wpAny_rule (wpAny_bind (wpAny_setField gi di (by simp) ?_)))
  show wpAny _ _ (newExc (.type "StopIteration") [] >>= _) _ _ _
  refine wpAny_bind ?_
  simp only [newExc, newTuple]
  refine wpAny_bind (wpAny_newObj_type ?_ (by size_fits))
  refine wpAny_bind (m := firstArgMember _ _) (wpAny_of_eq (a := Value.none) (by first | rfl | (simp only [firstArgMember]; rfl)) ?_)
  refine wpAny_newObj_type ?_ (by size_fits)
  have g1' := (Heap.get?_update_other s.heap (Obj.mapFields (·.setIfInBounds 0 Value.none)) (Ne.symm apart)).trans g1
  refine raiseNew_hot (x1 := x1) ⟨hh, o1, vs1, ?_, d1, c1⟩ ?_ (Heap.get?_push_size _ rfl) rfl (by first | (simp; done) | (simp; omega) | (simp only [Array.size_append]; simp; omega)) ?_
  · first
    | exact Heap.get?_push_of_some _ (Heap.get?_push_of_some _ g1')
    | exact Heap.get?_push_of_some _ (Heap.get?_push_of_some _ ((Heap.get?_update_other _ _ (Ne.symm apart)).trans g1))
  · refine Nat.ne_of_lt (Heap.lt_size (o := o1) (Heap.get?_push_of_some _ ?_))
    exact (Heap.get?_update_other _ _ (Ne.symm apart)).trans g1
  refine wpAny_bind (wpAny_isInstance (T := "StopIteration") (b := true) ⟨_, Heap.get?_update_self _ (Heap.get?_push_size _ rfl) rfl, rfl⟩ isSubtype_stop ?_)
  refine wpAny_pure (k _ fun b o hb e => ?_)
  have e2 := (Heap.get?_update_other s.heap (Obj.mapFields (·.setIfInBounds 0 Value.none)) (Ne.symm hb)).trans e
  have e3 : ∀ f, (s.heap.update it f).get? b = some o := fun f => (Heap.get?_update_other _ f (Ne.symm hb)).trans e
  rw [Heap.get?_update_other _ _ (Nat.ne_of_gt (Heap.lt_size (o := o) (Heap.get?_push_of_some _ (e3 _))))]
  exact Heap.get?_push_of_some _ (Heap.get?_push_of_some _ (e3 _))
end
section
variable {X : Cx} {pins : List (Addr × Obj)} {σ : L2.St} {H : Hp} {s : Shared} {a it : Addr} {i : Nat} {E : Value → Shared → Prop} {tg : Expr}
/-- the next item of a list that is walked -/
theorem walk_item (I : Inv X pins σ H s) (f : FpOk X pins H it) (st : s.heap.IsListIter it a i) (g : ∃ xs x, SqL X.K H a xs ∧ xs[i]? = some x) :
    wpAny (model X.prog X.w) X.A (pyNext (.ref it)) (fun r s1 => ∃ u, r = some u ∧ wpAny (model X.prog X.w) X.A (letOwnedTupleGo tg (.ref it) u)
      (fun _ s2 => ∃ x, Inv X pins σ H s2 ∧ RelV x u ∧ (Itl X.K a).yld i H x H ∧ s2.heap.IsListIter it a (i + 1)) E s1) E s := by
  obtain ⟨xs, x, hq, hx⟩ := g
  obtain ⟨vs, rel, lay, _⟩ := I.list hq
  obtain ⟨u, hu, ru⟩ := rel.get hx
  obtain ⟨n0, n1, n2, n3, n4, n5⟩ := f
  refine wpAny_pyNext_list_item st lay.isList (x := u) (by simpa using hu) fun h1 st1 but => ?_
  have J : Inv X pins σ H { s with heap := h1 } := I.turned (t' := s.toks) (fun b o nb eb => (but.2 b nb).trans eb) n0 n1 n3 n4 n5
  have st2 := st1
  obtain ⟨o, eo, co, dO⟩ := st1
  refine ⟨u, rfl, go_of (s := { s with heap := h1 }) eo co dO (by decide) ⟨x, J, ru, ⟨rfl, fun ys hy => ?_⟩, st2⟩⟩
  rw [I.list_inj hy hq]
  exact hx
/-- no further item, an exception being handled -/
theorem walk_done {p : Addr × Obj} (hot : Hot1 X.A p) (hp : p ∈ X.pn ++ pins) (I : Inv X pins σ H s) (f : FpOk X pins H it) (st : s.heap.IsListIter it a i) (g : ∃ xs, SqL X.K H a xs ∧ xs.length ≤ i) :
    wpAny (model X.prog X.w) X.A (pyNext (.ref it)) (fun r s1 => r = none ∧ Inv X pins σ H s1) E s := by
  obtain ⟨xs, hq, hx⟩ := g
  obtain ⟨vs, rel, lay, _⟩ := I.list hq
  obtain ⟨n0, n1, n2, n3, n4, n5⟩ := f
  have len := rel.length
  obtain ⟨hh, fs, df, cf⟩ := hot
  exact list_end ⟨hh, p.2, fs, (I.pin p hp).1, df, cf⟩ st lay.isList (by simp; omega) fun h1 k => ⟨rfl, I.turned (t' := s.toks) (fun b o nb eb => k b o nb eb) n0 n1 n3 n4 n5⟩
end
section
variable {X : Cx}
/-- [elt for tg in iter if ..] over a list, an exception being handled -/
theorem pe_lcH {elt tg iter : Expr} {ifs : List Expr} {scope : Scope} {own : List (Str × Nat)} {pos : Pos} {tl : TE} {g : TG} {tt : TT} {te : TE} (hot : HotC X) (hN : X.N.Nodup) (hi : PE X iter tl) (ok : BlkOk X.N X.env.scope scope own)
    (hg : ∀ (s : Shared) (H : Hp) (C : Addr) (cl : List (Str × Addr)) (fp : List Addr), PG (X.blk s H scope (compEnvC scope cl C X.env) fp) tg g)
    (ht : ∀ (s : Shared) (H : Hp) (C : Addr) (cl : List (Str × Addr)) (fp : List Addr), PTs (X.blk s H scope (compEnvC scope cl C X.env) fp) ifs tt)
    (he : ∀ (s : Shared) (H : Hp) (C : Addr) (cl : List (Str × Addr)) (fp : List Addr), PE (X.blk s H scope (compEnvC scope cl C X.env) fp) elt te)
    (hs : ∀ x, foldedSetIterable iter X.env x = pure x := by intro _; rfl) :
    PE X (.ListComp elt [⟨tg, iter, ifs, 0⟩] scope pos) (tLc (iList X.K tl) g tt te (own.map (·.2))) := by
  refine ⟨fun pins s σ H Q I h => ?_⟩
  obtain ⟨p, hot1, hp⟩ := hot
  rw [eval_ListComp]
  have cells : ∀ y ∈ scope.names, y.2 = .free → ∃ c, X.env.cells.lookup y.1 = some c := by
    intro y hy ey
    cases ok.free y hy ey with
    | inl k => exact I.ok.has _ (.inl k)
    | inr k => exact I.ok.has _ (.inr k)
  refine wpAny_comprehension_free (use := none) rfl hs (closure_ok cells) ok.kind (fun y hy ey => by rw [ok.uniq y hy, ey])
    (thn (hi.run pins s σ H _ I h) fun v s1 h1 => ?_)
  obtain ⟨x, H1, I1, r1, a, ex, ⟨xs, hq⟩, q⟩ := h1
  subst ex
  cases r1
  obtain ⟨vs, rel, lay, _⟩ := I1.list hq
  refine wpAny_pyIter_list lay.isList ?_
  -- the iterator
  generalize hs2 : ({ s1 with heap := s1.heap.push { cls := .type "list_iterator", data := .fields #[.ref a, .int 0 0] } } : Shared) = s2
  generalize hit : s1.heap.objs.size = it
  have I2 : Inv X pins σ H1 s2 := by
    rw [← hs2]
    exact I1.kept (t' := s1.toks) fun b o eb => Heap.get?_push_of_some _ eb
  have st2 : s2.heap.IsListIter it a 0 := by
    rw [← hs2, ← hit]
    exact ⟨_, Heap.get?_push_size _ rfl, rfl, rfl⟩
  have f2 : FpOk X pins H1 it := I1.fpOk (Nat.le_of_eq hit) (I1.hok.fresh (Nat.le_of_eq hit))
  refine wpAny_newObj_type (newEnv_comp ?_) (by show 0 ≤ sizeLine; decide)
  generalize hD : s2.heap.objs.size = D
  have freeD : H1 D = none := I2.hok.fresh (Nat.le_of_eq hD)
  obtain ⟨W, ⟨m0, w0⟩, turn⟩ := q D freeD
  -- the new list
  generalize hs3 : ({ s2 with heap := s2.heap.push { cls := .type "list", data := .seq ([] : List Value).toArray } } : Shared) = s3
  have h3 : s3.heap = s2.heap.push { cls := .type "list", data := .seq ([] : List Value).toArray } := by rw [← hs3]
  have I3 : Inv X pins σ (upd H1 D (.lst [])) s3 := by
    rw [← hs3]
    refine I2.laid (t' := s2.toks) (fun b o eb => Heap.get?_push_of_some _ eb) (Nat.le_of_eq hD) ⟨Nat.zero_le _, [], 0, .nil, ?_⟩
    rw [← hD]
    exact Heap.get?_push_size _ rfl
  have itlt : it < s2.heap.objs.size := by
    obtain ⟨o, eo, _⟩ := st2
    exact Heap.lt_size eo
  have f3 : ∀ b ∈ [it], FpOk X pins (upd H1 D (.lst [])) b ∧ b < s3.heap.objs.size := by
    intro b hb
    cases List.mem_singleton.mp hb
    refine ⟨⟨?_, f2.2⟩, ?_⟩
    · rw [upd_ne (by rw [← hD]; exact Nat.ne_of_lt itlt)]
      exact f2.1
    · rw [h3, Heap.size_push]
      exact Nat.lt_succ_of_lt itlt
  have st3 : s3.heap.IsListIter it a 0 := by
    rw [h3]
    exact st2.at fun o eo => Heap.get?_push_of_some _ eo
  have I4 := block_start I3 ok hN f3
  have pg := hg s3 (upd H1 D (.lst [])) s3.heap.objs.size (cellsFrom (s3.heap.objs.size + 1) scope.names (cloFrom X.env.cells scope.names [])) [it]
  have pt := ht s3 (upd H1 D (.lst [])) s3.heap.objs.size (cellsFrom (s3.heap.objs.size + 1) scope.names (cloFrom X.env.cells scope.names [])) [it]
  have pe := he s3 (upd H1 D (.lst [])) s3.heap.objs.size (cellsFrom (s3.heap.objs.size + 1) scope.names (cloFrom X.env.cells scope.names [])) [it]
  show codeAny _ _ (.compStart (.ListComp elt [⟨tg, iter, ifs, 0⟩] scope pos) 0 (.ref it) (.ref D) (compEnvC scope (cellsFrom (s3.heap.objs.size + 1) scope.names (cloFrom X.env.cells scope.names [])) s3.heap.objs.size X.env))
    (compPost (model X.prog X.w) X.A X.xe none (EP X pins σ Q) (.ref D) s3.heap.objs.size) { s3 with heap := pushCells (s3.heap.push { cls := .type "dict", data := .dict #[] }) scope.names }
  have nit : (upd H1 D (.lst [])) it = none := (f3 it (List.mem_singleton.mpr rfl)).1.1
  have P3 := I3.pin p (List.mem_append_left _ hp)
  generalize hce : compEnvC scope (cellsFrom (s3.heap.objs.size + 1) scope.names (cloFrom X.env.cells scope.names [])) s3.heap.objs.size X.env = ce at I4 pg pt pe ⊢
  have cL : ce.locals = s3.heap.objs.size := by
    subst hce
    rfl
  generalize hH3 : upd H1 D (.lst []) = H3 at I3 I4 pg pt pe w0 nit f3 P3
  generalize hs4 : ({ s3 with heap := pushCells (s3.heap.push { cls := .type "dict", data := .dict #[] }) scope.names } : Shared) = s4 at I4 ⊢
  have up4 : ∀ b o, s3.heap.get? b = some o → s4.heap.get? b = some o := by
    intro b o eb
    rw [← hs4]
    exact pushCells_keeps _ _ _ _ (Heap.get?_push_of_some _ eb)
  have st4 : s4.heap.IsListIter it a 0 := st3.at fun o eo => up4 _ o eo
  -- the handled exception stays pinned within the block
  have pfs : p.1 ∉ (X.blk s3 H3 scope ce [it]).fs := by
    intro z
    rcases List.mem_cons.mp (I3.stkSub p.1 z) with z | z
    · exact P3.2.2.1 z
    · exact P3.2.2.2.1 z
  have I4 : Inv (X.blk s3 H3 scope ce [it]) [p] (wipe σ (own.map (·.2))) H3 s4 := I4.pins_of fun r hr => by
    have er : r = p := by simpa using (show r ∈ ([] : List (Addr × Obj)) ++ [p] from hr)
    subst er
    refine ⟨up4 _ _ P3.1, P3.2.1, ?_, pfs, P3.2.2.2.2⟩
    rw [cL]
    exact Nat.ne_of_lt (Heap.lt_size P3.1)
  have pit : p.1 ≠ it := f2.2.2.2.2.2 p (List.mem_append_left _ hp)
  have stat : ∀ {σ' : L2.St} {H' : Hp} {s' : Shared}, Inv (X.blk s3 H3 scope ce [it]) [p] σ' H' s' → H' it = none → FpOk (X.blk s3 H3 scope ce [it]) [p] H' it := fun {σ' H' s'} J n =>
    have mem : it ∈ [it] := List.mem_singleton.mpr rfl
    ⟨n, (J.ok.exf it mem).1, J.ok.exfs it mem, .inl mem, fun y c ey => (J.ok.exf it mem).2 y c ey, fun r hr => by
      have er : r = p := by simpa using (show r ∈ ([] : List (Addr × Obj)) ++ [p] from hr)
      rw [er]
      exact pit⟩
  have loop : codeAny (model X.prog X.w) X.A (.compLoop (.ListComp elt [⟨tg, iter, ifs, 0⟩] scope pos) 0 (.ref it) (.ref D) ce) (compPost (model X.prog X.w) X.A X.xe none (EP X pins σ Q) (.ref D) s3.heap.objs.size) s4 := by
    refine compLoop_any (fun n s' => ∃ i H', Inv (X.blk s3 H3 scope ce [it]) [p] (wipe σ (own.map (·.2))) H' s' ∧ s'.heap.IsListIter it a i ∧ H' it = none ∧ W i n H') ?_ m0 ⟨0, H3, I4, st4, nit, w0⟩
    rintro n s5 ⟨i, H5, I5, st5, n5, w5⟩
    rcases turn i n H5 w5 with ⟨stop, qq⟩ | ⟨go, Nx, hNx, step⟩
    · refine thnF (walk_done (X := X.blk s3 H3 scope ce [it]) (E := fun _ _ => False) hot1 (List.mem_append_right _ (List.mem_singleton.mpr rfl)) I5 (stat I5 n5) st5 stop) fun r s6 ⟨hr, I6⟩ => ?_
      subst hr
      have I7 : Inv X pins σ H5 s6 := I3.call' (ch := [it]) I6.os I6.base I6.hok I6.bare fun b hb =>
        have z := (f3 b hb).1
        ⟨z.2.2.2.1, z.2.1, z.2.2.2.2.1, z.2.2.2.2.2⟩
      have nC : H5 s3.heap.objs.size = none := by
        have z : H5 ce.locals = none := I6.free
        rw [cL] at z
        exact z
      obtain ⟨m, hn, _⟩ := I6.loc
      have hn : s6.heap.Ns ce.locals m := hn
      rw [cL] at hn
      obtain ⟨k0, k1, k2, k3, k4, k5⟩ := I3.fpOk (Nat.le_refl _) nC
      exact ⟨m, hn, fun h9 sb => ⟨.ref D, H5, I7.turned (t' := s6.toks) (fun b o nb eb => (sb.2 b nb).trans eb) k0 k1 k3 k4 k5, rfl, qq⟩⟩
    · refine thnF (walk_item (tg := tg) (X := X.blk s3 H3 scope ce [it]) (E := fun _ _ => False) I5 (stat I5 n5) st5 go) fun r s6 ⟨u, hr, h6⟩ => ?_
      subst hr
      refine thnF h6 fun _ s7 ⟨x, I7, r7, y7, st7⟩ => ?_
      have objs : ∀ b ∈ [it], ∃ o, s7.heap.get? b = some o ∧ ∀ v, o.data ≠ .cell v := by
        intro b hb
        cases List.mem_singleton.mp hb
        obtain ⟨o, eo, _, dO⟩ := st7
        exact ⟨o, eo, fun v z => by rw [dO] at z; cases z⟩
      have I7' := I7.pinned (fp := [it]) (fun b hb => by cases List.mem_singleton.mp hb; exact stat I7 n5) objs
      refine thnF (pg.run _ s7 _ H5 x u _ I7' r7 (step x H5 y7)) fun _ s8 ⟨σ8, H8, I8, hw8, q8⟩ => ?_
      refine thnF (pt.run _ s8 σ8 H8 _ I8 q8) fun b s9 ⟨H9, I9, q9⟩ => ?_
      have fin : ∀ {s' : Shared} {H' : Hp}, Inv (X.blk s3 H3 scope ce [it]) ([p] ++ pinsAt [it] s7.heap) σ8 H' s' → Nx H' →
          ∃ m, m < n ∧ ∃ i H', Inv (X.blk s3 H3 scope ce [it]) [p] (wipe σ (own.map (·.2))) H' s' ∧ s'.heap.IsListIter it a i ∧ H' it = none ∧ W i m H' := by
        intro s' H' J nx
        obtain ⟨m', hm, w'⟩ := hNx H' nx
        obtain ⟨o, eo, ho⟩ := id st7
        have z := J.pin (it, o) (List.mem_append_right _ (List.mem_append_right _ (mem_pinsAt (List.mem_singleton.mpr rfl) eo)))
        have hl : (wipe σ (own.map (·.2))).length = σ8.length := by rw [← hw8, wipe_length]
        refine ⟨m', hm, i + 1, H', (J.unpinned (pins := [p])).weak hl (fun j v ej => ?_), ⟨o, z.1, ho⟩, z.2.1, w'⟩
        rw [← hw8] at ej
        exact (wipe_some ej).1
      cases b with
      | false =>
        simp only [Bool.false_eq_true, if_false] at q9 ⊢
        exact fin I9 q9
      | true =>
        simp only [if_true] at q9 ⊢
        refine thnF (pe.run _ s9 σ8 H9 _ I9 q9) fun z s10 ⟨yv, H10, I10, r10, acc, hD10, hz10, nx⟩ => ?_
        exact app_ok (X := X.blk s3 H3 scope ce [it]) I10 hD10 hz10 r10 fun s11 I11 => fin I11 nx
  exact codeAny_compStart_list loop (wpAny_pyIter_listiter st4 loop)
end
/-! ### defs that may raise, defs called while an exception is handled -/
section
variable {P : Program} {w : World} {K : PySem.W.Frag} {mg : Str → Option Value} {base : Heap}
theorem okN {x qual : Str} {st : Stmt} {f : Addr} {fd : FuncData} {N ps : List Str} {k : Nat} {sp : Sp} (F : L2.Fun K x qual st f fd) (S : FnScope N ps (defScope st)) (len : ∀ vs H Q E, sp vs H Q E → vs.length = ps.length)
    (body : ∀ (cdv : Value) (A : Around) (outer : List Env) (s : Shared) (H : Hp) (vs : List V) (Q : VK) (E : XK), Room k (A.deeper (envOfC qual (defScope st) s.heap.objs.size f cdv)) → sp vs H Q E →
      ∃ t, PSs (cxOf (L2N.CX P w) P w K mg base N qual (defScope st) f cdv A outer s H E) (defBody st) t ∧ t ⟨fun _ H' => Q .non H', Q, fun _ _ => False, fun _ _ => False⟩ (L2.start N vs) H) :
    FnOk P w K mg base (L2N.CX P w) (k + 1) f fd ps sp := by
  obtain ⟨oc, od, kV, doc, pm, an, cdv, ct, osl, rfl, lk, hcd⟩ := F.ex
  exact fn_of lk hcd S len fun A outer s H vs Q E hr h => body cdv A outer s H vs Q E hr h
theorem okH {x qual : Str} {st : Stmt} {f : Addr} {fd : FuncData} {N ps : List Str} {k : Nat} {sp : Sp} (F : L2.Fun K x qual st f fd) (S : FnScope N ps (defScope st)) (len : ∀ vs H Q E, sp vs H Q E → vs.length = ps.length)
    (body : ∀ (cdv : Value) (A : Around) (outer : List Env) (s : Shared) (H : Hp) (vs : List V) (Q : VK) (E : XK) (p : Addr × Obj), Hot1 A p → RoomH k (A.deeper (envOfC qual (defScope st) s.heap.objs.size f cdv)) → sp vs H Q E →
      ∃ t, PSs (cxH CX0 P w K mg base N qual (defScope st) f cdv A outer s H E p) (defBody st) t ∧ t ⟨fun _ H' => Q .non H', Q, fun _ _ => False, fun _ _ => False⟩ (L2.start N vs) H) :
    FnH P w K mg base CX0 (k + 1) f fd ps sp := by
  obtain ⟨oc, od, kV, doc, pm, an, cdv, ct, osl, rfl, lk, hcd⟩ := F.ex
  exact fn_ofH lk hcd S len fun A outer s H vs Q E p hot hr h => body cdv A outer s H vs Q E p hot hr h
/-- the def of this name keeps this promise; it may raise -/
def CalN (P : Program) (w : World) (K : PySem.W.Frag) (mg : Str → Option Value) (base : Heap) (k : Nat) (x : Str) (ps : List Str) (sp : Sp) : Prop :=
  ∃ f fd, FnOk P w K mg base (L2N.CX P w) k f fd ps sp ∧ mg x = some (.ref f) ∧ PySem.W.keepIn K (.ref f) = true ∧ Binds K fd ps []
/-- the def of this name keeps this promise while an exception is handled -/
def CalH (P : Program) (w : World) (K : PySem.W.Frag) (mg : Str → Option Value) (base : Heap) (k : Nat) (x : Str) (ps : List Str) (sp : Sp) : Prop :=
  ∃ f fd, FnH P w K mg base CX0 k f fd ps sp ∧ mg x = some (.ref f) ∧ PySem.W.keepIn K (.ref f) = true ∧ Binds K fd ps []
theorem defN {x : Str} {st : Stmt} {ps N : List Str} {k : Nat} {sp : Sp} (F : Rd.Def K mg x st ps) (S : FnScope N ps (defScope st)) (len : ∀ vs H Q E, sp vs H Q E → vs.length = ps.length)
    (body : ∀ (f : Addr) (cdv : Value) (A : Around) (outer : List Env) (s : Shared) (H : Hp) (vs : List V) (Q : VK) (E : XK), Room k (A.deeper (envOfC x (defScope st) s.heap.objs.size f cdv)) → sp vs H Q E →
      ∃ t, PSs (cxOf (L2N.CX P w) P w K mg base N x (defScope st) f cdv A outer s H E) (defBody st) t ∧ t ⟨fun _ H' => Q .non H', Q, fun _ _ => False, fun _ _ => False⟩ (L2.start N vs) H) : CalN P w K mg base (k + 1) x ps sp := by
  obtain ⟨f, fd, F, m, b⟩ := F
  exact ⟨f, fd, okN F S len (fun cdv A outer s H vs Q E hr h => body f cdv A outer s H vs Q E hr h), m, F.kp, b⟩
theorem defH {x : Str} {st : Stmt} {ps N : List Str} {k : Nat} {sp : Sp} (F : Rd.Def K mg x st ps) (S : FnScope N ps (defScope st)) (len : ∀ vs H Q E, sp vs H Q E → vs.length = ps.length)
    (body : ∀ (f : Addr) (cdv : Value) (A : Around) (outer : List Env) (s : Shared) (H : Hp) (vs : List V) (Q : VK) (E : XK) (p : Addr × Obj), Hot1 A p → RoomH k (A.deeper (envOfC x (defScope st) s.heap.objs.size f cdv)) → sp vs H Q E →
      ∃ t, PSs (cxH CX0 P w K mg base N x (defScope st) f cdv A outer s H E p) (defBody st) t ∧ t ⟨fun _ H' => Q .non H', Q, fun _ _ => False, fun _ _ => False⟩ (L2.start N vs) H) : CalH P w K mg base (k + 1) x ps sp := by
  obtain ⟨f, fd, F, m, b⟩ := F
  exact ⟨f, fd, okH F S len (fun cdv A outer s H vs Q E p hot hr h => body f cdv A outer s H vs Q E p hot hr h), m, F.kp, b⟩
theorem CalN.mono {x : Str} {ps : List Str} {j k : Nat} {sp : Sp} (C : CalN P w K mg base j x ps sp) (h : j ≤ k) : CalN P w K mg base k x ps sp := by
  obtain ⟨f, fd, F, r⟩ := C
  exact ⟨f, fd, F.mono h, r⟩
end
theorem pe_calN {X : Cx} {W : WX} {e : Expr} {es : List Expr} {t : TA} {p pos : Pos} {j k : Nat} {x : Str} {ps : List Str} {sp : Sp} (C : CalN X.prog X.w X.K X.mg X.base j x ps sp) (tk : L2N.Takes X W) (hr : Room k X.A) (ha : PA X (e :: es) t) (hk : j ≤ k := by decide) (hg : Gl X x := by rfl)
    (hdb : (x == ("__debug__" : Str)) = false := by decide) (he : starEach (e :: es) X.env = (false, eval e X.env) :: starEach es X.env := by rfl) (hpl : (backTo pos (starEach es X.env)).any (·.1) = false := by rfl) :
    PE X (.Call (.Name x p) (e :: es) [] pos) (tCallS sp (WE W) t) := by
  obtain ⟨f, fd, F, m, kp, b⟩ := C
  exact pe_callS F (hr.mono hk) hg m kp b (fun σ => L2N.passAt tk σ) ha hdb he hpl
theorem pe_calH {X : Cx} {e : Expr} {es : List Expr} {t : TA} {p pos : Pos} {j k : Nat} {x : Str} {ps : List Str} {sp : Sp} (C : CalH X.prog X.w X.K X.mg X.base j x ps sp) (hot : HotC X) (hr : RoomH k X.A) (ha : PA X (e :: es) t) (hk : j ≤ k := by decide) (hg : Gl X x := by rfl)
    (hdb : (x == ("__debug__" : Str)) = false := by decide) (he : starEach (e :: es) X.env = (false, eval e X.env) :: starEach es X.env := by rfl) (hpl : (backTo pos (starEach es X.env)).any (·.1) = false := by rfl) :
    PE X (.Call (.Name x p) (e :: es) [] pos) (tCallS sp (fun _ => E0) t) := by
  obtain ⟨f, fd, F, m, kp, b⟩ := C
  exact pe_callH F (hr.mono hk) hot hg m kp b (fun σ _ _ _ _ _ _ h => h.elim) ha hdb he hpl
/-! ### the exception that is handled: its fields, its class -/
/-- a is a pinned exception of the class at C, its dict holds fs -/
def ExAt (pn : List (Addr × Obj)) (H : Hp) (a C : Addr) (fs : List (Str × V)) : Prop := ∃ (p : Addr × Obj) (dd : Addr), p ∈ pn ∧ p.1 = a ∧ p.2.cls = .ref C ∧ p.2.dict = some dd ∧ (∃ vs, p.2.data = .fields vs) ∧ H dd = some (.xd fs)
/-- e.f -/
def tXe (K : PySem.W.Frag) (pn : List (Addr × Obj)) (f : Str) (te : TE) : TE := fun σ H Q => te σ H fun x H1 => ∃ (a C : Addr) (fs : List (Str × V)) (v : V), x = .ref a ∧ ExAt pn H1 a C fs ∧ XfC K C ∧ PySem.W.findIn K (.ref C) f = some none ∧ fs.lookup f = some v ∧ Q v H1
section
variable {X : Cx} {pins : List (Addr × Obj)} {σ : L2.St} {H : Hp} {s : Shared}
theorem ExAt.inst {a C : Addr} {fs : List (Str × V)} (x : ExAt X.pn H a C fs) (I : Inv X pins σ H s) : ∃ (oe od : Obj) (dd : Addr) (mA : Str → Option Value), PySem.W.InstAt s.heap a oe C (some od) ∧ (∀ f, PySem.W.lookIn f od = some (mA f)) ∧ ∀ f, RelO (fs.lookup f) (mA f) := by
  obtain ⟨p, dd, hp, rfl, hc, hd, ⟨vs, hv⟩, hx⟩ := x
  obtain ⟨gp, _⟩ := I.pin p (List.mem_append_left _ hp)
  obtain ⟨mA, ns, rel⟩ := (show ObjOk X.prog X.w H s.heap dd (.xd fs) from I.hok dd _ hx)
  obtain ⟨od, ho, hl⟩ := lookIn_ns ns
  refine ⟨p.2, od, dd, mA, ⟨gp, hc, ?_, ?_⟩, fun f => hl f, rel⟩
  · unfold PySem.W.notCls
    rw [hv] <;> rfl
  · rw [hd]
    exact ho
theorem pe_xe {e : Expr} {te : TE} {pos : Pos} {n : Str} (he : PE X e te) (hb : attributeBase e n X.env (eval e X.env) = eval e X.env := by rfl) : PE X (.Attribute e n pos) (tXe X.K X.pn n te) := by
  refine ⟨fun pins s σ H Q I h => ?_⟩
  refine attr_of hb (thn (he.run pins s σ H _ I h) fun u s1 hh => ?_)
  obtain ⟨x, H1, I1, rx, a, C, fs, v, ex, at1, T, hno, l, q⟩ := hh
  subst ex
  obtain rfl : u = Value.ref a := rx
  obtain ⟨oe, od, dd, mA, J, hl, rel⟩ := at1.inst I1
  obtain ⟨u, hu, ru⟩ := RelO.some_of (v := v) (o := mA n) (by rw [← l]; exact rel n)
  exact HandSPX.exc_get I1.kIn J T.ga T.gg T.exC (PySem.W.findObj_own T.hdC hno rfl (by rw [hl, hu])) (handed_of ru) ⟨v, H1, I1.tok _, ru, q⟩
/-- what the written part says of a class of errors, for isinstance -/
structure XkC (K : PySem.W.Frag) (C : Addr) : Prop where
  cl : (PySem.W.clsIn K C).isSome = true
  ca : PySem.W.findIn K (.ref C) "__class__" = some (some (.builtin "object.__class__"))
  ob : PySem.W.mroIn K C (.type "object") = some true
structure XkO (K : PySem.W.Frag) : Prop where
  gt : PySem.W.specialIn K (.builtin "object.__class__") "__get__" = some (some (.builtin "getset_descriptor.__get__"))
  tk : PySem.W.takesIn K (.builtin "object.__class__") = some true
/-- isinstance(e, D) -/
def rIsE (K : PySem.W.Frag) (pn : List (Addr × Obj)) : List V → Hp → VK → Prop := fun xs H Q => ∃ (a C : Addr) (fs : List (Str × V)) (c : V) (u : Value) (b : Bool), xs = [.ref a, c] ∧ ExAt pn H a C fs ∧ XfC K C ∧ XkC K C ∧ XkO K ∧ ClsV c u ∧ PySem.W.kitOne K (.ref C) u = some b ∧ Q (.bl b) H
theorem q_isE : CallR X (.builtin "isinstance") (rIsE X.K X.pn) := by
  intro pins s σ H xs us Q I r h
  obtain ⟨a, C, fs, c, u, b, rfl, at1, T, T2, O, k, e, q⟩ := h
  obtain ⟨u1, u2, rfl, r1, r2⟩ := vals2 r
  have e2 := k.eq r2
  subst e2
  obtain rfl : u1 = Value.ref a := r1
  obtain ⟨oe, od, dd, mA, J, _, _⟩ := at1.inst I
  exact PySem.W.kia_one (PySem.W.kitx_exc T2.cl T.ga T.gg T.exC T2.ca O.gt O.tk T2.ob) I.kIn J e (fun z => nomatch z) fun tk => ⟨.bl b, H, I.tok tk, rfl, q⟩
end
/-! ### raise, where nothing is handled: an exception whose context is None -/
section
variable {X : Cx} {e : Expr} {es : List Expr} {ta : TA} {p pos : Pos}
/-- as HandS.ExcInit's rule, and the context of what is made is told -/
theorem pmk_init {CX : CXT} {x : Str} {C fI : Addr} {k : Nat} {fd : FuncData} {ps : List Str} {sp : Sp} (T : OexC X.K C) (iC : PySem.W.findIn X.K (.ref C) "__init__" = some (some (.ref fI))) (tI : PySem.W.typeIn X.K (.ref fI) = some (.type "function"))
    (Fi : FnOk X.prog X.w X.K X.mg X.base CX k fI fd ps sp) (hr : Room (k + 1) X.A) (hb : Binds X.K fd ps []) (hx : Passes CX X (fun _ _ _ => False)) (hg : Gl X x) (hm : X.mg x = some (.ref C)) (ha : PA X (e :: es) ta)
    (hdb : (x == ("__debug__" : Str)) = false := by decide) (he : starEach (e :: es) X.env = (false, eval e X.env) :: starEach es X.env := by rfl) (hpl : (backTo pos (starEach es X.env)).any (·.1) = false := by rfl) :
    L2N.PMk X (.Call (.Name x p) (e :: es) [] pos) (tMkO C sp [] ta) := by
  intro pins s σ H Q I h
  obtain ⟨nm, q, N, bs, bm, sn, sub, ab, col, dd, k0, k1, k2, k3, k5, hC, hbm⟩ := T.cls
  refine wpAny_Call_Name_kw (ld_glob I hg hm ?_ hdb)
  refine PySem.W.callWith_K (h₀ := X.base) I.ok.mod.kin T.kC (thn (ha.run pos pins s σ H _ I h) fun us s1 hh => ?_) he hpl
  obtain ⟨vs, H1, I1, r1, hz, q1⟩ := hh
  refine ⟨I1.kIn, ?_⟩
  show wpAny _ _ (call (.ref C) us) _ _ _
  obtain ⟨hp, g, dr, tk, os⟩ := s1
  generalize hD : hp.objs.size + 1 = D
  have hsz : hp.objs.size ≤ D := by
    rw [← hD]
    exact Nat.le_succ _
  have hq := q1 D (I1.hok.fresh hsz)
  rw [List.append_nil] at hq
  generalize hh2 : (hp.push (PySem.W.kdv_tup us)).push (PySem.HandSPX.excO C hp.objs.size) = h2
  have kk : ∀ b o, hp.get? b = some o → h2.get? b = some o := by
    intro b o eb
    rw [← hh2]
    exact Heap.get?_push_of_some _ (Heap.get?_push_of_some _ eb)
  have hget : h2.get? D = some (PySem.HandSPX.excO C hp.objs.size) := by
    rw [← hh2, ← hD]
    heap_get
  have I2 : Inv X pins σ (upd H1 D (exo D C none)) ⟨h2, g, dr, tk, os⟩ := I1.laid (t' := tk) (a := D) (o := exo D C none) (h' := h2) kk hsz (exo_ok hget)
  have r2 : Vals (V.ref D :: vs) (Value.ref D :: us) := .cons rfl r1
  have hl : (Value.ref D :: us).length = ps.length := by
    rw [← Fi.len _ _ _ _ hq]
    exact r2.length.symm
  have b2 := hb ⟨h2, g, dr, tk, os⟩ (Value.ref D :: us) I2.kIn (by rw [List.append_nil]; exact hl)
  rw [List.append_nil] at b2
  have hus : us.length ≤ sizeLine := by
    rw [← Paired.length r1, sizeLine_eq]
    omega
  subst hh2
  subst hD
  refine wpAny_call (PySem.HandSPX.call_own F.excBase_ValueError (fun Y => PySem.HandSPX.refsVE_contains Y bm hbm) (I1.kIn _ _ hC) (PySem.W.looks_findIn I1.kIn iC) (fun self => PySem.W.bind_fn I1.kIn self tI) hus ?_)
  refine codeAny_mono (Fi.run _ X.stack _ _ _ _ _ _ (fun _ _ _ => False) (hr.make C us []) (I2.env0.make C us []) b2 r2 hq) fun r s' hq' => ?_
  cases r with
  | error er => exact hx pins σ _ _ er s' I2 hq'
  | ok fl =>
    cases fl with
    | ret u =>
      obtain ⟨v, H2, os2, bare2, un2, hok2, rv, ev, d, fs, ea, ed, hd1, q2⟩ := hq'
      subst ev
      obtain ⟨h3, g3, d3, t3, os'⟩ := s'
      obtain ⟨t0, G, J, kG, ge, hoe, na⟩ := mk_end0 (d2 := d3) (t2 := t3) I1 hsz kk un2 hok2 os2 bare2 ea ed hd1
      exact ⟨rv, ⟨_, _, _, ⟨G, g3, d3, t3, os'⟩, _, .ref C, some d, rfl, J, kG, ge, hoe, ⟨rfl, rfl, fun vs hv => by cases hv; rfl⟩, rfl, rfl, na, rfl, bare2, raises_own T.exC T.tyC, q2⟩⟩
    | next => exact False.elim hq'
    | brk => exact False.elim hq'
    | cont => exact False.elim hq'
end
/-! ### defs that are told which exception is handled: at a, of the class cls, its dict d -/
structure FnP (P : Program) (w : World) (K : PySem.W.Frag) (mg : Str → Option Value) (base : Heap) (k : Nat) (f : Addr) (fd : FuncData) (ps : List Str) (sp : Addr → Value → Option Addr → Sp) : Prop where
  len : ∀ a c d vs H Q E, sp a c d vs H Q E → vs.length = ps.length
  run : ∀ (A : Around) (outer : List Env) (s : Shared) (H : Hp) (args : Args) (us : List Value) (vs : List V) (Q : VK) (E : XK) (p : Addr × Obj), RoomH k A → Hot1 A p → PinOk outer H s p → Env0 P w K mg base A outer s H →
    BindsTo s fd args (ps.zip us) → Vals vs us → sp p.1 p.2.cls p.2.dict vs H Q E → codeAny (model P w) A (.call (.ref f) args) (CR CX0 outer P w H s Q E) s
/-- the def of this name keeps this promise of the exception that is handled -/
def CalP (P : Program) (w : World) (K : PySem.W.Frag) (mg : Str → Option Value) (base : Heap) (k : Nat) (x : Str) (ps : List Str) (sp : Addr → Value → Option Addr → Sp) : Prop :=
  ∃ f fd, FnP P w K mg base k f fd ps sp ∧ mg x = some (.ref f) ∧ PySem.W.keepIn K (.ref f) = true ∧ Binds K fd ps []
section
variable {P : Program} {w : World} {K : PySem.W.Frag} {mg : Str → Option Value} {base : Heap}
theorem fnP_of {k : Nat} {f : Addr} {name qual : Str} {params : Arguments} {body : List Stmt} {scope : Scope} {dV kV doc pm cdv ct oc : Value} {an od : Option Addr} {osl : Array (Option Value)} {N ps : List Str} {sp : Addr → Value → Option Addr → Sp}
    (lk : K.lookup f = some ⟨oc, od, .func (PySem.W.fnOf name qual params body scope dV kV doc pm an cdv ct), osl⟩) (code : PySem.W.codeIn K cdv qual = true) (S : FnScope N ps scope) (len : ∀ a c d vs H Q E, sp a c d vs H Q E → vs.length = ps.length)
    (hb : ∀ (A : Around) (outer : List Env) (s : Shared) (H : Hp) (vs : List V) (Q : VK) (E : XK) (p : Addr × Obj), Hot1 A p → RoomH k (A.deeper (envOfC qual scope s.heap.objs.size f cdv)) → sp p.1 p.2.cls p.2.dict vs H Q E →
      ∃ t, PSs (cxH CX0 P w K mg base N qual scope f cdv A outer s H E p) body t ∧ t ⟨fun _ H' => Q .non H', Q, fun _ _ => False, fun _ _ => False⟩ (L2.start N vs) H) :
    FnP P w K mg base (k + 1) f (PySem.W.fnOf name qual params body scope dV kV doc pm an cdv ct) ps sp where
  len := len
  run := by
    intro A outer s H args us vs Q E p room hot pinned e0 binds rel h
    have hl := len _ _ _ _ _ _ _ h
    have kin : K.In s.heap := e0.mod.kin.keeps fun b o eb => (e0.bs b o eb).1
    have lim : s.heap.NoLimit := e0.mod.nolimit.keeps fun b o eb => (e0.bs b o eb).1
    refine codeAny_call_function room.depth (kin _ _ lk) rfl S.co S.gen rfl (PySem.W.codeRec_of kin code) (binds _ _ _ _ ?_)
    refine wpAny_newFunctionEnv_cells S.kind (fun y hy => ?_) fun env he s1 x => ?_
    · obtain ⟨n, v⟩ := y
      cases S.par n (List.of_mem_zip hy).1 with
      | inl q => exact .inl q
      | inr q => exact .inr ⟨q, PySem.W.cellsFrom_some _ _ _ (.inl q)⟩
    · subst he
      obtain ⟨t, ht, hq⟩ := hb A outer s H vs Q E p hot (room.deeper _) h
      refine ⟨lim.keeps x.toInCall.keep, codeAny_func ?_⟩
      refine wpAny_mono (ht.run [] s1 (L2.start N vs) H _ (inv_startH S pinned e0 hl rel x) hq) (fun fl s' hs => ?_) fun e s' hs => hs
      cases fl with
      | ret u =>
        obtain ⟨v, σ', H', J, rv, q⟩ := hs
        exact ⟨v, H', J.os, J.bare, J.base, J.hok, rv, q⟩
      | next =>
        obtain ⟨σ', H', J, q⟩ := hs
        exact ⟨.non, H', J.os, J.bare, J.base, J.hok, rfl, q⟩
      | brk =>
        obtain ⟨_, _, _, q⟩ := hs
        exact q.elim
      | cont =>
        obtain ⟨_, _, _, q⟩ := hs
        exact q.elim
theorem defP {x : Str} {st : Stmt} {ps N : List Str} {k : Nat} {sp : Addr → Value → Option Addr → Sp} (F : Rd.Def K mg x st ps) (S : FnScope N ps (defScope st)) (len : ∀ a c d vs H Q E, sp a c d vs H Q E → vs.length = ps.length)
    (body : ∀ (f : Addr) (cdv : Value) (A : Around) (outer : List Env) (s : Shared) (H : Hp) (vs : List V) (Q : VK) (E : XK) (p : Addr × Obj), Hot1 A p → RoomH k (A.deeper (envOfC x (defScope st) s.heap.objs.size f cdv)) → sp p.1 p.2.cls p.2.dict vs H Q E →
      ∃ t, PSs (cxH CX0 P w K mg base N x (defScope st) f cdv A outer s H E p) (defBody st) t ∧ t ⟨fun _ H' => Q .non H', Q, fun _ _ => False, fun _ _ => False⟩ (L2.start N vs) H) : CalP P w K mg base (k + 1) x ps sp := by
  obtain ⟨f, fd, F, m, b⟩ := F
  obtain ⟨oc, od, kV, doc, pm, an, cdv, ct, osl, rfl, lk, hcd⟩ := F.ex
  exact ⟨f, _, fnP_of lk hcd S len (fun A outer s H vs Q E p hot hr h => body f cdv A outer s H vs Q E p hot hr h), m, F.kp, b⟩
end
/-- such a call in an except suite -/
def tCallP (sp : Addr → Value → Option Addr → Sp) (a : Addr) (cls : Value) (d : Option Addr) (t : TA) : TE := fun σ H Q => t σ H fun vs H1 => sp a cls d vs H1 Q E0
theorem pe_calP {X : Cx} {a : Addr} {oe : Obj} {cls : Value} {d : Option Addr} {pn : List (Addr × Obj)} {e : Expr} {es : List Expr} {t : TA} {q pos : Pos} {j k : Nat} {x : Str} {ps : List Str} {sp : Addr → Value → Option Addr → Sp}
    (C : CalP X.prog X.w X.K X.mg X.base j x ps sp) (hz : L2N.Zn cls d oe) (hf : ∃ vs, oe.data = .fields vs) (hr : Room k X.A) (ha : PA (X.suite a ((a, oe) :: pn)) (e :: es) t) (hk : j ≤ k := by decide) (hg : Gl (X.suite a ((a, oe) :: pn)) x := by rfl)
    (hdb : (x == ("__debug__" : Str)) = false := by decide) (he : starEach (e :: es) X.env = (false, eval e X.env) :: starEach es X.env := by rfl) (hpl : (backTo pos (starEach es X.env)).any (·.1) = false := by rfl) :
    PE (X.suite a ((a, oe) :: pn)) (.Call (.Name x q) (e :: es) [] pos) (tCallP sp a cls d t) := by
  obtain ⟨f, fd, F, m, kp, b⟩ := C
  refine ⟨fun pins s σ H Q I h => ?_⟩
  refine wpAny_Call_Name_kw (ld_glob I hg m ?_ hdb)
  refine PySem.W.callWith_K (h₀ := X.base) I.ok.mod.kin kp (thn (ha.run pos pins s σ H _ I h) fun us s1 hh => ?_) he hpl
  obtain ⟨vs, H1, I1, r, h1⟩ := hh
  refine ⟨I1.kIn, ?_⟩
  have hl : us.length = ps.length := by
    rw [← F.len _ _ _ _ _ _ _ h1]
    exact r.length.symm
  have b2 := b s1 us I1.kIn (by rw [List.append_nil]; exact hl)
  rw [List.append_nil] at b2
  obtain ⟨fs, dat⟩ := hf
  obtain ⟨p1, p2, p3, p4, p5⟩ := I1.pin (a, oe) (List.mem_append_left _ List.mem_cons_self)
  have pinned : PinOk X.stack H1 s1 (a, oe) := by
    refine ⟨p1, p2, fun hm => ?_, p5⟩
    cases List.mem_cons.mp (I1.stkSub a hm) with
    | inl z => exact p3 z
    | inr z => exact p4 z
  have hot : Hot1 (X.suite a ((a, oe) :: pn)).A (a, oe) := ⟨rfl, fs, dat, hz.2.2 fs dat⟩
  have h2 : sp (a, oe).1 (a, oe).2.cls (a, oe).2.dict vs H1 Q E0 := by
    show sp a oe.cls oe.dict vs H1 Q E0
    rw [hz.1, hz.2.1]
    exact h1
  have hr2 : RoomH j (X.A.mark (some (.ref a))) := roomH_mark (hr.mono hk) _
  refine wpAny_call (codeAny_mono (F.run _ X.stack s1 H1 ⟨us, []⟩ us vs Q E0 (a, oe) hr2 hot pinned I1.env0 b2 r h2) fun r s' hq => ?_)
  cases r with
  | error e => exact hq.elim
  | ok fl =>
    cases fl with
    | ret u => exact I1.after hq
    | next => exact hq.elim
    | brk => exact hq.elim
    | cont => exact hq.elim
/-- e.f in an except suite: a the exception, cls its class, d its dict -/
def tXs (K : PySem.W.Frag) (a : Addr) (cls : Value) (d : Option Addr) (f : Str) (te : TE) : TE := fun σ H Q => te σ H fun x H1 => x = .ref a ∧ ∃ (C dd : Addr) (fs : List (Str × V)) (v : V), cls = .ref C ∧ XfC K C ∧ PySem.W.findIn K (.ref C) f = some none ∧ d = some dd ∧ H1 dd = some (.xd fs) ∧ fs.lookup f = some v ∧ Q v H1
theorem pe_xs {X : Cx} {K : PySem.W.Frag} (hK : X.K = K) {a : Addr} {oe : Obj} {cls : Value} {d : Option Addr} {pn : List (Addr × Obj)} {e : Expr} {te : TE} {pos : Pos} {n : Str} (hz : L2N.Zn cls d oe) (hf : ∃ vs, oe.data = .fields vs) (he : PE (X.suite a ((a, oe) :: pn)) e te)
    (hb : attributeBase e n X.env (eval e X.env) = eval e X.env := by rfl) : PE (X.suite a ((a, oe) :: pn)) (.Attribute e n pos) (tXs K a cls d n te) := by
  subst hK
  refine ⟨fun pins s σ H Q I h => ?_⟩
  refine attr_of hb (thn (he.run pins s σ H _ I h) fun u s1 hh => ?_)
  obtain ⟨x, H1, I1, rx, ex, C, dd, fs, v, ec, T, hno, ed, hd, l, q⟩ := hh
  subst ex
  obtain rfl : u = Value.ref a := rx
  have at1 : ExAt (X.suite a ((a, oe) :: pn)).pn H1 a C fs := ⟨(a, oe), dd, List.mem_cons_self, rfl, hz.1.trans ec, hz.2.1.trans ed, hf, hd⟩
  obtain ⟨oe', od, dd', mA, J, hl, rel⟩ := at1.inst I1
  obtain ⟨u, hu, ru⟩ := RelO.some_of (v := v) (o := mA n) (by rw [← l]; exact rel n)
  have found := PySem.W.findObj_own (od := od) T.hdC hno rfl (by rw [hl, hu])
  exact HandSPX.exc_get I1.kIn J T.ga T.gg T.exC found (handed_of ru) ⟨v, H1, I1.tok _, ru, q⟩
/-! ### an error class of the program with one field -/
section
variable {P : Program} {w : World} {K : PySem.W.Frag} {mg : Str → Option Value} {base : Heap}
/-- C.__init__(self, y): self.code = x; self.f = y -/
def spInit (K : PySem.W.Frag) (C : Addr) (x f : Str) : Sp := fun vs H Q _ => ∃ (a : Addr) (y : V), vs = [.ref a, y] ∧ H a = some (exo a C none) ∧ OexC K C ∧ PySem.W.findIn K (.ref C) "code" = some none ∧ PySem.W.findIn K (.ref C) f = some none ∧
  ∀ dx, H dx = none → dx ≠ a → Q .non (upd (upd (upd H dx (exd dx [("code", .str x)])) a (exo a C (some dx))) dx (exd dx [(f, y), ("code", .str x)]))
structure ErrC (P : Program) (w : World) (K : PySem.W.Frag) (mg : Str → Option Value) (base : Heap) (x : Str) (C : Addr) (f : Str) : Prop where
  gC : mg x = some (.ref C)
  ox : OexC K C
  xf : XfC K C
  no1 : PySem.W.findIn K (.ref C) "code" = some none
  no2 : PySem.W.findIn K (.ref C) f = some none
  ini : ∃ fI fd, PySem.W.findIn K (.ref C) "__init__" = some (some (.ref fI)) ∧ PySem.W.typeIn K (.ref fI) = some (.type "function") ∧ FnOk P w K mg base CX0 1 fI fd ["self", f] (spInit K C x f) ∧ Binds K fd ["self", f] []
end
def tErr (C : Addr) (x f : Str) (ta : TA) : L2.St → Hp → XK → Prop := fun σ H Q => ta σ H fun vs H1 => ∃ y, vs = [y] ∧ ∀ d, H1 d = none → Q (.ref C) (some d) (upd H1 d (.xd [(f, y), ("code", .str x)]))
def tRaise (C : Addr) (x f : Str) (W : WX) (ta : TA) : TS := fun _ σ H => tErr C x f ta σ H fun cls d H' => W cls d σ H'
theorem upd_del {H : Hp} {a d : Addr} {o1 o2 o3 o4 o : HO} (n : H a = none) : upd (del (upd (upd (upd (upd H a o1) d o2) a o3) d o4) a) d o = upd H d o := by
  funext b
  by_cases hd : b = d
  · rw [hd, upd_same, upd_same]
  · rw [upd_ne hd, upd_ne hd]
    by_cases ha : b = a
    · rw [ha, del_same, n]
    · rw [del_ne ha, upd_ne hd, upd_ne ha, upd_ne hd, upd_ne ha]
def Up (ta : TA) : Prop := ∀ (σ : L2.St) (H : Hp) (Q Q' : List V → Hp → Prop), (∀ vs H', Q vs H' → Q' vs H') → ta σ H Q → ta σ H Q'
theorem up_v {i : Nat} : Up (tCons (tVar i) tNil) := fun σ H Q Q' k h => by
  obtain ⟨v, e, q⟩ := h
  exact ⟨v, e, k _ _ q⟩
theorem up_c {v : V} : Up (tCons (tC v) tNil) := fun σ H Q Q' k h => k _ _ h
theorem mk_of_err {P : Program} {w : World} {K : PySem.W.Frag} {mg : Str → Option Value} {base : Heap} {x f : Str} {C : Addr} {ta : TA} {σ : L2.St} {H : Hp} {Q : XK} (T : ErrC P w K mg base x C f) (up : Up ta) (h : tErr C x f ta σ H Q) : tMkO C (spInit K C x f) [] ta σ H Q := by
  refine up σ H _ _ (fun vs H1 q => ?_) h
  obtain ⟨y, rfl, q⟩ := q
  refine ⟨by show 1 ≤ 1000; decide, fun a na => ⟨a, y, rfl, upd_same, T.ox, T.no1, T.no2, fun dx nd ne => ?_⟩⟩
  have nd1 : H1 dx = none := by
    rw [upd_ne ne] at nd
    exact nd
  refine ⟨rfl, dx, _, (upd_ne (Ne.symm ne)).trans upd_same, upd_same, nd1, ?_⟩
  rw [upd_del na]
  exact q dx nd1
section
variable {X : Cx} {W : WX} {e : Expr} {ta : TA} {x f : Str} {C : Addr} {p pos pos2 : Pos} {k : Nat}
theorem ps_err (hc : X.calm = true) (T : ErrC X.prog X.w X.K X.mg X.base x C f) (hr : Room k X.A) (tk : L2N.Takes X W) (ha : PA X [e] ta) (up : Up ta) (hk : 2 ≤ k := by decide) (hg : Gl X x := by rfl) (hdb : (x == ("__debug__" : Str)) = false := by decide)
    (he : starEach (e :: []) X.env = (false, eval e X.env) :: starEach [] X.env := by rfl) (hpl : (backTo pos (starEach [] X.env)).any (·.1) = false := by rfl) :
    PS X (.Raise (some (.Call (.Name x p) [e] [] pos)) none pos2) (tRaise C x f W ta) := by
  obtain ⟨fI, fd, iC, tI, F, b⟩ := T.ini
  have mk := pmk_init (X := X) (p := p) (pos := pos) T.ox iC tI F (hr.mono hk) b pass0 hg T.gC ha hdb he hpl
  exact L2N.ps_raise hc tk (t := tErr C x f ta) fun pins s σ H Q I h => mk pins s σ H Q I (mk_of_err T up h)
end
/-! ### small ones -/
theorem takes0 {X : Cx} : L2N.Takes X (fun _ _ _ _ => False) := fun _ _ x => by
  obtain ⟨_, _, _, _, _, _, _, _, _, _, _, _, _, _, _, _, z⟩ := x
  exact z.elim
theorem pe_const {X : Cx} {x : Str} {v : Int} {pos : Pos} (h : ∃ t, X.mg x = some (.int v t)) (hg : Gl X x) (hd : (x == ("__debug__" : Str)) = false := by decide) : PE X (.Name x pos) (tC (.int v)) := by
  obtain ⟨t, h⟩ := h
  exact pe_glob hg h ⟨t, rfl⟩ hd
section
variable {X : Cx} {K : PySem.W.Frag} {pn : List (Addr × Obj)}
theorem q_isEK (hK : X.K = K) (hp : X.pn = pn) : CallR X (.builtin "isinstance") (rIsE K pn) := by
  subst hK hp
  exact q_isE
theorem pe_xeK {e : Expr} {te : TE} {pos : Pos} {n : Str} (hK : X.K = K) (hp : X.pn = pn) (he : PE X e te) (hb : attributeBase e n X.env (eval e X.env) = eval e X.env := by rfl) : PE X (.Attribute e n pos) (tXe K pn n te) := by
  subst hK hp
  exact pe_xe he hb
theorem pe_lcHK {elt tg iter : Expr} {ifs : List Expr} {scope : Scope} {own : List (Str × Nat)} {pos : Pos} {tl : TE} {g : TG} {tt : TT} {te : TE} (hK : X.K = K) (hot : HotC X) (hN : X.N.Nodup) (hi : PE X iter tl) (ok : BlkOk X.N X.env.scope scope own)
    (hg : ∀ (s : Shared) (H : Hp) (C : Addr) (cl : List (Str × Addr)) (fp : List Addr), PG (X.blk s H scope (compEnvC scope cl C X.env) fp) tg g) (ht : ∀ (s : Shared) (H : Hp) (C : Addr) (cl : List (Str × Addr)) (fp : List Addr), PTs (X.blk s H scope (compEnvC scope cl C X.env) fp) ifs tt)
    (he : ∀ (s : Shared) (H : Hp) (C : Addr) (cl : List (Str × Addr)) (fp : List Addr), PE (X.blk s H scope (compEnvC scope cl C X.env) fp) elt te) (hs : ∀ x, foldedSetIterable iter X.env x = pure x := by intro _; rfl) :
    PE X (.ListComp elt [⟨tg, iter, ifs, 0⟩] scope pos) (tLc (iList K tl) g tt te (own.map (·.2))) := by
  subst hK
  exact pe_lcH hot hN hi ok hg ht he hs
theorem eqDK (hK : X.K = K) (hu : X.A.units + 64 < cLine) : OpR X (compareOp .Eq) (rEqD K) := by
  subst hK
  exact op_eqD hu
theorem neDK (hK : X.K = K) (hu : X.A.units + 64 < cLine) : OpR X (compareOp .NotEq) (rNeD K) := by
  subst hK
  exact op_neD hu
theorem unitsH {k : Nat} {A : Around} (r : RoomH k A) : A.units + 64 < cLine := by
  have := r.un
  omega
end
/-- what the written part says of the class of an error, so that isinstance and fields are known -/
structure Knd (K : PySem.W.Frag) (D : Str → Addr) (names : List Str) (C : Addr) (code f : Str) : Prop where
  xf : XfC K C
  xk : XkC K C
  xo : XkO K
  nf : PySem.W.findIn K (.ref C) f = some none
  nc : PySem.W.findIn K (.ref C) "code" = some none
  is : ∀ x ∈ names, PySem.W.kitOne K (.ref C) (.ref (D x)) = some (decide (x = code))
  ve : PySem.W.kitOne K (.ref C) (.type "ValueError") = some true
section
variable {K : PySem.W.Frag} {D : Str → Addr} {names : List Str} {C dd : Addr} {code f x : Str} {p : Addr × Obj} {fs : List (Str × V)} {H : Hp} {Q : VK} {b : Bool}
theorem isE (kn : Knd K D names C code f) (hc : p.2.cls = .ref C) (hd : p.2.dict = some dd) (hv : ∃ vs, p.2.data = .fields vs) (hx : H dd = some (.xd fs)) (m : x ∈ names) (e : decide (x = code) = b) (q : Q (.bl b) H) : rIsE K [p] [.ref p.1, .ref (D x)] H Q := by
  subst e
  exact ⟨p.1, C, fs, _, _, _, rfl, ⟨p, dd, List.mem_cons_self, rfl, hc, hd, hv, hx⟩, kn.xf, kn.xk, kn.xo, .own _, kn.is x m, q⟩
theorem isEf (kn : Knd K D names C code f) (hc : p.2.cls = .ref C) (hd : p.2.dict = some dd) (hv : ∃ vs, p.2.data = .fields vs) (hx : H dd = some (.xd fs)) (m : x ∈ names ∧ decide (x = code) = false) (q : Q (.bl false) H) : rIsE K [p] [.ref p.1, .ref (D x)] H Q := isE kn hc hd hv hx m.1 m.2 q
theorem isEt (kn : Knd K D names C code f) (hc : p.2.cls = .ref C) (hd : p.2.dict = some dd) (hv : ∃ vs, p.2.data = .fields vs) (hx : H dd = some (.xd fs)) (m : x ∈ names ∧ decide (x = code) = true) (q : Q (.bl true) H) : rIsE K [p] [.ref p.1, .ref (D x)] H Q := isE kn hc hd hv hx m.1 m.2 q
theorem isVE (kn : Knd K D names C code f) (hc : p.2.cls = .ref C) (hd : p.2.dict = some dd) (hv : ∃ vs, p.2.data = .fields vs) (hx : H dd = some (.xd fs)) (q : Q (.bl true) H) : rIsE K [p] [.ref p.1, .ty "ValueError"] H Q :=
  ⟨p.1, C, fs, _, _, _, rfl, ⟨p, dd, List.mem_cons_self, rfl, hc, hd, hv, hx⟩, kn.xf, kn.xk, kn.xo, .ty _, kn.ve, q⟩
theorem xeE {v : V} (kn : Knd K D names C code f) (hc : p.2.cls = .ref C) (hd : p.2.dict = some dd) (hv : ∃ vs, p.2.data = .fields vs) (hx : H dd = some (.xd fs)) (l : fs.lookup f = some v) (q : Q v H) :
    ∃ (a C : Addr) (fs : List (Str × V)) (v : V), V.ref p.1 = .ref a ∧ ExAt [p] H a C fs ∧ XfC K C ∧ PySem.W.findIn K (.ref C) f = some none ∧ fs.lookup f = some v ∧ Q v H :=
  ⟨p.1, C, fs, v, rfl, ⟨p, dd, List.mem_cons_self, rfl, hc, hd, hv, hx⟩, kn.xf, kn.nf, l, q⟩
end
theorem xe {K : PySem.W.Frag} {pn : List (Addr × Obj)} {f : Str} {te : TE} {σ : L2.St} {H : Hp} {Q : VK} (h : te σ H fun x H1 => ∃ (a C : Addr) (fs : List (Str × V)) (v : V), x = .ref a ∧ ExAt pn H1 a C fs ∧ XfC K C ∧ PySem.W.findIn K (.ref C) f = some none ∧ fs.lookup f = some v ∧ Q v H1) : tXe K pn f te σ H Q := h
/-- _law_refusal(e, e.code): a new tuple -/
def spRef (K : PySem.W.Frag) (D : Str → Addr) (names : List Str) (code f : Str) : Addr → Value → Option Addr → Sp := fun a cls d vs H Q _ => ∃ (C dd : Addr) (y : V), cls = .ref C ∧ d = some dd ∧ vs = [.ref a, .str code] ∧ Knd K D names C code f ∧ H dd = some (.xd [(f, y), ("code", .str code)]) ∧
  ∀ p H', H p = none → L2.Same H H' → H' p = some (.tup [.str "refused", .str code, y]) → Q (.ref p) H'
end Ho
namespace Rd
open PySem PySem.Spec PyProof.Rows L2
section
variable {K : PySem.W.Frag} {σ : L2.St} {H : Hp} {g : TG} {tt : TT} {te : TE} {vs : List Nat} {Q : VK} {a : Addr}
/-- a comprehension whose turns only make their item -/
theorem lcMap (xs : List V) (f : V → V) (ha : SqL K H a xs) (hz : xs.length ≤ 100000)
    (hs : ∀ (i : Nat) (x : V) (L : Addr) (G : Hp) (out : List V) (Nx : Hp → Prop), xs[i]? = some x → Same H G → G L = some (.lst out) → out.length < sizeLine → Nx (upd G L (.lst (out ++ [f x]))) → Turn1 g tt te vs σ L x G Nx)
    (hd : ∀ (L : Addr) (G : Hp), H L = none → Same H G → G L = some (.lst (xs.map f)) → Q (.ref L) G) : LcB (Itl K a) g tt te vs σ H Q := by
  refine lcL xs fun L hL => ⟨fun i h => i ≤ xs.length ∧ h = upd H L (.lst ((xs.take i).map f)), ⟨Nat.zero_le _, rfl⟩, ?_, ?_, ?_⟩
  · rintro i h _ ⟨_, rfl⟩
    exact (same_upd hL).seq ha
  · rintro i x h hx ⟨hi, rfl⟩
    have lt : i < xs.length := (List.getElem?_eq_some_iff.mp hx).1
    refine hs i x L _ _ _ hx (same_upd hL) upd_same ?_ ⟨lt, ?_⟩
    · rw [List.length_map, List.length_take]
      exact sz5' (by omega)
    · rw [upd_upd, List.take_add_one, hx, List.map_append]
      rfl
  · rintro h ⟨_, rfl⟩
    rw [List.take_length]
    exact hd L _ hL (same_upd hL) upd_same
theorem dp_bls : ∀ bs : List Bool, DpAll K H (bs.map V.bl) (bs.map PyData.bool)
  | [] => .nil
  | b :: bs => .cons (.bl b) (dp_bls bs)
/-- two lists of the same bools differ not -/
theorem neBl {p q : Addr} {xs ys : List V} (bs : List Bool) (h : H p = some (.lst xs)) (h' : H q = some (.lst ys)) (e : (xs = bs.map V.bl ∧ ys = bs.map V.bl) ∧ SeqAt.shaped (.list (bs.map PyData.bool)) = true ∧ PyData.eqv (.list (bs.map PyData.bool)) (.list (bs.map PyData.bool)) = true)
    (k : Q (.bl false) H) : rNeD K (.ref p) (.ref q) H Q := by
  obtain ⟨⟨rfl, rfl⟩, e1, e2⟩ := e
  refine ⟨_, _, .lst (.inl (.inl h)) (dp_bls bs), .lst (.inl (.inl h')) (dp_bls bs), e1, e1, ?_⟩
  rw [e2]
  exact k
theorem idx {p : Addr} {ys : List V} {y : V} (j : Nat) (h : H p = some (.lst ys)) (e : (flatV y && (ys.all flatV && ((ys[j]?.any fun z => eqV z y) && (ys.take j).all fun z => !eqV z y))) = true) (k : Q (.int (j : Nat)) H) : rIndex K (.ref p) [y] H Q := by
  obtain ⟨e1, e⟩ := Bool.and_eq_true_iff.mp e
  obtain ⟨e2, e⟩ := Bool.and_eq_true_iff.mp e
  obtain ⟨e3, e4⟩ := Bool.and_eq_true_iff.mp e
  cases hz : ys[j]? with
  | none =>
    rw [hz] at e3
    cases e3
  | some z =>
    rw [hz] at e3
    refine ⟨p, ys, y, j, z, rfl, rfl, .inl (.inl h), e1, e2, hz, e3, fun m z' hm hz' => ?_, k⟩
    have q := List.all_eq_true.mp e4 z' (List.mem_of_getElem? (i := m) (by rw [List.getElem?_take_of_lt hm]; exact hz'))
    simpa using q
theorem iteDt {p A B : Prop} [Decidable p] (h : p) (k : A) : if decide p = true then A else B := by
  rw [if_pos (decide_eq_true h)]
  exact k
theorem iteDf {p A B : Prop} [Decidable p] (h : ¬ p) (k : B) : if decide p = true then A else B := by
  rw [if_neg (by rw [decide_eq_false h]; exact Bool.false_ne_true)]
  exact k
end
end Rd
/-! ### data with dicts of at most one entry -/
namespace Rd
open PySem PySem.Spec PyProof.Rows L2
mutual
inductive Dv (K : PySem.W.Frag) (H : Hp) : V → PyData → Prop
  | non : Dv K H .non .none
  | bl (b : Bool) : Dv K H (.bl b) (.bool b)
  | int (i : Int) : Dv K H (.int i) (.int i)
  | str (x : Str) : Dv K H (.str x) (.str x)
  | lst {a : Addr} {xs : List V} {ds : List PyData} : SqL K H a xs → DvAll K H xs ds → Dv K H (.ref a) (.list ds)
  | tup {a : Addr} {xs : List V} {ds : List PyData} : SqT K H a xs → DvAll K H xs ds → Dv K H (.ref a) (.tuple ds)
  | dc0 {a : Addr} : H a = some (.dK []) → Dv K H (.ref a) (.dict [])
  | dc1 {a : Addr} {k : Str} {v : V} {d : PyData} : H a = some (.dK [(Sum.inr k, v)]) → Dv K H v d → Dv K H (.ref a) (.dict [(.str k, d)])
inductive DvAll (K : PySem.W.Frag) (H : Hp) : List V → List PyData → Prop
  | nil : DvAll K H [] []
  | cons {v : V} {vs : List V} {d : PyData} {ds : List PyData} : Dv K H v d → DvAll K H vs ds → DvAll K H (v :: vs) (d :: ds)
end
/-- data no deeper than n, with short lists -/
inductive Fd : Nat → PyData → Prop
  | non {n : Nat} : Fd n .none
  | bl {n : Nat} (b : Bool) : Fd n (.bool b)
  | int {n : Nat} (i : Int) : Fd n (.int i)
  | str {n : Nat} (s : Str) : Fd n (.str s)
  | lst {n : Nat} {ds : List PyData} : ds.length ≤ 100000 → (∀ d ∈ ds, Fd n d) → Fd (n + 1) (.list ds)
  | tup {n : Nat} {ds : List PyData} : ds.length ≤ 100000 → (∀ d ∈ ds, Fd n d) → Fd (n + 1) (.tuple ds)
  | dc0 {n : Nat} : Fd (n + 1) (.dict [])
  | dc1 {n : Nat} {k : Str} {d : PyData} : Fd n d → Fd (n + 1) (.dict [(.str k, d)])
theorem Fd.mono {n m : Nat} {d : PyData} (h : Fd n d) (k : n ≤ m) : Fd m d := by
  induction h generalizing m with
  | non => exact .non
  | bl b => exact .bl b
  | int i => exact .int i
  | str s => exact .str s
  | lst l _ ih =>
    cases m with
    | zero => omega
    | succ m => exact .lst l fun d hd => ih d hd (by omega)
  | tup l _ ih =>
    cases m with
    | zero => omega
    | succ m => exact .tup l fun d hd => ih d hd (by omega)
  | dc0 =>
    cases m with
    | zero => omega
    | succ m => exact .dc0
  | dc1 _ ih =>
    cases m with
    | zero => omega
    | succ m => exact .dc1 (ih (by omega))
section
variable {K : PySem.W.Frag} {H H' : Hp} {Q : VK}
theorem va_len : ∀ {vs : List V} {ds : List PyData}, DvAll K H vs ds → vs.length = ds.length
  | _, _, .nil => rfl
  | _, _, .cons _ r => by rw [List.length_cons, List.length_cons, va_len r]
theorem va_at : ∀ (vs : List V) (ds : List PyData) (i : Nat) (d : PyData), DvAll K H vs ds → ds[i]? = some d → ∃ v, vs[i]? = some v ∧ Dv K H v d
  | _, [], _, _, _, e => by simp at e
  | [], _ :: _, _, _, h, _ => by cases h
  | v :: _, _ :: _, 0, _, h, e => by
    cases h with
    | cons a _ =>
      cases e
      exact ⟨v, rfl, a⟩
  | _ :: vs, _ :: ds, i + 1, d, h, e => by
    cases h with
    | cons _ r =>
      obtain ⟨v, ev, dv⟩ := va_at vs ds i d r (by simpa using e)
      exact ⟨v, by simpa using ev, dv⟩
theorem va_append : ∀ (vs : List V) (ds : List PyData) {ws : List V} {es : List PyData}, DvAll K H vs ds → DvAll K H ws es → DvAll K H (vs ++ ws) (ds ++ es)
  | [], [], _, _, _, h => h
  | _ :: vs, _ :: ds, _, _, h, h' => by
    cases h with
    | cons a r => exact .cons a (va_append vs ds r h')
  | [], _ :: _, _, _, h, _ => by cases h
  | _ :: _, [], _, _, h, _ => by cases h
mutual
theorem dv_same (e : Same H H') : ∀ {v : V} {d : PyData}, Dv K H v d → Dv K H' v d
  | _, _, .non => .non
  | _, _, .bl b => .bl b
  | _, _, .int i => .int i
  | _, _, .str s => .str s
  | _, _, .lst h r => .lst (e.seq h) (va_same e r)
  | _, _, .tup h r => .tup (sqT_same e h) (va_same e r)
  | _, _, .dc0 h => .dc0 (e _ _ h)
  | _, _, .dc1 h r => .dc1 (e _ _ h) (dv_same e r)
theorem va_same (e : Same H H') : ∀ {v : List V} {d : List PyData}, DvAll K H v d → DvAll K H' v d
  | _, _, .nil => .nil
  | _, _, .cons h r => .cons (dv_same e h) (va_same e r)
end
def tnv : PyData → String
  | .none => "NoneType"
  | .bool _ => "bool"
  | .int _ => "int"
  | .str _ => "str"
  | .list _ => "list"
  | .tuple _ => "tuple"
  | .dict _ => "dict"
theorem dv_ty {x : V} {d : PyData} (h : Dv K H x d) : TyX K H x (.type (tnv d)) := by
  cases h with
  | non => exact .base .non
  | bl b => exact .base (.bl b)
  | int i => exact .base (.int i)
  | str s => exact .base (.str s)
  | lst h _ => exact tyL' h
  | tup h _ => exact tyT' h
  | dc0 h => exact .base (.dK h)
  | dc1 h _ => exact .base (.dK h)
theorem tyD' {a : Addr} {kvs : List (Key × V)} (h : H a = some (.dK kvs)) : TyX K H (.ref a) (.type "dict") := .base (.dK h)
/-- len of a list, a tuple, a dict -/
def rLenA (K : PySem.W.Frag) : List V → Hp → VK → Prop := fun xs H Q => ∃ (p : Addr) (n : Nat), xs = [.ref p] ∧ ((∃ ys, (SqL K H p ys ∨ SqT K H p ys) ∧ n = ys.length) ∨ ∃ kvs, H p = some (.dK kvs) ∧ n = kvs.length) ∧ Q (.int n) H
theorem q_lenA {X : Cx} : CallR X (.builtin "len") (rLenA X.K) := by
  intro pins s σ H xs us Q I r h
  obtain ⟨p, n, rfl, h | h, q⟩ := h
  · obtain ⟨ys, h, rfl⟩ := h
    exact q_len pins s σ H _ us Q I r ⟨p, ys, rfl, h, q⟩
  · obtain ⟨kvs, h, rfl⟩ := h
    exact call_lenD pins s σ H _ us Q I r ⟨p, kvs, rfl, h, q⟩
theorem lenAs {p : Addr} {ys : List V} (h : SqL K H p ys ∨ SqT K H p ys) (q : Q (.int ys.length) H) : rLenA K [.ref p] H Q := ⟨p, _, rfl, .inl ⟨ys, h, rfl⟩, q⟩
theorem lenAd {p : Addr} {kvs : List (Key × V)} (h : H p = some (.dK kvs)) (q : Q (.int kvs.length) H) : rLenA K [.ref p] H Q := ⟨p, _, rfl, .inr ⟨kvs, h, rfl⟩, q⟩
theorem din {td : TE} {σ : L2.St} {ty : TE} (h : ty σ H fun y H1 => td σ H1 fun x H2 => ∃ a o, x = .ref a ∧ DGet H2 a y o ∧ Q (.bl (!o.isSome)) H2) : tDNotIn ty td σ H Q := h
theorem dget {td ty : TE} {σ : L2.St} (h : td σ H fun x H1 => ty σ H1 fun y H2 => ∃ a v, x = .ref a ∧ DGet H2 a y (some v) ∧ Q v H2) : tDGet td ty σ H Q := h
def rListDk : List V → Hp → VK → Prop := fun xs H Q => ∃ (a : Addr) (kvs : List (Key × V)), xs = [.ref a] ∧ Rd H a (.dK kvs) ∧ ∀ p, H p = none → Q (.ref p) (upd H p (.lst (kvs.map fun kv => kV kv.1)))
theorem q_listDk {X : Cx} (hc : X.calm = true) : CallR X (.type "list") rListDk := call_listD hc
theorem listDk {a : Addr} {kvs : List (Key × V)} {zs : List V} (h : H a = some (.dK kvs)) (e : (kvs.map fun kv => kV kv.1) = zs) (q : ∀ p, H p = none → Q (.ref p) (upd H p (.lst zs))) : rListDk [.ref a] H Q := by
  subst e
  exact ⟨a, kvs, rfl, .inl h, q⟩
end
end Rd
namespace Rd
open PySem PySem.Spec PyProof.Rows L2
theorem q_lenAK {X : Cx} {K : PySem.W.Frag} (h : X.K = K) : CallR X (.builtin "len") (rLenA K) := h ▸ q_lenA
end Rd
namespace Rd
open PySem PySem.Spec PyProof.Rows L2
theorem bb_isinstance : bootBuiltins "isinstance" = some (.builtin "isinstance") := by decide +kernel
theorem bb_int : bootBuiltins "int" = some (.type "int") := by decide +kernel
theorem bb_bool : bootBuiltins "bool" = some (.type "bool") := by decide +kernel
theorem bb_str : bootBuiltins "str" = some (.type "str") := by decide +kernel
theorem bb_list : bootBuiltins "list" = some (.type "list") := by decide +kernel
theorem bb_tuple : bootBuiltins "tuple" = some (.type "tuple") := by decide +kernel
theorem bb_dict : bootBuiltins "dict" = some (.type "dict") := by decide +kernel
theorem bb_ValueError : bootBuiltins "ValueError" = some (.type "ValueError") := by decide +kernel
theorem bb_max : bootBuiltins "max" = some (.builtin "max") := by decide +kernel
theorem bb_min : bootBuiltins "min" = some (.builtin "min") := by decide +kernel
theorem bb_abs : bootBuiltins "abs" = some (.builtin "abs") := by decide +kernel
theorem bb_sorted : bootBuiltins "sorted" = some (.builtin "sorted") := by decide +kernel
theorem bb_all : bootBuiltins "all" = some (.builtin "all") := by decide +kernel
end Rd
namespace Rd
open PySem PySem.Spec PyProof.Rows L2
theorem q_sortedSK {X : Cx} {K : PySem.W.Frag} (h : X.K = K) : CallR X (.builtin "sorted") (rSortedS K) := h ▸ cr_sortedS
theorem sortS1 {K : PySem.W.Frag} {H : Hp} {Q : VK} {a : Addr} (z : List Str) (hz : z.length ≤ 1) (h : SqL K H a (z.map V.str)) (q : ∀ p, H p = none → Q (.ref p) (upd H p (.lst (z.map V.str)))) : rSortedS K [.ref a] H Q := by
  have lt : z.length < 64 := Nat.lt_of_le_of_lt hz (by decide)
  refine ⟨a, z, rfl, h, lt, fun ys p pm _ n => ?_⟩
  have e : ys = z := by
    rcases z with _ | ⟨x, _ | ⟨y, z⟩⟩
    · exact List.perm_nil.mp pm
    · exact List.perm_singleton.mp pm
    · exact absurd hz (by rw [List.length_cons, List.length_cons]; omega)
  subst e
  exact q p n
end Rd
namespace Rd
open PySem PySem.Spec PyProof.Rows L2
theorem dget_k {H : Hp} {a : Addr} {k : Str} {v : V} (h : H a = some (.dK [(Sum.inr k, v)])) : DGet H a (.str k) (some v) := by
  have e : valV [((Sum.inr k : Key), v)] (Sum.inr k) = some v := by simp [valV]
  exact .inl ⟨_, Sum.inr k, .inl h, rfl, e.symm⟩
theorem someF {v : V} {A B : Prop} (h : B) : if (!(some v).isSome) = true then A else B := h
theorem lcT {K : PySem.W.Frag} {g : TG} {tt : TT} {te : TE} {vs : List Nat} {σ : L2.St} {H : Hp} {Q : VK} {a : Addr} (xs : List V) (f : ∀ L, H L = none → ∃ Pv : Nat → Hp → Prop, Pv 0 (upd H L (.lst [])) ∧ (∀ i h, i ≤ xs.length → Pv i h → SqT K h a xs) ∧
    (∀ i x h, xs[i]? = some x → Pv i h → Turn1 g tt te vs σ L x h (Pv (i + 1))) ∧ ∀ h, Pv xs.length h → Q (.ref L) h) : LcB (Itt K a) g tt te vs σ H Q := fun L hL => by
  obtain ⟨Pv, h0, hl, hs, hd⟩ := f L hL
  exact lc_tup (Qd := Q (.ref L)) Pv h0 hl hs hd
/-! data without lists and dicts stays where lists are written -/
mutual
theorem dv_tk {K : PySem.W.Frag} {H H' : Hp} (e : Tk H H') : ∀ {v : V} {d : PyData}, Dv K H v d → Tp d → Dv K H' v d
  | _, _, .non, _ => .non
  | _, _, .bl b, _ => .bl b
  | _, _, .int i, _ => .int i
  | _, _, .str s, _ => .str s
  | _, _, .lst _ _, t => nomatch t
  | _, _, .tup h r, .tup t => .tup (sqT_tk e h) (va_tk e r t)
  | _, _, .dc0 _, t => nomatch t
  | _, _, .dc1 _ _, t => nomatch t
theorem va_tk {K : PySem.W.Frag} {H H' : Hp} (e : Tk H H') : ∀ {v : List V} {d : List PyData}, DvAll K H v d → (∀ x ∈ d, Tp x) → DvAll K H' v d
  | _, _, .nil, _ => .nil
  | _, _, .cons h r, t => .cons (dv_tk e h (t _ List.mem_cons_self)) (va_tk e r fun x hx => t x (List.mem_cons_of_mem _ hx))
end
theorem itup {K : PySem.W.Frag} {te : TE} {σ : L2.St} {H : Hp} {R : It → Hp → Prop} (h : te σ H fun x H1 => ∃ a, x = .ref a ∧ (∃ xs, SqT K H1 a xs) ∧ R (Itt K a) H1) : iTup K te σ H R := h
theorem extup {K : PySem.W.Frag} {H : Hp} {p : Addr} {ys : List V} {P' : Addr → Prop} (h : SqT K H p ys) (g : P' p) : ∃ a, V.ref p = V.ref a ∧ (∃ zs, SqT K H a zs) ∧ P' a := ⟨p, rfl, ⟨ys, h⟩, g⟩
end Rd
/-! ### texts -/
namespace Rd
open PySem PySem.Spec PyProof.Rows L2
/-- a text some times -/
def rRepZ : R2 := fun x y H Q => ∃ (z : Str) (n : Int), x = .str z ∧ y = .int n ∧ (z.length ≤ 1000 ∧ -1000 ≤ n ∧ n ≤ 1000) ∧ Q (.str (Txt.mul z n)) H
theorem mulOk {z : Str} {n : Int} (h : z.length ≤ 1000 ∧ -1000 ≤ n ∧ n ≤ 1000) : MulOk z n := by
  obtain ⟨h1, h2, h3⟩ := h
  refine ⟨?_, fun k _ => ?_, fun k _ => ?_⟩
  · rw [decide_eq_false (by omega), decide_eq_false (by omega)]
    rfl
  · have : (1000 : Int) ≤ (2 ^ 63 - 1) / n := Int.le_ediv_of_mul_le (by omega) (by omega)
    omega
  · have a : n.toNat ≤ 1000 := by omega
    have b : z.length * n.toNat ≤ 1000 * 1000 := Nat.mul_le_mul h1 a
    have c : (1000 * 1000 : Nat) ≤ sizeLine := by decide
    unfold Builtin.Str.tooLong
    exact decide_eq_false (by omega)
theorem op_rep_str {X : Cx} : OpR X (binaryOp .Mult) rRepZ := by
  intro pins s σ H x y v u Q I rx ry h
  obtain ⟨z, n, rfl, rfl, hz, q⟩ := h
  obtain ⟨t, rfl⟩ := rx
  obtain ⟨t', rfl⟩ := ry
  exact SB.mul (mulOk hz) fun t' k => ⟨.str _, H, I.tok _, ⟨_, rfl⟩, q⟩
def rLeZ : R2 := fun x y H Q => ∃ i j, x = .str i ∧ y = .str j ∧ Q (.bl (!decide (j.cps.toList < i.cps.toList))) H
def rGtZ : R2 := fun x y H Q => ∃ i j, x = .str i ∧ y = .str j ∧ Q (.bl (decide (j.cps.toList < i.cps.toList))) H
def rGeZ : R2 := fun x y H Q => ∃ i j, x = .str i ∧ y = .str j ∧ Q (.bl (!decide (i.cps.toList < j.cps.toList))) H
theorem o_leZ {X : Cx} : OpR X (compareOp .LtE) rLeZ := op_le_str
theorem o_gtZ {X : Cx} : OpR X (compareOp .Gt) rGtZ := op_gt_str
theorem o_geZ {X : Cx} : OpR X (compareOp .GtE) rGeZ := op_ge_str
section
variable {K : PySem.W.Frag} {σ σ' : L2.St} {H : Hp} {Q : VK} {a b' z : Str} {g : TG} {tb : TS} {tt : TT} {te : TE} {n b c : L2.St → Hp → Prop} {rr : VK} {vs : List Nat}
theorem repZ {n : Int} (h : z.length ≤ 1000 ∧ -1000 ≤ n ∧ n ≤ 1000) (q : Q (.str (Txt.mul z n)) H) : rRepZ (.str z) (.int n) H Q := ⟨z, n, rfl, rfl, h, q⟩
theorem leZ (h : Q (.bl (!decide (b'.cps.toList < a.cps.toList))) H) : rLeZ (.str a) (.str b') H Q := ⟨a, b', rfl, rfl, h⟩
theorem gtZ (h : Q (.bl (decide (b'.cps.toList < a.cps.toList))) H) : rGtZ (.str a) (.str b') H Q := ⟨a, b', rfl, rfl, h⟩
theorem geZ (h : Q (.bl (!decide (a.cps.toList < b'.cps.toList))) H) : rGeZ (.str a) (.str b') H Q := ⟨a, b', rfl, rfl, h⟩
theorem istr {R : It → Hp → Prop} (h : te σ H fun v H1 => ∃ x, v = .str x ∧ R (Its x) H1) : iStr te σ H R := h
theorem exstr {P : Str → Prop} (h : P z) : ∃ x, V.str z = V.str x ∧ P x := ⟨z, rfl, h⟩
theorem at_cl {i : Nat} {c : Nat} (h : z.cps[i]? = some c) : (cl z)[i]? = some c := by
  rw [Array.getElem?_toList]
  exact h
theorem forZ (Pv : Nat → L2.St → Hp → Prop) (h0 : Pv 0 σ H)
    (hs : ∀ i x σ H, (cl z)[i]? = some x → Pv i σ H → g (.str ⟨#[x]⟩) σ H fun σ2 H2 => tb ⟨Pv (i + 1), rr, n, Pv (i + 1)⟩ σ2 H2) (hd : ∀ σ H, Pv z.length σ H → n σ H) : ForB (Its z) g tb ⟨n, rr, b, c⟩ σ H := by
  refine L2.for_it (D := ⟨n, rr, b, c⟩) L2.walk_str Pv h0 (fun _ _ _ _ _ => trivial) (fun i x σ H H' hi p y => ?_) hd
  obtain ⟨rfl, c, hc, rfl⟩ := y
  exact hs i c σ H' (at_cl hc) p
theorem lcZ (f : ∀ L, H L = none → ∃ Pv : Nat → Hp → Prop, Pv 0 (upd H L (.lst [])) ∧ (∀ i x h, (cl z)[i]? = some x → Pv i h → Turn1 g tt te vs σ L (.str ⟨#[x]⟩) h (Pv (i + 1))) ∧ ∀ h, Pv z.length h → Q (.ref L) h) : LcB (Its z) g tt te vs σ H Q := fun L hL => by
  obtain ⟨Pv, h0, hs, hd⟩ := f L hL
  refine L2.lc_it (Qd := Q (.ref L)) L2.walk_str Pv h0 (fun _ _ _ _ => trivial) (fun i x h h' hi p y => ?_) hd
  obtain ⟨rfl, c, hc, rfl⟩ := y
  exact hs i c h' (at_cl hc) p
theorem allB {p : Addr} {bs : List Bool} (h : SqL K H p (bs.map V.bl)) (q : Q (.bl (bs.all id)) H) : rAll K [.ref p] H Q := ⟨p, bs, rfl, h, q⟩
end
theorem lt_one {a b : Nat} : ([a] < [b] : Prop) ↔ a < b := by
  simp [List.cons_lt_cons_iff]
theorem cutL (z : Str) (lo hi : Option Int) {n : Nat} (h : z.length ≤ n) : (cutS z lo hi).length ≤ n := Nat.le_trans (cutS_length z lo hi) h
theorem mulL {z : Str} {n : Int} {k m : Nat} (h : z.length ≤ k) (h2 : n ≤ m) : (Txt.mul z n).length ≤ k * m := by
  have e := len_mul z n
  have c : (((Txt.mul z n).length : Nat) : Int) ≤ (k : Int) * (m : Int) := by
    rw [e]
    split
    · rw [Int.mul_zero]
      exact Int.mul_nonneg (Int.natCast_nonneg _) (Int.natCast_nonneg _)
    · rename_i z0
      have z1 : ¬ n < 0 := fun y => z0 (decide_eq_true y)
      exact Int.mul_le_mul (by omega) h2 (by omega) (Int.natCast_nonneg _)
  rw [← Int.natCast_mul] at c
  exact Int.ofNat_le.mp c
/-! ### what is new -/
def nw (H H' : Hp) : Hp := fun b => match H b with
  | none => H' b
  | some _ => none
theorem nw_at {H H' : Hp} {b : Addr} {o : HO} (h : nw H H' b = some o) : H b = none ∧ H' b = some o := by
  unfold nw at h
  cases e : H b with
  | none =>
    rw [e] at h
    exact ⟨rfl, h⟩
  | some u =>
    rw [e] at h
    cases h
theorem nw_mk {H H' : Hp} {b : Addr} {o : HO} (n : H b = none) (h : H' b = some o) : nw H H' b = some o := by
  unfold nw
  rw [n]
  exact h
theorem nw_sub {H H' G : Hp} (k : ∀ b o, H b = none → H' b = some o → G b = some o) : Same (nw H H') G := fun b o e => k b o (nw_at e).1 (nw_at e).2
theorem nw_in {H H' : Hp} : Same (nw H H') H' := nw_sub fun _ _ _ e => e
theorem nw_mono {H H1 H2 H3 : Hp} (a : ∀ b, H1 b = none → H b = none) (c : ∀ b o, H1 b = none → H2 b = some o → H3 b = some o) : Same (nw H1 H2) (nw H H3) := nw_sub fun b o n e => nw_mk (a b n) (c b o n e)
theorem del_in {H : Hp} {a : Addr} : Same (del H a) H := fun b o e => by
  by_cases z : b = a
  · rw [z, del_same] at e
    cases e
  · rw [del_ne z] at e
    exact e
theorem del_at {H : Hp} {a b : Addr} {o : HO} (h : del H a b = some o) : b ≠ a ∧ H b = some o := by
  refine ⟨fun z => ?_, del_in b o h⟩
  rw [z, del_same] at h
  cases h
theorem del_mk {H : Hp} {a b : Addr} {o : HO} (n : b ≠ a) (h : H b = some o) : del H a b = some o := (del_ne n).trans h
theorem del_sub {H H' : Hp} {a : Addr} (k : ∀ b o, b ≠ a → H b = some o → H' b = some o) : Same (del H a) (del H' a) := fun b o e => del_mk (del_at e).1 (k b o (del_at e).1 (del_at e).2)
theorem del2_sub {H H' : Hp} {a c : Addr} (k : ∀ b o, b ≠ a → b ≠ c → H b = some o → H' b = some o) : Same (del (del H a) c) (del (del H' a) c) := fun b o e => by
  obtain ⟨n, e⟩ := del_at e
  obtain ⟨m, e⟩ := del_at e
  exact del_mk n (del_mk m (k b o m n e))
theorem nw_del2 {H H' G : Hp} {a c : Addr} (ha : H a ≠ none) (hc : H c ≠ none) (k : ∀ b o, H b = none → H' b = some o → G b = some o) : Same (nw H H') (del (del G a) c) := nw_sub fun b o n e =>
  del_mk (fun z => hc (z ▸ n)) (del_mk (fun z => ha (z ▸ n)) (k b o n e))
end Rd
namespace Rd
open PySem PySem.Spec PyProof.Rows L2
theorem cr_allK {X : Cx} {K : PySem.W.Frag} (h : X.K = K) (hc : X.calm = true) : CallR X (.builtin "all") (rAll K) := h ▸ cr_all hc
theorem ltA {c : Nat} : ((⟨#[c]⟩ : Str).cps.toList < ("a" : Str).cps.toList) ↔ c < 97 := by
  have e : ("a" : Str).cps.toList = [97] := by decide +kernel
  rw [e]
  exact lt_one
theorem gtZs {c : Nat} : (("z" : Str).cps.toList < (⟨#[c]⟩ : Str).cps.toList) ↔ 122 < c := by
  have e : ("z" : Str).cps.toList = [122] := by decide +kernel
  rw [e]
  exact lt_one
theorem lt0 {c : Nat} : ((⟨#[c]⟩ : Str).cps.toList < ("0" : Str).cps.toList) ↔ c < 48 := by
  have e : ("0" : Str).cps.toList = [48] := by decide +kernel
  rw [e]
  exact lt_one
theorem gt9 {c : Nat} : (("9" : Str).cps.toList < (⟨#[c]⟩ : Str).cps.toList) ↔ 57 < c := by
  have e : ("9" : Str).cps.toList = [57] := by decide +kernel
  rw [e]
  exact lt_one
/-- z is a name -/
def nmB (z : Str) : Bool := (decide (1 ≤ z.length) && decide (z.length ≤ 12)) && (((cl z)[0]?.any fun c => decide (Low c)) && (cl z).all fun c => decide (Aln c))
def nameD : PyData → Bool
  | .str z => nmB z
  | _ => false
theorem nmB_head {z : Str} {c : Nat} (h : (cl z)[0]? = some c) (n : ¬ Low c) : nmB z = false := by
  unfold nmB
  rw [h]
  show (_ && (decide (Low c) && _)) = false
  rw [decide_eq_false n, Bool.false_and, Bool.and_false]
theorem nmB_in {z : Str} {c : Nat} (h : c ∈ cl z) (n : ¬ Aln c) : nmB z = false := by
  unfold nmB
  have : ((cl z).all fun c => decide (Aln c)) = false := by
    rw [List.all_eq_false]
    exact ⟨c, h, by rw [decide_eq_false n]; exact Bool.false_ne_true⟩
  rw [this, Bool.and_false, Bool.and_false]
theorem nmB_big {z : Str} (h : z.length < 1 ∨ 12 < z.length) : nmB z = false := by
  unfold nmB
  rcases h with h | h
  · rw [decide_eq_false (show ¬ 1 ≤ z.length by omega), Bool.false_and, Bool.false_and]
  · rw [decide_eq_false (show ¬ z.length ≤ 12 by omega), Bool.and_false, Bool.false_and]
theorem nmB_all {z : Str} {c : Nat} (h1 : 1 ≤ z.length) (h2 : z.length ≤ 12) (h : (cl z)[0]? = some c) (l : Low c) : nmB z = (cl z).all fun c => decide (Aln c) := by
  unfold nmB
  rw [decide_eq_true h1, decide_eq_true h2, h]
  show (decide (Low c) && _) = _
  rw [decide_eq_true l, Bool.true_and]
theorem nm_head {z : Str} (h1 : 1 ≤ z.length) : ∃ c, (cl z)[0]? = some c := by
  have h : 0 < (cl z).length := by rw [cl_len]; omega
  exact ⟨_, List.getElem?_eq_getElem h⟩
end Rd
namespace Rd
open PySem PySem.Spec PyProof.Rows L2
theorem upL {z : Str} (h : ∀ c ∈ cl z, c < 128) : (Txt.upper z).length = z.length := by
  have e : z = SX.S (cl z) := cl_inj rfl
  have u := SX.upper_S (a := cl z) (by
    rw [List.all_eq_true]
    exact fun c hc => decide_eq_true (h c hc))
  rw [← e] at u
  rw [u]
  show ((cl z).map up1).toArray.size = _
  rw [List.size_toArray, List.length_map, cl_len]
theorem nm_128 {l : List Nat} (h : Nm l) : ∀ c ∈ l, c < 128 := fun c hc => by
  rcases h.all c hc with a | a
  · have := a.2
    omega
  · have := a.2
    omega
end Rd
namespace Rd
open PySem PySem.Spec PyProof.Rows L2
section
variable {H : Hp} {Q : VK} {c : Nat}
theorem dec_not {p q : Prop} [Decidable p] [Decidable q] (h : p ↔ ¬ q) : (!decide p) = decide q := by
  by_cases hp : p
  · rw [decide_eq_true hp, decide_eq_false (h.mp hp)]
    rfl
  · rw [decide_eq_false hp, decide_eq_true (Decidable.not_not.mp fun z => hp (h.mpr z))]
    rfl
theorem leA (h : Q (.bl (decide (97 ≤ c))) H) : rLeZ (.str "a") (.str ⟨#[c]⟩) H Q := by
  refine leZ ?_
  rw [dec_not (q := 97 ≤ c) (ltA.trans (by omega))]
  exact h
theorem leZz (h : Q (.bl (decide (c ≤ 122))) H) : rLeZ (.str ⟨#[c]⟩) (.str "z") H Q := by
  refine leZ ?_
  rw [dec_not (q := c ≤ 122) (gtZs.trans (by omega))]
  exact h
theorem le0 (h : Q (.bl (decide (48 ≤ c))) H) : rLeZ (.str "0") (.str ⟨#[c]⟩) H Q := by
  refine leZ ?_
  rw [dec_not (q := 48 ≤ c) (lt0.trans (by omega))]
  exact h
theorem le9 (h : Q (.bl (decide (c ≤ 57))) H) : rLeZ (.str ⟨#[c]⟩) (.str "9") H Q := by
  refine leZ ?_
  rw [dec_not (q := c ≤ 57) (gt9.trans (by omega))]
  exact h
end
end Rd
namespace Rd
open PySem PySem.Spec PyProof.Rows L2
theorem joinLen0 (y : Str) : ∀ parts : List Str, (Str.join y parts).length ≤ (parts.map (·.length)).sum + parts.length * y.length
  | [] => Nat.zero_le _
  | [p] => by
    show p.length ≤ (p.length + 0) + 1 * y.length
    omega
  | p :: q :: r => by
    have e : (Str.join y (p :: q :: r)).length = p.length + y.length + (Str.join y (q :: r)).length := by
      show (p ++ y ++ Str.join y (q :: r)).length = _
      rw [add_len, add_len]
    have ih := joinLen0 y (q :: r)
    rw [e, List.map_cons, List.sum_cons, List.length_cons, Nat.succ_mul]
    omega
theorem joinLen (y : Str) (parts : List Str) : (Txt.join y parts).length ≤ (parts.map (·.length)).sum + parts.length * y.length := by
  rw [TL.join_eq]
  exact joinLen0 y parts
theorem sum_le {xs : List Str} {k : Nat} (h : ∀ x ∈ xs, x.length ≤ k) : (xs.map (·.length)).sum ≤ xs.length * k := by
  induction xs with
  | nil => exact Nat.zero_le _
  | cons x xs ih =>
    have a := h x List.mem_cons_self
    have b := ih fun y hy => h y (List.mem_cons_of_mem _ hy)
    rw [List.map_cons, List.sum_cons, List.length_cons, Nat.succ_mul]
    omega
theorem split_one {z : Str} (h : 10 ∉ cl z) : Txt.split z "\n" = [z] := by
  have ey : TL.tl ("\n" : Str) = 10 :: [] := by decide +kernel
  have e := TL.split_join (parts := [z]) ey (by decide +kernel) (by intro c; cases c) (fun p hp => by rw [List.mem_singleton.mp hp]; exact h)
  rw [TL.join_eq] at e
  exact e
theorem nm_10 {l : List Nat} (h : Nm l) : 10 ∉ l := fun m => by
  rcases h.all 10 m with a | a
  · exact absurd a.1 (by decide)
  · exact absurd a.1 (by decide)
/-- a text is not too long -/
def Sz (d : PyData) : Prop := ∀ z, d = .str z → z.length ≤ 100000
theorem Sz.str {z : Str} (h : z.length ≤ 100000) : Sz (.str z) := fun _ e => by cases e; exact h
theorem raiseX {C : Addr} {x f : Str} {W : WX} {ta : TA} {D : Ends} {σ : L2.St} {H : Hp} (h : ta σ H fun vs H1 => ∃ y, vs = [y] ∧ ∀ d, H1 d = none → W (.ref C) (some d) σ (upd H1 d (.xd [(f, y), ("code", .str x)]))) : Ho.tRaise C x f W ta D σ H := h
theorem exone {y : V} {P' : V → Prop} (h : P' y) : ∃ z, [y] = [z] ∧ P' z := ⟨y, rfl, h⟩
theorem callS {sp : Sp} {E : L2.St → XK} {ts : TA} {σ : L2.St} {H : Hp} {Q : VK} (h : ts σ H fun vs H1 => sp vs H1 Q (E σ)) : tCallS sp E ts σ H Q := h
theorem callP {sp : Addr → Value → Option Addr → Sp} {a : Addr} {cls : Value} {d : Option Addr} {ts : TA} {σ : L2.St} {H : Hp} {Q : VK} (h : ts σ H fun vs H1 => sp a cls d vs H1 Q E0) : Ho.tCallP sp a cls d ts σ H Q := h
theorem xsX {K : PySem.W.Frag} {a : Addr} {cls : Value} {d : Option Addr} {f : Str} {te : TE} {σ : L2.St} {H : Hp} {Q : VK} (h : te σ H fun x H1 => x = .ref a ∧ ∃ (C dd : Addr) (fs : List (Str × V)) (v : V), cls = .ref C ∧ XfC K C ∧ PySem.W.findIn K (.ref C) f = some none ∧ d = some dd ∧ H1 dd = some (.xd fs) ∧ fs.lookup f = some v ∧ Q v H1) : Ho.tXs K a cls d f te σ H Q := h
theorem dnewX {σ : L2.St} {H : Hp} {Q : VK} (h : ∀ p, H p = none → Q (.ref p) (upd H p (.dK []))) : tDNewK σ H Q := h
theorem tyZ {K : PySem.W.Frag} {z : Str} {H : Hp} {B : Prop} (g : B) : tyV K "str" (.str z) H ∧ B := ⟨rfl, g⟩
def rNewZ (ys : List Str) : Hp → VK → Prop := fun H Q => ∀ p, H p = none → Q (.ref p) (upd H p (.lst (ys.map V.str)))
end Rd
/-! the order of texts; sorted lists of texts; dicts whose keys are texts -/
namespace Rd
open PySem PySem.Spec PyProof.Rows L2
theorem ltCps_iff : ∀ (a b : List Nat), ltCps a b = true ↔ a < b
  | [], [] => ⟨fun h => (nomatch h), fun h => absurd h (List.lt_irrefl _)⟩
  | [], _ :: _ => ⟨fun _ => List.nil_lt_cons _ _, fun _ => rfl⟩
  | _ :: _, [] => ⟨fun h => (nomatch h), fun h => absurd h (List.not_lt_nil _)⟩
  | a :: r, b :: t => by
    rw [List.cons_lt_cons_iff, ← ltCps_iff r t]
    show (decide (a < b) || (a == b && ltCps r t)) = true ↔ _
    simp
theorem ltCps_not {a b : List Nat} : ltCps a b = false ↔ ¬ a < b := by
  rw [← ltCps_iff]
  cases ltCps a b <;> simp
theorem not_lt_trans {a b c : List Nat} (h : ¬ b < a) (k : ¬ c < b) : ¬ c < a := List.le_trans (List.not_lt.mp h) (List.not_lt.mp k)
theorem rising_pw : ∀ (p : Str) (l : List Str), risingS p l = true → (p :: l).Pairwise (fun a b => ¬ cl b < cl a)
  | p, [], _ => List.pairwise_singleton _ _
  | p, x :: r, h => by
    have h : (!ltCps x.cps.toList p.cps.toList && risingS x r) = true := h
    obtain ⟨h1, h2⟩ := Bool.and_eq_true_iff.mp h
    have h1 : ltCps x.cps.toList p.cps.toList = false := by simpa using h1
    have ih := rising_pw x r h2
    refine List.pairwise_cons.mpr ⟨fun y hy => ?_, ih⟩
    rcases List.mem_cons.mp hy with rfl | hy
    · exact ltCps_not.mp h1
    · exact not_lt_trans (ltCps_not.mp h1) ((List.pairwise_cons.mp ih).1 y hy)
theorem sorted_pw : ∀ (l : List Str), sortedS l = true → l.Pairwise (fun a b => ¬ cl b < cl a)
  | [], _ => .nil
  | x :: r, h => rising_pw x r h
theorem le_antisymm' {a b : Str} (h : ¬ cl b < cl a) (k : ¬ cl a < cl b) : a = b := cl_inj (List.le_antisymm (List.not_lt.mp h) (List.not_lt.mp k))
/-- the sorted order is one -/
theorem sorted_one {ys zs : List Str} (p : ys.Perm zs) (h : sortedS ys = true) (k : sortedS zs = true) : ys = zs :=
  List.Perm.eq_of_pairwise (le := fun a b => ¬ cl b < cl a) (fun _ _ _ _ h k => le_antisymm' h k) (sorted_pw _ h) (sorted_pw _ k) p
theorem sorted_strict {ys : List Str} (h : sortedS ys = true) (n : ys.Nodup) : ys.Pairwise (fun a b => cl a < cl b) := by
  refine ((sorted_pw _ h).and n).imp fun {a b} hab => ?_
  rcases Decidable.em (cl a < cl b) with z | z
  · exact z
  · exact absurd (le_antisymm' hab.1 z) hab.2
section
variable {K : PySem.W.Frag} {H : Hp} {Q : VK} {a : Addr}
/-- sorted of texts whose order is known -/
theorem sortS {ks zs : List Str} (h : SqL K H a (ks.map V.str)) (hz : ks.length < 64) (p : ks.Perm zs) (s : sortedS zs = true) (q : ∀ p, H p = none → Q (.ref p) (upd H p (.lst (zs.map V.str)))) : rSortedS K [.ref a] H Q :=
  ⟨a, ks, rfl, h, hz, fun ys l pm sy n => by
    rw [sorted_one (pm.trans p) sy s]
    exact q l n⟩
end
/-! ### dicts: the keys ks, at each the value f -/
def kd (ks : List Str) (f : Str → V) : List (Key × V) := ks.map fun z => (Sum.inr z, f z)
theorem kd_len {ks : List Str} {f : Str → V} : (kd ks f).length = ks.length := List.length_map _
theorem kd_keys {ks : List Str} {f : Str → V} : ((kd ks f).map fun kv => kV kv.1) = ks.map V.str := by
  unfold kd
  rw [List.map_map]
  rfl
theorem kd_get : ∀ {ks : List Str} {f : Str → V} {z : Str}, z ∈ ks → valV (kd ks f) (Sum.inr z) = some (f z)
  | k :: ks, f, z, h => by
    unfold kd valV
    rw [List.map_cons, List.find?_cons]
    by_cases e : k = z
    · subst e
      rw [decide_eq_true rfl]
      rfl
    · rw [decide_eq_false (by intro z'; exact e (Sum.inr.inj z'))]
      exact kd_get (ks := ks) (f := f) ((List.mem_cons.mp h).resolve_left (fun w => e w.symm))
theorem kd_none : ∀ {ks : List Str} {f : Str → V} {z : Str}, z ∉ ks → valV (kd ks f) (Sum.inr z) = none
  | [], _, _, _ => rfl
  | k :: ks, f, z, h => by
    unfold kd valV
    rw [List.map_cons, List.find?_cons]
    rw [decide_eq_false (by intro z'; exact h (by rw [Sum.inr.inj z']; exact List.mem_cons_self))]
    exact kd_none (ks := ks) (f := f) (fun w => h (List.mem_cons_of_mem _ w))
theorem kd_any {ks : List Str} {f : Str → V} {z : Str} : ((kd ks f).any fun kv => decide (kv.1 = (Sum.inr z : Key))) = decide (z ∈ ks) := by
  rw [Bool.eq_iff_iff, List.any_eq_true, decide_eq_true_iff]
  unfold kd
  constructor
  · rintro ⟨x, hx, e⟩
    obtain ⟨y, hy, rfl⟩ := List.mem_map.mp hx
    rw [← Sum.inr.inj (of_decide_eq_true e)]
    exact hy
  · intro h
    exact ⟨_, List.mem_map.mpr ⟨z, h, rfl⟩, decide_eq_true rfl⟩
theorem kd_put {ks : List Str} {f : Str → V} {z : Str} {v : V} (h : z ∈ ks) : putK (kd ks f) (Sum.inr z) v = kd ks (fun y => if y = z then v else f y) := by
  unfold putK
  rw [kd_any, decide_eq_true h, if_pos rfl]
  unfold kd
  rw [List.map_map]
  refine List.map_congr_left fun y _ => ?_
  show (if (Sum.inr y : Key) = Sum.inr z then _ else _) = _
  by_cases e : y = z
  · subst e
    rw [if_pos rfl]
    show _ = ((Sum.inr y : Key), if y = y then v else f y)
    rw [if_pos rfl]
  · rw [if_neg (fun w => e (Sum.inr.inj w))]
    show _ = ((Sum.inr y : Key), if y = z then v else f y)
    rw [if_neg e]
theorem kd_congr {ks : List Str} {f g : Str → V} (h : ∀ z ∈ ks, f z = g z) : kd ks f = kd ks g := List.map_congr_left fun y hy => by rw [h y hy]
theorem kd_new {ks : List Str} {f : Str → V} {z : Str} {v : V} (h : z ∉ ks) : putK (kd ks f) (Sum.inr z) v = kd (ks ++ [z]) (fun y => if y = z then v else f y) := by
  unfold putK
  rw [kd_any, decide_eq_false h, if_neg Bool.false_ne_true]
  unfold kd
  rw [List.map_append]
  congr 1
  · refine List.map_congr_left fun y hy => ?_
    show _ = ((Sum.inr y : Key), if y = z then v else f y)
    rw [if_neg (fun e => h (by rw [← e]; exact hy))]
  · show _ = [((Sum.inr z : Key), if z = z then v else f z)]
    rw [if_pos rfl]
/-- pairs of texts and values, as a dict -/
def kp (ps : List (Str × V)) : List (Key × V) := ps.map fun p => (Sum.inr p.1, p.2)
theorem kp_kd {ks : List Str} {f : Str → V} : kp (ks.map fun z => (z, f z)) = kd ks f := by
  unfold kp kd
  rw [List.map_map]
  rfl
theorem merge_kd : ∀ {ls ks : List Str} {f : Str → V}, ls.Nodup → (∀ z ∈ ls, z ∉ ks) → mergeK (kd ks f) (kd ls f) = kd (ks ++ ls) f
  | [], ks, f, _, _ => by
    rw [List.append_nil]
    rfl
  | z :: ls, ks, f, n, d => by
    obtain ⟨n1, n2⟩ := List.nodup_cons.mp n
    show mergeK (putK (kd ks f) (Sum.inr z) (f z)) (kd ls f) = _
    rw [kd_new (d z List.mem_cons_self), kd_congr (g := f) (fun y _ => by
      split
      · rename_i e
        rw [e]
      · rfl)]
    rw [merge_kd n2 (fun y hy hz => ?_), List.append_assoc]
    · rfl
    · rcases List.mem_append.mp hz with h | h
      · exact d y (List.mem_cons_of_mem _ hy) h
      · rw [List.mem_singleton.mp h] at hy
        exact n1 hy
section
variable {K : PySem.W.Frag} {H : Hp} {Q : VK} {a b : Addr} {ks ls : List Str} {f g : Str → V} {z : Str} {v : V}
theorem dgetK (h : H a = some (.dK (kd ks f))) (m : z ∈ ks) (q : Q (f z) H) : ∃ a' v, V.ref a = .ref a' ∧ DGet H a' (.str z) (some v) ∧ Q v H := ⟨a, _, rfl, .inl ⟨_, Sum.inr z, .inl h, rfl, (kd_get m).symm⟩, q⟩
theorem dputK {P : Hp → Prop} (h : H a = some (.dK (kd ks f))) (m : z ∈ ks) (hz : ks.length ≤ 100000) (q : P (upd H a (.dK (kd ks fun y => if y = z then v else f y)))) : rSetD (.ref a) (.str z) v H P :=
  ⟨a, _, rfl, .inl ⟨_, Sum.inr z, h, rfl, by rw [kd_len]; exact sz5' hz, by rw [kd_put m]⟩, q⟩
theorem dnewK {P : Hp → Prop} (h : H a = some (.dK (kd ks f))) (m : z ∉ ks) (hz : ks.length ≤ 100000) (q : P (upd H a (.dK (kd (ks ++ [z]) fun y => if y = z then v else f y)))) : rSetD (.ref a) (.str z) v H P :=
  ⟨a, _, rfl, .inl ⟨_, Sum.inr z, h, rfl, by rw [kd_len]; exact sz5' hz, by rw [kd_new m]⟩, q⟩
def rDictD : List V → Hp → VK → Prop := fun xs H Q => ∃ (a : Addr) (kvs : List (Key × V)), xs = [.ref a] ∧ L2.Rd H a (.dK kvs) ∧ ∀ p, H p = none → Q (.ref p) (upd H p (.dK kvs))
theorem q_dictD {X : Cx} : CallR X (.type "dict") rDictD := call_dictD
theorem dictD {kvs : List (Key × V)} (h : H a = some (.dK kvs)) (q : ∀ p, H p = none → Q (.ref p) (upd H p (.dK kvs))) : rDictD [.ref a] H Q := ⟨a, kvs, rfl, .inl h, q⟩
theorem listDkd (h : H a = some (.dK (kd ks f))) (q : ∀ p, H p = none → Q (.ref p) (upd H p (.lst (ks.map V.str)))) : rListDk [.ref a] H Q := listDk h kd_keys q
end
theorem cr_anyK {X : Cx} {K : PySem.W.Frag} (h : X.K = K) (hc : X.calm = true) : CallR X (.builtin "any") (rAny K) := h ▸ cr_any hc
theorem q_maxLK {X : Cx} {K : PySem.W.Frag} (h : X.K = K) (hc : X.calm = true) : CallR X (.builtin "max") (rMax K) := h ▸ cr_max hc
theorem bb_any : bootBuiltins "any" = some (.builtin "any") := by decide +kernel
theorem un1 {k : Nat} {A : Around} (r : Room k A) : A.units + 1 < cLine := by
  have := r.units
  omega
/-! ### d.update(d2) -/
def rUpdD : V → List V → Hp → VK → Prop := fun x vs H Q => ∃ (a b : Addr) (kvs ks : List (Key × V)), x = .ref a ∧ vs = [.ref b] ∧ a ≠ b ∧ H a = some (.dK kvs) ∧ H b = some (.dK ks) ∧ kvs.length + ks.length ≤ 100000 ∧ Q .non (upd H a (.dK (mergeK kvs ks)))
theorem mt_dict_update {X : Cx} : MtR X "dict.update" rUpdD := by
  intro pins s σ H x vs v us Q I rx rv h
  obtain ⟨a, b, kvs, ks, rfl, rfl, ne, ha, hb, hl, q⟩ := h
  obtain rfl : v = Value.ref a := rx
  obtain ⟨u, rfl, ru⟩ := vals1 rv
  obtain rfl : u = Value.ref b := ru
  obtain ⟨z, hd, ws, rel, dd⟩ := dk_of I.hok ha
  obtain ⟨z2, hd2, ws2, rel2, dd2⟩ := dk_of I.hok hb
  have hz : ws.length + ws2.length ≤ sizeLine := by
    rw [← rel.length, ← rel2.length]
    exact sz5 hl
  refine call_meetsIn PySem.F.slot_dict_update dd.typeIs PySem.F.entry_dict_update (PySem.F.args_dict_update_2 _ _) (meets_dict_update _ a b ne hd2) ⟨ws, ws2, dd, dd2, hz, fun h' dd' _ hs => ?_⟩
  have he : ∃ q, h'.get? a = some q := let ⟨q, _, _, hq, _⟩ := dd'; ⟨q, hq⟩
  exact ⟨.non, _, d_write (t' := s.toks) I (by rw [ha]; exact True.intro) hs he (dk_new (Nat.le_trans (length_mergeK ks kvs) (sz5 hl)) hd (KV.merge rel2 rel) dd'), rfl, q⟩
section
variable {K : PySem.W.Frag} {H : Hp} {Q : VK} {a b : Addr} {ks ls : List Str} {f : Str → V}
theorem updD (ha : H a = some (.dK (kd ks f))) (hb : H b = some (.dK (kd ls f))) (ne : a ≠ b) (n : ls.Nodup) (d : ∀ z ∈ ls, z ∉ ks) (l : ks.length + ls.length ≤ 100000) (q : Q .non (upd H a (.dK (kd (ks ++ ls) f)))) : rUpdD (.ref a) [.ref b] H Q :=
  ⟨a, b, _, _, rfl, rfl, ne, ha, hb, by rw [kd_len, kd_len]; exact l, by rw [merge_kd n d]; exact q⟩
theorem lockE {t : TE} {σ : L2.St} {d : Addr} {kvs : List (Key × V)} (h : H d = some (.dK kvs)) (g : ∀ od, t σ (upd H d (.frz od (.dK kvs))) fun v H' => H' d = some (.frz od (.dK kvs)) ∧ Q v (upd H' d (.dK kvs))) : tLockE t σ H Q := ⟨d, _, h, True.intro, g⟩
end
/-- a comprehension over the values of a locked dict -/
theorem lcV {g : TG} {tt : TT} {te : TE} {vs : List Nat} {σ : L2.St} {H : Hp} {Q : VK} {d : Addr} {o : Obj} (kvs : List (Key × V)) (f : ∀ L, H L = none → ∃ Pv : Nat → Hp → Prop, Pv 0 (upd H L (.lst [])) ∧ (∀ i h, i ≤ kvs.length → Pv i h → h d = some (.frz o (.dK kvs))) ∧
    (∀ i k x h, kvs[i]? = some (k, x) → Pv i h → Turn1 g tt te vs σ L x h (Pv (i + 1))) ∧ ∀ h, Pv kvs.length h → Q (.ref L) h) : LcB (Itd d o kvs) g tt te vs σ H Q := fun L hL => by
  obtain ⟨Pv, h0, hl, hs, hd⟩ := f L hL
  refine ⟨fun i m h => m = kvs.length - i ∧ i ≤ kvs.length ∧ Pv i h, ⟨kvs.length, by simp, Nat.zero_le _, h0⟩, ?_⟩
  rintro i m h ⟨rfl, hi, p⟩
  have q := hl i h hi p
  by_cases hlt : i < kvs.length
  · refine .inr ⟨⟨q, hlt⟩, Pv (i + 1), fun H' p' => ⟨kvs.length - (i + 1), by omega, rfl, hlt, p'⟩, fun x H' y => ?_⟩
    obtain ⟨e, k, y⟩ := y
    subst e
    exact hs i k x _ y p
  · have : i = kvs.length := by omega
    subst this
    exact .inl ⟨⟨q, Nat.le_refl _⟩, hd h p⟩
theorem valsX {td : TE} {σ : L2.St} {H : Hp} {R : It → Hp → Prop} (h : td σ H fun x H1 => ∃ d o kvs, x = .ref d ∧ H1 d = some (.frz o (.dK kvs)) ∧ R (Itd d o kvs) H1) : iVals td σ H R := h
end Rd
/-! a text in a list of any data -/
namespace PySem.SeqAt
open AutoSeq1 (wpAny_loadPart')
open MeetsSeq
theorem dict_eq_declines_str (l : Addr) (es : Array DictEntry) (n : Nat) (dd : Option Addr) (sl : Array (Option Value)) (b : Str) (u : Tok) :
    Meets (Builtin.«dict.__eq__» ⟨[.ref l, .str b u], []⟩) (fun _ R s => s.heap.get? l = some { cls := .type "dict", dict := dd, data := .dict es n, slots := sl } ∧ R (.ok (.ret .notImplemented)) s) :=
  .of_wp fun prog w A R s h => by obtain ⟨hp, g, d, tk, os⟩ := s; obtain ⟨hl, h⟩ := h; have f1 := F.sub_str_dict; wp_walk using wpAny_loadPart' hl; exact ⟨_, rfl, h⟩
theorem str_eq_declines_dict (b : Str) (u : Tok) (l : Addr) (c : Value) (es : Array DictEntry) (n : Nat) (dd : Option Addr) (sl : Array (Option Value)) :
    Meets (Builtin.«str.__eq__» ⟨[.str b u, .ref l], []⟩) (fun _ R s => s.heap.get? l = some { cls := c, dict := dd, data := .dict es n, slots := sl } ∧ R (.ok (.ret .notImplemented)) s) :=
  .of_wp fun prog w A R s h => by obtain ⟨hp, g, d, tk, os⟩ := s; obtain ⟨hl, h⟩ := h; wp_walk using wpAny_loadPart' hl, wpAny_load hl; exact ⟨_, rfl, h⟩
section
variable {A : Around} {s : Shared}
theorem RcAt.dict_str {l : Addr} {ob : Obj} {es : Array DictEntry} {n : Nat} (b : Str) (u : Tok) (hl : s.heap.get? l = some ob) (hc : ob.cls = .type "dict") (hd : ob.data = .dict es n) (hu : A.units < cLine) : RcAt A s (.ref l) (.str b u) false := fun prog w E Q h => by
  obtain ⟨cls, dd, data, sl⟩ := ob
  simp only at hc hd
  subst hc hd
  exact rc_eq_decline_or (k := false) ⟨_, hl, rfl⟩ (typeIs_str s b u) (by decide) F.sub_str_dict F.slot_dict_eq F.slot_str_eq_refl
    (fun _ hq => call_meets F.slot_dict_eq ⟨_, hl, rfl⟩ F.entry_dict_eq (F.args_dict_eq_2 _ _) (dict_eq_declines_str l es n dd sl b u) ⟨hl, hq⟩)
    (fun _ hq => call_meets F.slot_str_eq_refl (typeIs_str s b u) F.entry_str_eq (F.args_str_eq_2 _ _) (str_eq_declines_dict b u l (.type "dict") es n dd sl) ⟨hl, hq⟩)
    (fun _ hq => wpAny_of_eq (rfl : isSame (.ref l) (.str b u) = pure false) hq) (.inr hu) h
theorem EqAt.dict_str {l : Addr} {ob : Obj} {es : Array DictEntry} {n : Nat} (b : Str) (u : Tok) (hl : s.heap.get? l = some ob) (hc : ob.cls = .type "dict") (hd : ob.data = .dict es n) (hu : A.units < cLine) : EqAt A s (.ref l) (.str b u) false := fun prog w E Q h => by
  unfold eqBool
  refine wpAny_holding ?_
  refine wpAny_ite_split (fun hab => absurd (eq_of_beq hab) nofun) (fun _ => ?_)
  exact wpAny_bind (RcAt.dict_str b u hl hc hd hu prog w E _ (wpAny_truthy_bool h))
end
end PySem.SeqAt
namespace Rd
open PySem PySem.Spec PyProof.Rows L2
section
variable {X : Cx} {pins : List (Addr × Obj)} {σ : L2.St} {H : Hp} {s : Shared}
/-- == of any data and a text -/
theorem dv_eqAt {A : Around} {z : Str} {t : Tok} (hu : A.units < cLine) (I : Inv X pins σ H s) {x : V} {d : PyData} {u : Value} (h : Dv X.K H x d) (r : RelV x u) : SeqAt.EqAt A s u (.str z t) (eqU (.str z) u) := by
  cases h with
  | non =>
    cases r
    exact SeqAt.EqAt.none_str z t
  | bl b =>
    cases r
    exact SeqAt.EqAt.bool_str b z t
  | int i =>
    obtain ⟨t', rfl⟩ := r
    exact SeqAt.EqAt.int_str i t' z t
  | str y =>
    obtain ⟨t', rfl⟩ := r
    exact SeqAt.EqAt.str_str y t' z t
  | lst h _ =>
    cases r
    obtain ⟨its, _, pl, _⟩ := I.list h
    exact SeqAt.EqAt.list_str z t pl.isList hu
  | tup h _ =>
    cases r
    obtain ⟨its, _, pl, _⟩ := I.tuple h
    exact SeqAt.EqAt.tuple_str z t pl hu
  | dc0 h =>
    cases r
    obtain ⟨_, _, ws, _, o, es, ep, ho, hc, hd, _⟩ := dk_of I.hok h
    exact SeqAt.EqAt.dict_str z t ho hc.1 hd hu
  | dc1 h _ =>
    cases r
    obtain ⟨_, _, ws, _, o, es, ep, ho, hc, hd, _⟩ := dk_of I.hok h
    exact SeqAt.EqAt.dict_str z t ho hc.1 hd hu
theorem eqU_str {z : Str} {x : V} {d : PyData} {u : Value} {K : PySem.W.Frag} (h : Dv K H x d) (r : RelV x u) : eqU (.str z) u = eqV x (.str z) := by
  cases h with
  | non => cases r; rfl
  | bl b => cases r; rfl
  | int i =>
    obtain ⟨t', rfl⟩ := r
    rfl
  | str y =>
    obtain ⟨t', rfl⟩ := r
    rfl
  | _ => cases r; rfl
theorem any_eqS {z : Str} {K : PySem.W.Frag} : ∀ {xs : List V} {us : List Value}, Vals xs us → (∀ v ∈ xs, ∃ d, Dv K H v d) → us.any (eqU (.str z)) = inV (.str z) xs
  | _, _, .nil, _ => rfl
  | y :: xs, u :: us, .cons r t, f => by
    obtain ⟨d, dv⟩ := f y List.mem_cons_self
    unfold inV
    rw [List.any_cons, List.any_cons, eqU_str dv r, any_eqS t fun v hv => f v (List.mem_cons_of_mem _ hv)]
    rfl
theorem mem_eqS {A : Around} {z : Str} {t' : Tok} (hu : A.units < cLine) (I : Inv X pins σ H s) : ∀ {xs : List V} {us : List Value}, Vals xs us → (∀ v ∈ xs, ∃ d, Dv X.K H v d) → ∀ u ∈ us, SeqAt.EqAt A s u (.str z t') (eqU (.str z) u)
  | _, _, .nil, _ => fun u hu => by cases hu
  | y :: xs, u :: us, .cons r t, f => fun u' hm => by
    rcases List.mem_cons.mp hm with rfl | hm
    · obtain ⟨d, dv⟩ := f y List.mem_cons_self
      exact dv_eqAt hu I dv r
    · exact mem_eqS hu I t (fun v hv => f v (List.mem_cons_of_mem _ hv)) u' hm
end
/-- a text in a list of any data -/
def rInZX (K : PySem.W.Frag) (neg : Bool) : R2 := fun x y H Q => ∃ (z : Str) (p : Addr) (xs : List V), x = .str z ∧ y = .ref p ∧ SqL K H p xs ∧ (∀ v ∈ xs, ∃ d, Dv K H v d) ∧ Q (.bl (if neg then !inV (.str z) xs else inV (.str z) xs)) H
section
variable {X : Cx} {K : PySem.W.Frag}
theorem op_inZX {k : Nat} (hr : Room k X.A) (hK : X.K = K) : OpR X (compareOp .In) (rInZX K false) := by
  subst hK
  intro pins s σ H x y v u Q I rx ry h
  obtain ⟨z, p, xs, rfl, rfl, hq, f, q⟩ := h
  cases ry
  obtain ⟨t, rfl⟩ := rx
  obtain ⟨its, r, pl, hz⟩ := I.list hq
  have hu := hr.units
  refine SeqAt.in_listAt (eqU (.str z)) pl.isList (fun w hw => mem_eqS (by show X.A.units + 1 < cLine; omega) I r f w (by simpa using hw)) ⟨.bl _, H, I, rfl, ?_⟩
  rw [show its.toArray.any (eqU (.str z)) = its.any (eqU (.str z)) by simp, any_eqS r f]
  exact q
theorem op_niZX {k : Nat} (hr : Room k X.A) (hK : X.K = K) : OpR X (compareOp .NotIn) (rInZX K true) := by
  subst hK
  intro pins s σ H x y v u Q I rx ry h
  obtain ⟨z, p, xs, rfl, rfl, hq, f, q⟩ := h
  cases ry
  obtain ⟨t, rfl⟩ := rx
  obtain ⟨its, r, pl, hz⟩ := I.list hq
  have hu := hr.units
  refine SeqAt.notIn_listAt (eqU (.str z)) pl.isList (fun w hw => mem_eqS (by show X.A.units + 1 < cLine; omega) I r f w (by simpa using hw)) ⟨.bl _, H, I, rfl, ?_⟩
  rw [show its.toArray.any (eqU (.str z)) = its.any (eqU (.str z)) by simp, any_eqS r f]
  exact q
end
end Rd
/-! drawn names: what is needed of their signs -/
namespace Rd
open PySem PySem.Spec PyProof.Rows L2
theorem mul_one_cl (c : Nat) (n : Int) : cl (Txt.mul ⟨#[c]⟩ n) = List.replicate n.toNat c := by
  unfold Txt.mul
  by_cases h : n < 1
  · rw [if_pos h, show n.toNat = 0 by omega]
    rfl
  · rw [if_neg h]
    by_cases h1 : n = 1
    · subst h1
      rfl
    · rw [if_neg (by simp [h1]; show ¬ (1 : Nat) = 0; decide)]
      have e : ∀ (k : Nat) (a : Array Nat), ((List.replicate k (#[c] : Array Nat)).foldl (· ++ ·) a).toList = a.toList ++ List.replicate k c := by
        intro k
        induction k with
        | zero => intro a; simp
        | succ k ih =>
          intro a
          rw [List.replicate_succ, List.foldl_cons, ih, Array.toList_append, List.append_assoc, List.replicate_succ]
          rfl
      exact (e n.toNat #[]).trans (by simp)
theorem mul_one_len (c : Nat) (n : Int) : (Txt.mul ⟨#[c]⟩ n).length = n.toNat := by
  rw [← cl_len, mul_one_cl, List.length_replicate]
/-- a name of at most 12 signs -/
def NmS (z : Str) : Prop := Nm (cl z) ∧ z.length ≤ 12
theorem Nm.app {l r : List Nat} (h : Nm l) (k : ∀ x ∈ r, Aln x) : Nm (l ++ r) := by
  obtain ⟨c, s, rfl, hc, hs⟩ := h
  refine ⟨c, s ++ r, rfl, hc, fun x hx => ?_⟩
  rcases List.mem_append.mp hx with hx | hx
  · exact hs x hx
  · exact k x hx
theorem Nm.one {c : Nat} (h : Low c) : Nm (cl ⟨#[c]⟩) := ⟨c, [], rfl, h, fun _ h => nomatch h⟩
theorem nodup_rel {α : Type} {R : Nat → α → Prop} : ∀ {zs : List α} {n : Nat}, zs.length ≤ n → (∀ i z, zs[i]? = some z → R i z) → (∀ i j z, i < n → j < n → R i z → R j z → i = j) → zs.Nodup := by
  intro zs n hl hr inj
  refine List.pairwise_iff_getElem.mpr fun i j hi hj hij e => ?_
  have e1 := List.getElem?_eq_getElem hi
  have e2 := List.getElem?_eq_getElem hj
  rw [← e] at e2
  have := inj i j _ (by omega) (by omega) (hr i _ e1) (hr j _ e2)
  omega
theorem a26_len : ("abcdefghijklmnopqrstuvwxyz" : Str).length = 26 := by decide +kernel
theorem a36_len : ("0123456789abcdefghijklmnopqrstuvwxyz" : Str).length = 36 := by decide +kernel
theorem a26_nd : (cl ("abcdefghijklmnopqrstuvwxyz" : Str)).Nodup := by decide +kernel
theorem a36_nd : (cl ("0123456789abcdefghijklmnopqrstuvwxyz" : Str)).Nodup := by decide +kernel
theorem a36_cat : ("0123456789" : Str) ++ ("abcdefghijklmnopqrstuvwxyz" : Str) = "0123456789abcdefghijklmnopqrstuvwxyz" := by decide +kernel
theorem at_one {l : List Nat} (n : l.Nodup) {i j x : Nat} (h : l[i]? = some x) (k : l[j]? = some x) : i = j := by
  obtain ⟨hi, ei⟩ := List.getElem?_eq_some_iff.mp h
  obtain ⟨hj, ej⟩ := List.getElem?_eq_some_iff.mp k
  exact (List.getElem_inj n).mp (ei.trans ej.symm)
/-- steps that share no factor with 1296 -/
theorem step_one {s t i j : Int} (h : t = 1 ∨ t = 5 ∨ t = 7 ∨ t = 37 ∨ t = 1295) (i0 : 0 ≤ i) (i1 : i < 1296) (j0 : 0 ≤ j) (j1 : j < 1296) (e : (s + i * t) % 1296 = (s + j * t) % 1296) : i = j := by
  rcases h with rfl | rfl | rfl | rfl | rfl <;> omega
end Rd
namespace Kj
open PySem PySem.Spec PyProof.Rows L2 Rd
def topS (i : Nat) : Stmt := PySem.Challenge.pw_keptjoined_k02_check_houses.main.body.getD i (.Pass ⟨0, 0, 0, 0⟩)
/-! ### heaps by their names -/
theorem hpS {H G : Hp} {a : Addr} {o : HO} (s : Same H G) (h : H a = some o) : G a = some o := s _ _ h
theorem newOne {H G : Hp} {l : Addr} {o : HO} (n : H l = none) (e : upd H l o = G) : Same H G ∧ G l = some o := by
  subst e
  exact ⟨same_upd n, upd_same⟩
theorem nd_word : (("word" : Str) == ("__debug__" : Str)) = false := by decide +kernel
theorem nc_word : (("word" : Str) == ("__classdict__" : Str)) = false := by decide +kernel
theorem nn_word : ("word" : Str) ≠ "__name__" := by decide +kernel
theorem nd_c : (("c" : Str) == ("__debug__" : Str)) = false := by decide +kernel
theorem nc_c : (("c" : Str) == ("__classdict__" : Str)) = false := by decide +kernel
theorem nn_c : ("c" : Str) ≠ "__name__" := by decide +kernel
theorem nd_isinstance : (("isinstance" : Str) == ("__debug__" : Str)) = false := by decide +kernel
theorem nc_isinstance : (("isinstance" : Str) == ("__classdict__" : Str)) = false := by decide +kernel
theorem nn_isinstance : ("isinstance" : Str) ≠ "__name__" := by decide +kernel
theorem nd_str : (("str" : Str) == ("__debug__" : Str)) = false := by decide +kernel
theorem nc_str : (("str" : Str) == ("__classdict__" : Str)) = false := by decide +kernel
theorem nn_str : ("str" : Str) ≠ "__name__" := by decide +kernel
theorem nd_len : (("len" : Str) == ("__debug__" : Str)) = false := by decide +kernel
theorem nc_len : (("len" : Str) == ("__classdict__" : Str)) = false := by decide +kernel
theorem nn_len : ("len" : Str) ≠ "__name__" := by decide +kernel
theorem nd_all : (("all" : Str) == ("__debug__" : Str)) = false := by decide +kernel
theorem nc_all : (("all" : Str) == ("__classdict__" : Str)) = false := by decide +kernel
theorem nn_all : ("all" : Str) ≠ "__name__" := by decide +kernel
theorem nd_is_name : (("is_name" : Str) == ("__debug__" : Str)) = false := by decide +kernel
theorem nc_is_name : (("is_name" : Str) == ("__classdict__" : Str)) = false := by decide +kernel
theorem nn_is_name : ("is_name" : Str) ≠ "__name__" := by decide +kernel
theorem nd_check_name : (("check_name" : Str) == ("__debug__" : Str)) = false := by decide +kernel
theorem nc_check_name : (("check_name" : Str) == ("__classdict__" : Str)) = false := by decide +kernel
theorem nn_check_name : ("check_name" : Str) ≠ "__name__" := by decide +kernel
theorem nd_houses : (("houses" : Str) == ("__debug__" : Str)) = false := by decide +kernel
theorem nc_houses : (("houses" : Str) == ("__classdict__" : Str)) = false := by decide +kernel
theorem nn_houses : ("houses" : Str) ≠ "__name__" := by decide +kernel
theorem nd_made : (("made" : Str) == ("__debug__" : Str)) = false := by decide +kernel
theorem nc_made : (("made" : Str) == ("__classdict__" : Str)) = false := by decide +kernel
theorem nn_made : ("made" : Str) ≠ "__name__" := by decide +kernel
theorem nd_house : (("house" : Str) == ("__debug__" : Str)) = false := by decide +kernel
theorem nc_house : (("house" : Str) == ("__classdict__" : Str)) = false := by decide +kernel
theorem nn_house : ("house" : Str) ≠ "__name__" := by decide +kernel
theorem nd_sorted : (("sorted" : Str) == ("__debug__" : Str)) = false := by decide +kernel
theorem nc_sorted : (("sorted" : Str) == ("__classdict__" : Str)) = false := by decide +kernel
theorem nn_sorted : ("sorted" : Str) ≠ "__name__" := by decide +kernel
theorem nd_list : (("list" : Str) == ("__debug__" : Str)) = false := by decide +kernel
theorem nc_list : (("list" : Str) == ("__classdict__" : Str)) = false := by decide +kernel
theorem nn_list : ("list" : Str) ≠ "__name__" := by decide +kernel
theorem nd_check_houses : (("check_houses" : Str) == ("__debug__" : Str)) = false := by decide +kernel
theorem nc_check_houses : (("check_houses" : Str) == ("__classdict__" : Str)) = false := by decide +kernel
theorem nn_check_houses : ("check_houses" : Str) ≠ "__name__" := by decide +kernel
theorem nd_script : (("script" : Str) == ("__debug__" : Str)) = false := by decide +kernel
theorem nc_script : (("script" : Str) == ("__classdict__" : Str)) = false := by decide +kernel
theorem nn_script : ("script" : Str) ≠ "__name__" := by decide +kernel
theorem nd_cells : (("cells" : Str) == ("__debug__" : Str)) = false := by decide +kernel
theorem nc_cells : (("cells" : Str) == ("__classdict__" : Str)) = false := by decide +kernel
theorem nn_cells : ("cells" : Str) ≠ "__name__" := by decide +kernel
theorem nd_state : (("state" : Str) == ("__debug__" : Str)) = false := by decide +kernel
theorem nc_state : (("state" : Str) == ("__classdict__" : Str)) = false := by decide +kernel
theorem nn_state : ("state" : Str) ≠ "__name__" := by decide +kernel
theorem nd_cell : (("cell" : Str) == ("__debug__" : Str)) = false := by decide +kernel
theorem nc_cell : (("cell" : Str) == ("__classdict__" : Str)) = false := by decide +kernel
theorem nn_cell : ("cell" : Str) ≠ "__name__" := by decide +kernel
theorem nd_int : (("int" : Str) == ("__debug__" : Str)) = false := by decide +kernel
theorem nc_int : (("int" : Str) == ("__classdict__" : Str)) = false := by decide +kernel
theorem nn_int : ("int" : Str) ≠ "__name__" := by decide +kernel
theorem nd__law_store : (("_law_store" : Str) == ("__debug__" : Str)) = false := by decide +kernel
theorem nc__law_store : (("_law_store" : Str) == ("__classdict__" : Str)) = false := by decide +kernel
theorem nn__law_store : ("_law_store" : Str) ≠ "__name__" := by decide +kernel
theorem nd_store : (("store" : Str) == ("__debug__" : Str)) = false := by decide +kernel
theorem nc_store : (("store" : Str) == ("__classdict__" : Str)) = false := by decide +kernel
theorem nn_store : ("store" : Str) ≠ "__name__" := by decide +kernel
theorem nd_many : (("many" : Str) == ("__debug__" : Str)) = false := by decide +kernel
theorem nc_many : (("many" : Str) == ("__classdict__" : Str)) = false := by decide +kernel
theorem nn_many : ("many" : Str) ≠ "__name__" := by decide +kernel
theorem nd_digits : (("digits" : Str) == ("__debug__" : Str)) = false := by decide +kernel
theorem nc_digits : (("digits" : Str) == ("__classdict__" : Str)) = false := by decide +kernel
theorem nn_digits : ("digits" : Str) ≠ "__name__" := by decide +kernel
theorem nd_tick : (("tick" : Str) == ("__debug__" : Str)) = false := by decide +kernel
theorem nc_tick : (("tick" : Str) == ("__classdict__" : Str)) = false := by decide +kernel
theorem nn_tick : ("tick" : Str) ≠ "__name__" := by decide +kernel
theorem nd_place : (("place" : Str) == ("__debug__" : Str)) = false := by decide +kernel
theorem nc_place : (("place" : Str) == ("__classdict__" : Str)) = false := by decide +kernel
theorem nn_place : ("place" : Str) ≠ "__name__" := by decide +kernel
theorem nd_mixed : (("mixed" : Str) == ("__debug__" : Str)) = false := by decide +kernel
theorem nc_mixed : (("mixed" : Str) == ("__classdict__" : Str)) = false := by decide +kernel
theorem nn_mixed : ("mixed" : Str) ≠ "__name__" := by decide +kernel
theorem nd__law_take : (("_law_take" : Str) == ("__debug__" : Str)) = false := by decide +kernel
theorem nc__law_take : (("_law_take" : Str) == ("__classdict__" : Str)) = false := by decide +kernel
theorem nn__law_take : ("_law_take" : Str) ≠ "__name__" := by decide +kernel
theorem nd_least : (("least" : Str) == ("__debug__" : Str)) = false := by decide +kernel
theorem nc_least : (("least" : Str) == ("__classdict__" : Str)) = false := by decide +kernel
theorem nn_least : ("least" : Str) ≠ "__name__" := by decide +kernel
theorem nd_most : (("most" : Str) == ("__debug__" : Str)) = false := by decide +kernel
theorem nc_most : (("most" : Str) == ("__classdict__" : Str)) = false := by decide +kernel
theorem nn_most : ("most" : Str) ≠ "__name__" := by decide +kernel
theorem nd_edge : (("edge" : Str) == ("__debug__" : Str)) = false := by decide +kernel
theorem nc_edge : (("edge" : Str) == ("__classdict__" : Str)) = false := by decide +kernel
theorem nn_edge : ("edge" : Str) ≠ "__name__" := by decide +kernel
theorem nd__law_between : (("_law_between" : Str) == ("__debug__" : Str)) = false := by decide +kernel
theorem nc__law_between : (("_law_between" : Str) == ("__classdict__" : Str)) = false := by decide +kernel
theorem nn__law_between : ("_law_between" : Str) ≠ "__name__" := by decide +kernel
theorem nd_items : (("items" : Str) == ("__debug__" : Str)) = false := by decide +kernel
theorem nc_items : (("items" : Str) == ("__classdict__" : Str)) = false := by decide +kernel
theorem nn_items : ("items" : Str) ≠ "__name__" := by decide +kernel
theorem nd__law_pick : (("_law_pick" : Str) == ("__debug__" : Str)) = false := by decide +kernel
theorem nc__law_pick : (("_law_pick" : Str) == ("__classdict__" : Str)) = false := by decide +kernel
theorem nn__law_pick : ("_law_pick" : Str) ≠ "__name__" := by decide +kernel
theorem nd_row : (("row" : Str) == ("__debug__" : Str)) = false := by decide +kernel
theorem nc_row : (("row" : Str) == ("__classdict__" : Str)) = false := by decide +kernel
theorem nn_row : ("row" : Str) ≠ "__name__" := by decide +kernel
theorem nd_style : (("style" : Str) == ("__debug__" : Str)) = false := by decide +kernel
theorem nc_style : (("style" : Str) == ("__classdict__" : Str)) = false := by decide +kernel
theorem nn_style : ("style" : Str) ≠ "__name__" := by decide +kernel
theorem nd_k : (("k" : Str) == ("__debug__" : Str)) = false := by decide +kernel
theorem nc_k : (("k" : Str) == ("__classdict__" : Str)) = false := by decide +kernel
theorem nn_k : ("k" : Str) ≠ "__name__" := by decide +kernel
theorem nd_at : (("at" : Str) == ("__debug__" : Str)) = false := by decide +kernel
theorem nc_at : (("at" : Str) == ("__classdict__" : Str)) = false := by decide +kernel
theorem nn_at : ("at" : Str) ≠ "__name__" := by decide +kernel
theorem nd_kept : (("kept" : Str) == ("__debug__" : Str)) = false := by decide +kernel
theorem nc_kept : (("kept" : Str) == ("__classdict__" : Str)) = false := by decide +kernel
theorem nn_kept : ("kept" : Str) ≠ "__name__" := by decide +kernel
theorem nd_reversed : (("reversed" : Str) == ("__debug__" : Str)) = false := by decide +kernel
theorem nc_reversed : (("reversed" : Str) == ("__classdict__" : Str)) = false := by decide +kernel
theorem nn_reversed : ("reversed" : Str) ≠ "__name__" := by decide +kernel
theorem nd_range : (("range" : Str) == ("__debug__" : Str)) = false := by decide +kernel
theorem nc_range : (("range" : Str) == ("__classdict__" : Str)) = false := by decide +kernel
theorem nn_range : ("range" : Str) ≠ "__name__" := by decide +kernel
theorem nd__law_shuffled : (("_law_shuffled" : Str) == ("__debug__" : Str)) = false := by decide +kernel
theorem nc__law_shuffled : (("_law_shuffled" : Str) == ("__classdict__" : Str)) = false := by decide +kernel
theorem nn__law_shuffled : ("_law_shuffled" : Str) ≠ "__name__" := by decide +kernel
theorem nd_tuple : (("tuple" : Str) == ("__debug__" : Str)) = false := by decide +kernel
theorem nc_tuple : (("tuple" : Str) == ("__classdict__" : Str)) = false := by decide +kernel
theorem nn_tuple : ("tuple" : Str) ≠ "__name__" := by decide +kernel
theorem nd__law_listed : (("_law_listed" : Str) == ("__debug__" : Str)) = false := by decide +kernel
theorem nc__law_listed : (("_law_listed" : Str) == ("__classdict__" : Str)) = false := by decide +kernel
theorem nn__law_listed : ("_law_listed" : Str) ≠ "__name__" := by decide +kernel
theorem nd_value : (("value" : Str) == ("__debug__" : Str)) = false := by decide +kernel
theorem nc_value : (("value" : Str) == ("__classdict__" : Str)) = false := by decide +kernel
theorem nn_value : ("value" : Str) ≠ "__name__" := by decide +kernel
theorem nd_bool : (("bool" : Str) == ("__debug__" : Str)) = false := by decide +kernel
theorem nc_bool : (("bool" : Str) == ("__classdict__" : Str)) = false := by decide +kernel
theorem nn_bool : ("bool" : Str) ≠ "__name__" := by decide +kernel
theorem nd__law_is_integer : (("_law_is_integer" : Str) == ("__debug__" : Str)) = false := by decide +kernel
theorem nc__law_is_integer : (("_law_is_integer" : Str) == ("__classdict__" : Str)) = false := by decide +kernel
theorem nn__law_is_integer : ("_law_is_integer" : Str) ≠ "__name__" := by decide +kernel
theorem nd_one : (("one" : Str) == ("__debug__" : Str)) = false := by decide +kernel
theorem nc_one : (("one" : Str) == ("__classdict__" : Str)) = false := by decide +kernel
theorem nn_one : ("one" : Str) ≠ "__name__" := by decide +kernel
theorem nd_two : (("two" : Str) == ("__debug__" : Str)) = false := by decide +kernel
theorem nc_two : (("two" : Str) == ("__classdict__" : Str)) = false := by decide +kernel
theorem nn_two : ("two" : Str) ≠ "__name__" := by decide +kernel
theorem nd_key : (("key" : Str) == ("__debug__" : Str)) = false := by decide +kernel
theorem nc_key : (("key" : Str) == ("__classdict__" : Str)) = false := by decide +kernel
theorem nn_key : ("key" : Str) ≠ "__name__" := by decide +kernel
theorem nd_lists : (("lists" : Str) == ("__debug__" : Str)) = false := by decide +kernel
theorem nc_lists : (("lists" : Str) == ("__classdict__" : Str)) = false := by decide +kernel
theorem nn_lists : ("lists" : Str) ≠ "__name__" := by decide +kernel
theorem nd_dict : (("dict" : Str) == ("__debug__" : Str)) = false := by decide +kernel
theorem nc_dict : (("dict" : Str) == ("__classdict__" : Str)) = false := by decide +kernel
theorem nn_dict : ("dict" : Str) ≠ "__name__" := by decide +kernel
theorem nd__law_same : (("_law_same" : Str) == ("__debug__" : Str)) = false := by decide +kernel
theorem nc__law_same : (("_law_same" : Str) == ("__classdict__" : Str)) = false := by decide +kernel
theorem nn__law_same : ("_law_same" : Str) ≠ "__name__" := by decide +kernel
theorem nd_item : (("item" : Str) == ("__debug__" : Str)) = false := by decide +kernel
theorem nc_item : (("item" : Str) == ("__classdict__" : Str)) = false := by decide +kernel
theorem nn_item : ("item" : Str) ≠ "__name__" := by decide +kernel
theorem nd__law_frozen : (("_law_frozen" : Str) == ("__debug__" : Str)) = false := by decide +kernel
theorem nc__law_frozen : (("_law_frozen" : Str) == ("__classdict__" : Str)) = false := by decide +kernel
theorem nn__law_frozen : ("_law_frozen" : Str) ≠ "__name__" := by decide +kernel
theorem nd_sign : (("sign" : Str) == ("__debug__" : Str)) = false := by decide +kernel
theorem nc_sign : (("sign" : Str) == ("__classdict__" : Str)) = false := by decide +kernel
theorem nn_sign : ("sign" : Str) ≠ "__name__" := by decide +kernel
theorem nd__law_is_name : (("_law_is_name" : Str) == ("__debug__" : Str)) = false := by decide +kernel
theorem nc__law_is_name : (("_law_is_name" : Str) == ("__classdict__" : Str)) = false := by decide +kernel
theorem nn__law_is_name : ("_law_is_name" : Str) ≠ "__name__" := by decide +kernel
theorem nd_size : (("size" : Str) == ("__debug__" : Str)) = false := by decide +kernel
theorem nc_size : (("size" : Str) == ("__classdict__" : Str)) = false := by decide +kernel
theorem nn_size : ("size" : Str) ≠ "__name__" := by decide +kernel
theorem nd_alike : (("alike" : Str) == ("__debug__" : Str)) = false := by decide +kernel
theorem nc_alike : (("alike" : Str) == ("__classdict__" : Str)) = false := by decide +kernel
theorem nn_alike : ("alike" : Str) ≠ "__name__" := by decide +kernel
theorem nd__law_name : (("_law_name" : Str) == ("__debug__" : Str)) = false := by decide +kernel
theorem nc__law_name : (("_law_name" : Str) == ("__classdict__" : Str)) = false := by decide +kernel
theorem nn__law_name : ("_law_name" : Str) ≠ "__name__" := by decide +kernel
theorem nd_letters : (("letters" : Str) == ("__debug__" : Str)) = false := by decide +kernel
theorem nc_letters : (("letters" : Str) == ("__classdict__" : Str)) = false := by decide +kernel
theorem nn_letters : ("letters" : Str) ≠ "__name__" := by decide +kernel
theorem nd_signs : (("signs" : Str) == ("__debug__" : Str)) = false := by decide +kernel
theorem nc_signs : (("signs" : Str) == ("__classdict__" : Str)) = false := by decide +kernel
theorem nn_signs : ("signs" : Str) ≠ "__name__" := by decide +kernel
theorem nd_first : (("first" : Str) == ("__debug__" : Str)) = false := by decide +kernel
theorem nc_first : (("first" : Str) == ("__classdict__" : Str)) = false := by decide +kernel
theorem nn_first : ("first" : Str) ≠ "__name__" := by decide +kernel
theorem nd_names : (("names" : Str) == ("__debug__" : Str)) = false := by decide +kernel
theorem nc_names : (("names" : Str) == ("__classdict__" : Str)) = false := by decide +kernel
theorem nn_names : ("names" : Str) ≠ "__name__" := by decide +kernel
theorem nd_start : (("start" : Str) == ("__debug__" : Str)) = false := by decide +kernel
theorem nc_start : (("start" : Str) == ("__classdict__" : Str)) = false := by decide +kernel
theorem nn_start : ("start" : Str) ≠ "__name__" := by decide +kernel
theorem nd_ahead : (("ahead" : Str) == ("__debug__" : Str)) = false := by decide +kernel
theorem nc_ahead : (("ahead" : Str) == ("__classdict__" : Str)) = false := by decide +kernel
theorem nn_ahead : ("ahead" : Str) ≠ "__name__" := by decide +kernel
theorem nd_tail : (("tail" : Str) == ("__debug__" : Str)) = false := by decide +kernel
theorem nc_tail : (("tail" : Str) == ("__classdict__" : Str)) = false := by decide +kernel
theorem nn_tail : ("tail" : Str) ≠ "__name__" := by decide +kernel
theorem nd_step : (("step" : Str) == ("__debug__" : Str)) = false := by decide +kernel
theorem nc_step : (("step" : Str) == ("__classdict__" : Str)) = false := by decide +kernel
theorem nn_step : ("step" : Str) ≠ "__name__" := by decide +kernel
theorem nd_code : (("code" : Str) == ("__debug__" : Str)) = false := by decide +kernel
theorem nc_code : (("code" : Str) == ("__classdict__" : Str)) = false := by decide +kernel
theorem nn_code : ("code" : Str) ≠ "__name__" := by decide +kernel
theorem nd__law_names : (("_law_names" : Str) == ("__debug__" : Str)) = false := by decide +kernel
theorem nc__law_names : (("_law_names" : Str) == ("__classdict__" : Str)) = false := by decide +kernel
theorem nn__law_names : ("_law_names" : Str) ≠ "__name__" := by decide +kernel
theorem nd_taken : (("taken" : Str) == ("__debug__" : Str)) = false := by decide +kernel
theorem nc_taken : (("taken" : Str) == ("__classdict__" : Str)) = false := by decide +kernel
theorem nn_taken : ("taken" : Str) ≠ "__name__" := by decide +kernel
theorem nd_near : (("near" : Str) == ("__debug__" : Str)) = false := by decide +kernel
theorem nc_near : (("near" : Str) == ("__classdict__" : Str)) = false := by decide +kernel
theorem nn_near : ("near" : Str) ≠ "__name__" := by decide +kernel
theorem nd__law_new_name : (("_law_new_name" : Str) == ("__debug__" : Str)) = false := by decide +kernel
theorem nc__law_new_name : (("_law_new_name" : Str) == ("__classdict__" : Str)) = false := by decide +kernel
theorem nn__law_new_name : ("_law_new_name" : Str) ≠ "__name__" := by decide +kernel
theorem nd_odd : (("odd" : Str) == ("__debug__" : Str)) = false := by decide +kernel
theorem nc_odd : (("odd" : Str) == ("__classdict__" : Str)) = false := by decide +kernel
theorem nn_odd : ("odd" : Str) ≠ "__name__" := by decide +kernel
theorem nd__law_bad_word : (("_law_bad_word" : Str) == ("__debug__" : Str)) = false := by decide +kernel
theorem nc__law_bad_word : (("_law_bad_word" : Str) == ("__classdict__" : Str)) = false := by decide +kernel
theorem nn__law_bad_word : ("_law_bad_word" : Str) ≠ "__name__" := by decide +kernel
theorem nd__law_not_name : (("_law_not_name" : Str) == ("__debug__" : Str)) = false := by decide +kernel
theorem nc__law_not_name : (("_law_not_name" : Str) == ("__classdict__" : Str)) = false := by decide +kernel
theorem nn__law_not_name : ("_law_not_name" : Str) ≠ "__name__" := by decide +kernel
theorem nd__law_houses : (("_law_houses" : Str) == ("__debug__" : Str)) = false := by decide +kernel
theorem nc__law_houses : (("_law_houses" : Str) == ("__classdict__" : Str)) = false := by decide +kernel
theorem nn__law_houses : ("_law_houses" : Str) ≠ "__name__" := by decide +kernel
theorem nd__law_bent_houses : (("_law_bent_houses" : Str) == ("__debug__" : Str)) = false := by decide +kernel
theorem nc__law_bent_houses : (("_law_bent_houses" : Str) == ("__classdict__" : Str)) = false := by decide +kernel
theorem nn__law_bent_houses : ("_law_bent_houses" : Str) ≠ "__name__" := by decide +kernel
theorem nd_seen : (("seen" : Str) == ("__debug__" : Str)) = false := by decide +kernel
theorem nc_seen : (("seen" : Str) == ("__classdict__" : Str)) = false := by decide +kernel
theorem nn_seen : ("seen" : Str) ≠ "__name__" := by decide +kernel
theorem nd__law_due_houses : (("_law_due_houses" : Str) == ("__debug__" : Str)) = false := by decide +kernel
theorem nc__law_due_houses : (("_law_due_houses" : Str) == ("__classdict__" : Str)) = false := by decide +kernel
theorem nn__law_due_houses : ("_law_due_houses" : Str) ≠ "__name__" := by decide +kernel
theorem nd_error : (("error" : Str) == ("__debug__" : Str)) = false := by decide +kernel
theorem nc_error : (("error" : Str) == ("__classdict__" : Str)) = false := by decide +kernel
theorem nn_error : ("error" : Str) ≠ "__name__" := by decide +kernel
theorem nd_kinds : (("kinds" : Str) == ("__debug__" : Str)) = false := by decide +kernel
theorem nc_kinds : (("kinds" : Str) == ("__classdict__" : Str)) = false := by decide +kernel
theorem nn_kinds : ("kinds" : Str) ≠ "__name__" := by decide +kernel
theorem nd_name : (("name" : Str) == ("__debug__" : Str)) = false := by decide +kernel
theorem nc_name : (("name" : Str) == ("__classdict__" : Str)) = false := by decide +kernel
theorem nn_name : ("name" : Str) ≠ "__name__" := by decide +kernel
theorem nd_ValueError : (("ValueError" : Str) == ("__debug__" : Str)) = false := by decide +kernel
theorem nc_ValueError : (("ValueError" : Str) == ("__classdict__" : Str)) = false := by decide +kernel
theorem nn_ValueError : ("ValueError" : Str) ≠ "__name__" := by decide +kernel
theorem nd__law_refusal : (("_law_refusal" : Str) == ("__debug__" : Str)) = false := by decide +kernel
theorem nc__law_refusal : (("_law_refusal" : Str) == ("__classdict__" : Str)) = false := by decide +kernel
theorem nn__law_refusal : ("_law_refusal" : Str) ≠ "__name__" := by decide +kernel
theorem nd_more : (("more" : Str) == ("__debug__" : Str)) = false := by decide +kernel
theorem nc_more : (("more" : Str) == ("__classdict__" : Str)) = false := by decide +kernel
theorem nn_more : ("more" : Str) ≠ "__name__" := by decide +kernel
theorem nd__law_full_list : (("_law_full_list" : Str) == ("__debug__" : Str)) = false := by decide +kernel
theorem nc__law_full_list : (("_law_full_list" : Str) == ("__classdict__" : Str)) = false := by decide +kernel
theorem nn__law_full_list : ("_law_full_list" : Str) ≠ "__name__" := by decide +kernel
theorem nd_given : (("given" : Str) == ("__debug__" : Str)) = false := by decide +kernel
theorem nc_given : (("given" : Str) == ("__classdict__" : Str)) = false := by decide +kernel
theorem nn_given : ("given" : Str) ≠ "__name__" := by decide +kernel
theorem nd_told : (("told" : Str) == ("__debug__" : Str)) = false := by decide +kernel
theorem nc_told : (("told" : Str) == ("__classdict__" : Str)) = false := by decide +kernel
theorem nn_told : ("told" : Str) ≠ "__name__" := by decide +kernel
theorem nd_e : (("e" : Str) == ("__debug__" : Str)) = false := by decide +kernel
theorem nc_e : (("e" : Str) == ("__classdict__" : Str)) = false := by decide +kernel
theorem nn_e : ("e" : Str) ≠ "__name__" := by decide +kernel
theorem nd__law_checked : (("_law_checked" : Str) == ("__debug__" : Str)) = false := by decide +kernel
theorem nc__law_checked : (("_law_checked" : Str) == ("__classdict__" : Str)) = false := by decide +kernel
theorem nn__law_checked : ("_law_checked" : Str) ≠ "__name__" := by decide +kernel
theorem nd__law_listed_right : (("_law_listed_right" : Str) == ("__debug__" : Str)) = false := by decide +kernel
theorem nc__law_listed_right : (("_law_listed_right" : Str) == ("__classdict__" : Str)) = false := by decide +kernel
theorem nn__law_listed_right : ("_law_listed_right" : Str) ≠ "__name__" := by decide +kernel
theorem nd_due : (("due" : Str) == ("__debug__" : Str)) = false := by decide +kernel
theorem nc_due : (("due" : Str) == ("__classdict__" : Str)) = false := by decide +kernel
theorem nn_due : ("due" : Str) ≠ "__name__" := by decide +kernel
theorem nd_answer : (("answer" : Str) == ("__debug__" : Str)) = false := by decide +kernel
theorem nc_answer : (("answer" : Str) == ("__classdict__" : Str)) = false := by decide +kernel
theorem nn_answer : ("answer" : Str) ≠ "__name__" := by decide +kernel
theorem nd__law_list_right : (("_law_list_right" : Str) == ("__debug__" : Str)) = false := by decide +kernel
theorem nc__law_list_right : (("_law_list_right" : Str) == ("__classdict__" : Str)) = false := by decide +kernel
theorem nn__law_list_right : ("_law_list_right" : Str) ≠ "__name__" := by decide +kernel
theorem nd__law_first : (("_law_first" : Str) == ("__debug__" : Str)) = false := by decide +kernel
theorem nc__law_first : (("_law_first" : Str) == ("__classdict__" : Str)) = false := by decide +kernel
theorem nn__law_first : ("_law_first" : Str) ≠ "__name__" := by decide +kernel
theorem nd_other : (("other" : Str) == ("__debug__" : Str)) = false := by decide +kernel
theorem nc_other : (("other" : Str) == ("__classdict__" : Str)) = false := by decide +kernel
theorem nn_other : ("other" : Str) ≠ "__name__" := by decide +kernel
theorem nd_law : (("law" : Str) == ("__debug__" : Str)) = false := by decide +kernel
theorem nc_law : (("law" : Str) == ("__classdict__" : Str)) = false := by decide +kernel
theorem nn_law : ("law" : Str) ≠ "__name__" := by decide +kernel
abbrev s_is_name : Stmt := topS 26
abbrev N_is_name : List Str := ["word", "c"]
abbrev P_is_name : List Str := ["word"]
theorem sc_is_name : FnScope N_is_name P_is_name (defScope s_is_name) := ⟨rfl, rfl, rfl, by decide +kernel, rfl, by decide +kernel, by decide +kernel⟩
abbrev s_check_name : Stmt := topS 27
abbrev N_check_name : List Str := ["word"]
abbrev P_check_name : List Str := ["word"]
theorem sc_check_name : FnScope N_check_name P_check_name (defScope s_check_name) := ⟨rfl, rfl, rfl, by decide +kernel, rfl, by decide +kernel, by decide +kernel⟩
abbrev s_check_houses : Stmt := topS 28
abbrev N_check_houses : List Str := ["houses", "made", "house"]
abbrev P_check_houses : List Str := ["houses"]
theorem sc_check_houses : FnScope N_check_houses P_check_houses (defScope s_check_houses) := ⟨rfl, rfl, rfl, by decide +kernel, rfl, by decide +kernel, by decide +kernel⟩
abbrev s__law_store : Stmt := topS 30
abbrev N__law_store : List Str := ["script", "cells", "state", "cell"]
abbrev P__law_store : List Str := ["script"]
theorem sc__law_store : FnScope N__law_store P__law_store (defScope s__law_store) := ⟨rfl, rfl, rfl, by decide +kernel, rfl, by decide +kernel, by decide +kernel⟩
abbrev s__law_take : Stmt := topS 31
abbrev N__law_take : List Str := ["store", "many", "digits", "tick", "cells", "place", "cell", "mixed"]
abbrev P__law_take : List Str := ["store", "many"]
theorem sc__law_take : FnScope N__law_take P__law_take (defScope s__law_take) := ⟨rfl, rfl, rfl, by decide +kernel, rfl, by decide +kernel, by decide +kernel⟩
abbrev s__law_between : Stmt := topS 32
abbrev N__law_between : List Str := ["store", "least", "most", "edge"]
abbrev P__law_between : List Str := ["store", "least", "most"]
theorem sc__law_between : FnScope N__law_between P__law_between (defScope s__law_between) := ⟨rfl, rfl, rfl, by decide +kernel, rfl, by decide +kernel, by decide +kernel⟩
abbrev s__law_pick : Stmt := topS 33
abbrev N__law_pick : List Str := ["store", "items"]
abbrev P__law_pick : List Str := ["store", "items"]
theorem sc__law_pick : FnScope N__law_pick P__law_pick (defScope s__law_pick) := ⟨rfl, rfl, rfl, by decide +kernel, rfl, by decide +kernel, by decide +kernel⟩
abbrev s__law_shuffled : Stmt := topS 34
abbrev N__law_shuffled : List Str := ["store", "items", "row", "style", "k", "at", "kept"]
abbrev P__law_shuffled : List Str := ["store", "items"]
theorem sc__law_shuffled : FnScope N__law_shuffled P__law_shuffled (defScope s__law_shuffled) := ⟨rfl, rfl, rfl, by decide +kernel, rfl, by decide +kernel, by decide +kernel⟩
abbrev s__law_listed : Stmt := topS 35
abbrev N__law_listed : List Str := ["store", "items"]
abbrev P__law_listed : List Str := ["store", "items"]
theorem sc__law_listed : FnScope N__law_listed P__law_listed (defScope s__law_listed) := ⟨rfl, rfl, rfl, by decide +kernel, rfl, by decide +kernel, by decide +kernel⟩
abbrev s__law_is_integer : Stmt := topS 36
abbrev N__law_is_integer : List Str := ["value"]
abbrev P__law_is_integer : List Str := ["value"]
theorem sc__law_is_integer : FnScope N__law_is_integer P__law_is_integer (defScope s__law_is_integer) := ⟨rfl, rfl, rfl, by decide +kernel, rfl, by decide +kernel, by decide +kernel⟩
abbrev s__law_same : Stmt := topS 37
abbrev N__law_same : List Str := ["one", "two", "key", "lists", "k"]
abbrev P__law_same : List Str := ["one", "two"]
theorem sc__law_same : FnScope N__law_same P__law_same (defScope s__law_same) := ⟨rfl, rfl, rfl, by decide +kernel, rfl, by decide +kernel, by decide +kernel⟩
abbrev s__law_frozen : Stmt := topS 38
abbrev N__law_frozen : List Str := ["value", "key", "item"]
abbrev P__law_frozen : List Str := ["value"]
theorem sc__law_frozen : FnScope N__law_frozen P__law_frozen (defScope s__law_frozen) := ⟨rfl, rfl, rfl, by decide +kernel, rfl, by decide +kernel, by decide +kernel⟩
abbrev s__law_is_name : Stmt := topS 39
abbrev N__law_is_name : List Str := ["word", "sign"]
abbrev P__law_is_name : List Str := ["word"]
theorem sc__law_is_name : FnScope N__law_is_name P__law_is_name (defScope s__law_is_name) := ⟨rfl, rfl, rfl, by decide +kernel, rfl, by decide +kernel, by decide +kernel⟩
abbrev s__law_name : Stmt := topS 40
abbrev N__law_name : List Str := ["store", "size", "word", "alike", "k"]
abbrev P__law_name : List Str := ["store"]
theorem sc__law_name : FnScope N__law_name P__law_name (defScope s__law_name) := ⟨rfl, rfl, rfl, by decide +kernel, rfl, by decide +kernel, by decide +kernel⟩
abbrev s__law_names : Stmt := topS 41
abbrev N__law_names : List Str := ["store", "many", "letters", "signs", "style", "first", "names", "sign", "k", "start", "ahead", "tail", "step", "code"]
abbrev P__law_names : List Str := ["store", "many"]
theorem sc__law_names : FnScope N__law_names P__law_names (defScope s__law_names) := ⟨rfl, rfl, rfl, by decide +kernel, rfl, by decide +kernel, by decide +kernel⟩
abbrev s__law_new_name : Stmt := topS 42
abbrev N__law_new_name : List Str := ["store", "taken", "word", "near", "k"]
abbrev P__law_new_name : List Str := ["store", "taken"]
theorem sc__law_new_name : FnScope N__law_new_name P__law_new_name (defScope s__law_new_name) := ⟨rfl, rfl, rfl, by decide +kernel, rfl, by decide +kernel, by decide +kernel⟩
abbrev s__law_bad_word : Stmt := topS 43
abbrev N__law_bad_word : List Str := ["store", "word", "odd", "style", "at"]
abbrev P__law_bad_word : List Str := ["store"]
theorem sc__law_bad_word : FnScope N__law_bad_word P__law_bad_word (defScope s__law_bad_word) := ⟨rfl, rfl, rfl, by decide +kernel, rfl, by decide +kernel, by decide +kernel⟩
abbrev s__law_not_name : Stmt := topS 44
abbrev N__law_not_name : List Str := ["store", "word", "odd", "at"]
abbrev P__law_not_name : List Str := ["store"]
theorem sc__law_not_name : FnScope N__law_not_name P__law_not_name (defScope s__law_not_name) := ⟨rfl, rfl, rfl, by decide +kernel, rfl, by decide +kernel, by decide +kernel⟩
abbrev s__law_houses : Stmt := topS 45
abbrev N__law_houses : List Str := ["store", "most", "many", "style"]
abbrev P__law_houses : List Str := ["store", "most"]
theorem sc__law_houses : FnScope N__law_houses P__law_houses (defScope s__law_houses) := ⟨rfl, rfl, rfl, by decide +kernel, rfl, by decide +kernel, by decide +kernel⟩
abbrev s__law_bent_houses : Stmt := topS 46
abbrev N__law_bent_houses : List Str := ["store", "row", "k", "at", "style"]
abbrev P__law_bent_houses : List Str := ["store"]
theorem sc__law_bent_houses : FnScope N__law_bent_houses P__law_bent_houses (defScope s__law_bent_houses) := ⟨rfl, rfl, rfl, by decide +kernel, rfl, by decide +kernel, by decide +kernel⟩
abbrev s__law_due_houses : Stmt := topS 47
abbrev N__law_due_houses : List Str := ["row", "seen", "word"]
abbrev P__law_due_houses : List Str := ["row"]
theorem sc__law_due_houses : FnScope N__law_due_houses P__law_due_houses (defScope s__law_due_houses) := ⟨rfl, rfl, rfl, by decide +kernel, rfl, by decide +kernel, by decide +kernel⟩
abbrev s__law_refusal : Stmt := topS 48
abbrev N__law_refusal : List Str := ["error", "code", "kinds", "names", "at", "name"]
abbrev P__law_refusal : List Str := ["error", "code"]
theorem sc__law_refusal : FnScope N__law_refusal P__law_refusal (defScope s__law_refusal) := ⟨rfl, rfl, rfl, by decide +kernel, rfl, by decide +kernel, by decide +kernel⟩
abbrev s__law_full_list : Stmt := topS 49
abbrev N__law_full_list : List Str := ["store", "row", "k", "more", "style"]
abbrev P__law_full_list : List Str := ["store"]
theorem sc__law_full_list : FnScope N__law_full_list P__law_full_list (defScope s__law_full_list) := ⟨rfl, rfl, rfl, by decide +kernel, rfl, by decide +kernel, by decide +kernel⟩
abbrev s__law_checked : Stmt := topS 50
abbrev N__law_checked : List Str := ["given", "told", "e"]
abbrev P__law_checked : List Str := ["given"]
theorem sc__law_checked : FnScope N__law_checked P__law_checked (defScope s__law_checked) := ⟨rfl, rfl, rfl, by decide +kernel, rfl, by decide +kernel, by decide +kernel⟩
abbrev s__law_listed_right : Stmt := topS 51
abbrev N__law_listed_right : List Str := ["told", "row", "k"]
abbrev P__law_listed_right : List Str := ["told", "row"]
theorem sc__law_listed_right : FnScope N__law_listed_right P__law_listed_right (defScope s__law_listed_right) := ⟨rfl, rfl, rfl, by decide +kernel, rfl, by decide +kernel, by decide +kernel⟩
abbrev s__law_list_right : Stmt := topS 52
abbrev N__law_list_right : List Str := ["given", "row", "kept", "due", "k", "told", "answer"]
abbrev P__law_list_right : List Str := ["given", "row"]
theorem sc__law_list_right : FnScope N__law_list_right P__law_list_right (defScope s__law_list_right) := ⟨rfl, rfl, rfl, by decide +kernel, rfl, by decide +kernel, by decide +kernel⟩
abbrev s__law_first : Stmt := topS 53
abbrev N__law_first : List Str := ["row", "k"]
abbrev P__law_first : List Str := ["row"]
theorem sc__law_first : FnScope N__law_first P__law_first (defScope s__law_first) := ⟨rfl, rfl, rfl, by decide +kernel, rfl, by decide +kernel, by decide +kernel⟩
abbrev s_law : Stmt := topS 54
abbrev N_law : List Str := ["script", "store", "row", "other", "k", "at"]
abbrev P_law : List Str := ["script"]
theorem sc_law : FnScope N_law P_law (defScope s_law) := ⟨rfl, rfl, rfl, by decide +kernel, rfl, by decide +kernel, by decide +kernel⟩
/-! ### the stepper -/
local macro_rules | `(tactic| walk_at "hp") => `(tactic| first
  | assumption
  | exact upd_same
  | (refine Eq.trans (upd_ne (by first | assumption | (apply Ne.symm; assumption))) ?_; walk_at "hp"))
local macro_rules | `(tactic| walk_at "sq") => `(tactic| first
  | assumption
  | (refine Or.inl (Or.inl ?_); walk_at "hp"))
local macro_rules | `(tactic| walk_at "st") => `(tactic| first
  | assumption
  | (refine Or.inl (Or.inl ?_); walk_at "hp"))
local macro_rules | `(tactic| walk_at "ar") => `(tactic| first
  | assumption
  | omega
  | decide)
local macro_rules | `(tactic| walk_at "ci") => `(tactic| first
  | (refine (show CMul _ _ from Or.inr ⟨?_, ?_⟩) <;> omega)
  | (refine (show CMul _ _ from Or.inl ⟨?_, ?_⟩) <;> omega)
  | (show CPow _ _; exact ⟨by decide, by decide, by decide⟩)
  | (refine wide_div (b := 63) ?_ ?_ (by decide) (by decide) <;> omega)
  | (show (0 : Int) < _; omega))
local macro_rules | `(tactic| walk_at "ty") => `(tactic| first
  | exact dp_ty (by assumption)
  | exact TyX.base (TyOf.int _)
  | exact TyX.base (TyOf.str _)
  | exact TyX.base (TyOf.bl _)
  | exact TyX.base TyOf.non
  | exact tyL' (by walk_at "sq")
  | exact tyT' (by walk_at "st"))
local macro_rules | `(tactic| walk_at "isi") => `(tactic| first
  | ((with_reducible apply Rd.isiF); (walk_at "ty"); (decide))
  | ((with_reducible apply Rd.isiT); (walk_at "ty"); (decide)))
local macro_rules | `(tactic| walk_at "rd") => `(tactic| first
  | with_reducible apply Rd.seq
  | ((with_reducible apply Rd.var); rfl)
  | with_reducible apply Rd.con
  | with_reducible apply Rd.op
  | with_reducible apply Rd.asg
  | ((with_reducible apply Rd.gname); ((dsimp only [List.set, L2.wipe, Int.reduceToNat]) <;> rfl))
  | with_reducible apply Rd.nxt
  | with_reducible apply Rd.ifs
  | with_reducible apply Rd.test
  | with_reducible apply Rd.testB
  | with_reducible apply Rd.exbl
  | with_reducible apply Rd.ret
  | with_reducible apply Rd.drop
  | with_reducible apply Rd.retN
  | with_reducible apply Rd.nil
  | with_reducible apply Rd.cons
  | with_reducible apply Rd.call
  | with_reducible apply Rd.cb
  | with_reducible apply Rd.and
  | with_reducible apply Rd.or
  | with_reducible apply Rd.not
  | with_reducible apply Rd.andV
  | with_reducible apply Rd.orV
  | with_reducible apply Rd.notV
  | with_reducible apply Rd.ife
  | with_reducible apply Rd.tup
  | with_reducible apply Rd.lst
  | with_reducible apply Rd.un
  | with_reducible apply Rd.chain
  | with_reducible apply Rd.brk
  | with_reducible apply Rd.cnt
  | with_reducible apply Rd.I0
  | with_reducible apply Rd.U1
  | ((with_reducible apply Rd.eq); rfl)
  | ((with_reducible apply Rd.ne); rfl)
  | ((with_reducible apply Rd.I1); (walk_at "ci"))
  | with_reducible apply Rd.lc0
  | with_reducible apply Rd.ln0
  | with_reducible apply Rd.exN
  | ((with_reducible apply Rd.iteSf); (decide +kernel))
  | ((with_reducible apply Rd.iteSt); (decide +kernel))
  | ((with_reducible apply Rd.niQ); (exact Or.inl (by walk_at "sq")); (exact ⟨rfl, rfl⟩); (rfl))
  | ((with_reducible apply Rd.inQ); (exact Or.inl (by walk_at "sq")); (exact ⟨rfl, rfl⟩); (rfl))
  | with_reducible apply Rd.rn1
  | with_reducible apply Rd.in1
  | with_reducible apply Rd.sn1
  | with_reducible apply Rd.bn1
  | with_reducible apply Rd.nn1
  | with_reducible apply Rd.rn2
  | with_reducible apply Rd.in2
  | with_reducible apply Rd.sn2
  | with_reducible apply Rd.bn2
  | with_reducible apply Rd.nn2
  | with_reducible apply Rd.nt1
  | with_reducible apply Rd.nf1
  | (with_reducible refine Rd.iteI (fun _ => ?_) (fun _ => ?_))
  | (with_reducible refine Rd.iteNI (fun _ => ?_) (fun _ => ?_))
  | (with_reducible refine iteT ?_)
  | (with_reducible refine iteF ?_)
  | (with_reducible refine Rd.iteD (fun _ => ?_) (fun _ => ?_))
  | (with_reducible refine Rd.iteN (fun _ => ?_) (fun _ => ?_))
  | with_reducible apply Rd.intI
  | with_reducible apply Rd.intB
  | with_reducible apply Rd.maxQ
  | with_reducible apply Rd.minQ
  | with_reducible apply Rd.absQ
  | with_reducible apply Rd.isN
  | with_reducible apply Rd.noN
  | with_reducible apply Rd.ltZ
  | with_reducible apply Rd.bm
  | with_reducible apply Rd.bm0
  | with_reducible apply Rd.par
  | with_reducible apply Rd.expar
  | with_reducible apply Rd.exint
  | with_reducible apply Rd.ipi
  | with_reducible apply Rd.slice
  | with_reducible apply Rd.noPart
  | with_reducible apply Rd.part
  | with_reducible apply Rd.gcons
  | with_reducible apply Rd.gnil
  | with_reducible apply Rd.iseq
  | with_reducible apply Rd.irng1
  | walk_at "isi"
  | with_reducible apply Rd.forX
  | with_reducible apply Rd.lstRev
  | with_reducible apply Rd.lstRg
  | with_reducible apply Rd.rg1
  | with_reducible apply Rd.rg2
  | with_reducible apply Rd.exint2
  | ((with_reducible apply Rd.exrev); (walk_at "sq"))
  | with_reducible apply Rd.lcX
  | with_reducible apply Rd.yes
  | ((with_reducible apply Rd.exrng1); (constructor <;> omega))
  | ((with_reducible apply Rd.exrng2); (refine ⟨?_, ?_, ?_, ?_⟩ <;> omega))
  | with_reducible apply Rd.irng2
  | ((with_reducible apply Rd.aug); rfl)
  | ((with_reducible apply Rd.exlst); (walk_at "sq"))
  | ((with_reducible apply Rd.gtup); (walk_at "st"); (rfl))
  | ((with_reducible apply Rd.tyL); (walk_at "hp"))
  | ((with_reducible apply Rd.ixL); (walk_at "sq"); (rfl))
  | ((with_reducible apply Rd.ixI); (walk_at "sq"); (omega); (first | assumption | (simp only [List.length_map]; omega)); (intro _ _))
  | (with_reducible refine Rd.gsub ?_)
  | ((with_reducible apply Rd.setL); (walk_at "hp"); (rfl); ((dsimp only [List.set, L2.wipe, Int.reduceToNat]) <;> rfl))
  | ((with_reducible apply Rd.lenQ); (first | exact Or.inl (by walk_at "sq") | exact Or.inr (by walk_at "st")))
  | ((with_reducible apply Rd.listQ); (first | exact Or.inl (by walk_at "sq") | exact Or.inr (by walk_at "st")))
  | ((with_reducible apply Rd.tupQ); (walk_at "sq"))
  | ((with_reducible apply Rd.slL); (walk_at "sq"))
  | ((with_reducible apply Rd.ixT); (walk_at "st"); (rfl))
  | (with_reducible refine Rd.iteB (fun _ => ?_) (fun _ => ?_))
  | (with_reducible refine Rd.iteNB (fun _ => ?_) (fun _ => ?_))
  | (refine Rd.andI (Nat.le_of_ble_eq_true rfl) ?_)
  | dsimp only [List.set])
/-! ### the law's store of draws -/
/-- at st a store, its cells at c: a place and digits that are no less than 0 -/
def StoreAt (H : Hp) (st c : Addr) : Prop := ∃ (ns : List Int) (p d s t : Int), H st = some (.lst [.ref c, .int p, .int d, .int s, .int t]) ∧ H c = some (.lst (ns.map V.int)) ∧ c ≠ st ∧ 0 ≤ p ∧ 0 ≤ d
theorem StoreAt.kept {H H' : Hp} {st c : Addr} (h : StoreAt H st c) (k : ∀ b o, (b = st ∨ b = c) → H b = some o → H' b = some o) : StoreAt H' st c := by
  obtain ⟨ns, p, d, s, t, h1, h2, r⟩ := h
  exact ⟨ns, p, d, s, t, k _ _ (.inl rfl) h1, k _ _ (.inr rfl) h2, r⟩
theorem StoreAt.same {H H' : Hp} {st c : Addr} (h : StoreAt H st c) (k : Same H H') : StoreAt H' st c := h.kept fun b o _ => k b o
theorem StoreAt.has {H : Hp} {st c : Addr} (h : StoreAt H st c) : (∃ o, H st = some o) ∧ ∃ o, H c = some o := by
  obtain ⟨ns, p, d, s, t, h1, h2, r⟩ := h
  exact ⟨⟨_, h1⟩, ⟨_, h2⟩⟩
/-- what is new is no part of the store -/
theorem StoreAt.off {H : Hp} {st c p : Addr} (h : StoreAt H st c) (n : H p = none) : p ≠ st ∧ p ≠ c := by
  obtain ⟨⟨o, e⟩, ⟨o', e'⟩⟩ := h.has
  exact ⟨(ne_of_none e n).symm, (ne_of_none e' n).symm⟩
theorem StoreAt.put {H : Hp} {st c p : Addr} (h : StoreAt H st c) (n : p ≠ st ∧ p ≠ c) (o : HO) : StoreAt (upd H p o) st c := h.kept fun b u e z => by
  rw [upd_ne]
  · exact z
  · rcases e with rfl | rfl
    · exact n.1.symm
    · exact n.2.symm
/-- draws were taken: all else stands -/
structure Go (st c : Addr) (H H' : Hp) : Prop where
  ok : StoreAt H' st c
  keep : ∀ b o, b ≠ st → H b = some o → H' b = some o
theorem Go.refl {st c : Addr} {H : Hp} (h : StoreAt H st c) : Go st c H H := ⟨h, fun _ _ _ e => e⟩
theorem Go.trans {st c : Addr} {H H1 H2 : Hp} (a : Go st c H H1) (b : Go st c H1 H2) : Go st c H H2 := ⟨b.ok, fun d o n e => b.keep d o n (a.keep d o n e)⟩
/-- what is new behind was new ahead -/
theorem Go.free {st c p : Addr} {H H' : Hp} (g : Go st c H H') (n : H' p = none) : H p = none := by
  cases e : H p with
  | none => rfl
  | some o =>
    rw [g.keep p o (g.ok.off n).1 e] at n
    cases n
/-- a new object beside -/
theorem Go.new {st c p : Addr} {H H' : Hp} (g : Go st c H H') (n : H' p = none) (o : HO) : Go st c H (upd H' p o) :=
  ⟨g.ok.put (g.ok.off n) o, fun b u hb e => (upd_ne (ne_of_none (g.keep b u hb e) n)).trans (g.keep b u hb e)⟩
/-- an object that is newer than H is written -/
theorem Go.write {st c p : Addr} {H H' : Hp} (g : Go st c H H') (n : H p = none) (h : p ≠ st ∧ p ≠ c) (o : HO) : Go st c H (upd H' p o) :=
  ⟨g.ok.put h o, fun b u hb e => (upd_ne (ne_of_none e n)).trans (g.keep b u hb e)⟩
theorem Go.same {st c : Addr} {H H1 H2 : Hp} (g : Go st c H H1) (k : Same H1 H2) : Go st c H H2 := ⟨g.ok.same k, fun b u hb e => k b u (g.keep b u hb e)⟩
theorem go_upd {st c : Addr} {H : Hp} {ns : List Int} {p d s t p' d' s' t' : Int} (h : H st = some (.lst [.ref c, .int p, .int d, .int s, .int t])) (hc : H c = some (.lst (ns.map V.int))) (n : c ≠ st) (hp : 0 ≤ p') (hd : 0 ≤ d') :
    Go st c H (upd H st (.lst [.ref c, .int p', .int d', .int s', .int t'])) :=
  ⟨⟨ns, p', d', s', t', upd_same, (upd_ne n).trans hc, n, hp, hd⟩, fun b o hb e => (upd_ne hb).trans e⟩
/-- _law_take(store, many): 0, or a number below many -/
def spTake : Sp := fun vs H Q _ => ∃ (st c : Addr) (many : Int), vs = [.ref st, .int many] ∧ StoreAt H st c ∧ many < 4611686018427387904 ∧ ∀ (r : Int) (H' : Hp), 0 ≤ r → (r < many ∨ r = 0) → Go st c H H' → Q (.int r) H'
section
variable {P : Program} {w : World} {K : PySem.W.Frag} {mg : Str → Option Value} {base : Heap}
theorem ok__law_take (F : Def K mg "_law_take" s__law_take P__law_take) (m_int : mg "int" = none) (m_len : mg "len" = none) : Cal P w K mg base 1 "_law_take" P__law_take spTake := by
  refine F.ok sc__law_take (fun vs H Q E h => ?_) (fun f cdv A outer s H vs Q E hr h => ?_)
  · obtain ⟨st, c, many, rfl, _⟩ := h
    rfl
  obtain ⟨st, c, many, rfl, ⟨ns, p, d, z, t, hst, hc, hne, hp, hd⟩, hm, q⟩ := h
  refine ⟨_, (pss_cons (ps_if (pt_cmpR op_lt (pv 1 (hd := nd_many) (hcd := nc_many)) pe_int (nomark _)) (pss_one (ps_ret pe_int)) pss_nil)
  (pss_cons (ps_set (i := 2) sc__law_take.nd rfl (Or.inl rfl) (pe_callTy q_intI (by rfl) m_int bb_int (pa_cons (pe_ix ix_list (pv 0 (hd := nd_store) (hcd := nc_store)) pe_int (fun _ _ => rfl)) pa_nil) (hn := nn_int) (hdb := nd_int)))
  (pss_cons (ps_if (pt_cmpR op_gt (pv 2 (hd := nd_digits) (hcd := nc_digits)) pe_int (nomark _)) (pss_cons (ps_asg (pe_op op_fdivW (pv 2 (hd := nd_digits) (hcd := nc_digits)) (pv 1 (hd := nd_many) (hcd := nc_many))) (pg_sub (pv 0 (hd := nd_store) (hcd := nc_store)) pe_int set_list))
  (pss_one (ps_ret (pe_op op_mod (pv 2 (hd := nd_digits) (hcd := nc_digits)) (pv 1 (hd := nd_many) (hcd := nc_many)))))) pss_nil)
  (pss_cons (ps_asg (pe_op op_add (pe_callTy q_intI (by rfl) m_int bb_int (pa_cons (pe_ix ix_list (pv 0 (hd := nd_store) (hcd := nc_store)) pe_int (fun _ _ => rfl)) pa_nil) (hn := nn_int) (hdb := nd_int)) pe_int) (pg_sub (pv 0 (hd := nd_store) (hcd := nc_store)) pe_int set_list))
  (pss_cons (ps_set (i := 3) sc__law_take.nd rfl (Or.inl rfl) (pe_callTy q_intI (by rfl) m_int bb_int (pa_cons (pe_ix ix_list (pv 0 (hd := nd_store) (hcd := nc_store)) pe_int (fun _ _ => rfl)) pa_nil) (hn := nn_int) (hdb := nd_int)))
  (pss_cons (ps_set (i := 4) sc__law_take.nd rfl (Or.inl rfl) (pe_ix ix_list (pv 0 (hd := nd_store) (hcd := nc_store)) pe_int (fun _ _ => rfl)))
  (pss_cons (ps_set (i := 5) sc__law_take.nd rfl (Or.inl rfl) (pe_callTy q_intI (by rfl) m_int bb_int (pa_cons (pe_ix ix_list (pv 0 (hd := nd_store) (hcd := nc_store)) pe_int (fun _ _ => rfl)) pa_nil) (hn := nn_int) (hdb := nd_int)))
  (pss_cons (ps_if (pt_cmpR op_lt (pv 5 (hd := nd_place) (hcd := nc_place)) (pe_callB q_len (by rfl) m_len PySem.boot_len (pa_cons (pv 4 (hd := nd_cells) (hcd := nc_cells)) pa_nil) (hn := nn_len) (hdb := nd_len)) (nomark _)) (pss_cons (ps_set (i := 6) sc__law_take.nd rfl (Or.inl rfl) (pe_callTy q_intI (by rfl) m_int bb_int (pa_cons (pe_ix ix_list (pv 4 (hd := nd_cells) (hcd := nc_cells)) (pv 5 (hd := nd_place) (hcd := nc_place)) (fun _ _ => rfl)) pa_nil) (hn := nn_int) (hdb := nd_int)))
  (pss_cons (ps_asg (pe_op op_add (pv 5 (hd := nd_place) (hcd := nc_place)) pe_int) (pg_sub (pv 0 (hd := nd_store) (hcd := nc_store)) pe_int set_list))
  (pss_cons (ps_if (pt_cmpR op_ge (pv 6 (hd := nd_cell) (hcd := nc_cell)) (pe_op op_pow pe_int pe_int) (nomark _)) (pss_cons (ps_asg (pe_op op_fdivW (pv 6 (hd := nd_cell) (hcd := nc_cell)) (pv 1 (hd := nd_many) (hcd := nc_many))) (pg_sub (pv 0 (hd := nd_store) (hcd := nc_store)) pe_int set_list))
  (pss_one (ps_ret (pe_op op_mod (pv 6 (hd := nd_cell) (hcd := nc_cell)) (pv 1 (hd := nd_many) (hcd := nc_many)))))) pss_nil)
  (pss_one (ps_set (i := 7) sc__law_take.nd rfl (Or.inl rfl) (pe_op op_mod (pe_op op_add (pe_op op_add (pe_op op_mul (pv 6 (hd := nd_cell) (hcd := nc_cell)) pe_int) (pe_op op_mul (pv 3 (hd := nd_tick) (hcd := nc_tick)) pe_int)) pe_int) pe_int)))))) (pss_cons (ps_set (i := 7) sc__law_take.nd rfl (Or.inl rfl) (pe_op op_mod (pe_op op_add (pe_op op_add (pe_op op_mul (pe_callTy q_intI (by rfl) m_int bb_int (pa_cons (pe_ix ix_list (pv 0 (hd := nd_store) (hcd := nc_store)) pe_int (fun _ _ => rfl)) pa_nil) (hn := nn_int) (hdb := nd_int)) pe_int) (pe_op op_mul (pv 3 (hd := nd_tick) (hcd := nc_tick)) pe_int)) pe_int) pe_int))
  (pss_one (ps_asg (pv 7 (hd := nd_mixed) (hcd := nc_mixed)) (pg_sub (pv 0 (hd := nd_store) (hcd := nc_store)) pe_int set_list)))))
  (pss_one (ps_ret (pe_op op_mod (pe_op op_mod (pe_op op_add (pe_op op_mul (pv 7 (hd := nd_mixed) (hcd := nc_mixed)) (pv 7 (hd := nd_mixed) (hcd := nc_mixed))) (pe_op op_fdivW (pv 7 (hd := nd_mixed) (hcd := nc_mixed)) pe_int)) pe_int) (pv 1 (hd := nd_many) (hcd := nc_many))))))))))))), ?_⟩
  refine Rd.at0 (σ := [some (.ref st), some (.int many), none, none, none, none, none, none]) rfl ?_
  repeat' (walk_at "rd")
  · exact q 0 _ (Int.le_refl 0) (.inr rfl) (Go.refl ⟨ns, p, d, z, t, hst, hc, hne, hp, hd⟩)
  · exact q _ _ (Int.emod_nonneg _ (by omega)) (.inl (Int.emod_lt_of_pos _ (by omega))) (go_upd hst hc hne hp (Int.ediv_nonneg hd (by omega)))
  · rename_i v hv hv2
    have h0 : (0 : Int) ≤ v := Int.le_trans (by decide) hv2
    rw [upd_upd, upd_upd]
    exact q _ _ (Int.emod_nonneg _ (by omega)) (.inl (Int.emod_lt_of_pos _ (by omega))) (go_upd hst hc hne (by omega) (Int.ediv_nonneg h0 (by omega)))
  · rw [upd_upd]
    exact q _ _ (Int.emod_nonneg _ (by omega)) (.inl (Int.emod_lt_of_pos _ (by omega))) (go_upd hst hc hne (by omega) hd)
  · rw [upd_upd]
    exact q _ _ (Int.emod_nonneg _ (by omega)) (.inl (Int.emod_lt_of_pos _ (by omega))) (go_upd hst hc hne hp hd)
/-- _law_between(store, least, most): a number from least to most; least if most is less -/
def spBetween : Sp := fun vs H Q _ => ∃ (st c : Addr) (lo hi : Int), vs = [.ref st, .int lo, .int hi] ∧ StoreAt H st c ∧ hi - lo < 4611686018427387900 ∧ ∀ (r : Int) (H' : Hp), lo ≤ r → (r ≤ hi ∨ r = lo) → Go st c H H' → Q (.int r) H'
theorem ok__law_between (F : Def K mg "_law_between" s__law_between P__law_between) (C__law_take : Cal P w K mg base 1 "_law_take" P__law_take spTake) : Cal P w K mg base 2 "_law_between" P__law_between spBetween := by
  refine F.ok sc__law_between (fun vs H Q E h => ?_) (fun f cdv A outer s H vs Q E hr h => ?_)
  · obtain ⟨st, c, lo, hi, rfl, _⟩ := h
    rfl
  obtain ⟨st, c, lo, hi, rfl, hs, hm, q⟩ := h
  refine ⟨_, (pss_cons (ps_if (pt_cmpR op_le (pv 2 (hd := nd_most) (hcd := nc_most)) (pv 1 (hd := nd_least) (hcd := nc_least)) (nomark _)) (pss_one (ps_ret (pv 1 (hd := nd_least) (hcd := nc_least)))) pss_nil)
  (pss_cons (ps_set (i := 3) sc__law_between.nd rfl (Or.inl rfl) (pe_cal C__law_take hr (pa_cons (pv 0 (hd := nd_store) (hcd := nc_store)) (pa_cons pe_int pa_nil)) (hdb := nd__law_take)))
  (pss_cons (ps_if (pt_cmpR op_eq (pv 3 (hd := nd_edge) (hcd := nc_edge)) pe_int (nomark _)) (pss_one (ps_ret (pv 1 (hd := nd_least) (hcd := nc_least)))) pss_nil)
  (pss_cons (ps_if (pt_cmpR op_eq (pv 3 (hd := nd_edge) (hcd := nc_edge)) pe_int (nomark _)) (pss_one (ps_ret (pv 2 (hd := nd_most) (hcd := nc_most)))) pss_nil)
  (pss_cons (ps_if (pt_cmpR op_eq (pv 3 (hd := nd_edge) (hcd := nc_edge)) pe_int (nomark _)) (pss_one (ps_ret (pe_op op_add (pv 1 (hd := nd_least) (hcd := nc_least)) pe_int))) pss_nil)
  (pss_one (ps_ret (pe_op op_add (pv 1 (hd := nd_least) (hcd := nc_least)) (pe_cal C__law_take hr (pa_cons (pv 0 (hd := nd_store) (hcd := nc_store)) (pa_cons (pe_op op_add (pe_op op_sub (pv 2 (hd := nd_most) (hcd := nc_most)) (pv 1 (hd := nd_least) (hcd := nc_least))) pe_int) pa_nil)) (hdb := nd__law_take)))))))))), ?_⟩
  refine Rd.at0 (σ := [some (.ref st), some (.int lo), some (.int hi), none]) rfl ?_
  repeat' (walk_at "rd")
  · exact q lo _ (Int.le_refl _) (.inr rfl) (Go.refl hs)
  refine ⟨st, c, 9, rfl, hs, by decide, fun e H1 h0 h9 g1 => ?_⟩
  repeat' (walk_at "rd")
  · exact q lo _ (Int.le_refl _) (.inr rfl) g1
  · exact q hi _ (by omega) (.inl (Int.le_refl _)) g1
  · exact q (lo + 1) _ (by omega) (.inl (by omega)) g1
  refine ⟨st, c, hi - lo + 1, rfl, g1.ok, by omega, fun r H2 k0 k1 g2 => ?_⟩
  repeat' (walk_at "rd")
  exact q (lo + r) _ (by omega) (.inl (by omega)) (g1.trans g2)
/-- _law_store(script): a new store -/
def spStore (K : PySem.W.Frag) : Sp := fun vs H Q _ => ∃ (a : Addr) (ns : List Int), vs = [.ref a] ∧ SqL K H a (ns.map V.int) ∧ ns.length ≤ 1000 ∧ ∀ (st c : Addr) (H' : Hp), Same H H' → H st = none → StoreAt H' st c → Q (.ref st) H'
theorem ok__law_store (F : Def K mg "_law_store" s__law_store P__law_store) (m_list : mg "list" = none) (m_len : mg "len" = none) (m_int : mg "int" = none) : Cal P w K mg base 1 "_law_store" P__law_store (spStore K) := by
  refine F.ok sc__law_store (fun vs H Q E h => ?_) (fun f cdv A outer s H vs Q E hr h => ?_)
  · obtain ⟨a, ns, rfl, _⟩ := h
    rfl
  obtain ⟨a, ns, rfl, hS, hl, q⟩ := h
  refine ⟨_, (pss_cons (ps_set (i := 1) sc__law_store.nd rfl (Or.inl rfl) (pe_callTy q_list (by rfl) m_list bb_list (pa_cons (pv 0 (hd := nd_script) (hcd := nc_script)) pa_nil) (hn := nn_list) (hdb := nd_list)))
  (pss_cons (ps_set (i := 2) sc__law_store.nd rfl (Or.inl rfl) (pe_op op_add pe_int (pe_callB q_len (by rfl) m_len PySem.boot_len (pa_cons (pv 1 (hd := nd_cells) (hcd := nc_cells)) pa_nil) (hn := nn_len) (hdb := nd_len))))
  (pss_cons (ps_for PassesOwn.never rfl (pi_list (pv 1 (hd := nd_cells) (hcd := nc_cells))) (pg_name (i := 3) sc__law_store.nd rfl (Or.inl rfl)) (pss_one (ps_set (i := 2) sc__law_store.nd rfl (Or.inl rfl) (pe_op op_mod (pe_op op_add (pe_op op_add (pe_op op_mul (pv 2 (hd := nd_state) (hcd := nc_state)) pe_int) (pe_op op_mod (pe_callTy q_intI (by rfl) m_int bb_int (pa_cons (pv 3 (hd := nd_cell) (hcd := nc_cell)) pa_nil) (hn := nn_int) (hdb := nd_int)) pe_int)) pe_int) pe_int))))
  (pss_one (ps_ret (pe_lst (pa_cons (pv 1 (hd := nd_cells) (hcd := nc_cells)) (pa_cons pe_int (pa_cons pe_int (pa_cons (pv 2 (hd := nd_state) (hcd := nc_state)) (pa_cons pe_int pa_nil))))))))))), ?_⟩
  refine Rd.at0 (σ := [some (.ref a), none, none, none]) rfl ?_
  repeat' (walk_at "rd")
  intro c hc
  repeat' (walk_at "rd")
  refine forL (ns.map V.int) (fun i σ H' => ∃ (s : Int) (v3 : Option V), σ = [some (.ref a), some (.ref c), some (.int s), v3] ∧ H' = upd H c (.lst (ns.map V.int))) ⟨_, none, rfl, rfl⟩ (fun i σ H' _ ⟨_, _, _, e⟩ => by rw [e]; exact .inl (.inl upd_same)) ?_ ?_
  · rintro i x σ H' hx ⟨z, v3, rfl, rfl⟩
    obtain ⟨y, hy, rfl⟩ := int_at hx
    repeat' (walk_at "rd")
    exact ⟨_, _, rfl, rfl⟩
  · rintro σ H' ⟨z, v3, rfl, rfl⟩
    repeat' (walk_at "rd")
    intro st hst
    have n1 : c ≠ st := (new_ne upd_same hst).symm
    exact q st c _ ((same_upd hc).trans (same_upd hst)) (free_of hst (same_upd hc)) ⟨ns, 0, 0, z, 0, upd_same, (upd_ne n1).trans upd_same, n1, Int.le_refl _, Int.le_refl _⟩
end
/-! ### a drawn order -/
/-- _law_shuffled(store, items): a new list of the same items in some order -/
def spShuffled (K : PySem.W.Frag) : Sp := fun vs H Q _ => ∃ (st c a : Addr) (xs : List V), vs = [.ref st, .ref a] ∧ StoreAt H st c ∧ SqL K H a xs ∧ xs.length ≤ 100000 ∧
  ∀ (l : Addr) (ys : List V) (H' : Hp), ys.Perm xs → H l = none → Go st c H H' → H' l = some (.lst ys) → Q (.ref l) H'
section
variable {P : Program} {w : World} {K : PySem.W.Frag} {mg : Str → Option Value} {base : Heap}
theorem ok__law_shuffled (F : Def K mg "_law_shuffled" s__law_shuffled P__law_shuffled) (m_list : mg "list" = none) (m_reversed : mg "reversed" = none) (m_range : mg "range" = none) (m_len : mg "len" = none) (C__law_take : Cal P w K mg base 1 "_law_take" P__law_take spTake) : Cal P w K mg base 2 "_law_shuffled" P__law_shuffled (spShuffled K) := by
  refine F.ok sc__law_shuffled (fun vs H Q E h => ?_) (fun f cdv A outer s H vs Q E hr h => ?_)
  · obtain ⟨st, c, a, xs, rfl, _⟩ := h
    rfl
  obtain ⟨st, c, a, xs, rfl, hs, ha, hl, q⟩ := h
  refine ⟨_, (pss_cons (ps_set (i := 2) sc__law_shuffled.nd rfl (Or.inl rfl) (pe_callTy q_list (by rfl) m_list bb_list (pa_cons (pv 1 (hd := nd_items) (hcd := nc_items)) pa_nil) (hn := nn_list) (hdb := nd_list)))
  (pss_cons (ps_set (i := 3) sc__law_shuffled.nd rfl (Or.inl rfl) (pe_cal C__law_take hr (pa_cons (pv 0 (hd := nd_store) (hcd := nc_store)) (pa_cons pe_int pa_nil)) (hdb := nd__law_take)))
  (pss_cons (ps_if (pt_cmpR op_eq (pv 3 (hd := nd_style) (hcd := nc_style)) pe_int (nomark _)) (pss_one (ps_ret (pv 2 (hd := nd_row) (hcd := nc_row)))) pss_nil)
  (pss_cons (ps_if (pt_cmpR op_eq (pv 3 (hd := nd_style) (hcd := nc_style)) pe_int (nomark _)) (pss_one (ps_ret (pe_lstRev (by rfl) (by rfl) m_list (by rfl) m_reversed (pv 2 (hd := nd_row) (hcd := nc_row))))) pss_nil)
  (pss_cons (ps_for PassesOwn.never rfl (pi_range1 (by rfl) m_range (pa_cons (pe_op op_sub (pe_callB q_len (by rfl) m_len PySem.boot_len (pa_cons (pv 2 (hd := nd_row) (hcd := nc_row)) pa_nil) (hn := nn_len) (hdb := nd_len)) pe_int) pa_nil)) (pg_name (i := 4) sc__law_shuffled.nd rfl (Or.inl rfl)) (pss_cons (ps_set (i := 5) sc__law_shuffled.nd rfl (Or.inl rfl) (pe_op op_add (pv 4 (hd := nd_k) (hcd := nc_k)) (pe_cal C__law_take hr (pa_cons (pv 0 (hd := nd_store) (hcd := nc_store)) (pa_cons (pe_op op_sub (pe_callB q_len (by rfl) m_len PySem.boot_len (pa_cons (pv 2 (hd := nd_row) (hcd := nc_row)) pa_nil) (hn := nn_len) (hdb := nd_len)) (pv 4 (hd := nd_k) (hcd := nc_k))) pa_nil)) (hdb := nd__law_take))))
  (pss_cons (ps_set (i := 6) sc__law_shuffled.nd rfl (Or.inl rfl) (pe_ix ix_list (pv 2 (hd := nd_row) (hcd := nc_row)) (pv 4 (hd := nd_k) (hcd := nc_k)) (fun _ _ => rfl)))
  (pss_cons (ps_asg (pe_ix ix_list (pv 2 (hd := nd_row) (hcd := nc_row)) (pv 5 (hd := nd_at) (hcd := nc_at)) (fun _ _ => rfl)) (pg_sub (pv 2 (hd := nd_row) (hcd := nc_row)) (pv 4 (hd := nd_k) (hcd := nc_k)) set_list))
  (pss_one (ps_asg (pv 6 (hd := nd_kept) (hcd := nc_kept)) (pg_sub (pv 2 (hd := nd_row) (hcd := nc_row)) (pv 5 (hd := nd_at) (hcd := nc_at)) set_list)))))))
  (pss_one (ps_ret (pv 2 (hd := nd_row) (hcd := nc_row))))))))), ?_⟩
  refine Rd.at0 (σ := [some (.ref st), some (.ref a), none, none, none, none, none]) rfl ?_
  repeat' (walk_at "rd")
  intro p hp
  have pst := hs.off hp
  have g0 : Go st c H (upd H p (.lst xs)) := (Go.refl hs).new hp _
  repeat' (walk_at "rd")
  refine ⟨st, c, 6, rfl, g0.ok, by decide, fun e H1 e0 e6 g1 => ?_⟩
  have hp1 : H1 p = some (.lst xs) := g1.keep p _ pst.1 upd_same
  have g01 := g0.trans g1
  repeat' (walk_at "rd")
  · exact q p xs H1 (.refl _) hp g01 hp1
  · intro r hr1
    exact q r xs.reverse _ (List.reverse_perm xs) (g01.free hr1) (g01.new hr1 _) upd_same
  refine forR (fun i σ H' => ∃ (ys : List V) (v4 v5 v6 : Option V), σ = [some (.ref st), some (.ref a), some (.ref p), some (.int e), v4, v5, v6] ∧ ys.Perm xs ∧ H' p = some (.lst ys) ∧ Go st c H H')
    ⟨xs, none, none, none, rfl, .refl _, hp1, g01⟩ ?_ ?_
  · rintro i σ H' hi ⟨ys, v4, v5, v6, rfl, pm, hp', g⟩
    have hy : ys.length = xs.length := pm.length_eq
    have hi2 : i + 1 < ys.length := by omega
    repeat' (walk_at "rd")
    refine ⟨st, c, _, rfl, g.ok, by omega, fun r H2 r0 r1 g2 => ?_⟩
    have hp2 : H2 p = some (.lst ys) := g2.keep p _ pst.1 hp'
    have hr2 : 0 + (i : Int) + r < (ys.length : Int) := by omega
    have x1 : ys[(0 + (i : Int)).toNat]? = some ys[i] := by
      rw [show (0 + (i : Int)).toNat = i by omega]
      exact List.getElem?_eq_getElem (by omega)
    have j2 : (0 + (i : Int) + r).toNat < ys.length := by omega
    have x2 : ys[(0 + (i : Int) + r).toNat]? = some ys[(0 + (i : Int) + r).toNat] := List.getElem?_eq_getElem j2
    repeat' (walk_at "rd")
    refine ixN' (.inl (.inl hp2)) (by omega) x1 ?_
    repeat' (walk_at "rd")
    refine ixN' (.inl (.inl hp2)) (by omega) x2 ?_
    repeat' (walk_at "rd")
    refine setN' hp2 (by omega) (by omega) ?_
    repeat' (walk_at "rd")
    refine setN' upd_same (by omega) (by rw [List.length_set]; omega) ?_
    repeat' (walk_at "rd")
    rw [upd_upd]
    exact ⟨_, _, _, _, rfl, (swap_perm x1 x2).trans pm, upd_same, (g.trans g2).write hp pst _⟩
  · rintro σ H' ⟨ys, v4, v5, v6, rfl, pm, hp', g⟩
    repeat' (walk_at "rd")
    exact q p ys H' pm hp g hp'
end
end Kj
namespace Kj
open PySem PySem.Spec PyProof.Rows L2 Rd
/-! ### the stepper -/
local macro_rules | `(tactic| walk_at "hp") => `(tactic| first
  | assumption
  | exact upd_same
  | (refine Eq.trans (upd_ne (by first | assumption | (apply Ne.symm; assumption))) ?_; walk_at "hp"))
local macro_rules | `(tactic| walk_at "sq") => `(tactic| first
  | assumption
  | (refine Or.inl (Or.inl ?_); walk_at "hp"))
local macro_rules | `(tactic| walk_at "st") => `(tactic| first
  | assumption
  | (refine Or.inl (Or.inl ?_); walk_at "hp"))
local macro_rules | `(tactic| walk_at "ar") => `(tactic| first
  | assumption
  | omega
  | decide)
local macro_rules | `(tactic| walk_at "ci") => `(tactic| first
  | (refine (show CMul _ _ from Or.inr ⟨?_, ?_⟩) <;> omega)
  | (refine (show CMul _ _ from Or.inl ⟨?_, ?_⟩) <;> omega)
  | (show CPow _ _; exact ⟨by decide, by decide, by decide⟩)
  | (refine wide_div (b := 63) ?_ ?_ (by decide) (by decide) <;> omega)
  | (show (0 : Int) < _; omega))
local macro_rules | `(tactic| walk_at "ty") => `(tactic| first
  | exact dp_ty (by assumption)
  | exact TyX.base (TyOf.int _)
  | exact TyX.base (TyOf.str _)
  | exact TyX.base (TyOf.bl _)
  | exact TyX.base TyOf.non
  | exact tyL' (by walk_at "sq")
  | exact tyT' (by walk_at "st"))
local macro_rules | `(tactic| walk_at "isi") => `(tactic| first
  | ((with_reducible apply Rd.isiF); (walk_at "ty"); (decide))
  | ((with_reducible apply Rd.isiT); (walk_at "ty"); (decide)))
local macro_rules | `(tactic| walk_at "rd") => `(tactic| first
  | with_reducible apply Rd.seq
  | ((with_reducible apply Rd.var); rfl)
  | with_reducible apply Rd.con
  | with_reducible apply Rd.op
  | with_reducible apply Rd.asg
  | ((with_reducible apply Rd.gname); ((dsimp only [List.set, L2.wipe, Int.reduceToNat]) <;> rfl))
  | with_reducible apply Rd.nxt
  | with_reducible apply Rd.ifs
  | with_reducible apply Rd.test
  | with_reducible apply Rd.testB
  | with_reducible apply Rd.exbl
  | with_reducible apply Rd.ret
  | with_reducible apply Rd.drop
  | with_reducible apply Rd.retN
  | with_reducible apply Rd.nil
  | with_reducible apply Rd.cons
  | with_reducible apply Rd.call
  | with_reducible apply Rd.cb
  | with_reducible apply Rd.and
  | with_reducible apply Rd.or
  | with_reducible apply Rd.not
  | with_reducible apply Rd.andV
  | with_reducible apply Rd.orV
  | with_reducible apply Rd.notV
  | with_reducible apply Rd.ife
  | with_reducible apply Rd.tup
  | with_reducible apply Rd.lst
  | with_reducible apply Rd.un
  | with_reducible apply Rd.chain
  | with_reducible apply Rd.brk
  | with_reducible apply Rd.cnt
  | with_reducible apply Rd.I0
  | with_reducible apply Rd.U1
  | ((with_reducible apply Rd.eq); rfl)
  | ((with_reducible apply Rd.ne); rfl)
  | ((with_reducible apply Rd.I1); (walk_at "ci"))
  | with_reducible apply Rd.lc0
  | with_reducible apply Rd.ln0
  | with_reducible apply Rd.exN
  | ((with_reducible apply Rd.iteSf); (decide +kernel))
  | ((with_reducible apply Rd.iteSt); (decide +kernel))
  | ((with_reducible apply Rd.niQ); (exact Or.inl (by walk_at "sq")); (exact ⟨rfl, rfl⟩); (rfl))
  | ((with_reducible apply Rd.inQ); (exact Or.inl (by walk_at "sq")); (exact ⟨rfl, rfl⟩); (rfl))
  | with_reducible apply Rd.rn1
  | with_reducible apply Rd.in1
  | with_reducible apply Rd.sn1
  | with_reducible apply Rd.bn1
  | with_reducible apply Rd.nn1
  | with_reducible apply Rd.rn2
  | with_reducible apply Rd.in2
  | with_reducible apply Rd.sn2
  | with_reducible apply Rd.bn2
  | with_reducible apply Rd.nn2
  | with_reducible apply Rd.nt1
  | with_reducible apply Rd.nf1
  | (with_reducible refine Rd.iteI (fun _ => ?_) (fun _ => ?_))
  | (with_reducible refine Rd.iteNI (fun _ => ?_) (fun _ => ?_))
  | (with_reducible refine iteT ?_)
  | (with_reducible refine iteF ?_)
  | (with_reducible refine Rd.iteD (fun _ => ?_) (fun _ => ?_))
  | (with_reducible refine Rd.iteN (fun _ => ?_) (fun _ => ?_))
  | with_reducible apply Rd.intI
  | with_reducible apply Rd.intB
  | with_reducible apply Rd.maxQ
  | with_reducible apply Rd.minQ
  | with_reducible apply Rd.absQ
  | with_reducible apply Rd.isN
  | with_reducible apply Rd.noN
  | with_reducible apply Rd.ltZ
  | with_reducible apply Rd.bm
  | with_reducible apply Rd.bm0
  | with_reducible apply Rd.par
  | with_reducible apply Rd.expar
  | with_reducible apply Rd.exint
  | with_reducible apply Rd.ipi
  | with_reducible apply Rd.slice
  | with_reducible apply Rd.noPart
  | with_reducible apply Rd.part
  | with_reducible apply Rd.gcons
  | with_reducible apply Rd.gnil
  | with_reducible apply Rd.iseq
  | with_reducible apply Rd.irng1
  | walk_at "isi"
  | with_reducible apply Rd.forX
  | with_reducible apply Rd.lstRev
  | with_reducible apply Rd.lstRg
  | with_reducible apply Rd.rg1
  | with_reducible apply Rd.rg2
  | with_reducible apply Rd.exint2
  | ((with_reducible apply Rd.exrev); (walk_at "sq"))
  | with_reducible apply Rd.lcX
  | with_reducible apply Rd.yes
  | ((with_reducible apply Rd.exrng1); (constructor <;> omega))
  | ((with_reducible apply Rd.exrng2); (refine ⟨?_, ?_, ?_, ?_⟩ <;> omega))
  | with_reducible apply Rd.irng2
  | ((with_reducible apply Rd.aug); rfl)
  | ((with_reducible apply Rd.exlst); (walk_at "sq"))
  | ((with_reducible apply Rd.gtup); (walk_at "st"); (rfl))
  | ((with_reducible apply Rd.tyL); (walk_at "hp"))
  | ((with_reducible apply Rd.ixL); (walk_at "sq"); (rfl))
  | ((with_reducible apply Rd.ixI); (walk_at "sq"); (omega); (first | assumption | (simp only [List.length_map]; omega)); (intro _ _))
  | (with_reducible refine Rd.gsub ?_)
  | ((with_reducible apply Rd.setL); (walk_at "hp"); (rfl); ((dsimp only [List.set, L2.wipe, Int.reduceToNat]) <;> rfl))
  | ((with_reducible apply Rd.lenQ); (first | exact Or.inl (by walk_at "sq") | exact Or.inr (by walk_at "st")))
  | ((with_reducible apply Rd.listQ); (first | exact Or.inl (by walk_at "sq") | exact Or.inr (by walk_at "st")))
  | ((with_reducible apply Rd.tupQ); (walk_at "sq"))
  | ((with_reducible apply Rd.slL); (walk_at "sq"))
  | ((with_reducible apply Rd.ixT); (walk_at "st"); (rfl))
  | (with_reducible refine Rd.iteB (fun _ => ?_) (fun _ => ?_))
  | (with_reducible refine Rd.iteNB (fun _ => ?_) (fun _ => ?_))
  | (refine Rd.andI (Nat.le_of_ble_eq_true rfl) ?_)
  | dsimp only [List.set])
/-! ### drawn names -/
section
variable {P : Program} {w : World} {K : PySem.W.Frag} {mg : Str → Option Value} {base : Heap}
abbrev A26 : Str := "abcdefghijklmnopqrstuvwxyz"
abbrev A36 : Str := "0123456789abcdefghijklmnopqrstuvwxyz"
theorem a26 : A26.length = 26 ∧ ∀ c ∈ cl A26, Low c := by decide +kernel
theorem a36 : A36.length = 36 ∧ ∀ c ∈ cl A36, Aln c := by decide +kernel
/-- _law_name(store): a name of 1 to 12 signs -/
def spName : Sp := fun vs H Q _ => ∃ (st c : Addr), vs = [.ref st] ∧ StoreAt H st c ∧ ∀ (z : Str) (H' : Hp), Nm (cl z) → z.length ≤ 12 → Go st c H H' → Q (.str z) H'
theorem ok__law_name (F : Def K mg "_law_name" s__law_name P__law_name) (m_range : mg "range" = none) (C__law_take : Cal P w K mg base 1 "_law_take" P__law_take spTake) (C__law_between : Cal P w K mg base 2 "_law_between" P__law_between spBetween) : Cal P w K mg base 3 "_law_name" P__law_name spName := by
  refine F.ok sc__law_name (fun vs H Q E h => ?_) (fun f cdv A outer s H vs Q E hr h => ?_)
  · obtain ⟨st, c, rfl, _⟩ := h
    rfl
  obtain ⟨st, c, rfl, hs, q⟩ := h
  refine ⟨_, (pss_cons (ps_set (i := 1) sc__law_name.nd rfl (Or.inl rfl) (pe_cal C__law_between hr (pa_cons (pv 0 (hd := nd_store) (hcd := nc_store)) (pa_cons pe_int (pa_cons pe_int pa_nil))) (hdb := nd__law_between)))
  (pss_cons (ps_set (i := 2) sc__law_name.nd rfl (Or.inl rfl) (pe_ix ix_str pe_str (pe_cal C__law_take hr (pa_cons (pv 0 (hd := nd_store) (hcd := nc_store)) (pa_cons pe_int pa_nil)) (hdb := nd__law_take)) (fun _ _ => rfl)))
  (pss_cons (ps_set (i := 3) sc__law_name.nd rfl (Or.inl rfl) (pe_cmpR op_eq (pe_cal C__law_take hr (pa_cons (pv 0 (hd := nd_store) (hcd := nc_store)) (pa_cons pe_int pa_nil)) (hdb := nd__law_take)) pe_int (nomark _)))
  (pss_cons (ps_for PassesOwn.never rfl (pi_range1 (by rfl) m_range (pa_cons (pe_op op_sub (pv 1 (hd := nd_size) (hcd := nc_size)) pe_int) pa_nil)) (pg_name (i := 4) sc__law_name.nd rfl (Or.inl rfl)) (pss_one (ps_if (pt_val (pv 3 (hd := nd_alike) (hcd := nc_alike))) (pss_one (ps_set (i := 2) sc__law_name.nd rfl (Or.inl rfl) (pe_op o_addZ (pv 2 (hd := nd_word) (hcd := nc_word)) (pe_ix ix_str (pv 2 (hd := nd_word) (hcd := nc_word)) pe_int (fun _ _ => rfl))))) (pss_one (ps_set (i := 2) sc__law_name.nd rfl (Or.inl rfl) (pe_op o_addZ (pv 2 (hd := nd_word) (hcd := nc_word)) (pe_ix ix_str pe_str (pe_cal C__law_take hr (pa_cons (pv 0 (hd := nd_store) (hcd := nc_store)) (pa_cons pe_int pa_nil)) (hdb := nd__law_take)) (fun _ _ => rfl))))))))
  (pss_one (ps_ret (pv 2 (hd := nd_word) (hcd := nc_word)))))))), ?_⟩
  refine Rd.at0 (σ := [some (.ref st), none, none, none, none]) rfl ?_
  repeat' (walk_at "rd")
  refine ⟨st, c, 1, 12, rfl, hs, by decide, fun size H1 s1 s2 g1 => ?_⟩
  repeat' (walk_at "rd")
  refine ⟨st, c, 26, rfl, g1.ok, by decide, fun r H2 r0 r1 g2 => ?_⟩
  refine sign (z := A26) (by rw [a26.1]; decide) (by omega) (by rw [a26.1]; omega) fun x _ hx => ?_
  have hx := a26.2 x hx
  repeat' (walk_at "rd")
  refine ⟨st, c, 3, rfl, g2.ok, by decide, fun t H3 t0 t1 g3 => ?_⟩
  repeat' (walk_at "rd")
  generalize decide (V.int t = V.int 0) = al
  refine forR (fun i σ H' => ∃ (z : Str) (v4 : Option V), σ = [some (.ref st), some (.int size), some (.str z), some (.bl al), v4] ∧ Nm (cl z) ∧ z.length = i + 1 ∧ Go st c H H')
    ⟨⟨#[x]⟩, none, rfl, ⟨x, [], rfl, hx, fun _ h => by cases h⟩, rfl, (g1.trans g2).trans g3⟩ ?_ ?_
  · rintro i σ H' hi ⟨z, v4, rfl, nz, lz, g⟩
    repeat' (walk_at "rd")
    · obtain ⟨x, ex, lx⟩ := nz.head
      refine sign (z := z) (by omega) (by decide) (by omega) fun y ey _ => ?_
      obtain rfl : x = y := Option.some.inj (ex.symm.trans ey)
      repeat' (walk_at "rd")
      refine addZ (by rw [one_len]; exact sz5 (by omega)) ?_
      repeat' (walk_at "rd")
      refine ⟨_, _, rfl, ?_, ?_, g⟩
      · rw [cl_add, cl_one]
        exact nz.snoc (.inl lx)
      · rw [add_len, one_len, lz]
    · refine ⟨st, c, 36, rfl, g.ok, by decide, fun r H4 r0 r1 g4 => ?_⟩
      refine sign (z := A36) (by rw [a36.1]; decide) (by omega) (by rw [a36.1]; omega) fun x _ hx => ?_
      have hx := a36.2 x hx
      repeat' (walk_at "rd")
      refine addZ (by rw [one_len]; exact sz5 (by omega)) ?_
      repeat' (walk_at "rd")
      refine ⟨_, _, rfl, ?_, ?_, g.trans g4⟩
      · rw [cl_add, cl_one]
        exact nz.snoc hx
      · rw [add_len, one_len, lz]
  · rintro σ H' ⟨z, v4, rfl, nz, lz, g⟩
    repeat' (walk_at "rd")
    exact q z H' nz (by omega) g
end
end Kj
namespace Kj
open PySem PySem.Spec PyProof.Rows L2 Rd
/-! ### the stepper -/
local macro_rules | `(tactic| walk_at "hp") => `(tactic| first
  | assumption
  | exact upd_same
  | (refine Eq.trans (upd_ne (by first | assumption | (apply Ne.symm; assumption))) ?_; walk_at "hp"))
local macro_rules | `(tactic| walk_at "sq") => `(tactic| first
  | assumption
  | (refine Or.inl (Or.inl ?_); walk_at "hp"))
local macro_rules | `(tactic| walk_at "st") => `(tactic| first
  | assumption
  | (refine Or.inl (Or.inl ?_); walk_at "hp"))
local macro_rules | `(tactic| walk_at "ar") => `(tactic| first
  | assumption
  | omega
  | decide)
local macro_rules | `(tactic| walk_at "ci") => `(tactic| first
  | (refine (show CMul _ _ from Or.inr ⟨?_, ?_⟩) <;> omega)
  | (refine (show CMul _ _ from Or.inl ⟨?_, ?_⟩) <;> omega)
  | (show CPow _ _; exact ⟨by decide, by decide, by decide⟩)
  | (refine wide_div (b := 63) ?_ ?_ (by decide) (by decide) <;> omega)
  | (show (0 : Int) < _; omega))
local macro_rules | `(tactic| walk_at "ty") => `(tactic| first
  | exact dp_ty (by assumption)
  | exact TyX.base (TyOf.int _)
  | exact TyX.base (TyOf.str _)
  | exact TyX.base (TyOf.bl _)
  | exact TyX.base TyOf.non
  | exact tyL' (by walk_at "sq")
  | exact tyT' (by walk_at "st"))
local macro_rules | `(tactic| walk_at "isi") => `(tactic| first
  | ((with_reducible apply Rd.isiF); (walk_at "ty"); (decide))
  | ((with_reducible apply Rd.isiT); (walk_at "ty"); (decide)))
local macro_rules | `(tactic| walk_at "rd") => `(tactic| first
  | with_reducible apply Rd.seq
  | ((with_reducible apply Rd.var); rfl)
  | with_reducible apply Rd.con
  | with_reducible apply Rd.op
  | with_reducible apply Rd.asg
  | ((with_reducible apply Rd.gname); ((dsimp only [List.set, L2.wipe, Int.reduceToNat]) <;> rfl))
  | with_reducible apply Rd.nxt
  | with_reducible apply Rd.ifs
  | with_reducible apply Rd.test
  | with_reducible apply Rd.testB
  | with_reducible apply Rd.exbl
  | with_reducible apply Rd.ret
  | with_reducible apply Rd.drop
  | with_reducible apply Rd.retN
  | with_reducible apply Rd.nil
  | with_reducible apply Rd.cons
  | with_reducible apply Rd.call
  | with_reducible apply Rd.cb
  | with_reducible apply Rd.and
  | with_reducible apply Rd.or
  | with_reducible apply Rd.not
  | with_reducible apply Rd.andV
  | with_reducible apply Rd.orV
  | with_reducible apply Rd.notV
  | with_reducible apply Rd.ife
  | with_reducible apply Rd.tup
  | with_reducible apply Rd.lst
  | with_reducible apply Rd.un
  | with_reducible apply Rd.chain
  | with_reducible apply Rd.brk
  | with_reducible apply Rd.cnt
  | with_reducible apply Rd.I0
  | with_reducible apply Rd.U1
  | ((with_reducible apply Rd.eq); rfl)
  | ((with_reducible apply Rd.ne); rfl)
  | ((with_reducible apply Rd.I1); (walk_at "ci"))
  | with_reducible apply Rd.lc0
  | with_reducible apply Rd.ln0
  | with_reducible apply Rd.exN
  | ((with_reducible apply Rd.iteSf); (decide +kernel))
  | ((with_reducible apply Rd.iteSt); (decide +kernel))
  | ((with_reducible apply Rd.niQ); (exact Or.inl (by walk_at "sq")); (exact ⟨rfl, rfl⟩); (rfl))
  | ((with_reducible apply Rd.inQ); (exact Or.inl (by walk_at "sq")); (exact ⟨rfl, rfl⟩); (rfl))
  | with_reducible apply Rd.rn1
  | with_reducible apply Rd.in1
  | with_reducible apply Rd.sn1
  | with_reducible apply Rd.bn1
  | with_reducible apply Rd.nn1
  | with_reducible apply Rd.rn2
  | with_reducible apply Rd.in2
  | with_reducible apply Rd.sn2
  | with_reducible apply Rd.bn2
  | with_reducible apply Rd.nn2
  | with_reducible apply Rd.nt1
  | with_reducible apply Rd.nf1
  | (with_reducible refine Rd.iteI (fun _ => ?_) (fun _ => ?_))
  | (with_reducible refine Rd.iteNI (fun _ => ?_) (fun _ => ?_))
  | (with_reducible refine iteT ?_)
  | (with_reducible refine iteF ?_)
  | (with_reducible refine Rd.iteD (fun _ => ?_) (fun _ => ?_))
  | (with_reducible refine Rd.iteN (fun _ => ?_) (fun _ => ?_))
  | with_reducible apply Rd.intI
  | with_reducible apply Rd.intB
  | with_reducible apply Rd.maxQ
  | with_reducible apply Rd.minQ
  | with_reducible apply Rd.absQ
  | with_reducible apply Rd.isN
  | with_reducible apply Rd.noN
  | with_reducible apply Rd.ltZ
  | with_reducible apply Rd.bm
  | with_reducible apply Rd.bm0
  | with_reducible apply Rd.par
  | with_reducible apply Rd.expar
  | with_reducible apply Rd.exint
  | with_reducible apply Rd.ipi
  | with_reducible apply Rd.slice
  | with_reducible apply Rd.noPart
  | with_reducible apply Rd.part
  | with_reducible apply Rd.gcons
  | with_reducible apply Rd.gnil
  | with_reducible apply Rd.iseq
  | with_reducible apply Rd.irng1
  | walk_at "isi"
  | with_reducible apply Rd.forX
  | with_reducible apply Rd.lstRev
  | with_reducible apply Rd.lstRg
  | with_reducible apply Rd.rg1
  | with_reducible apply Rd.rg2
  | with_reducible apply Rd.exint2
  | ((with_reducible apply Rd.exrev); (walk_at "sq"))
  | with_reducible apply Rd.lcX
  | with_reducible apply Rd.yes
  | ((with_reducible apply Rd.exrng1); (constructor <;> omega))
  | ((with_reducible apply Rd.exrng2); (refine ⟨?_, ?_, ?_, ?_⟩ <;> omega))
  | with_reducible apply Rd.irng2
  | ((with_reducible apply Rd.aug); rfl)
  | ((with_reducible apply Rd.exlst); (walk_at "sq"))
  | ((with_reducible apply Rd.gtup); (walk_at "st"); (rfl))
  | ((with_reducible apply Rd.tyL); (walk_at "hp"))
  | ((with_reducible apply Rd.ixL); (walk_at "sq"); (rfl))
  | ((with_reducible apply Rd.ixI); (walk_at "sq"); (omega); (first | assumption | (simp only [List.length_map]; omega)); (intro _ _))
  | (with_reducible refine Rd.gsub ?_)
  | ((with_reducible apply Rd.setL); (walk_at "hp"); (rfl); ((dsimp only [List.set, L2.wipe, Int.reduceToNat]) <;> rfl))
  | ((with_reducible apply Rd.lenQ); (first | exact Or.inl (by walk_at "sq") | exact Or.inr (by walk_at "st")))
  | ((with_reducible apply Rd.listQ); (first | exact Or.inl (by walk_at "sq") | exact Or.inr (by walk_at "st")))
  | ((with_reducible apply Rd.tupQ); (walk_at "sq"))
  | ((with_reducible apply Rd.slL); (walk_at "sq"))
  | ((with_reducible apply Rd.ixT); (walk_at "st"); (rfl))
  | (with_reducible refine Rd.iteB (fun _ => ?_) (fun _ => ?_))
  | (with_reducible refine Rd.iteNB (fun _ => ?_) (fun _ => ?_))
  | (refine Rd.andI (Nat.le_of_ble_eq_true rfl) ?_)
  | dsimp only [List.set])
/-! ### one of a text's signs, one of a list's items; drawn names -/
section
variable {P : Program} {w : World} {K : PySem.W.Frag} {mg : Str → Option Value} {base : Heap}
theorem Go.seq {st c a : Addr} {H H' : Hp} {xs : List V} (g : Go st c H H') (n : a ≠ st) (h : SqL K H a xs) : SqL K H' a xs := by
  rcases h with (h | ⟨o, h⟩) | h
  · exact .inl (.inl (g.keep _ _ n h))
  · exact .inl (.inr ⟨o, g.keep _ _ n h⟩)
  · exact .inr h
/-- _law_pick(store, z) of a text: one of its signs -/
def spPickZ : Sp := fun vs H Q _ => ∃ (st c : Addr) (z : Str), vs = [.ref st, .str z] ∧ StoreAt H st c ∧ 1 ≤ z.length ∧ z.length ≤ 1000 ∧ ∀ (x : Nat) (H' : Hp), x ∈ cl z → Go st c H H' → Q (.str ⟨#[x]⟩) H'
/-- _law_pick(store, items) of a list: one of its items, None if there is none -/
def spPickL (K : PySem.W.Frag) : Sp := fun vs H Q _ => ∃ (st c a : Addr) (xs : List V), vs = [.ref st, .ref a] ∧ StoreAt H st c ∧ a ≠ st ∧ SqL K H a xs ∧ xs.length ≤ 100000 ∧ (xs = [] → Q .non H) ∧ ∀ (x : V) (H' : Hp), x ∈ xs → Go st c H H' → Q x H'
def spPick (K : PySem.W.Frag) : Sp := fun vs H Q E => spPickZ vs H Q E ∨ spPickL K vs H Q E
theorem ok__law_pick (F : Def K mg "_law_pick" s__law_pick P__law_pick) (m_len : mg "len" = none) (C__law_take : Cal P w K mg base 1 "_law_take" P__law_take spTake) : Cal P w K mg base 2 "_law_pick" P__law_pick (spPick K) := by
  refine F.ok sc__law_pick (fun vs H Q E h => ?_) (fun f cdv A outer s H vs Q E hr h => ?_)
  · rcases h with ⟨st, c, z, rfl, _⟩ | ⟨st, c, a, xs, rfl, _⟩ <;> rfl
  rcases h with ⟨st, c, z, rfl, hs, l1, l2, q⟩ | ⟨st, c, a, xs, rfl, hs, na, ha, l2, qn, q⟩
  · refine ⟨_, (pss_cons (ps_if (pt_cmpR op_eq (pe_callB q_lenZ (by rfl) m_len PySem.boot_len (pa_cons (pv 1 (hd := nd_items) (hcd := nc_items)) pa_nil) (hn := nn_len) (hdb := nd_len)) pe_int (nomark _)) (pss_one (ps_ret pe_non)) pss_nil)
  (pss_one (ps_ret (pe_ix ix_str (pv 1 (hd := nd_items) (hcd := nc_items)) (pe_cal C__law_take hr (pa_cons (pv 0 (hd := nd_store) (hcd := nc_store)) (pa_cons (pe_callB q_lenZ (by rfl) m_len PySem.boot_len (pa_cons (pv 1 (hd := nd_items) (hcd := nc_items)) pa_nil) (hn := nn_len) (hdb := nd_len)) pa_nil)) (hdb := nd__law_take)) (fun _ _ => rfl))))), ?_⟩
    refine Rd.at0 (σ := [some (.ref st), some (.str z)]) rfl ?_
    have lz : z.length ≤ sizeLine := sz5 (by omega)
    repeat' (walk_at "rd")
    refine lenZ lz ?_
    repeat' (walk_at "rd")
    · exfalso
      omega
    refine lenZ lz ?_
    refine ⟨st, c, _, rfl, hs, by omega, fun r H1 r0 r1 g => ?_⟩
    exact sign (by omega) r0 (by omega) fun x _ hx => q x H1 hx g
  · refine ⟨_, (pss_cons (ps_if (pt_cmpR op_eq (pe_callB q_len (by rfl) m_len PySem.boot_len (pa_cons (pv 1 (hd := nd_items) (hcd := nc_items)) pa_nil) (hn := nn_len) (hdb := nd_len)) pe_int (nomark _)) (pss_one (ps_ret pe_non)) pss_nil)
  (pss_one (ps_ret (pe_ix ix_list (pv 1 (hd := nd_items) (hcd := nc_items)) (pe_cal C__law_take hr (pa_cons (pv 0 (hd := nd_store) (hcd := nc_store)) (pa_cons (pe_callB q_len (by rfl) m_len PySem.boot_len (pa_cons (pv 1 (hd := nd_items) (hcd := nc_items)) pa_nil) (hn := nn_len) (hdb := nd_len)) pa_nil)) (hdb := nd__law_take)) (fun _ _ => rfl))))), ?_⟩
    refine Rd.at0 (σ := [some (.ref st), some (.ref a)]) rfl ?_
    by_cases e : xs = []
    · subst e
      repeat' (walk_at "rd")
      exact qn rfl
    have l1 := List.length_pos_iff.mpr e
    repeat' (walk_at "rd")
    · exfalso
      omega
    refine ⟨st, c, _, rfl, hs, by omega, fun r H1 r0 r1 g => ?_⟩
    have lt : r.toNat < xs.length := by omega
    exact ixN' (g.seq na ha) r0 (List.getElem?_eq_getElem lt) (q _ H1 (List.getElem_mem lt) g)
/-- _law_names(store, many): new names, all different -/
def spNames : Sp := fun vs H Q _ => ∃ (st c : Addr) (m : Int), vs = [.ref st, .int m] ∧ StoreAt H st c ∧ 0 ≤ m ∧ m ≤ 1000 ∧ ∀ (L : Addr) (zs : List Str) (H' : Hp), (zs.length : Int) = m → (∀ z ∈ zs, NmS z) → zs.Nodup → H L = none → Go st c H H' → H' L = some (.lst (zs.map V.str)) → Q (.ref L) H'
/-- two texts of which the first one has n signs -/
theorem two_at {a t : List Nat} {x y : Nat} : (a ++ ([x, y] ++ t))[a.length]? = some x ∧ (a ++ ([x, y] ++ t))[a.length + 1]? = some y := by
  constructor
  · rw [List.getElem?_append_right (Nat.le_refl _), Nat.sub_self]
    rfl
  · rw [List.getElem?_append_right (Nat.le_add_right a.length 1), Nat.add_sub_cancel_left]
    rfl
theorem snoc_at {α : Type} {zs : List α} {z y : α} {j : Nat} (h : (zs ++ [z])[j]? = some y) : (j < zs.length ∧ zs[j]? = some y) ∨ (j = zs.length ∧ y = z) := by
  by_cases l : j < zs.length
  · rw [List.getElem?_append_left l] at h
    exact .inl ⟨l, h⟩
  · rw [List.getElem?_append_right (by omega)] at h
    by_cases e : j - zs.length = 0
    · rw [e] at h
      exact .inr ⟨by omega, (Option.some.inj h).symm⟩
    · obtain ⟨k, hk⟩ : ∃ k, j - zs.length = k + 1 := ⟨j - zs.length - 1, by omega⟩
      rw [hk] at h
      cases h
theorem cl_str {l : List Nat} : cl ⟨l.toArray⟩ = l := by simp [cl]
theorem permS {ys : List V} {zs : List Str} (p : ys.Perm (zs.map V.str)) : ∃ ks : List Str, ys = ks.map V.str ∧ ks.Perm zs := by
  refine ⟨ys.map fun v => match v with | .str z => z | _ => "", ?_, ?_⟩
  · rw [List.map_map]
    conv => lhs; rw [← List.map_id ys]
    refine List.map_congr_left fun y hy => ?_
    obtain ⟨z, _, rfl⟩ := List.mem_map.mp (p.mem_iff.mp hy)
    rfl
  · have := p.map fun v => match v with | .str z => z | _ => ""
    rw [List.map_map] at this
    simpa [Function.comp_def] using this
local macro_rules | `(tactic| walk_at "sz") => `(tactic| first
  | exact sz5 (by omega)
  | (simp only [add_len, one_len]; exact sz5 (by omega)))
local macro_rules | `(tactic| walk_at "rd") => `(tactic| first
  | ((with_reducible apply Rd.lenZ); (walk_at "sz"))
  | ((with_reducible apply Rd.addZ); (walk_at "sz")))
theorem ok__law_names (F : Def K mg "_law_names" s__law_names P__law_names) (m_range : mg "range" = none) (m_int : mg "int" = none) (C__law_take : Cal P w K mg base 1 "_law_take" P__law_take spTake) (C__law_pick : Cal P w K mg base 2 "_law_pick" P__law_pick (spPick K)) (C__law_shuffled : Cal P w K mg base 2 "_law_shuffled" P__law_shuffled (spShuffled K)) : Cal P w K mg base 3 "_law_names" P__law_names spNames := by
  refine F.ok sc__law_names (fun vs H Q E h => ?_) (fun f cdv A outer s H vs Q E hr h => ?_)
  · obtain ⟨st, c, m, rfl, _⟩ := h
    rfl
  obtain ⟨st, c, m, rfl, hs, m0, m1, q⟩ := h
  refine ⟨_, (pss_cons (ps_set (i := 2) sc__law_names.nd rfl (Or.inl rfl) pe_str)
  (pss_cons (ps_set (i := 3) sc__law_names.nd rfl (Or.inl rfl) (pe_op o_addZ pe_str (pv 2 (hd := nd_letters) (hcd := nc_letters))))
  (pss_cons (ps_set (i := 4) sc__law_names.nd rfl (Or.inl rfl) (pe_cal C__law_take hr (pa_cons (pv 0 (hd := nd_store) (hcd := nc_store)) (pa_cons pe_int pa_nil)) (hdb := nd__law_take)))
  (pss_cons (ps_set (i := 5) sc__law_names.nd rfl (Or.inl rfl) (pe_cal C__law_pick hr (pa_cons (pv 0 (hd := nd_store) (hcd := nc_store)) (pa_cons (pv 2 (hd := nd_letters) (hcd := nc_letters)) pa_nil)) (hdb := nd__law_pick)))
  (pss_cons (ps_set (i := 6) sc__law_names.nd rfl (Or.inl rfl) (pe_lst pa_nil))
  (C8.pss_cut (ps_if (PW.pt (pw_and (pt_cmpR op_eq (pv 4 (hd := nd_style) (hcd := nc_style)) pe_int (nomark _)) (pw_and1 (pt_cmpR op_le (pv 1 (hd := nd_many) (hcd := nc_many)) pe_int (nomark _))))) (pss_cons (ps_set (i := 7) sc__law_names.nd rfl (Or.inl rfl) (pe_cal C__law_pick hr (pa_cons (pv 0 (hd := nd_store) (hcd := nc_store)) (pa_cons (pv 3 (hd := nd_signs) (hcd := nc_signs)) pa_nil)) (hdb := nd__law_pick)))
  (pss_cons (ps_for PassesOwn.never rfl (pi_range1 (by rfl) m_range (pa_cons (pv 1 (hd := nd_many) (hcd := nc_many)) pa_nil)) (pg_name (i := 8) sc__law_names.nd rfl (Or.inl rfl)) (pss_one (ps_expr (pe_bm PySem.F.plainAttrs_list PySem.F.slot_list_append PySem.F.type_list_append mt_append (pv 6 (hd := nd_names) (hcd := nc_names)) (pa_cons (pe_op o_addZ (pv 5 (hd := nd_first) (hcd := nc_first)) (pe_op op_rep_str (pv 7 (hd := nd_sign) (hcd := nc_sign)) (pv 8 (hd := nd_k) (hcd := nc_k)))) pa_nil)))))
  (pss_one (ps_ret (pe_cal C__law_shuffled hr (pa_cons (pv 0 (hd := nd_store) (hcd := nc_store)) (pa_cons (pv 6 (hd := nd_names) (hcd := nc_names)) pa_nil)) (hdb := nd__law_shuffled)))))) pss_nil)
  (C8.pss_cut (ps_if (PW.pt (pw_and (pt_cmpR op_lt (pv 4 (hd := nd_style) (hcd := nc_style)) pe_int (nomark _)) (pw_and1 (pt_cmpR op_le (pv 1 (hd := nd_many) (hcd := nc_many)) pe_int (nomark _))))) (pss_cons (ps_set (i := 9) sc__law_names.nd rfl (Or.inl rfl) (pe_cal C__law_take hr (pa_cons (pv 0 (hd := nd_store) (hcd := nc_store)) (pa_cons pe_int pa_nil)) (hdb := nd__law_take)))
  (pss_cons (ps_for PassesOwn.never rfl (pi_range1 (by rfl) m_range (pa_cons (pv 1 (hd := nd_many) (hcd := nc_many)) pa_nil)) (pg_name (i := 8) sc__law_names.nd rfl (Or.inl rfl)) (pss_one (ps_expr (pe_bm PySem.F.plainAttrs_list PySem.F.slot_list_append PySem.F.type_list_append mt_append (pv 6 (hd := nd_names) (hcd := nc_names)) (pa_cons (pe_ix ix_str (pv 2 (hd := nd_letters) (hcd := nc_letters)) (pe_op op_mod (pe_callTy q_intI (by rfl) m_int bb_int (pa_cons (pe_op op_add (pv 9 (hd := nd_start) (hcd := nc_start)) (pv 8 (hd := nd_k) (hcd := nc_k))) pa_nil) (hn := nn_int) (hdb := nd_int)) pe_int) (fun _ _ => rfl)) pa_nil)))))
  (pss_one (ps_ret (pe_cal C__law_shuffled hr (pa_cons (pv 0 (hd := nd_store) (hcd := nc_store)) (pa_cons (pv 6 (hd := nd_names) (hcd := nc_names)) pa_nil)) (hdb := nd__law_shuffled)))))) pss_nil)
  (pss_cons (ps_set (i := 10) sc__law_names.nd rfl (Or.inl rfl) (pv 5 (hd := nd_first) (hcd := nc_first)))
  (pss_cons (ps_for PassesOwn.never rfl (pi_range1 (by rfl) m_range (pa_cons (pe_cal C__law_take hr (pa_cons (pv 0 (hd := nd_store) (hcd := nc_store)) (pa_cons pe_int pa_nil)) (hdb := nd__law_take)) pa_nil)) (pg_name (i := 8) sc__law_names.nd rfl (Or.inl rfl)) (pss_one (ps_set (i := 10) sc__law_names.nd rfl (Or.inl rfl) (pe_op o_addZ (pv 10 (hd := nd_ahead) (hcd := nc_ahead)) (pe_cal C__law_pick hr (pa_cons (pv 0 (hd := nd_store) (hcd := nc_store)) (pa_cons (pv 3 (hd := nd_signs) (hcd := nc_signs)) pa_nil)) (hdb := nd__law_pick))))))
  (pss_cons (ps_set (i := 11) sc__law_names.nd rfl (Or.inl rfl) (pe_op op_rep_str (pe_cal C__law_pick hr (pa_cons (pv 0 (hd := nd_store) (hcd := nc_store)) (pa_cons (pv 3 (hd := nd_signs) (hcd := nc_signs)) pa_nil)) (hdb := nd__law_pick)) (pe_cal C__law_take hr (pa_cons (pv 0 (hd := nd_store) (hcd := nc_store)) (pa_cons pe_int pa_nil)) (hdb := nd__law_take))))
  (pss_cons (ps_set (i := 9) sc__law_names.nd rfl (Or.inl rfl) (pe_cal C__law_take hr (pa_cons (pv 0 (hd := nd_store) (hcd := nc_store)) (pa_cons pe_int pa_nil)) (hdb := nd__law_take)))
  (pss_cons (ps_set (i := 12) sc__law_names.nd rfl (Or.inl rfl) (pe_ix ix_list (pe_lst (pa_cons pe_int (pa_cons pe_int (pa_cons pe_int (pa_cons (pe_op op_add pe_int pe_int) (pa_cons (pe_op op_sub pe_int pe_int) pa_nil)))))) (pe_cal C__law_take hr (pa_cons (pv 0 (hd := nd_store) (hcd := nc_store)) (pa_cons pe_int pa_nil)) (hdb := nd__law_take)) (fun _ _ => rfl)))
  (pss_cons (ps_for PassesOwn.never rfl (pi_range1 (by rfl) m_range (pa_cons (pv 1 (hd := nd_many) (hcd := nc_many)) pa_nil)) (pg_name (i := 8) sc__law_names.nd rfl (Or.inl rfl)) (pss_cons (ps_set (i := 13) sc__law_names.nd rfl (Or.inl rfl) (pe_op op_mod (pe_callTy q_intI (by rfl) m_int bb_int (pa_cons (pe_op op_add (pv 9 (hd := nd_start) (hcd := nc_start)) (pe_op op_mul (pv 8 (hd := nd_k) (hcd := nc_k)) (pv 12 (hd := nd_step) (hcd := nc_step)))) pa_nil) (hn := nn_int) (hdb := nd_int)) pe_int))
  (pss_cons (ps_if (pt_cmpR op_eq (pv 4 (hd := nd_style) (hcd := nc_style)) pe_int (nomark _)) (pss_one (ps_set (i := 11) sc__law_names.nd rfl (Or.inl rfl) (pe_op op_rep_str (pe_cal C__law_pick hr (pa_cons (pv 0 (hd := nd_store) (hcd := nc_store)) (pa_cons (pv 3 (hd := nd_signs) (hcd := nc_signs)) pa_nil)) (hdb := nd__law_pick)) (pe_cal C__law_take hr (pa_cons (pv 0 (hd := nd_store) (hcd := nc_store)) (pa_cons pe_int pa_nil)) (hdb := nd__law_take))))) pss_nil)
  (pss_one (ps_expr (pe_bm PySem.F.plainAttrs_list PySem.F.slot_list_append PySem.F.type_list_append mt_append (pv 6 (hd := nd_names) (hcd := nc_names)) (pa_cons (pe_op o_addZ (pe_op o_addZ (pe_op o_addZ (pv 10 (hd := nd_ahead) (hcd := nc_ahead)) (pe_ix ix_str (pv 3 (hd := nd_signs) (hcd := nc_signs)) (pe_op op_fdivW (pv 13 (hd := nd_code) (hcd := nc_code)) pe_int) (fun _ _ => rfl))) (pe_ix ix_str (pv 3 (hd := nd_signs) (hcd := nc_signs)) (pe_op op_mod (pe_callTy q_intI (by rfl) m_int bb_int (pa_cons (pv 13 (hd := nd_code) (hcd := nc_code)) pa_nil) (hn := nn_int) (hdb := nd_int)) pe_int) (fun _ _ => rfl))) (pv 11 (hd := nd_tail) (hcd := nc_tail))) pa_nil)))))))
  (pss_one (ps_ret (pe_cal C__law_shuffled hr (pa_cons (pv 0 (hd := nd_store) (hcd := nc_store)) (pa_cons (pv 6 (hd := nd_names) (hcd := nc_names)) pa_nil)) (hdb := nd__law_shuffled))))))))))))))))), ?_⟩
  refine Rd.at0 (σ := [some (.ref st), some (.int m), none, none, none, none, none, none, none, none, none, none, none, none]) rfl ?_
  have e10 : ("0123456789" : Str).length = 10 := by decide +kernel
  have e26 : A26.length = 26 := a26_len
  have e26x := a26_len
  have e36x := a36_len
  have e36 : A36.length = 36 := a36_len
  have e26c : (cl A26).length = 26 := by rw [cl_len, e26]
  repeat' (walk_at "rd")
  rw [a36_cat]
  repeat' (walk_at "rd")
  refine ⟨st, c, 6, rfl, hs, by decide, fun sy H1 s0 s1 g1 => ?_⟩
  repeat' (walk_at "rd")
  refine .inl ⟨st, c, A26, rfl, g1.ok, by omega, by omega, fun fx H2 hfx g2 => ?_⟩
  have hfx := a26.2 fx hfx
  have g12 := g1.trans g2
  repeat' (walk_at "rd")
  intro L hL
  have oL := g12.ok.off hL
  have fL := g12.free hL
  have g3 := g12.new hL (.lst [])
  have eL : (upd H2 L (.lst [])) L = some (.lst ((([] : List Str)).map V.str)) := upd_same
  generalize upd H2 L (.lst []) = H3 at *
  repeat' (walk_at "rd")
  have nL : L ≠ st := oL.1
  have fin : ∀ (zs : List Str) (h : Hp) (EE : XK), (zs.length : Int) = m → (∀ z ∈ zs, NmS z) → zs.Nodup → h L = some (.lst (zs.map V.str)) → Go st c H h → spShuffled K [.ref st, .ref L] h Q EE := fun zs h EE hl hn nd hL g =>
    ⟨st, c, L, zs.map V.str, rfl, g.ok, .inl (.inl hL), by rw [List.length_map]; omega, fun l ys H' pm fl g' el => by
      obtain ⟨ks, rfl, pk⟩ := permS pm
      exact q l ks H' (by rw [pk.length_eq]; exact hl) (fun z hz => hn z (pk.mem_iff.mp hz)) (pk.nodup_iff.mpr nd) (g.free fl) (g.trans g') el⟩
  refine Rd.cut (fun σ' H' => σ' = [some (.ref st), some (.int m), some (.str A26), some (.str A36), some (.int sy), some (.str ⟨#[fx]⟩), some (.ref L), none, none, none, none, none, none, none] ∧ H' = H3) ?_ ?_
  · repeat' (walk_at "rd")
    · refine .inl ⟨st, c, A36, rfl, g3.ok, by omega, by omega, fun sx H4 hsx g4 => ?_⟩
      have hsx := a36.2 sx hsx
      have g34 := g3.trans g4
      repeat' (walk_at "rd")
      refine forR (fun i σ H' => ∃ (zs : List Str) (v8 : Option V), σ = [some (.ref st), some (.int m), some (.str A26), some (.str A36), some (.int sy), some (.str ⟨#[fx]⟩), some (.ref L), some (.str ⟨#[sx]⟩), v8, none, none, none, none, none] ∧ zs.length = i ∧
        (∀ (j : Nat) (z : Str), zs[j]? = some z → z = ⟨#[fx]⟩ ++ Txt.mul ⟨#[sx]⟩ ((j : Nat) : Int)) ∧ H' L = some (.lst (zs.map V.str)) ∧ Go st c H H') ⟨[], none, rfl, rfl, fun j z h => absurd h (by simp), g4.keep _ _ nL eL, g34⟩ ?_ ?_
      · rintro i σ H' hi ⟨zs, v8, rfl, lz, hz, eL', g'⟩
        have e0 : (0 : Int) + (i : Int) = (i : Int) := by omega
        repeat' (walk_at "rd")
        rw [e0]
        refine repZ ⟨by rw [one_len]; decide, by omega, by omega⟩ ?_
        have lm := mul_one_len sx i
        repeat' (walk_at "rd")
        refine append eL' (by rw [List.length_map, lz]; exact sz5' (by omega)) ?_
        repeat' (walk_at "rd")
        refine ⟨zs ++ [⟨#[fx]⟩ ++ Txt.mul ⟨#[sx]⟩ (i : Int)], _, rfl, by rw [List.length_append, lz]; rfl, fun j z h => ?_, by rw [List.map_append]; exact upd_same, g'.write fL oL _⟩
        rcases snoc_at h with ⟨_, h⟩ | ⟨e, h⟩
        · exact hz j z h
        · rw [h, e, lz]
      · rintro σ H' ⟨zs, v8, rfl, lz, hz, eL', g'⟩
        have lz : zs.length = m.toNat := lz
        repeat' (walk_at "rd")
        refine fin zs H' _ (by omega) (fun z hm => ?_) (nodup_rel (R := fun j z => z = ⟨#[fx]⟩ ++ Txt.mul ⟨#[sx]⟩ ((j : Nat) : Int)) (Nat.le_refl _) hz fun i j z _ _ h1 h2 => ?_) eL' g'
        · obtain ⟨j, hj, e⟩ := List.getElem_of_mem hm
          have h := hz j z (by rw [List.getElem?_eq_getElem hj, e])
          subst h
          refine ⟨?_, ?_⟩
          · rw [cl_add, mul_one_cl]
            exact (Nm.one hfx).app fun x hx => by rw [List.eq_of_mem_replicate hx]; exact hsx
          · rw [add_len, one_len, mul_one_len]
            omega
        · have : (⟨#[fx]⟩ ++ Txt.mul ⟨#[sx]⟩ ((i : Nat) : Int) : Str).length = (⟨#[fx]⟩ ++ Txt.mul ⟨#[sx]⟩ ((j : Nat) : Int) : Str).length := by rw [← h1, ← h2]
          rw [add_len, add_len, mul_one_len, mul_one_len] at this
          omega
    · exact ⟨rfl, rfl⟩
    · exact ⟨rfl, rfl⟩
  rintro σ' H' ⟨rfl, eH⟩
  rw [eH]
  clear eH H'
  repeat' (walk_at "rd")
  refine Rd.cut (fun σ' H' => σ' = [some (.ref st), some (.int m), some (.str A26), some (.str A36), some (.int sy), some (.str ⟨#[fx]⟩), some (.ref L), none, none, none, none, none, none, none] ∧ H' = H3) ?_ ?_
  · repeat' (walk_at "rd")
    · refine ⟨st, c, 26, rfl, g3.ok, by decide, fun r H4 r0 r1 g4 => ?_⟩
      have g34 := g3.trans g4
      repeat' (walk_at "rd")
      refine forR (fun i σ H' => ∃ (zs : List Str) (v8 : Option V), σ = [some (.ref st), some (.int m), some (.str A26), some (.str A36), some (.int sy), some (.str ⟨#[fx]⟩), some (.ref L), none, v8, some (.int r), none, none, none, none] ∧ zs.length = i ∧
        (∀ (j : Nat) (z : Str), zs[j]? = some z → ∃ x, z = ⟨#[x]⟩ ∧ (cl A26)[((r + ((j : Nat) : Int)) % 26).toNat]? = some x) ∧ H' L = some (.lst (zs.map V.str)) ∧ Go st c H H') ⟨[], none, rfl, rfl, fun j z h => absurd h (by simp), g4.keep _ _ nL eL, g34⟩ ?_ ?_
      · rintro i σ H' hi ⟨zs, v8, rfl, lz, hz, eL', g'⟩
        have e0 : (0 : Int) + (i : Int) = (i : Int) := by omega
        repeat' (walk_at "rd")
        rw [e0]
        refine sign (z := A26) (by omega) (by omega) (by omega) fun x hx _ => ?_
        repeat' (walk_at "rd")
        refine append eL' (by rw [List.length_map, lz]; exact sz5' (by omega)) ?_
        repeat' (walk_at "rd")
        refine ⟨zs ++ [⟨#[x]⟩], _, rfl, by rw [List.length_append, lz]; rfl, fun j z h => ?_, by rw [List.map_append]; exact upd_same, g'.write fL oL _⟩
        rcases snoc_at h with ⟨_, h⟩ | ⟨e, h⟩
        · exact hz j z h
        · rw [h, e, lz]
          exact ⟨x, rfl, hx⟩
      · rintro σ H' ⟨zs, v8, rfl, lz, hz, eL', g'⟩
        have lz : zs.length = m.toNat := lz
        repeat' (walk_at "rd")
        refine fin zs H' _ (by omega) (fun z hm => ?_) (nodup_rel (Nat.le_refl _) hz fun i j z hi hj ⟨x, h1, h2⟩ ⟨y, h3, h4⟩ => ?_) eL' g'
        · obtain ⟨j, hj, e⟩ := List.getElem_of_mem hm
          obtain ⟨x, rfl, hx⟩ := hz j z (by rw [List.getElem?_eq_getElem hj, e])
          exact ⟨Nm.one (a26.2 x (List.mem_of_getElem? hx)), by rw [one_len]; decide⟩
        · have exy : x = y := by
            have := h1.symm.trans h3
            have := congrArg cl this
            rw [cl_one, cl_one] at this
            exact List.head_eq_of_cons_eq this
          subst exy
          have := at_one a26_nd h2 h4
          omega
    · exact ⟨rfl, rfl⟩
    · exact ⟨rfl, rfl⟩
  rintro σ' H' ⟨rfl, eH⟩
  rw [eH]
  clear eH H'
  repeat' (walk_at "rd")
  refine ⟨st, c, 6, rfl, g3.ok, by decide, fun ka H4 ka0 ka1 g4 => ?_⟩
  repeat' (walk_at "rd")
  refine forR (fun i σ H' => ∃ (ah : Str) (v8 : Option V), σ = [some (.ref st), some (.int m), some (.str A26), some (.str A36), some (.int sy), some (.str ⟨#[fx]⟩), some (.ref L), none, v8, none, some (.str ah), none, none, none] ∧ Nm (cl ah) ∧ ah.length = 1 + i ∧
    H' L = some (.lst ((([] : List Str)).map V.str)) ∧ Go st c H H') ⟨⟨#[fx]⟩, none, rfl, Nm.one hfx, rfl, g4.keep _ _ nL eL, g3.trans g4⟩ ?_ ?_
  · rintro i σ H' hi ⟨ah, v8, rfl, na, la, eL', g'⟩
    repeat' (walk_at "rd")
    refine .inl ⟨st, c, A36, rfl, g'.ok, by omega, by omega, fun x H5 hx g5 => ?_⟩
    have hx := a36.2 x hx
    repeat' (walk_at "rd")
    refine ⟨_, _, rfl, ?_, ?_, g5.keep _ _ nL eL', g'.trans g5⟩
    · rw [cl_add, cl_one]
      exact na.snoc hx
    · rw [add_len, one_len]
      omega
  rintro σ H' ⟨ah, v8, rfl, na, la, eL', g'⟩
  have la : ah.length = 1 + ka.toNat := la
  repeat' (walk_at "rd")
  refine .inl ⟨st, c, A36, rfl, g'.ok, by omega, by omega, fun tx H5 htx g5 => ?_⟩
  have htx := a36.2 tx htx
  repeat' (walk_at "rd")
  refine ⟨st, c, 5, rfl, g5.ok, by decide, fun tn H6 tn0 tn1 g6 => ?_⟩
  refine repZ ⟨by rw [one_len]; decide, by omega, by omega⟩ ?_
  repeat' (walk_at "rd")
  refine ⟨st, c, 1296, rfl, g6.ok, by decide, fun s0 H7 s00 s01 g7 => ?_⟩
  repeat' (walk_at "rd")
  intro l hl
  have o7 := (g7.ok.put (g7.ok.off hl) (.lst [.int 1, .int 5, .int 7, .int (36 + 1), .int (1296 - 1)]))
  have el : (upd H7 l (.lst [.int 1, .int 5, .int 7, .int (36 + 1), .int (1296 - 1)])) l = some (.lst [.int 1, .int 5, .int 7, .int (36 + 1), .int (1296 - 1)]) := upd_same
  have g8 := ((g'.trans g5).trans g6).trans g7
  have g9 := g8.new hl (.lst [.int 1, .int 5, .int 7, .int (36 + 1), .int (1296 - 1)])
  have eL9 := same_upd (o := .lst [.int 1, .int 5, .int 7, .int (36 + 1), .int (1296 - 1)]) hl _ _ (g7.keep _ _ nL (g6.keep _ _ nL (g5.keep _ _ nL eL')))
  have nl := (g7.ok.off hl).1
  generalize upd H7 l (.lst [.int 1, .int 5, .int 7, .int (36 + 1), .int (1296 - 1)]) = H8 at *
  repeat' (walk_at "rd")
  refine ⟨st, c, 5, rfl, o7, by decide, fun r H9 r0 r1 g10 => ?_⟩
  obtain ⟨t, ht, et⟩ : ∃ t : Int, (t = 1 ∨ t = 5 ∨ t = 7 ∨ t = 37 ∨ t = 1295) ∧ [V.int 1, .int 5, .int 7, .int (36 + 1), .int (1296 - 1)][r.toNat]? = some (.int t) := by
    obtain rfl | rfl | rfl | rfl | rfl : r = 0 ∨ r = 1 ∨ r = 2 ∨ r = 3 ∨ r = 4 := by omega
    · exact ⟨1, .inl rfl, rfl⟩
    · exact ⟨5, .inr (.inl rfl), rfl⟩
    · exact ⟨7, .inr (.inr (.inl rfl)), rfl⟩
    · exact ⟨37, .inr (.inr (.inr (.inl rfl))), rfl⟩
    · exact ⟨1295, .inr (.inr (.inr (.inr rfl))), rfl⟩
  refine ixN' (.inl (.inl (g10.keep _ _ nl el))) r0 et ?_
  repeat' (walk_at "rd")
  refine forR (fun i σ H' => ∃ (zs : List Str) (tl : Str) (v8 v13 : Option V), σ = [some (.ref st), some (.int m), some (.str A26), some (.str A36), some (.int sy), some (.str ⟨#[fx]⟩), some (.ref L), none, v8, some (.int s0), some (.str ah), some (.str tl), some (.int t), v13] ∧ zs.length = i ∧ (∀ x ∈ cl tl, Aln x) ∧ tl.length ≤ 4 ∧
    (∀ (j : Nat) (z : Str), zs[j]? = some z → ∃ x y tl', z = ah ++ ⟨#[x]⟩ ++ ⟨#[y]⟩ ++ tl' ∧ (∀ x ∈ cl tl', Aln x) ∧ tl'.length ≤ 4 ∧ (cl A36)[(((s0 + ((j : Nat) : Int) * t) % 1296) / 36).toNat]? = some x ∧ (cl A36)[(((s0 + ((j : Nat) : Int) * t) % 1296) % 36).toNat]? = some y) ∧
    H' L = some (.lst (zs.map V.str)) ∧ Go st c H H') ⟨[], _, v8, none, rfl, rfl, (fun x hx => by
      rw [mul_one_cl] at hx
      rw [List.eq_of_mem_replicate hx]
      exact htx), by rw [mul_one_len]; omega, fun j z h => absurd h (by simp), g10.keep _ _ nL eL9, g9.trans g10⟩ ?_ ?_
  · rintro i σ H' hi ⟨zs, tl, v8, v13, rfl, lz, ht4, lt4, hz, eL', g'⟩
    have e0 : (0 : Int) + (i : Int) = (i : Int) := by omega
    have step : ∀ (tl : Str) (G : Hp) (v8 v13 : Option V) (x y : Nat), (∀ x ∈ cl tl, Aln x) → tl.length ≤ 4 → (cl A36)[(((s0 + ((i : Nat) : Int) * t) % 1296) / 36).toNat]? = some x → (cl A36)[(((s0 + ((i : Nat) : Int) * t) % 1296) % 36).toNat]? = some y → G L = some (.lst (zs.map V.str)) → Go st c H G →
        ∃ (zs' : List Str) (tl' : Str) (w8 w13 : Option V), [some (V.ref st), some (.int m), some (.str A26), some (.str A36), some (.int sy), some (.str ⟨#[fx]⟩), some (.ref L), none, v8, some (.int s0), some (.str ah), some (.str tl), some (.int t), v13] = [some (.ref st), some (.int m), some (.str A26), some (.str A36), some (.int sy), some (.str ⟨#[fx]⟩), some (.ref L), none, w8, some (.int s0), some (.str ah), some (.str tl'), some (.int t), w13] ∧ zs'.length = i + 1 ∧ (∀ x ∈ cl tl', Aln x) ∧ tl'.length ≤ 4 ∧
        (∀ (j : Nat) (z : Str), zs'[j]? = some z → ∃ x y tl', z = ah ++ ⟨#[x]⟩ ++ ⟨#[y]⟩ ++ tl' ∧ (∀ x ∈ cl tl', Aln x) ∧ tl'.length ≤ 4 ∧ (cl A36)[(((s0 + ((j : Nat) : Int) * t) % 1296) / 36).toNat]? = some x ∧ (cl A36)[(((s0 + ((j : Nat) : Int) * t) % 1296) % 36).toNat]? = some y) ∧
        (upd G L (.lst (zs.map V.str ++ [V.str (ah ++ ⟨#[x]⟩ ++ ⟨#[y]⟩ ++ tl)]))) L = some (.lst (zs'.map V.str)) ∧ Go st c H (upd G L (.lst (zs.map V.str ++ [V.str (ah ++ ⟨#[x]⟩ ++ ⟨#[y]⟩ ++ tl)]))) := fun tl G v8 v13 x y h1 h2 hx hy eG gG =>
      ⟨zs ++ [ah ++ ⟨#[x]⟩ ++ ⟨#[y]⟩ ++ tl], tl, v8, v13, rfl, by rw [List.length_append, lz]; rfl, h1, h2, fun j z h => by
        rcases snoc_at h with ⟨_, h⟩ | ⟨e, h⟩
        · exact hz j z h
        · rw [h, e, lz]
          exact ⟨x, y, tl, rfl, h1, h2, hx, hy⟩, by rw [List.map_append]; exact upd_same, gG.write fL oL _⟩
    repeat' (walk_at "rd")
    · refine .inl ⟨st, c, A36, rfl, g'.ok, by omega, by omega, fun tx H5 htx g5 => ?_⟩
      have htx := a36.2 tx htx
      repeat' (walk_at "rd")
      refine ⟨st, c, 5, rfl, g5.ok, by decide, fun tn H6 tn0 tn1 g6 => ?_⟩
      refine repZ ⟨by rw [one_len]; decide, by omega, by omega⟩ ?_
      have lm := mul_one_len tx tn
      have eL6 := g6.keep _ _ nL (g5.keep _ _ nL eL')
      repeat' (walk_at "rd")
      rw [e0]
      refine sign (z := A36) (by omega) (by omega) (by omega) fun x hx _ => ?_
      repeat' (walk_at "rd")
      refine sign (z := A36) (by omega) (by omega) (by omega) fun y hy _ => ?_
      repeat' (walk_at "rd")
      refine append (g6.keep _ _ nL (g5.keep _ _ nL eL')) (by rw [List.length_map, lz]; exact sz5' (by omega)) ?_
      repeat' (walk_at "rd")
      refine step _ _ _ _ x y (fun x hx => ?_) (by omega) hx hy (g6.keep _ _ nL (g5.keep _ _ nL eL')) ((g'.trans g5).trans g6)
      rw [mul_one_cl] at hx
      rw [List.eq_of_mem_replicate hx]
      exact htx
    · rw [e0]
      refine sign (z := A36) (by omega) (by omega) (by omega) fun x hx _ => ?_
      repeat' (walk_at "rd")
      refine sign (z := A36) (by omega) (by omega) (by omega) fun y hy _ => ?_
      repeat' (walk_at "rd")
      refine append eL' (by rw [List.length_map, lz]; exact sz5' (by omega)) ?_
      repeat' (walk_at "rd")
      exact step _ _ _ _ x y ht4 lt4 hx hy eL' g'
  · rintro σ H' ⟨zs, tl, v8, v13, rfl, lz, ht4, lt4, hz, eL', g'⟩
    have lz : zs.length = m.toNat := lz
    repeat' (walk_at "rd")
    refine fin zs H' _ (by omega) (fun z hm => ?_) (nodup_rel (Nat.le_refl _) hz fun i j z hi hj ⟨x, y, t1, h1, _, _, h2, h3⟩ ⟨x', y', t2, k1, _, _, k2, k3⟩ => ?_) eL' g'
    · obtain ⟨j, hj, e⟩ := List.getElem_of_mem hm
      obtain ⟨x, y, t1, rfl, h1, h2, h3, h4⟩ := hz j z (by rw [List.getElem?_eq_getElem hj, e])
      have hx := a36.2 x (List.mem_of_getElem? h3)
      have hy := a36.2 y (List.mem_of_getElem? h4)
      refine ⟨?_, ?_⟩
      · rw [cl_add, cl_add, cl_add, cl_one, cl_one]
        exact ((na.snoc hx).snoc hy).app h1
      · rw [add_len, add_len, add_len, one_len, one_len]
        omega
    · have e := congrArg cl (h1.symm.trans k1)
      rw [cl_add, cl_add, cl_add, cl_one, cl_one, cl_add, cl_add, cl_add, cl_one, cl_one, List.append_assoc, List.append_assoc, List.append_assoc, List.append_assoc] at e
      have e := List.append_cancel_left e
      have ex := (List.cons.inj e).1
      have e := (List.cons.inj e).2
      have ey := (List.cons.inj e).1
      have a := at_one a36_nd h2 (by rw [ex]; exact k2)
      have b := at_one a36_nd h3 (by rw [ey]; exact k3)
      have := step_one (s := s0) (t := t) (i := i) (j := j) ht (by omega) (by omega) (by omega) (by omega) (by omega)
      omega
end
end Kj
namespace Kj
open PySem PySem.Spec PyProof.Rows L2 Rd
/-! ### the stepper -/
local macro_rules | `(tactic| walk_at "hp") => `(tactic| first
  | assumption
  | exact upd_same
  | (refine Eq.trans (upd_ne (by first | assumption | (apply Ne.symm; assumption))) ?_; walk_at "hp"))
local macro_rules | `(tactic| walk_at "sq") => `(tactic| first
  | assumption
  | (refine Or.inl (Or.inl ?_); walk_at "hp"))
local macro_rules | `(tactic| walk_at "st") => `(tactic| first
  | assumption
  | (refine Or.inl (Or.inl ?_); walk_at "hp"))
local macro_rules | `(tactic| walk_at "ar") => `(tactic| first
  | assumption
  | omega
  | decide)
local macro_rules | `(tactic| walk_at "ci") => `(tactic| first
  | (refine (show CMul _ _ from Or.inr ⟨?_, ?_⟩) <;> omega)
  | (refine (show CMul _ _ from Or.inl ⟨?_, ?_⟩) <;> omega)
  | (show CPow _ _; exact ⟨by decide, by decide, by decide⟩)
  | (refine wide_div (b := 63) ?_ ?_ (by decide) (by decide) <;> omega)
  | (show (0 : Int) < _; omega))
local macro_rules | `(tactic| walk_at "ty") => `(tactic| first
  | exact dp_ty (by assumption)
  | exact TyX.base (TyOf.int _)
  | exact TyX.base (TyOf.str _)
  | exact TyX.base (TyOf.bl _)
  | exact TyX.base TyOf.non
  | exact tyL' (by walk_at "sq")
  | exact tyT' (by walk_at "st"))
local macro_rules | `(tactic| walk_at "isi") => `(tactic| first
  | ((with_reducible apply Rd.isiF); (walk_at "ty"); (decide))
  | ((with_reducible apply Rd.isiT); (walk_at "ty"); (decide)))
local macro_rules | `(tactic| walk_at "rd") => `(tactic| first
  | with_reducible apply Rd.seq
  | ((with_reducible apply Rd.var); rfl)
  | with_reducible apply Rd.con
  | with_reducible apply Rd.op
  | with_reducible apply Rd.asg
  | ((with_reducible apply Rd.gname); ((dsimp only [List.set, L2.wipe, Int.reduceToNat]) <;> rfl))
  | with_reducible apply Rd.nxt
  | with_reducible apply Rd.ifs
  | with_reducible apply Rd.test
  | with_reducible apply Rd.testB
  | with_reducible apply Rd.exbl
  | with_reducible apply Rd.ret
  | with_reducible apply Rd.drop
  | with_reducible apply Rd.retN
  | with_reducible apply Rd.nil
  | with_reducible apply Rd.cons
  | with_reducible apply Rd.call
  | with_reducible apply Rd.cb
  | with_reducible apply Rd.and
  | with_reducible apply Rd.or
  | with_reducible apply Rd.not
  | with_reducible apply Rd.andV
  | with_reducible apply Rd.orV
  | with_reducible apply Rd.notV
  | with_reducible apply Rd.ife
  | with_reducible apply Rd.tup
  | with_reducible apply Rd.lst
  | with_reducible apply Rd.un
  | with_reducible apply Rd.chain
  | with_reducible apply Rd.brk
  | with_reducible apply Rd.cnt
  | with_reducible apply Rd.I0
  | with_reducible apply Rd.U1
  | ((with_reducible apply Rd.eq); rfl)
  | ((with_reducible apply Rd.ne); rfl)
  | ((with_reducible apply Rd.I1); (walk_at "ci"))
  | with_reducible apply Rd.lc0
  | with_reducible apply Rd.ln0
  | with_reducible apply Rd.exN
  | ((with_reducible apply Rd.iteSf); (decide +kernel))
  | ((with_reducible apply Rd.iteSt); (decide +kernel))
  | ((with_reducible apply Rd.niQ); (exact Or.inl (by walk_at "sq")); (exact ⟨rfl, rfl⟩); (rfl))
  | ((with_reducible apply Rd.inQ); (exact Or.inl (by walk_at "sq")); (exact ⟨rfl, rfl⟩); (rfl))
  | with_reducible apply Rd.rn1
  | with_reducible apply Rd.in1
  | with_reducible apply Rd.sn1
  | with_reducible apply Rd.bn1
  | with_reducible apply Rd.nn1
  | with_reducible apply Rd.rn2
  | with_reducible apply Rd.in2
  | with_reducible apply Rd.sn2
  | with_reducible apply Rd.bn2
  | with_reducible apply Rd.nn2
  | with_reducible apply Rd.nt1
  | with_reducible apply Rd.nf1
  | (with_reducible refine Rd.iteI (fun _ => ?_) (fun _ => ?_))
  | (with_reducible refine Rd.iteNI (fun _ => ?_) (fun _ => ?_))
  | (with_reducible refine iteT ?_)
  | (with_reducible refine iteF ?_)
  | (with_reducible refine Rd.iteD (fun _ => ?_) (fun _ => ?_))
  | (with_reducible refine Rd.iteN (fun _ => ?_) (fun _ => ?_))
  | with_reducible apply Rd.intI
  | with_reducible apply Rd.intB
  | with_reducible apply Rd.maxQ
  | with_reducible apply Rd.minQ
  | with_reducible apply Rd.absQ
  | with_reducible apply Rd.isN
  | with_reducible apply Rd.noN
  | with_reducible apply Rd.ltZ
  | with_reducible apply Rd.bm
  | with_reducible apply Rd.bm0
  | with_reducible apply Rd.par
  | with_reducible apply Rd.expar
  | with_reducible apply Rd.exint
  | with_reducible apply Rd.ipi
  | with_reducible apply Rd.slice
  | with_reducible apply Rd.noPart
  | with_reducible apply Rd.part
  | with_reducible apply Rd.gcons
  | with_reducible apply Rd.gnil
  | with_reducible apply Rd.iseq
  | with_reducible apply Rd.irng1
  | walk_at "isi"
  | with_reducible apply Rd.forX
  | with_reducible apply Rd.lstRev
  | with_reducible apply Rd.lstRg
  | with_reducible apply Rd.rg1
  | with_reducible apply Rd.rg2
  | with_reducible apply Rd.exint2
  | ((with_reducible apply Rd.exrev); (walk_at "sq"))
  | with_reducible apply Rd.lcX
  | with_reducible apply Rd.yes
  | ((with_reducible apply Rd.exrng1); (constructor <;> omega))
  | ((with_reducible apply Rd.exrng2); (refine ⟨?_, ?_, ?_, ?_⟩ <;> omega))
  | with_reducible apply Rd.irng2
  | ((with_reducible apply Rd.aug); rfl)
  | ((with_reducible apply Rd.exlst); (walk_at "sq"))
  | ((with_reducible apply Rd.gtup); (walk_at "st"); (rfl))
  | ((with_reducible apply Rd.tyL); (walk_at "hp"))
  | ((with_reducible apply Rd.ixL); (walk_at "sq"); (rfl))
  | ((with_reducible apply Rd.ixI); (walk_at "sq"); (omega); (first | assumption | (simp only [List.length_map]; omega)); (intro _ _))
  | (with_reducible refine Rd.gsub ?_)
  | ((with_reducible apply Rd.setL); (walk_at "hp"); (rfl); ((dsimp only [List.set, L2.wipe, Int.reduceToNat]) <;> rfl))
  | ((with_reducible apply Rd.lenQ); (first | exact Or.inl (by walk_at "sq") | exact Or.inr (by walk_at "st")))
  | ((with_reducible apply Rd.listQ); (first | exact Or.inl (by walk_at "sq") | exact Or.inr (by walk_at "st")))
  | ((with_reducible apply Rd.tupQ); (walk_at "sq"))
  | ((with_reducible apply Rd.slL); (walk_at "sq"))
  | ((with_reducible apply Rd.ixT); (walk_at "st"); (rfl))
  | (with_reducible refine Rd.iteB (fun _ => ?_) (fun _ => ?_))
  | (with_reducible refine Rd.iteNB (fun _ => ?_) (fun _ => ?_))
  | (refine Rd.andI (Nat.le_of_ble_eq_true rfl) ?_)
  | dsimp only [List.set])
local macro_rules | `(tactic| walk_at "hp") => `(tactic| first
  | assumption
  | exact upd_same
  | (refine Eq.trans (upd_ne (by first | assumption | (apply Ne.symm; assumption))) ?_; walk_at "hp")
  | (refine hpS (by assumption) ?_; walk_at "hp"))
local macro_rules | `(tactic| walk_at "al") => `(tactic| (with_reducible intro l hl; generalize hG : upd _ l _ = G; have hs := newOne hl hG; clear hG; obtain ⟨hs, he⟩ := hs))
local macro_rules | `(tactic| walk_at "rd") => `(tactic| first
  | walk_at "al"
  | ((with_reducible apply Rd.cat); (walk_at "hp"); (walk_at "hp"); (exact Nat.le_of_ble_eq_true rfl)))
local macro_rules | `(tactic| walk_at "sm") => `(tactic| first
  | assumption
  | exact Same.refl _
  | (refine Same.trans ?_ (by assumption); walk_at "sm"))
local macro_rules | `(tactic| walk_at "fr") => `(tactic| first
  | assumption
  | (refine Same.free (by assumption) ?_; walk_at "fr"))
local macro_rules | `(tactic| walk_at "ty") => `(tactic| first
  | exact dv_ty (by assumption)
  | exact tyD' (by walk_at "hp"))
/-! ### names judged -/
section
variable {P : Program} {w : World} {K : PySem.W.Frag} {mg : Str → Option Value} {base : Heap} {D : Str → Addr}
/-- a value is judged: is it a name -/
def spNamed (K : PySem.W.Frag) : Sp := fun vs H Q _ => ∃ (x : V) (d : PyData), vs = [x] ∧ Dv K H x d ∧ Sz d ∧ ∀ H', Same H H' → Q (.bl (nameD d)) H'
theorem str_cases (d : PyData) : (∃ z, d = .str z) ∨ (nameD d = false ∧ ∀ z, d ≠ .str z) := by
  cases d <;> first | exact .inl ⟨_, rfl⟩ | exact .inr ⟨rfl, fun _ e => by cases e⟩
theorem a26_in {c : Nat} : c ∈ ("abcdefghijklmnopqrstuvwxyz" : Str).cps.toList ↔ Low c := by
  refine ⟨fun h => a26.2 c h, fun h => ?_⟩
  have k : ∀ c, c < 123 → 97 ≤ c → c ∈ ("abcdefghijklmnopqrstuvwxyz" : Str).cps.toList := by decide +kernel
  exact k c (by have := h.2; omega) h.1
theorem a36_in {c : Nat} : c ∈ ("abcdefghijklmnopqrstuvwxyz0123456789" : Str).cps.toList ↔ Aln c := by
  have e : ∀ c ∈ ("abcdefghijklmnopqrstuvwxyz0123456789" : Str).cps.toList, Aln c := by decide +kernel
  refine ⟨fun h => e c h, fun h => ?_⟩
  have k : ∀ c, c < 123 → Aln c → c ∈ ("abcdefghijklmnopqrstuvwxyz0123456789" : Str).cps.toList := by decide +kernel
  refine k c ?_ h
  rcases h with h | h
  · have := h.2
    omega
  · have := h.2
    omega
local macro_rules | `(tactic| walk_at "rd") => `(tactic| first
  | with_reducible apply Rd.istr
  | with_reducible apply Rd.exstr
  | with_reducible apply Rd.leA
  | with_reducible apply Rd.leZz
  | with_reducible apply Rd.le0
  | with_reducible apply Rd.le9
  | with_reducible apply Rd.niZ)
local macro_rules | `(tactic| walk_at "sz") => `(tactic| exact sz5 (by omega))
local macro_rules | `(tactic| walk_at "rd") => `(tactic| ((with_reducible apply Rd.lenZ); (walk_at "sz")))
theorem ok__law_is_name (F : Def K mg "_law_is_name" s__law_is_name P__law_is_name) (m_isinstance : mg "isinstance" = none) (m_str : mg "str" = none) (m_len : mg "len" = none) : Cal P w K mg base 1 "_law_is_name" P__law_is_name (spNamed K) := by
  refine F.ok sc__law_is_name (fun vs H Q E h => ?_) (fun f cdv A outer s H vs Q E hr h => ?_)
  · obtain ⟨x, d, rfl, _⟩ := h
    rfl
  obtain ⟨x, d, rfl, hx, hz, q⟩ := h
  have q0 := q H (.refl H)
  refine ⟨_, (pss_cons (ps_if (PW.pt (pw_or (pt_not (pt_val (pe_callB call_isi (by rfl) m_isinstance bb_isinstance (pa_cons (pv 0 (hd := nd_word) (hcd := nc_word)) (pa_cons (pe_bltn (v := .ty "str") (u := .type "str") (by rfl) m_str bb_str rfl (hn := nn_str) (hd := nd_str)) pa_nil)) (hn := nn_isinstance) (hdb := nd_isinstance)))) (pw_or (pt_cmpR op_lt (pe_callB q_lenZ (by rfl) m_len PySem.boot_len (pa_cons (pv 0 (hd := nd_word) (hcd := nc_word)) pa_nil) (hn := nn_len) (hdb := nd_len)) pe_int (nomark _)) (pw_or1 (pt_cmpR op_gt (pe_callB q_lenZ (by rfl) m_len PySem.boot_len (pa_cons (pv 0 (hd := nd_word) (hcd := nc_word)) pa_nil) (hn := nn_len) (hdb := nd_len)) pe_int (nomark _)))))) (pss_one (ps_ret pe_bl)) pss_nil)
  (pss_cons (ps_if (pt_cmpR o_niZ (pe_ix ix_str (pv 0 (hd := nd_word) (hcd := nc_word)) pe_int (fun _ _ => rfl)) pe_str rfl) (pss_one (ps_ret pe_bl)) pss_nil)
  (pss_cons (ps_for PassesOwn.never rfl (pi_str (pv 0 (hd := nd_word) (hcd := nc_word))) (pg_name (i := 1) sc__law_is_name.nd rfl (Or.inl rfl)) (pss_one (ps_if (pt_cmpR o_niZ (pv 1 (hd := nd_sign) (hcd := nc_sign)) pe_str rfl) (pss_one (ps_ret pe_bl)) pss_nil)))
  (pss_one (ps_ret pe_bl))))), ?_⟩
  refine Rd.at0 (σ := [some x, none]) rfl ?_
  rcases str_cases d with ⟨z, rfl⟩ | ⟨e, ne⟩
  · cases hx
    have lz := hz z rfl
    change Q (.bl (nmB z)) H at q0
    repeat' (walk_at "rd")
    · rw [nmB_big (by omega)] at q0
      exact q0
    · rw [nmB_big (by omega)] at q0
      exact q0
    have l1 : 1 ≤ z.length := by omega
    have l2 : z.length ≤ 12 := by omega
    obtain ⟨c, hc⟩ := nm_head l1
    refine sign (by omega) (by decide) (by omega) fun c' hc' _ => ?_
    obtain rfl : c = c' := Option.some.inj (hc.symm.trans hc')
    repeat' (walk_at "rd")
    · rename_i nc
      rw [nmB_head hc (fun l => nc (a26_in.mpr l))] at q0
      exact q0
    rename_i yc
    have ea := nmB_all l1 l2 hc (a26_in.mp yc)
    refine forZ (fun i σ H' => ∃ v1 : Option V, σ = [some (.str z), v1] ∧ H' = H ∧ ∀ j x, j < i → (cl z)[j]? = some x → Aln x) ⟨none, rfl, rfl, fun _ _ h => absurd h (Nat.not_lt_zero _)⟩ ?_ ?_
    · rintro i x σ H' hx ⟨v1, rfl, rfl, al⟩
      repeat' (walk_at "rd")
      · rename_i nx
        rw [nmB_in (List.mem_of_getElem? hx) (fun l => nx (a36_in.mpr l))] at q0
        exact q0
      · rename_i yx
        refine ⟨_, rfl, rfl, fun j y hj hy => ?_⟩
        rcases Nat.lt_succ_iff_lt_or_eq.mp hj with h | h
        · exact al j y h hy
        · rw [h, hx] at hy
          cases hy
          exact a36_in.mp yx
    · rintro σ H' ⟨v1, rfl, rfl, al⟩
      repeat' (walk_at "rd")
      have : ((cl z).all fun c => decide (Aln c)) = true := List.all_eq_true.mpr fun x hx => by
        obtain ⟨j, hj, e⟩ := List.getElem_of_mem hx
        exact decide_eq_true (al j x (by rw [← cl_len]; exact hj) (by rw [List.getElem?_eq_getElem hj, e]))
      rw [ea, this] at q0
      exact q0
  · rw [e] at q0
    cases hx
    case str z => exact absurd rfl (ne z)
    all_goals
      repeat' (walk_at "rd")
      exact q0
theorem ok_is_name (F : Def K mg "is_name" s_is_name P_is_name) (m_isinstance : mg "isinstance" = none) (m_str : mg "str" = none) (m_len : mg "len" = none) (m_all : mg "all" = none) (c_LONGEST_NAME : ∃ t, mg "LONGEST_NAME" = some (.int 12 t)) : Cal P w K mg base 1 "is_name" P_is_name (spNamed K) := by
  refine F.ok sc_is_name (fun vs H Q E h => ?_) (fun f cdv A outer s H vs Q E hr h => ?_)
  · obtain ⟨x, d, rfl, _⟩ := h
    rfl
  obtain ⟨x, d, rfl, hx, hz, q⟩ := h
  have q0 := q H (.refl H)
  refine ⟨_, (pss_cons (ps_if (PW.pt (pw_or (pt_not (pt_val (pe_callB call_isi (by rfl) m_isinstance bb_isinstance (pa_cons (pv 0 (hd := nd_word) (hcd := nc_word)) (pa_cons (pe_bltn (v := .ty "str") (u := .type "str") (by rfl) m_str bb_str rfl (hn := nn_str) (hd := nd_str)) pa_nil)) (hn := nn_isinstance) (hdb := nd_isinstance)))) (pw_or1 (pt_not (pt_chain op_le op_le pe_int (pe_callB q_lenZ (by rfl) m_len PySem.boot_len (pa_cons (pv 0 (hd := nd_word) (hcd := nc_word)) pa_nil) (hn := nn_len) (hdb := nd_len)) (Ho.pe_const (v := 12) c_LONGEST_NAME (by rfl))))))) (pss_one (ps_ret pe_bl)) pss_nil)
  (pss_one (ps_ret (pe_and (pe_chain o_leZ o_leZ pe_str (pe_ix ix_str (pv 0 (hd := nd_word) (hcd := nc_word)) pe_int (fun _ _ => rfl)) pe_str) (pe_one (pe_callB (cr_allK (K := K) rfl rfl) (by rfl) m_all bb_all (pa_cons (pe_lc (own := [("c", 1)]) (by rfl) sc_is_name.nd (pi_str (pv 0 (hd := nd_word) (hcd := nc_word))) (blkOk_by (N := N_is_name) (sc := defScope s_is_name) (by decide +kernel)) (fun _ _ _ _ _ => (pg_name (i := 1) sc_is_name.nd rfl (Or.inl rfl))) (fun _ _ _ _ _ => pts_nil) (fun _ _ _ _ _ => (pe_or (pe_chain o_leZ o_leZ pe_str (pv 1 (hd := nd_c) (hcd := nc_c)) pe_str) (pe_one (pe_chain o_leZ o_leZ pe_str (pv 1 (hd := nd_c) (hcd := nc_c)) pe_str))))) pa_nil) (hn := nn_all) (hdb := nd_all))))))), ?_⟩
  refine Rd.at0 (σ := [some x, none]) rfl ?_
  rcases str_cases d with ⟨z, rfl⟩ | ⟨e, ne⟩
  · cases hx
    have lz := hz z rfl
    change ∀ H', Same H H' → Q (.bl (nmB z)) H' at q
    change Q (.bl (nmB z)) H at q0
    repeat' (walk_at "rd")
    · rw [nmB_big (by omega)] at q0
      exact q0
    · have l1 : 1 ≤ z.length := by omega
      have l2 : z.length ≤ 12 := by omega
      obtain ⟨c, hc⟩ := nm_head l1
      refine sign (by omega) (by decide) (by omega) fun c' hc' _ => ?_
      obtain rfl : c = c' := Option.some.inj (hc.symm.trans hc')
      repeat' (walk_at "rd")
      · have lo : Low c := ⟨by omega, by omega⟩
        have ea := nmB_all l1 l2 hc lo
        refine lcZ fun L nL => ⟨fun i h => i ≤ z.length ∧ h = upd H L (.lst (((cl z).take i).map fun c => V.bl (decide (Aln c)))), ⟨Nat.zero_le _, rfl⟩, ?_, ?_⟩
        · rintro i x h hx ⟨hi, rfl⟩
          have lt : i + 1 ≤ z.length := by
            rw [← cl_len]
            exact (List.getElem?_eq_some_iff.mp hx).1
          have key : ∀ b, b = decide (Aln x) → upd H L (.lst (((cl z).take i).map (fun c => V.bl (decide (Aln c))) ++ [V.bl b])) = upd H L (.lst (((cl z).take (i + 1)).map fun c => V.bl (decide (Aln c)))) := by
            intro b hb
            rw [List.take_add_one, hx, List.map_append, hb]
            rfl
          have sz : (((cl z).take i).map (fun c => V.bl (decide (Aln c)))).length < sizeLine := by
            rw [List.length_map, List.length_take]
            exact sz5' (by omega)
          refine turn1 ?_
          repeat' (walk_at "rd")
          refine ⟨rfl, ?_⟩
          repeat' (walk_at "rd")
          all_goals
            refine ⟨_, upd_same, sz, lt, ?_⟩
            rw [upd_upd]
            refine key _ ?_
            first
            | exact (decide_eq_true (show Aln x from by unfold Aln Low; omega)).symm
            | exact (decide_eq_false (show ¬ Aln x from by unfold Aln Low; omega)).symm
            | (by_cases y : x ≤ 57
               · rw [decide_eq_true y, decide_eq_true (show Aln x from by unfold Aln Low; omega)]
               · rw [decide_eq_false y, decide_eq_false (show ¬ Aln x from by unfold Aln Low; omega)])
        · rintro h ⟨_, rfl⟩
          rw [List.take_of_length_le (by rw [cl_len]; exact Nat.le_refl _)]
          repeat' (walk_at "rd")
          refine allB (bs := (cl z).map fun c => decide (Aln c)) (.inl (.inl ?_)) ?_
          · rw [List.map_map]
            exact upd_same
          · rw [List.all_map, show ((cl z).all (id ∘ fun c => decide (Aln c))) = nmB z from ea.symm]
            exact q _ (same_upd nL)
      · rw [nmB_head hc (fun l => by have := l.2; omega)] at q0
        exact q0
      · rw [nmB_head hc (fun l => by have := l.1; omega)] at q0
        exact q0
    · rw [nmB_big (by omega)] at q0
      exact q0
  · rw [e] at q0
    cases hx
    case str z => exact absurd rfl (ne z)
    all_goals
      repeat' (walk_at "rd")
      exact q0
end
end Kj
namespace Kj
open PySem PySem.Spec PyProof.Rows L2 Rd
/-! ### the stepper -/
local macro_rules | `(tactic| walk_at "hp") => `(tactic| first
  | assumption
  | exact upd_same
  | (refine Eq.trans (upd_ne (by first | assumption | (apply Ne.symm; assumption))) ?_; walk_at "hp"))
local macro_rules | `(tactic| walk_at "sq") => `(tactic| first
  | assumption
  | (refine Or.inl (Or.inl ?_); walk_at "hp"))
local macro_rules | `(tactic| walk_at "st") => `(tactic| first
  | assumption
  | (refine Or.inl (Or.inl ?_); walk_at "hp"))
local macro_rules | `(tactic| walk_at "ar") => `(tactic| first
  | assumption
  | omega
  | decide)
local macro_rules | `(tactic| walk_at "ci") => `(tactic| first
  | (refine (show CMul _ _ from Or.inr ⟨?_, ?_⟩) <;> omega)
  | (refine (show CMul _ _ from Or.inl ⟨?_, ?_⟩) <;> omega)
  | (show CPow _ _; exact ⟨by decide, by decide, by decide⟩)
  | (refine wide_div (b := 63) ?_ ?_ (by decide) (by decide) <;> omega)
  | (show (0 : Int) < _; omega))
local macro_rules | `(tactic| walk_at "ty") => `(tactic| first
  | exact dp_ty (by assumption)
  | exact TyX.base (TyOf.int _)
  | exact TyX.base (TyOf.str _)
  | exact TyX.base (TyOf.bl _)
  | exact TyX.base TyOf.non
  | exact tyL' (by walk_at "sq")
  | exact tyT' (by walk_at "st"))
local macro_rules | `(tactic| walk_at "isi") => `(tactic| first
  | ((with_reducible apply Rd.isiF); (walk_at "ty"); (decide))
  | ((with_reducible apply Rd.isiT); (walk_at "ty"); (decide)))
local macro_rules | `(tactic| walk_at "rd") => `(tactic| first
  | with_reducible apply Rd.seq
  | ((with_reducible apply Rd.var); rfl)
  | with_reducible apply Rd.con
  | with_reducible apply Rd.op
  | with_reducible apply Rd.asg
  | ((with_reducible apply Rd.gname); ((dsimp only [List.set, L2.wipe, Int.reduceToNat]) <;> rfl))
  | with_reducible apply Rd.nxt
  | with_reducible apply Rd.ifs
  | with_reducible apply Rd.test
  | with_reducible apply Rd.testB
  | with_reducible apply Rd.exbl
  | with_reducible apply Rd.ret
  | with_reducible apply Rd.drop
  | with_reducible apply Rd.retN
  | with_reducible apply Rd.nil
  | with_reducible apply Rd.cons
  | with_reducible apply Rd.call
  | with_reducible apply Rd.cb
  | with_reducible apply Rd.and
  | with_reducible apply Rd.or
  | with_reducible apply Rd.not
  | with_reducible apply Rd.andV
  | with_reducible apply Rd.orV
  | with_reducible apply Rd.notV
  | with_reducible apply Rd.ife
  | with_reducible apply Rd.tup
  | with_reducible apply Rd.lst
  | with_reducible apply Rd.un
  | with_reducible apply Rd.chain
  | with_reducible apply Rd.brk
  | with_reducible apply Rd.cnt
  | with_reducible apply Rd.I0
  | with_reducible apply Rd.U1
  | ((with_reducible apply Rd.eq); rfl)
  | ((with_reducible apply Rd.ne); rfl)
  | ((with_reducible apply Rd.I1); (walk_at "ci"))
  | with_reducible apply Rd.lc0
  | with_reducible apply Rd.ln0
  | with_reducible apply Rd.exN
  | ((with_reducible apply Rd.iteSf); (decide +kernel))
  | ((with_reducible apply Rd.iteSt); (decide +kernel))
  | ((with_reducible apply Rd.niQ); (exact Or.inl (by walk_at "sq")); (exact ⟨rfl, rfl⟩); (rfl))
  | ((with_reducible apply Rd.inQ); (exact Or.inl (by walk_at "sq")); (exact ⟨rfl, rfl⟩); (rfl))
  | with_reducible apply Rd.rn1
  | with_reducible apply Rd.in1
  | with_reducible apply Rd.sn1
  | with_reducible apply Rd.bn1
  | with_reducible apply Rd.nn1
  | with_reducible apply Rd.rn2
  | with_reducible apply Rd.in2
  | with_reducible apply Rd.sn2
  | with_reducible apply Rd.bn2
  | with_reducible apply Rd.nn2
  | with_reducible apply Rd.nt1
  | with_reducible apply Rd.nf1
  | (with_reducible refine Rd.iteI (fun _ => ?_) (fun _ => ?_))
  | (with_reducible refine Rd.iteNI (fun _ => ?_) (fun _ => ?_))
  | (with_reducible refine iteT ?_)
  | (with_reducible refine iteF ?_)
  | (with_reducible refine Rd.iteD (fun _ => ?_) (fun _ => ?_))
  | (with_reducible refine Rd.iteN (fun _ => ?_) (fun _ => ?_))
  | with_reducible apply Rd.intI
  | with_reducible apply Rd.intB
  | with_reducible apply Rd.maxQ
  | with_reducible apply Rd.minQ
  | with_reducible apply Rd.absQ
  | with_reducible apply Rd.isN
  | with_reducible apply Rd.noN
  | with_reducible apply Rd.ltZ
  | with_reducible apply Rd.bm
  | with_reducible apply Rd.bm0
  | with_reducible apply Rd.par
  | with_reducible apply Rd.expar
  | with_reducible apply Rd.exint
  | with_reducible apply Rd.ipi
  | with_reducible apply Rd.slice
  | with_reducible apply Rd.noPart
  | with_reducible apply Rd.part
  | with_reducible apply Rd.gcons
  | with_reducible apply Rd.gnil
  | with_reducible apply Rd.iseq
  | with_reducible apply Rd.irng1
  | walk_at "isi"
  | with_reducible apply Rd.forX
  | with_reducible apply Rd.lstRev
  | with_reducible apply Rd.lstRg
  | with_reducible apply Rd.rg1
  | with_reducible apply Rd.rg2
  | with_reducible apply Rd.exint2
  | ((with_reducible apply Rd.exrev); (walk_at "sq"))
  | with_reducible apply Rd.lcX
  | with_reducible apply Rd.yes
  | ((with_reducible apply Rd.exrng1); (constructor <;> omega))
  | ((with_reducible apply Rd.exrng2); (refine ⟨?_, ?_, ?_, ?_⟩ <;> omega))
  | with_reducible apply Rd.irng2
  | ((with_reducible apply Rd.aug); rfl)
  | ((with_reducible apply Rd.exlst); (walk_at "sq"))
  | ((with_reducible apply Rd.gtup); (walk_at "st"); (rfl))
  | ((with_reducible apply Rd.tyL); (walk_at "hp"))
  | ((with_reducible apply Rd.ixL); (walk_at "sq"); (rfl))
  | ((with_reducible apply Rd.ixI); (walk_at "sq"); (omega); (first | assumption | (simp only [List.length_map]; omega)); (intro _ _))
  | (with_reducible refine Rd.gsub ?_)
  | ((with_reducible apply Rd.setL); (walk_at "hp"); (rfl); ((dsimp only [List.set, L2.wipe, Int.reduceToNat]) <;> rfl))
  | ((with_reducible apply Rd.lenQ); (first | exact Or.inl (by walk_at "sq") | exact Or.inr (by walk_at "st")))
  | ((with_reducible apply Rd.listQ); (first | exact Or.inl (by walk_at "sq") | exact Or.inr (by walk_at "st")))
  | ((with_reducible apply Rd.tupQ); (walk_at "sq"))
  | ((with_reducible apply Rd.slL); (walk_at "sq"))
  | ((with_reducible apply Rd.ixT); (walk_at "st"); (rfl))
  | (with_reducible refine Rd.iteB (fun _ => ?_) (fun _ => ?_))
  | (with_reducible refine Rd.iteNB (fun _ => ?_) (fun _ => ?_))
  | (refine Rd.andI (Nat.le_of_ble_eq_true rfl) ?_)
  | dsimp only [List.set])
local macro_rules | `(tactic| walk_at "hp") => `(tactic| first
  | assumption
  | exact upd_same
  | (refine Eq.trans (upd_ne (by first | assumption | (apply Ne.symm; assumption))) ?_; walk_at "hp")
  | (refine hpS (by assumption) ?_; walk_at "hp"))
local macro_rules | `(tactic| walk_at "al") => `(tactic| (with_reducible intro l hl; generalize hG : upd _ l _ = G; have hs := newOne hl hG; clear hG; obtain ⟨hs, he⟩ := hs))
local macro_rules | `(tactic| walk_at "rd") => `(tactic| first
  | walk_at "al"
  | ((with_reducible apply Rd.cat); (walk_at "hp"); (walk_at "hp"); (exact Nat.le_of_ble_eq_true rfl)))
local macro_rules | `(tactic| walk_at "sm") => `(tactic| first
  | assumption
  | exact Same.refl _
  | (refine Same.trans ?_ (by assumption); walk_at "sm"))
local macro_rules | `(tactic| walk_at "fr") => `(tactic| first
  | assumption
  | (refine Same.free (by assumption) ?_; walk_at "fr"))
local macro_rules | `(tactic| walk_at "ty") => `(tactic| first
  | exact dv_ty (by assumption)
  | exact tyD' (by walk_at "hp"))
local macro_rules | `(tactic| walk_at "sz") => `(tactic| first
  | exact sz5 (by omega)
  | (simp only [add_len, one_len]; exact sz5 (by omega)))
local macro_rules | `(tactic| walk_at "rd") => `(tactic| first
  | with_reducible apply Rd.istr
  | with_reducible apply Rd.exstr
  | with_reducible apply Rd.leA
  | with_reducible apply Rd.leZz
  | with_reducible apply Rd.le0
  | with_reducible apply Rd.le9
  | with_reducible apply Rd.niZ
  | ((with_reducible apply Rd.lenZ); (walk_at "sz"))
  | ((with_reducible apply Rd.slZ); (walk_at "sz"))
  | ((with_reducible apply Rd.addZ); (walk_at "sz"))
  | with_reducible apply Rd.raiseX
  | with_reducible apply Rd.exone
  | with_reducible apply Rd.callS
  | with_reducible apply Rd.callP
  | with_reducible apply Rd.xsX
  | with_reducible apply Rd.dnewX
  | with_reducible apply Rd.tyZ)
section
variable {P : Program} {w : World} {K : PySem.W.Frag} {mg : Str → Option Value} {base : Heap}
/-- _law_is_integer(v) of a value of plain data -/
def isI : PyData → Bool
  | .int _ => true
  | _ => false
def spIsInt (K : PySem.W.Frag) : Sp := fun vs H Q _ => ∃ (x : V) (d : PyData), vs = [x] ∧ Dv K H x d ∧ Q (.bl (isI d)) H
theorem ok__law_is_integer (F : Def K mg "_law_is_integer" s__law_is_integer P__law_is_integer) (m_isinstance : mg "isinstance" = none) (m_int : mg "int" = none) (m_bool : mg "bool" = none) : Cal P w K mg base 1 "_law_is_integer" P__law_is_integer (spIsInt K) := by
  refine F.ok sc__law_is_integer (fun vs H Q E h => ?_) (fun f cdv A outer s H vs Q E hr h => ?_)
  · obtain ⟨x, d, rfl, _⟩ := h
    rfl
  obtain ⟨x, d, rfl, hx, q⟩ := h
  refine ⟨_, (pss_one (ps_ret (pe_and (pe_callB call_isi (by rfl) m_isinstance bb_isinstance (pa_cons (pv 0 (hd := nd_value) (hcd := nc_value)) (pa_cons (pe_bltn (v := .ty "int") (u := .type "int") (by rfl) m_int bb_int rfl (hn := nn_int) (hd := nd_int)) pa_nil)) (hn := nn_isinstance) (hdb := nd_isinstance)) (pe_one (pe_not (pe_callB call_isi (by rfl) m_isinstance bb_isinstance (pa_cons (pv 0 (hd := nd_value) (hcd := nc_value)) (pa_cons (pe_bltn (v := .ty "bool") (u := .type "bool") (by rfl) m_bool bb_bool rfl (hn := nn_bool) (hd := nd_bool)) pa_nil)) (hn := nn_isinstance) (hdb := nd_isinstance))))))), ?_⟩
  refine Rd.at0 (σ := [some x]) rfl ?_
  cases hx
  all_goals
    repeat' (walk_at "rd")
    exact q
end
/-! ### the law's own sameness, dicts of at most one entry within -/
section
variable {P : Program} {w : World} {K : PySem.W.Frag} {mg : Str → Option Value} {base : Heap}
/-- _law_same(one, two) of two values that hold the same data: True -/
def spSame (K : PySem.W.Frag) (n : Nat) : Sp := fun vs H Q _ => ∃ (x y : V) (d : PyData) (m : Nat), n = m + 1 ∧ vs = [x, y] ∧ Dv K H x d ∧ Dv K H y d ∧ Fd m d ∧ ∀ H', Same H H' → Q (.bl true) H'
theorem same_turn {K : PySem.W.Frag} {n : Nat} {H : Hp} {xs ys : List V} {ds : List PyData} {i : Nat} (h1 : DvAll K H xs ds) (h2 : DvAll K H ys ds) (hf : ∀ d ∈ ds, Fd n d) (hi : i < xs.length) :
    ∃ (x y : V) (d : PyData), xs[(0 + (i : Int)).toNat]? = some x ∧ ys[(0 + (i : Int)).toNat]? = some y ∧ Dv K H x d ∧ Dv K H y d ∧ Fd n d := by
  rw [show (0 + (i : Int)).toNat = i by omega]
  have hl : i < ds.length := by rw [← va_len h1]; exact hi
  have e := List.getElem?_eq_getElem hl
  obtain ⟨x, ex, dx⟩ := va_at _ _ _ _ h1 e
  obtain ⟨y, ey, dy⟩ := va_at _ _ _ _ h2 e
  exact ⟨x, y, _, ex, ey, dx, dy, hf _ (List.getElem_mem hl)⟩
local macro_rules | `(tactic| walk_at "rd") => `(tactic| first
  | ((with_reducible apply Rd.lenAs); (first | exact Or.inl (by walk_at "sq") | exact Or.inr (by walk_at "st")))
  | ((with_reducible apply Rd.lenAd); (walk_at "hp"))
  | ((with_reducible apply Rd.listDk); (walk_at "hp"); (rfl))
  | with_reducible apply Rd.din
  | with_reducible apply Rd.dget
  | with_reducible apply Rd.someF)
set_option maxHeartbeats 4000000 in
theorem ok_same1 {n : Nat} (F : Def K mg "_law_same" s__law_same P__law_same) (m_isinstance : mg "isinstance" = none) (m_bool : mg "bool" = none) (m_int : mg "int" = none) (m_str : mg "str" = none) (m_dict : mg "dict" = none) (m_len : mg "len" = none) (m_list : mg "list" = none) (m_tuple : mg "tuple" = none) (m_range : mg "range" = none) (C__law_is_integer : Cal P w K mg base 1 "_law_is_integer" P__law_is_integer (spIsInt K)) (C__law_same : Cal P w K mg base (n + 1) "_law_same" P__law_same (spSame K n)) : Cal P w K mg base (n + 2) "_law_same" P__law_same (spSame K (n + 1)) := by
  refine F.ok sc__law_same (fun vs H Q E h => ?_) (fun f cdv A outer s H vs Q E hr h => ?_)
  · obtain ⟨x, y, d, m, _, rfl, _⟩ := h
    rfl
  obtain ⟨x, y, d, m, hn, rfl, hx, hy, hf, q⟩ := h
  obtain rfl : n = m := by omega
  have q0 := q H (.refl H)
  refine ⟨_, (pss_cons (ps_if (PW.pt (pw_or (pt_cmpR o_isN (pv 0 (hd := nd_one) (hcd := nc_one)) pe_non (nomark _)) (pw_or1 (pt_cmpR o_isN (pv 1 (hd := nd_two) (hcd := nc_two)) pe_non (nomark _))))) (pss_one (ps_ret (pe_and (pe_cmpR o_isN (pv 0 (hd := nd_one) (hcd := nc_one)) pe_non (nomark _)) (pe_one (pe_cmpR o_isN (pv 1 (hd := nd_two) (hcd := nc_two)) pe_non (nomark _)))))) pss_nil)
  (pss_cons (ps_if (PW.pt (pw_or (pt_val (pe_callB call_isi (by rfl) m_isinstance bb_isinstance (pa_cons (pv 0 (hd := nd_one) (hcd := nc_one)) (pa_cons (pe_bltn (v := .ty "bool") (u := .type "bool") (by rfl) m_bool bb_bool rfl (hn := nn_bool) (hd := nd_bool)) pa_nil)) (hn := nn_isinstance) (hdb := nd_isinstance))) (pw_or1 (pt_val (pe_callB call_isi (by rfl) m_isinstance bb_isinstance (pa_cons (pv 1 (hd := nd_two) (hcd := nc_two)) (pa_cons (pe_bltn (v := .ty "bool") (u := .type "bool") (by rfl) m_bool bb_bool rfl (hn := nn_bool) (hd := nd_bool)) pa_nil)) (hn := nn_isinstance) (hdb := nd_isinstance)))))) (pss_one (ps_ret (pe_and (pe_callB call_isi (by rfl) m_isinstance bb_isinstance (pa_cons (pv 0 (hd := nd_one) (hcd := nc_one)) (pa_cons (pe_bltn (v := .ty "bool") (u := .type "bool") (by rfl) m_bool bb_bool rfl (hn := nn_bool) (hd := nd_bool)) pa_nil)) (hn := nn_isinstance) (hdb := nd_isinstance)) (pe_and (pe_callB call_isi (by rfl) m_isinstance bb_isinstance (pa_cons (pv 1 (hd := nd_two) (hcd := nc_two)) (pa_cons (pe_bltn (v := .ty "bool") (u := .type "bool") (by rfl) m_bool bb_bool rfl (hn := nn_bool) (hd := nd_bool)) pa_nil)) (hn := nn_isinstance) (hdb := nd_isinstance)) (pe_one (pe_cmpR op_eq (pv 0) (pv 1) (nomark _))))))) pss_nil)
  (pss_cons (ps_if (PW.pt (pw_or (pt_val (pe_callB call_isi (by rfl) m_isinstance bb_isinstance (pa_cons (pv 0 (hd := nd_one) (hcd := nc_one)) (pa_cons (pe_bltn (v := .ty "int") (u := .type "int") (by rfl) m_int bb_int rfl (hn := nn_int) (hd := nd_int)) pa_nil)) (hn := nn_isinstance) (hdb := nd_isinstance))) (pw_or1 (pt_val (pe_callB call_isi (by rfl) m_isinstance bb_isinstance (pa_cons (pv 1 (hd := nd_two) (hcd := nc_two)) (pa_cons (pe_bltn (v := .ty "int") (u := .type "int") (by rfl) m_int bb_int rfl (hn := nn_int) (hd := nd_int)) pa_nil)) (hn := nn_isinstance) (hdb := nd_isinstance)))))) (pss_one (ps_ret (pe_and (pe_callB call_isi (by rfl) m_isinstance bb_isinstance (pa_cons (pv 0 (hd := nd_one) (hcd := nc_one)) (pa_cons (pe_bltn (v := .ty "int") (u := .type "int") (by rfl) m_int bb_int rfl (hn := nn_int) (hd := nd_int)) pa_nil)) (hn := nn_isinstance) (hdb := nd_isinstance)) (pe_and (pe_callB call_isi (by rfl) m_isinstance bb_isinstance (pa_cons (pv 1 (hd := nd_two) (hcd := nc_two)) (pa_cons (pe_bltn (v := .ty "int") (u := .type "int") (by rfl) m_int bb_int rfl (hn := nn_int) (hd := nd_int)) pa_nil)) (hn := nn_isinstance) (hdb := nd_isinstance)) (pe_one (pe_cmpR op_eq (pv 0) (pv 1) (nomark _))))))) pss_nil)
  (pss_cons (ps_if (PW.pt (pw_or (pt_val (pe_callB call_isi (by rfl) m_isinstance bb_isinstance (pa_cons (pv 0 (hd := nd_one) (hcd := nc_one)) (pa_cons (pe_bltn (v := .ty "str") (u := .type "str") (by rfl) m_str bb_str rfl (hn := nn_str) (hd := nd_str)) pa_nil)) (hn := nn_isinstance) (hdb := nd_isinstance))) (pw_or1 (pt_val (pe_callB call_isi (by rfl) m_isinstance bb_isinstance (pa_cons (pv 1 (hd := nd_two) (hcd := nc_two)) (pa_cons (pe_bltn (v := .ty "str") (u := .type "str") (by rfl) m_str bb_str rfl (hn := nn_str) (hd := nd_str)) pa_nil)) (hn := nn_isinstance) (hdb := nd_isinstance)))))) (pss_one (ps_ret (pe_and (pe_callB call_isi (by rfl) m_isinstance bb_isinstance (pa_cons (pv 0 (hd := nd_one) (hcd := nc_one)) (pa_cons (pe_bltn (v := .ty "str") (u := .type "str") (by rfl) m_str bb_str rfl (hn := nn_str) (hd := nd_str)) pa_nil)) (hn := nn_isinstance) (hdb := nd_isinstance)) (pe_and (pe_callB call_isi (by rfl) m_isinstance bb_isinstance (pa_cons (pv 1 (hd := nd_two) (hcd := nc_two)) (pa_cons (pe_bltn (v := .ty "str") (u := .type "str") (by rfl) m_str bb_str rfl (hn := nn_str) (hd := nd_str)) pa_nil)) (hn := nn_isinstance) (hdb := nd_isinstance)) (pe_one (pe_cmpR op_eq (pv 0) (pv 1) (nomark _))))))) pss_nil)
  (pss_cons (ps_if (PW.pt (pw_or (pt_val (pe_callB call_isi (by rfl) m_isinstance bb_isinstance (pa_cons (pv 0 (hd := nd_one) (hcd := nc_one)) (pa_cons (pe_bltn (v := .ty "dict") (u := .type "dict") (by rfl) m_dict bb_dict rfl (hn := nn_dict) (hd := nd_dict)) pa_nil)) (hn := nn_isinstance) (hdb := nd_isinstance))) (pw_or1 (pt_val (pe_callB call_isi (by rfl) m_isinstance bb_isinstance (pa_cons (pv 1 (hd := nd_two) (hcd := nc_two)) (pa_cons (pe_bltn (v := .ty "dict") (u := .type "dict") (by rfl) m_dict bb_dict rfl (hn := nn_dict) (hd := nd_dict)) pa_nil)) (hn := nn_isinstance) (hdb := nd_isinstance)))))) (pss_cons (ps_if (PW.pt (pw_or (pt_not (pt_val (pe_callB call_isi (by rfl) m_isinstance bb_isinstance (pa_cons (pv 0 (hd := nd_one) (hcd := nc_one)) (pa_cons (pe_bltn (v := .ty "dict") (u := .type "dict") (by rfl) m_dict bb_dict rfl (hn := nn_dict) (hd := nd_dict)) pa_nil)) (hn := nn_isinstance) (hdb := nd_isinstance)))) (pw_or (pt_not (pt_val (pe_callB call_isi (by rfl) m_isinstance bb_isinstance (pa_cons (pv 1 (hd := nd_two) (hcd := nc_two)) (pa_cons (pe_bltn (v := .ty "dict") (u := .type "dict") (by rfl) m_dict bb_dict rfl (hn := nn_dict) (hd := nd_dict)) pa_nil)) (hn := nn_isinstance) (hdb := nd_isinstance)))) (pw_or1 (pt_cmpR op_ne (pe_callB (q_lenAK (K := K) rfl) (by rfl) m_len PySem.boot_len (pa_cons (pv 0) pa_nil)) (pe_callB (q_lenAK (K := K) rfl) (by rfl) m_len PySem.boot_len (pa_cons (pv 1) pa_nil)) (nomark _)))))) (pss_one (ps_ret pe_bl)) pss_nil)
  (pss_cons (ps_for PassesOwn.never rfl (pi_list (pe_callTy (q_listDk rfl) (by rfl) m_list bb_list (pa_cons (pv 0) pa_nil))) (pg_name (i := 2) sc__law_same.nd rfl (Or.inl rfl)) (pss_cons (ps_if (PW.pt (pw_or (pt_not (PW.pt (pw_or (pt_val (pe_callB call_isi (by rfl) m_isinstance bb_isinstance (pa_cons (pv 2 (hd := nd_key) (hcd := nc_key)) (pa_cons (pe_bltn (v := .ty "str") (u := .type "str") (by rfl) m_str bb_str rfl (hn := nn_str) (hd := nd_str)) pa_nil)) (hn := nn_isinstance) (hdb := nd_isinstance))) (pw_or1 (pt_val (pe_cal C__law_is_integer hr (pa_cons (pv 2) pa_nil) (by omega))))))) (pw_or1 (pt_cmp (pc_dnotin (hu_of hr) (pv 2) (pv 1)))))) (pss_one (ps_ret pe_bl)) pss_nil)
  (pss_one (ps_if (pt_not (pt_val (pe_cal C__law_same hr (pa_cons (pe_dget (hu_of hr) (pv 0) (pv 2) (fun _ _ => rfl)) (pa_cons (pe_dget (hu_of hr) (pv 1) (pv 2) (fun _ _ => rfl)) pa_nil)) (Nat.le_refl _)))) (pss_one (ps_ret pe_bl)) pss_nil))))
  (pss_cons (ps_for PassesOwn.never rfl (pi_list (pe_callTy (q_listDk rfl) (by rfl) m_list bb_list (pa_cons (pv 1) pa_nil))) (pg_name (i := 2) sc__law_same.nd rfl (Or.inl rfl)) (pss_one (ps_if (pt_not (PW.pt (pw_or (pt_val (pe_callB call_isi (by rfl) m_isinstance bb_isinstance (pa_cons (pv 2 (hd := nd_key) (hcd := nc_key)) (pa_cons (pe_bltn (v := .ty "str") (u := .type "str") (by rfl) m_str bb_str rfl (hn := nn_str) (hd := nd_str)) pa_nil)) (hn := nn_isinstance) (hdb := nd_isinstance))) (pw_or1 (pt_val (pe_cal C__law_is_integer hr (pa_cons (pv 2) pa_nil) (by omega))))))) (pss_one (ps_ret pe_bl)) pss_nil)))
  (pss_one (ps_ret pe_bl))))) pss_nil)
  (pss_cons (ps_set (i := 3) sc__law_same.nd rfl (Or.inl rfl) (pe_and (pe_callB call_isi (by rfl) m_isinstance bb_isinstance (pa_cons (pv 0 (hd := nd_one) (hcd := nc_one)) (pa_cons (pe_bltn (v := .ty "list") (u := .type "list") (by rfl) m_list bb_list rfl (hn := nn_list) (hd := nd_list)) pa_nil)) (hn := nn_isinstance) (hdb := nd_isinstance)) (pe_one (pe_callB call_isi (by rfl) m_isinstance bb_isinstance (pa_cons (pv 1 (hd := nd_two) (hcd := nc_two)) (pa_cons (pe_bltn (v := .ty "list") (u := .type "list") (by rfl) m_list bb_list rfl (hn := nn_list) (hd := nd_list)) pa_nil)) (hn := nn_isinstance) (hdb := nd_isinstance)))))
  (pss_cons (ps_if (PW.pt (pw_and (pt_not (pt_val (pv 3 (hd := nd_lists) (hcd := nc_lists)))) (pw_and1 (pt_not (PW.pt (pw_and (pt_val (pe_callB call_isi (by rfl) m_isinstance bb_isinstance (pa_cons (pv 0 (hd := nd_one) (hcd := nc_one)) (pa_cons (pe_bltn (v := .ty "tuple") (u := .type "tuple") (by rfl) m_tuple bb_tuple rfl (hn := nn_tuple) (hd := nd_tuple)) pa_nil)) (hn := nn_isinstance) (hdb := nd_isinstance))) (pw_and1 (pt_val (pe_callB call_isi (by rfl) m_isinstance bb_isinstance (pa_cons (pv 1 (hd := nd_two) (hcd := nc_two)) (pa_cons (pe_bltn (v := .ty "tuple") (u := .type "tuple") (by rfl) m_tuple bb_tuple rfl (hn := nn_tuple) (hd := nd_tuple)) pa_nil)) (hn := nn_isinstance) (hdb := nd_isinstance)))))))))) (pss_one (ps_ret pe_bl)) pss_nil)
  (pss_cons (ps_if (pt_cmpR op_ne (pe_callB (q_lenAK (K := K) rfl) (by rfl) m_len PySem.boot_len (pa_cons (pv 0) pa_nil)) (pe_callB (q_lenAK (K := K) rfl) (by rfl) m_len PySem.boot_len (pa_cons (pv 1) pa_nil)) (nomark _)) (pss_one (ps_ret pe_bl)) pss_nil)
  (pss_cons (ps_for PassesOwn.never rfl (pi_range1 (by rfl) m_range (pa_cons (pe_callB (q_lenAK (K := K) rfl) (by rfl) m_len PySem.boot_len (pa_cons (pv 0) pa_nil)) pa_nil)) (pg_name (i := 4) sc__law_same.nd rfl (Or.inl rfl)) (pss_one (ps_if (pt_not (pt_val (pe_cal C__law_same hr (pa_cons (pe_ix ix_seq (pv 0) (pv 4) (fun _ _ => rfl)) (pa_cons (pe_ix ix_seq (pv 1) (pv 4) (fun _ _ => rfl)) pa_nil)) (Nat.le_refl _)))) (pss_one (ps_ret pe_bl)) pss_nil)))
  (pss_one (ps_ret pe_bl))))))))))), ?_⟩
  refine Rd.at0 (σ := [some x, some y, none, none, none]) rfl ?_
  have eqv : ∀ v : V, decide (v = v) = true := fun v => decide_eq_true rfl
  cases hx with
  | non =>
    cases hy
    repeat' (walk_at "rd")
    rw [eqv]
    exact q0
  | bl b =>
    cases hy
    repeat' (walk_at "rd")
    rw [eqv]
    exact q0
  | int i =>
    cases hy
    repeat' (walk_at "rd")
    rw [eqv]
    exact q0
  | str z =>
    cases hy
    repeat' (walk_at "rd")
    rw [eqv]
    exact q0
  | lst h1 r1 =>
    cases hy with
    | lst h2 r2 =>
      rename_i a xs ds b ys
      cases hf with
      | lst hd hf =>
        rename_i n
        have l1 := va_len r1
        have l2 := va_len r2
        repeat' (walk_at "rd")
        · omega
        refine forR (fun i σ H' => ∃ v4 : Option V, σ = [some (.ref a), some (.ref b), none, some (.bl true), v4] ∧ Same H H') ⟨none, rfl, .refl _⟩ ?_ ?_
        · rintro i σ H' hi ⟨v4, rfl, sm⟩
          obtain ⟨x, y, d, ex, ey, dx, dy, fd⟩ := same_turn r1 r2 hf (show i < xs.length by omega)
          repeat' (walk_at "rd")
          refine .inl (ixN' (sm.seq h1) (by omega) ex ?_)
          repeat' (walk_at "rd")
          refine .inl (ixN' (sm.seq h2) (by omega) ey ?_)
          repeat' (walk_at "rd")
          refine ⟨x, y, d, n, rfl, rfl, dv_same sm dx, dv_same sm dy, fd, fun H2 s2 => ?_⟩
          repeat' (walk_at "rd")
          exact ⟨_, rfl, sm.trans s2⟩
        · rintro σ H' ⟨v4, rfl, sm⟩
          repeat' (walk_at "rd")
          exact q H' sm
  | tup h1 r1 =>
    cases hy with
    | tup h2 r2 =>
      rename_i a xs ds b ys
      cases hf with
      | tup hd hf =>
        rename_i n
        have l1 := va_len r1
        have l2 := va_len r2
        repeat' (walk_at "rd")
        · omega
        refine forR (fun i σ H' => ∃ v4 : Option V, σ = [some (.ref a), some (.ref b), none, some (.bl false), v4] ∧ Same H H') ⟨none, rfl, .refl _⟩ ?_ ?_
        · rintro i σ H' hi ⟨v4, rfl, sm⟩
          obtain ⟨x, y, d, ex, ey, dx, dy, fd⟩ := same_turn r1 r2 hf (show i < xs.length by omega)
          repeat' (walk_at "rd")
          refine .inr (.inl (ixT' (sqT_same sm h1) (by omega) ex ?_))
          repeat' (walk_at "rd")
          refine .inr (.inl (ixT' (sqT_same sm h2) (by omega) ey ?_))
          repeat' (walk_at "rd")
          refine ⟨x, y, d, n, rfl, rfl, dv_same sm dx, dv_same sm dy, fd, fun H2 s2 => ?_⟩
          repeat' (walk_at "rd")
          exact ⟨_, rfl, sm.trans s2⟩
        · rintro σ H' ⟨v4, rfl, sm⟩
          repeat' (walk_at "rd")
          exact q H' sm
  | @dc0 a h1 =>
    cases hy with
    | @dc0 b h2 =>
      repeat' (walk_at "rd")
      · rename_i z
        exact absurd rfl z
      rename_i l hl G hs he
      refine forL [] (fun i σ H' => H' = G ∧ σ = [some (.ref a), some (.ref b), none, none, none]) ⟨rfl, rfl⟩ (fun _ _ _ _ h => by rw [h.1]; exact .inl (.inl he)) (fun i x σ H' hx => by cases hx) ?_
      rintro σ H' ⟨rfl, rfl⟩
      repeat' (walk_at "rd")
      rename_i l2 hl2 G2 hs2 he2
      refine forL [] (fun i σ H' => H' = G2 ∧ σ = [some (.ref a), some (.ref b), none, none, none]) ⟨rfl, rfl⟩ (fun _ _ _ _ h => by rw [h.1]; exact .inl (.inl he2)) (fun i x σ H' hx => by cases hx) ?_
      rintro σ H' ⟨rfl, rfl⟩
      repeat' (walk_at "rd")
      exact q _ (hs.trans hs2)
  | @dc1 a k v d h1 d1 =>
    cases hy with
    | @dc1 b _ v' _ h2 d2 =>
      cases hf with
      | dc1 hf =>
        rename_i n
        have one : ∀ {i : Nat} {x : V}, [V.str k][i]? = some x → V.str k = x := fun {i x} hx => by
          match i, hx with
          | 0, hx => exact Option.some.inj hx
        repeat' (walk_at "rd")
        · rename_i z
          exact absurd rfl z
        rename_i l hl G hs he
        refine forL [V.str k] (fun i σ H' => ∃ v2, σ = [some (.ref a), some (.ref b), v2, none, none] ∧ Same G H') ⟨none, rfl, .refl _⟩ (fun _ _ _ _ ⟨_, _, s⟩ => s.seq (.inl (.inl he))) ?_ ?_
        · rintro i x σ H' hx ⟨v2, rfl, sm⟩
          obtain rfl := one hx
          have sm' := hs.trans sm
          have h1' := sm' _ _ h1
          have h2' := sm' _ _ h2
          repeat' (walk_at "rd")
          refine ⟨b, some v', rfl, dget_k h2', ?_⟩
          repeat' (walk_at "rd")
          refine ⟨a, v, rfl, dget_k h1', ?_⟩
          repeat' (walk_at "rd")
          refine ⟨b, v', rfl, dget_k h2', ?_⟩
          repeat' (walk_at "rd")
          refine ⟨v, v', d, n, rfl, rfl, dv_same sm' d1, dv_same sm' d2, hf, fun H2 s2 => ?_⟩
          repeat' (walk_at "rd")
          exact ⟨_, rfl, sm.trans s2⟩
        · rintro σ H' ⟨v2, rfl, sm⟩
          repeat' (walk_at "rd")
          rename_i l2 hl2 G2 hs2 he2
          refine forL [V.str k] (fun i σ H' => ∃ v2, σ = [some (.ref a), some (.ref b), v2, none, none] ∧ H' = G2) ⟨v2, rfl, rfl⟩ (fun _ _ _ _ ⟨_, _, e⟩ => by rw [e]; exact .inl (.inl he2)) ?_ ?_
          · rintro i x σ H' hx ⟨v2, rfl, rfl⟩
            obtain rfl := one hx
            repeat' (walk_at "rd")
            exact ⟨_, rfl, rfl⟩
          · rintro σ H' ⟨v2, rfl, rfl⟩
            repeat' (walk_at "rd")
            exact q _ ((hs.trans sm).trans hs2)
theorem ok__law_same (F : Def K mg "_law_same" s__law_same P__law_same) (m_isinstance : mg "isinstance" = none) (m_bool : mg "bool" = none) (m_int : mg "int" = none) (m_str : mg "str" = none) (m_dict : mg "dict" = none) (m_len : mg "len" = none) (m_list : mg "list" = none) (m_tuple : mg "tuple" = none) (m_range : mg "range" = none) (C__law_is_integer : Cal P w K mg base 1 "_law_is_integer" P__law_is_integer (spIsInt K)) : ∀ n : Nat, Cal P w K mg base (n + 1) "_law_same" P__law_same (spSame K n)
  | 0 => ((Def.none F).imp fun _ _ _ _ ⟨_, _, _, _, z, _⟩ => by omega).mono (Nat.zero_le _)
  | n + 1 => ok_same1 F m_isinstance m_bool m_int m_str m_dict m_len m_list m_tuple m_range C__law_is_integer (ok__law_same F m_isinstance m_bool m_int m_str m_dict m_len m_list m_tuple m_range C__law_is_integer n)
end
/-! ### a frozen copy -/
section
variable {P : Program} {w : World} {K : PySem.W.Frag} {mg : Str → Option Value} {base : Heap}
mutual
def frz : PyData → PyData
  | .list ds => .tuple [.str "list", .tuple (frzs ds)]
  | .tuple ds => .tuple [.str "tuple", .tuple (frzs ds)]
  | .dict [] => .tuple [.str "dict", .tuple []]
  | .dict ((k, d) :: _) => .tuple [.str "dict", .tuple [.tuple [k, frz d]]]
  | d => d
def frzs : List PyData → List PyData
  | [] => []
  | d :: ds => frz d :: frzs ds
end
theorem frzs_take : ∀ (ds : List PyData) (i : Nat) (d : PyData), ds[i]? = some d → frzs (ds.take (i + 1)) = frzs (ds.take i) ++ [frz d]
  | [], _, _, h => by simp at h
  | x :: ds, 0, d, h => by
    cases h
    rfl
  | x :: ds, i + 1, d, h => by
    have h : ds[i]? = some d := by simpa using h
    show frz x :: frzs (ds.take (i + 1)) = frz x :: frzs (ds.take i) ++ [frz d]
    rw [frzs_take ds i d h]
    rfl
theorem frzs_len : ∀ ds : List PyData, (frzs ds).length = ds.length
  | [] => rfl
  | _ :: ds => congrArg (· + 1) (frzs_len ds)
/-- _law_frozen(v): a value of the frozen data -/
def spFrozen (K : PySem.W.Frag) (n : Nat) : Sp := fun vs H Q _ => ∃ (x : V) (d : PyData) (m : Nat), n = m + 1 ∧ vs = [x] ∧ Dv K H x d ∧ Fd m d ∧ ∀ y H', Same H H' → Dv K H' y (frz d) → Q y H'
local macro_rules | `(tactic| walk_at "rd") => `(tactic| first
  | ((with_reducible apply Rd.listDk); (walk_at "hp"); (rfl))
  | with_reducible apply Rd.din
  | with_reducible apply Rd.dget
  | with_reducible apply Rd.someF
  | with_reducible apply Rd.itup
  | ((with_reducible apply Rd.extup); (walk_at "st")))
theorem frz_tp {n : Nat} {d : PyData} (h : Fd n d) : Tp (frz d) := by
  have all : ∀ {ds : List PyData}, (∀ d ∈ ds, Tp (frz d)) → ∀ x ∈ frzs ds, Tp x := by
    intro ds
    induction ds with
    | nil => exact fun _ x hx => nomatch hx
    | cons d ds ih =>
      intro h x hx
      rcases List.mem_cons.mp hx with e | hx
      · rw [e]
        exact h d List.mem_cons_self
      · exact ih (fun y hy => h y (List.mem_cons_of_mem _ hy)) x hx
  have two : ∀ {a b : PyData}, Tp a → Tp b → Tp (.tuple [a, b]) := fun {a b} ha hb => .tup fun x hx => by
    rcases List.mem_cons.mp hx with e | hx
    · rw [e]; exact ha
    · rw [List.mem_singleton.mp hx]; exact hb
  induction h with
  | non => exact .non
  | bl b => exact .bl b
  | int i => exact .int i
  | str s => exact .str s
  | lst l _ ih => exact two (.str _) (.tup (all ih))
  | tup l _ ih => exact two (.str _) (.tup (all ih))
  | dc0 => exact two (.str _) (.tup fun x hx => nomatch hx)
  | dc1 _ ih => exact two (.str _) (.tup fun x hx => by rw [List.mem_singleton.mp hx]; exact two (.str _) ih)
theorem frzs_tp {n : Nat} {ds : List PyData} (h : ∀ d ∈ ds, Fd n d) : ∀ x ∈ frzs ds, Tp x := by
  induction ds with
  | nil => exact fun x hx => nomatch hx
  | cons d ds ih =>
    intro x hx
    rcases List.mem_cons.mp hx with e | hx
    · rw [e]
      exact frz_tp (h d List.mem_cons_self)
    · exact ih (fun y hy => h y (List.mem_cons_of_mem _ hy)) x hx
theorem frz_fd {n : Nat} {d : PyData} (h : Fd n d) : Fd (3 * n) (frz d) := by
  have all : ∀ {n : Nat} {ds : List PyData}, (∀ d ∈ ds, Fd (3 * n) (frz d)) → ∀ x ∈ frzs ds, Fd (3 * n) x := by
    intro n ds
    induction ds with
    | nil => exact fun _ x hx => nomatch hx
    | cons d ds ih =>
      intro h x hx
      rcases List.mem_cons.mp hx with e | hx
      · rw [e]
        exact h d List.mem_cons_self
      · exact ih (fun y hy => h y (List.mem_cons_of_mem _ hy)) x hx
  have two : ∀ {n : Nat} {a b : PyData}, Fd n a → Fd n b → Fd (n + 1) (.tuple [a, b]) := fun {n a b} ha hb => .tup (show 2 ≤ 100000 by decide) fun x hx => by
    rcases List.mem_cons.mp hx with e | hx
    · rw [e]; exact ha
    · rw [List.mem_singleton.mp hx]; exact hb
  induction h with
  | non => exact .non
  | bl b => exact .bl b
  | int i => exact .int i
  | str s => exact .str s
  | @lst n ds l _ ih => exact (two (n := 3 * n + 1) (.str _) (.tup (by rw [frzs_len]; exact l) (all ih))).mono (by omega)
  | @tup n ds l _ ih => exact (two (n := 3 * n + 1) (.str _) (.tup (by rw [frzs_len]; exact l) (all ih))).mono (by omega)
  | @dc0 n => exact (two (n := 3 * n + 1) (.str _) (.tup (ds := []) (Nat.zero_le _) fun x hx => nomatch hx)).mono (by omega)
  | @dc1 n k d _ ih => exact (two (n := 3 * n + 2) (.str _) (.tup (ds := [.tuple [.str k, frz d]]) (show 1 ≤ 100000 by decide) fun x hx => by rw [List.mem_singleton.mp hx]; exact two (.str _) ih)).mono (by omega)
/-- a comprehension that freezes its items -/
theorem froze_list {n : Nat} {te : TE} {tl : TT} {g : TG} {vs : List Nat} {σ : L2.St} {H : Hp} {Q : VK} {xs : List V} {ds : List PyData} {J : It} (h1 : DvAll K H xs ds) (hl : ds.length ≤ 100000) (hf : ∀ d ∈ ds, Fd n d)
    (loop : ∀ (f : ∀ L, H L = none → ∃ Pv : Nat → Hp → Prop, Pv 0 (upd H L (.lst [])) ∧ (∀ i h, i ≤ xs.length → Pv i h → Same H h) ∧
      (∀ i x h, xs[i]? = some x → Pv i h → Turn1 g tl te vs σ L x h (Pv (i + 1))) ∧ ∀ h, Pv xs.length h → Q (.ref L) h), LcB J g tl te vs σ H Q)
    (turn : ∀ (i : Nat) (x : V) (d : PyData) (L : Addr) (G : Hp) (out : List V) (Nx : Hp → Prop), xs[i]? = some x → ds[i]? = some d → Same H G → G L = some (.lst out) → out.length < sizeLine →
      (∀ y G', Same G G' → Dv K G' y (frz d) → G' L = some (.lst out) → Nx (upd G' L (.lst (out ++ [y])))) → Turn1 g tl te vs σ L x G Nx)
    (done : ∀ (L : Addr) (G : Hp) (ys : List V), H L = none → Same H G → G L = some (.lst ys) → DvAll K G ys (frzs ds) → Q (.ref L) G) : LcB J g tl te vs σ H Q := by
  refine loop fun L nL => ⟨fun i h => ∃ out, Same H h ∧ h L = some (.lst out) ∧ DvAll K h out (frzs (ds.take i)) ∧ i ≤ xs.length, ⟨[], same_upd nL, upd_same, .nil, Nat.zero_le _⟩, fun i h _ ⟨_, s, _⟩ => s, ?_, ?_⟩
  · rintro i x h hx ⟨out, s, eL, da, hi⟩
    have lt : i < xs.length := (List.getElem?_eq_some_iff.mp hx).1
    have ll := va_len h1
    have hd := List.getElem?_eq_getElem (l := ds) (show i < ds.length by omega)
    have lo := va_len da
    rw [frzs_len, List.length_take] at lo
    refine turn i x _ L h out _ hx hd s eL (sz5' (by omega)) fun y G' s' dy eL' => ?_
    have off : ∀ b o, H b = some o → b ≠ L := fun b o e => ne_of_none e nL
    refine ⟨out ++ [y], fun b o e => (upd_ne (off b o e)).trans (s' _ _ (s _ _ e)), upd_same, ?_, lt⟩
    rw [frzs_take ds i _ hd]
    have tk : Tk G' (upd G' L (.lst (out ++ [y]))) := tk_put eL' _
    exact va_append _ _ (va_tk tk (va_same s' da) (frzs_tp fun d hd => hf d (List.mem_of_mem_take hd))) (.cons (dv_tk tk dy (frz_tp (hf _ (List.getElem_mem _)))) .nil)
  · rintro h ⟨out, s, eL, da, _⟩
    rw [List.take_of_length_le (by rw [va_len h1]; exact Nat.le_refl _)] at da
    exact done L h out nL s eL da
set_option maxHeartbeats 4000000 in
theorem ok_froz1 {n : Nat} (F : Def K mg "_law_frozen" s__law_frozen P__law_frozen) (m_isinstance : mg "isinstance" = none) (m_list : mg "list" = none) (m_tuple : mg "tuple" = none) (m_dict : mg "dict" = none) (m_str : mg "str" = none) (m_sorted : mg "sorted" = none) (C__law_frozen : Cal P w K mg base n "_law_frozen" P__law_frozen (spFrozen K n)) : Cal P w K mg base (n + 1) "_law_frozen" P__law_frozen (spFrozen K (n + 1)) := by
  refine F.ok sc__law_frozen (fun vs H Q E h => ?_) (fun f cdv A outer s H vs Q E hr h => ?_)
  · obtain ⟨x, d, m, _, rfl, _⟩ := h
    rfl
  obtain ⟨x, d, m, hn, rfl, hx, hf, q⟩ := h
  obtain rfl : n = m := by omega
  refine ⟨_, (pss_cons (ps_if (pt_val (pe_callB call_isi (by rfl) m_isinstance bb_isinstance (pa_cons (pv 0 (hd := nd_value) (hcd := nc_value)) (pa_cons (pe_bltn (v := .ty "list") (u := .type "list") (by rfl) m_list bb_list rfl (hn := nn_list) (hd := nd_list)) pa_nil)) (hn := nn_isinstance) (hdb := nd_isinstance))) (pss_one (ps_ret (pe_tup (pa_cons pe_str (pa_cons (pe_callTy q_tup (by rfl) m_tuple bb_tuple (pa_cons (pe_lc (own := [("item", 2)]) (by rfl) sc__law_frozen.nd (pi_list (pv 0 (hd := nd_value) (hcd := nc_value))) (blkOk_by (N := N__law_frozen) (sc := defScope s__law_frozen) (by decide +kernel)) (fun _ _ _ _ _ => (pg_name (i := 2) sc__law_frozen.nd rfl (Or.inl rfl))) (fun _ _ _ _ _ => pts_nil) (fun _ _ _ _ _ => (pe_cal C__law_frozen hr (pa_cons (pv 2) pa_nil) (Nat.le_refl _)))) pa_nil) (hn := nn_tuple) (hdb := nd_tuple)) pa_nil))))) pss_nil)
  (pss_cons (ps_if (pt_val (pe_callB call_isi (by rfl) m_isinstance bb_isinstance (pa_cons (pv 0 (hd := nd_value) (hcd := nc_value)) (pa_cons (pe_bltn (v := .ty "tuple") (u := .type "tuple") (by rfl) m_tuple bb_tuple rfl (hn := nn_tuple) (hd := nd_tuple)) pa_nil)) (hn := nn_isinstance) (hdb := nd_isinstance))) (pss_one (ps_ret (pe_tup (pa_cons pe_str (pa_cons (pe_callTy q_tup (by rfl) m_tuple bb_tuple (pa_cons (pe_lc (own := [("item", 2)]) (by rfl) sc__law_frozen.nd (pi_tup (pv 0 (hd := nd_value) (hcd := nc_value))) (blkOk_by (N := N__law_frozen) (sc := defScope s__law_frozen) (by decide +kernel)) (fun _ _ _ _ _ => (pg_name (i := 2) sc__law_frozen.nd rfl (Or.inl rfl))) (fun _ _ _ _ _ => pts_nil) (fun _ _ _ _ _ => (pe_cal C__law_frozen hr (pa_cons (pv 2) pa_nil) (Nat.le_refl _)))) pa_nil) (hn := nn_tuple) (hdb := nd_tuple)) pa_nil))))) pss_nil)
  (pss_cons (ps_if (pt_val (pe_callB call_isi (by rfl) m_isinstance bb_isinstance (pa_cons (pv 0 (hd := nd_value) (hcd := nc_value)) (pa_cons (pe_bltn (v := .ty "dict") (u := .type "dict") (by rfl) m_dict bb_dict rfl (hn := nn_dict) (hd := nd_dict)) pa_nil)) (hn := nn_isinstance) (hdb := nd_isinstance))) (pss_cons (ps_for PassesOwn.never rfl (pi_list (pe_callTy (q_listDk rfl) (by rfl) m_list bb_list (pa_cons (pv 0) pa_nil))) (pg_name (i := 1) sc__law_frozen.nd rfl (Or.inl rfl)) (pss_one (ps_if (pt_not (pt_val (pe_callB call_isi (by rfl) m_isinstance bb_isinstance (pa_cons (pv 1 (hd := nd_key) (hcd := nc_key)) (pa_cons (pe_bltn (v := .ty "str") (u := .type "str") (by rfl) m_str bb_str rfl (hn := nn_str) (hd := nd_str)) pa_nil)) (hn := nn_isinstance) (hdb := nd_isinstance)))) (pss_one (ps_ret (pe_tup (pa_cons pe_str (pa_cons pe_non pa_nil))))) pss_nil)))
  (pss_one (ps_ret (pe_tup (pa_cons pe_str (pa_cons (pe_callTy q_tup (by rfl) m_tuple bb_tuple (pa_cons (pe_lc (own := [("key", 1)]) (by rfl) sc__law_frozen.nd (pi_list (pe_callB (q_sortedSK (K := K) rfl) (by rfl) m_sorted bb_sorted (pa_cons (pe_callTy (q_listDk rfl) (by rfl) m_list bb_list (pa_cons (pv 0) pa_nil)) pa_nil) (hn := nn_sorted) (hdb := nd_sorted))) (blkOk_by (N := N__law_frozen) (sc := defScope s__law_frozen) (by decide +kernel)) (fun _ _ _ _ _ => (pg_name (i := 1) sc__law_frozen.nd rfl (Or.inl rfl))) (fun _ _ _ _ _ => pts_nil) (fun _ _ _ _ _ => (pe_tup (pa_cons (pv 1 (hd := nd_key) (hcd := nc_key)) (pa_cons (pe_cal C__law_frozen hr (pa_cons (pe_dget (hu_of hr) (pv 0) (pv 1) (fun _ _ => rfl)) pa_nil) (Nat.le_refl _)) pa_nil))))) pa_nil) (hn := nn_tuple) (hdb := nd_tuple)) pa_nil)))))) pss_nil)
  (pss_one (ps_ret (pv 0 (hd := nd_value) (hcd := nc_value))))))), ?_⟩
  refine Rd.at0 (σ := [some x, none, none]) rfl ?_
  cases hx with
  | non =>
    repeat' (walk_at "rd")
    exact q _ _ (.refl _) .non
  | bl b =>
    repeat' (walk_at "rd")
    exact q _ _ (.refl _) (.bl b)
  | int i =>
    repeat' (walk_at "rd")
    exact q _ _ (.refl _) (.int i)
  | str z =>
    repeat' (walk_at "rd")
    exact q _ _ (.refl _) (.str z)
  | @lst a xs ds h1 r1 =>
    cases hf with
    | @lst n _ hd hf =>
      repeat' (walk_at "rd")
      refine froze_list r1 hd hf (fun f => lcL xs fun L nL => ?_) (fun i x d L G out Nx hx hd' sG eL lo nx => ?_) (fun L G ys nL sG eL da => ?_)
      · obtain ⟨Pv, h0, hs, ht, he⟩ := f L nL
        exact ⟨Pv, h0, fun i h hi p => (hs i h hi p).seq h1, ht, he⟩
      · obtain ⟨x', ex, dx⟩ := va_at _ _ _ _ r1 hd'
        obtain rfl : x' = x := Option.some.inj (ex.symm.trans hx)
        refine turn1 ?_
        repeat' (walk_at "rd")
        refine ⟨rfl, ?_⟩
        repeat' (walk_at "rd")
        refine ⟨x', d, _, rfl, rfl, dv_same sG dx, hf d (List.mem_of_getElem? hd'), fun y G' s' dy => ?_⟩
        exact ⟨out, s' _ _ eL, lo, nx y G' s' dy (s' _ _ eL)⟩
      · repeat' (walk_at "rd")
        rename_i l1 hl1 G1 hs1 he1 l2 hl2 G2 hs2 he2
        refine q _ _ ((sG.trans hs1).trans hs2) ?_
        exact .tup (.inl (.inl he2)) (.cons (.str _) (.cons (.tup (.inl (.inl (hs2 _ _ he1))) (va_same (hs1.trans hs2) da)) .nil))
  | @tup a xs ds h1 r1 =>
    cases hf with
    | @tup n _ hd hf =>
      repeat' (walk_at "rd")
      refine froze_list r1 hd hf (fun f => lcT xs fun L nL => ?_) (fun i x d L G out Nx hx hd' sG eL lo nx => ?_) (fun L G ys nL sG eL da => ?_)
      · obtain ⟨Pv, h0, hs, ht, he⟩ := f L nL
        exact ⟨Pv, h0, fun i h hi p => sqT_same (hs i h hi p) h1, ht, he⟩
      · obtain ⟨x', ex, dx⟩ := va_at _ _ _ _ r1 hd'
        obtain rfl : x' = x := Option.some.inj (ex.symm.trans hx)
        refine turn1 ?_
        repeat' (walk_at "rd")
        refine ⟨rfl, ?_⟩
        repeat' (walk_at "rd")
        refine ⟨x', d, _, rfl, rfl, dv_same sG dx, hf d (List.mem_of_getElem? hd'), fun y G' s' dy => ?_⟩
        exact ⟨out, s' _ _ eL, lo, nx y G' s' dy (s' _ _ eL)⟩
      · repeat' (walk_at "rd")
        rename_i l1 hl1 G1 hs1 he1 l2 hl2 G2 hs2 he2
        refine q _ _ ((sG.trans hs1).trans hs2) ?_
        exact .tup (.inl (.inl he2)) (.cons (.str _) (.cons (.tup (.inl (.inl (hs2 _ _ he1))) (va_same (hs1.trans hs2) da)) .nil))
  | @dc0 a h1 =>
    repeat' (walk_at "rd")
    rename_i l hl G hs he
    refine forL [] (fun i σ H' => H' = G ∧ σ = [some (.ref a), none, none]) ⟨rfl, rfl⟩ (fun _ _ _ _ h => by rw [h.1]; exact .inl (.inl he)) (fun i x σ H' hx => by cases hx) ?_
    rintro σ H' ⟨rfl, rfl⟩
    repeat' (walk_at "rd")
    rename_i l2 hl2 G2 hs2 he2
    refine sortS1 [] (by decide) (.inl (.inl he2)) ?_
    repeat' (walk_at "rd")
    rename_i l3 hl3 G3 hs3 he3
    refine lcL [] fun L nL => ⟨fun _ h => h = upd G3 L (.lst []), rfl, fun _ h _ e => ?_, fun i x h hx => (by cases hx), fun h e => ?_⟩
    · rw [e]
      exact (same_upd nL).seq (.inl (.inl he3))
    · subst e
      have sL := same_upd (o := .lst []) nL
      have eL : (upd G3 L (.lst [])) L = some (.lst []) := upd_same
      repeat' (walk_at "rd")
      rename_i l4 hl4 G4 hs4 he4 l5 hl5 G5 hs5 he5
      refine q _ _ (((((hs.trans hs2).trans hs3).trans sL).trans hs4).trans hs5) ?_
      exact .tup (.inl (.inl he5)) (.cons (.str _) (.cons (.tup (.inl (.inl (hs5 _ _ he4))) .nil) .nil))
  | @dc1 a k v d h1 d1 =>
    cases hf with
    | @dc1 n _ _ hf =>
      have one : ∀ {i : Nat} {x : V}, [V.str k][i]? = some x → V.str k = x := fun {i x} hx => by
        match i, hx with
        | 0, hx => exact Option.some.inj hx
      repeat' (walk_at "rd")
      rename_i l hl G hs he
      refine forL [V.str k] (fun i σ H' => ∃ v1, σ = [some (.ref a), v1, none] ∧ H' = G) ⟨none, rfl, rfl⟩ (fun _ _ _ _ ⟨_, _, e⟩ => by rw [e]; exact .inl (.inl he)) ?_ ?_
      · rintro i x σ H' hx ⟨v1, rfl, rfl⟩
        obtain rfl := one hx
        repeat' (walk_at "rd")
        exact ⟨_, rfl, rfl⟩
      · rintro σ H' ⟨v1, rfl, rfl⟩
        repeat' (walk_at "rd")
        rename_i l2 hl2 G2 hs2 he2
        refine sortS1 [k] (Nat.le_refl _) (.inl (.inl he2)) ?_
        repeat' (walk_at "rd")
        rename_i l3 hl3 G3 hs3 he3
        have s3 := (hs.trans hs2).trans hs3
        refine lcL [V.str k] fun L nL => ⟨fun i h => Same G3 h ∧ ((i = 0 ∧ h L = some (.lst [])) ∨ (i = 1 ∧ ∃ y, h L = some (.lst [y]) ∧ Dv K h y (.tuple [.str k, frz d]))), ⟨same_upd nL, .inl ⟨rfl, upd_same⟩⟩, fun _ h _ e => e.1.seq (.inl (.inl he3)), ?_, ?_⟩
        · rintro i x h hx ⟨sG, ⟨rfl, eL⟩ | ⟨rfl, _⟩⟩
          · obtain rfl := one hx
            refine turn1 ?_
            repeat' (walk_at "rd")
            refine ⟨rfl, ?_⟩
            repeat' (walk_at "rd")
            refine ⟨a, v, rfl, dget_k ((s3.trans sG) _ _ h1), ?_⟩
            repeat' (walk_at "rd")
            refine ⟨v, d, _, rfl, rfl, dv_same (s3.trans sG) d1, hf, fun y G' s' dy => ?_⟩
            repeat' (walk_at "rd")
            rename_i l5 hl5 G5 hs5 he5
            have eL5 := hs5 _ _ (s' _ _ eL)
            refine ⟨[], eL5, by decide, fun b o e => ?_, .inr ⟨rfl, _, upd_same, ?_⟩⟩
            · rw [upd_ne (ne_of_none e nL)]
              exact hs5 _ _ (s' _ _ (sG _ _ e))
            · have t : Dv K G5 (.ref l5) (.tuple [.str k, frz d]) := .tup (.inl (.inl he5)) (.cons (.str _) (.cons (dv_same hs5 dy) .nil))
              refine dv_tk (tk_put eL5 _) t (.tup fun x hx => ?_)
              rcases List.mem_cons.mp hx with e | hx
              · rw [e]
                exact .str _
              · rw [List.mem_singleton.mp hx]
                exact frz_tp hf
          · cases hx
        · rintro h ⟨sG, ⟨e, _⟩ | ⟨_, y, eL, dy⟩⟩
          · cases e
          · repeat' (walk_at "rd")
            rename_i l4 hl4 G4 hs4 he4 l5 hl5 G5 hs5 he5
            refine q _ _ (((s3.trans sG).trans hs4).trans hs5) ?_
            exact .tup (.inl (.inl he5)) (.cons (.str _) (.cons (.tup (.inl (.inl (hs5 _ _ he4))) (.cons (dv_same (hs4.trans hs5) dy) .nil)) .nil))
theorem ok__law_frozen (F : Def K mg "_law_frozen" s__law_frozen P__law_frozen) (m_isinstance : mg "isinstance" = none) (m_list : mg "list" = none) (m_tuple : mg "tuple" = none) (m_dict : mg "dict" = none) (m_str : mg "str" = none) (m_sorted : mg "sorted" = none) : ∀ n : Nat, Cal P w K mg base n "_law_frozen" P__law_frozen (spFrozen K n)
  | 0 => (Def.none F).imp fun _ _ _ _ ⟨_, _, _, z, _⟩ => by omega
  | n + 1 => ok_froz1 F m_isinstance m_list m_tuple m_dict m_str m_sorted (ok__law_frozen F m_isinstance m_list m_tuple m_dict m_str m_sorted n)
end
end Kj
namespace Kj
open PySem PySem.Spec PyProof.Rows L2 Rd
/-! ### the stepper -/
local macro_rules | `(tactic| walk_at "hp") => `(tactic| first
  | assumption
  | exact upd_same
  | (refine Eq.trans (upd_ne (by first | assumption | (apply Ne.symm; assumption))) ?_; walk_at "hp"))
local macro_rules | `(tactic| walk_at "sq") => `(tactic| first
  | assumption
  | (refine Or.inl (Or.inl ?_); walk_at "hp"))
local macro_rules | `(tactic| walk_at "st") => `(tactic| first
  | assumption
  | (refine Or.inl (Or.inl ?_); walk_at "hp"))
local macro_rules | `(tactic| walk_at "ar") => `(tactic| first
  | assumption
  | omega
  | decide)
local macro_rules | `(tactic| walk_at "ci") => `(tactic| first
  | (refine (show CMul _ _ from Or.inr ⟨?_, ?_⟩) <;> omega)
  | (refine (show CMul _ _ from Or.inl ⟨?_, ?_⟩) <;> omega)
  | (show CPow _ _; exact ⟨by decide, by decide, by decide⟩)
  | (refine wide_div (b := 63) ?_ ?_ (by decide) (by decide) <;> omega)
  | (show (0 : Int) < _; omega))
local macro_rules | `(tactic| walk_at "ty") => `(tactic| first
  | exact dp_ty (by assumption)
  | exact TyX.base (TyOf.int _)
  | exact TyX.base (TyOf.str _)
  | exact TyX.base (TyOf.bl _)
  | exact TyX.base TyOf.non
  | exact tyL' (by walk_at "sq")
  | exact tyT' (by walk_at "st"))
local macro_rules | `(tactic| walk_at "isi") => `(tactic| first
  | ((with_reducible apply Rd.isiF); (walk_at "ty"); (decide))
  | ((with_reducible apply Rd.isiT); (walk_at "ty"); (decide)))
local macro_rules | `(tactic| walk_at "rd") => `(tactic| first
  | with_reducible apply Rd.seq
  | ((with_reducible apply Rd.var); rfl)
  | with_reducible apply Rd.con
  | with_reducible apply Rd.op
  | with_reducible apply Rd.asg
  | ((with_reducible apply Rd.gname); ((dsimp only [List.set, L2.wipe, Int.reduceToNat]) <;> rfl))
  | with_reducible apply Rd.nxt
  | with_reducible apply Rd.ifs
  | with_reducible apply Rd.test
  | with_reducible apply Rd.testB
  | with_reducible apply Rd.exbl
  | with_reducible apply Rd.ret
  | with_reducible apply Rd.drop
  | with_reducible apply Rd.retN
  | with_reducible apply Rd.nil
  | with_reducible apply Rd.cons
  | with_reducible apply Rd.call
  | with_reducible apply Rd.cb
  | with_reducible apply Rd.and
  | with_reducible apply Rd.or
  | with_reducible apply Rd.not
  | with_reducible apply Rd.andV
  | with_reducible apply Rd.orV
  | with_reducible apply Rd.notV
  | with_reducible apply Rd.ife
  | with_reducible apply Rd.tup
  | with_reducible apply Rd.lst
  | with_reducible apply Rd.un
  | with_reducible apply Rd.chain
  | with_reducible apply Rd.brk
  | with_reducible apply Rd.cnt
  | with_reducible apply Rd.I0
  | with_reducible apply Rd.U1
  | ((with_reducible apply Rd.eq); rfl)
  | ((with_reducible apply Rd.ne); rfl)
  | ((with_reducible apply Rd.I1); (walk_at "ci"))
  | with_reducible apply Rd.lc0
  | with_reducible apply Rd.ln0
  | with_reducible apply Rd.exN
  | ((with_reducible apply Rd.iteSf); (decide +kernel))
  | ((with_reducible apply Rd.iteSt); (decide +kernel))
  | ((with_reducible apply Rd.niQ); (exact Or.inl (by walk_at "sq")); (exact ⟨rfl, rfl⟩); (rfl))
  | ((with_reducible apply Rd.inQ); (exact Or.inl (by walk_at "sq")); (exact ⟨rfl, rfl⟩); (rfl))
  | with_reducible apply Rd.rn1
  | with_reducible apply Rd.in1
  | with_reducible apply Rd.sn1
  | with_reducible apply Rd.bn1
  | with_reducible apply Rd.nn1
  | with_reducible apply Rd.rn2
  | with_reducible apply Rd.in2
  | with_reducible apply Rd.sn2
  | with_reducible apply Rd.bn2
  | with_reducible apply Rd.nn2
  | with_reducible apply Rd.nt1
  | with_reducible apply Rd.nf1
  | (with_reducible refine Rd.iteI (fun _ => ?_) (fun _ => ?_))
  | (with_reducible refine Rd.iteNI (fun _ => ?_) (fun _ => ?_))
  | (with_reducible refine iteT ?_)
  | (with_reducible refine iteF ?_)
  | (with_reducible refine Rd.iteD (fun _ => ?_) (fun _ => ?_))
  | (with_reducible refine Rd.iteN (fun _ => ?_) (fun _ => ?_))
  | with_reducible apply Rd.intI
  | with_reducible apply Rd.intB
  | with_reducible apply Rd.maxQ
  | with_reducible apply Rd.minQ
  | with_reducible apply Rd.absQ
  | with_reducible apply Rd.isN
  | with_reducible apply Rd.noN
  | with_reducible apply Rd.ltZ
  | with_reducible apply Rd.bm
  | with_reducible apply Rd.bm0
  | with_reducible apply Rd.par
  | with_reducible apply Rd.expar
  | with_reducible apply Rd.exint
  | with_reducible apply Rd.ipi
  | with_reducible apply Rd.slice
  | with_reducible apply Rd.noPart
  | with_reducible apply Rd.part
  | with_reducible apply Rd.gcons
  | with_reducible apply Rd.gnil
  | with_reducible apply Rd.iseq
  | with_reducible apply Rd.irng1
  | walk_at "isi"
  | with_reducible apply Rd.forX
  | with_reducible apply Rd.lstRev
  | with_reducible apply Rd.lstRg
  | with_reducible apply Rd.rg1
  | with_reducible apply Rd.rg2
  | with_reducible apply Rd.exint2
  | ((with_reducible apply Rd.exrev); (walk_at "sq"))
  | with_reducible apply Rd.lcX
  | with_reducible apply Rd.yes
  | ((with_reducible apply Rd.exrng1); (constructor <;> omega))
  | ((with_reducible apply Rd.exrng2); (refine ⟨?_, ?_, ?_, ?_⟩ <;> omega))
  | with_reducible apply Rd.irng2
  | ((with_reducible apply Rd.aug); rfl)
  | ((with_reducible apply Rd.exlst); (walk_at "sq"))
  | ((with_reducible apply Rd.gtup); (walk_at "st"); (rfl))
  | ((with_reducible apply Rd.tyL); (walk_at "hp"))
  | ((with_reducible apply Rd.ixL); (walk_at "sq"); (rfl))
  | ((with_reducible apply Rd.ixI); (walk_at "sq"); (omega); (first | assumption | (simp only [List.length_map]; omega)); (intro _ _))
  | (with_reducible refine Rd.gsub ?_)
  | ((with_reducible apply Rd.setL); (walk_at "hp"); (rfl); ((dsimp only [List.set, L2.wipe, Int.reduceToNat]) <;> rfl))
  | ((with_reducible apply Rd.lenQ); (first | exact Or.inl (by walk_at "sq") | exact Or.inr (by walk_at "st")))
  | ((with_reducible apply Rd.listQ); (first | exact Or.inl (by walk_at "sq") | exact Or.inr (by walk_at "st")))
  | ((with_reducible apply Rd.tupQ); (walk_at "sq"))
  | ((with_reducible apply Rd.slL); (walk_at "sq"))
  | ((with_reducible apply Rd.ixT); (walk_at "st"); (rfl))
  | (with_reducible refine Rd.iteB (fun _ => ?_) (fun _ => ?_))
  | (with_reducible refine Rd.iteNB (fun _ => ?_) (fun _ => ?_))
  | (refine Rd.andI (Nat.le_of_ble_eq_true rfl) ?_)
  | dsimp only [List.set])
local macro_rules | `(tactic| walk_at "hp") => `(tactic| first
  | assumption
  | exact upd_same
  | (refine Eq.trans (upd_ne (by first | assumption | (apply Ne.symm; assumption))) ?_; walk_at "hp")
  | (refine hpS (by assumption) ?_; walk_at "hp"))
local macro_rules | `(tactic| walk_at "al") => `(tactic| (with_reducible intro l hl; generalize hG : upd _ l _ = G; have hs := newOne hl hG; clear hG; obtain ⟨hs, he⟩ := hs))
local macro_rules | `(tactic| walk_at "rd") => `(tactic| first
  | walk_at "al"
  | ((with_reducible apply Rd.cat); (walk_at "hp"); (walk_at "hp"); (exact Nat.le_of_ble_eq_true rfl)))
local macro_rules | `(tactic| walk_at "sm") => `(tactic| first
  | assumption
  | exact Same.refl _
  | (refine Same.trans ?_ (by assumption); walk_at "sm"))
local macro_rules | `(tactic| walk_at "fr") => `(tactic| first
  | assumption
  | (refine Same.free (by assumption) ?_; walk_at "fr"))
local macro_rules | `(tactic| walk_at "ty") => `(tactic| first
  | exact dv_ty (by assumption)
  | exact tyD' (by walk_at "hp"))
/-! ### what the law tells of an error -/
abbrev Kinds : List Str := ["BadName", "NoHouse", "NoLine", "SelfLine", "Taken", "SamePart", "NoVersion", "NoStore", "BadNumber", "BadPlace", "NoRow", "NoPaper", "TooMany", "BadDeed", "BadText", "NoSeat", "SeatTaken", "NothingLeft", "OtherHouses", "NoLog", "BadAsk"]
abbrev Classes : List Str := "KeptError" :: Kinds
/-- the errors that the law meets, each with its field -/
abbrev RefL : List (Str × Str) := [("BadName", "word"), ("Taken", "word"), ("TooMany", "bound")]
def spRefs (K : PySem.W.Frag) (D : Str → Addr) : Addr → Value → Option Addr → Sp := fun a cls d vs H Q E => ∃ p ∈ RefL, Ho.spRef K D Kinds p.1 p.2 a cls d vs H Q E
section
variable {P : Program} {w : World} {K : PySem.W.Frag} {mg : Str → Option Value} {base : Heap} {D : Str → Addr}
local macro_rules | `(tactic| walk_at "rd") => `(tactic| first
  | with_reducible apply Ho.xe
  | ((with_reducible apply Ho.isEf); (assumption); (assumption); (assumption); (assumption); (walk_at "hp"); (decide +kernel))
  | ((with_reducible apply Ho.isEt); (assumption); (assumption); (assumption); (assumption); (walk_at "hp"); (decide +kernel))
  | ((with_reducible apply Ho.isVE); (assumption); (assumption); (assumption); (assumption); (walk_at "hp")))
set_option maxHeartbeats 4000000 in
theorem ok__law_refusal (F : Def K mg "_law_refusal" s__law_refusal P__law_refusal) (m_isinstance : mg "isinstance" = none) (m_str : mg "str" = none) (m_ValueError : mg "ValueError" = none) (c_cls : ∀ x ∈ Classes, mg x = some (.ref (D x))) : Ho.CalP P w K mg base 1 "_law_refusal" P__law_refusal (spRefs K D) := by
  refine Ho.defP F sc__law_refusal (fun a c d vs H Q E h => ?_) (fun f cdv A outer s H vs Q E p hot hr h => ?_)
  · obtain ⟨_, _, _, _, _, _, _, rfl, _⟩ := h
    rfl
  obtain ⟨cf, hcf, C, dd, y, hc, hd, rfl, kn, hx, q⟩ := h
  have hv : ∃ vs, p.2.data = .fields vs := ⟨_, hot.2.choose_spec.1⟩
  refine ⟨_, (pss_cons (ps_set (i := 2) sc__law_refusal.nd rfl (Or.inl rfl) (pe_lst (pa_cons (pe_callB (Ho.q_isEK (K := K) (pn := [p]) rfl rfl) (by rfl) m_isinstance bb_isinstance (pa_cons (pv 0 (hd := nd_error) (hcd := nc_error)) (pa_cons (pe_glob (v := .ref (D "BadName")) (by rfl) (c_cls "BadName" (by decide)) rfl) pa_nil)) (hn := nn_isinstance) (hdb := nd_isinstance)) (pa_cons (pe_callB (Ho.q_isEK (K := K) (pn := [p]) rfl rfl) (by rfl) m_isinstance bb_isinstance (pa_cons (pv 0 (hd := nd_error) (hcd := nc_error)) (pa_cons (pe_glob (v := .ref (D "NoHouse")) (by rfl) (c_cls "NoHouse" (by decide)) rfl) pa_nil)) (hn := nn_isinstance) (hdb := nd_isinstance)) (pa_cons (pe_callB (Ho.q_isEK (K := K) (pn := [p]) rfl rfl) (by rfl) m_isinstance bb_isinstance (pa_cons (pv 0 (hd := nd_error) (hcd := nc_error)) (pa_cons (pe_glob (v := .ref (D "NoLine")) (by rfl) (c_cls "NoLine" (by decide)) rfl) pa_nil)) (hn := nn_isinstance) (hdb := nd_isinstance)) pa_nil)))))
  (pss_cons (ps_set (i := 2) sc__law_refusal.nd rfl (Or.inl rfl) (pe_op op_cat (pv 2 (hd := nd_kinds) (hcd := nc_kinds)) (pe_lst (pa_cons (pe_callB (Ho.q_isEK (K := K) (pn := [p]) rfl rfl) (by rfl) m_isinstance bb_isinstance (pa_cons (pv 0 (hd := nd_error) (hcd := nc_error)) (pa_cons (pe_glob (v := .ref (D "SelfLine")) (by rfl) (c_cls "SelfLine" (by decide)) rfl) pa_nil)) (hn := nn_isinstance) (hdb := nd_isinstance)) (pa_cons (pe_callB (Ho.q_isEK (K := K) (pn := [p]) rfl rfl) (by rfl) m_isinstance bb_isinstance (pa_cons (pv 0 (hd := nd_error) (hcd := nc_error)) (pa_cons (pe_glob (v := .ref (D "Taken")) (by rfl) (c_cls "Taken" (by decide)) rfl) pa_nil)) (hn := nn_isinstance) (hdb := nd_isinstance)) (pa_cons (pe_callB (Ho.q_isEK (K := K) (pn := [p]) rfl rfl) (by rfl) m_isinstance bb_isinstance (pa_cons (pv 0 (hd := nd_error) (hcd := nc_error)) (pa_cons (pe_glob (v := .ref (D "SamePart")) (by rfl) (c_cls "SamePart" (by decide)) rfl) pa_nil)) (hn := nn_isinstance) (hdb := nd_isinstance)) pa_nil))))))
  (pss_cons (ps_set (i := 2) sc__law_refusal.nd rfl (Or.inl rfl) (pe_op op_cat (pv 2 (hd := nd_kinds) (hcd := nc_kinds)) (pe_lst (pa_cons (pe_callB (Ho.q_isEK (K := K) (pn := [p]) rfl rfl) (by rfl) m_isinstance bb_isinstance (pa_cons (pv 0 (hd := nd_error) (hcd := nc_error)) (pa_cons (pe_glob (v := .ref (D "NoVersion")) (by rfl) (c_cls "NoVersion" (by decide)) rfl) pa_nil)) (hn := nn_isinstance) (hdb := nd_isinstance)) (pa_cons (pe_callB (Ho.q_isEK (K := K) (pn := [p]) rfl rfl) (by rfl) m_isinstance bb_isinstance (pa_cons (pv 0 (hd := nd_error) (hcd := nc_error)) (pa_cons (pe_glob (v := .ref (D "NoStore")) (by rfl) (c_cls "NoStore" (by decide)) rfl) pa_nil)) (hn := nn_isinstance) (hdb := nd_isinstance)) (pa_cons (pe_callB (Ho.q_isEK (K := K) (pn := [p]) rfl rfl) (by rfl) m_isinstance bb_isinstance (pa_cons (pv 0 (hd := nd_error) (hcd := nc_error)) (pa_cons (pe_glob (v := .ref (D "BadNumber")) (by rfl) (c_cls "BadNumber" (by decide)) rfl) pa_nil)) (hn := nn_isinstance) (hdb := nd_isinstance)) pa_nil))))))
  (pss_cons (ps_set (i := 2) sc__law_refusal.nd rfl (Or.inl rfl) (pe_op op_cat (pv 2 (hd := nd_kinds) (hcd := nc_kinds)) (pe_lst (pa_cons (pe_callB (Ho.q_isEK (K := K) (pn := [p]) rfl rfl) (by rfl) m_isinstance bb_isinstance (pa_cons (pv 0 (hd := nd_error) (hcd := nc_error)) (pa_cons (pe_glob (v := .ref (D "BadPlace")) (by rfl) (c_cls "BadPlace" (by decide)) rfl) pa_nil)) (hn := nn_isinstance) (hdb := nd_isinstance)) (pa_cons (pe_callB (Ho.q_isEK (K := K) (pn := [p]) rfl rfl) (by rfl) m_isinstance bb_isinstance (pa_cons (pv 0 (hd := nd_error) (hcd := nc_error)) (pa_cons (pe_glob (v := .ref (D "NoRow")) (by rfl) (c_cls "NoRow" (by decide)) rfl) pa_nil)) (hn := nn_isinstance) (hdb := nd_isinstance)) (pa_cons (pe_callB (Ho.q_isEK (K := K) (pn := [p]) rfl rfl) (by rfl) m_isinstance bb_isinstance (pa_cons (pv 0 (hd := nd_error) (hcd := nc_error)) (pa_cons (pe_glob (v := .ref (D "NoPaper")) (by rfl) (c_cls "NoPaper" (by decide)) rfl) pa_nil)) (hn := nn_isinstance) (hdb := nd_isinstance)) pa_nil))))))
  (pss_cons (ps_set (i := 2) sc__law_refusal.nd rfl (Or.inl rfl) (pe_op op_cat (pv 2 (hd := nd_kinds) (hcd := nc_kinds)) (pe_lst (pa_cons (pe_callB (Ho.q_isEK (K := K) (pn := [p]) rfl rfl) (by rfl) m_isinstance bb_isinstance (pa_cons (pv 0 (hd := nd_error) (hcd := nc_error)) (pa_cons (pe_glob (v := .ref (D "TooMany")) (by rfl) (c_cls "TooMany" (by decide)) rfl) pa_nil)) (hn := nn_isinstance) (hdb := nd_isinstance)) (pa_cons (pe_callB (Ho.q_isEK (K := K) (pn := [p]) rfl rfl) (by rfl) m_isinstance bb_isinstance (pa_cons (pv 0 (hd := nd_error) (hcd := nc_error)) (pa_cons (pe_glob (v := .ref (D "BadDeed")) (by rfl) (c_cls "BadDeed" (by decide)) rfl) pa_nil)) (hn := nn_isinstance) (hdb := nd_isinstance)) (pa_cons (pe_callB (Ho.q_isEK (K := K) (pn := [p]) rfl rfl) (by rfl) m_isinstance bb_isinstance (pa_cons (pv 0 (hd := nd_error) (hcd := nc_error)) (pa_cons (pe_glob (v := .ref (D "BadText")) (by rfl) (c_cls "BadText" (by decide)) rfl) pa_nil)) (hn := nn_isinstance) (hdb := nd_isinstance)) pa_nil))))))
  (pss_cons (ps_set (i := 2) sc__law_refusal.nd rfl (Or.inl rfl) (pe_op op_cat (pv 2 (hd := nd_kinds) (hcd := nc_kinds)) (pe_lst (pa_cons (pe_callB (Ho.q_isEK (K := K) (pn := [p]) rfl rfl) (by rfl) m_isinstance bb_isinstance (pa_cons (pv 0 (hd := nd_error) (hcd := nc_error)) (pa_cons (pe_glob (v := .ref (D "NoSeat")) (by rfl) (c_cls "NoSeat" (by decide)) rfl) pa_nil)) (hn := nn_isinstance) (hdb := nd_isinstance)) (pa_cons (pe_callB (Ho.q_isEK (K := K) (pn := [p]) rfl rfl) (by rfl) m_isinstance bb_isinstance (pa_cons (pv 0 (hd := nd_error) (hcd := nc_error)) (pa_cons (pe_glob (v := .ref (D "SeatTaken")) (by rfl) (c_cls "SeatTaken" (by decide)) rfl) pa_nil)) (hn := nn_isinstance) (hdb := nd_isinstance)) (pa_cons (pe_callB (Ho.q_isEK (K := K) (pn := [p]) rfl rfl) (by rfl) m_isinstance bb_isinstance (pa_cons (pv 0 (hd := nd_error) (hcd := nc_error)) (pa_cons (pe_glob (v := .ref (D "NothingLeft")) (by rfl) (c_cls "NothingLeft" (by decide)) rfl) pa_nil)) (hn := nn_isinstance) (hdb := nd_isinstance)) pa_nil))))))
  (pss_cons (ps_set (i := 2) sc__law_refusal.nd rfl (Or.inl rfl) (pe_op op_cat (pv 2 (hd := nd_kinds) (hcd := nc_kinds)) (pe_lst (pa_cons (pe_callB (Ho.q_isEK (K := K) (pn := [p]) rfl rfl) (by rfl) m_isinstance bb_isinstance (pa_cons (pv 0 (hd := nd_error) (hcd := nc_error)) (pa_cons (pe_glob (v := .ref (D "OtherHouses")) (by rfl) (c_cls "OtherHouses" (by decide)) rfl) pa_nil)) (hn := nn_isinstance) (hdb := nd_isinstance)) (pa_cons (pe_callB (Ho.q_isEK (K := K) (pn := [p]) rfl rfl) (by rfl) m_isinstance bb_isinstance (pa_cons (pv 0 (hd := nd_error) (hcd := nc_error)) (pa_cons (pe_glob (v := .ref (D "NoLog")) (by rfl) (c_cls "NoLog" (by decide)) rfl) pa_nil)) (hn := nn_isinstance) (hdb := nd_isinstance)) (pa_cons (pe_callB (Ho.q_isEK (K := K) (pn := [p]) rfl rfl) (by rfl) m_isinstance bb_isinstance (pa_cons (pv 0 (hd := nd_error) (hcd := nc_error)) (pa_cons (pe_glob (v := .ref (D "BadAsk")) (by rfl) (c_cls "BadAsk" (by decide)) rfl) pa_nil)) (hn := nn_isinstance) (hdb := nd_isinstance)) pa_nil))))))
  (pss_cons (ps_set (i := 3) sc__law_refusal.nd rfl (Or.inl rfl) (pe_lst (pa_cons pe_str (pa_cons pe_str (pa_cons pe_str (pa_cons pe_str (pa_cons pe_str (pa_cons pe_str (pa_cons pe_str (pa_cons pe_str (pa_cons pe_str pa_nil)))))))))))
  (pss_cons (ps_set (i := 3) sc__law_refusal.nd rfl (Or.inl rfl) (pe_op op_cat (pv 3 (hd := nd_names) (hcd := nc_names)) (pe_lst (pa_cons pe_str (pa_cons pe_str (pa_cons pe_str (pa_cons pe_str (pa_cons pe_str (pa_cons pe_str (pa_cons pe_str (pa_cons pe_str pa_nil)))))))))))
  (pss_cons (ps_set (i := 3) sc__law_refusal.nd rfl (Or.inl rfl) (pe_op op_cat (pv 3 (hd := nd_names) (hcd := nc_names)) (pe_lst (pa_cons pe_str (pa_cons pe_str (pa_cons pe_str (pa_cons pe_str pa_nil)))))))
  (pss_cons (ps_if (PW.pt (pw_or (pt_not (pt_val (pe_callB call_isi (by rfl) m_isinstance bb_isinstance (pa_cons (pv 1 (hd := nd_code) (hcd := nc_code)) (pa_cons (pe_bltn (v := .ty "str") (u := .type "str") (by rfl) m_str bb_str rfl (hn := nn_str) (hd := nd_str)) pa_nil)) (hn := nn_isinstance) (hdb := nd_isinstance)))) (pw_or (pt_not (pt_val (pe_callB (Ho.q_isEK (K := K) (pn := [p]) rfl rfl) (by rfl) m_isinstance bb_isinstance (pa_cons (pv 0 (hd := nd_error) (hcd := nc_error)) (pa_cons (pe_bltn (v := .ty "ValueError") (u := .type "ValueError") (by rfl) m_ValueError bb_ValueError rfl (hn := nn_ValueError) (hd := nd_ValueError)) pa_nil)) (hn := nn_isinstance) (hdb := nd_isinstance)))) (pw_or1 (pt_cmpR (Ho.neDK (K := K) rfl (Ho.unitsH hr)) (pv 2 (hd := nd_kinds) (hcd := nc_kinds)) (Ho.pe_lcHK (K := K) (own := [("name", 5)]) rfl ⟨p, hot, List.mem_cons_self⟩ sc__law_refusal.nd (pv 3 (hd := nd_names) (hcd := nc_names)) (blkOk_by (N := N__law_refusal) (sc := defScope s__law_refusal) (by decide +kernel)) (fun _ _ _ _ _ => (pg_name (i := 5) sc__law_refusal.nd rfl (Or.inl rfl))) (fun _ _ _ _ _ => pts_nil) (fun _ _ _ _ _ => (pe_cmpR op_eq (pv 5 (hd := nd_name) (hcd := nc_name)) (pv 1 (hd := nd_code) (hcd := nc_code)) (nomark _)))) (nomark _)))))) (pss_one (ps_ret (pe_tup (pa_cons pe_str (pa_cons pe_str (pa_cons pe_non pa_nil)))))) pss_nil)
  (pss_cons (ps_set (i := 4) sc__law_refusal.nd rfl (Or.inl rfl) (pe_bm PySem.F.plainAttrs_list PySem.F.slot_list_index PySem.F.type_list_index mt_index (pv 3 (hd := nd_names) (hcd := nc_names)) (pa_cons (pv 1 (hd := nd_code) (hcd := nc_code)) pa_nil)))
  (pss_cons (ps_if (pt_cmpR op_lt (pv 4 (hd := nd_at) (hcd := nc_at)) pe_int (nomark _)) (pss_one (ps_ret (pe_tup (pa_cons pe_str (pa_cons (pv 1 (hd := nd_code) (hcd := nc_code)) (pa_cons (Ho.pe_xeK (K := K) (pn := [p]) rfl rfl (pv 0 (hd := nd_error) (hcd := nc_error))) pa_nil)))))) pss_nil)
  (pss_cons (ps_if (pt_cmpR op_lt (pv 4 (hd := nd_at) (hcd := nc_at)) pe_int (nomark _)) (pss_one (ps_ret (pe_tup (pa_cons pe_str (pa_cons (pv 1 (hd := nd_code) (hcd := nc_code)) (pa_cons (Ho.pe_xeK (K := K) (pn := [p]) rfl rfl (pv 0 (hd := nd_error) (hcd := nc_error))) pa_nil)))))) pss_nil)
  (pss_cons (ps_if (pt_cmpR op_eq (pv 1 (hd := nd_code) (hcd := nc_code)) pe_str (nomark _)) (pss_one (ps_ret (pe_tup (pa_cons pe_str (pa_cons (pv 1 (hd := nd_code) (hcd := nc_code)) (pa_cons (Ho.pe_xeK (K := K) (pn := [p]) rfl rfl (pv 0 (hd := nd_error) (hcd := nc_error))) pa_nil)))))) pss_nil)
  (pss_cons (ps_if (pt_cmpR op_eq (pv 1 (hd := nd_code) (hcd := nc_code)) pe_str (nomark _)) (pss_one (ps_ret (pe_tup (pa_cons pe_str (pa_cons (pv 1 (hd := nd_code) (hcd := nc_code)) (pa_cons (Ho.pe_xeK (K := K) (pn := [p]) rfl rfl (pv 0 (hd := nd_error) (hcd := nc_error))) pa_nil)))))) pss_nil)
  (pss_cons (ps_if (pt_cmpR op_eq (pv 1 (hd := nd_code) (hcd := nc_code)) pe_str (nomark _)) (pss_one (ps_ret (pe_tup (pa_cons pe_str (pa_cons (pv 1 (hd := nd_code) (hcd := nc_code)) (pa_cons (pe_tup (pa_cons (Ho.pe_xeK (K := K) (pn := [p]) rfl rfl (pv 0 (hd := nd_error) (hcd := nc_error))) (pa_cons (Ho.pe_xeK (K := K) (pn := [p]) rfl rfl (pv 0 (hd := nd_error) (hcd := nc_error))) (pa_cons (Ho.pe_xeK (K := K) (pn := [p]) rfl rfl (pv 0 (hd := nd_error) (hcd := nc_error))) pa_nil)))) pa_nil)))))) pss_nil)
  (pss_cons (ps_if (PW.pt (pw_or (pt_cmpR op_eq (pv 1 (hd := nd_code) (hcd := nc_code)) pe_str (nomark _)) (pw_or1 (pt_cmpR op_eq (pv 1 (hd := nd_code) (hcd := nc_code)) pe_str (nomark _))))) (pss_one (ps_ret (pe_tup (pa_cons pe_str (pa_cons (pv 1 (hd := nd_code) (hcd := nc_code)) (pa_cons (Ho.pe_xeK (K := K) (pn := [p]) rfl rfl (pv 0 (hd := nd_error) (hcd := nc_error))) pa_nil)))))) pss_nil)
  (pss_one (ps_ret (pe_tup (pa_cons pe_str (pa_cons (pv 1 (hd := nd_code) (hcd := nc_code)) (pa_cons pe_non pa_nil)))))))))))))))))))))))), ?_⟩
  refine Rd.at0 (σ := [some (.ref p.1), some (.str cf.1), none, none, none, none]) rfl ?_
  simp only [RefL, List.mem_cons, List.not_mem_nil, or_false] at hcf
  rcases hcf with rfl | rfl | rfl
  · dsimp only at kn hx q
    repeat' (walk_at "rd")
    refine lcMap _ (fun x => .bl (decide (x = .str "BadName"))) (.inl (.inl (by walk_at "hp"))) (by decide) (fun i x L G out Nx hx sG eL lo nx => ?_) (fun L G nL sG eL => ?_)
    · have hm := List.mem_of_getElem? hx
      obtain ⟨n, rfl⟩ : ∃ n, x = .str n := by
        have h := List.all_eq_true.mp (show (Kinds.map V.str).all (fun v => match v with | .str _ => true | _ => false) = true from rfl) x hm
        cases x <;> first | exact ⟨_, rfl⟩ | cases h
      refine turn1 ?_
      repeat' (walk_at "rd")
      refine ⟨rfl, ?_⟩
      repeat' (walk_at "rd")
      exact ⟨out, eL, lo, nx⟩
    refine neBl [true, false, false, false, false, false, false, false, false, false, false, false, false, false, false, false, false, false, false, false, false] (by walk_at "hp") eL (by decide +kernel) ?_
    repeat' (walk_at "rd")
    refine idx 0 (by walk_at "hp") (by decide +kernel) ?_
    repeat' (walk_at "rd")
    all_goals first
    | (exfalso; omega)
    | skip
    refine ⟨p.1, C, [("word", y), ("code", .str "BadName")], y, rfl, ⟨p, dd, List.mem_cons_self, rfl, hc, hd, hv, ?_⟩, kn.xf, kn.nf, rfl, ?_⟩
    · walk_at "hp"
    repeat' (walk_at "rd")
    exact q _ _ (by walk_at "fr") (by walk_at "sm") (by walk_at "hp")
  · dsimp only at kn hx q
    repeat' (walk_at "rd")
    refine lcMap _ (fun x => .bl (decide (x = .str "Taken"))) (.inl (.inl (by walk_at "hp"))) (by decide) (fun i x L G out Nx hx sG eL lo nx => ?_) (fun L G nL sG eL => ?_)
    · have hm := List.mem_of_getElem? hx
      obtain ⟨n, rfl⟩ : ∃ n, x = .str n := by
        have h := List.all_eq_true.mp (show (Kinds.map V.str).all (fun v => match v with | .str _ => true | _ => false) = true from rfl) x hm
        cases x <;> first | exact ⟨_, rfl⟩ | cases h
      refine turn1 ?_
      repeat' (walk_at "rd")
      refine ⟨rfl, ?_⟩
      repeat' (walk_at "rd")
      exact ⟨out, eL, lo, nx⟩
    refine neBl [false, false, false, false, true, false, false, false, false, false, false, false, false, false, false, false, false, false, false, false, false] (by walk_at "hp") eL (by decide +kernel) ?_
    repeat' (walk_at "rd")
    refine idx 4 (by walk_at "hp") (by decide +kernel) ?_
    repeat' (walk_at "rd")
    all_goals first
    | (exfalso; omega)
    | skip
    refine ⟨p.1, C, [("word", y), ("code", .str "Taken")], y, rfl, ⟨p, dd, List.mem_cons_self, rfl, hc, hd, hv, ?_⟩, kn.xf, kn.nf, rfl, ?_⟩
    · walk_at "hp"
    repeat' (walk_at "rd")
    exact q _ _ (by walk_at "fr") (by walk_at "sm") (by walk_at "hp")
  · dsimp only at kn hx q
    repeat' (walk_at "rd")
    refine lcMap _ (fun x => .bl (decide (x = .str "TooMany"))) (.inl (.inl (by walk_at "hp"))) (by decide) (fun i x L G out Nx hx sG eL lo nx => ?_) (fun L G nL sG eL => ?_)
    · have hm := List.mem_of_getElem? hx
      obtain ⟨n, rfl⟩ : ∃ n, x = .str n := by
        have h := List.all_eq_true.mp (show (Kinds.map V.str).all (fun v => match v with | .str _ => true | _ => false) = true from rfl) x hm
        cases x <;> first | exact ⟨_, rfl⟩ | cases h
      refine turn1 ?_
      repeat' (walk_at "rd")
      refine ⟨rfl, ?_⟩
      repeat' (walk_at "rd")
      exact ⟨out, eL, lo, nx⟩
    refine neBl [false, false, false, false, false, false, false, false, false, false, false, false, true, false, false, false, false, false, false, false, false] (by walk_at "hp") eL (by decide +kernel) ?_
    repeat' (walk_at "rd")
    refine idx 12 (by walk_at "hp") (by decide +kernel) ?_
    repeat' (walk_at "rd")
    all_goals first
    | (exfalso; omega)
    | skip
    refine ⟨p.1, C, [("bound", y), ("code", .str "TooMany")], y, rfl, ⟨p, dd, List.mem_cons_self, rfl, hc, hd, hv, ?_⟩, kn.xf, kn.nf, rfl, ?_⟩
    · walk_at "hp"
    repeat' (walk_at "rd")
    exact q _ _ (by walk_at "fr") (by walk_at "sm") (by walk_at "hp")
end
end Kj
namespace Kj
open PySem PySem.Spec PyProof.Rows L2 Rd
/-! ### the stepper -/
local macro_rules | `(tactic| walk_at "hp") => `(tactic| first
  | assumption
  | exact upd_same
  | (refine Eq.trans (upd_ne (by first | assumption | (apply Ne.symm; assumption))) ?_; walk_at "hp"))
local macro_rules | `(tactic| walk_at "sq") => `(tactic| first
  | assumption
  | (refine Or.inl (Or.inl ?_); walk_at "hp"))
local macro_rules | `(tactic| walk_at "st") => `(tactic| first
  | assumption
  | (refine Or.inl (Or.inl ?_); walk_at "hp"))
local macro_rules | `(tactic| walk_at "ar") => `(tactic| first
  | assumption
  | omega
  | decide)
local macro_rules | `(tactic| walk_at "ci") => `(tactic| first
  | (refine (show CMul _ _ from Or.inr ⟨?_, ?_⟩) <;> omega)
  | (refine (show CMul _ _ from Or.inl ⟨?_, ?_⟩) <;> omega)
  | (show CPow _ _; exact ⟨by decide, by decide, by decide⟩)
  | (refine wide_div (b := 63) ?_ ?_ (by decide) (by decide) <;> omega)
  | (show (0 : Int) < _; omega))
local macro_rules | `(tactic| walk_at "ty") => `(tactic| first
  | exact dp_ty (by assumption)
  | exact TyX.base (TyOf.int _)
  | exact TyX.base (TyOf.str _)
  | exact TyX.base (TyOf.bl _)
  | exact TyX.base TyOf.non
  | exact tyL' (by walk_at "sq")
  | exact tyT' (by walk_at "st"))
local macro_rules | `(tactic| walk_at "isi") => `(tactic| first
  | ((with_reducible apply Rd.isiF); (walk_at "ty"); (decide))
  | ((with_reducible apply Rd.isiT); (walk_at "ty"); (decide)))
local macro_rules | `(tactic| walk_at "rd") => `(tactic| first
  | with_reducible apply Rd.seq
  | ((with_reducible apply Rd.var); rfl)
  | with_reducible apply Rd.con
  | with_reducible apply Rd.op
  | with_reducible apply Rd.asg
  | ((with_reducible apply Rd.gname); ((dsimp only [List.set, L2.wipe, Int.reduceToNat]) <;> rfl))
  | with_reducible apply Rd.nxt
  | with_reducible apply Rd.ifs
  | with_reducible apply Rd.test
  | with_reducible apply Rd.testB
  | with_reducible apply Rd.exbl
  | with_reducible apply Rd.ret
  | with_reducible apply Rd.drop
  | with_reducible apply Rd.retN
  | with_reducible apply Rd.nil
  | with_reducible apply Rd.cons
  | with_reducible apply Rd.call
  | with_reducible apply Rd.cb
  | with_reducible apply Rd.and
  | with_reducible apply Rd.or
  | with_reducible apply Rd.not
  | with_reducible apply Rd.andV
  | with_reducible apply Rd.orV
  | with_reducible apply Rd.notV
  | with_reducible apply Rd.ife
  | with_reducible apply Rd.tup
  | with_reducible apply Rd.lst
  | with_reducible apply Rd.un
  | with_reducible apply Rd.chain
  | with_reducible apply Rd.brk
  | with_reducible apply Rd.cnt
  | with_reducible apply Rd.I0
  | with_reducible apply Rd.U1
  | ((with_reducible apply Rd.eq); rfl)
  | ((with_reducible apply Rd.ne); rfl)
  | ((with_reducible apply Rd.I1); (walk_at "ci"))
  | with_reducible apply Rd.lc0
  | with_reducible apply Rd.ln0
  | with_reducible apply Rd.exN
  | ((with_reducible apply Rd.iteSf); (decide +kernel))
  | ((with_reducible apply Rd.iteSt); (decide +kernel))
  | ((with_reducible apply Rd.niQ); (exact Or.inl (by walk_at "sq")); (exact ⟨rfl, rfl⟩); (rfl))
  | ((with_reducible apply Rd.inQ); (exact Or.inl (by walk_at "sq")); (exact ⟨rfl, rfl⟩); (rfl))
  | with_reducible apply Rd.rn1
  | with_reducible apply Rd.in1
  | with_reducible apply Rd.sn1
  | with_reducible apply Rd.bn1
  | with_reducible apply Rd.nn1
  | with_reducible apply Rd.rn2
  | with_reducible apply Rd.in2
  | with_reducible apply Rd.sn2
  | with_reducible apply Rd.bn2
  | with_reducible apply Rd.nn2
  | with_reducible apply Rd.nt1
  | with_reducible apply Rd.nf1
  | (with_reducible refine Rd.iteI (fun _ => ?_) (fun _ => ?_))
  | (with_reducible refine Rd.iteNI (fun _ => ?_) (fun _ => ?_))
  | (with_reducible refine iteT ?_)
  | (with_reducible refine iteF ?_)
  | (with_reducible refine Rd.iteD (fun _ => ?_) (fun _ => ?_))
  | (with_reducible refine Rd.iteN (fun _ => ?_) (fun _ => ?_))
  | with_reducible apply Rd.intI
  | with_reducible apply Rd.intB
  | with_reducible apply Rd.maxQ
  | with_reducible apply Rd.minQ
  | with_reducible apply Rd.absQ
  | with_reducible apply Rd.isN
  | with_reducible apply Rd.noN
  | with_reducible apply Rd.ltZ
  | with_reducible apply Rd.bm
  | with_reducible apply Rd.bm0
  | with_reducible apply Rd.par
  | with_reducible apply Rd.expar
  | with_reducible apply Rd.exint
  | with_reducible apply Rd.ipi
  | with_reducible apply Rd.slice
  | with_reducible apply Rd.noPart
  | with_reducible apply Rd.part
  | with_reducible apply Rd.gcons
  | with_reducible apply Rd.gnil
  | with_reducible apply Rd.iseq
  | with_reducible apply Rd.irng1
  | walk_at "isi"
  | with_reducible apply Rd.forX
  | with_reducible apply Rd.lstRev
  | with_reducible apply Rd.lstRg
  | with_reducible apply Rd.rg1
  | with_reducible apply Rd.rg2
  | with_reducible apply Rd.exint2
  | ((with_reducible apply Rd.exrev); (walk_at "sq"))
  | with_reducible apply Rd.lcX
  | with_reducible apply Rd.yes
  | ((with_reducible apply Rd.exrng1); (constructor <;> omega))
  | ((with_reducible apply Rd.exrng2); (refine ⟨?_, ?_, ?_, ?_⟩ <;> omega))
  | with_reducible apply Rd.irng2
  | ((with_reducible apply Rd.aug); rfl)
  | ((with_reducible apply Rd.exlst); (walk_at "sq"))
  | ((with_reducible apply Rd.gtup); (walk_at "st"); (rfl))
  | ((with_reducible apply Rd.tyL); (walk_at "hp"))
  | ((with_reducible apply Rd.ixL); (walk_at "sq"); (rfl))
  | ((with_reducible apply Rd.ixI); (walk_at "sq"); (omega); (first | assumption | (simp only [List.length_map]; omega)); (intro _ _))
  | (with_reducible refine Rd.gsub ?_)
  | ((with_reducible apply Rd.setL); (walk_at "hp"); (rfl); ((dsimp only [List.set, L2.wipe, Int.reduceToNat]) <;> rfl))
  | ((with_reducible apply Rd.lenQ); (first | exact Or.inl (by walk_at "sq") | exact Or.inr (by walk_at "st")))
  | ((with_reducible apply Rd.listQ); (first | exact Or.inl (by walk_at "sq") | exact Or.inr (by walk_at "st")))
  | ((with_reducible apply Rd.tupQ); (walk_at "sq"))
  | ((with_reducible apply Rd.slL); (walk_at "sq"))
  | ((with_reducible apply Rd.ixT); (walk_at "st"); (rfl))
  | (with_reducible refine Rd.iteB (fun _ => ?_) (fun _ => ?_))
  | (with_reducible refine Rd.iteNB (fun _ => ?_) (fun _ => ?_))
  | (refine Rd.andI (Nat.le_of_ble_eq_true rfl) ?_)
  | dsimp only [List.set])
local macro_rules | `(tactic| walk_at "hp") => `(tactic| first
  | assumption
  | exact upd_same
  | (refine Eq.trans (upd_ne (by first | assumption | (apply Ne.symm; assumption))) ?_; walk_at "hp")
  | (refine hpS (by assumption) ?_; walk_at "hp"))
local macro_rules | `(tactic| walk_at "al") => `(tactic| (with_reducible intro l hl; generalize hG : upd _ l _ = G; have hs := newOne hl hG; clear hG; obtain ⟨hs, he⟩ := hs))
local macro_rules | `(tactic| walk_at "rd") => `(tactic| first
  | walk_at "al"
  | ((with_reducible apply Rd.cat); (walk_at "hp"); (walk_at "hp"); (exact Nat.le_of_ble_eq_true rfl)))
local macro_rules | `(tactic| walk_at "sm") => `(tactic| first
  | assumption
  | exact Same.refl _
  | (refine Same.trans ?_ (by assumption); walk_at "sm"))
local macro_rules | `(tactic| walk_at "fr") => `(tactic| first
  | assumption
  | (refine Same.free (by assumption) ?_; walk_at "fr"))
local macro_rules | `(tactic| walk_at "ty") => `(tactic| first
  | exact dv_ty (by assumption)
  | exact tyD' (by walk_at "hp"))
/-! ### texts that are no names -/
section
variable {P : Program} {w : World} {K : PySem.W.Frag} {mg : Str → Option Value} {base : Heap} {D : Str → Addr}
/-- a text of at most n signs -/
def spText (n : Nat) : Sp := fun vs H Q _ => ∃ (st c : Addr), vs = [.ref st] ∧ StoreAt H st c ∧ ∀ (z : Str) (H' : Hp), z.length ≤ n → Go st c H H' → Q (.str z) H'
abbrev Odd33 : Str := " !\"#$&'()*+,-./:;<=>?@ABCDEFGHIJKLMNOPQRSTUVWXYZ[\\]^_`{|}~\n"
theorem odd33 : Odd33.length = 59 ∧ True := by decide +kernel
local macro_rules | `(tactic| walk_at "rd") => `(tactic| first
  | with_reducible apply Rd.istr
  | with_reducible apply Rd.exstr
  | with_reducible apply Rd.leZ)
local macro_rules | `(tactic| walk_at "sz") => `(tactic| first
  | exact sz5 (by omega)
  | (simp only [add_len, one_len]; exact sz5 (by omega)))
local macro_rules | `(tactic| walk_at "rd") => `(tactic| first
  | ((with_reducible apply Rd.lenZ); (walk_at "sz"))
  | ((with_reducible apply Rd.slZ); (walk_at "sz"))
  | ((with_reducible apply Rd.addZ); (walk_at "sz")))
theorem ok__law_bad_word (F : Def K mg "_law_bad_word" s__law_bad_word P__law_bad_word) (m_len : mg "len" = none) (C__law_take : Cal P w K mg base 1 "_law_take" P__law_take spTake) (C__law_between : Cal P w K mg base 2 "_law_between" P__law_between spBetween) (C__law_pick : Cal P w K mg base 2 "_law_pick" P__law_pick (spPick K)) (C__law_name : Cal P w K mg base 3 "_law_name" P__law_name spName) : Cal P w K mg base 4 "_law_bad_word" P__law_bad_word (spText 200) := by
  refine F.ok sc__law_bad_word (fun vs H Q E h => ?_) (fun f cdv A outer s H vs Q E hr h => ?_)
  · obtain ⟨st, c, rfl, _⟩ := h
    rfl
  obtain ⟨st, c, rfl, hs, q⟩ := h
  refine ⟨_, (pss_cons (ps_set (i := 1) sc__law_bad_word.nd rfl (Or.inl rfl) (pe_cal C__law_name hr (pa_cons (pv 0 (hd := nd_store) (hcd := nc_store)) pa_nil) (hdb := nd__law_name)))
  (pss_cons (ps_set (i := 2) sc__law_bad_word.nd rfl (Or.inl rfl) pe_str)
  (pss_cons (ps_set (i := 3) sc__law_bad_word.nd rfl (Or.inl rfl) (pe_cal C__law_take hr (pa_cons (pv 0 (hd := nd_store) (hcd := nc_store)) (pa_cons pe_int pa_nil)) (hdb := nd__law_take)))
  (pss_cons (ps_if (pt_cmpR op_eq (pv 3 (hd := nd_style) (hcd := nc_style)) pe_int (nomark _)) (pss_one (ps_ret pe_str)) pss_nil)
  (pss_cons (ps_if (pt_cmpR op_eq (pv 3 (hd := nd_style) (hcd := nc_style)) pe_int (nomark _)) (pss_one (ps_ret (pe_slice sl_str (pe_op op_rep_str (pv 1 (hd := nd_word) (hcd := nc_word)) pe_int) po_none (po_some pe_int)))) pss_nil)
  (pss_cons (ps_if (pt_cmpR op_eq (pv 3 (hd := nd_style) (hcd := nc_style)) pe_int (nomark _)) (pss_one (ps_ret (pe_op op_rep_str (pe_ix ix_str (pv 1 (hd := nd_word) (hcd := nc_word)) pe_int (fun _ _ => rfl)) (pe_cal C__law_between hr (pa_cons (pv 0 (hd := nd_store) (hcd := nc_store)) (pa_cons pe_int (pa_cons pe_int pa_nil))) (hdb := nd__law_between))))) pss_nil)
  (pss_cons (ps_if (pt_cmpR op_eq (pv 3 (hd := nd_style) (hcd := nc_style)) pe_int (nomark _)) (pss_one (ps_ret (pe_op o_addZ (pe_ix ix_str pe_str (pe_cal C__law_take hr (pa_cons (pv 0 (hd := nd_store) (hcd := nc_store)) (pa_cons pe_int pa_nil)) (hdb := nd__law_take)) (fun _ _ => rfl)) (pe_slice sl_str (pv 1 (hd := nd_word) (hcd := nc_word)) (po_some pe_int) po_none)))) pss_nil)
  (pss_cons (ps_if (pt_cmpR op_eq (pv 3 (hd := nd_style) (hcd := nc_style)) pe_int (nomark _)) (pss_one (ps_ret (pe_op o_addZ (pv 1 (hd := nd_word) (hcd := nc_word)) pe_str))) pss_nil)
  (pss_cons (ps_if (pt_cmpR op_eq (pv 3 (hd := nd_style) (hcd := nc_style)) pe_int (nomark _)) (pss_one (ps_ret (pe_bm0 PySem.F.plainAttrs_str PySem.F.slot_str_upper PySem.F.type_str_upper mt_upper (pv 1 (hd := nd_word) (hcd := nc_word))))) pss_nil)
  (pss_cons (ps_set (i := 4) sc__law_bad_word.nd rfl (Or.inl rfl) (pe_cal C__law_take hr (pa_cons (pv 0 (hd := nd_store) (hcd := nc_store)) (pa_cons (pe_op op_add (pe_callB q_lenZ (by rfl) m_len PySem.boot_len (pa_cons (pv 1 (hd := nd_word) (hcd := nc_word)) pa_nil) (hn := nn_len) (hdb := nd_len)) pe_int) pa_nil)) (hdb := nd__law_take)))
  (pss_cons (ps_if (pt_cmpR op_eq (pv 3 (hd := nd_style) (hcd := nc_style)) pe_int (nomark _)) (pss_one (ps_ret (pe_op o_addZ (pe_op o_addZ (pe_slice sl_str (pv 1 (hd := nd_word) (hcd := nc_word)) po_none (po_some (pv 4 (hd := nd_at) (hcd := nc_at)))) (pe_cal C__law_pick hr (pa_cons (pv 0 (hd := nd_store) (hcd := nc_store)) (pa_cons (pv 2 (hd := nd_odd) (hcd := nc_odd)) pa_nil)) (hdb := nd__law_pick))) (pe_slice sl_str (pv 1 (hd := nd_word) (hcd := nc_word)) (po_some (pv 4 (hd := nd_at) (hcd := nc_at))) po_none)))) pss_nil)
  (pss_one (ps_ret (pe_op o_addZ (pe_op o_addZ (pe_slice sl_str (pv 1 (hd := nd_word) (hcd := nc_word)) po_none (po_some (pv 4 (hd := nd_at) (hcd := nc_at)))) (pe_cal C__law_pick hr (pa_cons (pv 0 (hd := nd_store) (hcd := nc_store)) (pa_cons (pv 2 (hd := nd_odd) (hcd := nc_odd)) pa_nil)) (hdb := nd__law_pick))) (pe_slice sl_str (pv 1 (hd := nd_word) (hcd := nc_word)) (po_some (pe_op op_add (pv 4 (hd := nd_at) (hcd := nc_at)) pe_int)) po_none))))))))))))))), ?_⟩
  refine Rd.at0 (σ := [some (.ref st), none, none, none, none]) rfl ?_
  repeat' (walk_at "rd")
  refine ⟨st, c, rfl, hs, fun z H1 nz lz g1 => ?_⟩
  have l0 : 1 ≤ z.length := by
    obtain ⟨x, r, e, _⟩ := nz
    rw [← cl_len, e]
    exact Nat.le_add_left _ _
  have e1 : ("\n" : Str).length = 1 := by decide +kernel
  have e10 : ("0123456789" : Str).length = 10 := by decide +kernel
  have eo := odd33.1
  have c2 := fun a b => cutL z a b lz
  repeat' (walk_at "rd")
  refine ⟨st, c, 8, rfl, g1.ok, by decide, fun r H2 r0 r1 g2 => ?_⟩
  have g12 := g1.trans g2
  repeat' (walk_at "rd")
  · exact q _ _ (by decide) g12
  · refine repZ (by omega) ?_
    have m := mulL (k := 12) (m := 13) lz (show (13 : Int) ≤ ((13 : Nat) : Int) by decide)
    repeat' (walk_at "rd")
    exact q _ _ (cutL _ _ _ (by omega)) g12
  · refine sign (by omega) (by decide) (by omega) fun x _ _ => ?_
    repeat' (walk_at "rd")
    refine ⟨st, c, 13, 40, rfl, g2.ok, by decide, fun k H3 k0 k1 g3 => ?_⟩
    refine repZ (by rw [one_len]; omega) ?_
    exact q _ _ (Nat.le_trans (mulL (k := 1) (m := 40) (by rw [one_len]; decide) (show k ≤ ((40 : Nat) : Int) by omega)) (by decide)) (g12.trans g3)
  · refine ⟨st, c, 10, rfl, g2.ok, by decide, fun k H3 k0 k1 g3 => ?_⟩
    refine sign (z := "0123456789") (by omega) k0 (by omega) fun x _ _ => ?_
    have := c2 (some 1) none
    repeat' (walk_at "rd")
    exact q _ _ (by rw [add_len, one_len]; omega) (g12.trans g3)
  · exact q _ _ (by rw [add_len, e1]; omega) g12
  · refine ⟨rfl, z, rfl, rfl, by omega, ?_⟩
    exact q _ _ (by rw [upL (nm_128 nz)]; omega) g12
  all_goals
    refine ⟨st, c, _, rfl, g2.ok, by omega, fun a H3 a0 a1 g3 => ?_⟩
    have := c2 none (some a)
    have := c2 (some a) none
    have := c2 (some (a + 1)) none
    repeat' (walk_at "rd")
    all_goals
      refine .inl ⟨st, c, Odd33, rfl, g3.ok, by omega, by omega, fun x H4 _ g4 => ?_⟩
      repeat' (walk_at "rd")
      exact q _ _ (by rw [add_len, add_len, one_len]; omega) ((g12.trans g3).trans g4)
/-- a value of new objects -/
def spVal (K : PySem.W.Frag) : Sp := fun vs H Q _ => ∃ (st c : Addr), vs = [.ref st] ∧ StoreAt H st c ∧ ∀ (v : V) (d : PyData) (H' : Hp), Dv K (nw H H') v d → Fd 1 d → Sz d → Go st c H H' → Q v H'
theorem disp {trs : List (TE × TE)} {σ : L2.St} {H : Hp} {Q : VK} (h : ∀ p, H p = none → tPairs trs σ (upd H p (.dK [])) fun ps H2 => H2 p = some (.dK []) ∧ ∃ kvs : List (Key × V), ps = kvs.map (fun kv => (kV kv.1, kv.2)) ∧ kvs.length ≤ 15 ∧ Q (.ref p) (upd H2 p (.dK (mergeK [] kvs)))) : tDisp trs σ H Q := h
theorem dnewX0 {σ : L2.St} {H : Hp} {Q : VK} (h : ∀ p, H p = none → Q (.ref p) (upd H p (.dK []))) : tDNewK σ H Q := h
local macro_rules | `(tactic| walk_at "rd") => `(tactic| with_reducible apply Kj.dnewX0)
theorem ok__law_not_name (F : Def K mg "_law_not_name" s__law_not_name P__law_not_name) (C__law_take : Cal P w K mg base 1 "_law_take" P__law_take spTake) (C__law_name : Cal P w K mg base 3 "_law_name" P__law_name spName) (C__law_bad_word : Cal P w K mg base 4 "_law_bad_word" P__law_bad_word (spText 200)) : Cal P w K mg base 5 "_law_not_name" P__law_not_name (spVal K) := by
  refine F.ok sc__law_not_name (fun vs H Q E h => ?_) (fun f cdv A outer s H vs Q E hr h => ?_)
  · obtain ⟨st, c, rfl, _⟩ := h
    rfl
  obtain ⟨st, c, rfl, hs, q⟩ := h
  refine ⟨_, (pss_cons (ps_if (pt_cmpR op_eq (pe_cal C__law_take hr (pa_cons (pv 0 (hd := nd_store) (hcd := nc_store)) (pa_cons pe_int pa_nil)) (hdb := nd__law_take)) pe_int (nomark _)) (pss_one (ps_ret (pe_cal C__law_bad_word hr (pa_cons (pv 0 (hd := nd_store) (hcd := nc_store)) pa_nil) (hdb := nd__law_bad_word)))) pss_nil)
  (pss_cons (ps_set (i := 1) sc__law_not_name.nd rfl (Or.inl rfl) (pe_cal C__law_name hr (pa_cons (pv 0 (hd := nd_store) (hcd := nc_store)) pa_nil) (hdb := nd__law_name)))
  (pss_cons (ps_set (i := 2) sc__law_not_name.nd rfl (Or.inl rfl) (pe_lst (pa_cons pe_non (pa_cons pe_bl (pa_cons pe_bl (pa_cons pe_int (pa_cons pe_int (pa_cons (pe_un un_neg pe_int) (pa_cons (pe_lst pa_nil) (pa_cons (pe_lst (pa_cons (pv 1 (hd := nd_word) (hcd := nc_word)) pa_nil)) (pa_cons (pe_tup pa_nil) (pa_cons (pe_tup (pa_cons (pv 1 (hd := nd_word) (hcd := nc_word)) pa_nil)) (pa_cons pe_dnewK (pa_cons (pe_lst (pa_cons pe_int (pa_cons pe_str pa_nil))) (pa_cons (pe_tup (pa_cons (pv 1 (hd := nd_word) (hcd := nc_word)) (pa_cons (pv 1 (hd := nd_word) (hcd := nc_word)) pa_nil))) pa_nil)))))))))))))))
  (pss_cons (ps_set (i := 3) sc__law_not_name.nd rfl (Or.inl rfl) (pe_cal C__law_take hr (pa_cons (pv 0 (hd := nd_store) (hcd := nc_store)) (pa_cons pe_int pa_nil)) (hdb := nd__law_take)))
  (pss_cons (ps_if (pt_cmpR op_eq (pv 3 (hd := nd_at) (hcd := nc_at)) pe_int (nomark _)) (pss_one (ps_ret (pe_disp (pps_cons (pv 1 (hd := nd_word) (hcd := nc_word)) (pv 1 (hd := nd_word) (hcd := nc_word)) pps_nil) (by rfl) (by rfl) (by intro z; cases z) (by decide)))) pss_nil)
  (pss_one (ps_ret (pe_ix ix_list (pv 2 (hd := nd_odd) (hcd := nc_odd)) (pv 3 (hd := nd_at) (hcd := nc_at)) (fun _ _ => rfl))))))))), ?_⟩
  refine Rd.at0 (σ := [some (.ref st), none, none, none]) rfl ?_
  repeat' (walk_at "rd")
  refine ⟨st, c, 2, rfl, hs, by decide, fun r H1 r0 r1 g1 => ?_⟩
  repeat' (walk_at "rd")
  · exact ⟨st, c, rfl, g1.ok, fun z H2 lz g2 => q _ _ _ (.str z) (.str z) (.str (by omega)) (g1.trans g2)⟩
  refine ⟨st, c, rfl, g1.ok, fun z H2 nz lz g2 => ?_⟩
  have g12 := g1.trans g2
  repeat' (walk_at "rd")
  rename_i l1 n1 G1 s1 e1 l2 n2 G2 s2 e2 l3 n3 G3 s3 e3 l4 n4 G4 s4 e4 l5 n5 G5 s5 e5 l6 n6 G6 s6 e6 l7 n7 G7 s7 e7 l8 n8 G8 s8 e8
  have f2 := fun {b} (n : H2 b = none) => g12.free n
  have f3 := fun {b} (n : G1 b = none) => f2 (Same.free s1 n)
  have f4 := fun {b} (n : G2 b = none) => f3 (Same.free s2 n)
  have f5 := fun {b} (n : G3 b = none) => f4 (Same.free s3 n)
  have f6 := fun {b} (n : G4 b = none) => f5 (Same.free s4 n)
  have f7 := fun {b} (n : G5 b = none) => f6 (Same.free s5 n)
  have f8 := fun {b} (n : G6 b = none) => f7 (Same.free s6 n)
  have f9 := fun {b} (n : G7 b = none) => f8 (Same.free s7 n)
  have t7 := s7.trans s8
  have t6 := s6.trans t7
  have t5 := s5.trans t6
  have t4 := s4.trans t5
  have t3 := s3.trans t4
  have t2 := s2.trans t3
  have t1 := s1.trans t2
  have gH := g12.same t1
  refine ⟨st, c, 14, rfl, gH.ok, by decide, fun r H3 r0 r1 g => ?_⟩
  have kp : ∀ {b : Addr} {o : HO}, H b = none → G8 b = some o → H3 b = some o := fun {b o} n e => g.keep b o (fun z => by
    obtain ⟨⟨u, hu⟩, _⟩ := hs.has
    rw [z, hu] at n
    cases n) e
  have m1 := nw_mk (f2 n1) (kp (f2 n1) (t2 _ _ e1))
  have m2 := nw_mk (f3 n2) (kp (f3 n2) (t3 _ _ e2))
  have m3 := nw_mk (f4 n3) (kp (f4 n3) (t4 _ _ e3))
  have m4 := nw_mk (f5 n4) (kp (f5 n4) (t5 _ _ e4))
  have m5 := nw_mk (f6 n5) (kp (f6 n5) (t6 _ _ e5))
  have m6 := nw_mk (f7 n6) (kp (f7 n6) (t7 _ _ e6))
  have m7 := nw_mk (f8 n7) (kp (f8 n7) (s8 _ _ e7))
  have m8 := kp (f9 n8) e8
  have gg : Go st c H H3 := gH.trans g
  have one : ∀ {d : PyData}, Fd 0 d → ∀ x ∈ [d], Fd 0 x := fun hd x hx => by
    rw [List.mem_singleton.mp hx]
    exact hd
  have two : ∀ {d e : PyData}, Fd 0 d → Fd 0 e → ∀ x ∈ [d, e], Fd 0 x := fun hd he x hx => by
    rcases List.mem_cons.mp hx with h | h
    · rw [h]
      exact hd
    · rw [List.mem_singleton.mp h]
      exact he
  repeat' (walk_at "rd")
  · refine disp fun p np => ⟨.str z, rfl, .str z, rfl, upd_same, [(.inr z, .str z)], rfl, (by show 1 ≤ 15; decide), ?_⟩
    rw [upd_upd]
    have np' : H p = none := gg.free np
    have g' := gg.new np (.dK (mergeK [] [(.inr z, .str z)]))
    have e : mergeK [] [((.inr z : Key), V.str z)] = [(.inr z, .str z)] := rfl
    rw [e] at g' ⊢
    exact q _ _ _ (.dc1 (nw_mk np' upd_same) (.str z)) (.dc1 (.str z)) (fun _ e => nomatch e) g'
  · rename_i z13
    obtain rfl | rfl | rfl | rfl | rfl | rfl | rfl | rfl | rfl | rfl | rfl | rfl | rfl : r = 0 ∨ r = 1 ∨ r = 2 ∨ r = 3 ∨ r = 4 ∨ r = 5 ∨ r = 6 ∨ r = 7 ∨ r = 8 ∨ r = 9 ∨ r = 10 ∨ r = 11 ∨ r = 12 := by omega
    all_goals refine ixL (.inl (.inl m8)) rfl ?_
    · exact q _ _ _ .non .non (fun _ e => nomatch e) gg
    · exact q _ _ _ (.bl _) (.bl _) (fun _ e => nomatch e) gg
    · exact q _ _ _ (.bl _) (.bl _) (fun _ e => nomatch e) gg
    · exact q _ _ _ (.int _) (.int _) (fun _ e => nomatch e) gg
    · exact q _ _ _ (.int _) (.int _) (fun _ e => nomatch e) gg
    · exact q _ _ _ (.int _) (.int _) (fun _ e => nomatch e) gg
    · exact q _ _ _ (.lst (.inl (.inl m1)) .nil) (.lst (Nat.zero_le _) fun _ h => nomatch h) (fun _ e => nomatch e) gg
    · exact q _ _ _ (.lst (.inl (.inl m2)) (.cons (.str _) .nil)) (.lst (show 1 ≤ 100000 by decide) (one (.str z))) (fun _ e => nomatch e) gg
    · exact q _ _ _ (.tup (.inl (.inl m3)) .nil) (.tup (Nat.zero_le _) fun _ h => nomatch h) (fun _ e => nomatch e) gg
    · exact q _ _ _ (.tup (.inl (.inl m4)) (.cons (.str _) .nil)) (.tup (show 1 ≤ 100000 by decide) (one (.str z))) (fun _ e => nomatch e) gg
    · exact q _ _ _ (.dc0 m5) .dc0 (fun _ e => nomatch e) gg
    · exact q _ _ _ (.lst (.inl (.inl m6)) (.cons (.int _) (.cons (.str _) .nil))) (.lst (show 2 ≤ 100000 by decide) (two (.int 1) (.str _))) (fun _ e => nomatch e) gg
    · exact q _ _ _ (.tup (.inl (.inl m7)) (.cons (.str _) (.cons (.str _) .nil))) (.tup (show 2 ≤ 100000 by decide) (two (.str _) (.str _))) (fun _ e => nomatch e) gg
end
end Kj
namespace Kj
open PySem PySem.Spec PyProof.Rows L2 Rd
/-! ### the stepper -/
local macro_rules | `(tactic| walk_at "hp") => `(tactic| first
  | assumption
  | exact upd_same
  | (refine Eq.trans (upd_ne (by first | assumption | (apply Ne.symm; assumption))) ?_; walk_at "hp"))
local macro_rules | `(tactic| walk_at "sq") => `(tactic| first
  | assumption
  | (refine Or.inl (Or.inl ?_); walk_at "hp"))
local macro_rules | `(tactic| walk_at "st") => `(tactic| first
  | assumption
  | (refine Or.inl (Or.inl ?_); walk_at "hp"))
local macro_rules | `(tactic| walk_at "ar") => `(tactic| first
  | assumption
  | omega
  | decide)
local macro_rules | `(tactic| walk_at "ci") => `(tactic| first
  | (refine (show CMul _ _ from Or.inr ⟨?_, ?_⟩) <;> omega)
  | (refine (show CMul _ _ from Or.inl ⟨?_, ?_⟩) <;> omega)
  | (show CPow _ _; exact ⟨by decide, by decide, by decide⟩)
  | (refine wide_div (b := 63) ?_ ?_ (by decide) (by decide) <;> omega)
  | (show (0 : Int) < _; omega))
local macro_rules | `(tactic| walk_at "ty") => `(tactic| first
  | exact dp_ty (by assumption)
  | exact TyX.base (TyOf.int _)
  | exact TyX.base (TyOf.str _)
  | exact TyX.base (TyOf.bl _)
  | exact TyX.base TyOf.non
  | exact tyL' (by walk_at "sq")
  | exact tyT' (by walk_at "st"))
local macro_rules | `(tactic| walk_at "isi") => `(tactic| first
  | ((with_reducible apply Rd.isiF); (walk_at "ty"); (decide))
  | ((with_reducible apply Rd.isiT); (walk_at "ty"); (decide)))
local macro_rules | `(tactic| walk_at "rd") => `(tactic| first
  | with_reducible apply Rd.seq
  | ((with_reducible apply Rd.var); rfl)
  | with_reducible apply Rd.con
  | with_reducible apply Rd.op
  | with_reducible apply Rd.asg
  | ((with_reducible apply Rd.gname); ((dsimp only [List.set, L2.wipe, Int.reduceToNat]) <;> rfl))
  | with_reducible apply Rd.nxt
  | with_reducible apply Rd.ifs
  | with_reducible apply Rd.test
  | with_reducible apply Rd.testB
  | with_reducible apply Rd.exbl
  | with_reducible apply Rd.ret
  | with_reducible apply Rd.drop
  | with_reducible apply Rd.retN
  | with_reducible apply Rd.nil
  | with_reducible apply Rd.cons
  | with_reducible apply Rd.call
  | with_reducible apply Rd.cb
  | with_reducible apply Rd.and
  | with_reducible apply Rd.or
  | with_reducible apply Rd.not
  | with_reducible apply Rd.andV
  | with_reducible apply Rd.orV
  | with_reducible apply Rd.notV
  | with_reducible apply Rd.ife
  | with_reducible apply Rd.tup
  | with_reducible apply Rd.lst
  | with_reducible apply Rd.un
  | with_reducible apply Rd.chain
  | with_reducible apply Rd.brk
  | with_reducible apply Rd.cnt
  | with_reducible apply Rd.I0
  | with_reducible apply Rd.U1
  | ((with_reducible apply Rd.eq); rfl)
  | ((with_reducible apply Rd.ne); rfl)
  | ((with_reducible apply Rd.I1); (walk_at "ci"))
  | with_reducible apply Rd.lc0
  | with_reducible apply Rd.ln0
  | with_reducible apply Rd.exN
  | ((with_reducible apply Rd.iteSf); (decide +kernel))
  | ((with_reducible apply Rd.iteSt); (decide +kernel))
  | ((with_reducible apply Rd.niQ); (exact Or.inl (by walk_at "sq")); (exact ⟨rfl, rfl⟩); (rfl))
  | ((with_reducible apply Rd.inQ); (exact Or.inl (by walk_at "sq")); (exact ⟨rfl, rfl⟩); (rfl))
  | with_reducible apply Rd.rn1
  | with_reducible apply Rd.in1
  | with_reducible apply Rd.sn1
  | with_reducible apply Rd.bn1
  | with_reducible apply Rd.nn1
  | with_reducible apply Rd.rn2
  | with_reducible apply Rd.in2
  | with_reducible apply Rd.sn2
  | with_reducible apply Rd.bn2
  | with_reducible apply Rd.nn2
  | with_reducible apply Rd.nt1
  | with_reducible apply Rd.nf1
  | (with_reducible refine Rd.iteI (fun _ => ?_) (fun _ => ?_))
  | (with_reducible refine Rd.iteNI (fun _ => ?_) (fun _ => ?_))
  | (with_reducible refine iteT ?_)
  | (with_reducible refine iteF ?_)
  | (with_reducible refine Rd.iteD (fun _ => ?_) (fun _ => ?_))
  | (with_reducible refine Rd.iteN (fun _ => ?_) (fun _ => ?_))
  | with_reducible apply Rd.intI
  | with_reducible apply Rd.intB
  | with_reducible apply Rd.maxQ
  | with_reducible apply Rd.minQ
  | with_reducible apply Rd.absQ
  | with_reducible apply Rd.isN
  | with_reducible apply Rd.noN
  | with_reducible apply Rd.ltZ
  | with_reducible apply Rd.bm
  | with_reducible apply Rd.bm0
  | with_reducible apply Rd.par
  | with_reducible apply Rd.expar
  | with_reducible apply Rd.exint
  | with_reducible apply Rd.ipi
  | with_reducible apply Rd.slice
  | with_reducible apply Rd.noPart
  | with_reducible apply Rd.part
  | with_reducible apply Rd.gcons
  | with_reducible apply Rd.gnil
  | with_reducible apply Rd.iseq
  | with_reducible apply Rd.irng1
  | walk_at "isi"
  | with_reducible apply Rd.forX
  | with_reducible apply Rd.lstRev
  | with_reducible apply Rd.lstRg
  | with_reducible apply Rd.rg1
  | with_reducible apply Rd.rg2
  | with_reducible apply Rd.exint2
  | ((with_reducible apply Rd.exrev); (walk_at "sq"))
  | with_reducible apply Rd.lcX
  | with_reducible apply Rd.yes
  | ((with_reducible apply Rd.exrng1); (constructor <;> omega))
  | ((with_reducible apply Rd.exrng2); (refine ⟨?_, ?_, ?_, ?_⟩ <;> omega))
  | with_reducible apply Rd.irng2
  | ((with_reducible apply Rd.aug); rfl)
  | ((with_reducible apply Rd.exlst); (walk_at "sq"))
  | ((with_reducible apply Rd.gtup); (walk_at "st"); (rfl))
  | ((with_reducible apply Rd.tyL); (walk_at "hp"))
  | ((with_reducible apply Rd.ixL); (walk_at "sq"); (rfl))
  | ((with_reducible apply Rd.ixI); (walk_at "sq"); (omega); (first | assumption | (simp only [List.length_map]; omega)); (intro _ _))
  | (with_reducible refine Rd.gsub ?_)
  | ((with_reducible apply Rd.setL); (walk_at "hp"); (rfl); ((dsimp only [List.set, L2.wipe, Int.reduceToNat]) <;> rfl))
  | ((with_reducible apply Rd.lenQ); (first | exact Or.inl (by walk_at "sq") | exact Or.inr (by walk_at "st")))
  | ((with_reducible apply Rd.listQ); (first | exact Or.inl (by walk_at "sq") | exact Or.inr (by walk_at "st")))
  | ((with_reducible apply Rd.tupQ); (walk_at "sq"))
  | ((with_reducible apply Rd.slL); (walk_at "sq"))
  | ((with_reducible apply Rd.ixT); (walk_at "st"); (rfl))
  | (with_reducible refine Rd.iteB (fun _ => ?_) (fun _ => ?_))
  | (with_reducible refine Rd.iteNB (fun _ => ?_) (fun _ => ?_))
  | (refine Rd.andI (Nat.le_of_ble_eq_true rfl) ?_)
  | dsimp only [List.set])
local macro_rules | `(tactic| walk_at "hp") => `(tactic| first
  | assumption
  | exact upd_same
  | (refine Eq.trans (upd_ne (by first | assumption | (apply Ne.symm; assumption))) ?_; walk_at "hp")
  | (refine hpS (by assumption) ?_; walk_at "hp"))
local macro_rules | `(tactic| walk_at "al") => `(tactic| (with_reducible intro l hl; generalize hG : upd _ l _ = G; have hs := newOne hl hG; clear hG; obtain ⟨hs, he⟩ := hs))
local macro_rules | `(tactic| walk_at "rd") => `(tactic| first
  | walk_at "al"
  | ((with_reducible apply Rd.cat); (walk_at "hp"); (walk_at "hp"); (exact Nat.le_of_ble_eq_true rfl)))
local macro_rules | `(tactic| walk_at "sm") => `(tactic| first
  | assumption
  | exact Same.refl _
  | (refine Same.trans ?_ (by assumption); walk_at "sm"))
local macro_rules | `(tactic| walk_at "fr") => `(tactic| first
  | assumption
  | (refine Same.free (by assumption) ?_; walk_at "fr"))
local macro_rules | `(tactic| walk_at "ty") => `(tactic| first
  | exact dv_ty (by assumption)
  | exact tyD' (by walk_at "hp"))
local macro_rules | `(tactic| walk_at "sz") => `(tactic| first
  | exact sz5 (by omega)
  | (simp only [add_len, one_len]; exact sz5 (by omega)))
local macro_rules | `(tactic| walk_at "rd") => `(tactic| first
  | with_reducible apply Rd.istr
  | with_reducible apply Rd.exstr
  | with_reducible apply Rd.leA
  | with_reducible apply Rd.leZz
  | with_reducible apply Rd.le0
  | with_reducible apply Rd.le9
  | with_reducible apply Rd.niZ
  | ((with_reducible apply Rd.lenZ); (walk_at "sz"))
  | ((with_reducible apply Rd.slZ); (walk_at "sz"))
  | ((with_reducible apply Rd.addZ); (walk_at "sz"))
  | with_reducible apply Rd.raiseX
  | with_reducible apply Rd.exone
  | with_reducible apply Rd.callS
  | with_reducible apply Rd.callP
  | with_reducible apply Rd.xsX
  | with_reducible apply Rd.dnewX
  | with_reducible apply Rd.tyZ)
/-! ### check_name, ordered -/
section
variable {P : Program} {w : World} {K : PySem.W.Frag} {mg : Str → Option Value} {base : Heap} {D : Str → Addr}
def spCheckN (K : PySem.W.Frag) (D : Str → Addr) : Sp := fun vs H Q E => ∃ (v : V) (d : PyData), vs = [v] ∧ Dv K H v d ∧ Sz d ∧ (nameD d = true → ∀ H', Same H H' → Q v H') ∧
  (nameD d = false → ∀ dd H', H dd = none → Same H H' → H' dd = some (.xd [("word", v), ("code", .str "BadName")]) → E (.ref (D "BadName")) (some dd) H')
theorem ok_check_name (F : Def K mg "check_name" s_check_name P_check_name) (T_BadName : Ho.ErrC P w K mg base "BadName" (D "BadName") "word") (C_is_name : Cal P w K mg base 1 "is_name" P_is_name (spNamed K)) : Ho.CalN P w K mg base 3 "check_name" P_check_name (spCheckN K D) := by
  refine Ho.defN F sc_check_name (fun vs H Q E h => ?_) (fun f cdv A outer s H vs Q E hr h => ?_)
  · obtain ⟨v, d, rfl, _⟩ := h
    rfl
  obtain ⟨v, d, rfl, hv, sz, qy, qn⟩ := h
  refine ⟨_, (pss_cons (ps_if (pt_not (pt_val (pe_cal C_is_name hr (pa_cons (pv 0 (hd := nd_word) (hcd := nc_word)) pa_nil) (hdb := nd_is_name)))) (pss_one (Ho.ps_err rfl T_BadName hr (L2N.takes_of rfl rfl rfl rfl) (pa_cons (pv 0 (hd := nd_word) (hcd := nc_word)) pa_nil) (by first | exact Ho.up_v | exact Ho.up_c))) pss_nil)
  (pss_one (ps_ret (pv 0 (hd := nd_word) (hcd := nc_word))))), ?_⟩
  refine Rd.at0 (σ := [some v]) rfl ?_
  repeat' (walk_at "rd")
  refine ⟨v, d, rfl, hv, sz, fun H1 s1 => ?_⟩
  repeat' (walk_at "rd")
  · rename_i e l n G s2 e2
    exact qn (by simpa using e) l G (Same.free s1 n) (s1.trans s2) e2
  · rename_i e
    exact qy (by simpa using e) H1 s1
end
end Kj
namespace Kj
open PySem PySem.Spec PyProof.Rows L2 Rd
/-! ### the stepper -/
local macro_rules | `(tactic| walk_at "hp") => `(tactic| first
  | assumption
  | exact upd_same
  | (refine Eq.trans (upd_ne (by first | assumption | (apply Ne.symm; assumption))) ?_; walk_at "hp"))
local macro_rules | `(tactic| walk_at "sq") => `(tactic| first
  | assumption
  | (refine Or.inl (Or.inl ?_); walk_at "hp"))
local macro_rules | `(tactic| walk_at "st") => `(tactic| first
  | assumption
  | (refine Or.inl (Or.inl ?_); walk_at "hp"))
local macro_rules | `(tactic| walk_at "ar") => `(tactic| first
  | assumption
  | omega
  | decide)
local macro_rules | `(tactic| walk_at "ci") => `(tactic| first
  | (refine (show CMul _ _ from Or.inr ⟨?_, ?_⟩) <;> omega)
  | (refine (show CMul _ _ from Or.inl ⟨?_, ?_⟩) <;> omega)
  | (show CPow _ _; exact ⟨by decide, by decide, by decide⟩)
  | (refine wide_div (b := 63) ?_ ?_ (by decide) (by decide) <;> omega)
  | (show (0 : Int) < _; omega))
local macro_rules | `(tactic| walk_at "ty") => `(tactic| first
  | exact dp_ty (by assumption)
  | exact TyX.base (TyOf.int _)
  | exact TyX.base (TyOf.str _)
  | exact TyX.base (TyOf.bl _)
  | exact TyX.base TyOf.non
  | exact tyL' (by walk_at "sq")
  | exact tyT' (by walk_at "st"))
local macro_rules | `(tactic| walk_at "isi") => `(tactic| first
  | ((with_reducible apply Rd.isiF); (walk_at "ty"); (decide))
  | ((with_reducible apply Rd.isiT); (walk_at "ty"); (decide)))
local macro_rules | `(tactic| walk_at "rd") => `(tactic| first
  | with_reducible apply Rd.seq
  | ((with_reducible apply Rd.var); rfl)
  | with_reducible apply Rd.con
  | with_reducible apply Rd.op
  | with_reducible apply Rd.asg
  | ((with_reducible apply Rd.gname); ((dsimp only [List.set, L2.wipe, Int.reduceToNat]) <;> rfl))
  | with_reducible apply Rd.nxt
  | with_reducible apply Rd.ifs
  | with_reducible apply Rd.test
  | with_reducible apply Rd.testB
  | with_reducible apply Rd.exbl
  | with_reducible apply Rd.ret
  | with_reducible apply Rd.drop
  | with_reducible apply Rd.retN
  | with_reducible apply Rd.nil
  | with_reducible apply Rd.cons
  | with_reducible apply Rd.call
  | with_reducible apply Rd.cb
  | with_reducible apply Rd.and
  | with_reducible apply Rd.or
  | with_reducible apply Rd.not
  | with_reducible apply Rd.andV
  | with_reducible apply Rd.orV
  | with_reducible apply Rd.notV
  | with_reducible apply Rd.ife
  | with_reducible apply Rd.tup
  | with_reducible apply Rd.lst
  | with_reducible apply Rd.un
  | with_reducible apply Rd.chain
  | with_reducible apply Rd.brk
  | with_reducible apply Rd.cnt
  | with_reducible apply Rd.I0
  | with_reducible apply Rd.U1
  | ((with_reducible apply Rd.eq); rfl)
  | ((with_reducible apply Rd.ne); rfl)
  | ((with_reducible apply Rd.I1); (walk_at "ci"))
  | with_reducible apply Rd.lc0
  | with_reducible apply Rd.ln0
  | with_reducible apply Rd.exN
  | ((with_reducible apply Rd.iteSf); (decide +kernel))
  | ((with_reducible apply Rd.iteSt); (decide +kernel))
  | ((with_reducible apply Rd.niQ); (exact Or.inl (by walk_at "sq")); (exact ⟨rfl, rfl⟩); (rfl))
  | ((with_reducible apply Rd.inQ); (exact Or.inl (by walk_at "sq")); (exact ⟨rfl, rfl⟩); (rfl))
  | with_reducible apply Rd.rn1
  | with_reducible apply Rd.in1
  | with_reducible apply Rd.sn1
  | with_reducible apply Rd.bn1
  | with_reducible apply Rd.nn1
  | with_reducible apply Rd.rn2
  | with_reducible apply Rd.in2
  | with_reducible apply Rd.sn2
  | with_reducible apply Rd.bn2
  | with_reducible apply Rd.nn2
  | with_reducible apply Rd.nt1
  | with_reducible apply Rd.nf1
  | (with_reducible refine Rd.iteI (fun _ => ?_) (fun _ => ?_))
  | (with_reducible refine Rd.iteNI (fun _ => ?_) (fun _ => ?_))
  | (with_reducible refine iteT ?_)
  | (with_reducible refine iteF ?_)
  | (with_reducible refine Rd.iteD (fun _ => ?_) (fun _ => ?_))
  | (with_reducible refine Rd.iteN (fun _ => ?_) (fun _ => ?_))
  | with_reducible apply Rd.intI
  | with_reducible apply Rd.intB
  | with_reducible apply Rd.maxQ
  | with_reducible apply Rd.minQ
  | with_reducible apply Rd.absQ
  | with_reducible apply Rd.isN
  | with_reducible apply Rd.noN
  | with_reducible apply Rd.ltZ
  | with_reducible apply Rd.bm
  | with_reducible apply Rd.bm0
  | with_reducible apply Rd.par
  | with_reducible apply Rd.expar
  | with_reducible apply Rd.exint
  | with_reducible apply Rd.ipi
  | with_reducible apply Rd.slice
  | with_reducible apply Rd.noPart
  | with_reducible apply Rd.part
  | with_reducible apply Rd.gcons
  | with_reducible apply Rd.gnil
  | with_reducible apply Rd.iseq
  | with_reducible apply Rd.irng1
  | walk_at "isi"
  | with_reducible apply Rd.forX
  | with_reducible apply Rd.lstRev
  | with_reducible apply Rd.lstRg
  | with_reducible apply Rd.rg1
  | with_reducible apply Rd.rg2
  | with_reducible apply Rd.exint2
  | ((with_reducible apply Rd.exrev); (walk_at "sq"))
  | with_reducible apply Rd.lcX
  | with_reducible apply Rd.yes
  | ((with_reducible apply Rd.exrng1); (constructor <;> omega))
  | ((with_reducible apply Rd.exrng2); (refine ⟨?_, ?_, ?_, ?_⟩ <;> omega))
  | with_reducible apply Rd.irng2
  | ((with_reducible apply Rd.aug); rfl)
  | ((with_reducible apply Rd.exlst); (walk_at "sq"))
  | ((with_reducible apply Rd.gtup); (walk_at "st"); (rfl))
  | ((with_reducible apply Rd.tyL); (walk_at "hp"))
  | ((with_reducible apply Rd.ixL); (walk_at "sq"); (rfl))
  | ((with_reducible apply Rd.ixI); (walk_at "sq"); (omega); (first | assumption | (simp only [List.length_map]; omega)); (intro _ _))
  | (with_reducible refine Rd.gsub ?_)
  | ((with_reducible apply Rd.setL); (walk_at "hp"); (rfl); ((dsimp only [List.set, L2.wipe, Int.reduceToNat]) <;> rfl))
  | ((with_reducible apply Rd.lenQ); (first | exact Or.inl (by walk_at "sq") | exact Or.inr (by walk_at "st")))
  | ((with_reducible apply Rd.listQ); (first | exact Or.inl (by walk_at "sq") | exact Or.inr (by walk_at "st")))
  | ((with_reducible apply Rd.tupQ); (walk_at "sq"))
  | ((with_reducible apply Rd.slL); (walk_at "sq"))
  | ((with_reducible apply Rd.ixT); (walk_at "st"); (rfl))
  | (with_reducible refine Rd.iteB (fun _ => ?_) (fun _ => ?_))
  | (with_reducible refine Rd.iteNB (fun _ => ?_) (fun _ => ?_))
  | (refine Rd.andI (Nat.le_of_ble_eq_true rfl) ?_)
  | dsimp only [List.set])
local macro_rules | `(tactic| walk_at "hp") => `(tactic| first
  | assumption
  | exact upd_same
  | (refine Eq.trans (upd_ne (by first | assumption | (apply Ne.symm; assumption))) ?_; walk_at "hp")
  | (refine hpS (by assumption) ?_; walk_at "hp"))
local macro_rules | `(tactic| walk_at "al") => `(tactic| (with_reducible intro l hl; generalize hG : upd _ l _ = G; have hs := newOne hl hG; clear hG; obtain ⟨hs, he⟩ := hs))
local macro_rules | `(tactic| walk_at "rd") => `(tactic| first
  | walk_at "al"
  | ((with_reducible apply Rd.cat); (walk_at "hp"); (walk_at "hp"); (exact Nat.le_of_ble_eq_true rfl)))
local macro_rules | `(tactic| walk_at "sm") => `(tactic| first
  | assumption
  | exact Same.refl _
  | (refine Same.trans ?_ (by assumption); walk_at "sm"))
local macro_rules | `(tactic| walk_at "fr") => `(tactic| first
  | assumption
  | (refine Same.free (by assumption) ?_; walk_at "fr"))
local macro_rules | `(tactic| walk_at "ty") => `(tactic| first
  | exact dv_ty (by assumption)
  | exact tyD' (by walk_at "hp"))
local macro_rules | `(tactic| walk_at "sz") => `(tactic| first
  | exact sz5 (by omega)
  | (simp only [add_len, one_len]; exact sz5 (by omega)))
local macro_rules | `(tactic| walk_at "rd") => `(tactic| first
  | with_reducible apply Rd.istr
  | with_reducible apply Rd.exstr
  | with_reducible apply Rd.leA
  | with_reducible apply Rd.leZz
  | with_reducible apply Rd.le0
  | with_reducible apply Rd.le9
  | with_reducible apply Rd.niZ
  | ((with_reducible apply Rd.lenZ); (walk_at "sz"))
  | ((with_reducible apply Rd.slZ); (walk_at "sz"))
  | ((with_reducible apply Rd.addZ); (walk_at "sz"))
  | with_reducible apply Rd.raiseX
  | with_reducible apply Rd.exone
  | with_reducible apply Rd.callS
  | with_reducible apply Rd.callP
  | with_reducible apply Rd.xsX
  | with_reducible apply Rd.dnewX
  | with_reducible apply Rd.tyZ)
/-! ### rows of values -/
section
variable {P : Program} {w : World} {K : PySem.W.Frag} {mg : Str → Option Value} {base : Heap}
def VOk (K : PySem.W.Frag) (H : Hp) (vs : List V) : Prop := ∀ v ∈ vs, ∃ d, Dv K H v d ∧ Fd 1 d ∧ Sz d
theorem VOk.same {H H' : Hp} {vs : List V} (h : VOk K H vs) (s : Same H H') : VOk K H' vs := fun v hv => by
  obtain ⟨d, dv, r⟩ := h v hv
  exact ⟨d, dv_same s dv, r⟩
theorem VOk.sub {H : Hp} {vs ws : List V} (h : VOk K H vs) (s : ∀ v ∈ ws, v ∈ vs) : VOk K H ws := fun v hv => h v (s v hv)
theorem VOk.app {H : Hp} {vs ws : List V} (h : VOk K H vs) (k : VOk K H ws) : VOk K H (vs ++ ws) := fun v hv => (List.mem_append.mp hv).elim (h v) (k v)
theorem VOk.one {H : Hp} {v : V} {d : PyData} (dv : Dv K H v d) (fd : Fd 1 d) (sz : Sz d) : VOk K H [v] := fun x hx => by
  rw [List.mem_singleton.mp hx]
  exact ⟨d, dv, fd, sz⟩
theorem sz_str {z : Str} (h : z.length ≤ 100000) : Sz (.str z) := fun _ e => by
  cases e
  exact h
theorem VOk.strs {H : Hp} {zs : List Str} (h : ∀ z ∈ zs, z.length ≤ 100000) : VOk K H (zs.map V.str) := fun v hv => by
  obtain ⟨z, hz, rfl⟩ := List.mem_map.mp hv
  exact ⟨.str z, .str z, .str z, sz_str (h z hz)⟩
theorem VOk.all {H : Hp} : ∀ {vs : List V}, VOk K H vs → ∃ ds, DvAll K H vs ds ∧ ∀ d ∈ ds, Fd 1 d ∧ Sz d
  | [], _ => ⟨[], .nil, fun _ h => nomatch h⟩
  | v :: vs, h => by
    obtain ⟨ds, a, b⟩ := VOk.all (vs := vs) fun x hx => h x (List.mem_cons_of_mem _ hx)
    obtain ⟨d, dv, fd, sz⟩ := h v List.mem_cons_self
    exact ⟨d :: ds, .cons dv a, fun x hx => (List.mem_cons.mp hx).elim (fun e => e ▸ ⟨fd, sz⟩) (b x)⟩
theorem go_del {st c : Addr} {H H' : Hp} (g : Go st c H H') : Same (del H st) (del H' st) := del_sub fun b o n e => g.keep b o n e
theorem same_del {H H' : Hp} {a : Addr} (s : Same H H') : Same (del H a) (del H' a) := del_sub fun b o _ e => s b o e
theorem VOk.go {st c : Addr} {H H' : Hp} {vs : List V} (h : VOk K (del H st) vs) (g : Go st c H H') : VOk K (del H' st) vs := h.same (go_del g)
theorem VOk.up {st : Addr} {H H' : Hp} {vs : List V} (h : VOk K (del H st) vs) (s : Same H H') : VOk K (del H' st) vs := h.same (same_del s)
/-- a value of new objects -/
theorem nw_del {H H' G : Hp} {a : Addr} (ha : H a ≠ none) (k : ∀ b o, H b = none → H' b = some o → G b = some o) : Same (nw H H') (del G a) := nw_sub fun b o n e => del_mk (fun z => ha (z ▸ n)) (k b o n e)
theorem store_has {H : Hp} {st c : Addr} (o : StoreAt H st c) : H st ≠ none := by
  obtain ⟨⟨u, hu⟩, _⟩ := o.has
  rw [hu]
  exact fun z => nomatch z
theorem cut_mem {xs : List V} {a b : Option Int} : ∀ x ∈ cutV xs a b, x ∈ xs := fun x hx => List.mem_of_mem_drop (List.mem_of_mem_take hx)
/-- _law_listed(store, items): a new list or tuple of the same items -/
def spListed (K : PySem.W.Frag) : Sp := fun vs H Q _ => ∃ (st c a : Addr) (xs : List V), vs = [.ref st, .ref a] ∧ StoreAt H st c ∧ H a = some (.lst xs) ∧ a ≠ st ∧ ∀ (p : Addr) (H' : Hp), (H' p = some (.lst xs) ∨ H' p = some (.tup xs)) → H p = none → Go st c H H' → Q (.ref p) H'
theorem ok__law_listed (F : Def K mg "_law_listed" s__law_listed P__law_listed) (m_tuple : mg "tuple" = none) (m_list : mg "list" = none) (C__law_take : Cal P w K mg base 1 "_law_take" P__law_take spTake) : Cal P w K mg base 2 "_law_listed" P__law_listed (spListed K) := by
  refine F.ok sc__law_listed (fun vs H Q E h => ?_) (fun f cdv A outer s H vs Q E hr h => ?_)
  · obtain ⟨st, c, a, xs, rfl, _⟩ := h
    rfl
  obtain ⟨st, c, a, xs, rfl, hs, ha, na, q⟩ := h
  refine ⟨_, (pss_cons (ps_if (pt_cmpR op_eq (pe_cal C__law_take hr (pa_cons (pv 0 (hd := nd_store) (hcd := nc_store)) (pa_cons pe_int pa_nil)) (hdb := nd__law_take)) pe_int (nomark _)) (pss_one (ps_ret (pe_callTy q_tup (by rfl) m_tuple bb_tuple (pa_cons (pv 1 (hd := nd_items) (hcd := nc_items)) pa_nil) (hn := nn_tuple) (hdb := nd_tuple)))) pss_nil)
  (pss_one (ps_ret (pe_callTy q_list (by rfl) m_list bb_list (pa_cons (pv 1 (hd := nd_items) (hcd := nc_items)) pa_nil) (hn := nn_list) (hdb := nd_list))))), ?_⟩
  refine Rd.at0 (σ := [some (.ref st), some (.ref a)]) rfl ?_
  repeat' (walk_at "rd")
  refine ⟨st, c, 4, rfl, hs, by decide, fun r H1 r0 r1 g => ?_⟩
  have ha1 := g.keep _ _ na ha
  repeat' (walk_at "rd")
  · rename_i l n G s e
    exact q l G (.inr e) (g.free n) (g.same s)
  · rename_i l n G s e
    exact q l G (.inl e) (g.free n) (g.same s)
/-- _law_houses(store, most): new names, at most so many -/
def spHouses : Sp := fun vs H Q _ => ∃ (st c : Addr) (m : Int), vs = [.ref st, .int m] ∧ StoreAt H st c ∧ 2 ≤ m ∧ m ≤ 40 ∧ ∀ (L : Addr) (zs : List Str) (H' : Hp), (zs.length : Int) ≤ m → (∀ z ∈ zs, NmS z) → zs.Nodup → H L = none → Go st c H H' → H' L = some (.lst (zs.map V.str)) → Q (.ref L) H'
theorem ok__law_houses (F : Def K mg "_law_houses" s__law_houses P__law_houses) (C__law_take : Cal P w K mg base 1 "_law_take" P__law_take spTake) (C__law_between : Cal P w K mg base 2 "_law_between" P__law_between spBetween) (C__law_names : Cal P w K mg base 3 "_law_names" P__law_names spNames) : Cal P w K mg base 4 "_law_houses" P__law_houses spHouses := by
  refine F.ok sc__law_houses (fun vs H Q E h => ?_) (fun f cdv A outer s H vs Q E hr h => ?_)
  · obtain ⟨st, c, m, rfl, _⟩ := h
    rfl
  obtain ⟨st, c, m, rfl, hs, m0, m1, q⟩ := h
  refine ⟨_, (pss_cons (ps_set (i := 2) sc__law_houses.nd rfl (Or.inl rfl) (pe_cal C__law_between hr (pa_cons (pv 0 (hd := nd_store) (hcd := nc_store)) (pa_cons pe_int (pa_cons pe_int pa_nil))) (hdb := nd__law_between)))
  (pss_cons (ps_set (i := 3) sc__law_houses.nd rfl (Or.inl rfl) (pe_cal C__law_take hr (pa_cons (pv 0 (hd := nd_store) (hcd := nc_store)) (pa_cons pe_int pa_nil)) (hdb := nd__law_take)))
  (C8.pss_cut (ps_if (pt_cmpR op_lt (pv 3 (hd := nd_style) (hcd := nc_style)) pe_int (nomark _)) (pss_one (ps_set (i := 2) sc__law_houses.nd rfl (Or.inl rfl) (pv 3 (hd := nd_style) (hcd := nc_style)))) pss_nil)
  (C8.pss_cut (ps_if (PW.pt (pw_or (pt_cmpR op_eq (pv 3 (hd := nd_style) (hcd := nc_style)) pe_int (nomark _)) (pw_or1 (pt_cmpR op_gt (pv 2 (hd := nd_many) (hcd := nc_many)) (pv 1 (hd := nd_most) (hcd := nc_most)) (nomark _))))) (pss_one (ps_set (i := 2) sc__law_houses.nd rfl (Or.inl rfl) (pv 1 (hd := nd_most) (hcd := nc_most)))) pss_nil)
  (pss_one (ps_ret (pe_cal C__law_names hr (pa_cons (pv 0 (hd := nd_store) (hcd := nc_store)) (pa_cons (pv 2 (hd := nd_many) (hcd := nc_many)) pa_nil)) (hdb := nd__law_names)))))))), ?_⟩
  refine Rd.at0 (σ := [some (.ref st), some (.int m), none, none]) rfl ?_
  repeat' (walk_at "rd")
  refine ⟨st, c, 2, 9, rfl, hs, by decide, fun n H1 n0 n1 g1 => ?_⟩
  repeat' (walk_at "rd")
  refine ⟨st, c, 12, rfl, g1.ok, by decide, fun r H2 r0 r1 g2 => ?_⟩
  have g12 := g1.trans g2
  repeat' (walk_at "rd")
  refine Rd.cut (fun σ' H' => ∃ k : Int, σ' = [some (.ref st), some (.int m), some (.int k), some (.int r)] ∧ 0 ≤ k ∧ k ≤ 9 ∧ H' = H2) ?_ ?_
  · repeat' (walk_at "rd")
    · exact ⟨_, rfl, by omega, by omega, rfl⟩
    · exact ⟨_, rfl, by omega, by omega, rfl⟩
  rintro σ' H' ⟨k, rfl, k0, k1, eH⟩
  rw [eH]
  clear eH H'
  repeat' (walk_at "rd")
  refine Rd.cut (fun σ' H' => ∃ k : Int, σ' = [some (.ref st), some (.int m), some (.int k), some (.int r)] ∧ 0 ≤ k ∧ k ≤ m ∧ H' = H2) ?_ ?_
  · repeat' (walk_at "rd")
    all_goals exact ⟨_, rfl, by omega, by omega, rfl⟩
  rintro σ' H' ⟨k, rfl, k0, k1, eH⟩
  rw [eH]
  clear eH H'
  repeat' (walk_at "rd")
  exact ⟨st, c, k, rfl, g12.ok, k0, by omega, fun L zs H3 l1 nm nd fL g3 eL => q L zs H3 (by omega) nm nd (g12.free fL) (g12.trans g3) eL⟩
theorem num_len {k : Int} (h0 : 0 ≤ k) (h1 : k ≤ 200) : (toString k : Str).length ≤ 20 := by
  have h : ∀ n : Fin 201, (toString ((n.val : Nat) : Int) : Str).length ≤ 20 := by decide +kernel
  have := h ⟨k.toNat, by omega⟩
  rwa [show (((⟨k.toNat, by omega⟩ : Fin 201).val : Nat) : Int) = k by simp; omega] at this
/-- _law_new_name(store, taken): a text -/
def spNewN (K : PySem.W.Frag) : Sp := fun vs H Q _ => ∃ (st c a : Addr) (xs : List V), vs = [.ref st, .ref a] ∧ StoreAt H st c ∧ a ≠ st ∧ H a = some (.lst xs) ∧ VOk K (del H st) xs ∧ xs.length ≤ 100 ∧ ∀ (z : Str) (H' : Hp), z.length ≤ 40 → Go st c H H' → Q (.str z) H'
theorem niZX {H : Hp} {Q : VK} {z : Str} {p : Addr} {xs : List V} (h : H p = some (.lst xs)) (vo : VOk K H xs) (q : Q (.bl (!inV (.str z) xs)) H) : rInZX K true (.str z) (.ref p) H Q :=
  ⟨z, p, xs, rfl, rfl, .inl (.inl h), fun v hv => by
    obtain ⟨d, dv, _⟩ := vo v hv
    exact ⟨d, dv⟩, by rw [if_pos rfl]; exact q⟩
theorem VOk.full {H : Hp} {st : Addr} {xs : List V} (v : VOk K (del H st) xs) : VOk K H xs := v.same del_in
theorem ok__law_new_name (F : Def K mg "_law_new_name" s__law_new_name P__law_new_name) (m_len : mg "len" = none) (m_range : mg "range" = none) (m_str : mg "str" = none) (C__law_take : Cal P w K mg base 1 "_law_take" P__law_take spTake) (C__law_pick : Cal P w K mg base 2 "_law_pick" P__law_pick (spPick K)) (C__law_is_name : Cal P w K mg base 1 "_law_is_name" P__law_is_name (spNamed K)) (C__law_name : Cal P w K mg base 3 "_law_name" P__law_name spName) : Cal P w K mg base 4 "_law_new_name" P__law_new_name (spNewN K) := by
  refine F.ok sc__law_new_name (fun vs H Q E h => ?_) (fun f cdv A outer s H vs Q E hr h => ?_)
  · obtain ⟨st, c, a, xs, rfl, _⟩ := h
    rfl
  obtain ⟨st, c, a, xs, rfl, hs, na, ha, hv, hl, q⟩ := h
  refine ⟨_, (pss_cons (ps_set (i := 2) sc__law_new_name.nd rfl (Or.inl rfl) (pe_cal C__law_name hr (pa_cons (pv 0 (hd := nd_store) (hcd := nc_store)) pa_nil) (hdb := nd__law_name)))
  (pss_cons (ps_set (i := 3) sc__law_new_name.nd rfl (Or.inl rfl) (pe_cal C__law_pick hr (pa_cons (pv 0 (hd := nd_store) (hcd := nc_store)) (pa_cons (pv 1 (hd := nd_taken) (hcd := nc_taken)) pa_nil)) (hdb := nd__law_pick)))
  (C8.pss_cut (ps_if (PW.pt (pw_and (pt_cmpR o_noN (pv 3 (hd := nd_near) (hcd := nc_near)) pe_non (nomark _)) (pw_and (pt_cmpR op_eq (pe_cal C__law_take hr (pa_cons (pv 0 (hd := nd_store) (hcd := nc_store)) (pa_cons pe_int pa_nil)) (hdb := nd__law_take)) pe_int (nomark _)) (pw_and1 (pt_val (pe_cal C__law_is_name hr (pa_cons (pv 3 (hd := nd_near) (hcd := nc_near)) pa_nil) (hdb := nd__law_is_name))))))) (pss_one (ps_if (pt_cmpR op_eq (pe_callB q_lenZ (by rfl) m_len PySem.boot_len (pa_cons (pv 3 (hd := nd_near) (hcd := nc_near)) pa_nil) (hn := nn_len) (hdb := nd_len)) pe_int (nomark _)) (pss_one (ps_set (i := 2) sc__law_new_name.nd rfl (Or.inl rfl) (pe_slice sl_str (pv 3 (hd := nd_near) (hcd := nc_near)) po_none (po_some pe_int)))) (pss_one (ps_set (i := 2) sc__law_new_name.nd rfl (Or.inl rfl) (pe_op o_addZ (pv 3 (hd := nd_near) (hcd := nc_near)) (pe_ix ix_str pe_str (pe_cal C__law_take hr (pa_cons (pv 0 (hd := nd_store) (hcd := nc_store)) (pa_cons pe_int pa_nil)) (hdb := nd__law_take)) (fun _ _ => rfl))))))) pss_nil)
  (pss_cons (ps_for PassesOwn.never rfl (pi_range1 (by rfl) m_range (pa_cons (pe_op op_add (pe_callB q_len (by rfl) m_len PySem.boot_len (pa_cons (pv 1 (hd := nd_taken) (hcd := nc_taken)) pa_nil) (hn := nn_len) (hdb := nd_len)) pe_int) pa_nil)) (pg_name (i := 4) sc__law_new_name.nd rfl (Or.inl rfl)) (pss_cons (ps_if (pt_cmpR (op_niZX (K := K) hr rfl) (pv 2 (hd := nd_word) (hcd := nc_word)) (pv 1 (hd := nd_taken) (hcd := nc_taken)) (by rfl)) (pss_one (ps_ret (pv 2 (hd := nd_word) (hcd := nc_word)))) pss_nil)
  (pss_one (ps_set (i := 2) sc__law_new_name.nd rfl (Or.inl rfl) (pe_op o_addZ pe_str (pe_callTy q_str (by rfl) m_str bb_str (pa_cons (pv 4 (hd := nd_k) (hcd := nc_k)) pa_nil) (hn := nn_str) (hdb := nd_str)))))))
  (pss_one (ps_ret (pv 2 (hd := nd_word) (hcd := nc_word)))))))), ?_⟩
  refine Rd.at0 (σ := [some (.ref st), some (.ref a), none, none, none]) rfl ?_
  have e36x := a36_len
  repeat' (walk_at "rd")
  refine ⟨st, c, rfl, hs, fun wd H1 nw lw g1 => ?_⟩
  have ha1 := g1.keep _ _ na ha
  have hv1 := hv.go g1
  repeat' (walk_at "rd")
  have eq1 : ("q" : Str).length = 1 := by decide +kernel
  refine .inr ⟨st, c, a, xs, rfl, g1.ok, na, .inl (.inl ha1), by omega, fun e => ?_, fun x H2 hx g2 => ?_⟩
  · repeat' (walk_at "rd")
    refine Rd.cut (fun σ' H' => ∃ (w : Str) (v3 : V), σ' = [some (.ref st), some (.ref a), some (.str w), some v3, none] ∧ w.length ≤ 30 ∧ Go st c H H') ?_ ?_
    · repeat' (walk_at "rd")
      exact ⟨wd, _, rfl, by omega, g1⟩
    rintro σ' G ⟨w, v3, rfl, lw3, gg⟩
    have haG := gg.keep _ _ na ha
    have hvG := (hv.go gg).full
    repeat' (walk_at "rd")
    refine forR (fun i σ H' => ∃ (w : Str) (v4 : Option V), σ = [some (.ref st), some (.ref a), some (.str w), some v3, v4] ∧ w.length ≤ 40 ∧ H' = G) ⟨w, none, rfl, by omega, rfl⟩ ?_ ?_
    · rintro i σ H' hi ⟨w, v4, rfl, lw4, rfl⟩
      repeat' (walk_at "rd")
      refine niZX haG hvG ?_
      refine exbl ?_
      refine iteB (fun _ => ?_) (fun _ => ?_)
      · repeat' (walk_at "rd")
        exact q w _ lw4 gg
      · repeat' (walk_at "rd")
        refine strQ (log_small (by omega) (by omega)) ?_
        have nl := num_len (k := 0 + (i : Int)) (by omega) (by omega)
        repeat' (walk_at "rd")
        exact ⟨_, _, rfl, by rw [add_len]; omega, rfl⟩
    · rintro σ H' ⟨w, v4, rfl, lw4, rfl⟩
      repeat' (walk_at "rd")
      exact q w _ lw4 gg
  · have g12 := g1.trans g2
    obtain ⟨d, dv, fd, sz⟩ := (hv1.go g2) x hx
    repeat' (walk_at "rd")
    refine Rd.cut (fun σ' H' => ∃ (w : Str) (v3 : V), σ' = [some (.ref st), some (.ref a), some (.str w), some v3, none] ∧ w.length ≤ 30 ∧ Go st c H H') ?_ ?_
    · rcases str_cases d with ⟨z, rfl⟩ | ⟨nd, ns⟩
      · cases dv
        repeat' (walk_at "rd")
        refine ⟨st, c, 2, rfl, g2.ok, by decide, fun r H3 r0 r1 g3 => ?_⟩
        have g13 := g12.trans g3
        repeat' (walk_at "rd")
        · refine ⟨.str z, .str z, rfl, .str z, sz, fun H4 s4 => ?_⟩
          have g14 := g13.same s4
          refine exbl ?_
          refine iteB (fun hz => ?_) (fun hz => ?_)
          · have lz : z.length ≤ 12 := by
              apply Nat.le_of_not_lt
              intro c
              have : nmB z = false := nmB_big (.inr c)
              have hz : nmB z = true := hz
              rw [this] at hz
              cases hz
            have c11 := cutL z none (some 11) lz
            repeat' (walk_at "rd")
            · exact ⟨_, _, rfl, by omega, g14⟩
            · refine ⟨st, c, 36, rfl, g14.ok, by decide, fun r H5 r0 r1 g5 => ?_⟩
              refine sign (z := "0123456789abcdefghijklmnopqrstuvwxyz") (by omega) (by omega) (by omega) fun y hy _ => ?_
              repeat' (walk_at "rd")
              exact ⟨_, _, rfl, by rw [add_len, one_len]; omega, g14.trans g5⟩
          · repeat' (walk_at "rd")
            exact ⟨wd, _, rfl, by omega, g14⟩
        · exact ⟨wd, _, rfl, by omega, g13⟩
      · have dvf := fun {G : Hp} (g : Go st c H2 G) => dv_same (del_in (H := G) (a := st)) (dv_same (go_del g) dv)
        cases dv
        case str z => exact absurd rfl (ns z)
        case non =>
          repeat' (walk_at "rd")
          exact ⟨wd, _, rfl, by omega, g12⟩
        all_goals
          repeat' (walk_at "rd")
          refine ⟨st, c, 2, rfl, g2.ok, by decide, fun r H3 r0 r1 g3 => ?_⟩
          have g13 := g12.trans g3
          repeat' (walk_at "rd")
          · refine ⟨_, _, rfl, dvf g3, sz, fun H4 s4 => ?_⟩
            rw [nd]
            repeat' (walk_at "rd")
            exact ⟨wd, _, rfl, by omega, g13.same s4⟩
          · exact ⟨wd, _, rfl, by omega, g13⟩
    rintro σ' G ⟨w, v3, rfl, lw3, gg⟩
    have haG := gg.keep _ _ na ha
    have hvG := (hv.go gg).full
    repeat' (walk_at "rd")
    refine forR (fun i σ H' => ∃ (w : Str) (v4 : Option V), σ = [some (.ref st), some (.ref a), some (.str w), some v3, v4] ∧ w.length ≤ 40 ∧ H' = G) ⟨w, none, rfl, by omega, rfl⟩ ?_ ?_
    · rintro i σ H' hi ⟨w, v4, rfl, lw4, rfl⟩
      repeat' (walk_at "rd")
      refine niZX haG hvG ?_
      refine exbl ?_
      refine iteB (fun _ => ?_) (fun _ => ?_)
      · repeat' (walk_at "rd")
        exact q w _ lw4 gg
      · repeat' (walk_at "rd")
        refine strQ (log_small (by omega) (by omega)) ?_
        have nl := num_len (k := 0 + (i : Int)) (by omega) (by omega)
        repeat' (walk_at "rd")
        exact ⟨_, _, rfl, by rw [add_len]; omega, rfl⟩
    · rintro σ H' ⟨w, v4, rfl, lw4, rfl⟩
      repeat' (walk_at "rd")
      exact q w _ lw4 gg
end
end Kj
namespace Kj
open PySem PySem.Spec PyProof.Rows L2 Rd
/-! ### the stepper -/
local macro_rules | `(tactic| walk_at "hp") => `(tactic| first
  | assumption
  | exact upd_same
  | (refine Eq.trans (upd_ne (by first | assumption | (apply Ne.symm; assumption))) ?_; walk_at "hp"))
local macro_rules | `(tactic| walk_at "sq") => `(tactic| first
  | assumption
  | (refine Or.inl (Or.inl ?_); walk_at "hp"))
local macro_rules | `(tactic| walk_at "st") => `(tactic| first
  | assumption
  | (refine Or.inl (Or.inl ?_); walk_at "hp"))
local macro_rules | `(tactic| walk_at "ar") => `(tactic| first
  | assumption
  | omega
  | decide)
local macro_rules | `(tactic| walk_at "ci") => `(tactic| first
  | (refine (show CMul _ _ from Or.inr ⟨?_, ?_⟩) <;> omega)
  | (refine (show CMul _ _ from Or.inl ⟨?_, ?_⟩) <;> omega)
  | (show CPow _ _; exact ⟨by decide, by decide, by decide⟩)
  | (refine wide_div (b := 63) ?_ ?_ (by decide) (by decide) <;> omega)
  | (show (0 : Int) < _; omega))
local macro_rules | `(tactic| walk_at "ty") => `(tactic| first
  | exact dp_ty (by assumption)
  | exact TyX.base (TyOf.int _)
  | exact TyX.base (TyOf.str _)
  | exact TyX.base (TyOf.bl _)
  | exact TyX.base TyOf.non
  | exact tyL' (by walk_at "sq")
  | exact tyT' (by walk_at "st"))
local macro_rules | `(tactic| walk_at "isi") => `(tactic| first
  | ((with_reducible apply Rd.isiF); (walk_at "ty"); (decide))
  | ((with_reducible apply Rd.isiT); (walk_at "ty"); (decide)))
local macro_rules | `(tactic| walk_at "rd") => `(tactic| first
  | with_reducible apply Rd.seq
  | ((with_reducible apply Rd.var); rfl)
  | with_reducible apply Rd.con
  | with_reducible apply Rd.op
  | with_reducible apply Rd.asg
  | ((with_reducible apply Rd.gname); ((dsimp only [List.set, L2.wipe, Int.reduceToNat]) <;> rfl))
  | with_reducible apply Rd.nxt
  | with_reducible apply Rd.ifs
  | with_reducible apply Rd.test
  | with_reducible apply Rd.testB
  | with_reducible apply Rd.exbl
  | with_reducible apply Rd.ret
  | with_reducible apply Rd.drop
  | with_reducible apply Rd.retN
  | with_reducible apply Rd.nil
  | with_reducible apply Rd.cons
  | with_reducible apply Rd.call
  | with_reducible apply Rd.cb
  | with_reducible apply Rd.and
  | with_reducible apply Rd.or
  | with_reducible apply Rd.not
  | with_reducible apply Rd.andV
  | with_reducible apply Rd.orV
  | with_reducible apply Rd.notV
  | with_reducible apply Rd.ife
  | with_reducible apply Rd.tup
  | with_reducible apply Rd.lst
  | with_reducible apply Rd.un
  | with_reducible apply Rd.chain
  | with_reducible apply Rd.brk
  | with_reducible apply Rd.cnt
  | with_reducible apply Rd.I0
  | with_reducible apply Rd.U1
  | ((with_reducible apply Rd.eq); rfl)
  | ((with_reducible apply Rd.ne); rfl)
  | ((with_reducible apply Rd.I1); (walk_at "ci"))
  | with_reducible apply Rd.lc0
  | with_reducible apply Rd.ln0
  | with_reducible apply Rd.exN
  | ((with_reducible apply Rd.iteSf); (decide +kernel))
  | ((with_reducible apply Rd.iteSt); (decide +kernel))
  | ((with_reducible apply Rd.niQ); (exact Or.inl (by walk_at "sq")); (exact ⟨rfl, rfl⟩); (rfl))
  | ((with_reducible apply Rd.inQ); (exact Or.inl (by walk_at "sq")); (exact ⟨rfl, rfl⟩); (rfl))
  | with_reducible apply Rd.rn1
  | with_reducible apply Rd.in1
  | with_reducible apply Rd.sn1
  | with_reducible apply Rd.bn1
  | with_reducible apply Rd.nn1
  | with_reducible apply Rd.rn2
  | with_reducible apply Rd.in2
  | with_reducible apply Rd.sn2
  | with_reducible apply Rd.bn2
  | with_reducible apply Rd.nn2
  | with_reducible apply Rd.nt1
  | with_reducible apply Rd.nf1
  | (with_reducible refine Rd.iteI (fun _ => ?_) (fun _ => ?_))
  | (with_reducible refine Rd.iteNI (fun _ => ?_) (fun _ => ?_))
  | (with_reducible refine iteT ?_)
  | (with_reducible refine iteF ?_)
  | (with_reducible refine Rd.iteD (fun _ => ?_) (fun _ => ?_))
  | (with_reducible refine Rd.iteN (fun _ => ?_) (fun _ => ?_))
  | with_reducible apply Rd.intI
  | with_reducible apply Rd.intB
  | with_reducible apply Rd.maxQ
  | with_reducible apply Rd.minQ
  | with_reducible apply Rd.absQ
  | with_reducible apply Rd.isN
  | with_reducible apply Rd.noN
  | with_reducible apply Rd.ltZ
  | with_reducible apply Rd.bm
  | with_reducible apply Rd.bm0
  | with_reducible apply Rd.par
  | with_reducible apply Rd.expar
  | with_reducible apply Rd.exint
  | with_reducible apply Rd.ipi
  | with_reducible apply Rd.slice
  | with_reducible apply Rd.noPart
  | with_reducible apply Rd.part
  | with_reducible apply Rd.gcons
  | with_reducible apply Rd.gnil
  | with_reducible apply Rd.iseq
  | with_reducible apply Rd.irng1
  | walk_at "isi"
  | with_reducible apply Rd.forX
  | with_reducible apply Rd.lstRev
  | with_reducible apply Rd.lstRg
  | with_reducible apply Rd.rg1
  | with_reducible apply Rd.rg2
  | with_reducible apply Rd.exint2
  | ((with_reducible apply Rd.exrev); (walk_at "sq"))
  | with_reducible apply Rd.lcX
  | with_reducible apply Rd.yes
  | ((with_reducible apply Rd.exrng1); (constructor <;> omega))
  | ((with_reducible apply Rd.exrng2); (refine ⟨?_, ?_, ?_, ?_⟩ <;> omega))
  | with_reducible apply Rd.irng2
  | ((with_reducible apply Rd.aug); rfl)
  | ((with_reducible apply Rd.exlst); (walk_at "sq"))
  | ((with_reducible apply Rd.gtup); (walk_at "st"); (rfl))
  | ((with_reducible apply Rd.tyL); (walk_at "hp"))
  | ((with_reducible apply Rd.ixL); (walk_at "sq"); (rfl))
  | ((with_reducible apply Rd.ixI); (walk_at "sq"); (omega); (first | assumption | (simp only [List.length_map]; omega)); (intro _ _))
  | (with_reducible refine Rd.gsub ?_)
  | ((with_reducible apply Rd.setL); (walk_at "hp"); (rfl); ((dsimp only [List.set, L2.wipe, Int.reduceToNat]) <;> rfl))
  | ((with_reducible apply Rd.lenQ); (first | exact Or.inl (by walk_at "sq") | exact Or.inr (by walk_at "st")))
  | ((with_reducible apply Rd.listQ); (first | exact Or.inl (by walk_at "sq") | exact Or.inr (by walk_at "st")))
  | ((with_reducible apply Rd.tupQ); (walk_at "sq"))
  | ((with_reducible apply Rd.slL); (walk_at "sq"))
  | ((with_reducible apply Rd.ixT); (walk_at "st"); (rfl))
  | (with_reducible refine Rd.iteB (fun _ => ?_) (fun _ => ?_))
  | (with_reducible refine Rd.iteNB (fun _ => ?_) (fun _ => ?_))
  | (refine Rd.andI (Nat.le_of_ble_eq_true rfl) ?_)
  | dsimp only [List.set])
local macro_rules | `(tactic| walk_at "hp") => `(tactic| first
  | assumption
  | exact upd_same
  | (refine Eq.trans (upd_ne (by first | assumption | (apply Ne.symm; assumption))) ?_; walk_at "hp")
  | (refine hpS (by assumption) ?_; walk_at "hp"))
local macro_rules | `(tactic| walk_at "al") => `(tactic| (with_reducible intro l hl; generalize hG : upd _ l _ = G; have hs := newOne hl hG; clear hG; obtain ⟨hs, he⟩ := hs))
local macro_rules | `(tactic| walk_at "rd") => `(tactic| first
  | walk_at "al"
  | ((with_reducible apply Rd.cat); (walk_at "hp"); (walk_at "hp"); (exact Nat.le_of_ble_eq_true rfl)))
local macro_rules | `(tactic| walk_at "sm") => `(tactic| first
  | assumption
  | exact Same.refl _
  | (refine Same.trans ?_ (by assumption); walk_at "sm"))
local macro_rules | `(tactic| walk_at "fr") => `(tactic| first
  | assumption
  | (refine Same.free (by assumption) ?_; walk_at "fr"))
local macro_rules | `(tactic| walk_at "ty") => `(tactic| first
  | exact dv_ty (by assumption)
  | exact tyD' (by walk_at "hp"))
local macro_rules | `(tactic| walk_at "sz") => `(tactic| first
  | exact sz5 (by omega)
  | (simp only [add_len, one_len]; exact sz5 (by omega)))
local macro_rules | `(tactic| walk_at "rd") => `(tactic| first
  | with_reducible apply Rd.istr
  | with_reducible apply Rd.exstr
  | with_reducible apply Rd.leA
  | with_reducible apply Rd.leZz
  | with_reducible apply Rd.le0
  | with_reducible apply Rd.le9
  | with_reducible apply Rd.niZ
  | ((with_reducible apply Rd.lenZ); (walk_at "sz"))
  | ((with_reducible apply Rd.slZ); (walk_at "sz"))
  | ((with_reducible apply Rd.addZ); (walk_at "sz"))
  | with_reducible apply Rd.raiseX
  | with_reducible apply Rd.exone
  | with_reducible apply Rd.callS
  | with_reducible apply Rd.callP
  | with_reducible apply Rd.xsX
  | with_reducible apply Rd.dnewX
  | with_reducible apply Rd.tyZ)
section
variable {P : Program} {w : World} {K : PySem.W.Frag} {mg : Str → Option Value} {base : Heap} {D : Str → Addr}
theorem go_near {st c : Addr} {H H' : Hp} (o : StoreAt H st c) (g : Go st c H H') : Same (nw H H') (del H' st) := nw_del (store_has o) fun _ _ _ e => e
theorem nms_sz {zs : List Str} (h : ∀ z ∈ zs, NmS z) : ∀ z ∈ zs, z.length ≤ 100000 := fun z hz => by
  have := (h z hz).2
  omega
theorem cut_two {xs : List V} {a : Int} (h : 0 ≤ a) : (cutV xs none (some a)).length + (cutV xs (some a) none).length ≤ xs.length := by
  obtain ⟨n, rfl⟩ : ∃ n : Nat, a = n := ⟨a.toNat, by omega⟩
  unfold cutV
  rw [HT.sIx_nat, HT.sIx_none, HT.sIx_none, HT.sIx_nat]
  simp only [List.length_take, List.length_drop]
  omega
/-- _law_bent_houses(store) -/
def spBentH (K : PySem.W.Frag) : Sp := fun vs H Q _ => ∃ (st c : Addr), vs = [.ref st] ∧ StoreAt H st c ∧ ∀ (L : Addr) (xs : List V) (H' : Hp), VOk K (del H' st) xs → xs.length ≤ 60 → H L = none → H' L = some (.lst xs) → Go st c H H' → Q (.ref L) H'
theorem ok__law_bent_houses (F : Def K mg "_law_bent_houses" s__law_bent_houses P__law_bent_houses) (m_range : mg "range" = none) (m_len : mg "len" = none) (C__law_take : Cal P w K mg base 1 "_law_take" P__law_take spTake) (C__law_pick : Cal P w K mg base 2 "_law_pick" P__law_pick (spPick K)) (C__law_names : Cal P w K mg base 3 "_law_names" P__law_names spNames) (C__law_new_name : Cal P w K mg base 4 "_law_new_name" P__law_new_name (spNewN K)) (C__law_not_name : Cal P w K mg base 5 "_law_not_name" P__law_not_name (spVal K)) (C__law_houses : Cal P w K mg base 4 "_law_houses" P__law_houses spHouses) : Cal P w K mg base 6 "_law_bent_houses" P__law_bent_houses (spBentH K) := by
  refine F.ok sc__law_bent_houses (fun vs H Q E h => ?_) (fun f cdv A outer s H vs Q E hr h => ?_)
  · obtain ⟨st, c, rfl, _⟩ := h
    rfl
  obtain ⟨st, c, rfl, hs, q⟩ := h
  refine ⟨_, (pss_cons (ps_set (i := 1) sc__law_bent_houses.nd rfl (Or.inl rfl) (pe_cal C__law_houses hr (pa_cons (pv 0 (hd := nd_store) (hcd := nc_store)) (pa_cons pe_int pa_nil)) (hdb := nd__law_houses)))
  (C8.pss_cut (ps_if (pt_cmpR op_eq (pe_cal C__law_take hr (pa_cons (pv 0 (hd := nd_store) (hcd := nc_store)) (pa_cons pe_int pa_nil)) (hdb := nd__law_take)) pe_int (nomark _)) (pss_one (ps_set (i := 1) sc__law_bent_houses.nd rfl (Or.inl rfl) (pe_cal C__law_names hr (pa_cons (pv 0 (hd := nd_store) (hcd := nc_store)) (pa_cons (pe_op op_add pe_int (pe_cal C__law_take hr (pa_cons (pv 0 (hd := nd_store) (hcd := nc_store)) (pa_cons pe_int pa_nil)) (hdb := nd__law_take))) pa_nil)) (hdb := nd__law_names)))) pss_nil)
  (pss_cons (ps_for PassesOwn.never rfl (pi_range1 (by rfl) m_range (pa_cons (pe_cal C__law_take hr (pa_cons (pv 0 (hd := nd_store) (hcd := nc_store)) (pa_cons pe_int pa_nil)) (hdb := nd__law_take)) pa_nil)) (pg_name (i := 2) sc__law_bent_houses.nd rfl (Or.inl rfl)) (pss_cons (ps_set (i := 3) sc__law_bent_houses.nd rfl (Or.inl rfl) (pe_cal C__law_take hr (pa_cons (pv 0 (hd := nd_store) (hcd := nc_store)) (pa_cons (pe_op op_add (pe_callB q_len (by rfl) m_len PySem.boot_len (pa_cons (pv 1 (hd := nd_row) (hcd := nc_row)) pa_nil) (hn := nn_len) (hdb := nd_len)) pe_int) pa_nil)) (hdb := nd__law_take)))
  (pss_cons (ps_set (i := 4) sc__law_bent_houses.nd rfl (Or.inl rfl) (pe_cal C__law_take hr (pa_cons (pv 0 (hd := nd_store) (hcd := nc_store)) (pa_cons pe_int pa_nil)) (hdb := nd__law_take)))
  (C8.pss_cut (ps_if (pt_cmpR op_eq (pv 4 (hd := nd_style) (hcd := nc_style)) pe_int (nomark _)) (pss_one (ps_set (i := 1) sc__law_bent_houses.nd rfl (Or.inl rfl) (pe_op op_cat (pe_op op_cat (pe_slice sl_list (pv 1 (hd := nd_row) (hcd := nc_row)) po_none (po_some (pv 3 (hd := nd_at) (hcd := nc_at)))) (pe_lst (pa_cons (pe_cal C__law_not_name hr (pa_cons (pv 0 (hd := nd_store) (hcd := nc_store)) pa_nil) (hdb := nd__law_not_name)) pa_nil))) (pe_slice sl_list (pv 1 (hd := nd_row) (hcd := nc_row)) (po_some (pv 3 (hd := nd_at) (hcd := nc_at))) po_none)))) pss_nil)
  (C8.pss_cut (ps_if (PW.pt (pw_and (pt_cmpR op_eq (pv 4 (hd := nd_style) (hcd := nc_style)) pe_int (nomark _)) (pw_and1 (pt_cmpR op_gt (pe_callB q_len (by rfl) m_len PySem.boot_len (pa_cons (pv 1 (hd := nd_row) (hcd := nc_row)) pa_nil) (hn := nn_len) (hdb := nd_len)) pe_int (nomark _))))) (pss_one (ps_set (i := 1) sc__law_bent_houses.nd rfl (Or.inl rfl) (pe_op op_cat (pe_op op_cat (pe_slice sl_list (pv 1 (hd := nd_row) (hcd := nc_row)) po_none (po_some (pv 3 (hd := nd_at) (hcd := nc_at)))) (pe_lst (pa_cons (pe_cal C__law_pick hr (pa_cons (pv 0 (hd := nd_store) (hcd := nc_store)) (pa_cons (pv 1 (hd := nd_row) (hcd := nc_row)) pa_nil)) (hdb := nd__law_pick)) pa_nil))) (pe_slice sl_list (pv 1 (hd := nd_row) (hcd := nc_row)) (po_some (pv 3 (hd := nd_at) (hcd := nc_at))) po_none)))) pss_nil)
  (pss_one (ps_if (pt_cmpR op_eq (pv 4 (hd := nd_style) (hcd := nc_style)) pe_int (nomark _)) (pss_one (ps_set (i := 1) sc__law_bent_houses.nd rfl (Or.inl rfl) (pe_op op_cat (pe_op op_cat (pe_slice sl_list (pv 1 (hd := nd_row) (hcd := nc_row)) po_none (po_some (pv 3 (hd := nd_at) (hcd := nc_at)))) (pe_lst (pa_cons (pe_cal C__law_new_name hr (pa_cons (pv 0 (hd := nd_store) (hcd := nc_store)) (pa_cons (pv 1 (hd := nd_row) (hcd := nc_row)) pa_nil)) (hdb := nd__law_new_name)) pa_nil))) (pe_slice sl_list (pv 1 (hd := nd_row) (hcd := nc_row)) (po_some (pv 3 (hd := nd_at) (hcd := nc_at))) po_none)))) pss_nil)))))))
  (pss_one (ps_ret (pv 1 (hd := nd_row) (hcd := nc_row))))))), ?_⟩
  refine Rd.at0 (σ := [some (.ref st), none, none, none, none]) rfl ?_
  repeat' (walk_at "rd")
  refine ⟨st, c, 16, rfl, hs, by decide, by decide, fun L zs H1 lz nm nd fL g1 eL => ?_⟩
  repeat' (walk_at "rd")
  refine Rd.cut (fun σ' H' => ∃ (L : Addr) (xs : List V), σ' = [some (.ref st), some (.ref L), none, none, none] ∧ VOk K (del H' st) xs ∧ xs.length ≤ 40 ∧ H L = none ∧ H' L = some (.lst xs) ∧ Go st c H H') ?_ ?_
  · repeat' (walk_at "rd")
    refine ⟨st, c, 12, rfl, g1.ok, by decide, fun r H2 r0 r1 g2 => ?_⟩
    have g12 := g1.trans g2
    repeat' (walk_at "rd")
    · refine ⟨st, c, 4, rfl, g2.ok, by decide, fun r H3 r0 r1 g3 => ?_⟩
      repeat' (walk_at "rd")
      refine ⟨st, c, _, rfl, g3.ok, by omega, by omega, fun L' zs' H4 l1 nm' nd' fL' g4 eL' => ?_⟩
      have g14 := (g12.trans g3)
      exact ⟨L', _, rfl, VOk.strs (nms_sz nm'), by rw [List.length_map]; omega, g14.free fL', eL', g14.trans g4⟩
    · exact ⟨L, _, rfl, VOk.strs (nms_sz nm), by rw [List.length_map]; omega, fL, g2.keep _ _ (hs.off fL).1 eL, g12⟩
  rintro σ' H2 ⟨L, xs, rfl, vo, lx, fL, eL, g2⟩
  repeat' (walk_at "rd")
  refine ⟨st, c, 4, rfl, g2.ok, by decide, fun n H3 n0 n1 g3 => ?_⟩
  have g23 := g2.trans g3
  repeat' (walk_at "rd")
  refine forR (fun i σ H' => ∃ (L : Addr) (xs : List V) (v2 v3 v4 : Option V), σ = [some (.ref st), some (.ref L), v2, v3, v4] ∧ VOk K (del H' st) xs ∧ xs.length ≤ 40 + 3 * i ∧ H L = none ∧ H' L = some (.lst xs) ∧ Go st c H H') ⟨L, xs, none, none, none, rfl, vo.go g3, by omega, fL, g3.keep _ _ (hs.off fL).1 eL, g23⟩ ?_ ?_
  · rintro i σ H' hi ⟨L, xs, v2, v3, v4, rfl, vo, lx, fL, eL, g⟩
    have nL := (hs.off fL).1
    have hi : i < n.toNat := hi
    repeat' (walk_at "rd")
    refine ⟨st, c, _, rfl, g.ok, by omega, fun at' H4 a0 a1 g4 => ?_⟩
    have eL4 := g4.keep _ _ nL eL
    have vo4 := vo.go g4
    repeat' (walk_at "rd")
    refine ⟨st, c, 3, rfl, g4.ok, by decide, fun sy H5 s0 s1 g5 => ?_⟩
    have eL5 := g5.keep _ _ nL eL4
    have vo5 := vo4.go g5
    have g45 := (g.trans g4).trans g5
    repeat' (walk_at "rd")
    refine Rd.cut (fun σ' H' => ∃ (L : Addr) (xs : List V), σ' = [some (.ref st), some (.ref L), some (.int (0 + (i : Int))), some (.int at'), some (.int sy)] ∧ VOk K (del H' st) xs ∧ xs.length ≤ 40 + 3 * i + 1 ∧ H L = none ∧ H' L = some (.lst xs) ∧ Go st c H H') ?_ ?_
    · repeat' (walk_at "rd")
      · rename_i l nG G sG eG
        refine ⟨st, c, rfl, g45.ok.same sG, fun v d H6 dv fd sz g6 => ?_⟩
        have ov : VOk K (del H6 st) [v] := .one (dv_same (go_near (g45.ok.same sG) g6) dv) fd sz
        -- : what is added to the length's bound
        have voG := (vo5.up sG).go g6
        have el6 := g6.keep l _ ((g45.ok.off nG).1) eG
        have eL6 := g6.keep L _ nL (sG _ _ eL5)
        repeat' (walk_at "rd")
        rename_i l2 n2 G2 s2 e2
        refine cat (s2 _ _ el6) e2 (sz5 (by have := cutV_length xs none (some at'); show _ + 1 ≤ 100000; omega)) ?_
        repeat' (walk_at "rd")
        rename_i l3 n3 G3 s3 e3 l4 n4 G4 s4 e4
        have ct := cut_two (xs := xs) a0
        refine cat (s4 _ _ e3) e4 (sz5 (by rw [List.length_append]; show _ + 1 + _ ≤ 100000; omega)) ?_
        repeat' (walk_at "rd")
        rename_i l5 n5 G5 s5 e5
        have t := ((s2.trans s3).trans s4).trans s5
        have gg := ((g45.same sG).trans g6).same t
        refine ⟨l5, _, rfl, (((voG.sub cut_mem).app ov).app (voG.sub cut_mem)).up t, ?_, ((g45.same sG).trans g6).free (((s2.trans s3).trans s4).free n5), e5, gg⟩
        rw [List.length_append, List.length_append]
        show _ + 1 + _ ≤ _
        omega
      · exact ⟨L, xs, rfl, vo5, by omega, fL, eL5, g45⟩
    clear eL5 vo5 nL lx vo eL eL4 vo4 g45
    rintro σ' H5 ⟨L, xs, rfl, vo5, lx, fL, eL5, g45⟩
    have nL := (hs.off fL).1
    repeat' (walk_at "rd")
    refine Rd.cut (fun σ' H' => ∃ (L : Addr) (xs : List V), σ' = [some (.ref st), some (.ref L), some (.int (0 + (i : Int))), some (.int at'), some (.int sy)] ∧ VOk K (del H' st) xs ∧ xs.length ≤ 40 + 3 * i + 2 ∧ H L = none ∧ H' L = some (.lst xs) ∧ Go st c H H') ?_ ?_
    · repeat' (walk_at "rd")
      · rename_i hp l nG G sG eG
        have lp : 0 < xs.length := by omega
        refine .inr ⟨st, c, L, xs, rfl, g45.ok.same sG, nL, .inl (.inl (sG _ _ eL5)), by omega, fun e => ?_, fun v H6 hv g6 => ?_⟩
        · rw [e] at lp
          cases lp
        have ov : VOk K (del H6 st) [v] := ((vo5.up sG).go g6).sub fun x hx => by
          rw [List.mem_singleton.mp hx]
          exact hv
        -- : what is added to the length's bound
        have voG := (vo5.up sG).go g6
        have el6 := g6.keep l _ ((g45.ok.off nG).1) eG
        have eL6 := g6.keep L _ nL (sG _ _ eL5)
        repeat' (walk_at "rd")
        rename_i l2 n2 G2 s2 e2
        refine cat (s2 _ _ el6) e2 (sz5 (by have := cutV_length xs none (some at'); show _ + 1 ≤ 100000; omega)) ?_
        repeat' (walk_at "rd")
        rename_i l3 n3 G3 s3 e3 l4 n4 G4 s4 e4
        have ct := cut_two (xs := xs) a0
        refine cat (s4 _ _ e3) e4 (sz5 (by rw [List.length_append]; show _ + 1 + _ ≤ 100000; omega)) ?_
        repeat' (walk_at "rd")
        rename_i l5 n5 G5 s5 e5
        have t := ((s2.trans s3).trans s4).trans s5
        have gg := ((g45.same sG).trans g6).same t
        refine ⟨l5, _, rfl, (((voG.sub cut_mem).app ov).app (voG.sub cut_mem)).up t, ?_, ((g45.same sG).trans g6).free (((s2.trans s3).trans s4).free n5), e5, gg⟩
        rw [List.length_append, List.length_append]
        show _ + 1 + _ ≤ _
        omega
      · exact ⟨L, xs, rfl, vo5, by omega, fL, eL5, g45⟩
      · exact ⟨L, xs, rfl, vo5, by omega, fL, eL5, g45⟩
    clear eL5 vo5 nL lx g45
    rintro σ' H5 ⟨L, xs, rfl, vo5, lx, fL, eL5, g45⟩
    have nL := (hs.off fL).1
    repeat' (walk_at "rd")
    · rename_i l nG G sG eG
      refine ⟨st, c, L, xs, rfl, g45.ok.same sG, nL, sG _ _ eL5, vo5.up sG, by omega, fun z H6 lz g6 => ?_⟩
      have ov : VOk K (del H6 st) [.str z] := .one (.str z) (.str z) (sz_str (by omega))
      have voG := (vo5.up sG).go g6
      have el6 := g6.keep l _ ((g45.ok.off nG).1) eG
      have eL6 := g6.keep L _ nL (sG _ _ eL5)
      repeat' (walk_at "rd")
      rename_i l2 n2 G2 s2 e2
      refine cat (s2 _ _ el6) e2 (sz5 (by have := cutV_length xs none (some at'); show _ + 1 ≤ 100000; omega)) ?_
      repeat' (walk_at "rd")
      rename_i l3 n3 G3 s3 e3 l4 n4 G4 s4 e4
      have ct := cut_two (xs := xs) a0
      refine cat (s4 _ _ e3) e4 (sz5 (by rw [List.length_append]; show _ + 1 + _ ≤ 100000; omega)) ?_
      repeat' (walk_at "rd")
      rename_i l5 n5 G5 s5 e5
      have t := ((s2.trans s3).trans s4).trans s5
      have gg := ((g45.same sG).trans g6).same t
      refine ⟨l5, _, _, _, _, rfl, (((voG.sub cut_mem).app ov).app (voG.sub cut_mem)).up t, ?_, ((g45.same sG).trans g6).free (((s2.trans s3).trans s4).free n5), e5, gg⟩
      rw [List.length_append, List.length_append]
      show _ + 1 + _ ≤ _
      omega
    · exact ⟨L, xs, _, _, _, rfl, vo5, by omega, fL, eL5, g45⟩
  · rintro σ H' ⟨L, xs, v2, v3, v4, rfl, vo, lx, fL, eL, g⟩
    repeat' (walk_at "rd")
    exact q L xs H' vo (by omega) fL eL g
end
end Kj
namespace Kj
open PySem PySem.Spec PyProof.Rows L2 Rd
/-! ### the stepper -/
local macro_rules | `(tactic| walk_at "hp") => `(tactic| first
  | assumption
  | exact upd_same
  | (refine Eq.trans (upd_ne (by first | assumption | (apply Ne.symm; assumption))) ?_; walk_at "hp"))
local macro_rules | `(tactic| walk_at "sq") => `(tactic| first
  | assumption
  | (refine Or.inl (Or.inl ?_); walk_at "hp"))
local macro_rules | `(tactic| walk_at "st") => `(tactic| first
  | assumption
  | (refine Or.inl (Or.inl ?_); walk_at "hp"))
local macro_rules | `(tactic| walk_at "ar") => `(tactic| first
  | assumption
  | omega
  | decide)
local macro_rules | `(tactic| walk_at "ci") => `(tactic| first
  | (refine (show CMul _ _ from Or.inr ⟨?_, ?_⟩) <;> omega)
  | (refine (show CMul _ _ from Or.inl ⟨?_, ?_⟩) <;> omega)
  | (show CPow _ _; exact ⟨by decide, by decide, by decide⟩)
  | (refine wide_div (b := 63) ?_ ?_ (by decide) (by decide) <;> omega)
  | (show (0 : Int) < _; omega))
local macro_rules | `(tactic| walk_at "ty") => `(tactic| first
  | exact dp_ty (by assumption)
  | exact TyX.base (TyOf.int _)
  | exact TyX.base (TyOf.str _)
  | exact TyX.base (TyOf.bl _)
  | exact TyX.base TyOf.non
  | exact tyL' (by walk_at "sq")
  | exact tyT' (by walk_at "st"))
local macro_rules | `(tactic| walk_at "isi") => `(tactic| first
  | ((with_reducible apply Rd.isiF); (walk_at "ty"); (decide))
  | ((with_reducible apply Rd.isiT); (walk_at "ty"); (decide)))
local macro_rules | `(tactic| walk_at "rd") => `(tactic| first
  | with_reducible apply Rd.seq
  | ((with_reducible apply Rd.var); rfl)
  | with_reducible apply Rd.con
  | with_reducible apply Rd.op
  | with_reducible apply Rd.asg
  | ((with_reducible apply Rd.gname); ((dsimp only [List.set, L2.wipe, Int.reduceToNat]) <;> rfl))
  | with_reducible apply Rd.nxt
  | with_reducible apply Rd.ifs
  | with_reducible apply Rd.test
  | with_reducible apply Rd.testB
  | with_reducible apply Rd.exbl
  | with_reducible apply Rd.ret
  | with_reducible apply Rd.drop
  | with_reducible apply Rd.retN
  | with_reducible apply Rd.nil
  | with_reducible apply Rd.cons
  | with_reducible apply Rd.call
  | with_reducible apply Rd.cb
  | with_reducible apply Rd.and
  | with_reducible apply Rd.or
  | with_reducible apply Rd.not
  | with_reducible apply Rd.andV
  | with_reducible apply Rd.orV
  | with_reducible apply Rd.notV
  | with_reducible apply Rd.ife
  | with_reducible apply Rd.tup
  | with_reducible apply Rd.lst
  | with_reducible apply Rd.un
  | with_reducible apply Rd.chain
  | with_reducible apply Rd.brk
  | with_reducible apply Rd.cnt
  | with_reducible apply Rd.I0
  | with_reducible apply Rd.U1
  | ((with_reducible apply Rd.eq); rfl)
  | ((with_reducible apply Rd.ne); rfl)
  | ((with_reducible apply Rd.I1); (walk_at "ci"))
  | with_reducible apply Rd.lc0
  | with_reducible apply Rd.ln0
  | with_reducible apply Rd.exN
  | ((with_reducible apply Rd.iteSf); (decide +kernel))
  | ((with_reducible apply Rd.iteSt); (decide +kernel))
  | ((with_reducible apply Rd.niQ); (exact Or.inl (by walk_at "sq")); (exact ⟨rfl, rfl⟩); (rfl))
  | ((with_reducible apply Rd.inQ); (exact Or.inl (by walk_at "sq")); (exact ⟨rfl, rfl⟩); (rfl))
  | with_reducible apply Rd.rn1
  | with_reducible apply Rd.in1
  | with_reducible apply Rd.sn1
  | with_reducible apply Rd.bn1
  | with_reducible apply Rd.nn1
  | with_reducible apply Rd.rn2
  | with_reducible apply Rd.in2
  | with_reducible apply Rd.sn2
  | with_reducible apply Rd.bn2
  | with_reducible apply Rd.nn2
  | with_reducible apply Rd.nt1
  | with_reducible apply Rd.nf1
  | (with_reducible refine Rd.iteI (fun _ => ?_) (fun _ => ?_))
  | (with_reducible refine Rd.iteNI (fun _ => ?_) (fun _ => ?_))
  | (with_reducible refine iteT ?_)
  | (with_reducible refine iteF ?_)
  | (with_reducible refine Rd.iteD (fun _ => ?_) (fun _ => ?_))
  | (with_reducible refine Rd.iteN (fun _ => ?_) (fun _ => ?_))
  | with_reducible apply Rd.intI
  | with_reducible apply Rd.intB
  | with_reducible apply Rd.maxQ
  | with_reducible apply Rd.minQ
  | with_reducible apply Rd.absQ
  | with_reducible apply Rd.isN
  | with_reducible apply Rd.noN
  | with_reducible apply Rd.ltZ
  | with_reducible apply Rd.bm
  | with_reducible apply Rd.bm0
  | with_reducible apply Rd.par
  | with_reducible apply Rd.expar
  | with_reducible apply Rd.exint
  | with_reducible apply Rd.ipi
  | with_reducible apply Rd.slice
  | with_reducible apply Rd.noPart
  | with_reducible apply Rd.part
  | with_reducible apply Rd.gcons
  | with_reducible apply Rd.gnil
  | with_reducible apply Rd.iseq
  | with_reducible apply Rd.irng1
  | walk_at "isi"
  | with_reducible apply Rd.forX
  | with_reducible apply Rd.lstRev
  | with_reducible apply Rd.lstRg
  | with_reducible apply Rd.rg1
  | with_reducible apply Rd.rg2
  | with_reducible apply Rd.exint2
  | ((with_reducible apply Rd.exrev); (walk_at "sq"))
  | with_reducible apply Rd.lcX
  | with_reducible apply Rd.yes
  | ((with_reducible apply Rd.exrng1); (constructor <;> omega))
  | ((with_reducible apply Rd.exrng2); (refine ⟨?_, ?_, ?_, ?_⟩ <;> omega))
  | with_reducible apply Rd.irng2
  | ((with_reducible apply Rd.aug); rfl)
  | ((with_reducible apply Rd.exlst); (walk_at "sq"))
  | ((with_reducible apply Rd.gtup); (walk_at "st"); (rfl))
  | ((with_reducible apply Rd.tyL); (walk_at "hp"))
  | ((with_reducible apply Rd.ixL); (walk_at "sq"); (rfl))
  | ((with_reducible apply Rd.ixI); (walk_at "sq"); (omega); (first | assumption | (simp only [List.length_map]; omega)); (intro _ _))
  | (with_reducible refine Rd.gsub ?_)
  | ((with_reducible apply Rd.setL); (walk_at "hp"); (rfl); ((dsimp only [List.set, L2.wipe, Int.reduceToNat]) <;> rfl))
  | ((with_reducible apply Rd.lenQ); (first | exact Or.inl (by walk_at "sq") | exact Or.inr (by walk_at "st")))
  | ((with_reducible apply Rd.listQ); (first | exact Or.inl (by walk_at "sq") | exact Or.inr (by walk_at "st")))
  | ((with_reducible apply Rd.tupQ); (walk_at "sq"))
  | ((with_reducible apply Rd.slL); (walk_at "sq"))
  | ((with_reducible apply Rd.ixT); (walk_at "st"); (rfl))
  | (with_reducible refine Rd.iteB (fun _ => ?_) (fun _ => ?_))
  | (with_reducible refine Rd.iteNB (fun _ => ?_) (fun _ => ?_))
  | (refine Rd.andI (Nat.le_of_ble_eq_true rfl) ?_)
  | dsimp only [List.set])
local macro_rules | `(tactic| walk_at "hp") => `(tactic| first
  | assumption
  | exact upd_same
  | (refine Eq.trans (upd_ne (by first | assumption | (apply Ne.symm; assumption))) ?_; walk_at "hp")
  | (refine hpS (by assumption) ?_; walk_at "hp"))
local macro_rules | `(tactic| walk_at "al") => `(tactic| (with_reducible intro l hl; generalize hG : upd _ l _ = G; have hs := newOne hl hG; clear hG; obtain ⟨hs, he⟩ := hs))
local macro_rules | `(tactic| walk_at "rd") => `(tactic| first
  | walk_at "al"
  | ((with_reducible apply Rd.cat); (walk_at "hp"); (walk_at "hp"); (exact Nat.le_of_ble_eq_true rfl)))
local macro_rules | `(tactic| walk_at "sm") => `(tactic| first
  | assumption
  | exact Same.refl _
  | (refine Same.trans ?_ (by assumption); walk_at "sm"))
local macro_rules | `(tactic| walk_at "fr") => `(tactic| first
  | assumption
  | (refine Same.free (by assumption) ?_; walk_at "fr"))
local macro_rules | `(tactic| walk_at "ty") => `(tactic| first
  | exact dv_ty (by assumption)
  | exact tyD' (by walk_at "hp"))
local macro_rules | `(tactic| walk_at "sz") => `(tactic| first
  | exact sz5 (by omega)
  | (simp only [add_len, one_len]; exact sz5 (by omega)))
local macro_rules | `(tactic| walk_at "rd") => `(tactic| first
  | with_reducible apply Rd.istr
  | with_reducible apply Rd.exstr
  | with_reducible apply Rd.leA
  | with_reducible apply Rd.leZz
  | with_reducible apply Rd.le0
  | with_reducible apply Rd.le9
  | with_reducible apply Rd.niZ
  | ((with_reducible apply Rd.lenZ); (walk_at "sz"))
  | ((with_reducible apply Rd.slZ); (walk_at "sz"))
  | ((with_reducible apply Rd.addZ); (walk_at "sz"))
  | with_reducible apply Rd.raiseX
  | with_reducible apply Rd.exone
  | with_reducible apply Rd.callS
  | with_reducible apply Rd.callP
  | with_reducible apply Rd.xsX
  | with_reducible apply Rd.dnewX
  | with_reducible apply Rd.tyZ)
section
variable {P : Program} {w : World} {K : PySem.W.Frag} {mg : Str → Option Value} {base : Heap} {D : Str → Addr}
/-- _law_full_list(store) -/
def spFullL (K : PySem.W.Frag) : Sp := fun vs H Q _ => ∃ (st c : Addr), vs = [.ref st] ∧ StoreAt H st c ∧ ∀ (L : Addr) (xs : List V) (H' : Hp), VOk K (del H' st) xs → xs.length ≤ 60 → H L = none → H' L = some (.lst xs) → Go st c H H' → Q (.ref L) H'
theorem go_del2 {st c L : Addr} {H H' : Hp} (g : Go st c H H') : Same (del (del H L) st) (del (del H' L) st) := del2_sub fun b o _ n e => g.keep b o n e
theorem del2_1 {st L : Addr} {H : Hp} : Same (del (del H L) st) (del H st) := fun b o e => del_mk (del_at e).1 (del_at (del_at e).2).2
theorem ok__law_full_list (F : Def K mg "_law_full_list" s__law_full_list P__law_full_list) (m_range : mg "range" = none) (C__law_take : Cal P w K mg base 1 "_law_take" P__law_take spTake) (C__law_pick : Cal P w K mg base 2 "_law_pick" P__law_pick (spPick K)) (C__law_names : Cal P w K mg base 3 "_law_names" P__law_names spNames) (C__law_new_name : Cal P w K mg base 4 "_law_new_name" P__law_new_name (spNewN K)) (C__law_not_name : Cal P w K mg base 5 "_law_not_name" P__law_not_name (spVal K)) : Cal P w K mg base 6 "_law_full_list" P__law_full_list (spFullL K) := by
  refine F.ok sc__law_full_list (fun vs H Q E h => ?_) (fun f cdv A outer s H vs Q E hr h => ?_)
  · obtain ⟨st, c, rfl, _⟩ := h
    rfl
  obtain ⟨st, c, rfl, hs, q⟩ := h
  refine ⟨_, (pss_cons (ps_set (i := 1) sc__law_full_list.nd rfl (Or.inl rfl) (pe_cal C__law_names hr (pa_cons (pv 0 (hd := nd_store) (hcd := nc_store)) (pa_cons pe_int pa_nil)) (hdb := nd__law_names)))
  (pss_cons (ps_for PassesOwn.never rfl (pi_range1 (by rfl) m_range (pa_cons (pe_cal C__law_take hr (pa_cons (pv 0 (hd := nd_store) (hcd := nc_store)) (pa_cons pe_int pa_nil)) (hdb := nd__law_take)) pa_nil)) (pg_name (i := 2) sc__law_full_list.nd rfl (Or.inl rfl)) (pss_cons (ps_set (i := 3) sc__law_full_list.nd rfl (Or.inl rfl) (pe_cal C__law_new_name hr (pa_cons (pv 0 (hd := nd_store) (hcd := nc_store)) (pa_cons (pv 1 (hd := nd_row) (hcd := nc_row)) pa_nil)) (hdb := nd__law_new_name)))
  (pss_cons (ps_set (i := 4) sc__law_full_list.nd rfl (Or.inl rfl) (pe_cal C__law_take hr (pa_cons (pv 0 (hd := nd_store) (hcd := nc_store)) (pa_cons pe_int pa_nil)) (hdb := nd__law_take)))
  (C8.pss_cut (ps_if (pt_cmpR op_eq (pv 4 (hd := nd_style) (hcd := nc_style)) pe_int (nomark _)) (pss_one (ps_set (i := 3) sc__law_full_list.nd rfl (Or.inl rfl) (pe_cal C__law_pick hr (pa_cons (pv 0 (hd := nd_store) (hcd := nc_store)) (pa_cons (pv 1 (hd := nd_row) (hcd := nc_row)) pa_nil)) (hdb := nd__law_pick)))) pss_nil)
  (C8.pss_cut (ps_if (pt_cmpR op_eq (pv 4 (hd := nd_style) (hcd := nc_style)) pe_int (nomark _)) (pss_one (ps_set (i := 3) sc__law_full_list.nd rfl (Or.inl rfl) (pe_cal C__law_not_name hr (pa_cons (pv 0 (hd := nd_store) (hcd := nc_store)) pa_nil) (hdb := nd__law_not_name)))) pss_nil)
  (pss_one (ps_expr (pe_bm PySem.F.plainAttrs_list PySem.F.slot_list_append PySem.F.type_list_append mt_append (pv 1 (hd := nd_row) (hcd := nc_row)) (pa_cons (pv 3 (hd := nd_more) (hcd := nc_more)) pa_nil)))))))))
  (pss_one (ps_ret (pv 1 (hd := nd_row) (hcd := nc_row)))))), ?_⟩
  refine Rd.at0 (σ := [some (.ref st), none, none, none, none]) rfl ?_
  repeat' (walk_at "rd")
  refine ⟨st, c, 32, rfl, hs, by decide, by decide, fun L zs H1 lz nm nd fL g1 eL => ?_⟩
  have nL := (hs.off fL).1
  have oL := hs.off fL
  repeat' (walk_at "rd")
  refine ⟨st, c, 3, rfl, g1.ok, by decide, fun n H2 n0 n1 g2 => ?_⟩
  repeat' (walk_at "rd")
  refine forR (fun i σ H' => ∃ (xs : List V) (v2 v3 v4 : Option V), σ = [some (.ref st), some (.ref L), v2, v3, v4] ∧ VOk K (del (del H' L) st) xs ∧ xs.length = 32 + i ∧ H' L = some (.lst xs) ∧ Go st c H H') ⟨_, none, none, none, rfl, VOk.strs (nms_sz nm), by rw [List.length_map]; omega, g2.keep _ _ nL eL, g1.trans g2⟩ ?_ ?_
  · rintro i σ H' hi ⟨xs, v2, v3, v4, rfl, vo, lx, eL, g⟩
    have hi : i < n.toNat := hi
    repeat' (walk_at "rd")
    refine ⟨st, c, L, xs, rfl, g.ok, nL, eL, vo.same del2_1, by omega, fun z H4 lz g4 => ?_⟩
    have eL4 := g4.keep _ _ nL eL
    repeat' (walk_at "rd")
    refine ⟨st, c, 3, rfl, g4.ok, by decide, fun sy H5 s0 s1 g5 => ?_⟩
    have eL5 := g5.keep _ _ nL eL4
    have g45 := (g.trans g4).trans g5
    have vo5 := (vo.same (go_del2 g4)).same (go_del2 (L := L) g5)
    repeat' (walk_at "rd")
    refine Rd.cut (fun σ' H' => ∃ v : V, σ' = [some (.ref st), some (.ref L), some (.int (0 + (i : Int))), some v, some (.int sy)] ∧ VOk K (del (del H' L) st) xs ∧ VOk K (del (del H' L) st) [v] ∧ H' L = some (.lst xs) ∧ Go st c H H') ?_ ?_
    · repeat' (walk_at "rd")
      · refine .inr ⟨st, c, L, xs, rfl, g45.ok, nL, .inl (.inl eL5), by omega, fun e => ?_, fun v H6 hv g6 => ?_⟩
        · rw [e] at lx
          simp at lx
          omega
        repeat' (walk_at "rd")
        have vo6 := vo5.same (go_del2 (L := L) g6)
        exact ⟨v, rfl, vo6, vo6.sub fun x hx => by rw [List.mem_singleton.mp hx]; exact hv, g6.keep _ _ nL eL5, g45.trans g6⟩
      · exact ⟨_, rfl, vo5, .one (.str z) (.str z) (sz_str (by omega)), eL5, g45⟩
    clear eL5 vo5 eL4 g45
    rintro σ' H5 ⟨v, rfl, vo5, ov, eL5, g45⟩
    repeat' (walk_at "rd")
    refine Rd.cut (fun σ' H' => ∃ v : V, σ' = [some (.ref st), some (.ref L), some (.int (0 + (i : Int))), some v, some (.int sy)] ∧ VOk K (del (del H' L) st) xs ∧ VOk K (del (del H' L) st) [v] ∧ H' L = some (.lst xs) ∧ Go st c H H') ?_ ?_
    · repeat' (walk_at "rd")
      · refine ⟨st, c, rfl, g45.ok, fun v' d H6 dv fd sz g6 => ?_⟩
        repeat' (walk_at "rd")
        have vo6 := vo5.same (go_del2 (L := L) g6)
        refine ⟨v', rfl, vo6, .one (dv_same (nw_del2 ?_ (store_has g45.ok) fun b o _ e => e) dv) fd sz, g6.keep _ _ nL eL5, g45.trans g6⟩
        rw [eL5]
        exact fun z => nomatch z
      · exact ⟨v, rfl, vo5, ov, eL5, g45⟩
    clear eL5 vo5 g45 ov v
    rintro σ' H5 ⟨v, rfl, vo5, ov, eL5, g45⟩
    repeat' (walk_at "rd")
    refine append eL5 (sz5' (by omega)) ?_
    repeat' (walk_at "rd")
    have sd : Same (del (del H5 L) st) (del (del (upd H5 L (.lst (xs ++ [v]))) L) st) := del2_sub fun b o n _ e => (upd_ne n).trans e
    exact ⟨_, _, _, _, rfl, (vo5.same sd).app (ov.same sd), by rw [List.length_append, lx]; rfl, upd_same, g45.write fL oL _⟩
  · rintro σ H' ⟨xs, v2, v3, v4, rfl, vo, lx, eL, g⟩
    repeat' (walk_at "rd")
    exact q L xs H' (vo.same del2_1) (by omega) fL eL g
/-- what is due: the first error of a list of houses, as its class and the value that it tells -/
abbrev dErr (c : Str) (d : PyData) : Option (Str × PyData) := some (c, d)
def dueD : List PyData → List Str → Option (Str × PyData)
  | [], _ => none
  | d :: ds, seen => match d with
    | .str z => if nmB z = false then dErr "BadName" (.str z) else if z ∈ seen then dErr "Taken" (.str z) else if 32 ≤ seen.length then dErr "TooMany" (.int 32) else dueD ds (seen ++ [z])
    | d => dErr "BadName" d
theorem due_not {d : PyData} {ds : List PyData} {seen : List Str} (h : nameD d = false) : dueD (d :: ds) seen = dErr "BadName" d := by
  cases d with
  | str z =>
    have h : nmB z = false := h
    unfold dueD
    dsimp only
    rw [if_pos h]
  | _ => rfl
theorem due_taken {z : Str} {ds : List PyData} {seen : List Str} (h : nmB z = true) (k : z ∈ seen) : dueD (.str z :: ds) seen = dErr "Taken" (.str z) := by
  unfold dueD
  dsimp only
  rw [if_neg (by rw [h]; exact Bool.noConfusion), if_pos k]
theorem due_many {z : Str} {ds : List PyData} {seen : List Str} (h : nmB z = true) (k : z ∉ seen) (l : 32 ≤ seen.length) : dueD (.str z :: ds) seen = dErr "TooMany" (.int 32) := by
  unfold dueD
  dsimp only
  rw [if_neg (by rw [h]; exact Bool.noConfusion), if_neg k, if_pos l]
theorem due_next {z : Str} {ds : List PyData} {seen : List Str} (h : nmB z = true) (k : z ∉ seen) (l : ¬ 32 ≤ seen.length) : dueD (.str z :: ds) seen = dueD ds (seen ++ [z]) := by
  rw [dueD]
  simp only [h, k, l, if_false, Bool.true_eq_false]
theorem inV_strs {z : Str} : ∀ {zs : List Str}, inV (.str z) (zs.map V.str) = decide (z ∈ zs)
  | [] => rfl
  | y :: zs => by
    have ih := inV_strs (z := z) (zs := zs)
    unfold inV at ih ⊢
    rw [List.map_cons, List.any_cons, ih]
    show ((y == z) || _) = _
    by_cases e : z = y
    · subst e
      simp
    · rw [Bool.eq_iff_iff]
      simp [e, Ne.symm e]
theorem flat_strs : ∀ zs : List Str, (zs.map V.str).all flatV = true
  | [] => rfl
  | z :: zs => by
    rw [List.map_cons, List.all_cons, flat_strs zs]
    rfl
theorem inS {H : Hp} {Q : VK} {z : Str} {p : Addr} {zs : List Str} (h : H p = some (.lst (zs.map V.str))) (q : Q (.bl (decide (z ∈ zs))) H) : rIn K false (.str z) (.ref p) H Q := by
  refine ⟨p, _, rfl, .inl (.inl (.inl h)), rfl, flat_strs zs, ?_⟩
  rw [if_neg Bool.false_ne_true, inV_strs]
  exact q
theorem niS {H : Hp} {Q : VK} {z : Str} {p : Addr} {zs : List Str} (h : SqL K H p (zs.map V.str)) (q : Q (.bl (!decide (z ∈ zs))) H) : rIn K true (.str z) (.ref p) H Q := by
  refine ⟨p, _, rfl, .inl h, rfl, flat_strs zs, ?_⟩
  rw [if_pos rfl, inV_strs]
  exact q
theorem va_at' {H : Hp} {xs : List V} {ds : List PyData} {i : Nat} {x : V} (h : DvAll K H xs ds) (e : xs[i]? = some x) : ∃ d, ds[i]? = some d ∧ Dv K H x d := by
  have lt : i < ds.length := by
    rw [← va_len h]
    exact (List.getElem?_eq_some_iff.mp e).1
  have e2 := List.getElem?_eq_getElem lt
  obtain ⟨v, ev, dv⟩ := va_at _ _ _ _ h e2
  rw [e] at ev
  cases ev
  exact ⟨_, e2, dv⟩
theorem drop_at {α : Type} {l : List α} {i : Nat} {x : α} (h : l[i]? = some x) : l.drop i = x :: l.drop (i + 1) := by
  obtain ⟨lt, e⟩ := List.getElem?_eq_some_iff.mp h
  rw [List.drop_eq_getElem_cons lt, e]
/-- _law_due_houses(row): None, or a new tuple -/
def spDueH (K : PySem.W.Frag) : Sp := fun vs H Q _ => ∃ (a : Addr) (xs : List V) (ds : List PyData), vs = [.ref a] ∧ H a = some (.lst xs) ∧ DvAll K H xs ds ∧ (∀ d ∈ ds, Sz d) ∧ xs.length ≤ 1000 ∧
  (dueD ds [] = none → ∀ H', Same H H' → Q .non H') ∧ ∀ code d, dueD ds [] = some (code, d) → ∀ t v H', Same H H' → H' t = some (.tup [.str code, v]) → Dv K H' v d → Q (.ref t) H'
theorem ok__law_due_houses (F : Def K mg "_law_due_houses" s__law_due_houses P__law_due_houses) (m_len : mg "len" = none) (C__law_is_name : Cal P w K mg base 1 "_law_is_name" P__law_is_name (spNamed K)) : Cal P w K mg base 2 "_law_due_houses" P__law_due_houses (spDueH K) := by
  refine F.ok sc__law_due_houses (fun vs H Q E h => ?_) (fun f cdv A outer s H vs Q E hr h => ?_)
  · obtain ⟨a, xs, ds, rfl, _⟩ := h
    rfl
  obtain ⟨a, xs, ds, rfl, ha, da, sz, hl, qn, qs⟩ := h
  refine ⟨_, (pss_cons (ps_set (i := 1) sc__law_due_houses.nd rfl (Or.inl rfl) (pe_lst pa_nil))
  (pss_cons (ps_for PassesOwn.never rfl (pi_list (pv 0 (hd := nd_row) (hcd := nc_row))) (pg_name (i := 2) sc__law_due_houses.nd rfl (Or.inl rfl)) (pss_cons (ps_if (pt_not (pt_val (pe_cal C__law_is_name hr (pa_cons (pv 2 (hd := nd_word) (hcd := nc_word)) pa_nil) (hdb := nd__law_is_name)))) (pss_one (ps_ret (pe_tup (pa_cons pe_str (pa_cons (pv 2 (hd := nd_word) (hcd := nc_word)) pa_nil))))) pss_nil)
  (pss_cons (ps_if (pt_cmpR op_in_seq (pv 2 (hd := nd_word) (hcd := nc_word)) (pv 1 (hd := nd_seen) (hcd := nc_seen)) (by rfl)) (pss_one (ps_ret (pe_tup (pa_cons pe_str (pa_cons (pv 2 (hd := nd_word) (hcd := nc_word)) pa_nil))))) pss_nil)
  (pss_cons (ps_if (pt_cmpR op_ge (pe_callB q_len (by rfl) m_len PySem.boot_len (pa_cons (pv 1 (hd := nd_seen) (hcd := nc_seen)) pa_nil) (hn := nn_len) (hdb := nd_len)) pe_int (nomark _)) (pss_one (ps_ret (pe_tup (pa_cons pe_str (pa_cons pe_int pa_nil))))) pss_nil)
  (pss_one (ps_expr (pe_bm PySem.F.plainAttrs_list PySem.F.slot_list_append PySem.F.type_list_append mt_append (pv 1 (hd := nd_seen) (hcd := nc_seen)) (pa_cons (pv 2 (hd := nd_word) (hcd := nc_word)) pa_nil))))))))
  (pss_one (ps_ret pe_non)))), ?_⟩
  refine Rd.at0 (σ := [some (.ref a), none, none]) rfl ?_
  have ld := va_len da
  repeat' (walk_at "rd")
  rename_i S nS G sG eG
  have nSa : S ≠ a := fun e => by
    rw [e, ha] at nS
    cases nS
  refine forL xs (fun i σ H' => ∃ (zs : List Str) (v2 : Option V), σ = [some (.ref a), some (.ref S), v2] ∧ Same H H' ∧ H' S = some (.lst (zs.map V.str)) ∧ zs.length ≤ 32 ∧ dueD ds [] = dueD (ds.drop i) zs) ⟨[], none, rfl, sG, eG, Nat.zero_le _, rfl⟩ (fun _ _ _ _ ⟨_, _, _, s, _⟩ => .inl (.inl (s _ _ ha))) ?_ ?_
  · rintro i x σ H' hx ⟨zs, v2, rfl, s', eS, lz, ed⟩
    obtain ⟨d, hd, dv⟩ := va_at' da hx
    rw [drop_at hd] at ed
    have szd := sz d (List.mem_of_getElem? hd)
    have dv' := dv_same s' dv
    repeat' (walk_at "rd")
    refine ⟨x, d, rfl, dv', szd, fun H2 s2 => ?_⟩
    have s02 := s'.trans s2
    have eS2 := s2 _ _ eS
    cases hn : nameD d with
    | false =>
      repeat' (walk_at "rd")
      rename_i l n G s e
      rw [due_not hn] at ed
      exact qs _ _ ed l x G (s02.trans s) e (dv_same (s2.trans s) dv')
    | true =>
      obtain ⟨z, rfl⟩ : ∃ z, d = .str z := by
        rcases str_cases d with h | ⟨h, _⟩
        · exact h
        · rw [hn] at h
          cases h
      cases dv
      have hn : nmB z = true := hn
      repeat' (walk_at "rd")
      refine inS eS2 ?_
      refine exbl ?_
      refine iteD (fun hz => ?_) (fun hz => ?_)
      · repeat' (walk_at "rd")
        rename_i l n G s e
        rw [due_taken hn hz] at ed
        exact qs _ _ ed l _ G (s02.trans s) e (.str z)
      · repeat' (walk_at "rd")
        · rename_i l n G s e
          rw [due_many hn hz (by rw [List.length_map] at *; omega)] at ed
          exact qs _ _ ed l _ G (s02.trans s) e (.int 32)
        · rw [due_next hn hz (by rw [List.length_map] at *; omega)] at ed
          refine append eS2 (by rw [List.length_map]; exact sz5' (by omega)) ?_
          repeat' (walk_at "rd")
          exact ⟨zs ++ [z], _, rfl, same_put s02 nS _, by rw [upd_same, List.map_append]; rfl, by rw [List.length_append]; show zs.length + 1 ≤ 32; rw [List.length_map] at *; omega, ed⟩
  · rintro σ H' ⟨zs, v2, rfl, s', eS, lz, ed⟩
    rw [List.drop_of_length_le (by omega)] at ed
    repeat' (walk_at "rd")
    exact qn ed H' s'
end
end Kj
namespace Kj
open PySem PySem.Spec PyProof.Rows L2 Rd
/-! ### the stepper -/
local macro_rules | `(tactic| walk_at "hp") => `(tactic| first
  | assumption
  | exact upd_same
  | (refine Eq.trans (upd_ne (by first | assumption | (apply Ne.symm; assumption))) ?_; walk_at "hp"))
local macro_rules | `(tactic| walk_at "sq") => `(tactic| first
  | assumption
  | (refine Or.inl (Or.inl ?_); walk_at "hp"))
local macro_rules | `(tactic| walk_at "st") => `(tactic| first
  | assumption
  | (refine Or.inl (Or.inl ?_); walk_at "hp"))
local macro_rules | `(tactic| walk_at "ar") => `(tactic| first
  | assumption
  | omega
  | decide)
local macro_rules | `(tactic| walk_at "ci") => `(tactic| first
  | (refine (show CMul _ _ from Or.inr ⟨?_, ?_⟩) <;> omega)
  | (refine (show CMul _ _ from Or.inl ⟨?_, ?_⟩) <;> omega)
  | (show CPow _ _; exact ⟨by decide, by decide, by decide⟩)
  | (refine wide_div (b := 63) ?_ ?_ (by decide) (by decide) <;> omega)
  | (show (0 : Int) < _; omega))
local macro_rules | `(tactic| walk_at "ty") => `(tactic| first
  | exact dp_ty (by assumption)
  | exact TyX.base (TyOf.int _)
  | exact TyX.base (TyOf.str _)
  | exact TyX.base (TyOf.bl _)
  | exact TyX.base TyOf.non
  | exact tyL' (by walk_at "sq")
  | exact tyT' (by walk_at "st"))
local macro_rules | `(tactic| walk_at "isi") => `(tactic| first
  | ((with_reducible apply Rd.isiF); (walk_at "ty"); (decide))
  | ((with_reducible apply Rd.isiT); (walk_at "ty"); (decide)))
local macro_rules | `(tactic| walk_at "rd") => `(tactic| first
  | with_reducible apply Rd.seq
  | ((with_reducible apply Rd.var); rfl)
  | with_reducible apply Rd.con
  | with_reducible apply Rd.op
  | with_reducible apply Rd.asg
  | ((with_reducible apply Rd.gname); ((dsimp only [List.set, L2.wipe, Int.reduceToNat]) <;> rfl))
  | with_reducible apply Rd.nxt
  | with_reducible apply Rd.ifs
  | with_reducible apply Rd.test
  | with_reducible apply Rd.testB
  | with_reducible apply Rd.exbl
  | with_reducible apply Rd.ret
  | with_reducible apply Rd.drop
  | with_reducible apply Rd.retN
  | with_reducible apply Rd.nil
  | with_reducible apply Rd.cons
  | with_reducible apply Rd.call
  | with_reducible apply Rd.cb
  | with_reducible apply Rd.and
  | with_reducible apply Rd.or
  | with_reducible apply Rd.not
  | with_reducible apply Rd.andV
  | with_reducible apply Rd.orV
  | with_reducible apply Rd.notV
  | with_reducible apply Rd.ife
  | with_reducible apply Rd.tup
  | with_reducible apply Rd.lst
  | with_reducible apply Rd.un
  | with_reducible apply Rd.chain
  | with_reducible apply Rd.brk
  | with_reducible apply Rd.cnt
  | with_reducible apply Rd.I0
  | with_reducible apply Rd.U1
  | ((with_reducible apply Rd.eq); rfl)
  | ((with_reducible apply Rd.ne); rfl)
  | ((with_reducible apply Rd.I1); (walk_at "ci"))
  | with_reducible apply Rd.lc0
  | with_reducible apply Rd.ln0
  | with_reducible apply Rd.exN
  | ((with_reducible apply Rd.iteSf); (decide +kernel))
  | ((with_reducible apply Rd.iteSt); (decide +kernel))
  | ((with_reducible apply Rd.niQ); (exact Or.inl (by walk_at "sq")); (exact ⟨rfl, rfl⟩); (rfl))
  | ((with_reducible apply Rd.inQ); (exact Or.inl (by walk_at "sq")); (exact ⟨rfl, rfl⟩); (rfl))
  | with_reducible apply Rd.rn1
  | with_reducible apply Rd.in1
  | with_reducible apply Rd.sn1
  | with_reducible apply Rd.bn1
  | with_reducible apply Rd.nn1
  | with_reducible apply Rd.rn2
  | with_reducible apply Rd.in2
  | with_reducible apply Rd.sn2
  | with_reducible apply Rd.bn2
  | with_reducible apply Rd.nn2
  | with_reducible apply Rd.nt1
  | with_reducible apply Rd.nf1
  | (with_reducible refine Rd.iteI (fun _ => ?_) (fun _ => ?_))
  | (with_reducible refine Rd.iteNI (fun _ => ?_) (fun _ => ?_))
  | (with_reducible refine iteT ?_)
  | (with_reducible refine iteF ?_)
  | (with_reducible refine Rd.iteD (fun _ => ?_) (fun _ => ?_))
  | (with_reducible refine Rd.iteN (fun _ => ?_) (fun _ => ?_))
  | with_reducible apply Rd.intI
  | with_reducible apply Rd.intB
  | with_reducible apply Rd.maxQ
  | with_reducible apply Rd.minQ
  | with_reducible apply Rd.absQ
  | with_reducible apply Rd.isN
  | with_reducible apply Rd.noN
  | with_reducible apply Rd.ltZ
  | with_reducible apply Rd.bm
  | with_reducible apply Rd.bm0
  | with_reducible apply Rd.par
  | with_reducible apply Rd.expar
  | with_reducible apply Rd.exint
  | with_reducible apply Rd.ipi
  | with_reducible apply Rd.slice
  | with_reducible apply Rd.noPart
  | with_reducible apply Rd.part
  | with_reducible apply Rd.gcons
  | with_reducible apply Rd.gnil
  | with_reducible apply Rd.iseq
  | with_reducible apply Rd.irng1
  | walk_at "isi"
  | with_reducible apply Rd.forX
  | with_reducible apply Rd.lstRev
  | with_reducible apply Rd.lstRg
  | with_reducible apply Rd.rg1
  | with_reducible apply Rd.rg2
  | with_reducible apply Rd.exint2
  | ((with_reducible apply Rd.exrev); (walk_at "sq"))
  | with_reducible apply Rd.lcX
  | with_reducible apply Rd.yes
  | ((with_reducible apply Rd.exrng1); (constructor <;> omega))
  | ((with_reducible apply Rd.exrng2); (refine ⟨?_, ?_, ?_, ?_⟩ <;> omega))
  | with_reducible apply Rd.irng2
  | ((with_reducible apply Rd.aug); rfl)
  | ((with_reducible apply Rd.exlst); (walk_at "sq"))
  | ((with_reducible apply Rd.gtup); (walk_at "st"); (rfl))
  | ((with_reducible apply Rd.tyL); (walk_at "hp"))
  | ((with_reducible apply Rd.ixL); (walk_at "sq"); (rfl))
  | ((with_reducible apply Rd.ixI); (walk_at "sq"); (omega); (first | assumption | (simp only [List.length_map]; omega)); (intro _ _))
  | (with_reducible refine Rd.gsub ?_)
  | ((with_reducible apply Rd.setL); (walk_at "hp"); (rfl); ((dsimp only [List.set, L2.wipe, Int.reduceToNat]) <;> rfl))
  | ((with_reducible apply Rd.lenQ); (first | exact Or.inl (by walk_at "sq") | exact Or.inr (by walk_at "st")))
  | ((with_reducible apply Rd.listQ); (first | exact Or.inl (by walk_at "sq") | exact Or.inr (by walk_at "st")))
  | ((with_reducible apply Rd.tupQ); (walk_at "sq"))
  | ((with_reducible apply Rd.slL); (walk_at "sq"))
  | ((with_reducible apply Rd.ixT); (walk_at "st"); (rfl))
  | (with_reducible refine Rd.iteB (fun _ => ?_) (fun _ => ?_))
  | (with_reducible refine Rd.iteNB (fun _ => ?_) (fun _ => ?_))
  | (refine Rd.andI (Nat.le_of_ble_eq_true rfl) ?_)
  | dsimp only [List.set])
local macro_rules | `(tactic| walk_at "hp") => `(tactic| first
  | assumption
  | exact upd_same
  | (refine Eq.trans (upd_ne (by first | assumption | (apply Ne.symm; assumption))) ?_; walk_at "hp")
  | (refine hpS (by assumption) ?_; walk_at "hp"))
local macro_rules | `(tactic| walk_at "al") => `(tactic| (with_reducible intro l hl; generalize hG : upd _ l _ = G; have hs := newOne hl hG; clear hG; obtain ⟨hs, he⟩ := hs))
local macro_rules | `(tactic| walk_at "rd") => `(tactic| first
  | walk_at "al"
  | ((with_reducible apply Rd.cat); (walk_at "hp"); (walk_at "hp"); (exact Nat.le_of_ble_eq_true rfl)))
local macro_rules | `(tactic| walk_at "sm") => `(tactic| first
  | assumption
  | exact Same.refl _
  | (refine Same.trans ?_ (by assumption); walk_at "sm"))
local macro_rules | `(tactic| walk_at "fr") => `(tactic| first
  | assumption
  | (refine Same.free (by assumption) ?_; walk_at "fr"))
local macro_rules | `(tactic| walk_at "ty") => `(tactic| first
  | exact dv_ty (by assumption)
  | exact tyD' (by walk_at "hp"))
local macro_rules | `(tactic| walk_at "sz") => `(tactic| first
  | exact sz5 (by omega)
  | (simp only [add_len, one_len]; exact sz5 (by omega)))
local macro_rules | `(tactic| walk_at "rd") => `(tactic| first
  | with_reducible apply Rd.istr
  | with_reducible apply Rd.exstr
  | with_reducible apply Rd.leA
  | with_reducible apply Rd.leZz
  | with_reducible apply Rd.le0
  | with_reducible apply Rd.le9
  | with_reducible apply Rd.niZ
  | ((with_reducible apply Rd.lenZ); (walk_at "sz"))
  | ((with_reducible apply Rd.slZ); (walk_at "sz"))
  | ((with_reducible apply Rd.addZ); (walk_at "sz"))
  | with_reducible apply Rd.raiseX
  | with_reducible apply Rd.exone
  | with_reducible apply Rd.callS
  | with_reducible apply Rd.callP
  | with_reducible apply Rd.xsX
  | with_reducible apply Rd.dnewX
  | with_reducible apply Rd.tyZ)
section
variable {P : Program} {w : World} {K : PySem.W.Frag} {mg : Str → Option Value} {base : Heap} {D : Str → Addr}
/-- houses at g: a list or a tuple -/
def At (H : Hp) (g : Addr) (xs : List V) : Prop := H g = some (.lst xs) ∨ H g = some (.tup xs)
theorem At.same {H H' : Hp} {g : Addr} {xs : List V} (h : At H g xs) (s : Same H H') : At H' g xs := h.imp (s _ _) (s _ _)
def fldOf (code : Str) : Str := if code = "TooMany" then "bound" else "word"
/-- check_houses(houses): a new sorted list, or the first error -/
def spCheckH (K : PySem.W.Frag) (D : Str → Addr) : Sp := fun vs H Q E => ∃ (g : Addr) (xs : List V) (ds : List PyData), vs = [.ref g] ∧ At H g xs ∧ DvAll K H xs ds ∧ (∀ d ∈ ds, Sz d) ∧ xs.length ≤ 1000 ∧
  (dueD ds [] = none → ∀ L zs ys H', xs = zs.map V.str → zs.Nodup → zs.length ≤ 32 → ys.Perm zs → sortedS ys = true → H L = none → Same H H' → H' L = some (.lst (ys.map V.str)) → Q (.ref L) H') ∧
  ∀ code d, dueD ds [] = some (code, d) → ∀ dd v H', H dd = none → Same H H' → Dv K H' v d → H' dd = some (.xd [(fldOf code, v), ("code", .str code)]) → E (.ref (D code)) (some dd) H'
theorem raiseX2 {C : Addr} {x f : Str} {W : WX} {ta : TA} {D : Ends} {σ : L2.St} {H : Hp} (h : ta σ H fun vs H1 => ∃ y, vs = [y] ∧ ∀ d, H1 d = none → W (.ref C) (some d) σ (upd H1 d (.xd [(f, y), ("code", .str x)]))) : Ho.tRaise C x f W ta D σ H := h
theorem dinX {td : TE} {σ : L2.St} {ty : TE} {H : Hp} {Q : VK} (h : ty σ H fun y H1 => td σ H1 fun x H2 => ∃ a o, x = .ref a ∧ DGet H2 a y o ∧ Q (.bl o.isSome) H2) : tDIn ty td σ H Q := h
theorem dinK {H : Hp} {Q : VK} {a : Addr} {ks : List Str} {f : Str → V} {z : Str} (h : H a = some (.dK (kd ks f))) (q : Q (.bl (decide (z ∈ ks))) H) : ∃ a' o, V.ref a = .ref a' ∧ DGet H a' (.str z) o ∧ Q (.bl o.isSome) H := by
  by_cases m : z ∈ ks
  · exact ⟨a, _, rfl, .inl ⟨_, Sum.inr z, .inl h, rfl, (kd_get m).symm⟩, by rw [decide_eq_true m] at q; exact q⟩
  · exact ⟨a, _, rfl, .inl ⟨_, Sum.inr z, .inl h, rfl, (kd_none m).symm⟩, by rw [decide_eq_false m] at q; exact q⟩
theorem dinB {H : Hp} {P' : Bool → Prop} {a : Addr} {ks : List Str} {f : Str → V} {z : Str} (h : H a = some (.dK (kd ks f))) (q : P' (decide (z ∈ ks))) : ∃ a' o, V.ref a = .ref a' ∧ DGet H a' (.str z) o ∧ ∃ k, V.bl o.isSome = V.bl k ∧ P' k := by
  by_cases m : z ∈ ks
  · exact ⟨a, _, rfl, .inl ⟨_, Sum.inr z, .inl h, rfl, (kd_get m).symm⟩, _, rfl, by rw [decide_eq_true m] at q; exact q⟩
  · exact ⟨a, _, rfl, .inl ⟨_, Sum.inr z, .inl h, rfl, (kd_none m).symm⟩, _, rfl, by rw [decide_eq_false m] at q; exact q⟩
theorem dnewX {σ : L2.St} {H : Hp} {Q : VK} (h : ∀ p, H p = none → Q (.ref p) (upd H p (.dK []))) : tDNewK σ H Q := h
local macro_rules | `(tactic| walk_at "rd") => `(tactic| first
  | with_reducible apply Kj.dnewX
  | with_reducible apply Kj.dinX
  | with_reducible apply Rd.itup
  | ((with_reducible apply Rd.extup); (walk_at "st")))
theorem forT {g : TG} {tb : TS} {σ : L2.St} {H : Hp} {n b c : L2.St → Hp → Prop} {rr : VK} {a : Addr} (xs : List V) (Pv : Nat → L2.St → Hp → Prop) (h0 : Pv 0 σ H) (hl : ∀ i σ H, i ≤ xs.length → Pv i σ H → SqT K H a xs)
    (hs : ∀ i x σ H, xs[i]? = some x → Pv i σ H → g x σ H fun σ2 H2 => tb ⟨Pv (i + 1), rr, n, Pv (i + 1)⟩ σ2 H2) (hd : ∀ σ H, Pv xs.length σ H → n σ H) : ForB (Itt K a) g tb ⟨n, rr, b, c⟩ σ H :=
  for_tup (D := ⟨n, rr, b, c⟩) Pv h0 hl hs hd
theorem dv_all_strs {H : Hp} : ∀ {xs : List V} {zs : List Str}, DvAll K H xs (zs.map PyData.str) → xs = zs.map V.str
  | _, [], .nil => rfl
  | _, z :: zs, .cons (.str _) t => by rw [List.map_cons, dv_all_strs t]
theorem fld1 : fldOf "BadName" = "word" := by decide +kernel
theorem fld2 : fldOf "Taken" = "word" := by decide +kernel
theorem fld3 : fldOf "TooMany" = "bound" := by decide +kernel
theorem ok_check_houses (F : Def K mg "check_houses" s_check_houses P_check_houses) (m_len : mg "len" = none) (m_sorted : mg "sorted" = none) (m_list : mg "list" = none) (c_MOST_HOUSES : ∃ t, mg "MOST_HOUSES" = some (.int 32 t)) (T_Taken : Ho.ErrC P w K mg base "Taken" (D "Taken") "word") (T_TooMany : Ho.ErrC P w K mg base "TooMany" (D "TooMany") "bound") (C_check_name : Ho.CalN P w K mg base 3 "check_name" P_check_name (spCheckN K D)) : Ho.CalN P w K mg base 4 "check_houses" P_check_houses (spCheckH K D) := by
  refine Ho.defN F sc_check_houses (fun vs H Q E h => ?_) (fun f cdv A outer s H vs Q E hr h => ?_)
  · obtain ⟨g, xs, ds, rfl, _⟩ := h
    rfl
  obtain ⟨g, xs, ds, rfl, ha | ha, da, sz, hl, qn, qs⟩ := h
  · refine ⟨_, (pss_cons (ps_set (i := 1) sc_check_houses.nd rfl (Or.inl rfl) pe_dnewK)
  (pss_cons (ps_for (passes_of rfl) rfl (pi_list (pv 0 (hd := nd_houses) (hcd := nc_houses))) (pg_name (i := 2) sc_check_houses.nd rfl (Or.inl rfl)) (pss_cons (ps_expr (Ho.pe_calN C_check_name (L2N.takes_of rfl rfl rfl rfl) hr (pa_cons (pv 2 (hd := nd_house) (hcd := nc_house)) pa_nil)))
  (pss_cons (ps_if (pt_cmp (pc_din (un1 hr) (pv 2 (hd := nd_house) (hcd := nc_house)) (pv 1 (hd := nd_made) (hcd := nc_made)))) (pss_one (Ho.ps_err rfl T_Taken hr (L2N.takes_of rfl rfl rfl rfl) (pa_cons (pv 2 (hd := nd_house) (hcd := nc_house)) pa_nil) (by first | exact Ho.up_v | exact Ho.up_c))) pss_nil)
  (pss_cons (ps_if (pt_cmpR op_ge (pe_callB (q_lenAK (K := K) rfl) (by rfl) m_len PySem.boot_len (pa_cons (pv 1 (hd := nd_made) (hcd := nc_made)) pa_nil) (hn := nn_len) (hdb := nd_len)) (Ho.pe_const (v := 32) c_MOST_HOUSES (by rfl)) (nomark _)) (pss_one (Ho.ps_err rfl T_TooMany hr (L2N.takes_of rfl rfl rfl rfl) (pa_cons (Ho.pe_const (v := 32) c_MOST_HOUSES (by rfl)) pa_nil) (by first | exact Ho.up_v | exact Ho.up_c))) pss_nil)
  (pss_one (ps_asg pe_bl (pg_sub (pv 1 (hd := nd_made) (hcd := nc_made)) (pv 2 (hd := nd_house) (hcd := nc_house)) (set_dict (un1 hr)))))))))
  (pss_one (ps_ret (pe_callB (q_sortedSK (K := K) rfl) (by rfl) m_sorted bb_sorted (pa_cons (pe_callTy (q_listDk rfl) (by rfl) m_list bb_list (pa_cons (pv 1 (hd := nd_made) (hcd := nc_made)) pa_nil) (hn := nn_list) (hdb := nd_list)) pa_nil) (hn := nn_sorted) (hdb := nd_sorted)))))), ?_⟩
    refine Rd.at0 (σ := [some (.ref g), none, none]) rfl ?_
    -- forL: the term's own loop lemma
    have ld := va_len da
    repeat' (walk_at "rd")
    rename_i M nM G sG eG
    have nMg : M ≠ g := fun e => by
      rw [e, ha] at nM
      cases nM
    have eG : G M = some (.dK (kd ([] : List Str) fun _ => .bl true)) := eG
    refine forL xs (fun i σ H' => ∃ (zs : List Str) (v2 : Option V), σ = [some (.ref g), some (.ref M), v2] ∧ Same H H' ∧ H' M = some (.dK (kd zs fun _ => .bl true)) ∧ zs.length ≤ 32 ∧ zs.Nodup ∧ ds.take i = zs.map PyData.str ∧ dueD ds [] = dueD (ds.drop i) zs) ⟨[], none, rfl, sG, eG, Nat.zero_le _, .nil, rfl, rfl⟩ (fun _ _ _ _ ⟨_, _, _, s, _⟩ => .inl (.inl (s _ _ ha))) ?_ ?_
    · rintro i x σ H' hx ⟨zs, v2, rfl, s', eM, lz, nd, et, ed⟩
      obtain ⟨d, hd, dv⟩ := va_at' da hx
      rw [drop_at hd] at ed
      have szd := sz d (List.mem_of_getElem? hd)
      have dv' := dv_same s' dv
      repeat' (walk_at "rd")
      refine ⟨x, d, rfl, dv', szd, fun hn H2 s2 => ?_, fun hn dd H3 n3 s3 e3 => ?_⟩
      · have s02 := s'.trans s2
        have eM2 := s2 _ _ eM
        obtain ⟨z, rfl⟩ : ∃ z, d = .str z := by
          rcases str_cases d with h | ⟨h, _⟩
          · exact h
          · rw [hn] at h
            cases h
        cases dv
        have hn : nmB z = true := hn
        repeat' (walk_at "rd")
        refine dinB eM2 ?_
        refine iteD (fun hz => ?_) (fun hz => ?_)
        · rw [due_taken hn hz] at ed
          repeat' (walk_at "rd")
          rename_i l n G2 s e
          exact qs _ _ ed l (.str z) G2 (s02.free n) (s02.trans s) (.str z) (by rw [fld2]; exact e)
        · repeat' (walk_at "rd")
          refine lenAd eM2 ?_
          rw [kd_len]
          repeat' (walk_at "rd")
          · rename_i l n G2 s e
            rw [due_many hn hz (by omega)] at ed
            exact qs _ _ ed l (.int 32) G2 (s02.free n) (s02.trans s) (.int 32) (by rw [fld3]; exact e)
          · rw [due_next hn hz (by omega)] at ed
            refine dnewK eM2 hz (by omega) ?_
            rw [kd_congr (g := fun _ => .bl true) (fun y _ => by split <;> rfl)]
            repeat' (walk_at "rd")
            refine ⟨zs ++ [z], _, rfl, same_put s02 nM _, upd_same, by rw [List.length_append]; show zs.length + 1 ≤ 32; omega, List.nodup_append.mpr ⟨nd, List.nodup_cons.mpr ⟨List.not_mem_nil, .nil⟩, fun a ha b hb e => hz (by rw [List.mem_singleton.mp hb] at e; rw [← e]; exact ha)⟩, ?_, ed⟩
            rw [List.take_add_one, hd, et, List.map_append]
            rfl
      · rw [due_not hn] at ed
        exact qs _ _ ed dd x H3 (s'.free n3) (s'.trans s3) (dv_same s3 dv') (by rw [fld1]; exact e3)
    · rintro σ H' ⟨zs, v2, rfl, s', eM, lz, nd, et, ed⟩
      rw [List.drop_of_length_le (by omega)] at ed
      rw [List.take_of_length_le (by omega)] at et
      have ex : xs = zs.map V.str := dv_all_strs (by rw [← et]; exact da)
      repeat' (walk_at "rd")
      refine listDkd eM fun L1 hL1 => ?_
      repeat' (walk_at "rd")
      refine ⟨L1, zs, rfl, .inl (.inl upd_same), by omega, fun ys p pm sy np => ?_⟩
      exact qn ed p zs ys _ ex nd lz pm sy (s'.free ((same_upd hL1).free np)) ((s'.trans (same_upd hL1)).trans (same_upd np)) upd_same
  · refine ⟨_, (pss_cons (ps_set (i := 1) sc_check_houses.nd rfl (Or.inl rfl) pe_dnewK)
  (pss_cons (ps_for (passes_of rfl) rfl (pi_tup (pv 0 (hd := nd_houses) (hcd := nc_houses))) (pg_name (i := 2) sc_check_houses.nd rfl (Or.inl rfl)) (pss_cons (ps_expr (Ho.pe_calN C_check_name (L2N.takes_of rfl rfl rfl rfl) hr (pa_cons (pv 2 (hd := nd_house) (hcd := nc_house)) pa_nil)))
  (pss_cons (ps_if (pt_cmp (pc_din (un1 hr) (pv 2 (hd := nd_house) (hcd := nc_house)) (pv 1 (hd := nd_made) (hcd := nc_made)))) (pss_one (Ho.ps_err rfl T_Taken hr (L2N.takes_of rfl rfl rfl rfl) (pa_cons (pv 2 (hd := nd_house) (hcd := nc_house)) pa_nil) (by first | exact Ho.up_v | exact Ho.up_c))) pss_nil)
  (pss_cons (ps_if (pt_cmpR op_ge (pe_callB (q_lenAK (K := K) rfl) (by rfl) m_len PySem.boot_len (pa_cons (pv 1 (hd := nd_made) (hcd := nc_made)) pa_nil) (hn := nn_len) (hdb := nd_len)) (Ho.pe_const (v := 32) c_MOST_HOUSES (by rfl)) (nomark _)) (pss_one (Ho.ps_err rfl T_TooMany hr (L2N.takes_of rfl rfl rfl rfl) (pa_cons (Ho.pe_const (v := 32) c_MOST_HOUSES (by rfl)) pa_nil) (by first | exact Ho.up_v | exact Ho.up_c))) pss_nil)
  (pss_one (ps_asg pe_bl (pg_sub (pv 1 (hd := nd_made) (hcd := nc_made)) (pv 2 (hd := nd_house) (hcd := nc_house)) (set_dict (un1 hr)))))))))
  (pss_one (ps_ret (pe_callB (q_sortedSK (K := K) rfl) (by rfl) m_sorted bb_sorted (pa_cons (pe_callTy (q_listDk rfl) (by rfl) m_list bb_list (pa_cons (pv 1 (hd := nd_made) (hcd := nc_made)) pa_nil) (hn := nn_list) (hdb := nd_list)) pa_nil) (hn := nn_sorted) (hdb := nd_sorted)))))), ?_⟩
    refine Rd.at0 (σ := [some (.ref g), none, none]) rfl ?_
    -- forT: the term's own loop lemma
    have ld := va_len da
    repeat' (walk_at "rd")
    rename_i M nM G sG eG
    have nMg : M ≠ g := fun e => by
      rw [e, ha] at nM
      cases nM
    have eG : G M = some (.dK (kd ([] : List Str) fun _ => .bl true)) := eG
    refine forT xs (fun i σ H' => ∃ (zs : List Str) (v2 : Option V), σ = [some (.ref g), some (.ref M), v2] ∧ Same H H' ∧ H' M = some (.dK (kd zs fun _ => .bl true)) ∧ zs.length ≤ 32 ∧ zs.Nodup ∧ ds.take i = zs.map PyData.str ∧ dueD ds [] = dueD (ds.drop i) zs) ⟨[], none, rfl, sG, eG, Nat.zero_le _, .nil, rfl, rfl⟩ (fun _ _ _ _ ⟨_, _, _, s, _⟩ => .inl (.inl (s _ _ ha))) ?_ ?_
    · rintro i x σ H' hx ⟨zs, v2, rfl, s', eM, lz, nd, et, ed⟩
      obtain ⟨d, hd, dv⟩ := va_at' da hx
      rw [drop_at hd] at ed
      have szd := sz d (List.mem_of_getElem? hd)
      have dv' := dv_same s' dv
      repeat' (walk_at "rd")
      refine ⟨x, d, rfl, dv', szd, fun hn H2 s2 => ?_, fun hn dd H3 n3 s3 e3 => ?_⟩
      · have s02 := s'.trans s2
        have eM2 := s2 _ _ eM
        obtain ⟨z, rfl⟩ : ∃ z, d = .str z := by
          rcases str_cases d with h | ⟨h, _⟩
          · exact h
          · rw [hn] at h
            cases h
        cases dv
        have hn : nmB z = true := hn
        repeat' (walk_at "rd")
        refine dinB eM2 ?_
        refine iteD (fun hz => ?_) (fun hz => ?_)
        · rw [due_taken hn hz] at ed
          repeat' (walk_at "rd")
          rename_i l n G2 s e
          exact qs _ _ ed l (.str z) G2 (s02.free n) (s02.trans s) (.str z) (by rw [fld2]; exact e)
        · repeat' (walk_at "rd")
          refine lenAd eM2 ?_
          rw [kd_len]
          repeat' (walk_at "rd")
          · rename_i l n G2 s e
            rw [due_many hn hz (by omega)] at ed
            exact qs _ _ ed l (.int 32) G2 (s02.free n) (s02.trans s) (.int 32) (by rw [fld3]; exact e)
          · rw [due_next hn hz (by omega)] at ed
            refine dnewK eM2 hz (by omega) ?_
            rw [kd_congr (g := fun _ => .bl true) (fun y _ => by split <;> rfl)]
            repeat' (walk_at "rd")
            refine ⟨zs ++ [z], _, rfl, same_put s02 nM _, upd_same, by rw [List.length_append]; show zs.length + 1 ≤ 32; omega, List.nodup_append.mpr ⟨nd, List.nodup_cons.mpr ⟨List.not_mem_nil, .nil⟩, fun a ha b hb e => hz (by rw [List.mem_singleton.mp hb] at e; rw [← e]; exact ha)⟩, ?_, ed⟩
            rw [List.take_add_one, hd, et, List.map_append]
            rfl
      · rw [due_not hn] at ed
        exact qs _ _ ed dd x H3 (s'.free n3) (s'.trans s3) (dv_same s3 dv') (by rw [fld1]; exact e3)
    · rintro σ H' ⟨zs, v2, rfl, s', eM, lz, nd, et, ed⟩
      rw [List.drop_of_length_le (by omega)] at ed
      rw [List.take_of_length_le (by omega)] at et
      have ex : xs = zs.map V.str := dv_all_strs (by rw [← et]; exact da)
      repeat' (walk_at "rd")
      refine listDkd eM fun L1 hL1 => ?_
      repeat' (walk_at "rd")
      refine ⟨L1, zs, rfl, .inl (.inl upd_same), by omega, fun ys p pm sy np => ?_⟩
      exact qn ed p zs ys _ ex nd lz pm sy (s'.free ((same_upd hL1).free np)) ((s'.trans (same_upd hL1)).trans (same_upd np)) upd_same
end
end Kj
namespace Kj
open PySem PySem.Spec PyProof.Rows L2 Rd
/-! ### the stepper -/
local macro_rules | `(tactic| walk_at "hp") => `(tactic| first
  | assumption
  | exact upd_same
  | (refine Eq.trans (upd_ne (by first | assumption | (apply Ne.symm; assumption))) ?_; walk_at "hp"))
local macro_rules | `(tactic| walk_at "sq") => `(tactic| first
  | assumption
  | (refine Or.inl (Or.inl ?_); walk_at "hp"))
local macro_rules | `(tactic| walk_at "st") => `(tactic| first
  | assumption
  | (refine Or.inl (Or.inl ?_); walk_at "hp"))
local macro_rules | `(tactic| walk_at "ar") => `(tactic| first
  | assumption
  | omega
  | decide)
local macro_rules | `(tactic| walk_at "ci") => `(tactic| first
  | (refine (show CMul _ _ from Or.inr ⟨?_, ?_⟩) <;> omega)
  | (refine (show CMul _ _ from Or.inl ⟨?_, ?_⟩) <;> omega)
  | (show CPow _ _; exact ⟨by decide, by decide, by decide⟩)
  | (refine wide_div (b := 63) ?_ ?_ (by decide) (by decide) <;> omega)
  | (show (0 : Int) < _; omega))
local macro_rules | `(tactic| walk_at "ty") => `(tactic| first
  | exact dp_ty (by assumption)
  | exact TyX.base (TyOf.int _)
  | exact TyX.base (TyOf.str _)
  | exact TyX.base (TyOf.bl _)
  | exact TyX.base TyOf.non
  | exact tyL' (by walk_at "sq")
  | exact tyT' (by walk_at "st"))
local macro_rules | `(tactic| walk_at "isi") => `(tactic| first
  | ((with_reducible apply Rd.isiF); (walk_at "ty"); (decide))
  | ((with_reducible apply Rd.isiT); (walk_at "ty"); (decide)))
local macro_rules | `(tactic| walk_at "rd") => `(tactic| first
  | with_reducible apply Rd.seq
  | ((with_reducible apply Rd.var); rfl)
  | with_reducible apply Rd.con
  | with_reducible apply Rd.op
  | with_reducible apply Rd.asg
  | ((with_reducible apply Rd.gname); ((dsimp only [List.set, L2.wipe, Int.reduceToNat]) <;> rfl))
  | with_reducible apply Rd.nxt
  | with_reducible apply Rd.ifs
  | with_reducible apply Rd.test
  | with_reducible apply Rd.testB
  | with_reducible apply Rd.exbl
  | with_reducible apply Rd.ret
  | with_reducible apply Rd.drop
  | with_reducible apply Rd.retN
  | with_reducible apply Rd.nil
  | with_reducible apply Rd.cons
  | with_reducible apply Rd.call
  | with_reducible apply Rd.cb
  | with_reducible apply Rd.and
  | with_reducible apply Rd.or
  | with_reducible apply Rd.not
  | with_reducible apply Rd.andV
  | with_reducible apply Rd.orV
  | with_reducible apply Rd.notV
  | with_reducible apply Rd.ife
  | with_reducible apply Rd.tup
  | with_reducible apply Rd.lst
  | with_reducible apply Rd.un
  | with_reducible apply Rd.chain
  | with_reducible apply Rd.brk
  | with_reducible apply Rd.cnt
  | with_reducible apply Rd.I0
  | with_reducible apply Rd.U1
  | ((with_reducible apply Rd.eq); rfl)
  | ((with_reducible apply Rd.ne); rfl)
  | ((with_reducible apply Rd.I1); (walk_at "ci"))
  | with_reducible apply Rd.lc0
  | with_reducible apply Rd.ln0
  | with_reducible apply Rd.exN
  | ((with_reducible apply Rd.iteSf); (decide +kernel))
  | ((with_reducible apply Rd.iteSt); (decide +kernel))
  | ((with_reducible apply Rd.niQ); (exact Or.inl (by walk_at "sq")); (exact ⟨rfl, rfl⟩); (rfl))
  | ((with_reducible apply Rd.inQ); (exact Or.inl (by walk_at "sq")); (exact ⟨rfl, rfl⟩); (rfl))
  | with_reducible apply Rd.rn1
  | with_reducible apply Rd.in1
  | with_reducible apply Rd.sn1
  | with_reducible apply Rd.bn1
  | with_reducible apply Rd.nn1
  | with_reducible apply Rd.rn2
  | with_reducible apply Rd.in2
  | with_reducible apply Rd.sn2
  | with_reducible apply Rd.bn2
  | with_reducible apply Rd.nn2
  | with_reducible apply Rd.nt1
  | with_reducible apply Rd.nf1
  | (with_reducible refine Rd.iteI (fun _ => ?_) (fun _ => ?_))
  | (with_reducible refine Rd.iteNI (fun _ => ?_) (fun _ => ?_))
  | (with_reducible refine iteT ?_)
  | (with_reducible refine iteF ?_)
  | (with_reducible refine Rd.iteD (fun _ => ?_) (fun _ => ?_))
  | (with_reducible refine Rd.iteN (fun _ => ?_) (fun _ => ?_))
  | with_reducible apply Rd.intI
  | with_reducible apply Rd.intB
  | with_reducible apply Rd.maxQ
  | with_reducible apply Rd.minQ
  | with_reducible apply Rd.absQ
  | with_reducible apply Rd.isN
  | with_reducible apply Rd.noN
  | with_reducible apply Rd.ltZ
  | with_reducible apply Rd.bm
  | with_reducible apply Rd.bm0
  | with_reducible apply Rd.par
  | with_reducible apply Rd.expar
  | with_reducible apply Rd.exint
  | with_reducible apply Rd.ipi
  | with_reducible apply Rd.slice
  | with_reducible apply Rd.noPart
  | with_reducible apply Rd.part
  | with_reducible apply Rd.gcons
  | with_reducible apply Rd.gnil
  | with_reducible apply Rd.iseq
  | with_reducible apply Rd.irng1
  | walk_at "isi"
  | with_reducible apply Rd.forX
  | with_reducible apply Rd.lstRev
  | with_reducible apply Rd.lstRg
  | with_reducible apply Rd.rg1
  | with_reducible apply Rd.rg2
  | with_reducible apply Rd.exint2
  | ((with_reducible apply Rd.exrev); (walk_at "sq"))
  | with_reducible apply Rd.lcX
  | with_reducible apply Rd.yes
  | ((with_reducible apply Rd.exrng1); (constructor <;> omega))
  | ((with_reducible apply Rd.exrng2); (refine ⟨?_, ?_, ?_, ?_⟩ <;> omega))
  | with_reducible apply Rd.irng2
  | ((with_reducible apply Rd.aug); rfl)
  | ((with_reducible apply Rd.exlst); (walk_at "sq"))
  | ((with_reducible apply Rd.gtup); (walk_at "st"); (rfl))
  | ((with_reducible apply Rd.tyL); (walk_at "hp"))
  | ((with_reducible apply Rd.ixL); (walk_at "sq"); (rfl))
  | ((with_reducible apply Rd.ixI); (walk_at "sq"); (omega); (first | assumption | (simp only [List.length_map]; omega)); (intro _ _))
  | (with_reducible refine Rd.gsub ?_)
  | ((with_reducible apply Rd.setL); (walk_at "hp"); (rfl); ((dsimp only [List.set, L2.wipe, Int.reduceToNat]) <;> rfl))
  | ((with_reducible apply Rd.lenQ); (first | exact Or.inl (by walk_at "sq") | exact Or.inr (by walk_at "st")))
  | ((with_reducible apply Rd.listQ); (first | exact Or.inl (by walk_at "sq") | exact Or.inr (by walk_at "st")))
  | ((with_reducible apply Rd.tupQ); (walk_at "sq"))
  | ((with_reducible apply Rd.slL); (walk_at "sq"))
  | ((with_reducible apply Rd.ixT); (walk_at "st"); (rfl))
  | (with_reducible refine Rd.iteB (fun _ => ?_) (fun _ => ?_))
  | (with_reducible refine Rd.iteNB (fun _ => ?_) (fun _ => ?_))
  | (refine Rd.andI (Nat.le_of_ble_eq_true rfl) ?_)
  | dsimp only [List.set])
local macro_rules | `(tactic| walk_at "hp") => `(tactic| first
  | assumption
  | exact upd_same
  | (refine Eq.trans (upd_ne (by first | assumption | (apply Ne.symm; assumption))) ?_; walk_at "hp")
  | (refine hpS (by assumption) ?_; walk_at "hp"))
local macro_rules | `(tactic| walk_at "al") => `(tactic| (with_reducible intro l hl; generalize hG : upd _ l _ = G; have hs := newOne hl hG; clear hG; obtain ⟨hs, he⟩ := hs))
local macro_rules | `(tactic| walk_at "rd") => `(tactic| first
  | walk_at "al"
  | ((with_reducible apply Rd.cat); (walk_at "hp"); (walk_at "hp"); (exact Nat.le_of_ble_eq_true rfl)))
local macro_rules | `(tactic| walk_at "sm") => `(tactic| first
  | assumption
  | exact Same.refl _
  | (refine Same.trans ?_ (by assumption); walk_at "sm"))
local macro_rules | `(tactic| walk_at "fr") => `(tactic| first
  | assumption
  | (refine Same.free (by assumption) ?_; walk_at "fr"))
local macro_rules | `(tactic| walk_at "ty") => `(tactic| first
  | exact dv_ty (by assumption)
  | exact tyD' (by walk_at "hp"))
local macro_rules | `(tactic| walk_at "sz") => `(tactic| first
  | exact sz5 (by omega)
  | (simp only [add_len, one_len]; exact sz5 (by omega)))
local macro_rules | `(tactic| walk_at "rd") => `(tactic| first
  | with_reducible apply Rd.istr
  | with_reducible apply Rd.exstr
  | with_reducible apply Rd.leA
  | with_reducible apply Rd.leZz
  | with_reducible apply Rd.le0
  | with_reducible apply Rd.le9
  | with_reducible apply Rd.niZ
  | ((with_reducible apply Rd.lenZ); (walk_at "sz"))
  | ((with_reducible apply Rd.slZ); (walk_at "sz"))
  | ((with_reducible apply Rd.addZ); (walk_at "sz"))
  | with_reducible apply Rd.raiseX
  | with_reducible apply Rd.exone
  | with_reducible apply Rd.callS
  | with_reducible apply Rd.callP
  | with_reducible apply Rd.xsX
  | with_reducible apply Rd.dnewX
  | with_reducible apply Rd.tyZ)
section
variable {P : Program} {w : World} {K : PySem.W.Frag} {mg : Str → Option Value} {base : Heap} {D : Str → Addr}
theorem due_code : ∀ {ds : List PyData} {seen : List Str} {code : Str} {d : PyData}, dueD ds seen = some (code, d) → (code, fldOf code) ∈ RefL
  | [], _, _, _, h => nomatch h
  | x :: ds, seen, code, d, h => by
    have m1 : (("BadName" : Str), fldOf "BadName") ∈ RefL := by rw [fld1]; exact List.mem_cons_self
    have m2 : (("Taken" : Str), fldOf "Taken") ∈ RefL := by rw [fld2]; exact List.mem_cons_of_mem _ List.mem_cons_self
    have m3 : (("TooMany" : Str), fldOf "TooMany") ∈ RefL := by rw [fld3]; exact List.mem_cons_of_mem _ (List.mem_cons_of_mem _ List.mem_cons_self)
    cases hn : nameD x with
    | false =>
      rw [due_not hn] at h
      cases h
      exact m1
    | true =>
      obtain ⟨z, rfl⟩ : ∃ z, x = .str z := by
        rcases str_cases x with h | ⟨h, _⟩
        · exact h
        · rw [hn] at h
          cases h
      have hn : nmB z = true := hn
      by_cases hz : z ∈ seen
      · rw [due_taken hn hz] at h
        cases h
        exact m2
      · by_cases hl : 32 ≤ seen.length
        · rw [due_many hn hz hl] at h
          cases h
          exact m3
        · rw [due_next hn hz hl] at h
          exact due_code h
/-- _law_checked(given): a new tuple of what check_houses does -/
def spChecked (K : PySem.W.Frag) : Sp := fun vs H Q E => ∃ (g : Addr) (xs : List V) (ds : List PyData), vs = [.ref g] ∧ At H g xs ∧ DvAll K H xs ds ∧ (∀ d ∈ ds, Sz d) ∧ xs.length ≤ 1000 ∧
  (dueD ds [] = none → ∀ t L zs ys H', xs = zs.map V.str → zs.Nodup → zs.length ≤ 32 → ys.Perm zs → sortedS ys = true → H L = none → Same H H' → H' t = some (.tup [.str "told", .ref L]) → H' L = some (.lst (ys.map V.str)) → Q (.ref t) H') ∧
  ∀ code d, dueD ds [] = some (code, d) → ∀ t v H', Same H H' → H' t = some (.tup [.str "refused", .str code, v]) → Dv K H' v d → Q (.ref t) H'
theorem ok__law_checked (F : Def K mg "_law_checked" s__law_checked P__law_checked) (c_cls : ∀ x ∈ Classes, mg x = some (.ref (D x))) (C_check_houses : Ho.CalN P w K mg base 4 "check_houses" P_check_houses (spCheckH K D)) (C__law_refusal : Ho.CalP P w K mg base 1 "_law_refusal" P__law_refusal (spRefs K D)) (kn : ∀ p ∈ RefL, Ho.Knd K D Kinds (D p.1) p.1 p.2) (xm : ∀ p ∈ RefL, PySem.W.exmOne K (.ref (D p.1)) (.ref (D "KeptError")) = some true) : Cal P w K mg base 5 "_law_checked" P__law_checked (spChecked K) := by
  refine F.ok sc__law_checked (fun vs H Q E h => ?_) (fun f cdv A outer s H vs Q E hr h => ?_)
  · obtain ⟨g, xs, ds, rfl, _⟩ := h
    rfl
  obtain ⟨g, xs, ds, rfl, ha, da, sz, hl, qn, qs⟩ := h
  refine ⟨_, (pss_cons (L2N.ps_try_as (i := 2) (Wout := fun _ _ _ _ => False) rfl rfl sc__law_checked.nd rfl rfl ⟨rfl, by decide, .inl (c_cls "KeptError" (by decide))⟩ Ho.takes0 (fun W pn xe tk _ => by exact (pss_one (ps_set (i := 1) sc__law_checked.nd rfl (Or.inl rfl) (pe_tup (pa_cons pe_str (pa_cons (Ho.pe_calN C_check_houses tk hr (pa_cons (pv 0 (hd := nd_given) (hcd := nc_given)) pa_nil)) pa_nil)))))) (fun a oe cls d pn hz hf => by exact (pss_one (ps_set (i := 1) sc__law_checked.nd rfl (Or.inl rfl) (Ho.pe_calP C__law_refusal hz hf hr (pa_cons (pv 2 (hd := nd_e) (hcd := nc_e)) (pa_cons (Ho.pe_xs (K := K) rfl hz hf (pv 2 (hd := nd_e) (hcd := nc_e))) pa_nil)))))))
  (pss_one (ps_ret (pv 1 (hd := nd_told) (hcd := nc_told))))), ?_⟩
  refine Rd.at0 (σ := [some (.ref g), none, none]) rfl ?_
  repeat' (walk_at "rd")
  refine ⟨g, xs, ds, rfl, ha, da, sz, hl, fun hn L zs ys H1 ex nd lz pm sy fL s1 eL => ?_, fun code d ed dd v H3 n3 s3 dv e3 => ⟨true, xm _ (due_code ed), fun _ a na => ?_, fun z => Bool.noConfusion z⟩⟩
  · repeat' (walk_at "rd")
    rename_i l n G s e
    exact qn hn l L zs ys G ex nd lz pm sy fL (s1.trans s) e (s _ _ eL)
  · have kk := kn _ (due_code ed)
    have mm := due_code ed
    simp only [List.mem_cons, List.not_mem_nil, or_false, Prod.mk.injEq] at mm
    rcases mm with ⟨rfl, _⟩ | ⟨rfl, _⟩ | ⟨rfl, _⟩
    all_goals
      first
      | rw [fld1] at kk e3
      | rw [fld2] at kk e3
      | rw [fld3] at kk e3
      repeat' (walk_at "rd")
      refine ⟨rfl, D _, dd, _, .str _, rfl, kk.xf, kk.nc, rfl, e3, rfl, ?_⟩
      repeat' (walk_at "rd")
      refine ⟨(_, _), ?_, D _, dd, v, rfl, rfl, rfl, kk, e3, fun t H4 n4 s4 e4 => ?_⟩
      · first
        | exact List.mem_cons_self
        | exact List.mem_cons_of_mem _ List.mem_cons_self
        | exact List.mem_cons_of_mem _ (List.mem_cons_of_mem _ List.mem_cons_self)
      repeat' (walk_at "rd")
      exact qs _ _ ed t v H4 (s3.trans s4) e4 (dv_same s4 dv)
/-- _law_listed_right(told, row) of the sorted row: True -/
def spLR (K : PySem.W.Frag) : Sp := fun vs H Q _ => ∃ (a b : Addr) (ys zs : List Str), vs = [.ref a, .ref b] ∧ H a = some (.lst (ys.map V.str)) ∧ H b = some (.lst (zs.map V.str)) ∧ ys.Perm zs ∧ sortedS ys = true ∧ zs.Nodup ∧ zs.length ≤ 1000 ∧ Q (.bl true) H
theorem ok__law_listed_right (F : Def K mg "_law_listed_right" s__law_listed_right P__law_listed_right) (m_isinstance : mg "isinstance" = none) (m_list : mg "list" = none) (m_len : mg "len" = none) (m_range : mg "range" = none) (m_str : mg "str" = none) : Cal P w K mg base 1 "_law_listed_right" P__law_listed_right (spLR K) := by
  refine F.ok sc__law_listed_right (fun vs H Q E h => ?_) (fun f cdv A outer s H vs Q E hr h => ?_)
  · obtain ⟨a, b, ys, zs, rfl, _⟩ := h
    rfl
  obtain ⟨a, b, ys, zs, rfl, ha, hb, pm, sy, nd, hl, q⟩ := h
  refine ⟨_, (pss_cons (ps_if (PW.pt (pw_or (pt_not (pt_val (pe_callB call_isi (by rfl) m_isinstance bb_isinstance (pa_cons (pv 0 (hd := nd_told) (hcd := nc_told)) (pa_cons (pe_bltn (v := .ty "list") (u := .type "list") (by rfl) m_list bb_list rfl (hn := nn_list) (hd := nd_list)) pa_nil)) (hn := nn_isinstance) (hdb := nd_isinstance)))) (pw_or1 (pt_cmpR op_ne (pe_callB q_len (by rfl) m_len PySem.boot_len (pa_cons (pv 0 (hd := nd_told) (hcd := nc_told)) pa_nil) (hn := nn_len) (hdb := nd_len)) (pe_callB q_len (by rfl) m_len PySem.boot_len (pa_cons (pv 1 (hd := nd_row) (hcd := nc_row)) pa_nil) (hn := nn_len) (hdb := nd_len)) (nomark _))))) (pss_one (ps_ret pe_bl)) pss_nil)
  (pss_cons (ps_for PassesOwn.never rfl (pi_range1 (by rfl) m_range (pa_cons (pe_callB q_len (by rfl) m_len PySem.boot_len (pa_cons (pv 0 (hd := nd_told) (hcd := nc_told)) pa_nil) (hn := nn_len) (hdb := nd_len)) pa_nil)) (pg_name (i := 2) sc__law_listed_right.nd rfl (Or.inl rfl)) (pss_cons (ps_if (PW.pt (pw_or (pt_not (pt_val (pe_callB call_isi (by rfl) m_isinstance bb_isinstance (pa_cons (pe_ix ix_list (pv 0 (hd := nd_told) (hcd := nc_told)) (pv 2 (hd := nd_k) (hcd := nc_k)) (fun _ _ => rfl)) (pa_cons (pe_bltn (v := .ty "str") (u := .type "str") (by rfl) m_str bb_str rfl (hn := nn_str) (hd := nd_str)) pa_nil)) (hn := nn_isinstance) (hdb := nd_isinstance)))) (pw_or1 (pt_cmpR op_notIn_seq (pe_ix ix_list (pv 0 (hd := nd_told) (hcd := nc_told)) (pv 2 (hd := nd_k) (hcd := nc_k)) (fun _ _ => rfl)) (pv 1 (hd := nd_row) (hcd := nc_row)) (by rfl))))) (pss_one (ps_ret pe_bl)) pss_nil)
  (pss_one (ps_if (PW.pt (pw_and (pt_cmpR op_gt (pv 2 (hd := nd_k) (hcd := nc_k)) pe_int (nomark _)) (pw_and1 (pt_cmpR o_geZ (pe_ix ix_list (pv 0 (hd := nd_told) (hcd := nc_told)) (pe_op op_sub (pv 2 (hd := nd_k) (hcd := nc_k)) pe_int) (fun _ _ => rfl)) (pe_ix ix_list (pv 0 (hd := nd_told) (hcd := nc_told)) (pv 2 (hd := nd_k) (hcd := nc_k)) (fun _ _ => rfl)) (nomark _))))) (pss_one (ps_ret pe_bl)) pss_nil))))
  (pss_one (ps_ret pe_bl)))), ?_⟩
  refine Rd.at0 (σ := [some (.ref a), some (.ref b), none]) rfl ?_
  have ly := pm.length_eq
  have lm : (ys.map V.str).length = ys.length := List.length_map _
  have lm2 : (zs.map V.str).length = zs.length := List.length_map _
  have st := sorted_strict sy (pm.nodup_iff.mpr nd)
  repeat' (walk_at "rd")
  · omega
  refine forR (fun i σ H' => ∃ v2 : Option V, σ = [some (.ref a), some (.ref b), v2] ∧ H' = H) ⟨none, rfl, rfl⟩ ?_ ?_
  · rintro i σ H' hi ⟨v2, rfl, rfl⟩
    have hi : i < ys.length := by omega
    have e0 : (0 + (i : Int)).toNat = i := by omega
    have ei : (ys.map V.str)[(0 + (i : Int)).toNat]? = some (.str ys[i]) := by rw [e0, List.getElem?_map, List.getElem?_eq_getElem hi]; rfl
    have mi : ys[i] ∈ zs := pm.mem_iff.mp (List.getElem_mem hi)
    repeat' (walk_at "rd")
    refine ixN' (.inl (.inl ha)) (by omega) ei ?_
    repeat' (walk_at "rd")
    refine ixN' (.inl (.inl ha)) (by omega) ei ?_
    repeat' (walk_at "rd")
    refine niS (.inl (.inl hb)) ?_
    rw [decide_eq_true mi]
    repeat' (walk_at "rd")
    · obtain ⟨j, rfl⟩ : ∃ j, i = j + 1 := ⟨i - 1, by omega⟩
      have e1 : (0 + ((j + 1 : Nat) : Int) - 1).toNat = j := by omega
      have hj : j < ys.length := by omega
      refine ixN' (.inl (.inl ha)) (by omega) (x := .str ys[j]) (by rw [e1, List.getElem?_map, List.getElem?_eq_getElem hj]; rfl) ?_
      repeat' (walk_at "rd")
      refine ixN' (.inl (.inl ha)) (by omega) ei ?_
      have lt : cl ys[j] < cl ys[j + 1] := List.pairwise_iff_getElem.mp st j (j + 1) hj hi (by omega)
      refine geZ ?_
      rw [decide_eq_true lt]
      repeat' (walk_at "rd")
      exact ⟨_, rfl, rfl⟩
    · exact ⟨_, rfl, rfl⟩
  · rintro σ H' ⟨v2, rfl, rfl⟩
    repeat' (walk_at "rd")
    exact q
end
end Kj
namespace Kj
open PySem PySem.Spec PyProof.Rows L2 Rd
/-! ### the stepper -/
local macro_rules | `(tactic| walk_at "hp") => `(tactic| first
  | assumption
  | exact upd_same
  | (refine Eq.trans (upd_ne (by first | assumption | (apply Ne.symm; assumption))) ?_; walk_at "hp"))
local macro_rules | `(tactic| walk_at "sq") => `(tactic| first
  | assumption
  | (refine Or.inl (Or.inl ?_); walk_at "hp"))
local macro_rules | `(tactic| walk_at "st") => `(tactic| first
  | assumption
  | (refine Or.inl (Or.inl ?_); walk_at "hp"))
local macro_rules | `(tactic| walk_at "ar") => `(tactic| first
  | assumption
  | omega
  | decide)
local macro_rules | `(tactic| walk_at "ci") => `(tactic| first
  | (refine (show CMul _ _ from Or.inr ⟨?_, ?_⟩) <;> omega)
  | (refine (show CMul _ _ from Or.inl ⟨?_, ?_⟩) <;> omega)
  | (show CPow _ _; exact ⟨by decide, by decide, by decide⟩)
  | (refine wide_div (b := 63) ?_ ?_ (by decide) (by decide) <;> omega)
  | (show (0 : Int) < _; omega))
local macro_rules | `(tactic| walk_at "ty") => `(tactic| first
  | exact dp_ty (by assumption)
  | exact TyX.base (TyOf.int _)
  | exact TyX.base (TyOf.str _)
  | exact TyX.base (TyOf.bl _)
  | exact TyX.base TyOf.non
  | exact tyL' (by walk_at "sq")
  | exact tyT' (by walk_at "st"))
local macro_rules | `(tactic| walk_at "isi") => `(tactic| first
  | ((with_reducible apply Rd.isiF); (walk_at "ty"); (decide))
  | ((with_reducible apply Rd.isiT); (walk_at "ty"); (decide)))
local macro_rules | `(tactic| walk_at "rd") => `(tactic| first
  | with_reducible apply Rd.seq
  | ((with_reducible apply Rd.var); rfl)
  | with_reducible apply Rd.con
  | with_reducible apply Rd.op
  | with_reducible apply Rd.asg
  | ((with_reducible apply Rd.gname); ((dsimp only [List.set, L2.wipe, Int.reduceToNat]) <;> rfl))
  | with_reducible apply Rd.nxt
  | with_reducible apply Rd.ifs
  | with_reducible apply Rd.test
  | with_reducible apply Rd.testB
  | with_reducible apply Rd.exbl
  | with_reducible apply Rd.ret
  | with_reducible apply Rd.drop
  | with_reducible apply Rd.retN
  | with_reducible apply Rd.nil
  | with_reducible apply Rd.cons
  | with_reducible apply Rd.call
  | with_reducible apply Rd.cb
  | with_reducible apply Rd.and
  | with_reducible apply Rd.or
  | with_reducible apply Rd.not
  | with_reducible apply Rd.andV
  | with_reducible apply Rd.orV
  | with_reducible apply Rd.notV
  | with_reducible apply Rd.ife
  | with_reducible apply Rd.tup
  | with_reducible apply Rd.lst
  | with_reducible apply Rd.un
  | with_reducible apply Rd.chain
  | with_reducible apply Rd.brk
  | with_reducible apply Rd.cnt
  | with_reducible apply Rd.I0
  | with_reducible apply Rd.U1
  | ((with_reducible apply Rd.eq); rfl)
  | ((with_reducible apply Rd.ne); rfl)
  | ((with_reducible apply Rd.I1); (walk_at "ci"))
  | with_reducible apply Rd.lc0
  | with_reducible apply Rd.ln0
  | with_reducible apply Rd.exN
  | ((with_reducible apply Rd.iteSf); (decide +kernel))
  | ((with_reducible apply Rd.iteSt); (decide +kernel))
  | ((with_reducible apply Rd.niQ); (exact Or.inl (by walk_at "sq")); (exact ⟨rfl, rfl⟩); (rfl))
  | ((with_reducible apply Rd.inQ); (exact Or.inl (by walk_at "sq")); (exact ⟨rfl, rfl⟩); (rfl))
  | with_reducible apply Rd.rn1
  | with_reducible apply Rd.in1
  | with_reducible apply Rd.sn1
  | with_reducible apply Rd.bn1
  | with_reducible apply Rd.nn1
  | with_reducible apply Rd.rn2
  | with_reducible apply Rd.in2
  | with_reducible apply Rd.sn2
  | with_reducible apply Rd.bn2
  | with_reducible apply Rd.nn2
  | with_reducible apply Rd.nt1
  | with_reducible apply Rd.nf1
  | (with_reducible refine Rd.iteI (fun _ => ?_) (fun _ => ?_))
  | (with_reducible refine Rd.iteNI (fun _ => ?_) (fun _ => ?_))
  | (with_reducible refine iteT ?_)
  | (with_reducible refine iteF ?_)
  | (with_reducible refine Rd.iteD (fun _ => ?_) (fun _ => ?_))
  | (with_reducible refine Rd.iteN (fun _ => ?_) (fun _ => ?_))
  | with_reducible apply Rd.intI
  | with_reducible apply Rd.intB
  | with_reducible apply Rd.maxQ
  | with_reducible apply Rd.minQ
  | with_reducible apply Rd.absQ
  | with_reducible apply Rd.isN
  | with_reducible apply Rd.noN
  | with_reducible apply Rd.ltZ
  | with_reducible apply Rd.bm
  | with_reducible apply Rd.bm0
  | with_reducible apply Rd.par
  | with_reducible apply Rd.expar
  | with_reducible apply Rd.exint
  | with_reducible apply Rd.ipi
  | with_reducible apply Rd.slice
  | with_reducible apply Rd.noPart
  | with_reducible apply Rd.part
  | with_reducible apply Rd.gcons
  | with_reducible apply Rd.gnil
  | with_reducible apply Rd.iseq
  | with_reducible apply Rd.irng1
  | walk_at "isi"
  | with_reducible apply Rd.forX
  | with_reducible apply Rd.lstRev
  | with_reducible apply Rd.lstRg
  | with_reducible apply Rd.rg1
  | with_reducible apply Rd.rg2
  | with_reducible apply Rd.exint2
  | ((with_reducible apply Rd.exrev); (walk_at "sq"))
  | with_reducible apply Rd.lcX
  | with_reducible apply Rd.yes
  | ((with_reducible apply Rd.exrng1); (constructor <;> omega))
  | ((with_reducible apply Rd.exrng2); (refine ⟨?_, ?_, ?_, ?_⟩ <;> omega))
  | with_reducible apply Rd.irng2
  | ((with_reducible apply Rd.aug); rfl)
  | ((with_reducible apply Rd.exlst); (walk_at "sq"))
  | ((with_reducible apply Rd.gtup); (walk_at "st"); (rfl))
  | ((with_reducible apply Rd.tyL); (walk_at "hp"))
  | ((with_reducible apply Rd.ixL); (walk_at "sq"); (rfl))
  | ((with_reducible apply Rd.ixI); (walk_at "sq"); (omega); (first | assumption | (simp only [List.length_map]; omega)); (intro _ _))
  | (with_reducible refine Rd.gsub ?_)
  | ((with_reducible apply Rd.setL); (walk_at "hp"); (rfl); ((dsimp only [List.set, L2.wipe, Int.reduceToNat]) <;> rfl))
  | ((with_reducible apply Rd.lenQ); (first | exact Or.inl (by walk_at "sq") | exact Or.inr (by walk_at "st")))
  | ((with_reducible apply Rd.listQ); (first | exact Or.inl (by walk_at "sq") | exact Or.inr (by walk_at "st")))
  | ((with_reducible apply Rd.tupQ); (walk_at "sq"))
  | ((with_reducible apply Rd.slL); (walk_at "sq"))
  | ((with_reducible apply Rd.ixT); (walk_at "st"); (rfl))
  | (with_reducible refine Rd.iteB (fun _ => ?_) (fun _ => ?_))
  | (with_reducible refine Rd.iteNB (fun _ => ?_) (fun _ => ?_))
  | (refine Rd.andI (Nat.le_of_ble_eq_true rfl) ?_)
  | dsimp only [List.set])
local macro_rules | `(tactic| walk_at "hp") => `(tactic| first
  | assumption
  | exact upd_same
  | (refine Eq.trans (upd_ne (by first | assumption | (apply Ne.symm; assumption))) ?_; walk_at "hp")
  | (refine hpS (by assumption) ?_; walk_at "hp"))
local macro_rules | `(tactic| walk_at "al") => `(tactic| (with_reducible intro l hl; generalize hG : upd _ l _ = G; have hs := newOne hl hG; clear hG; obtain ⟨hs, he⟩ := hs))
local macro_rules | `(tactic| walk_at "rd") => `(tactic| first
  | walk_at "al"
  | ((with_reducible apply Rd.cat); (walk_at "hp"); (walk_at "hp"); (exact Nat.le_of_ble_eq_true rfl)))
local macro_rules | `(tactic| walk_at "sm") => `(tactic| first
  | assumption
  | exact Same.refl _
  | (refine Same.trans ?_ (by assumption); walk_at "sm"))
local macro_rules | `(tactic| walk_at "fr") => `(tactic| first
  | assumption
  | (refine Same.free (by assumption) ?_; walk_at "fr"))
local macro_rules | `(tactic| walk_at "ty") => `(tactic| first
  | exact dv_ty (by assumption)
  | exact tyD' (by walk_at "hp"))
local macro_rules | `(tactic| walk_at "sz") => `(tactic| first
  | exact sz5 (by omega)
  | (simp only [add_len, one_len]; exact sz5 (by omega)))
local macro_rules | `(tactic| walk_at "rd") => `(tactic| first
  | with_reducible apply Rd.istr
  | with_reducible apply Rd.exstr
  | with_reducible apply Rd.leA
  | with_reducible apply Rd.leZz
  | with_reducible apply Rd.le0
  | with_reducible apply Rd.le9
  | with_reducible apply Rd.niZ
  | ((with_reducible apply Rd.lenZ); (walk_at "sz"))
  | ((with_reducible apply Rd.slZ); (walk_at "sz"))
  | ((with_reducible apply Rd.addZ); (walk_at "sz"))
  | with_reducible apply Rd.raiseX
  | with_reducible apply Rd.exone
  | with_reducible apply Rd.callS
  | with_reducible apply Rd.callP
  | with_reducible apply Rd.xsX
  | with_reducible apply Rd.dnewX
  | with_reducible apply Rd.tyZ)
section
variable {P : Program} {w : World} {K : PySem.W.Frag} {mg : Str → Option Value} {base : Heap} {D : Str → Addr}
/-- _law_list_right(given, row): True -/
def spListR (K : PySem.W.Frag) : Sp := fun vs H Q _ => ∃ (g r : Addr) (xs : List V), vs = [.ref g, .ref r] ∧ At H g xs ∧ H r = some (.lst xs) ∧ VOk K H xs ∧ xs.length ≤ 100 ∧ ∀ H', Same H H' → Q (.bl true) H'
theorem dv_strs {H : Hp} : ∀ zs : List Str, DvAll K H (zs.map V.str) (zs.map PyData.str)
  | [] => .nil
  | z :: zs => .cons (.str z) (dv_strs zs)
theorem at_dv {H : Hp} {g : Addr} {xs : List V} {ds : List PyData} (h : At H g xs) (da : DvAll K H xs ds) (hf : ∀ d ∈ ds, Fd 1 d) (hl : xs.length ≤ 1000) : ∃ d, Fd 2 d ∧ ∀ H', Same H H' → Dv K H' (.ref g) d := by
  have l := va_len da
  rcases h with h | h
  · exact ⟨.list ds, .lst (by omega) hf, fun H' s => .lst (.inl (.inl (s _ _ h))) (va_same s da)⟩
  · exact ⟨.tuple ds, .tup (by omega) hf, fun H' s => .tup (.inl (.inl (s _ _ h))) (va_same s da)⟩
theorem due_fd : ∀ {ds : List PyData} {seen : List Str} {code : Str} {d : PyData}, (∀ x ∈ ds, Fd 1 x) → dueD ds seen = some (code, d) → Fd 1 d
  | [], _, _, _, _, h => nomatch h
  | x :: ds, seen, code, d, hf, h => by
    cases hn : nameD x with
    | false =>
      rw [due_not hn] at h
      cases h
      exact hf _ List.mem_cons_self
    | true =>
      obtain ⟨z, rfl⟩ : ∃ z, x = .str z := by
        rcases str_cases x with h | ⟨h, _⟩
        · exact h
        · rw [hn] at h
          cases h
      have hn : nmB z = true := hn
      by_cases hz : z ∈ seen
      · rw [due_taken hn hz] at h
        cases h
        exact .str z
      · by_cases hl : 32 ≤ seen.length
        · rw [due_many hn hz hl] at h
          cases h
          exact .int 32
        · rw [due_next hn hz hl] at h
          exact due_fd (fun y hy => hf y (List.mem_cons_of_mem _ hy)) h
theorem cut_less {xs : List V} {k : Int} (h : 0 ≤ k) : (cutV xs (some (k + 1)) none).length ≤ (cutV xs (some k) none).length := by
  obtain ⟨n, rfl⟩ : ∃ n : Nat, k = n := ⟨k.toNat, by omega⟩
  rw [show ((n : Nat) : Int) + 1 = ((n + 1 : Nat) : Int) by omega]
  unfold cutV
  rw [HT.sIx_nat, HT.sIx_none, HT.sIx_nat]
  simp only [List.length_take, List.length_drop]
  omega
theorem ok__law_list_right (F : Def K mg "_law_list_right" s__law_list_right P__law_list_right) (m_range : mg "range" = none) (C__law_same : Cal P w K mg base 9 "_law_same" P__law_same (spSame K 8)) (C__law_frozen : Cal P w K mg base 8 "_law_frozen" P__law_frozen (spFrozen K 8)) (C__law_due_houses : Cal P w K mg base 2 "_law_due_houses" P__law_due_houses (spDueH K)) (C__law_checked : Cal P w K mg base 5 "_law_checked" P__law_checked (spChecked K)) (C__law_listed_right : Cal P w K mg base 1 "_law_listed_right" P__law_listed_right (spLR K)) : Cal P w K mg base 10 "_law_list_right" P__law_list_right (spListR K) := by
  refine F.ok sc__law_list_right (fun vs H Q E h => ?_) (fun f cdv A outer s H vs Q E hr h => ?_)
  · obtain ⟨g, r, xs, rfl, _⟩ := h
    rfl
  obtain ⟨g, r, xs, rfl, ha, hr', vo, hl, q⟩ := h
  refine ⟨_, (pss_cons (ps_set (i := 2) sc__law_list_right.nd rfl (Or.inl rfl) (pe_cal C__law_frozen hr (pa_cons (pv 0 (hd := nd_given) (hcd := nc_given)) pa_nil) (hdb := nd__law_frozen)))
  (pss_cons (ps_set (i := 3) sc__law_list_right.nd rfl (Or.inl rfl) (pe_cal C__law_due_houses hr (pa_cons (pv 1 (hd := nd_row) (hcd := nc_row)) pa_nil) (hdb := nd__law_due_houses)))
  (pss_cons (ps_for PassesOwn.never rfl (pi_range1 (by rfl) m_range (pa_cons pe_int pa_nil)) (pg_name (i := 4) sc__law_list_right.nd rfl (Or.inl rfl)) (pss_cons (ps_set (i := 5) sc__law_list_right.nd rfl (Or.inl rfl) (pe_cal C__law_checked hr (pa_cons (pv 0 (hd := nd_given) (hcd := nc_given)) pa_nil) (hdb := nd__law_checked)))
  (pss_cons (ps_if (pt_not (pt_val (pe_cal C__law_same hr (pa_cons (pe_cal C__law_frozen hr (pa_cons (pv 0 (hd := nd_given) (hcd := nc_given)) pa_nil) (hdb := nd__law_frozen)) (pa_cons (pv 2 (hd := nd_kept) (hcd := nc_kept)) pa_nil)) (hdb := nd__law_same)))) (pss_one (ps_ret pe_bl)) pss_nil)
  (pss_cons (ps_if (PW.pt (pw_and (pt_cmpR o_noN (pv 3 (hd := nd_due) (hcd := nc_due)) pe_non (nomark _)) (pw_and1 (pt_not (pt_val (pe_cal C__law_same hr (pa_cons (pv 5 (hd := nd_told) (hcd := nc_told)) (pa_cons (pe_tup (pa_cons pe_str (pa_cons (pe_ix ix_tup (pv 3 (hd := nd_due) (hcd := nc_due)) pe_int (fun _ _ => rfl)) (pa_cons (pe_ix ix_tup (pv 3 (hd := nd_due) (hcd := nc_due)) pe_int (fun _ _ => rfl)) pa_nil)))) pa_nil)) (hdb := nd__law_same))))))) (pss_one (ps_ret pe_bl)) pss_nil)
  (pss_one (ps_if (pt_cmpR o_isN (pv 3 (hd := nd_due) (hcd := nc_due)) pe_non (nomark _)) (pss_cons (ps_if (PW.pt (pw_or (pt_cmpR op_ne (pe_ix ix_tup (pv 5 (hd := nd_told) (hcd := nc_told)) pe_int (fun _ _ => rfl)) pe_str (nomark _)) (pw_or1 (pt_not (pt_val (pe_cal C__law_listed_right hr (pa_cons (pe_ix ix_tup (pv 5 (hd := nd_told) (hcd := nc_told)) pe_int (fun _ _ => rfl)) (pa_cons (pv 1 (hd := nd_row) (hcd := nc_row)) pa_nil)) (hdb := nd__law_listed_right))))))) (pss_one (ps_ret pe_bl)) pss_nil)
  (pss_cons (ps_set (i := 6) sc__law_list_right.nd rfl (Or.inl rfl) (pe_ix ix_tup (pv 5 (hd := nd_told) (hcd := nc_told)) pe_int (fun _ _ => rfl)))
  (pss_cons (ps_expr (pe_bm PySem.F.plainAttrs_list PySem.F.slot_list_append PySem.F.type_list_append mt_append (pv 6 (hd := nd_answer) (hcd := nc_answer)) (pa_cons pe_str pa_nil)))
  (pss_one (ps_asg pe_str (pg_sub (pv 6 (hd := nd_answer) (hcd := nc_answer)) pe_int set_list)))))) pss_nil))))))
  (pss_one (ps_ret pe_bl))))), ?_⟩
  refine Rd.at0 (σ := [some (.ref g), some (.ref r), none, none, none, none, none]) rfl ?_
  obtain ⟨ds, da, hd⟩ := vo.all
  have hf : ∀ d ∈ ds, Fd 1 d := fun d h => (hd d h).1
  have hsz : ∀ d ∈ ds, Sz d := fun d h => (hd d h).2
  obtain ⟨dg, fg, dvg⟩ := at_dv ha da hf (by omega)
  repeat' (walk_at "rd")
  refine ⟨.ref g, dg, 7, rfl, rfl, dvg H (.refl H), fg.mono (by decide), fun y H1 s1 dy => ?_⟩
  have fz := frz_fd fg
  repeat' (walk_at "rd")
  refine ⟨r, xs, ds, rfl, s1 _ _ hr', va_same s1 da, hsz, by omega, fun hn H2 s2 => ?_, fun code d ed t v H2 s2 et dv => ?_⟩
  · have s02 := s1.trans s2
    repeat' (walk_at "rd")
    refine forR (fun i σ H' => ∃ (v4 v5 v6 : Option V), σ = [some (.ref g), some (.ref r), some y, some .non, v4, v5, v6] ∧ Same H2 H') ⟨none, none, none, rfl, .refl _⟩ ?_ ?_
    · rintro i σ H' hi ⟨v4, v5, v6, rfl, s'⟩
      have s0' := s02.trans s'
      repeat' (walk_at "rd")
      refine ⟨g, xs, ds, rfl, ha.same s0', va_same s0' da, hsz, by omega, fun hn' t L zs ys H3 ex nd lz pm sy fL s3 et eL => ?_, fun code d ed => ?_⟩
      · have s03 := s0'.trans s3
        repeat' (walk_at "rd")
        refine ⟨.ref g, dg, 7, rfl, rfl, dvg _ s03, fg.mono (by decide), fun y' H4 s4 dy' => ?_⟩
        repeat' (walk_at "rd")
        refine ⟨y', y, frz dg, 7, rfl, rfl, dy', dv_same (((s2.trans s').trans s3).trans s4) dy, fz.mono (by decide), fun H5 s5 => ?_⟩
        have et5 := s5 _ _ (s4 _ _ et)
        have eL5 := s5 _ _ (s4 _ _ eL)
        have s05 := (s03.trans s4).trans s5
        repeat' (walk_at "rd")
        · rename_i z
          exact absurd rfl z
        refine ⟨L, r, ys, zs, rfl, eL5, by rw [← ex]; exact s05 _ _ hr', pm, sy, nd, by omega, ?_⟩
        repeat' (walk_at "rd")
        refine append eL5 (by rw [List.length_map, pm.length_eq]; exact sz5' (by omega)) ?_
        repeat' (walk_at "rd")
        refine setN' upd_same (by decide) (by rw [List.length_append]; show (0 : Int) < ((_ + 1 : Nat) : Int); omega) ?_
        rw [upd_upd]
        have s25 := ((s'.trans s3).trans s4).trans s5
        have fL2 : H2 L = none := s'.free fL
        exact ⟨_, _, _, rfl, same_put s25 fL2 _⟩
      · rw [hn] at ed
        cases ed
    · rintro σ H' ⟨v4, v5, v6, rfl, s'⟩
      repeat' (walk_at "rd")
      exact q _ (s02.trans s')
  · have s02 := s1.trans s2
    have fd : Fd 1 d := by
      have := due_fd hf ed
      exact this
    repeat' (walk_at "rd")
    refine forR (fun i σ H' => ∃ (v4 v5 v6 : Option V), σ = [some (.ref g), some (.ref r), some y, some (.ref t), v4, v5, v6] ∧ Same H2 H') ⟨none, none, none, rfl, .refl _⟩ ?_ ?_
    · rintro i σ H' hi ⟨v4, v5, v6, rfl, s'⟩
      have s0' := s02.trans s'
      repeat' (walk_at "rd")
      refine ⟨g, xs, ds, rfl, ha.same s0', va_same s0' da, hsz, by omega, fun hn' => ?_, fun code' d' ed' t' v' H3 s3 et' dv' => ?_⟩
      · rw [ed] at hn'
        cases hn'
      · rw [ed] at ed'
        obtain ⟨rfl, rfl⟩ := Prod.mk.inj (Option.some.inj ed')
        have s03 := s0'.trans s3
        repeat' (walk_at "rd")
        refine ⟨.ref g, dg, 7, rfl, rfl, dvg _ s03, fg.mono (by decide), fun y' H4 s4 dy' => ?_⟩
        repeat' (walk_at "rd")
        refine ⟨y', y, frz dg, 7, rfl, rfl, dy', dv_same (((s2.trans s').trans s3).trans s4) dy, fz.mono (by decide), fun H5 s5 => ?_⟩
        have s35 := s4.trans s5
        have s25 := (s'.trans s3).trans s35
        have et5 := s35 _ _ et'
        have etd := s25 _ _ et
        repeat' (walk_at "rd")
        rename_i l n G sG e
        refine ⟨.ref t', .ref l, .tuple [.str "refused", .str code, d], 7, rfl, rfl, .tup (.inl (.inl (sG _ _ et5))) (.cons (.str _) (.cons (.str _) (.cons (dv_same (s35.trans sG) dv') .nil))), .tup (.inl (.inl e)) (.cons (.str _) (.cons (.str _) (.cons (dv_same (s25.trans sG) dv) .nil))),
          .tup (show 3 ≤ 100000 by decide) (fun x hx => ?_), fun H6 s6 => ?_⟩
        · rcases List.mem_cons.mp hx with e | hx
          · rw [e]
            exact .str _
          rcases List.mem_cons.mp hx with e | hx
          · rw [e]
            exact .str _
          · rw [List.mem_singleton.mp hx]
            exact fd.mono (by decide)
        repeat' (walk_at "rd")
        exact ⟨_, _, _, rfl, (s25.trans sG).trans s6⟩
    · rintro σ H' ⟨v4, v5, v6, rfl, s'⟩
      repeat' (walk_at "rd")
      exact q _ (s02.trans s')
/-- _law_first(row): a place of it, or its length -/
def spFirst (K : PySem.W.Frag) : Sp := fun vs H Q _ => ∃ (r : Addr) (xs : List V), vs = [.ref r] ∧ H r = some (.lst xs) ∧ VOk K H xs ∧ xs.length ≤ 100 ∧ ∀ (k : Int) H', 0 ≤ k → Same H H' → Q (.int k) H'
theorem ok__law_first (F : Def K mg "_law_first" s__law_first P__law_first) (m_range : mg "range" = none) (m_len : mg "len" = none) (C__law_due_houses : Cal P w K mg base 2 "_law_due_houses" P__law_due_houses (spDueH K)) : Cal P w K mg base 3 "_law_first" P__law_first (spFirst K) := by
  refine F.ok sc__law_first (fun vs H Q E h => ?_) (fun f cdv A outer s H vs Q E hr h => ?_)
  · obtain ⟨r, xs, rfl, _⟩ := h
    rfl
  obtain ⟨r, xs, rfl, hr', vo, hl, q⟩ := h
  refine ⟨_, (pss_cons (ps_for PassesOwn.never rfl (pi_range1 (by rfl) m_range (pa_cons (pe_callB q_len (by rfl) m_len PySem.boot_len (pa_cons (pv 0 (hd := nd_row) (hcd := nc_row)) pa_nil) (hn := nn_len) (hdb := nd_len)) pa_nil)) (pg_name (i := 1) sc__law_first.nd rfl (Or.inl rfl)) (pss_one (ps_if (pt_cmpR o_noN (pe_cal C__law_due_houses hr (pa_cons (pe_slice sl_list (pv 0 (hd := nd_row) (hcd := nc_row)) po_none (po_some (pe_op op_add (pv 1 (hd := nd_k) (hcd := nc_k)) pe_int))) pa_nil) (hdb := nd__law_due_houses)) pe_non (nomark _)) (pss_one (ps_ret (pv 1 (hd := nd_k) (hcd := nc_k)))) pss_nil)))
  (pss_one (ps_ret (pe_callB q_len (by rfl) m_len PySem.boot_len (pa_cons (pv 0 (hd := nd_row) (hcd := nc_row)) pa_nil) (hn := nn_len) (hdb := nd_len))))), ?_⟩
  refine Rd.at0 (σ := [some (.ref r), none]) rfl ?_
  repeat' (walk_at "rd")
  refine forR (fun i σ H' => ∃ v1 : Option V, σ = [some (.ref r), v1] ∧ Same H H') ⟨none, rfl, .refl _⟩ ?_ ?_
  · rintro i σ H' hi ⟨v1, rfl, s'⟩
    have hr1 := s' _ _ hr'
    repeat' (walk_at "rd")
    rename_i l n G sG e
    obtain ⟨ds, da, hd⟩ := ((vo.same (s'.trans sG)).sub (ws := cutV xs none (some (0 + (i : Int) + 1))) cut_mem).all
    have lc := cutV_length xs none (some (0 + (i : Int) + 1))
    refine ⟨l, _, ds, rfl, e, da, fun d h => (hd d h).2, by omega, fun hn H2 s2 => ?_, fun code d ed t v H2 s2 et dv => ?_⟩
    · repeat' (walk_at "rd")
      exact ⟨_, rfl, (s'.trans sG).trans s2⟩
    · repeat' (walk_at "rd")
      exact q _ _ (by omega) ((s'.trans sG).trans s2)
  · rintro σ H' ⟨v1, rfl, s'⟩
    have hr1 := s' _ _ hr'
    repeat' (walk_at "rd")
    exact q _ _ (by omega) s'
/-! ### the law -/
def spLaw (K : PySem.W.Frag) : Sp := fun vs H Q _ => ∃ (a : Addr) (ns : List Int), vs = [.ref a] ∧ SqL K H a (ns.map V.int) ∧ ns.length ≤ 63 ∧ ∀ H', Q (.bl true) H'
theorem ok_law {f0 : Addr} {fd0 : FuncData} (F : Fun K "law" "law" s_law f0 fd0) (m_range : mg "range" = none) (m_list : mg "list" = none)  (C__law_store : Cal P w K mg base 1 "_law_store" P__law_store (spStore K)) (C__law_take : Cal P w K mg base 1 "_law_take" P__law_take spTake) (C__law_listed : Cal P w K mg base 2 "_law_listed" P__law_listed (spListed K)) (C__law_houses : Cal P w K mg base 4 "_law_houses" P__law_houses spHouses) (C__law_bent_houses : Cal P w K mg base 6 "_law_bent_houses" P__law_bent_houses (spBentH K)) (C__law_full_list : Cal P w K mg base 6 "_law_full_list" P__law_full_list (spFullL K)) (C__law_list_right : Cal P w K mg base 10 "_law_list_right" P__law_list_right (spListR K)) (C__law_first : Cal P w K mg base 3 "_law_first" P__law_first (spFirst K)) : FnOk P w K mg base CX0 12 f0 fd0 ["script"] (spLaw K) := by
  refine F.ok sc_law (fun vs H Q E h => ?_) (fun cdv A outer s H vs Q E hr h => ?_)
  · obtain ⟨a, ns, rfl, _⟩ := h
    rfl
  obtain ⟨a, ns, rfl, hS, hlen, q⟩ := h
  refine ⟨_, (pss_cons (ps_set (i := 1) sc_law.nd rfl (Or.inl rfl) (pe_cal C__law_store hr (pa_cons (pv 0 (hd := nd_script) (hcd := nc_script)) pa_nil) (hdb := nd__law_store)))
  (pss_cons (ps_set (i := 2) sc_law.nd rfl (Or.inl rfl) (pe_cal C__law_bent_houses hr (pa_cons (pv 1 (hd := nd_store) (hcd := nc_store)) pa_nil) (hdb := nd__law_bent_houses)))
  (C8.pss_cut (ps_if (pt_cmpR op_eq (pe_cal C__law_take hr (pa_cons (pv 1 (hd := nd_store) (hcd := nc_store)) (pa_cons pe_int pa_nil)) (hdb := nd__law_take)) pe_int (nomark _)) (pss_one (ps_set (i := 2) sc_law.nd rfl (Or.inl rfl) (pe_cal C__law_full_list hr (pa_cons (pv 1 (hd := nd_store) (hcd := nc_store)) pa_nil) (hdb := nd__law_full_list)))) pss_nil)
  (pss_cons (ps_set (i := 3) sc_law.nd rfl (Or.inl rfl) (pe_cal C__law_houses hr (pa_cons (pv 1 (hd := nd_store) (hcd := nc_store)) (pa_cons pe_int pa_nil)) (hdb := nd__law_houses)))
  (pss_cons (ps_for PassesOwn.never rfl (pi_range1 (by rfl) m_range (pa_cons pe_int pa_nil)) (pg_name (i := 4) sc_law.nd rfl (Or.inl rfl)) (pss_cons (ps_if (pt_not (pt_val (pe_cal C__law_list_right hr (pa_cons (pe_cal C__law_listed hr (pa_cons (pv 1 (hd := nd_store) (hcd := nc_store)) (pa_cons (pv 2 (hd := nd_row) (hcd := nc_row)) pa_nil)) (hdb := nd__law_listed)) (pa_cons (pe_callTy q_list (by rfl) m_list bb_list (pa_cons (pv 2 (hd := nd_row) (hcd := nc_row)) pa_nil) (hn := nn_list) (hdb := nd_list)) pa_nil)) (hdb := nd__law_list_right)))) (pss_one (ps_ret pe_bl)) pss_nil)
  (pss_cons (ps_if (pt_not (pt_val (pe_cal C__law_list_right hr (pa_cons (pe_cal C__law_listed hr (pa_cons (pv 1 (hd := nd_store) (hcd := nc_store)) (pa_cons (pv 3 (hd := nd_other) (hcd := nc_other)) pa_nil)) (hdb := nd__law_listed)) (pa_cons (pe_callTy q_list (by rfl) m_list bb_list (pa_cons (pv 3 (hd := nd_other) (hcd := nc_other)) pa_nil) (hn := nn_list) (hdb := nd_list)) pa_nil)) (hdb := nd__law_list_right)))) (pss_one (ps_ret pe_bl)) pss_nil)
  (pss_cons (ps_set (i := 5) sc_law.nd rfl (Or.inl rfl) (pe_cal C__law_first hr (pa_cons (pv 2 (hd := nd_row) (hcd := nc_row)) pa_nil) (hdb := nd__law_first)))
  (pss_cons (ps_if (pt_not (pt_val (pe_cal C__law_list_right hr (pa_cons (pe_slice sl_list (pv 2 (hd := nd_row) (hcd := nc_row)) po_none (po_some (pv 5 (hd := nd_at) (hcd := nc_at)))) (pa_cons (pe_slice sl_list (pv 2 (hd := nd_row) (hcd := nc_row)) po_none (po_some (pv 5 (hd := nd_at) (hcd := nc_at)))) pa_nil)) (hdb := nd__law_list_right)))) (pss_one (ps_ret pe_bl)) pss_nil)
  (pss_one (ps_set (i := 2) sc_law.nd rfl (Or.inl rfl) (pe_op op_cat (pe_slice sl_list (pv 2 (hd := nd_row) (hcd := nc_row)) po_none (po_some (pv 5 (hd := nd_at) (hcd := nc_at)))) (pe_slice sl_list (pv 2 (hd := nd_row) (hcd := nc_row)) (po_some (pe_op op_add (pv 5 (hd := nd_at) (hcd := nc_at)) pe_int)) po_none)))))))))
  (pss_one (ps_ret pe_bl))))))), ?_⟩
  refine Rd.at0 (σ := [some (.ref a), none, none, none, none, none]) rfl ?_
  repeat' (walk_at "rd")
  refine ⟨a, ns, rfl, hS, by omega, fun st c H1 s1 f1 o1 => ?_⟩
  repeat' (walk_at "rd")
  refine ⟨st, c, rfl, o1, fun L xs H2 vo lx fL eL g2 => ?_⟩
  have nL := (o1.off fL).1
  repeat' (walk_at "rd")
  refine Rd.cut (fun σ' H' => ∃ (L : Addr) (xs : List V), σ' = [some (.ref a), some (.ref st), some (.ref L), none, none, none] ∧ VOk K (del H' st) xs ∧ xs.length ≤ 60 ∧ L ≠ st ∧ H' L = some (.lst xs) ∧ StoreAt H' st c) ?_ ?_
  · repeat' (walk_at "rd")
    refine ⟨st, c, 4, rfl, g2.ok, by decide, fun r H3 r0 r1 g3 => ?_⟩
    repeat' (walk_at "rd")
    · refine ⟨st, c, rfl, g3.ok, fun L' xs' H4 vo' lx' fL' eL' g4 => ?_⟩
      repeat' (walk_at "rd")
      exact ⟨L', xs', rfl, vo', lx', (g3.ok.off fL').1, eL', g4.ok⟩
    · exact ⟨L, xs, rfl, vo.go g3, lx, nL, g3.keep _ _ nL eL, g3.ok⟩
  clear vo lx fL eL g2 nL
  rintro σ' H3 ⟨L, xs, rfl, vo, lx, nL, eL, o3⟩
  repeat' (walk_at "rd")
  refine ⟨st, c, 9, rfl, o3, by decide, by decide, fun M zs H4 lz nm nd fM g4 eM => ?_⟩
  have nM := (o3.off fM).1
  have voM : VOk K (del H4 st) (zs.map V.str) := VOk.strs (nms_sz nm)
  repeat' (walk_at "rd")
  refine forR (fun i σ H' => ∃ (L : Addr) (xs : List V) (v4 v5 : Option V), σ = [some (.ref a), some (.ref st), some (.ref L), some (.ref M), v4, v5] ∧ VOk K (del H' st) xs ∧ VOk K (del H' st) (zs.map V.str) ∧ xs.length ≤ 60 ∧ L ≠ st ∧ H' L = some (.lst xs) ∧ H' M = some (.lst (zs.map V.str)) ∧ StoreAt H' st c)
    ⟨L, xs, none, none, rfl, vo.go g4, voM, lx, nL, g4.keep _ _ nL eL, eM, g4.ok⟩ ?_ ?_
  · clear eL o3 vo lx nL eM voM g4
    rintro i σ H' hi ⟨L, xs, v4, v5, rfl, vo, voM, lx, nL, eL, eM, o⟩
    repeat' (walk_at "rd")
    refine ⟨st, c, L, xs, rfl, o, eL, nL, fun p H5 hp fp g5 => ?_⟩
    have eL5 := g5.keep _ _ nL eL
    have eM5 := g5.keep _ _ nM eM
    have vo5 := vo.go g5
    have voM5 := voM.go g5
    repeat' (walk_at "rd")
    rename_i l1 n1 G1 t1 e1
    refine ⟨p, l1, xs, rfl, At.same hp t1, e1, (vo5.up t1).full, by omega, fun H6 s6 => ?_⟩
    have t16 := t1.trans s6
    have eL6 := t16 _ _ eL5
    have eM6 := t16 _ _ eM5
    have vo6 := vo5.up t16
    have voM6 := voM5.up t16
    repeat' (walk_at "rd")
    refine ⟨st, c, M, zs.map V.str, rfl, g5.ok.same t16, eM6, nM, fun p2 H7 hp2 fp2 g7 => ?_⟩
    have eL7 := g7.keep _ _ nL eL6
    have eM7 := g7.keep _ _ nM eM6
    have vo7 := vo6.go g7
    have voM7 := voM6.go g7
    repeat' (walk_at "rd")
    rename_i l2 n2 G2 t2 e2
    refine ⟨p2, l2, _, rfl, At.same hp2 t2, e2, (voM7.up t2).full, by rw [List.length_map]; omega, fun H8 s8 => ?_⟩
    have t28 := t2.trans s8
    have eL8 := t28 _ _ eL7
    have eM8 := t28 _ _ eM7
    have vo8 := vo7.up t28
    have voM8 := voM7.up t28
    have o8 := g7.ok.same t28
    repeat' (walk_at "rd")
    refine ⟨L, xs, rfl, eL8, vo8.full, by omega, fun k H9 k0 s9 => ?_⟩
    have eL9 := s9 _ _ eL8
    repeat' (walk_at "rd")
    rename_i l3 n3 G3 t3 e3 l4 n4 G4 t4 e4
    have t94 := (s9.trans t3).trans t4
    have lc := cutV_length xs none (some k)
    refine ⟨l3, l4, cutV xs none (some k), rfl, .inl (t4 _ _ e3), e4, ((vo8.up t94).sub cut_mem).full, by omega, fun H10 s10 => ?_⟩
    have t810 := t94.trans s10
    have eL10 := t810 _ _ eL8
    repeat' (walk_at "rd")
    rename_i l5 n5 G5 t5 e5 l6 n6 G6 t6 e6
    have ct := cut_two (xs := xs) k0
    have lc2 : (cutV xs (some (k + 1)) none).length ≤ (cutV xs (some k) none).length := cut_less k0
    refine cat (t6 _ _ e5) e6 (sz5 (by omega)) ?_
    repeat' (walk_at "rd")
    rename_i l7 n7 G7 t7 e7
    have tt := ((t810.trans t5).trans t6).trans t7
    have o9 := o8.same ((t810.trans t5).trans t6)
    exact ⟨l7, _, _, _, rfl, (((vo8.up tt).sub cut_mem).app ((vo8.up tt).sub cut_mem)), voM8.up tt, by rw [List.length_append]; omega, (o9.off n7).1, e7, tt _ _ eM8, o8.same tt⟩
  · rintro σ H' ⟨L, xs, v4, v5, rfl, vo, voM, lx, nL, eL, eM, o⟩
    repeat' (walk_at "rd")
    exact q _
end
end Kj
namespace Kj
open PySem PySem.Spec PyProof.Rows L2 Rd
/-! ### the classes of errors -/
def dOf (names : List Str) (as : List Addr) (x : Str) : Addr := as.getD (names.idxOf x) 0
theorem dOf_mem : ∀ {names : List Str} {as : List Addr} {x : Str}, x ∈ names → names.length = as.length → (x, dOf names as x) ∈ names.zip as
  | [], _, _, h, _ => nomatch h
  | _ :: _, [], _, _, l => nomatch l
  | n :: ns, a :: as, x, h, l => by
    by_cases e : n = x
    · subst e
      have : dOf (n :: ns) (a :: as) n = a := by
        unfold dOf
        rw [List.idxOf_cons, beq_self_eq_true]
        rfl
      rw [this]
      exact List.mem_cons_self
    · have h' : x ∈ ns := (List.mem_cons.mp h).resolve_left fun z => e z.symm
      have : dOf (n :: ns) (a :: as) x = dOf ns as x := by
        unfold dOf
        rw [List.idxOf_cons, beq_eq_false_iff_ne.mpr e]
        rfl
      rw [this]
      exact List.mem_cons_of_mem _ (dOf_mem h' (Nat.succ.inj l))
theorem dOf_at {names : List Str} {as : List Addr} {x : Str} {a : Addr} (j : Nat) (h : names.idxOf x = j) (e : as[j]? = some a) : dOf names as x = a := by
  unfold dOf
  rw [h, List.getD_eq_getElem?_getD, e]
  rfl
theorem all_nil {α : Type} {Φ : α → Prop} : ∀ q ∈ ([] : List α), Φ q := fun _ h => nomatch h
theorem all_cons {α : Type} {Φ : α → Prop} {p : α} {l : List α} (h : Φ p) (t : ∀ q ∈ l, Φ q) : ∀ q ∈ p :: l, Φ q := fun q hq => (List.mem_cons.mp hq).elim (fun e => e ▸ h) (t q)
theorem isB {K : PySem.W.Frag} {C a : Addr} {x code : Str} {b : Bool} (h : PySem.W.kitOne K (.ref C) (.ref a) = some b) (e : decide (x = code) = b) : PySem.W.kitOne K (.ref C) (.ref a) = some (decide (x = code)) := by rw [e]; exact h
def clsInit (s : Stmt) : Stmt := match s with
  | .ClassDef _ _ _ body _ _ _ _ _ _ _ => body.getD 0 (.Pass ⟨0, 0, 0, 0⟩)
  | _ => .Pass ⟨0, 0, 0, 0⟩
section
variable {P : Program} {w : World} {K : PySem.W.Frag} {mg : Str → Option Value} {base : Heap}
theorem ost {K : PySem.W.Frag} {f : Str} {to te : TE} {D : Ends} {σ : L2.St} {H : Hp} (h : te σ H fun y H1 => to σ H1 fun x H2 => ∃ a C : Addr, x = .ref a ∧ OexC K C ∧ PySem.W.findIn K (.ref C) f = some none ∧
    ((H2 a = some (exo a C none) ∧ ∀ dx, H2 dx = none → dx ≠ a → D.nx σ (upd (upd H2 dx (exd dx [(f, y)])) a (exo a C (some dx)))) ∨
      ∃ (dx : Addr) (fs : List (Str × V)), H2 a = some (exo a C (some dx)) ∧ H2 dx = some (exd dx fs) ∧ fs.length ≤ 900 ∧ D.nx σ (upd H2 dx (exd dx ((f, y) :: fs))))) : tOst K f to te D σ H := h
/-- what the written part says of the class at C -/
structure ClsK (K : PySem.W.Frag) (C : Addr) (f : Str) : Prop where
  ox : OexC K C
  xf : XfC K C
  xk : Ho.XkC K C
  no1 : PySem.W.findIn K (.ref C) "code" = some none
  no2 : PySem.W.findIn K (.ref C) f = some none
theorem clsK {C : Addr} {f : Str} {nm q : Str} {N B : Addr} {bs : List Value} {sn : List Str} {sub : List Value} {ab : Bool} {col : Option Bool} {dd : Option Addr} {m0 m1 m2 m3 m5 : Option Value}
    (xL : K.lookup C = some (excClassObj nm q C N bs [.ref B, .type "ValueError", .type "Exception", .type "BaseException", .type "object"] true sn sub ab col dd m0 m1 m2 m3 m5 "ValueError.__new__"))
    (sa : PySem.W.findIn K (.ref C) "__setattr__" = some (some (.builtin "object.__setattr__"))) (ga : PySem.W.findIn K (.ref C) "__getattribute__" = some (some (.builtin "BaseException.__getattribute__"))) (gg : PySem.W.findIn K (.ref C) "__getattr__" = some none)
    (n1 : PySem.W.findIn K (.ref C) "code" = some none) (n2 : PySem.W.findIn K (.ref C) f = some none) (kC : PySem.W.keepIn K (.ref C) = true) (eC : PySem.W.subIn K (.ref C) (.type "BaseException") = some true) (tC : PySem.W.typeIn K (.ref C) = some (.type "type")) (hC : PySem.W.hasDictIn K C = true)
    (cl : PySem.W.isClsIn K C = true) (ca : PySem.W.findIn K (.ref C) "__class__" = some (some (.builtin "object.__class__"))) (ob : PySem.W.mroIn K C (.type "object") = some true) : ClsK K C f :=
  ⟨⟨⟨nm, q, N, bs, _, sn, sub, ab, col, dd, m0, m1, m2, m3, m5, xL, rfl⟩, sa, eC, tC, kC⟩, ⟨ga, gg, eC, hC⟩, ⟨cl, ca, ob⟩, n1, n2⟩
abbrev i_BadName : Stmt := clsInit (topS 2)
theorem sci_BadName : FnScope ["self", "word"] ["self", "word"] (defScope i_BadName) := ⟨rfl, rfl, rfl, by decide +kernel, rfl, by decide +kernel, by decide +kernel⟩
theorem bdi_BadName : ∀ (kV doc pm : Value) (an : Option Addr) (cdv ct : Value) (us : List Value), us.length = (["self", "word"] : List Str).length → bindArgs (PySem.W.fnOf "__init__" "BadName.__init__" (defArgs i_BadName) (defBody i_BadName) (defScope i_BadName) .none kV doc pm an cdv ct) ⟨us, []⟩ = pure ((["self", "word"] : List Str).zip us) := fun _ _ _ _ _ _ us hl => match us, hl with | [_, _], _ => rfl
theorem ok_init_BadName {C fI : Addr} {fd : FuncData} (F : Fun K "__init__" "BadName.__init__" i_BadName fI fd) : FnOk P w K mg base CX0 1 fI fd ["self", "word"] (Ho.spInit K C "BadName" "word") := by
  refine F.ok sci_BadName (fun vs H Q E h => ?_) (fun cdv A outer s H vs Q E hr h => ?_)
  · obtain ⟨a, y, rfl, _⟩ := h
    rfl
  obtain ⟨a, y, rfl, hH, ox, n1, n2, q⟩ := h
  refine ⟨_, pss_cons (ps_ost (pv 0) pe_str) (pss_one (ps_ost (pv 0) (pv 1))), ?_⟩
  refine Rd.at0 (σ := [some (.ref a), some y]) rfl ?_
  refine Rd.seq (ost ?_)
  refine ⟨_, rfl, a, C, rfl, ox, n1, .inl ⟨hH, fun dx nd ne => ?_⟩⟩
  dsimp only
  refine ost ?_
  refine ⟨_, rfl, _, rfl, a, C, rfl, ox, n2, .inr ⟨dx, _, upd_same, (upd_ne ne).trans upd_same, by decide, q dx nd ne⟩⟩
theorem err_BadName {C fI : Addr} {oc : Value} {od an : Option Addr} {osl : Array (Option Value)} {kV doc pm cdv ct : Value} (gC : mg "BadName" = some (.ref C)) (k : ClsK K C "word") (iC : PySem.W.findIn K (.ref C) "__init__" = some (some (.ref fI))) (tI : PySem.W.typeIn K (.ref fI) = some (.type "function"))
    (l : K.lookup fI = some ⟨oc, od, .func (PySem.W.fnOf "__init__" "BadName.__init__" (defArgs i_BadName) (defBody i_BadName) (defScope i_BadName) .none kV doc pm an cdv ct), osl⟩) (c : PySem.W.codeIn K cdv "BadName.__init__" = true) (kI : PySem.W.keepIn K (.ref fI) = true) : ∀ base : Heap, Ho.ErrC P w K mg base "BadName" C "word" := fun base =>
  ⟨gC, k.ox, k.xf, k.no1, k.no2, fI, _, iC, tI, ok_init_BadName (fun_mk l c kI), (fun_mk l c kI).binds bdi_BadName⟩
abbrev i_Taken : Stmt := clsInit (topS 6)
theorem sci_Taken : FnScope ["self", "word"] ["self", "word"] (defScope i_Taken) := ⟨rfl, rfl, rfl, by decide +kernel, rfl, by decide +kernel, by decide +kernel⟩
theorem bdi_Taken : ∀ (kV doc pm : Value) (an : Option Addr) (cdv ct : Value) (us : List Value), us.length = (["self", "word"] : List Str).length → bindArgs (PySem.W.fnOf "__init__" "Taken.__init__" (defArgs i_Taken) (defBody i_Taken) (defScope i_Taken) .none kV doc pm an cdv ct) ⟨us, []⟩ = pure ((["self", "word"] : List Str).zip us) := fun _ _ _ _ _ _ us hl => match us, hl with | [_, _], _ => rfl
theorem ok_init_Taken {C fI : Addr} {fd : FuncData} (F : Fun K "__init__" "Taken.__init__" i_Taken fI fd) : FnOk P w K mg base CX0 1 fI fd ["self", "word"] (Ho.spInit K C "Taken" "word") := by
  refine F.ok sci_Taken (fun vs H Q E h => ?_) (fun cdv A outer s H vs Q E hr h => ?_)
  · obtain ⟨a, y, rfl, _⟩ := h
    rfl
  obtain ⟨a, y, rfl, hH, ox, n1, n2, q⟩ := h
  refine ⟨_, pss_cons (ps_ost (pv 0) pe_str) (pss_one (ps_ost (pv 0) (pv 1))), ?_⟩
  refine Rd.at0 (σ := [some (.ref a), some y]) rfl ?_
  refine Rd.seq (ost ?_)
  refine ⟨_, rfl, a, C, rfl, ox, n1, .inl ⟨hH, fun dx nd ne => ?_⟩⟩
  dsimp only
  refine ost ?_
  refine ⟨_, rfl, _, rfl, a, C, rfl, ox, n2, .inr ⟨dx, _, upd_same, (upd_ne ne).trans upd_same, by decide, q dx nd ne⟩⟩
theorem err_Taken {C fI : Addr} {oc : Value} {od an : Option Addr} {osl : Array (Option Value)} {kV doc pm cdv ct : Value} (gC : mg "Taken" = some (.ref C)) (k : ClsK K C "word") (iC : PySem.W.findIn K (.ref C) "__init__" = some (some (.ref fI))) (tI : PySem.W.typeIn K (.ref fI) = some (.type "function"))
    (l : K.lookup fI = some ⟨oc, od, .func (PySem.W.fnOf "__init__" "Taken.__init__" (defArgs i_Taken) (defBody i_Taken) (defScope i_Taken) .none kV doc pm an cdv ct), osl⟩) (c : PySem.W.codeIn K cdv "Taken.__init__" = true) (kI : PySem.W.keepIn K (.ref fI) = true) : ∀ base : Heap, Ho.ErrC P w K mg base "Taken" C "word" := fun base =>
  ⟨gC, k.ox, k.xf, k.no1, k.no2, fI, _, iC, tI, ok_init_Taken (fun_mk l c kI), (fun_mk l c kI).binds bdi_Taken⟩
abbrev i_TooMany : Stmt := clsInit (topS 14)
theorem sci_TooMany : FnScope ["self", "bound"] ["self", "bound"] (defScope i_TooMany) := ⟨rfl, rfl, rfl, by decide +kernel, rfl, by decide +kernel, by decide +kernel⟩
theorem bdi_TooMany : ∀ (kV doc pm : Value) (an : Option Addr) (cdv ct : Value) (us : List Value), us.length = (["self", "bound"] : List Str).length → bindArgs (PySem.W.fnOf "__init__" "TooMany.__init__" (defArgs i_TooMany) (defBody i_TooMany) (defScope i_TooMany) .none kV doc pm an cdv ct) ⟨us, []⟩ = pure ((["self", "bound"] : List Str).zip us) := fun _ _ _ _ _ _ us hl => match us, hl with | [_, _], _ => rfl
theorem ok_init_TooMany {C fI : Addr} {fd : FuncData} (F : Fun K "__init__" "TooMany.__init__" i_TooMany fI fd) : FnOk P w K mg base CX0 1 fI fd ["self", "bound"] (Ho.spInit K C "TooMany" "bound") := by
  refine F.ok sci_TooMany (fun vs H Q E h => ?_) (fun cdv A outer s H vs Q E hr h => ?_)
  · obtain ⟨a, y, rfl, _⟩ := h
    rfl
  obtain ⟨a, y, rfl, hH, ox, n1, n2, q⟩ := h
  refine ⟨_, pss_cons (ps_ost (pv 0) pe_str) (pss_one (ps_ost (pv 0) (pv 1))), ?_⟩
  refine Rd.at0 (σ := [some (.ref a), some y]) rfl ?_
  refine Rd.seq (ost ?_)
  refine ⟨_, rfl, a, C, rfl, ox, n1, .inl ⟨hH, fun dx nd ne => ?_⟩⟩
  dsimp only
  refine ost ?_
  refine ⟨_, rfl, _, rfl, a, C, rfl, ox, n2, .inr ⟨dx, _, upd_same, (upd_ne ne).trans upd_same, by decide, q dx nd ne⟩⟩
theorem err_TooMany {C fI : Addr} {oc : Value} {od an : Option Addr} {osl : Array (Option Value)} {kV doc pm cdv ct : Value} (gC : mg "TooMany" = some (.ref C)) (k : ClsK K C "bound") (iC : PySem.W.findIn K (.ref C) "__init__" = some (some (.ref fI))) (tI : PySem.W.typeIn K (.ref fI) = some (.type "function"))
    (l : K.lookup fI = some ⟨oc, od, .func (PySem.W.fnOf "__init__" "TooMany.__init__" (defArgs i_TooMany) (defBody i_TooMany) (defScope i_TooMany) .none kV doc pm an cdv ct), osl⟩) (c : PySem.W.codeIn K cdv "TooMany.__init__" = true) (kI : PySem.W.keepIn K (.ref fI) = true) : ∀ base : Heap, Ho.ErrC P w K mg base "TooMany" C "bound" := fun base =>
  ⟨gC, k.ox, k.xf, k.no1, k.no2, fI, _, iC, tI, ok_init_TooMany (fun_mk l c kI), (fun_mk l c kI).binds bdi_TooMany⟩
end
/-! ### the top -/
theorem bd_is_name : ∀ (kV doc pm : Value) (an : Option Addr) (cdv ct : Value) (us : List Value), us.length = P_is_name.length → bindArgs (PySem.W.fnOf "is_name" "is_name" (defArgs s_is_name) (defBody s_is_name) (defScope s_is_name) .none kV doc pm an cdv ct) ⟨us, []⟩ = pure (P_is_name.zip us) := fun _ _ _ _ _ _ us hl => match us, hl with | [_], _ => rfl
theorem bd_check_name : ∀ (kV doc pm : Value) (an : Option Addr) (cdv ct : Value) (us : List Value), us.length = P_check_name.length → bindArgs (PySem.W.fnOf "check_name" "check_name" (defArgs s_check_name) (defBody s_check_name) (defScope s_check_name) .none kV doc pm an cdv ct) ⟨us, []⟩ = pure (P_check_name.zip us) := fun _ _ _ _ _ _ us hl => match us, hl with | [_], _ => rfl
theorem bd_check_houses : ∀ (kV doc pm : Value) (an : Option Addr) (cdv ct : Value) (us : List Value), us.length = P_check_houses.length → bindArgs (PySem.W.fnOf "check_houses" "check_houses" (defArgs s_check_houses) (defBody s_check_houses) (defScope s_check_houses) .none kV doc pm an cdv ct) ⟨us, []⟩ = pure (P_check_houses.zip us) := fun _ _ _ _ _ _ us hl => match us, hl with | [_], _ => rfl
theorem bd__law_store : ∀ (kV doc pm : Value) (an : Option Addr) (cdv ct : Value) (us : List Value), us.length = P__law_store.length → bindArgs (PySem.W.fnOf "_law_store" "_law_store" (defArgs s__law_store) (defBody s__law_store) (defScope s__law_store) .none kV doc pm an cdv ct) ⟨us, []⟩ = pure (P__law_store.zip us) := fun _ _ _ _ _ _ us hl => match us, hl with | [_], _ => rfl
theorem bd__law_take : ∀ (kV doc pm : Value) (an : Option Addr) (cdv ct : Value) (us : List Value), us.length = P__law_take.length → bindArgs (PySem.W.fnOf "_law_take" "_law_take" (defArgs s__law_take) (defBody s__law_take) (defScope s__law_take) .none kV doc pm an cdv ct) ⟨us, []⟩ = pure (P__law_take.zip us) := fun _ _ _ _ _ _ us hl => match us, hl with | [_, _], _ => rfl
theorem bd__law_between : ∀ (kV doc pm : Value) (an : Option Addr) (cdv ct : Value) (us : List Value), us.length = P__law_between.length → bindArgs (PySem.W.fnOf "_law_between" "_law_between" (defArgs s__law_between) (defBody s__law_between) (defScope s__law_between) .none kV doc pm an cdv ct) ⟨us, []⟩ = pure (P__law_between.zip us) := fun _ _ _ _ _ _ us hl => match us, hl with | [_, _, _], _ => rfl
theorem bd__law_pick : ∀ (kV doc pm : Value) (an : Option Addr) (cdv ct : Value) (us : List Value), us.length = P__law_pick.length → bindArgs (PySem.W.fnOf "_law_pick" "_law_pick" (defArgs s__law_pick) (defBody s__law_pick) (defScope s__law_pick) .none kV doc pm an cdv ct) ⟨us, []⟩ = pure (P__law_pick.zip us) := fun _ _ _ _ _ _ us hl => match us, hl with | [_, _], _ => rfl
theorem bd__law_shuffled : ∀ (kV doc pm : Value) (an : Option Addr) (cdv ct : Value) (us : List Value), us.length = P__law_shuffled.length → bindArgs (PySem.W.fnOf "_law_shuffled" "_law_shuffled" (defArgs s__law_shuffled) (defBody s__law_shuffled) (defScope s__law_shuffled) .none kV doc pm an cdv ct) ⟨us, []⟩ = pure (P__law_shuffled.zip us) := fun _ _ _ _ _ _ us hl => match us, hl with | [_, _], _ => rfl
theorem bd__law_listed : ∀ (kV doc pm : Value) (an : Option Addr) (cdv ct : Value) (us : List Value), us.length = P__law_listed.length → bindArgs (PySem.W.fnOf "_law_listed" "_law_listed" (defArgs s__law_listed) (defBody s__law_listed) (defScope s__law_listed) .none kV doc pm an cdv ct) ⟨us, []⟩ = pure (P__law_listed.zip us) := fun _ _ _ _ _ _ us hl => match us, hl with | [_, _], _ => rfl
theorem bd__law_is_integer : ∀ (kV doc pm : Value) (an : Option Addr) (cdv ct : Value) (us : List Value), us.length = P__law_is_integer.length → bindArgs (PySem.W.fnOf "_law_is_integer" "_law_is_integer" (defArgs s__law_is_integer) (defBody s__law_is_integer) (defScope s__law_is_integer) .none kV doc pm an cdv ct) ⟨us, []⟩ = pure (P__law_is_integer.zip us) := fun _ _ _ _ _ _ us hl => match us, hl with | [_], _ => rfl
theorem bd__law_same : ∀ (kV doc pm : Value) (an : Option Addr) (cdv ct : Value) (us : List Value), us.length = P__law_same.length → bindArgs (PySem.W.fnOf "_law_same" "_law_same" (defArgs s__law_same) (defBody s__law_same) (defScope s__law_same) .none kV doc pm an cdv ct) ⟨us, []⟩ = pure (P__law_same.zip us) := fun _ _ _ _ _ _ us hl => match us, hl with | [_, _], _ => rfl
theorem bd__law_frozen : ∀ (kV doc pm : Value) (an : Option Addr) (cdv ct : Value) (us : List Value), us.length = P__law_frozen.length → bindArgs (PySem.W.fnOf "_law_frozen" "_law_frozen" (defArgs s__law_frozen) (defBody s__law_frozen) (defScope s__law_frozen) .none kV doc pm an cdv ct) ⟨us, []⟩ = pure (P__law_frozen.zip us) := fun _ _ _ _ _ _ us hl => match us, hl with | [_], _ => rfl
theorem bd__law_is_name : ∀ (kV doc pm : Value) (an : Option Addr) (cdv ct : Value) (us : List Value), us.length = P__law_is_name.length → bindArgs (PySem.W.fnOf "_law_is_name" "_law_is_name" (defArgs s__law_is_name) (defBody s__law_is_name) (defScope s__law_is_name) .none kV doc pm an cdv ct) ⟨us, []⟩ = pure (P__law_is_name.zip us) := fun _ _ _ _ _ _ us hl => match us, hl with | [_], _ => rfl
theorem bd__law_name : ∀ (kV doc pm : Value) (an : Option Addr) (cdv ct : Value) (us : List Value), us.length = P__law_name.length → bindArgs (PySem.W.fnOf "_law_name" "_law_name" (defArgs s__law_name) (defBody s__law_name) (defScope s__law_name) .none kV doc pm an cdv ct) ⟨us, []⟩ = pure (P__law_name.zip us) := fun _ _ _ _ _ _ us hl => match us, hl with | [_], _ => rfl
theorem bd__law_names : ∀ (kV doc pm : Value) (an : Option Addr) (cdv ct : Value) (us : List Value), us.length = P__law_names.length → bindArgs (PySem.W.fnOf "_law_names" "_law_names" (defArgs s__law_names) (defBody s__law_names) (defScope s__law_names) .none kV doc pm an cdv ct) ⟨us, []⟩ = pure (P__law_names.zip us) := fun _ _ _ _ _ _ us hl => match us, hl with | [_, _], _ => rfl
theorem bd__law_new_name : ∀ (kV doc pm : Value) (an : Option Addr) (cdv ct : Value) (us : List Value), us.length = P__law_new_name.length → bindArgs (PySem.W.fnOf "_law_new_name" "_law_new_name" (defArgs s__law_new_name) (defBody s__law_new_name) (defScope s__law_new_name) .none kV doc pm an cdv ct) ⟨us, []⟩ = pure (P__law_new_name.zip us) := fun _ _ _ _ _ _ us hl => match us, hl with | [_, _], _ => rfl
theorem bd__law_bad_word : ∀ (kV doc pm : Value) (an : Option Addr) (cdv ct : Value) (us : List Value), us.length = P__law_bad_word.length → bindArgs (PySem.W.fnOf "_law_bad_word" "_law_bad_word" (defArgs s__law_bad_word) (defBody s__law_bad_word) (defScope s__law_bad_word) .none kV doc pm an cdv ct) ⟨us, []⟩ = pure (P__law_bad_word.zip us) := fun _ _ _ _ _ _ us hl => match us, hl with | [_], _ => rfl
theorem bd__law_not_name : ∀ (kV doc pm : Value) (an : Option Addr) (cdv ct : Value) (us : List Value), us.length = P__law_not_name.length → bindArgs (PySem.W.fnOf "_law_not_name" "_law_not_name" (defArgs s__law_not_name) (defBody s__law_not_name) (defScope s__law_not_name) .none kV doc pm an cdv ct) ⟨us, []⟩ = pure (P__law_not_name.zip us) := fun _ _ _ _ _ _ us hl => match us, hl with | [_], _ => rfl
theorem bd__law_houses : ∀ (kV doc pm : Value) (an : Option Addr) (cdv ct : Value) (us : List Value), us.length = P__law_houses.length → bindArgs (PySem.W.fnOf "_law_houses" "_law_houses" (defArgs s__law_houses) (defBody s__law_houses) (defScope s__law_houses) .none kV doc pm an cdv ct) ⟨us, []⟩ = pure (P__law_houses.zip us) := fun _ _ _ _ _ _ us hl => match us, hl with | [_, _], _ => rfl
theorem bd__law_bent_houses : ∀ (kV doc pm : Value) (an : Option Addr) (cdv ct : Value) (us : List Value), us.length = P__law_bent_houses.length → bindArgs (PySem.W.fnOf "_law_bent_houses" "_law_bent_houses" (defArgs s__law_bent_houses) (defBody s__law_bent_houses) (defScope s__law_bent_houses) .none kV doc pm an cdv ct) ⟨us, []⟩ = pure (P__law_bent_houses.zip us) := fun _ _ _ _ _ _ us hl => match us, hl with | [_], _ => rfl
theorem bd__law_due_houses : ∀ (kV doc pm : Value) (an : Option Addr) (cdv ct : Value) (us : List Value), us.length = P__law_due_houses.length → bindArgs (PySem.W.fnOf "_law_due_houses" "_law_due_houses" (defArgs s__law_due_houses) (defBody s__law_due_houses) (defScope s__law_due_houses) .none kV doc pm an cdv ct) ⟨us, []⟩ = pure (P__law_due_houses.zip us) := fun _ _ _ _ _ _ us hl => match us, hl with | [_], _ => rfl
theorem bd__law_refusal : ∀ (kV doc pm : Value) (an : Option Addr) (cdv ct : Value) (us : List Value), us.length = P__law_refusal.length → bindArgs (PySem.W.fnOf "_law_refusal" "_law_refusal" (defArgs s__law_refusal) (defBody s__law_refusal) (defScope s__law_refusal) .none kV doc pm an cdv ct) ⟨us, []⟩ = pure (P__law_refusal.zip us) := fun _ _ _ _ _ _ us hl => match us, hl with | [_, _], _ => rfl
theorem bd__law_full_list : ∀ (kV doc pm : Value) (an : Option Addr) (cdv ct : Value) (us : List Value), us.length = P__law_full_list.length → bindArgs (PySem.W.fnOf "_law_full_list" "_law_full_list" (defArgs s__law_full_list) (defBody s__law_full_list) (defScope s__law_full_list) .none kV doc pm an cdv ct) ⟨us, []⟩ = pure (P__law_full_list.zip us) := fun _ _ _ _ _ _ us hl => match us, hl with | [_], _ => rfl
theorem bd__law_checked : ∀ (kV doc pm : Value) (an : Option Addr) (cdv ct : Value) (us : List Value), us.length = P__law_checked.length → bindArgs (PySem.W.fnOf "_law_checked" "_law_checked" (defArgs s__law_checked) (defBody s__law_checked) (defScope s__law_checked) .none kV doc pm an cdv ct) ⟨us, []⟩ = pure (P__law_checked.zip us) := fun _ _ _ _ _ _ us hl => match us, hl with | [_], _ => rfl
theorem bd__law_listed_right : ∀ (kV doc pm : Value) (an : Option Addr) (cdv ct : Value) (us : List Value), us.length = P__law_listed_right.length → bindArgs (PySem.W.fnOf "_law_listed_right" "_law_listed_right" (defArgs s__law_listed_right) (defBody s__law_listed_right) (defScope s__law_listed_right) .none kV doc pm an cdv ct) ⟨us, []⟩ = pure (P__law_listed_right.zip us) := fun _ _ _ _ _ _ us hl => match us, hl with | [_, _], _ => rfl
theorem bd__law_list_right : ∀ (kV doc pm : Value) (an : Option Addr) (cdv ct : Value) (us : List Value), us.length = P__law_list_right.length → bindArgs (PySem.W.fnOf "_law_list_right" "_law_list_right" (defArgs s__law_list_right) (defBody s__law_list_right) (defScope s__law_list_right) .none kV doc pm an cdv ct) ⟨us, []⟩ = pure (P__law_list_right.zip us) := fun _ _ _ _ _ _ us hl => match us, hl with | [_, _], _ => rfl
theorem bd__law_first : ∀ (kV doc pm : Value) (an : Option Addr) (cdv ct : Value) (us : List Value), us.length = P__law_first.length → bindArgs (PySem.W.fnOf "_law_first" "_law_first" (defArgs s__law_first) (defBody s__law_first) (defScope s__law_first) .none kV doc pm an cdv ct) ⟨us, []⟩ = pure (P__law_first.zip us) := fun _ _ _ _ _ _ us hl => match us, hl with | [_], _ => rfl
theorem bd_law : ∀ (kV doc pm : Value) (an : Option Addr) (cdv ct : Value) (us : List Value), us.length = P_law.length → bindArgs (PySem.W.fnOf "law" "law" (defArgs s_law) (defBody s_law) (defScope s_law) .none kV doc pm an cdv ct) ⟨us, []⟩ = pure (P_law.zip us) := fun _ _ _ _ _ _ us hl => match us, hl with | [_], _ => rfl
theorem all_mk {l : PySem.W.OpenLaw} {w : World} {K : PySem.W.Frag} {h : Heap} {mg : Str → Option Value} {fa f0 : Addr} (X : K.In h) (G : h.Ns mainGlobals mg) (hfa : mg "law" = some (.ref fa))
    (D_is_name : Def K mg "is_name" s_is_name P_is_name) (D_check_name : Def K mg "check_name" s_check_name P_check_name) (D_check_houses : Def K mg "check_houses" s_check_houses P_check_houses) (D__law_store : Def K mg "_law_store" s__law_store P__law_store) (D__law_take : Def K mg "_law_take" s__law_take P__law_take) (D__law_between : Def K mg "_law_between" s__law_between P__law_between) (D__law_pick : Def K mg "_law_pick" s__law_pick P__law_pick) (D__law_shuffled : Def K mg "_law_shuffled" s__law_shuffled P__law_shuffled) (D__law_listed : Def K mg "_law_listed" s__law_listed P__law_listed) (D__law_is_integer : Def K mg "_law_is_integer" s__law_is_integer P__law_is_integer) (D__law_same : Def K mg "_law_same" s__law_same P__law_same) (D__law_frozen : Def K mg "_law_frozen" s__law_frozen P__law_frozen) (D__law_is_name : Def K mg "_law_is_name" s__law_is_name P__law_is_name) (D__law_name : Def K mg "_law_name" s__law_name P__law_name) (D__law_names : Def K mg "_law_names" s__law_names P__law_names) (D__law_new_name : Def K mg "_law_new_name" s__law_new_name P__law_new_name) (D__law_bad_word : Def K mg "_law_bad_word" s__law_bad_word P__law_bad_word) (D__law_not_name : Def K mg "_law_not_name" s__law_not_name P__law_not_name) (D__law_houses : Def K mg "_law_houses" s__law_houses P__law_houses) (D__law_bent_houses : Def K mg "_law_bent_houses" s__law_bent_houses P__law_bent_houses) (D__law_due_houses : Def K mg "_law_due_houses" s__law_due_houses P__law_due_houses) (D__law_refusal : Def K mg "_law_refusal" s__law_refusal P__law_refusal) (D__law_full_list : Def K mg "_law_full_list" s__law_full_list P__law_full_list) (D__law_checked : Def K mg "_law_checked" s__law_checked P__law_checked) (D__law_listed_right : Def K mg "_law_listed_right" s__law_listed_right P__law_listed_right) (D__law_list_right : Def K mg "_law_list_right" s__law_list_right P__law_list_right) (D__law_first : Def K mg "_law_first" s__law_first P__law_first)
    {od an : Option Addr} {sl : Array (Option Value)} {oc kV dc pm cd ct : Value} (aL : PySem.W.nsIn K mainGlobals "law" = some (some (.ref f0)))
    (lL : K.lookup f0 = some ⟨oc, od, .func (PySem.W.fnOf "law" "law" (defArgs s_law) (defBody s_law) (defScope s_law) .none kV dc pm an cd ct), sl⟩) (cL : PySem.W.codeIn K cd "law" = true) (kL : PySem.W.keepIn K (.ref f0) = true)
    (m_isinstance : mg "isinstance" = none) (m_str : mg "str" = none) (m_len : mg "len" = none) (m_all : mg "all" = none) (m_sorted : mg "sorted" = none) (m_list : mg "list" = none) (m_int : mg "int" = none) (m_reversed : mg "reversed" = none) (m_range : mg "range" = none) (m_tuple : mg "tuple" = none) (m_bool : mg "bool" = none) (m_dict : mg "dict" = none) (m_ValueError : mg "ValueError" = none) (c_LONGEST_NAME : ∃ t, mg "LONGEST_NAME" = some (.int 12 t)) (c_MOST_HOUSES : ∃ t, mg "MOST_HOUSES" = some (.int 32 t)) {k0 k1 k2 k3 k4 k5 k6 k7 k8 k9 k10 k11 k12 k13 k14 k15 k16 k17 k18 k19 k20 k21 : Addr} (z : ∀ q ∈ Classes.zip [k0, k1, k2, k3, k4, k5, k6, k7, k8, k9, k10, k11, k12, k13, k14, k15, k16, k17, k18, k19, k20, k21], mg q.1 = some (.ref q.2)) (xo : Ho.XkO K)
    (e_BadName : ∀ base, Ho.ErrC l.prog w K mg base "BadName" k1 "word") (t_BadName : ClsK K k1 "word") (i_BadName : ∀ q ∈ Classes.zip [k0, k1, k2, k3, k4, k5, k6, k7, k8, k9, k10, k11, k12, k13, k14, k15, k16, k17, k18, k19, k20, k21], q.1 = "KeptError" ∨ PySem.W.kitOne K (.ref k1) (.ref q.2) = some (decide (q.1 = "BadName"))) (v_BadName : PySem.W.kitOne K (.ref k1) (.type "ValueError") = some true) (xm_BadName : PySem.W.exmOne K (.ref k1) (.ref k0) = some true) (xs_BadName : PySem.W.exmOne K (.ref k1) (.ref k1) = some true)
    (e_Taken : ∀ base, Ho.ErrC l.prog w K mg base "Taken" k5 "word") (t_Taken : ClsK K k5 "word") (i_Taken : ∀ q ∈ Classes.zip [k0, k1, k2, k3, k4, k5, k6, k7, k8, k9, k10, k11, k12, k13, k14, k15, k16, k17, k18, k19, k20, k21], q.1 = "KeptError" ∨ PySem.W.kitOne K (.ref k5) (.ref q.2) = some (decide (q.1 = "Taken"))) (v_Taken : PySem.W.kitOne K (.ref k5) (.type "ValueError") = some true) (xm_Taken : PySem.W.exmOne K (.ref k5) (.ref k0) = some true) (xs_Taken : PySem.W.exmOne K (.ref k5) (.ref k5) = some true)
    (e_TooMany : ∀ base, Ho.ErrC l.prog w K mg base "TooMany" k13 "bound") (t_TooMany : ClsK K k13 "bound") (i_TooMany : ∀ q ∈ Classes.zip [k0, k1, k2, k3, k4, k5, k6, k7, k8, k9, k10, k11, k12, k13, k14, k15, k16, k17, k18, k19, k20, k21], q.1 = "KeptError" ∨ PySem.W.kitOne K (.ref k13) (.ref q.2) = some (decide (q.1 = "TooMany"))) (v_TooMany : PySem.W.kitOne K (.ref k13) (.type "ValueError") = some true) (xm_TooMany : PySem.W.exmOne K (.ref k13) (.ref k0) = some true) (xs_TooMany : PySem.W.exmOne K (.ref k13) (.ref k13) = some true) :
    ∃ fd : FuncData, (∀ (s : Shared) (v : Value), BindsTo s fd ⟨[v], []⟩ [("script", v)]) ∧ ∀ base : Heap, K.In base → base.Ns mainGlobals mg → FnOk l.prog w K mg base CX0 12 fa fd ["script"] (spLaw K) := by
  have e := hfa.symm.trans (PySem.W.mg_of X G aL)
  cases e
  have FL := fun_mk (st := s_law) lL cL kL
  refine ⟨PySem.W.fnOf "law" "law" (defArgs s_law) (defBody s_law) (defScope s_law) .none kV dc pm an cd ct, fun s v => .of_eq rfl, fun base _ _ => ?_⟩
  obtain ⟨D, hD⟩ : ∃ D, D = dOf Classes [k0, k1, k2, k3, k4, k5, k6, k7, k8, k9, k10, k11, k12, k13, k14, k15, k16, k17, k18, k19, k20, k21] := ⟨_, rfl⟩
  have c_cls : ∀ x ∈ Classes, mg x = some (.ref (D x)) := fun x hx => by rw [hD]; exact z _ (dOf_mem hx rfl)
  have d_K : D "KeptError" = k0 := by rw [hD]; exact dOf_at 0 (by decide +kernel) rfl
  have d_BadName : D "BadName" = k1 := by rw [hD]; exact dOf_at 1 (by decide +kernel) rfl
  have T_BadName : Ho.ErrC l.prog w K mg base "BadName" (D "BadName") "word" := by rw [d_BadName]; exact e_BadName base
  have xm_BadName : PySem.W.exmOne K (.ref (D "BadName")) (.ref (D "KeptError")) = some true := by rw [d_BadName, d_K]; exact xm_BadName
  have xs_BadName : PySem.W.exmOne K (.ref (D "BadName")) (.ref (D "BadName")) = some true := by rw [d_BadName]; exact xs_BadName
  have kn_BadName : Ho.Knd K D Kinds (D "BadName") "BadName" "word" := by
    rw [d_BadName]
    refine ⟨t_BadName.xf, t_BadName.xk, xo, t_BadName.no2, t_BadName.no1, fun y hy => ?_, v_BadName⟩
    rw [hD]
    rcases i_BadName _ (dOf_mem (List.mem_cons_of_mem _ hy) rfl) with e | e
    · exact absurd e ((by decide +kernel : ∀ y ∈ Kinds, y ≠ "KeptError") y hy)
    · exact e
  have d_Taken : D "Taken" = k5 := by rw [hD]; exact dOf_at 5 (by decide +kernel) rfl
  have T_Taken : Ho.ErrC l.prog w K mg base "Taken" (D "Taken") "word" := by rw [d_Taken]; exact e_Taken base
  have xm_Taken : PySem.W.exmOne K (.ref (D "Taken")) (.ref (D "KeptError")) = some true := by rw [d_Taken, d_K]; exact xm_Taken
  have xs_Taken : PySem.W.exmOne K (.ref (D "Taken")) (.ref (D "Taken")) = some true := by rw [d_Taken]; exact xs_Taken
  have kn_Taken : Ho.Knd K D Kinds (D "Taken") "Taken" "word" := by
    rw [d_Taken]
    refine ⟨t_Taken.xf, t_Taken.xk, xo, t_Taken.no2, t_Taken.no1, fun y hy => ?_, v_Taken⟩
    rw [hD]
    rcases i_Taken _ (dOf_mem (List.mem_cons_of_mem _ hy) rfl) with e | e
    · exact absurd e ((by decide +kernel : ∀ y ∈ Kinds, y ≠ "KeptError") y hy)
    · exact e
  have d_TooMany : D "TooMany" = k13 := by rw [hD]; exact dOf_at 13 (by decide +kernel) rfl
  have T_TooMany : Ho.ErrC l.prog w K mg base "TooMany" (D "TooMany") "bound" := by rw [d_TooMany]; exact e_TooMany base
  have xm_TooMany : PySem.W.exmOne K (.ref (D "TooMany")) (.ref (D "KeptError")) = some true := by rw [d_TooMany, d_K]; exact xm_TooMany
  have xs_TooMany : PySem.W.exmOne K (.ref (D "TooMany")) (.ref (D "TooMany")) = some true := by rw [d_TooMany]; exact xs_TooMany
  have kn_TooMany : Ho.Knd K D Kinds (D "TooMany") "TooMany" "bound" := by
    rw [d_TooMany]
    refine ⟨t_TooMany.xf, t_TooMany.xk, xo, t_TooMany.no2, t_TooMany.no1, fun y hy => ?_, v_TooMany⟩
    rw [hD]
    rcases i_TooMany _ (dOf_mem (List.mem_cons_of_mem _ hy) rfl) with e | e
    · exact absurd e ((by decide +kernel : ∀ y ∈ Kinds, y ≠ "KeptError") y hy)
    · exact e
  have kn : ∀ p ∈ RefL, Ho.Knd K D Kinds (D p.1) p.1 p.2 := all_cons kn_BadName (all_cons kn_Taken (all_cons kn_TooMany all_nil))
  have xm : ∀ p ∈ RefL, PySem.W.exmOne K (.ref (D p.1)) (.ref (D "KeptError")) = some true := all_cons xm_BadName (all_cons xm_Taken (all_cons xm_TooMany all_nil))
  have C__law_take := ok__law_take (P := l.prog) (w := w) (base := base) D__law_take m_int m_len
  have C__law_between := ok__law_between (P := l.prog) (w := w) (base := base) D__law_between C__law_take
  have C__law_store := ok__law_store (P := l.prog) (w := w) (base := base) D__law_store m_list m_len m_int
  have C__law_shuffled := ok__law_shuffled (P := l.prog) (w := w) (base := base) D__law_shuffled m_list m_reversed m_range m_len C__law_take
  have C__law_is_integer := ok__law_is_integer (P := l.prog) (w := w) (base := base) D__law_is_integer m_isinstance m_int m_bool
  have C__law_same := ok__law_same (P := l.prog) (w := w) (base := base) D__law_same m_isinstance m_bool m_int m_str m_dict m_len m_list m_tuple m_range C__law_is_integer 8
  have C__law_frozen := ok__law_frozen (P := l.prog) (w := w) (base := base) D__law_frozen m_isinstance m_list m_tuple m_dict m_str m_sorted 8
  have C__law_refusal := ok__law_refusal (P := l.prog) (w := w) (base := base) D__law_refusal m_isinstance m_str m_ValueError c_cls
  have C__law_name := ok__law_name (P := l.prog) (w := w) (base := base) D__law_name m_range C__law_take C__law_between
  have C__law_pick := ok__law_pick (P := l.prog) (w := w) (base := base) D__law_pick m_len C__law_take
  have C__law_names := ok__law_names (P := l.prog) (w := w) (base := base) D__law_names m_range m_int C__law_take C__law_pick C__law_shuffled
  have C__law_bad_word := ok__law_bad_word (P := l.prog) (w := w) (base := base) D__law_bad_word m_len C__law_take C__law_between C__law_pick C__law_name
  have C__law_not_name := ok__law_not_name (P := l.prog) (w := w) (base := base) D__law_not_name C__law_take C__law_name C__law_bad_word
  have C__law_is_name := ok__law_is_name (P := l.prog) (w := w) (base := base) D__law_is_name m_isinstance m_str m_len
  have C_is_name := ok_is_name (P := l.prog) (w := w) (base := base) D_is_name m_isinstance m_str m_len m_all c_LONGEST_NAME
  have C_check_name := ok_check_name (P := l.prog) (w := w) (base := base) D_check_name T_BadName C_is_name
  have C_check_houses := ok_check_houses (P := l.prog) (w := w) (base := base) D_check_houses m_len m_sorted m_list c_MOST_HOUSES T_Taken T_TooMany C_check_name
  have C__law_listed := ok__law_listed (P := l.prog) (w := w) (base := base) D__law_listed m_tuple m_list C__law_take
  have C__law_new_name := ok__law_new_name (P := l.prog) (w := w) (base := base) D__law_new_name m_len m_range m_str C__law_take C__law_pick C__law_is_name C__law_name
  have C__law_houses := ok__law_houses (P := l.prog) (w := w) (base := base) D__law_houses C__law_take C__law_between C__law_names
  have C__law_bent_houses := ok__law_bent_houses (P := l.prog) (w := w) (base := base) D__law_bent_houses m_range m_len C__law_take C__law_pick C__law_names C__law_new_name C__law_not_name C__law_houses
  have C__law_due_houses := ok__law_due_houses (P := l.prog) (w := w) (base := base) D__law_due_houses m_len C__law_is_name
  have C__law_full_list := ok__law_full_list (P := l.prog) (w := w) (base := base) D__law_full_list m_range C__law_take C__law_pick C__law_names C__law_new_name C__law_not_name
  have C__law_checked := ok__law_checked (P := l.prog) (w := w) (base := base) D__law_checked c_cls C_check_houses C__law_refusal kn xm
  have C__law_listed_right := ok__law_listed_right (P := l.prog) (w := w) (base := base) D__law_listed_right m_isinstance m_list m_len m_range m_str
  have C__law_list_right := ok__law_list_right (P := l.prog) (w := w) (base := base) D__law_list_right m_range C__law_same C__law_frozen C__law_due_houses C__law_checked C__law_listed_right
  have C__law_first := ok__law_first (P := l.prog) (w := w) (base := base) D__law_first m_range m_len C__law_due_houses
  exact ok_law FL m_range m_list C__law_store C__law_take C__law_listed C__law_houses C__law_bent_houses C__law_full_list C__law_list_right C__law_first
end Kj
open PySem PySem.W PyProof.Rows
set_option maxHeartbeats 0 in
theorem PySem.Challenge.cw_keptjoined_k02_check_houses_holds : PySem.Challenge.rw_keptjoined_k02_check_houses.Holds := by
  w_on; o_law; k_head; (case hw => w_witness2)
  k_fill
  refine L2.walk_of (l := PySem.Challenge.rw_keptjoined_k02_check_houses) (n := 63) (k := 12) (x := "script") (CX := fun _ => L2.CX0) (sp := fun w => Kj.spLaw _) rfl (by decide) rfl ⟨rfl, by decide, by decide⟩ (fun w h Y => PySem.W.kIn_of Y) ?F (fun _ _ a ns hl _ hS => ⟨a, ns, rfl, hS, hl, fun _ => rfl⟩) (fun _ _ _ _ _ h => h)
  case F =>
    intro w mg fa h KX G hmg
    refine' Kj.all_mk KX G hmg (Rd.def_mk KX G ?a0 ?l0 ?c0 ?k0 Kj.bd_is_name) (Rd.def_mk KX G ?a1 ?l1 ?c1 ?k1 Kj.bd_check_name) (Rd.def_mk KX G ?a2 ?l2 ?c2 ?k2 Kj.bd_check_houses) (Rd.def_mk KX G ?a3 ?l3 ?c3 ?k3 Kj.bd__law_store) (Rd.def_mk KX G ?a4 ?l4 ?c4 ?k4 Kj.bd__law_take) (Rd.def_mk KX G ?a5 ?l5 ?c5 ?k5 Kj.bd__law_between) (Rd.def_mk KX G ?a6 ?l6 ?c6 ?k6 Kj.bd__law_pick) (Rd.def_mk KX G ?a7 ?l7 ?c7 ?k7 Kj.bd__law_shuffled) (Rd.def_mk KX G ?a8 ?l8 ?c8 ?k8 Kj.bd__law_listed) (Rd.def_mk KX G ?a9 ?l9 ?c9 ?k9 Kj.bd__law_is_integer) (Rd.def_mk KX G ?a10 ?l10 ?c10 ?k10 Kj.bd__law_same) (Rd.def_mk KX G ?a11 ?l11 ?c11 ?k11 Kj.bd__law_frozen) (Rd.def_mk KX G ?a12 ?l12 ?c12 ?k12 Kj.bd__law_is_name) (Rd.def_mk KX G ?a13 ?l13 ?c13 ?k13 Kj.bd__law_name) (Rd.def_mk KX G ?a14 ?l14 ?c14 ?k14 Kj.bd__law_names) (Rd.def_mk KX G ?a15 ?l15 ?c15 ?k15 Kj.bd__law_new_name) (Rd.def_mk KX G ?a16 ?l16 ?c16 ?k16 Kj.bd__law_bad_word) (Rd.def_mk KX G ?a17 ?l17 ?c17 ?k17 Kj.bd__law_not_name) (Rd.def_mk KX G ?a18 ?l18 ?c18 ?k18 Kj.bd__law_houses) (Rd.def_mk KX G ?a19 ?l19 ?c19 ?k19 Kj.bd__law_bent_houses) (Rd.def_mk KX G ?a20 ?l20 ?c20 ?k20 Kj.bd__law_due_houses) (Rd.def_mk KX G ?a21 ?l21 ?c21 ?k21 Kj.bd__law_refusal) (Rd.def_mk KX G ?a22 ?l22 ?c22 ?k22 Kj.bd__law_full_list) (Rd.def_mk KX G ?a23 ?l23 ?c23 ?k23 Kj.bd__law_checked) (Rd.def_mk KX G ?a24 ?l24 ?c24 ?k24 Kj.bd__law_listed_right) (Rd.def_mk KX G ?a25 ?l25 ?c25 ?k25 Kj.bd__law_list_right) (Rd.def_mk KX G ?a26 ?l26 ?c26 ?k26 Kj.bd__law_first) ?aL ?lL ?cL ?kL (PySem.W.mg_none_of KX G ?z0) (PySem.W.mg_none_of KX G ?z1) (PySem.W.mg_none_of KX G ?z2) (PySem.W.mg_none_of KX G ?z3) (PySem.W.mg_none_of KX G ?z4) (PySem.W.mg_none_of KX G ?z5) (PySem.W.mg_none_of KX G ?z6) (PySem.W.mg_none_of KX G ?z7) (PySem.W.mg_none_of KX G ?z8) (PySem.W.mg_none_of KX G ?z9) (PySem.W.mg_none_of KX G ?z10) (PySem.W.mg_none_of KX G ?z11) (PySem.W.mg_none_of KX G ?z12) ⟨_, PySem.W.mg_of KX G ?y0⟩ ⟨_, PySem.W.mg_of KX G ?y1⟩ (Kj.all_cons (PySem.W.mg_of KX G ?w0) (Kj.all_cons (PySem.W.mg_of KX G ?w1) (Kj.all_cons (PySem.W.mg_of KX G ?w2) (Kj.all_cons (PySem.W.mg_of KX G ?w3) (Kj.all_cons (PySem.W.mg_of KX G ?w4) (Kj.all_cons (PySem.W.mg_of KX G ?w5) (Kj.all_cons (PySem.W.mg_of KX G ?w6) (Kj.all_cons (PySem.W.mg_of KX G ?w7) (Kj.all_cons (PySem.W.mg_of KX G ?w8) (Kj.all_cons (PySem.W.mg_of KX G ?w9) (Kj.all_cons (PySem.W.mg_of KX G ?w10) (Kj.all_cons (PySem.W.mg_of KX G ?w11) (Kj.all_cons (PySem.W.mg_of KX G ?w12) (Kj.all_cons (PySem.W.mg_of KX G ?w13) (Kj.all_cons (PySem.W.mg_of KX G ?w14) (Kj.all_cons (PySem.W.mg_of KX G ?w15) (Kj.all_cons (PySem.W.mg_of KX G ?w16) (Kj.all_cons (PySem.W.mg_of KX G ?w17) (Kj.all_cons (PySem.W.mg_of KX G ?w18) (Kj.all_cons (PySem.W.mg_of KX G ?w19) (Kj.all_cons (PySem.W.mg_of KX G ?w20) (Kj.all_cons (PySem.W.mg_of KX G ?w21) Kj.all_nil)))))))))))))))))))))) ⟨?x1, ?x2⟩ (Kj.err_BadName (PySem.W.mg_of KX G ?w1) (Kj.clsK ?e0_xL ?e0_sa ?e0_ga ?e0_gg ?e0_n1 ?e0_n2 ?e0_kC ?e0_eC ?e0_tC ?e0_hC ?e0_cl ?e0_ca ?e0_ob) ?e0_iC ?e0_tI ?e0_l ?e0_c ?e0_kI) (Kj.clsK ?e0_xL ?e0_sa ?e0_ga ?e0_gg ?e0_n1 ?e0_n2 ?e0_kC ?e0_eC ?e0_tC ?e0_hC ?e0_cl ?e0_ca ?e0_ob) (Kj.all_cons (.inl rfl) (Kj.all_cons (.inr (Kj.isB (x := "BadName") (code := "BadName") (b := true) ?e0_i1 (by decide +kernel))) (Kj.all_cons (.inr (Kj.isB (x := "NoHouse") (code := "BadName") (b := false) ?e0_i2 (by decide +kernel))) (Kj.all_cons (.inr (Kj.isB (x := "NoLine") (code := "BadName") (b := false) ?e0_i3 (by decide +kernel))) (Kj.all_cons (.inr (Kj.isB (x := "SelfLine") (code := "BadName") (b := false) ?e0_i4 (by decide +kernel))) (Kj.all_cons (.inr (Kj.isB (x := "Taken") (code := "BadName") (b := false) ?e0_i5 (by decide +kernel))) (Kj.all_cons (.inr (Kj.isB (x := "SamePart") (code := "BadName") (b := false) ?e0_i6 (by decide +kernel))) (Kj.all_cons (.inr (Kj.isB (x := "NoVersion") (code := "BadName") (b := false) ?e0_i7 (by decide +kernel))) (Kj.all_cons (.inr (Kj.isB (x := "NoStore") (code := "BadName") (b := false) ?e0_i8 (by decide +kernel))) (Kj.all_cons (.inr (Kj.isB (x := "BadNumber") (code := "BadName") (b := false) ?e0_i9 (by decide +kernel))) (Kj.all_cons (.inr (Kj.isB (x := "BadPlace") (code := "BadName") (b := false) ?e0_i10 (by decide +kernel))) (Kj.all_cons (.inr (Kj.isB (x := "NoRow") (code := "BadName") (b := false) ?e0_i11 (by decide +kernel))) (Kj.all_cons (.inr (Kj.isB (x := "NoPaper") (code := "BadName") (b := false) ?e0_i12 (by decide +kernel))) (Kj.all_cons (.inr (Kj.isB (x := "TooMany") (code := "BadName") (b := false) ?e0_i13 (by decide +kernel))) (Kj.all_cons (.inr (Kj.isB (x := "BadDeed") (code := "BadName") (b := false) ?e0_i14 (by decide +kernel))) (Kj.all_cons (.inr (Kj.isB (x := "BadText") (code := "BadName") (b := false) ?e0_i15 (by decide +kernel))) (Kj.all_cons (.inr (Kj.isB (x := "NoSeat") (code := "BadName") (b := false) ?e0_i16 (by decide +kernel))) (Kj.all_cons (.inr (Kj.isB (x := "SeatTaken") (code := "BadName") (b := false) ?e0_i17 (by decide +kernel))) (Kj.all_cons (.inr (Kj.isB (x := "NothingLeft") (code := "BadName") (b := false) ?e0_i18 (by decide +kernel))) (Kj.all_cons (.inr (Kj.isB (x := "OtherHouses") (code := "BadName") (b := false) ?e0_i19 (by decide +kernel))) (Kj.all_cons (.inr (Kj.isB (x := "NoLog") (code := "BadName") (b := false) ?e0_i20 (by decide +kernel))) (Kj.all_cons (.inr (Kj.isB (x := "BadAsk") (code := "BadName") (b := false) ?e0_i21 (by decide +kernel))) Kj.all_nil)))))))))))))))))))))) ?e0_v ?e0_xm ?e0_xs (Kj.err_Taken (PySem.W.mg_of KX G ?w5) (Kj.clsK ?e1_xL ?e1_sa ?e1_ga ?e1_gg ?e1_n1 ?e1_n2 ?e1_kC ?e1_eC ?e1_tC ?e1_hC ?e1_cl ?e1_ca ?e1_ob) ?e1_iC ?e1_tI ?e1_l ?e1_c ?e1_kI) (Kj.clsK ?e1_xL ?e1_sa ?e1_ga ?e1_gg ?e1_n1 ?e1_n2 ?e1_kC ?e1_eC ?e1_tC ?e1_hC ?e1_cl ?e1_ca ?e1_ob) (Kj.all_cons (.inl rfl) (Kj.all_cons (.inr (Kj.isB (x := "BadName") (code := "Taken") (b := false) ?e1_i1 (by decide +kernel))) (Kj.all_cons (.inr (Kj.isB (x := "NoHouse") (code := "Taken") (b := false) ?e1_i2 (by decide +kernel))) (Kj.all_cons (.inr (Kj.isB (x := "NoLine") (code := "Taken") (b := false) ?e1_i3 (by decide +kernel))) (Kj.all_cons (.inr (Kj.isB (x := "SelfLine") (code := "Taken") (b := false) ?e1_i4 (by decide +kernel))) (Kj.all_cons (.inr (Kj.isB (x := "Taken") (code := "Taken") (b := true) ?e1_i5 (by decide +kernel))) (Kj.all_cons (.inr (Kj.isB (x := "SamePart") (code := "Taken") (b := false) ?e1_i6 (by decide +kernel))) (Kj.all_cons (.inr (Kj.isB (x := "NoVersion") (code := "Taken") (b := false) ?e1_i7 (by decide +kernel))) (Kj.all_cons (.inr (Kj.isB (x := "NoStore") (code := "Taken") (b := false) ?e1_i8 (by decide +kernel))) (Kj.all_cons (.inr (Kj.isB (x := "BadNumber") (code := "Taken") (b := false) ?e1_i9 (by decide +kernel))) (Kj.all_cons (.inr (Kj.isB (x := "BadPlace") (code := "Taken") (b := false) ?e1_i10 (by decide +kernel))) (Kj.all_cons (.inr (Kj.isB (x := "NoRow") (code := "Taken") (b := false) ?e1_i11 (by decide +kernel))) (Kj.all_cons (.inr (Kj.isB (x := "NoPaper") (code := "Taken") (b := false) ?e1_i12 (by decide +kernel))) (Kj.all_cons (.inr (Kj.isB (x := "TooMany") (code := "Taken") (b := false) ?e1_i13 (by decide +kernel))) (Kj.all_cons (.inr (Kj.isB (x := "BadDeed") (code := "Taken") (b := false) ?e1_i14 (by decide +kernel))) (Kj.all_cons (.inr (Kj.isB (x := "BadText") (code := "Taken") (b := false) ?e1_i15 (by decide +kernel))) (Kj.all_cons (.inr (Kj.isB (x := "NoSeat") (code := "Taken") (b := false) ?e1_i16 (by decide +kernel))) (Kj.all_cons (.inr (Kj.isB (x := "SeatTaken") (code := "Taken") (b := false) ?e1_i17 (by decide +kernel))) (Kj.all_cons (.inr (Kj.isB (x := "NothingLeft") (code := "Taken") (b := false) ?e1_i18 (by decide +kernel))) (Kj.all_cons (.inr (Kj.isB (x := "OtherHouses") (code := "Taken") (b := false) ?e1_i19 (by decide +kernel))) (Kj.all_cons (.inr (Kj.isB (x := "NoLog") (code := "Taken") (b := false) ?e1_i20 (by decide +kernel))) (Kj.all_cons (.inr (Kj.isB (x := "BadAsk") (code := "Taken") (b := false) ?e1_i21 (by decide +kernel))) Kj.all_nil)))))))))))))))))))))) ?e1_v ?e1_xm ?e1_xs (Kj.err_TooMany (PySem.W.mg_of KX G ?w13) (Kj.clsK ?e2_xL ?e2_sa ?e2_ga ?e2_gg ?e2_n1 ?e2_n2 ?e2_kC ?e2_eC ?e2_tC ?e2_hC ?e2_cl ?e2_ca ?e2_ob) ?e2_iC ?e2_tI ?e2_l ?e2_c ?e2_kI) (Kj.clsK ?e2_xL ?e2_sa ?e2_ga ?e2_gg ?e2_n1 ?e2_n2 ?e2_kC ?e2_eC ?e2_tC ?e2_hC ?e2_cl ?e2_ca ?e2_ob) (Kj.all_cons (.inl rfl) (Kj.all_cons (.inr (Kj.isB (x := "BadName") (code := "TooMany") (b := false) ?e2_i1 (by decide +kernel))) (Kj.all_cons (.inr (Kj.isB (x := "NoHouse") (code := "TooMany") (b := false) ?e2_i2 (by decide +kernel))) (Kj.all_cons (.inr (Kj.isB (x := "NoLine") (code := "TooMany") (b := false) ?e2_i3 (by decide +kernel))) (Kj.all_cons (.inr (Kj.isB (x := "SelfLine") (code := "TooMany") (b := false) ?e2_i4 (by decide +kernel))) (Kj.all_cons (.inr (Kj.isB (x := "Taken") (code := "TooMany") (b := false) ?e2_i5 (by decide +kernel))) (Kj.all_cons (.inr (Kj.isB (x := "SamePart") (code := "TooMany") (b := false) ?e2_i6 (by decide +kernel))) (Kj.all_cons (.inr (Kj.isB (x := "NoVersion") (code := "TooMany") (b := false) ?e2_i7 (by decide +kernel))) (Kj.all_cons (.inr (Kj.isB (x := "NoStore") (code := "TooMany") (b := false) ?e2_i8 (by decide +kernel))) (Kj.all_cons (.inr (Kj.isB (x := "BadNumber") (code := "TooMany") (b := false) ?e2_i9 (by decide +kernel))) (Kj.all_cons (.inr (Kj.isB (x := "BadPlace") (code := "TooMany") (b := false) ?e2_i10 (by decide +kernel))) (Kj.all_cons (.inr (Kj.isB (x := "NoRow") (code := "TooMany") (b := false) ?e2_i11 (by decide +kernel))) (Kj.all_cons (.inr (Kj.isB (x := "NoPaper") (code := "TooMany") (b := false) ?e2_i12 (by decide +kernel))) (Kj.all_cons (.inr (Kj.isB (x := "TooMany") (code := "TooMany") (b := true) ?e2_i13 (by decide +kernel))) (Kj.all_cons (.inr (Kj.isB (x := "BadDeed") (code := "TooMany") (b := false) ?e2_i14 (by decide +kernel))) (Kj.all_cons (.inr (Kj.isB (x := "BadText") (code := "TooMany") (b := false) ?e2_i15 (by decide +kernel))) (Kj.all_cons (.inr (Kj.isB (x := "NoSeat") (code := "TooMany") (b := false) ?e2_i16 (by decide +kernel))) (Kj.all_cons (.inr (Kj.isB (x := "SeatTaken") (code := "TooMany") (b := false) ?e2_i17 (by decide +kernel))) (Kj.all_cons (.inr (Kj.isB (x := "NothingLeft") (code := "TooMany") (b := false) ?e2_i18 (by decide +kernel))) (Kj.all_cons (.inr (Kj.isB (x := "OtherHouses") (code := "TooMany") (b := false) ?e2_i19 (by decide +kernel))) (Kj.all_cons (.inr (Kj.isB (x := "NoLog") (code := "TooMany") (b := false) ?e2_i20 (by decide +kernel))) (Kj.all_cons (.inr (Kj.isB (x := "BadAsk") (code := "TooMany") (b := false) ?e2_i21 (by decide +kernel))) Kj.all_nil)))))))))))))))))))))) ?e2_v ?e2_xm ?e2_xs
    (case a0 => k_is); (case l0 => k_is); (case c0 => k_is); (case k0 => k_is); (case a1 => k_is); (case l1 => k_is); (case c1 => k_is); (case k1 => k_is); (case a2 => k_is); (case l2 => k_is); (case c2 => k_is); (case k2 => k_is); (case a3 => k_is); (case l3 => k_is); (case c3 => k_is); (case k3 => k_is); (case a4 => k_is); (case l4 => k_is); (case c4 => k_is); (case k4 => k_is); (case a5 => k_is); (case l5 => k_is); (case c5 => k_is); (case k5 => k_is); (case a6 => k_is); (case l6 => k_is); (case c6 => k_is); (case k6 => k_is); (case a7 => k_is); (case l7 => k_is); (case c7 => k_is); (case k7 => k_is); (case a8 => k_is); (case l8 => k_is); (case c8 => k_is); (case k8 => k_is); (case a9 => k_is); (case l9 => k_is); (case c9 => k_is); (case k9 => k_is); (case a10 => k_is); (case l10 => k_is); (case c10 => k_is); (case k10 => k_is); (case a11 => k_is); (case l11 => k_is); (case c11 => k_is); (case k11 => k_is); (case a12 => k_is); (case l12 => k_is); (case c12 => k_is); (case k12 => k_is); (case a13 => k_is); (case l13 => k_is); (case c13 => k_is); (case k13 => k_is); (case a14 => k_is); (case l14 => k_is); (case c14 => k_is); (case k14 => k_is); (case a15 => k_is); (case l15 => k_is); (case c15 => k_is); (case k15 => k_is); (case a16 => k_is); (case l16 => k_is); (case c16 => k_is); (case k16 => k_is); (case a17 => k_is); (case l17 => k_is); (case c17 => k_is); (case k17 => k_is); (case a18 => k_is); (case l18 => k_is); (case c18 => k_is); (case k18 => k_is); (case a19 => k_is); (case l19 => k_is); (case c19 => k_is); (case k19 => k_is); (case a20 => k_is); (case l20 => k_is); (case c20 => k_is); (case k20 => k_is); (case a21 => k_is); (case l21 => k_is); (case c21 => k_is); (case k21 => k_is); (case a22 => k_is); (case l22 => k_is); (case c22 => k_is); (case k22 => k_is); (case a23 => k_is); (case l23 => k_is); (case c23 => k_is); (case k23 => k_is); (case a24 => k_is); (case l24 => k_is); (case c24 => k_is); (case k24 => k_is); (case a25 => k_is); (case l25 => k_is); (case c25 => k_is); (case k25 => k_is); (case a26 => k_is); (case l26 => k_is); (case c26 => k_is); (case k26 => k_is); (case aL => k_is); (case lL => k_is); (case cL => k_is); (case kL => k_is); (case z0 => k_is); (case z1 => k_is); (case z2 => k_is); (case z3 => k_is); (case z4 => k_is); (case z5 => k_is); (case z6 => k_is); (case z7 => k_is); (case z8 => k_is); (case z9 => k_is); (case z10 => k_is); (case z11 => k_is); (case z12 => k_is); (case y0 => first | k_is | rfl | kernel_rfl | (trace_state; k_is)); (case y1 => first | k_is | rfl | kernel_rfl | (trace_state; k_is)); (case w0 => k_is); (case w1 => k_is); (case w2 => k_is); (case w3 => k_is); (case w4 => k_is); (case w5 => k_is); (case w6 => k_is); (case w7 => k_is); (case w8 => k_is); (case w9 => k_is); (case w10 => k_is); (case w11 => k_is); (case w12 => k_is); (case w13 => k_is); (case w14 => k_is); (case w15 => k_is); (case w16 => k_is); (case w17 => k_is); (case w18 => k_is); (case w19 => k_is); (case w20 => k_is); (case w21 => k_is); (case x1 => k_is); (case x2 => k_is); (case e0_xL => k_is); (case e0_sa => k_is); (case e0_ga => k_is); (case e0_gg => k_is); (case e0_n1 => k_is); (case e0_n2 => k_is); (case e0_kC => k_is); (case e0_eC => k_is); (case e0_tC => k_is); (case e0_hC => k_is); (case e0_ca => k_is); (case e0_ob => k_is); (case e0_iC => k_is); (case e0_tI => k_is); (case e0_l => k_is); (case e0_c => k_is); (case e0_kI => k_is); (case e0_cl => k_is); (case e0_i1 => kit_is); (case e0_i2 => kit_is); (case e0_i3 => kit_is); (case e0_i4 => kit_is); (case e0_i5 => kit_is); (case e0_i6 => kit_is); (case e0_i7 => kit_is); (case e0_i8 => kit_is); (case e0_i9 => kit_is); (case e0_i10 => kit_is); (case e0_i11 => kit_is); (case e0_i12 => kit_is); (case e0_i13 => kit_is); (case e0_i14 => kit_is); (case e0_i15 => kit_is); (case e0_i16 => kit_is); (case e0_i17 => kit_is); (case e0_i18 => kit_is); (case e0_i19 => kit_is); (case e0_i20 => kit_is); (case e0_i21 => kit_is); (case e0_v => kit_is); (case e0_xm => kts_exm); (case e0_xs => kts_exm); (case e1_xL => k_is); (case e1_sa => k_is); (case e1_ga => k_is); (case e1_gg => k_is); (case e1_n1 => k_is); (case e1_n2 => k_is); (case e1_kC => k_is); (case e1_eC => k_is); (case e1_tC => k_is); (case e1_hC => k_is); (case e1_ca => k_is); (case e1_ob => k_is); (case e1_iC => k_is); (case e1_tI => k_is); (case e1_l => k_is); (case e1_c => k_is); (case e1_kI => k_is); (case e1_cl => k_is); (case e1_i1 => kit_is); (case e1_i2 => kit_is); (case e1_i3 => kit_is); (case e1_i4 => kit_is); (case e1_i5 => kit_is); (case e1_i6 => kit_is); (case e1_i7 => kit_is); (case e1_i8 => kit_is); (case e1_i9 => kit_is); (case e1_i10 => kit_is); (case e1_i11 => kit_is); (case e1_i12 => kit_is); (case e1_i13 => kit_is); (case e1_i14 => kit_is); (case e1_i15 => kit_is); (case e1_i16 => kit_is); (case e1_i17 => kit_is); (case e1_i18 => kit_is); (case e1_i19 => kit_is); (case e1_i20 => kit_is); (case e1_i21 => kit_is); (case e1_v => kit_is); (case e1_xm => kts_exm); (case e1_xs => kts_exm); (case e2_xL => k_is); (case e2_sa => k_is); (case e2_ga => k_is); (case e2_gg => k_is); (case e2_n1 => k_is); (case e2_n2 => k_is); (case e2_kC => k_is); (case e2_eC => k_is); (case e2_tC => k_is); (case e2_hC => k_is); (case e2_ca => k_is); (case e2_ob => k_is); (case e2_iC => k_is); (case e2_tI => k_is); (case e2_l => k_is); (case e2_c => k_is); (case e2_kI => k_is); (case e2_cl => k_is); (case e2_i1 => kit_is); (case e2_i2 => kit_is); (case e2_i3 => kit_is); (case e2_i4 => kit_is); (case e2_i5 => kit_is); (case e2_i6 => kit_is); (case e2_i7 => kit_is); (case e2_i8 => kit_is); (case e2_i9 => kit_is); (case e2_i10 => kit_is); (case e2_i11 => kit_is); (case e2_i12 => kit_is); (case e2_i13 => kit_is); (case e2_i14 => kit_is); (case e2_i15 => kit_is); (case e2_i16 => kit_is); (case e2_i17 => kit_is); (case e2_i18 => kit_is); (case e2_i19 => kit_is); (case e2_i20 => kit_is); (case e2_i21 => kit_is); (case e2_v => kit_is); (case e2_xm => kts_exm); (case e2_xs => kts_exm)
