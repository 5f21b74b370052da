import PyProof.Rows.All
import Wide.All
import OpenK.AllK
import Wide.FinOn
import HandS.ForMost
import HandS.Conv
import HandS.Rev
import HandS.RevTup
import HandS.Wide
import HandS.IsInst
import HandS.Codes
import HandS.Comp
import HandS.HotCalls
import HandS.ExcInit
import HandS.ExcInitHot
import HandS.ExcField
import HandS.SuiteRaise
import KE.KExcIs
import HandS.Walk
import HandS.Text
import PyProof.StrLawsJoin
import PyProof.StrBlock2
import PyProof.Rows.StrMul
import HandS.Style
import HandS.Small
import PyProof.DictUpdate
import HandS.SortRule
import KE.KSortTupAny
import PyProof.EqKinds
import PyProof.Rows.StrJoinRep
import HandS.Deep
import HandS.NoneIn
import HandS.DictComp
import HandS.Flt
import PyProof.ContainsOpen
import HandS.OwnEq
import HandS.Property
import HandS.Defaults
import PyProof.Rows.SortShellAny
import HandS.WideBits
import HandS.SetKeys
import KE.RegKIsAll
import KE.RegKTryMore
import PySem.Challenge.RW_keptjoined_k10_is_way
set_option Elab.async false
set_option linter.all false
set_option maxRecDepth 100000
set_option maxHeartbeats 4000000
/-! list(reversed(xs)) of a list: a new list with the items from behind -/
namespace LRev
open PySem RT
section
variable {prog : Program} {w : World} {A : Around} {E : Value → Shared → Prop} {s : Shared} {it l S : Addr} {items : Array Value}
/-- what a filled list tells -/
abbrev Back (items : Array Value) : Nat → Value → Prop := fun i v => items[items.size - 1 - i]? = some v
abbrev After (s : Shared) (S it : Addr) (items : Array Value) (K : Heap → Nat → Array Value → Prop) : Prop :=
  ∀ (g : Heap) (tk : Nat) (out : Array Value) (cap : Nat), (∀ b o, b ≠ S → b ≠ it → s.heap.get? b = some o → g.get? b = some o) →
    g.get? S = some { cls := .type "list", dict := none, data := .seq out cap, slots := #[] } →
      ItemsOf (Back items) out items.size → K g tk out
abbrev OutOf (prog : Program) (w : World) (A : Around) (R : Result → Shared → Prop) : Fin → Shared → Prop := fun fin t =>
  match fin with
  | .done f => R (.ok f) t
  | .again k => k.quiet = true ∧ codeAny (model prog w) A k R t
theorem extend {R : Result → Shared → Prop} (hh : A.handled = none) (hit : s.heap.IsRevIter it l ((items.size : Int) - 1)) (hl : s.heap.IsList l items)
    (hne : l ≠ it) (hz : items.size ≤ sizeLine) (hSi : S ≠ it) (hSl : S ≠ l) (res : Value) (c0 : Nat)
    (hS : s.heap.get? S = some { cls := .type "list", data := .seq #[] c0 })
    (k : After s S it items fun g tk _ => R (.ok (.ret res)) { s with heap := g, toks := tk }) :
    wpAny (model prog w) A.in1 (Builtin.List.listExtendWith (.ref S) (.ref it) res) (OutOf prog w A R) (fun e t => R (.error e) t) s := by
  have W := (Walks.listRev (prog := prog) (w := w) (A := A.in1) hh it l hne items).toS
  have out : S ∉ [it, l] := by
    simp only [List.mem_cons, List.not_mem_nil, or_false, not_or]
    exact ⟨hSi, hSl⟩
  have ty : s.TypeIs (.ref it) "list_reverseiterator" := hit.typeIs
  have other : Builtin.List.listSameRef (.ref S) (.ref it) = false := by simp [Builtin.List.listSameRef, hSi]
  unfold Builtin.List.listExtendWith
  refine wpAny_bind (wpAny_typeOf ty ?_)
  rw [if_neg (by rw [other]; decide)]
  refine wpAny_bind (wpAny_pyIter_revIter hit ?_)
  refine wpAny_bind (wpAny_holding ?_)
  unfold Builtin.List.listLengthHint
  refine wpAny_bind (wpAny_specialOf ty nolen_lri ?_)
  show wpAny _ A.in1 (specialOf (Value.ref it) (Str.ofString "__length_hint__") >>= _) _ _ _
  refine wpAny_bind (wpAny_specialOf ty hint_lri ?_)
  generalize nm : ("list_reverseiterator.__length_hint__" : String) = at0
  wp_delta
  rw [show splitId at0 = some ("list_reverseiterator", "__length_hint__") from by subst nm; decide +kernel]
  subst nm
  refine wpAny_bind (wpAny_isInstance (b := true) ty (by rw [isSubtype_type]; kernel_rfl) ?_)
  refine wpAny_pure ?_
  rw [if_neg (by decide)]
  have at1 : ((items.size : Nat) : Int) - 1 - ((0 : Nat) : Int) = (items.size : Int) - 1 := by omega
  refine wpAny_pure ⟨plainId_quiet F.plain_extend_loop _, ?_⟩
  refine codeAny_extend_loopS W hz _ out _ items.size 0 _ _ _ rfl (Nat.zero_le _) ⟨Nat.zero_le _, by rw [at1]; exact hit, hl⟩ hS (ItemsOf.nil _) fun t got cap mv ht hi => ?_
  rw [Moved.eq_with mv]
  refine k t.heap t.toks got cap (fun b o n1 n2 e => mv.heap b o (fun hm => ?_) e) ht hi
  rcases List.mem_cons.mp hm with e1 | hm
  · exact n1 e1
  · exact n2 (List.mem_singleton.mp hm)
theorem init {R : Result → Shared → Prop} (hh : A.handled = none) (hit : s.heap.IsRevIter it l ((items.size : Int) - 1)) (hl : s.heap.IsList l items)
    (hne : l ≠ it) (hz : items.size ≤ sizeLine) (hSi : S ≠ it) (hSl : S ≠ l) (hS : s.heap.get? S = some { cls := .type "list", data := .seq #[] })
    (k : After s S it items fun g tk _ => R (.ok (.ret .none)) { s with heap := g, toks := tk }) :
    wpAny (model prog w) A.in1 (Builtin.«list.__init__» ⟨[.ref S, .ref it], []⟩) (OutOf prog w A R) (fun e t => R (.error e) t) s := by
  show wpAny _ _ (Builtin.List.listItems (.ref S) >>= fun old => Builtin.List.listUpdate (.ref S) (fun _ => #[]) >>= fun _ => letGo old.toList.reverse >>= fun _ => Builtin.List.listExtendWith (.ref S) (.ref it) .none) _ _ s
  refine wpAny_bind ?_
  unfold Builtin.List.listItems
  refine wpAny_bind (wpAny_seqItems hS rfl (wpAny_pure ?_))
  show wpAny _ _ (updateSeq S (fun _ => #[]) >>= fun _ => (letGo (#[] : Array Value).toList.reverse >>= fun _ => Builtin.List.listExtendWith (.ref S) (.ref it) .none)) _ _ s
  refine wpAny_bind (wpAny_updateSeq hS rfl ?_)
  have hS2 := Heap.get?_update_self (Obj.mapSeq fun _ => (#[] : Array Value)) hS rfl
  have oth : ∀ b o, b ≠ S → s.heap.get? b = some o → (s.heap.update S (Obj.mapSeq fun _ => (#[] : Array Value))).get? b = some o := fun b o n e =>
    (Heap.get?_update_other _ _ (Ne.symm n)).trans e
  refine wpAny_bind (wpAny_letGo ?_)
  obtain ⟨ol, hol, cl, dl⟩ := id hl
  refine extend hh (hit.at fun o e => oth it o (Ne.symm hSi) e) ⟨ol, oth l ol (Ne.symm hSl) hol, cl, dl⟩ hne hz hSi hSl .none _ hS2 fun g tk got cap hk ht hi => ?_
  exact k g tk got cap (fun b o n1 n2 e => hk b o n1 n2 (oth b o n1 e)) ht hi
theorem callRev {Q : Value → Shared → Prop} (hh : A.handled = none) (hit : s.heap.IsRevIter it l ((items.size : Int) - 1)) (hl : s.heap.IsList l items) (hne : l ≠ it) (hz : items.size ≤ sizeLine)
    (k : ∀ (g : Heap) (tk : Nat) (out : Array Value) (cap : Nat), (∀ b o, b ≠ it → s.heap.get? b = some o → g.get? b = some o) →
      g.get? s.heap.objs.size = some { cls := .type "list", dict := none, data := .seq out cap, slots := #[] } → ItemsOf (Back items) out items.size →
        Q (.ref s.heap.objs.size) { s with heap := g, toks := tk }) :
    wpAny (model prog w) A (call (.type "list") [.ref it]) Q E s := by
  refine callType_codes (Q₁ := fun u t => u = .ref s.heap.objs.size ∧ t = { s with heap := s.heap.push { cls := .type "list", data := .seq #[] } })
    F.called_list (F.typeCall_list_1 _) F.entry_list_init (code_list_new _ ⟨rfl, rfl⟩) fun u t hu => ?_
  obtain ⟨rfl, rfl⟩ := hu
  have hS : (s.heap.push { cls := .type "list", data := .seq #[] }).get? s.heap.objs.size = some { cls := .type "list", data := .seq #[] } := Heap.get?_push_size _ rfl
  obtain ⟨oi, hoi, _⟩ := id hit
  obtain ⟨ol, hol, _⟩ := id hl
  refine ⟨⟨_, hS, rfl⟩, F.args_list_init_2 _ _, init (A := A.in1) hh (hit.at fun o e => Heap.get?_push_of_some _ e) (hl.push _) hne hz (Nat.ne_of_gt (Heap.lt_size hoi)) (Nat.ne_of_gt (Heap.lt_size hol)) hS fun g tk out cap hk hg hi => ?_⟩
  exact ⟨rfl, k g tk out cap (fun b o n e => hk b o (Nat.ne_of_lt (Heap.lt_size e)) n (Heap.get?_push_of_some _ e)) hg hi⟩
end
end LRev
namespace L2
open PySem PySem.Spec PyProof.Rows
/-- list(reversed(x)), x a list -/
def tLstRev (K : PySem.W.Frag) (te : TE) : TE := fun σ H Q => te σ H fun v h => ∃ (a : Addr) (xs : List V), v = .ref a ∧ SqL K h a xs ∧
  ∀ q, h q = none → Q (.ref q) (upd h q (.lst xs.reverse))
theorem pe_lstRev {X : Cx} {e : Expr} {te : TE} {p p2 pos pos2 : Pos} (hc : X.calm = true) (hg : Gl X "list") (hm : X.mg "list" = none) (hg2 : Gl X "reversed") (hm2 : X.mg "reversed" = none) (he : PE X e te)
    (n1 : starEach [e] X.env = (false, eval e X.env) :: starEach [] X.env := by rfl)
    (n2 : starEach [.Call (.Name "reversed" p2) [e] [] pos2] X.env = (false, eval (.Call (.Name "reversed" p2) [e] [] pos2) X.env) :: starEach [] X.env := by rfl) :
    PE X (.Call (.Name "list" p) [.Call (.Name "reversed" p2) [e] [] pos2] [] pos) (tLstRev X.K te) := by
  refine ⟨fun pins s σ H Q I h => ?_⟩
  refine Call_ (ld_blt I hg hm boot_list (PyProof.Rows.callWith_type1 (args_cons (Call_ (ld_blt I hg2 hm2 PyProof.Rows.boot_reversed (PyProof.Rows.callWith_type1
    (args_cons (thn (he.run pins s σ H _ I h) fun u s1 ⟨v, H1, I1, r1, q1⟩ => args_nil ?_) n1) n1 rfl))) n2) n2 rfl))
  obtain ⟨a, xs, rfl, hq, q⟩ := q1
  obtain rfl : u = Value.ref a := r1
  obtain ⟨its, rv, pl, hz⟩ := I1.list hq
  refine call_reversed_list pl.isList (args_nil ?_)
  have k0 : ∀ b o, s1.heap.get? b = some o → (s1.heap.push (revObj a ((its.toArray.size : Int) - 1))).get? b = some o := fun b o z => Heap.get?_push_of_some _ z
  have I2 : Inv X pins σ H1 { s1 with heap := s1.heap.push (revObj a ((its.toArray.size : Int) - 1)) } := I1.kept (t' := s1.toks) k0
  obtain ⟨f0, f1, f2, f3, f4, f5⟩ := I1.fpOk (H' := H1) (b := s1.heap.objs.size) (Nat.le_refl _) (I1.hok.fresh (Nat.le_refl _))
  have hl := pl.isList
  obtain ⟨ol, hol, _⟩ := id hl
  have far : a ≠ s1.heap.objs.size := Nat.ne_of_lt (Heap.lt_size hol)
  have fits : its.toArray.size ≤ sizeLine := by
    rw [List.size_toArray, ← rv.length]
    exact hz
  refine LRev.callRev (s := { s1 with heap := s1.heap.push (revObj a ((its.toArray.size : Int) - 1)) }) (I1.ok.hd hc) ⟨_, Heap.get?_push_size _ rfl, rfl, rfl⟩ (hl.push _) far fits fun g tk out cap hk hg hi => ?_
  have sz : (s1.heap.push (revObj a ((its.toArray.size : Int) - 1))).objs.size = s1.heap.objs.size + 1 := Heap.size_push _ _
  generalize hS : (s1.heap.push (revObj a ((its.toArray.size : Int) - 1))).objs.size = S at hg
  have fr : H1 S = none := I1.hok.fresh (by rw [← hS, sz]; exact Nat.le_succ _)
  have J : Inv X pins σ (upd H1 S (.lst xs.reverse)) { s1 with heap := g, toks := tk } :=
    I1.laid (h' := g) (t' := tk) (fun b o z => hk b o (Nat.ne_of_lt (Heap.lt_size z)) (k0 b o z)) (by rw [← hS, sz]; exact Nat.le_succ _)
      ⟨by rw [List.length_reverse]; exact hz, out.toList, cap, RT.vals_rev rv hi, by rw [Array.toArray_toList]; exact hg⟩
  exact ⟨.ref S, _, J, rfl, q S fr⟩
end L2
/-! a stepper for readings -/
namespace Rd
open PySem PySem.Spec PyProof.Rows L2
section
variable {D : Ends} {σ σ' : L2.St} {H : Hp} {Q : VK} {t u : TS} {te ta tb tc : TE} {tt uu : TT} {g : TG} {i : Nat} {v x y z : V} {r r' : R2} {B : Bool → Prop} {ts tr : TA} {n b c : L2.St → Hp → Prop} {rr : VK}
theorem seq (h : t ⟨u ⟨n, rr, b, c⟩, rr, b, c⟩ σ H) : tSeq t u ⟨n, rr, b, c⟩ σ H := h
theorem at0 {N : List Str} {vs : List V} (e : start N vs = σ) (h : t D σ H) : t D (start N vs) H := by
  rw [e]
  exact h
theorem nxt (h : n σ H) : tNext ⟨n, rr, b, c⟩ σ H := h
theorem brk (h : b σ H) : tBreak ⟨n, rr, b, c⟩ σ H := h
theorem cnt (h : c σ H) : tCont ⟨n, rr, b, c⟩ σ H := h
theorem ret (h : te σ H rr) : tRet te ⟨n, rr, b, c⟩ σ H := h
theorem retN (h : rr .non H) : tRetN ⟨n, rr, b, c⟩ σ H := h
theorem drop (h : te σ H fun _ H1 => n σ H1) : tDrop te ⟨n, rr, b, c⟩ σ H := h
theorem ifs (h : tt σ H fun b H1 => if b = true then t D σ H1 else u D σ H1) : tIfS tt t u D σ H := h
theorem asg (h : te σ H fun x H1 => g x σ H1 n) : tAsg te g ⟨n, rr, b, c⟩ σ H := h
theorem gname {P : L2.St → Hp → Prop} (e : σ.set i (some v) = σ') (h : P σ' H) : gName i v σ H P := by
  subst e
  exact h
theorem var (e : σ[i]? = some (some v)) (h : Q v H) : tVar i σ H Q := ⟨v, e, h⟩
theorem con (h : Q v H) : tC v σ H Q := h
theorem op (h : ta σ H fun x H1 => tb σ H1 fun y H2 => r x y H2 Q) : tOp r ta tb σ H Q := h
theorem un {r : V → Hp → VK → Prop} (h : ta σ H fun x H1 => r x H1 Q) : tUn r ta σ H Q := h
theorem test {Q : Bool → Hp → Prop} (h : te σ H fun x H' => ∃ k, x = .bl k ∧ Q k H') : tTest te σ H Q := h
theorem testB {Q : Bool → Hp → Prop} (h : te σ H fun x H' => ∃ k, x = .bl k ∧ Q k H') : tB te σ H Q := h
theorem exbl {P : Bool → Prop} {b : Bool} (h : P b) : ∃ k, V.bl b = V.bl k ∧ P k := ⟨b, rfl, h⟩
theorem and {Q : Bool → Hp → Prop} (h : tt σ H fun c H1 => if c = true then uu σ H1 Q else Q false H1) : tAnd tt uu σ H Q := h
theorem or {Q : Bool → Hp → Prop} (h : tt σ H fun c H1 => if c = true then Q true H1 else uu σ H1 Q) : tOr tt uu σ H Q := h
theorem not {Q : Bool → Hp → Prop} (h : tt σ H fun c H1 => Q (!c) H1) : tNot tt σ H Q := h
theorem andV (h : ta σ H fun x H1 => ∃ c, x = .bl c ∧ if c = true then tb σ H1 Q else Q (.bl false) H1) : tAndV ta tb σ H Q := h
theorem orV (h : ta σ H fun x H1 => ∃ c, x = .bl c ∧ if c = true then Q (.bl true) H1 else tb σ H1 Q) : tOrV ta tb σ H Q := h
theorem notV (h : ta σ H fun x H1 => ∃ c, x = .bl c ∧ Q (.bl (!c)) H1) : tNotV ta σ H Q := h
theorem ife (h : tt σ H fun c H1 => if c = true then ta σ H1 Q else tb σ H1 Q) : tIf tt ta tb σ H Q := h
theorem nil {Q : List V → Hp → Prop} (h : Q [] H) : tNil σ H Q := h
theorem cons {Q : List V → Hp → Prop} (h : te σ H fun x H1 => tr σ H1 fun xs H2 => Q (x :: xs) H2) : tCons te tr σ H Q := h
theorem tup (h : ts σ H fun xs H1 => xs.length ≤ sizeLine ∧ ∀ p, H1 p = none → Q (.ref p) (upd H1 p (.tup xs))) : tTup ts σ H Q := h
theorem lst (h : ts σ H fun xs H1 => xs.length ≤ sizeLine ∧ ∀ p, H1 p = none → Q (.ref p) (upd H1 p (.lst xs))) : tLst ts σ H Q := h
theorem call {sp : Sp} {dvs : List V} {E : XK} (h : ts σ H fun vs H1 => sp (vs ++ dvs) H1 Q E) : tCall sp dvs E ts σ H Q := h
theorem cb {r : List V → Hp → VK → Prop} (h : ts σ H fun vs H1 => r vs H1 Q) : tCB r ts σ H Q := h
theorem chain (h : ta σ H fun x H1 => tb σ H1 fun y H2 => r x y H2 fun z H3 => ∃ k, z = .bl k ∧ (if k = true then tc σ H3 fun w' H4 => r' y w' H4 Q else Q (.bl false) H3)) : tChain r r' ta tb tc σ H Q := h
/-- ints -/
theorem I0 {g : Int → Int → V} {i j : Int} (h : Q (g i j) H) : rI0 g (.int i) (.int j) H Q := ⟨i, j, rfl, rfl, h⟩
theorem I1 {C : Int → Int → Prop} {g : Int → Int → V} {i j : Int} (c : C i j) (h : Q (g i j) H) : rI C g (.int i) (.int j) H Q := ⟨i, j, rfl, rfl, c, h⟩
theorem U1 {g : Int → V} {i : Int} (h : Q (g i) H) : rU g (.int i) H Q := ⟨i, rfl, h⟩
theorem eq (e : scal x y = true) (h : Q (.bl (decide (x = y))) H) : rEq x y H Q := ⟨e, h⟩
theorem ne (e : scal x y = true) (h : Q (.bl (!decide (x = y))) H) : rNe x y H Q := ⟨e, h⟩
/-- tests -/
theorem iteD {p A B : Prop} [Decidable p] (h1 : p → A) (h2 : ¬ p → B) : if decide p = true then A else B := by
  by_cases h : p
  · rw [if_pos (decide_eq_true h)]
    exact h1 h
  · rw [if_neg (by rw [decide_eq_false h]; exact Bool.false_ne_true)]
    exact h2 h
theorem iteN {p A B : Prop} [Decidable p] (h1 : ¬ p → A) (h2 : p → B) : if (!decide p) = true then A else B := by
  by_cases h : p
  · rw [if_neg (by rw [decide_eq_true h]; exact Bool.false_ne_true)]
    exact h2 h
  · rw [if_pos (by rw [decide_eq_false h]; rfl)]
    exact h1 h
theorem iteI {i j : Int} {A B : Prop} (h1 : i = j → A) (h2 : i ≠ j → B) : if decide (V.int i = V.int j) = true then A else B := iteD (fun e => h1 (V.int.inj e)) fun n => h2 fun e => n (by rw [e])
theorem iteNI {i j : Int} {A B : Prop} (h1 : i ≠ j → A) (h2 : i = j → B) : if (!decide (V.int i = V.int j)) = true then A else B := iteN (fun n => h1 fun e => n (by rw [e])) fun e => h2 (V.int.inj e)
theorem iteB {b : Bool} {A B : Prop} (h1 : b = true → A) (h2 : b = false → B) : if b = true then A else B := by
  cases b with
  | true => exact iteT (h1 rfl)
  | false => exact iteF (h2 rfl)
theorem iteNB {b : Bool} {A B : Prop} (h1 : b = false → A) (h2 : b = true → B) : if (!b) = true then A else B := by
  cases b with
  | true => exact iteF (h2 rfl)
  | false => exact iteT (h1 rfl)
theorem rn1 {a : Addr} {A B : Prop} (h : B) : if decide (V.ref a = V.non) = true then A else B := h
theorem in1 {i : Int} {A B : Prop} (h : B) : if decide (V.int i = V.non) = true then A else B := h
theorem sn1 {i : Str} {A B : Prop} (h : B) : if decide (V.str i = V.non) = true then A else B := h
theorem bn1 {i : Bool} {A B : Prop} (h : B) : if decide (V.bl i = V.non) = true then A else B := h
theorem nn1 {A B : Prop} (h : A) : if decide (V.non = V.non) = true then A else B := h
theorem rn2 {a : Addr} {A B : Prop} (h : A) : if (!decide (V.ref a = V.non)) = true then A else B := h
theorem in2 {i : Int} {A B : Prop} (h : A) : if (!decide (V.int i = V.non)) = true then A else B := h
theorem sn2 {i : Str} {A B : Prop} (h : A) : if (!decide (V.str i = V.non)) = true then A else B := h
theorem bn2 {i : Bool} {A B : Prop} (h : A) : if (!decide (V.bl i = V.non)) = true then A else B := h
theorem nn2 {A B : Prop} (h : B) : if (!decide (V.non = V.non)) = true then A else B := h
theorem nt1 {A B : Prop} (h : B) : if (!true) = true then A else B := h
theorem nf1 {A B : Prop} (h : A) : if (!false) = true then A else B := h
theorem pick {c A B : Prop} [Decidable c] (hc : c) (h : A) : if c then A else B := by
  rw [if_pos hc]
  exact h
theorem skip {c A B : Prop} [Decidable c] (hc : ¬ c) (h : B) : if c then A else B := by
  rw [if_neg hc]
  exact h
end
/-! ### calls: a def with all that a caller needs -/
section
variable {P : Program} {w : World} {K : PySem.W.Frag} {mg : Str → Option Value} {base : Heap}
/-- the def of this name stands as the text says -/
def Def (K : PySem.W.Frag) (mg : Str → Option Value) (x : Str) (st : Stmt) (ps : List Str) : Prop := ∃ f fd, Fun K x x st f fd ∧ mg x = some (.ref f) ∧ Binds K fd ps []
/-- the def of this name keeps this promise -/
def Cal (P : Program) (w : World) (K : PySem.W.Frag) (mg : Str → Option Value) (base : Heap) (k : Nat) (x : Str) (ps : List Str) (sp : Sp) : Prop :=
  ∃ f fd, FnOk P w K mg base CX0 k f fd ps sp ∧ mg x = some (.ref f) ∧ PySem.W.keepIn K (.ref f) = true ∧ Binds K fd ps []
theorem Def.ok {x : Str} {st : Stmt} {ps N : List Str} {k : Nat} {sp : Sp} (F : Def K mg x st ps) (S : FnScope N ps (defScope st)) (len : ∀ vs H Q E, sp vs H Q E → vs.length = ps.length)
    (hbody : ∀ (f : Addr) (cdv : Value) (A : Around) (outer : List Env) (s : Shared) (H : Hp) (vs : List V) (Q : VK) (E : XK), Room k (A.deeper (envOfC x (defScope st) s.heap.objs.size f cdv)) → sp vs H Q E →
      ∃ t, PSs (cxOf CX0 P w K mg base N x (defScope st) f cdv A outer s H E).nox (defBody st) t ∧ t { nx := fun _ H' => Q .non H', rt := Q } (start N vs) H) : Cal P w K mg base (k + 1) x ps sp := by
  obtain ⟨f, fd, F, m, b⟩ := F
  exact ⟨f, fd, F.ok S len (fun cdv A outer s H vs Q E hr h => hbody f cdv A outer s H vs Q E hr h), m, F.kp, b⟩
theorem Cal.mono {x : Str} {ps : List Str} {j k : Nat} {sp : Sp} (C : Cal P w K mg base j x ps sp) (h : j ≤ k) : Cal P w K mg base k x ps sp := by
  obtain ⟨f, fd, F, r⟩ := C
  exact ⟨f, fd, F.mono h, r⟩
theorem Cal.imp {x : Str} {ps : List Str} {k : Nat} {sp sp' : Sp} (C : Cal P w K mg base k x ps sp) (h : ∀ vs H Q E, sp' vs H Q E → sp vs H Q E) : Cal P w K mg base k x ps sp' := by
  obtain ⟨f, fd, F, r⟩ := C
  exact ⟨f, fd, F.imp h, r⟩
end
theorem pe_cal {X : Cx} {e : Expr} {es : List Expr} {t : TA} {p pos : Pos} {j k : Nat} {x : Str} {ps : List Str} {sp : Sp} (C : Cal X.prog X.w X.K X.mg X.base j x ps sp) (hr : Room k X.A) (ha : PA X (e :: es) t) (hk : j ≤ k := by decide) (hg : Gl X x := by rfl)
    (hdb : (x == ("__debug__" : Str)) = false := by decide) (he : starEach (e :: es) X.env = (false, eval e X.env) :: starEach es X.env := by rfl) (hpl : (backTo pos (starEach es X.env)).any (·.1) = false := by rfl) :
    PE X (.Call (.Name x p) (e :: es) [] pos) (tCall sp [] E0 t) := by
  obtain ⟨f, fd, F, m, kp, b⟩ := C
  exact pe_call F (hr.mono hk) hg m kp b .nil pass0 ha hdb he hpl
theorem pe_cal0 {X : Cx} {p pos : Pos} {j k : Nat} {x : Str} {sp : Sp} (C : Cal X.prog X.w X.K X.mg X.base j x [] sp) (hr : Room k X.A) (hk : j ≤ k := by decide) (hg : Gl X x := by rfl)
    (hdb : (x == ("__debug__" : Str)) = false := by decide) :
    PE X (.Call (.Name x p) [] [] pos) (tCall sp [] E0 tNil) := by
  obtain ⟨f, fd, F, m, kp, b⟩ := C
  exact pe_call0 F (hr.mono hk) hg m kp b .nil pass0 hdb
/-- nothing is promised of a call that is never made -/
theorem Def.none {P : Program} {w : World} {K : PySem.W.Frag} {mg : Str → Option Value} {base : Heap} {x : Str} {st : Stmt} {ps : List Str} (D : Def K mg x st ps) : Cal P w K mg base 0 x ps fun _ _ _ _ => False := by
  obtain ⟨f, fd, F, m, b⟩ := D
  exact ⟨f, fd, ⟨fun _ _ _ _ h => h.elim, fun _ _ _ _ _ _ _ _ _ _ _ _ _ h => h.elim⟩, m, F.kp, b⟩
/-- what the top has left of a def -/
theorem def_mk {K : PySem.W.Frag} {mg : Str → Option Value} {h : Heap} {x : Str} {st : Stmt} {ps : List Str} {f : Addr} {oc : Value} {od an : Option Addr} {osl : Array (Option Value)} {kV dc pm cdv ct : Value} (X : K.In h) (G : h.Ns mainGlobals mg)
    (a : PySem.W.nsIn K mainGlobals x = some (some (.ref f))) (l : K.lookup f = some ⟨oc, od, .func (PySem.W.fnOf x x (defArgs st) (defBody st) (defScope st) .none kV dc pm an cdv ct), osl⟩) (c : PySem.W.codeIn K cdv x = true) (k : PySem.W.keepIn K (.ref f) = true)
    (hb : ∀ (kV doc pm : Value) (an : Option Addr) (cdv ct : Value) (us : List Value), us.length = ps.length → bindArgs (PySem.W.fnOf x x (defArgs st) (defBody st) (defScope st) .none kV doc pm an cdv ct) ⟨us, []⟩ = pure (ps.zip us)) : Def K mg x st ps :=
  ⟨f, _, fun_mk l c k, PySem.W.mg_of X G a, (fun_mk l c k).binds hb⟩
end Rd
namespace Rd
open PySem PySem.Spec PyProof.Rows L2
/-! ### built-ins with a reading of their own name -/
def rIntI : List V → Hp → VK → Prop := fun xs H Q => ∃ i, xs = [.int i] ∧ Q (.int i) H
def rIntB : List V → Hp → VK → Prop := fun xs H Q => ∃ k, xs = [.bl k] ∧ Q (.int (if k then 1 else 0)) H
def rLenQ (K : PySem.W.Frag) : List V → Hp → VK → Prop := fun xs H Q => ∃ p ys, xs = [.ref p] ∧ (SqL K H p ys ∨ SqT K H p ys) ∧ Q (.int ys.length) H
def rLenZ : List V → Hp → VK → Prop := fun xs H Q => ∃ z, xs = [.str z] ∧ z.length ≤ sizeLine ∧ Q (.int z.length) H
def rListQ (K : PySem.W.Frag) : List V → Hp → VK → Prop := fun xs H Q => ∃ p ys, xs = [.ref p] ∧ (SqL K H p ys ∨ SqT K H p ys) ∧ ∀ l, H l = none → Q (.ref l) (upd H l (.lst ys))
def rTupQ (K : PySem.W.Frag) : List V → Hp → VK → Prop := fun xs H Q => ∃ p ys, xs = [.ref p] ∧ SqL K H p ys ∧ ∀ l, H l = none → Q (.ref l) (upd H l (.tup ys))
def rMaxQ : List V → Hp → VK → Prop := fun xs H Q => ∃ i j, xs = [.int i, .int j] ∧ Q (.int (if j > i then j else i)) H
def rMinQ : List V → Hp → VK → Prop := fun xs H Q => ∃ i j, xs = [.int i, .int j] ∧ Q (.int (if j < i then j else i)) H
def rAbsQ : List V → Hp → VK → Prop := fun xs H Q => ∃ i, xs = [.int i] ∧ Q (.int (if i < 0 then -i else i)) H
def rStrQ : List V → Hp → VK → Prop := fun xs H Q => ∃ i, xs = [.int i] ∧ i.natAbs.log2 < 1920 ∧ Q (.str (toString i)) H
def rAddZ : R2 := fun x y H Q => ∃ i j, x = .str i ∧ y = .str j ∧ i.length + j.length ≤ sizeLine ∧ Q (.str (i ++ j)) H
def rInZ : R2 := fun x y H Q => ∃ (c : Nat) (z : Str), x = .str ⟨#[c]⟩ ∧ y = .str z ∧ Q (.bl (decide (c ∈ z.cps.toList))) H
def rNiZ : R2 := fun x y H Q => ∃ (c : Nat) (z : Str), x = .str ⟨#[c]⟩ ∧ y = .str z ∧ Q (.bl (!decide (c ∈ z.cps.toList))) H
def rLtZ : R2 := fun x y H Q => ∃ i j, x = .str i ∧ y = .str j ∧ Q (.bl (decide (i.cps.toList < j.cps.toList))) H
def rIsN : R2 := fun x y H Q => y = .non ∧ Q (.bl (decide (x = .non))) H
def rNoN : R2 := fun x y H Q => y = .non ∧ Q (.bl (!decide (x = .non))) H
section
variable {X : Cx}
theorem q_intI : CallR X (.type "int") rIntI := fun pins s σ H xs us Q I r h => call_int1 pins s σ H xs us Q I r (.inl h)
theorem q_intB : CallR X (.type "int") rIntB := fun pins s σ H xs us Q I r h => call_int1 pins s σ H xs us Q I r (.inr h)
theorem q_len : CallR X (.builtin "len") (rLenQ X.K) := call_len_seq
theorem q_lenZ : CallR X (.builtin "len") rLenZ := call_len_str
theorem q_list : CallR X (.type "list") (rListQ X.K) := call_list_of
theorem q_tup : CallR X (.type "tuple") (rTupQ X.K) := fun pins s σ H xs us Q I r ⟨p, ys, e, h, q⟩ => call_tuple_of pins s σ H xs us Q I r ⟨p, ys, e, .inl ⟨h, q⟩⟩
theorem q_max (hc : X.calm = true) : CallR X (.builtin "max") rMaxQ := call_max2 hc
theorem q_min (hc : X.calm = true) : CallR X (.builtin "min") rMinQ := call_min2 hc
theorem q_abs : CallR X (.builtin "abs") rAbsQ := call_abs
theorem q_str : CallR X (.type "str") rStrQ := call_str_int
theorem o_addZ : OpR X (binaryOp .Add) rAddZ := op_add_str
theorem o_inZ : OpR X (compareOp .In) rInZ := op_in_sign
theorem o_niZ : OpR X (compareOp .NotIn) rNiZ := op_notIn_sign
theorem o_ltZ : OpR X (compareOp .Lt) rLtZ := op_lt_str
theorem o_isN : OpR X (compareOp .Is) rIsN := op_isN
theorem o_noN : OpR X (compareOp .IsNot) rNoN := op_notN
end
section
variable {K : PySem.W.Frag} {D : Ends} {σ σ' : L2.St} {H : Hp} {Q : VK} {to ti te tb : TE} {t : TSet} {v x y : V} {p q : Addr} {xs ys : List V} {i j k : Int} {a b' : Str} {n b c : L2.St → Hp → Prop} {rr : VK}
theorem intI (h : Q (.int i) H) : rIntI [.int i] H Q := ⟨i, rfl, h⟩
theorem intB {c : Bool} (h : Q (.int (if c then 1 else 0)) H) : rIntB [.bl c] H Q := ⟨c, rfl, h⟩
theorem lenQ (h : SqL K H p xs ∨ SqT K H p xs) (g : Q (.int xs.length) H) : rLenQ K [.ref p] H Q := ⟨p, xs, rfl, h, g⟩
theorem lenZ (h : a.length ≤ sizeLine) (g : Q (.int a.length) H) : rLenZ [.str a] H Q := ⟨a, rfl, h, g⟩
theorem listQ (h : SqL K H p xs ∨ SqT K H p xs) (g : ∀ l, H l = none → Q (.ref l) (upd H l (.lst xs))) : rListQ K [.ref p] H Q := ⟨p, xs, rfl, h, g⟩
theorem tupQ (h : SqL K H p xs) (g : ∀ l, H l = none → Q (.ref l) (upd H l (.tup xs))) : rTupQ K [.ref p] H Q := ⟨p, xs, rfl, h, g⟩
theorem maxQ (h : Q (.int (if j > i then j else i)) H) : rMaxQ [.int i, .int j] H Q := ⟨i, j, rfl, h⟩
theorem minQ (h : Q (.int (if j < i then j else i)) H) : rMinQ [.int i, .int j] H Q := ⟨i, j, rfl, h⟩
theorem absQ (h : Q (.int (if i < 0 then -i else i)) H) : rAbsQ [.int i] H Q := ⟨i, rfl, h⟩
theorem strQ (c : i.natAbs.log2 < 1920) (h : Q (.str (toString i)) H) : rStrQ [.int i] H Q := ⟨i, rfl, c, h⟩
theorem addZ (c : a.length + b'.length ≤ sizeLine) (h : Q (.str (a ++ b')) H) : rAddZ (.str a) (.str b') H Q := ⟨a, b', rfl, rfl, c, h⟩
theorem inZ {c : Nat} (h : Q (.bl (decide (c ∈ a.cps.toList))) H) : rInZ (.str ⟨#[c]⟩) (.str a) H Q := ⟨c, a, rfl, rfl, h⟩
theorem niZ {c : Nat} (h : Q (.bl (!decide (c ∈ a.cps.toList))) H) : rNiZ (.str ⟨#[c]⟩) (.str a) H Q := ⟨c, a, rfl, rfl, h⟩
theorem ltZ (h : Q (.bl (decide (a.cps.toList < b'.cps.toList))) H) : rLtZ (.str a) (.str b') H Q := ⟨a, b', rfl, rfl, h⟩
theorem isN (h : Q (.bl (decide (x = .non))) H) : rIsN x .non H Q := ⟨rfl, h⟩
theorem noN (h : Q (.bl (!decide (x = .non))) H) : rNoN x .non H Q := ⟨rfl, h⟩
theorem ixL (h : SqL K H p xs) (e : atI xs i = some v) (g : Q v H) : rIxL K (.ref p) (.int i) H Q := ⟨p, xs, i, v, rfl, rfl, h, e, g⟩
theorem ixI {ns : List Int} (h : SqL K H p (ns.map V.int)) (h0 : 0 ≤ i) (h1 : i < ((ns.map V.int).length : Int)) (g : ∀ z, z ∈ ns → Q (.int z) H) : rIxL K (.ref p) (.int i) H Q := by
  rw [List.length_map] at h1
  have hj : i.toNat < ns.length := by omega
  have e : atI (ns.map V.int) ((i.toNat : Nat) : Int) = some (.int ns[i.toNat]) := atI_nat (by rw [List.getElem?_map, List.getElem?_eq_getElem hj]; rfl)
  rw [show ((i.toNat : Nat) : Int) = i by omega] at e
  exact ⟨p, _, i, _, rfl, rfl, h, e, g _ (List.getElem_mem hj)⟩
theorem ixT (h : SqT K H p xs) (e : atI xs i = some v) (g : Q v H) : rIxT K (.ref p) (.int i) H Q := ⟨p, xs, i, v, rfl, rfl, h, e, g⟩
theorem ixZ {c : Nat} (h : a.length ≤ sizeLine) (e : atI a.cps.toList i = some c) (g : Q (.str ⟨#[c]⟩) H) : rIxS (.str a) (.int i) H Q := ⟨a, i, c, rfl, rfl, h, e, g⟩
theorem gsub {P : L2.St → Hp → Prop} (h : to σ H fun o H1 => ti σ H1 fun i H2 => t o i v H2 fun H3 => P σ H3) : gSub to ti t v σ H P := h
theorem setL {P : Hp → Prop} {j : Nat} (h : H p = some (.lst xs)) (e : ixN xs.length k = some j) (e2 : xs.set j v = ys) (g : P (upd H p (.lst ys))) : rSetL (.ref p) (.int k) v H P := by
  subst e2
  exact ⟨p, xs, k, j, rfl, rfl, h, e, g⟩
theorem append (h : H p = some (.lst xs)) (c : xs.length < sizeLine) (g : Q .non (upd H p (.lst (xs ++ [y])))) : rAppend (.ref p) [y] H Q := ⟨p, xs, y, rfl, rfl, h, c, g⟩
theorem pop (h : H p = some (.lst xs)) (e : xs[xs.length - 1]? = some y) (g : Q y (upd H p (.lst xs.dropLast))) : rPop (.ref p) [] H Q := ⟨p, xs, y, rfl, rfl, h, e, g⟩
theorem cat (h : H p = some (.lst xs)) (h' : H q = some (.lst ys)) (c : xs.length + ys.length ≤ sizeLine) (g : ∀ l, H l = none → Q (.ref l) (upd H l (.lst (xs ++ ys)))) : rCat (.ref p) (.ref q) H Q := ⟨p, q, xs, ys, rfl, rfl, h, h', c, g⟩
theorem bm {T : String} {r : V → List V → Hp → VK → Prop} {ts : TA} (h : to σ H fun x H1 => tyV K T x H1 ∧ ts σ H1 fun xs H2 => r x xs H2 Q) : tBM K T r to ts σ H Q := h
theorem bm0 {T : String} {r : V → List V → Hp → VK → Prop} (h : to σ H fun x H1 => tyV K T x H1 ∧ r x [] H1 Q) : tBM0 K T r to σ H Q := h
theorem tyL {B : Prop} (h : H p = some (.lst xs)) (g : B) : tyV K "list" (.ref p) H ∧ B := ⟨.inl ⟨rfl, _, .inl (.inl h)⟩, g⟩
theorem gtup {n : Nat} {t : TGs} {P : L2.St → Hp → Prop} (h : SqT K H p xs) (e : xs.length = n) (g : t xs σ H P) : gTup K n t (.ref p) σ H P := ⟨p, xs, rfl, h, e, g⟩
theorem gnil {P : L2.St → Hp → Prop} (h : P σ H) : gNil [] σ H P := ⟨rfl, h⟩
theorem gcons {t : TG} {u : TGs} {P : L2.St → Hp → Prop} (h : t v σ H fun σ' H' => u xs σ' H' P) : gCons t u (v :: xs) σ H P := ⟨v, xs, rfl, h⟩
theorem par {i j : Nat} {ta : TA} (h : ta σ H fun vs H1 => ∃ v w, vs = [v, w] ∧ n ((σ.set i (some v)).set j (some w)) H1) : tPar i j ta ⟨n, rr, b, c⟩ σ H := h
theorem expar {P' : V → V → Prop} (h : P' x y) : ∃ v w, [x, y] = [v, w] ∧ P' v w := ⟨x, y, rfl, h⟩
theorem aug {i : Nat} {ti : TIp} (e : σ[i]? = some (some x)) (h : te σ H fun y H1 => ti x y H1 fun z H2 => n (σ.set i (some z)) H2) : tAug i te ti ⟨n, rr, b, c⟩ σ H := ⟨x, e, h⟩
theorem ipi {f : Int → Int → Int} (h : Q (.int (f i j)) H) : ipI f (.int i) (.int j) H Q := ⟨i, j, rfl, rfl, h⟩
theorem slice {r : V → Option Int → Option Int → Hp → VK → Prop} {tl th : TO} (h : te σ H fun x H1 => tl σ H1 fun l H2 => th σ H2 fun u H3 => r x l u H3 Q) : tSl r te tl th σ H Q := h
theorem noPart {P : Option Int → Hp → Prop} (h : P none H) : tNoPart σ H P := h
theorem part {P : Option Int → Hp → Prop} (h : te σ H fun x H1 => ∃ i, x = .int i ∧ P (some i) H1) : tPart te σ H P := h
theorem slL {lo hi : Option Int} (h : SqL K H p xs) (g : ∀ l, H l = none → Q (.ref l) (upd H l (.lst (cutV xs lo hi)))) : rSlL K (.ref p) lo hi H Q := ⟨p, xs, rfl, h, g⟩
theorem slZ {lo hi : Option Int} (h : a.length ≤ sizeLine) (g : Q (.str (cutS a lo hi)) H) : rSlS (.str a) lo hi H Q := ⟨a, rfl, h, g⟩
theorem exint {P' : Int → Prop} (h : P' i) : ∃ j, V.int i = V.int j ∧ P' j := ⟨i, rfl, h⟩
/-- what a loop walks -/
theorem iseq {R : It → Hp → Prop} (h : te σ H fun x H1 => ∃ a, x = .ref a ∧ (∃ xs, SqL K H1 a xs) ∧ R (Itl K a) H1) : iList K te σ H R := h
theorem exlst {P' : Addr → Prop} (h : SqL K H p ys) (g : P' p) : ∃ a, V.ref p = V.ref a ∧ (∃ zs, SqL K H a zs) ∧ P' a := ⟨p, rfl, ⟨ys, h⟩, g⟩
theorem irng1 {ta : TA} {R : It → Hp → Prop} (h : ta σ H fun vs H1 => ∃ j : Int, vs = [.int j] ∧ -(2 ^ 62) ≤ j ∧ j < 2 ^ 62 ∧ R (Itr 0 j.toNat) H1) : iRng1 ta σ H R := h
theorem exrng1 {P' : Int → Prop} (c : -(2 ^ 62) ≤ i ∧ i < 2 ^ 62) (h : P' i) : ∃ j : Int, [V.int i] = [V.int j] ∧ -(2 ^ 62) ≤ j ∧ j < 2 ^ 62 ∧ P' j := ⟨i, rfl, c.1, c.2, h⟩
theorem irng2 {ta : TA} {R : It → Hp → Prop} (h : ta σ H fun vs H1 => ∃ i j : Int, vs = [.int i, .int j] ∧ (-(2 ^ 62) ≤ i ∧ i < 2 ^ 62 ∧ -(2 ^ 62) ≤ j ∧ j < 2 ^ 62) ∧ R (Itr i (j - i).toNat) H1) : iRng2 ta σ H R := h
theorem exrng2 {P' : Int → Int → Prop} (c : -(2 ^ 62) ≤ i ∧ i < 2 ^ 62 ∧ -(2 ^ 62) ≤ j ∧ j < 2 ^ 62) (h : P' i j) : ∃ a b : Int, [V.int i, V.int j] = [V.int a, V.int b] ∧ (-(2 ^ 62) ≤ a ∧ a < 2 ^ 62 ∧ -(2 ^ 62) ≤ b ∧ b < 2 ^ 62) ∧ P' a b := ⟨i, j, rfl, c, h⟩
end
end Rd
/-! ### loops and comprehensions, what is walked apart from what is done -/
namespace Rd
open PySem PySem.Spec PyProof.Rows L2
/-- a for over a walk that has begun; a comprehension over one -/
def ForB (J : It) (g : TG) (tb : TS) (D : Ends) (σ : L2.St) (H : Hp) : Prop := tFor (fun _ H1 R => R J H1) g tb D σ H
def LcB (J : It) (g : TG) (tt : TT) (te : TE) (vs : List Nat) (σ : L2.St) (H : Hp) (Q : VK) : Prop := tLc (fun _ H1 R => R J H1) g tt te vs σ H Q
section
variable {K : PySem.W.Frag} {wi : TI} {g : TG} {tb : TS} {D : Ends} {σ : L2.St} {H : Hp} {tt : TT} {te : TE} {vs : List Nat} {Q : VK} {a : Addr} {xs : List V} {n b c : L2.St → Hp → Prop} {rr : VK} {lo : Int} {m : Nat} {P : Prop}
theorem forX (h : wi σ H fun J H1 => ForB J g tb D σ H1) : tFor wi g tb D σ H := h
theorem lcX (h : wi σ H fun J H1 => LcB J g tt te vs σ H1 Q) : tLc wi g tt te vs σ H Q := h
theorem forL (xs : List V) (Pv : Nat → L2.St → Hp → Prop) (h0 : Pv 0 σ H) (hl : ∀ i σ H, i ≤ xs.length → Pv i σ H → SqL K H a xs)
    (hs : ∀ i x σ H, xs[i]? = some x → Pv i σ H → g x σ H fun σ2 H2 => tb ⟨Pv (i + 1), rr, n, Pv (i + 1)⟩ σ2 H2) (hd : ∀ σ H, Pv xs.length σ H → n σ H) : ForB (Itl K a) g tb ⟨n, rr, b, c⟩ σ H :=
  for_list (D := ⟨n, rr, b, c⟩) Pv h0 hl hs hd
theorem forR (Pv : Nat → L2.St → Hp → Prop) (h0 : Pv 0 σ H)
    (hs : ∀ i σ H, i < m → Pv i σ H → g (.int (lo + i)) σ H fun σ2 H2 => tb ⟨Pv (i + 1), rr, n, Pv (i + 1)⟩ σ2 H2) (hd : ∀ σ H, Pv m σ H → n σ H) : ForB (Itr lo m) g tb ⟨n, rr, b, c⟩ σ H :=
  for_range (D := ⟨n, rr, b, c⟩) Pv h0 hs hd
/-- what a comprehension's turn is to do, at the new list L -/
def Turn1 (g : TG) (tt : TT) (te : TE) (vs : List Nat) (σ : L2.St) (L : Addr) (x : V) (h : Hp) (Nx : Hp → Prop) : Prop :=
  g x (wipe σ vs) h fun σ2 h2 => wipe σ2 vs = wipe σ vs ∧
    tt σ2 h2 fun k h3 => if k = true then (te σ2 h3 fun y h4 => ∃ out, h4 L = some (.lst out) ∧ out.length < sizeLine ∧ Nx (upd h4 L (.lst (out ++ [y])))) else Nx h3
theorem lcL (xs : List V) (f : ∀ L, H L = none → ∃ Pv : Nat → Hp → Prop, Pv 0 (upd H L (.lst [])) ∧ (∀ i h, i ≤ xs.length → Pv i h → SqL K h a xs) ∧
    (∀ i x h, xs[i]? = some x → Pv i h → Turn1 g tt te vs σ L x h (Pv (i + 1))) ∧ ∀ h, Pv xs.length h → Q (.ref L) h) : LcB (Itl K a) g tt te vs σ H Q := fun L hL => by
  obtain ⟨Pv, h0, hl, hs, hd⟩ := f L hL
  exact lc_list (Qd := Q (.ref L)) Pv h0 hl hs hd
theorem lcR (f : ∀ L, H L = none → ∃ Pv : Nat → Hp → Prop, Pv 0 (upd H L (.lst [])) ∧
    (∀ i h, i < m → Pv i h → Turn1 g tt te vs σ L (.int (lo + i)) h (Pv (i + 1))) ∧ ∀ h, Pv m h → Q (.ref L) h) : LcB (Itr lo m) g tt te vs σ H Q := fun L hL => by
  obtain ⟨Pv, h0, hs, hd⟩ := f L hL
  exact lc_range (Qd := Q (.ref L)) Pv h0 hs hd
theorem turn1 {L : Addr} {x : V} {h : Hp} {Nx : Hp → Prop} (q : g x (wipe σ vs) h fun σ2 h2 => wipe σ2 vs = wipe σ vs ∧
    tt σ2 h2 fun k h3 => if k = true then (te σ2 h3 fun y h4 => ∃ out, h4 L = some (.lst out) ∧ out.length < sizeLine ∧ Nx (upd h4 L (.lst (out ++ [y])))) else Nx h3) : Turn1 g tt te vs σ L x h Nx := q
theorem andI {A B : Prop} (h1 : A) (h2 : B) : A ∧ B := ⟨h1, h2⟩
theorem yes {Q' : Bool → Hp → Prop} (h : Q' true H) : tYes σ H Q' := h
theorem irR {ta : TA} {R : It → Hp → Prop} (h : ta σ H fun vs H1 => ∃ j : Int, vs = [.int j] ∧ -(2 ^ 62) ≤ j ∧ j < 2 ^ 62 ∧ R (Itr 0 j.toNat) H1) : iRng1 ta σ H R := h
/-- an item of a list of ints -/
theorem int_at {ns : List Int} {i : Nat} {x : V} (h : (ns.map V.int)[i]? = some x) : ∃ z, ns[i]? = some z ∧ x = .int z := by
  rw [List.getElem?_map] at h
  cases e : ns[i]? with
  | none =>
    rw [e] at h
    cases h
  | some z =>
    rw [e] at h
    exact ⟨z, rfl, (Option.some.inj h).symm⟩
theorem same_upd {H : Hp} {p : Addr} {o : HO} (h : H p = none) : Same H (upd H p o) := fun b x e => by
  rw [upd_ne (ne_of_none e h)]
  exact e
/-- a new object stands beside what stood -/
theorem new_ne {H : Hp} {p q : Addr} {o : HO} (h : H p = some o) (h' : H q = none) : q ≠ p := fun e => by
  rw [e, h] at h'
  cases h'
theorem free_of {H H' : Hp} {p : Addr} (h : H' p = none) (k : ∀ b o, H b = some o → H' b = some o) : H p = none := by
  cases e : H p with
  | none => rfl
  | some o =>
    rw [k p o e] at h
    cases h
end
end Rd
namespace Rd
open PySem PySem.Spec PyProof.Rows L2
section
variable {K : PySem.W.Frag} {D : Ends} {σ : L2.St} {H : Hp} {te ta tb : TE} {Q : VK} {p : Addr} {xs : List V} {i j : Int}
theorem lstRev (h : te σ H fun v h => ∃ a zs, v = .ref a ∧ SqL K h a zs ∧ ∀ q, h q = none → Q (.ref q) (upd h q (.lst zs.reverse))) : tLstRev K te σ H Q := h
theorem exrev {P' : List V → Prop} (h : SqL K H p xs) (g : P' xs) : ∃ a zs, V.ref p = V.ref a ∧ SqL K H a zs ∧ P' zs := ⟨p, xs, rfl, h, g⟩
theorem lstRg {tr : L2.St → Hp → (Int → Int → Hp → Prop) → Prop} (h : tr σ H fun a b H1 => RgOk a b ∧ ∀ q, H1 q = none → Q (.ref q) (upd H1 q (.lst (rgV a b)))) : tLstRg tr σ H Q := h
theorem rg1 {P' : Int → Int → Hp → Prop} (h : ta σ H fun x H1 => ∃ m, x = .int m ∧ P' 0 m H1) : tRg1 ta σ H P' := h
theorem rg2 {P' : Int → Int → Hp → Prop} (h : ta σ H fun x H1 => tb σ H1 fun y H2 => ∃ a b, x = .int a ∧ y = .int b ∧ P' a b H2) : tRg2 ta tb σ H P' := h
theorem exint2 {P' : Int → Int → Prop} (h : P' i j) : ∃ a b, V.int i = V.int a ∧ V.int j = V.int b ∧ P' a b := ⟨i, j, rfl, rfl, h⟩
/-- an item at an open place -/
theorem ixN' {i : Int} {x : V} (h : SqL K H p xs) (h0 : 0 ≤ i) (h1 : xs[i.toNat]? = some x) (g : Q x H) : rIxL K (.ref p) (.int i) H Q := by
  have e : atI xs ((i.toNat : Nat) : Int) = some x := atI_nat h1
  rw [show ((i.toNat : Nat) : Int) = i by omega] at e
  exact ⟨p, xs, i, x, rfl, rfl, h, e, g⟩
theorem ixT' {i : Int} {x : V} (h : SqT K H p xs) (h0 : 0 ≤ i) (h1 : xs[i.toNat]? = some x) (g : Q x H) : rIxT K (.ref p) (.int i) H Q := by
  have e : atI xs ((i.toNat : Nat) : Int) = some x := atI_nat h1
  rw [show ((i.toNat : Nat) : Int) = i by omega] at e
  exact ⟨p, xs, i, x, rfl, rfl, h, e, g⟩
theorem setN' {P' : Hp → Prop} {k : Int} {v : V} (h : H p = some (.lst xs)) (h0 : 0 ≤ k) (h1 : k < (xs.length : Int)) (g : P' (upd H p (.lst (xs.set k.toNat v)))) : rSetL (.ref p) (.int k) v H P' := by
  refine ⟨p, xs, k, k.toNat, rfl, rfl, h, ?_, g⟩
  unfold ixN
  rw [if_pos h0, if_pos h1]
end
theorem swap_perm {α : Type} {l : List α} {i j : Nat} {x y : α} (hx : l[i]? = some x) (hy : l[j]? = some y) : ((l.set i y).set j x).Perm l := by
  obtain ⟨hi, e1⟩ := List.getElem?_eq_some_iff.mp hx
  obtain ⟨hj, e2⟩ := List.getElem?_eq_some_iff.mp hy
  rw [← e1, ← e2]
  exact List.set_set_perm hi hj
end Rd
/-! ### data, and what isinstance says of it -/
namespace Rd
open PySem PySem.Spec PyProof.Rows L2
def tys : List String := ["NoneType", "bool", "int", "str", "list", "tuple", "dict"]
def isT (t T : String) : Bool := t == T || (t == "bool" && T == "int")
theorem kit_all : ∀ t ∈ tys, ∀ T ∈ tys.tail, kitB t T = some (isT t T) := by decide +kernel
def tn : PyData → String
  | .none => "NoneType"
  | .bool _ => "bool"
  | .int _ => "int"
  | .str _ => "str"
  | .list _ => "list"
  | .tuple _ => "tuple"
  | .dict _ => "dict"
section
variable {K : PySem.W.Frag} {H : Hp} {x y : V} {d : PyData} {a : Addr} {xs : List V} {Q : VK}
theorem tyL' (h : SqL K H a xs) : TyX K H (.ref a) (.type "list") := by
  rcases h with (h | ⟨o, h⟩) | ⟨o, its, n, h, c, _⟩
  · exact .base (.lst h)
  · exact .base (.frz h)
  · exact .kList h c
theorem tyT' (h : SqT K H a xs) : TyX K H (.ref a) (.type "tuple") := by
  rcases h with (h | ⟨o, h⟩) | ⟨o, its, n, h, c, _⟩
  · exact .base (.tup h)
  · exact .fTuple h
  · exact .kTuple h c
theorem isi {t T : String} {b : Bool} (ty : TyX K H x (.type t)) (ht : t ∈ tys) (hT : T ∈ tys.tail) (e : isT t T = b) (q : Q (.bl b) H) : rIsi K [x, .ty T] H Q := by
  subst e
  exact ⟨x, .ty T, _, _, _, rfl, .ty T, ty, kit_ty (kit_all t ht T hT), q⟩
theorem isiT {t T : String} (ty : TyX K H x (.type t)) (e : (t ∈ tys ∧ T ∈ tys.tail) ∧ isT t T = true) (q : Q (.bl true) H) : rIsi K [x, .ty T] H Q := isi ty e.1.1 e.1.2 e.2 q
theorem isiF {t T : String} (ty : TyX K H x (.type t)) (e : (t ∈ tys ∧ T ∈ tys.tail) ∧ isT t T = false) (q : Q (.bl false) H) : rIsi K [x, .ty T] H Q := isi ty e.1.1 e.1.2 e.2 q
theorem dp_ty (h : Dp K H x d) : TyX K H x (.type (tn d)) := by
  cases h with
  | non => exact .base .non
  | bl b => exact .base (.bl b)
  | int i => exact .base (.int i)
  | str s => exact .base (.str s)
  | lst h _ => exact tyL' h
  | tup h _ => exact tyT' h
end
/-- data no deeper than n, with short lists -/
inductive Fit : Nat → PyData → Prop
  | non {n : Nat} : Fit n .none
  | bl {n : Nat} (b : Bool) : Fit n (.bool b)
  | int {n : Nat} (i : Int) : Fit n (.int i)
  | str {n : Nat} (s : Str) : Fit n (.str s)
  | lst {n : Nat} {ds : List PyData} : ds.length ≤ 100000 → (∀ d ∈ ds, Fit n d) → Fit (n + 1) (.list ds)
  | tup {n : Nat} {ds : List PyData} : ds.length ≤ 100000 → (∀ d ∈ ds, Fit n d) → Fit (n + 1) (.tuple ds)
theorem Fit.mono {n m : Nat} {d : PyData} (h : Fit n d) (k : n ≤ m) : Fit m d := by
  induction h generalizing m with
  | non => exact .non
  | bl b => exact .bl b
  | int i => exact .int i
  | str s => exact .str s
  | lst l _ ih =>
    cases m with
    | zero => omega
    | succ m => exact .lst l fun d hd => ih d hd (by omega)
  | tup l _ ih =>
    cases m with
    | zero => omega
    | succ m => exact .tup l fun d hd => ih d hd (by omega)
section
variable {K : PySem.W.Frag} {H H' : Hp}
theorem sqT_same {a : Addr} {xs : List V} (e : Same H H') (h : SqT K H a xs) : SqT K H' a xs := by
  rcases h with (h | ⟨o, h⟩) | h
  · exact .inl (.inl (e _ _ h))
  · exact .inl (.inr ⟨o, e _ _ h⟩)
  · exact .inr h
theorem all_len : ∀ {vs : List V} {ds : List PyData}, DpAll K H vs ds → vs.length = ds.length
  | _, _, .nil => rfl
  | _, _, .cons _ r => by rw [List.length_cons, List.length_cons, all_len r]
theorem all_at' : ∀ (vs : List V) (ds : List PyData) (i : Nat) (d : PyData), DpAll K H vs ds → ds[i]? = some d → ∃ v, vs[i]? = some v ∧ Dp K H v d
  | _, [], _, _, _, e => by simp at e
  | [], _ :: _, _, _, h, _ => by cases h
  | v :: _, _ :: _, 0, _, h, e => by
    cases h with
    | cons a _ =>
      cases e
      exact ⟨v, rfl, a⟩
  | _ :: vs, _ :: ds, i + 1, d, h, e => by
    cases h with
    | cons _ r =>
      obtain ⟨v, ev, dv⟩ := all_at' vs ds i d r (by simpa using e)
      exact ⟨v, by simpa using ev, dv⟩
theorem all_at {vs : List V} {ds : List PyData} {i : Nat} {d : PyData} (h : DpAll K H vs ds) (e : ds[i]? = some d) : ∃ v, vs[i]? = some v ∧ Dp K H v d := all_at' vs ds i d h e
theorem all_append' : ∀ (vs : List V) (ds : List PyData) {ws : List V} {es : List PyData}, DpAll K H vs ds → DpAll K H ws es → DpAll K H (vs ++ ws) (ds ++ es)
  | [], [], _, _, _, h => h
  | _ :: vs, _ :: ds, _, _, h, h' => by
    cases h with
    | cons a r => exact .cons a (all_append' vs ds r h')
  | [], _ :: _, _, _, h, _ => by cases h
  | _ :: _, [], _, _, h, _ => by cases h
theorem all_append {vs ws : List V} {ds es : List PyData} (h : DpAll K H vs ds) (h' : DpAll K H ws es) : DpAll K H (vs ++ ws) (ds ++ es) := all_append' vs ds h h'
theorem all_mid {vs ws : List V} {ds es : List PyData} {v : V} {d : PyData} (h : DpAll K H vs ds) (a : Dp K H v d) (h' : DpAll K H ws es) : DpAll K H (vs ++ [v] ++ ws) (ds ++ d :: es) := by
  rw [List.append_assoc]
  exact all_append h (.cons a h')
mutual
theorem dp_same (e : Same H H') : ∀ {v : V} {d : PyData}, Dp K H v d → Dp K H' v d
  | _, _, .non => .non
  | _, _, .bl b => .bl b
  | _, _, .int i => .int i
  | _, _, .str s => .str s
  | _, _, .lst h r => .lst (e.seq h) (all_same e r)
  | _, _, .tup h r => .tup (sqT_same e h) (all_same e r)
theorem all_same (e : Same H H') : ∀ {v : List V} {d : List PyData}, DpAll K H v d → DpAll K H' v d
  | _, _, .nil => .nil
  | _, _, .cons h r => .cons (dp_same e h) (all_same e r)
end
end
end Rd
/-! ### signs and names -/
namespace Rd
open PySem PySem.Spec PyProof.Rows L2
abbrev cl (z : Str) : List Nat := z.cps.toList
theorem cl_len (z : Str) : (cl z).length = z.length := by simp [cl, Str.length]
theorem cl_add (a b : Str) : cl (a ++ b) = cl a ++ cl b := by
  show (a.cps ++ b.cps).toList = _
  rw [Array.toList_append]
theorem add_len (a b : Str) : (a ++ b).length = a.length + b.length := by
  rw [← cl_len, cl_add, List.length_append, cl_len, cl_len]
theorem cl_one (c : Nat) : cl ⟨#[c]⟩ = [c] := rfl
theorem one_len (c : Nat) : (⟨#[c]⟩ : Str).length = 1 := rfl
theorem cl_inj {a b : Str} (h : cl a = cl b) : a = b := by
  obtain ⟨⟨a⟩⟩ := a
  obtain ⟨⟨b⟩⟩ := b
  have h : a = b := h
  rw [h]
def Low (c : Nat) : Prop := 97 ≤ c ∧ c ≤ 122
def Aln (c : Nat) : Prop := Low c ∨ (48 ≤ c ∧ c ≤ 57)
instance (c : Nat) : Decidable (Low c) := inferInstanceAs (Decidable (_ ∧ _))
instance (c : Nat) : Decidable (Aln c) := inferInstanceAs (Decidable (_ ∨ _))
/-- the signs of a name -/
def Nm (l : List Nat) : Prop := ∃ c r, l = c :: r ∧ Low c ∧ ∀ x ∈ r, Aln x
theorem Nm.all {l : List Nat} (h : Nm l) : ∀ x ∈ l, Aln x := by
  obtain ⟨c, r, rfl, hc, hr⟩ := h
  intro x hx
  rcases List.mem_cons.mp hx with rfl | hx
  · exact .inl hc
  · exact hr x hx
theorem Nm.snoc {l : List Nat} (h : Nm l) {x : Nat} (a : Aln x) : Nm (l ++ [x]) := by
  obtain ⟨c, r, rfl, hc, hr⟩ := h
  refine ⟨c, r ++ [x], rfl, hc, fun y hy => ?_⟩
  rcases List.mem_append.mp hy with hy | hy
  · exact hr y hy
  · rw [List.mem_singleton.mp hy]
    exact a
theorem Nm.head {l : List Nat} (h : Nm l) : ∃ c, l[0]? = some c ∧ Low c := by
  obtain ⟨c, r, rfl, hc, _⟩ := h
  exact ⟨c, rfl, hc⟩
theorem sz5 {n : Nat} (h : n ≤ 100000) : n ≤ sizeLine := Nat.le_trans h (by decide)
theorem sz5' {n : Nat} (h : n ≤ 100000) : n < sizeLine := Nat.lt_of_le_of_lt h (by decide)
section
variable {K : PySem.W.Frag} {H : Hp} {Q : VK} {i : Int} {z : Str}
/-- a sign of a text, at an open place -/
theorem sign (hl : z.length ≤ 100000) (h0 : 0 ≤ i) (h1 : i < (z.length : Int)) (g : ∀ c, (cl z)[i.toNat]? = some c → c ∈ cl z → Q (.str ⟨#[c]⟩) H) : rIxS (.str z) (.int i) H Q := by
  have hj : i.toNat < (cl z).length := by
    rw [cl_len]
    omega
  have e1 := List.getElem?_eq_getElem hj
  have e : atI (cl z) ((i.toNat : Nat) : Int) = some (cl z)[i.toNat] := atI_nat e1
  rw [show ((i.toNat : Nat) : Int) = i by omega] at e
  exact ⟨z, i, _, rfl, rfl, sz5 hl, e, g _ e1 (List.getElem_mem hj)⟩
end
end Rd
namespace Rd
open PySem PySem.Spec PyProof.Rows L2
section
variable {σ : L2.St} {H : Hp} {cc : TT} {tb : TS} {n b c : L2.St → Hp → Prop} {rr : VK}
/-- a while by an invariant with a number that falls -/
theorem whileX (W : Nat → L2.St → Hp → Prop) (m0 : Nat) (h0 : W m0 σ H)
    (hs : ∀ m σ H, W m σ H → cc σ H fun k H1 => if k = true then ∃ N : L2.St → Hp → Prop, (∀ σ' H', N σ' H' → ∃ j, j < m ∧ W j σ' H') ∧ tb ⟨N, rr, n, N⟩ σ H1 else n σ H1) : tWhile cc tb ⟨n, rr, b, c⟩ σ H :=
  ⟨W, ⟨m0, h0⟩, hs⟩
theorem exN {m : Nat} {W : Nat → L2.St → Hp → Prop} (h : tb ⟨fun σ' H' => ∃ j, j < m ∧ W j σ' H', rr, n, fun σ' H' => ∃ j, j < m ∧ W j σ' H'⟩ σ H) :
    ∃ N : L2.St → Hp → Prop, (∀ σ' H', N σ' H' → ∃ j, j < m ∧ W j σ' H') ∧ tb ⟨N, rr, n, N⟩ σ H := ⟨_, fun _ _ z => z, h⟩
theorem lc0 {x : V} {xs : List V} {A B : Prop} (h : B) : if decide (V.int (((x :: xs).length : Nat) : Int) = V.int 0) = true then A else B := by
  rw [if_neg]
  · exact h
  · intro e
    have e := V.int.inj (of_decide_eq_true e)
    rw [List.length_cons] at e
    omega
theorem ln0 {A B : Prop} (h : A) : if decide (V.int ((([] : List V).length : Nat) : Int) = V.int 0) = true then A else B := h
end
end Rd
namespace Rd
theorem log_small {n : Int} (h0 : 0 ≤ n) (h1 : n ≤ 1000000) : n.natAbs.log2 < 1920 :=
  Nat.lt_trans (PySem.Flt.log2_lt_of (k := 20) (by decide) (by omega)) (by decide)
end Rd
namespace Rd
open PySem PySem.Spec PyProof.Rows L2
/-- ways that meet -/
theorem cut {t u : TS} {n b c : L2.St → Hp → Prop} {rr : VK} {σ : L2.St} {H : Hp} (Mid : L2.St → Hp → Prop) (h : t ⟨Mid, rr, b, c⟩ σ H) (k : ∀ σ' H', Mid σ' H' → u ⟨n, rr, b, c⟩ σ' H') : C8.tCut t u ⟨n, rr, b, c⟩ σ H := ⟨Mid, h, k⟩
end Rd
/-! ### data without lists stays where only lists are written -/
namespace Rd
open PySem PySem.Spec PyProof.Rows L2
inductive Tp : PyData → Prop
  | non : Tp .none
  | bl (b : Bool) : Tp (.bool b)
  | int (i : Int) : Tp (.int i)
  | str (s : Str) : Tp (.str s)
  | tup {ds : List PyData} : (∀ d ∈ ds, Tp d) → Tp (.tuple ds)
def Tk (H H' : Hp) : Prop := ∀ b o, (∀ xs, o ≠ HO.lst xs) → H b = some o → H' b = some o
theorem Tk.trans {H H1 H2 : Hp} (a : Tk H H1) (b : Tk H1 H2) : Tk H H2 := fun c o n e => b c o n (a c o n e)
theorem Same.tk {H H' : Hp} (a : Same H H') : Tk H H' := fun c o _ e => a c o e
/-- two lists may be written -/
theorem tk_but {H H' : Hp} {p q : Addr} {xs ys : List V} (hp : H p = some (.lst xs)) (hq : H q = some (.lst ys)) (k : ∀ b o, b ≠ p → b ≠ q → H b = some o → H' b = some o) : Tk H H' := fun b o n e =>
  k b o (fun z => by rw [z, hp] at e; exact n xs (Option.some.inj e).symm) (fun z => by rw [z, hq] at e; exact n ys (Option.some.inj e).symm) e
section
variable {K : PySem.W.Frag} {H H' : Hp}
theorem sqT_tk {a : Addr} {xs : List V} (e : Tk H H') (h : SqT K H a xs) : SqT K H' a xs := by
  rcases h with (h | ⟨o, h⟩) | h
  · exact .inl (.inl (e _ _ (fun _ z => by cases z) h))
  · exact .inl (.inr ⟨o, e _ _ (fun _ z => by cases z) h⟩)
  · exact .inr h
mutual
theorem dp_tk (e : Tk H H') : ∀ {v : V} {d : PyData}, Dp K H v d → Tp d → Dp K H' v d
  | _, _, .non, _ => .non
  | _, _, .bl b, _ => .bl b
  | _, _, .int i, _ => .int i
  | _, _, .str s, _ => .str s
  | _, _, .lst _ _, t => nomatch t
  | _, _, .tup h r, .tup t => .tup (sqT_tk e h) (all_tk e r t)
theorem all_tk (e : Tk H H') : ∀ {v : List V} {d : List PyData}, DpAll K H v d → (∀ x ∈ d, Tp x) → DpAll K H' v d
  | _, _, .nil, _ => .nil
  | _, _, .cons h r, t => .cons (dp_tk e h (t _ List.mem_cons_self)) (all_tk e r fun x hx => t x (List.mem_cons_of_mem _ hx))
end
end
end Rd
namespace Rd
open PySem PySem.Spec PyProof.Rows L2
section
variable {K : PySem.W.Frag} {H : Hp} {Q : VK} {a b : Str} {A B : Prop} {p : Addr} {z x : V} {zs xs : List V}
theorem iteSt (e : a = b) (h : A) : if decide (V.str a = V.str b) = true then A else B := by
  subst e
  rw [if_pos (decide_eq_true rfl)]
  exact h
theorem iteSf (e : ¬ a = b) (h : B) : if decide (V.str a = V.str b) = true then A else B := by
  rw [if_neg]
  · exact h
  · intro z
    exact e (V.str.inj (of_decide_eq_true z))
theorem popR (h : H p = some (.lst (z :: zs).reverse)) (g : Q z (upd H p (.lst zs.reverse))) : rPop (.ref p) [] H Q := by
  rw [List.reverse_cons] at h
  refine ⟨p, _, z, rfl, rfl, h, ?_, ?_⟩
  · rw [List.length_append, List.length_singleton, Nat.add_sub_cancel, List.getElem?_append_right (Nat.le_refl _), Nat.sub_self]
    rfl
  · rw [List.dropLast_concat]
    exact g
theorem appR (h : H p = some (.lst zs.reverse)) (c : zs.length < 100000) (g : Q .non (upd H p (.lst (z :: zs).reverse))) : rAppend (.ref p) [z] H Q := by
  refine ⟨p, _, z, rfl, rfl, h, ?_, ?_⟩
  · rw [List.length_reverse]
    exact sz5' (by omega)
  · rw [← List.reverse_cons]
    exact g
theorem niQ (h : SqL K H p xs ∨ SqT K H p xs) (f : flatV x = true ∧ xs.all flatV = true) (e : inV x xs = true) (g : Q (.bl false) H) : rIn K true x (.ref p) H Q := by
  refine ⟨p, xs, rfl, h, f.1, f.2, ?_⟩
  rw [if_pos rfl, e]
  exact g
theorem inQ (h : SqL K H p xs ∨ SqT K H p xs) (f : flatV x = true ∧ xs.all flatV = true) (e : inV x xs = true) (g : Q (.bl true) H) : rIn K false x (.ref p) H Q := by
  refine ⟨p, xs, rfl, h, f.1, f.2, ?_⟩
  rw [if_neg Bool.false_ne_true, e]
  exact g
end
end Rd
namespace Rd
open PySem PySem.Spec PyProof.Rows L2
theorem same_put {H H' : Hp} {p : Addr} (s : Same H H') (f : H p = none) (o : HO) : Same H (upd H' p o) := fun b u e => (upd_ne (ne_of_none e f)).trans (s b u e)
theorem tk_put {H : Hp} {p : Addr} {xs : List V} (h : H p = some (.lst xs)) (o : HO) : Tk H (upd H p o) := fun b u n e => (upd_ne fun z => by
  rw [z, h] at e
  exact n xs (Option.some.inj e).symm).trans e
theorem tk_new {H : Hp} {p : Addr} (h : H p = none) (o : HO) : Tk H (upd H p o) := fun b u _ e => (upd_ne (ne_of_none e h)).trans e
theorem ne_tl {H : Hp} {p q : Addr} {xs ys : List V} (h : H p = some (.tup xs)) (h' : H q = some (.lst ys)) : p ≠ q := fun z => by
  rw [z, h'] at h
  cases h
end Rd
/-! ### texts whose signs are signs -/
namespace Rd
open PySem PySem.Spec PyProof.Rows L2
def TxOk (z : Str) : Prop := z.cps.all (fun c => decide (c < 0x110000)) = true
instance (z : Str) : Decidable (TxOk z) := inferInstanceAs (Decidable (_ = true))
theorem txOk_iff {z : Str} : TxOk z ↔ ∀ c ∈ cl z, c < 0x110000 := by
  unfold TxOk
  rw [← Array.all_toList, List.all_eq_true]
  exact ⟨fun h c hc => of_decide_eq_true (h c hc), fun h c hc => decide_eq_true (h c hc)⟩
theorem txOk_nm {z : Str} (h : Nm (cl z)) : TxOk z := txOk_iff.mpr fun c hc => by
  rcases h.all c hc with a | a
  · have := a.2
    omega
  · have := a.2
    omega
theorem txOk_num (n : Int) : TxOk (toString n) := txOk_iff.mpr fun c hc => by
  have e : cl (PySem.Str.ofString (toString n)) = (toString n).toList.map Char.toNat := signs_ofString _
  have hc : c ∈ cl (PySem.Str.ofString (toString n)) := hc
  rw [e] at hc
  obtain ⟨x, _, rfl⟩ := List.mem_map.mp hc
  have v := x.valid
  have : x.toNat < 0x110000 := by
    rcases v with v | v
    · have : x.toNat < 0xd800 := v
      omega
    · exact v.2
  exact this
theorem txOk_add {a b : Str} (h : TxOk a) (h' : TxOk b) : TxOk (a ++ b) := txOk_iff.mpr fun c hc => by
  rw [cl_add] at hc
  rcases List.mem_append.mp hc with hc | hc
  · exact txOk_iff.mp h c hc
  · exact txOk_iff.mp h' c hc
end Rd
/-! ### within a comprehension: the written part by its own name -/
namespace Rd
open PySem PySem.Spec PyProof.Rows L2
section
variable {X : Cx} {K : PySem.W.Frag}
theorem sl_listK (h : X.K = K) : SlR X (rSlL K) := h ▸ sl_list
theorem ix_listK (h : X.K = K) : IxR X (rIxL K) := h ▸ ix_list
theorem ix_tupK (h : X.K = K) : IxR X (rIxT K) := h ▸ ix_tup
theorem q_lenK (h : X.K = K) : CallR X (.builtin "len") (rLenQ K) := h ▸ q_len
theorem q_listK (h : X.K = K) : CallR X (.type "list") (rListQ K) := h ▸ q_list
theorem q_tupK (h : X.K = K) : CallR X (.type "tuple") (rTupQ K) := h ▸ q_tup
end
end Rd
/-! while an exception is handled: a list walked by a comprehension, isinstance and fields of that exception -/
namespace Ho
open PySem PySem.Spec PyProof.Rows L2 HotX L2H
section
variable {prog : Program} {w : World} {A : Around} {E : Value → Shared → Prop} {s : Shared}
/-- a list's iterator has come to its end -/
theorem list_end {it l x1 : Addr} {i : Nat} {its : Array Value} {Q : Option Value → Shared → Prop} (hot : HotAt A x1 s.heap) (st : s.heap.IsListIter it l i) (hl : s.heap.IsList l its) (out : its[i]? = none)
    (k : ∀ h', (∀ b o, b ≠ it → s.heap.get? b = some o → h'.get? b = some o) → Q none { s with heap := h' }) : wpAny (model prog w) A (pyNext (.ref it)) Q E s := by
  have ty := st.typeIs
  obtain ⟨oi, gi, ci, di⟩ := st
  obtain ⟨ol, gl, _, n, dl⟩ := hl
  obtain ⟨hh, o1, vs1, g1, d1, c1⟩ := hot
  have apart : x1 ≠ it := by
    rintro rfl
    rw [gi] at g1
    cases g1
    rw [di] at d1
    cases d1
    cases c1
  unfold pyNext
  refine wpAny_bind (wpAny_attempt (wpAny_callSpecial?_slot (name := Str.ofString "__next__") ty slot_listiter_next
    (wpAny_call_entry slot_listiter_next ty entry_listiter_next ?_ (args_listiter_next _))))
  show wpAny _ _ (field (.ref it) 0 >>= _) _ _ s
  refine wpAny_bind (wpAny_field gi di (x := .ref l) rfl ?_)
  have notN : ¬ (Value.ref l == Value.none) = true := Bool.false_ne_true
  show wpAny _ _ (if (Value.ref l == Value.none) = true then _ else _) _ _ s
  rw [if_neg notN]
  show wpAny _ _ (field (.ref it) 1 >>= _) _ _ s
  refine wpAny_bind (wpAny_field gi di (x := .int i 0) rfl ?_)
  show wpAny _ _ (seqItems? (.ref l) >>= _) _ _ s
  refine wpAny_bind (wpAny_seqItems gl dl ?_)
  simp only [Int.toNat_natCast, out]
  refine wpAny_bind (wpAny_rule (wpAny_bind (wpAny_setField gi di (by simp) ?_)))
  show wpAny _ _ (newExc (.type "StopIteration") [] >>= _) _ _ _
  refine wpAny_bind ?_
  simp only [newExc, newTuple]
  refine wpAny_bind (wpAny_newObj_type ?_ (by size_fits))
  refine wpAny_bind (m := firstArgMember _ _) (wpAny_of_eq (a := Value.none) (by first | rfl | (simp only [firstArgMember]; rfl)) ?_)
  refine wpAny_newObj_type ?_ (by size_fits)
  have g1' := (Heap.get?_update_other s.heap (Obj.mapFields (·.setIfInBounds 0 Value.none)) (Ne.symm apart)).trans g1
  refine raiseNew_hot (x1 := x1) ⟨hh, o1, vs1, ?_, d1, c1⟩ ?_ (Heap.get?_push_size _ rfl) rfl (by first | (simp; done) | (simp; omega) | (simp only [Array.size_append]; simp; omega)) ?_
  · first
    | exact Heap.get?_push_of_some _ (Heap.get?_push_of_some _ g1')
    | exact Heap.get?_push_of_some _ (Heap.get?_push_of_some _ ((Heap.get?_update_other _ _ (Ne.symm apart)).trans g1))
  · refine Nat.ne_of_lt (Heap.lt_size (o := o1) (Heap.get?_push_of_some _ ?_))
    exact (Heap.get?_update_other _ _ (Ne.symm apart)).trans g1
  refine wpAny_bind (wpAny_isInstance (T := "StopIteration") (b := true) ⟨_, Heap.get?_update_self _ (Heap.get?_push_size _ rfl) rfl, rfl⟩ isSubtype_stop ?_)
  refine wpAny_pure (k _ fun b o hb e => ?_)
  have e2 := (Heap.get?_update_other s.heap (Obj.mapFields (·.setIfInBounds 0 Value.none)) (Ne.symm hb)).trans e
  have e3 : ∀ f, (s.heap.update it f).get? b = some o := fun f => (Heap.get?_update_other _ f (Ne.symm hb)).trans e
  rw [Heap.get?_update_other _ _ (Nat.ne_of_gt (Heap.lt_size (o := o) (Heap.get?_push_of_some _ (e3 _))))]
  exact Heap.get?_push_of_some _ (Heap.get?_push_of_some _ (e3 _))
end
section
variable {X : Cx} {pins : List (Addr × Obj)} {σ : L2.St} {H : Hp} {s : Shared} {a it : Addr} {i : Nat} {E : Value → Shared → Prop} {tg : Expr}
/-- the next item of a list that is walked -/
theorem walk_item (I : Inv X pins σ H s) (f : FpOk X pins H it) (st : s.heap.IsListIter it a i) (g : ∃ xs x, SqL X.K H a xs ∧ xs[i]? = some x) :
    wpAny (model X.prog X.w) X.A (pyNext (.ref it)) (fun r s1 => ∃ u, r = some u ∧ wpAny (model X.prog X.w) X.A (letOwnedTupleGo tg (.ref it) u)
      (fun _ s2 => ∃ x, Inv X pins σ H s2 ∧ RelV x u ∧ (Itl X.K a).yld i H x H ∧ s2.heap.IsListIter it a (i + 1)) E s1) E s := by
  obtain ⟨xs, x, hq, hx⟩ := g
  obtain ⟨vs, rel, lay, _⟩ := I.list hq
  obtain ⟨u, hu, ru⟩ := rel.get hx
  obtain ⟨n0, n1, n2, n3, n4, n5⟩ := f
  refine wpAny_pyNext_list_item st lay.isList (x := u) (by simpa using hu) fun h1 st1 but => ?_
  have J : Inv X pins σ H { s with heap := h1 } := I.turned (t' := s.toks) (fun b o nb eb => (but.2 b nb).trans eb) n0 n1 n3 n4 n5
  have st2 := st1
  obtain ⟨o, eo, co, dO⟩ := st1
  refine ⟨u, rfl, go_of (s := { s with heap := h1 }) eo co dO (by decide) ⟨x, J, ru, ⟨rfl, fun ys hy => ?_⟩, st2⟩⟩
  rw [I.list_inj hy hq]
  exact hx
/-- no further item, an exception being handled -/
theorem walk_done {p : Addr × Obj} (hot : Hot1 X.A p) (hp : p ∈ X.pn ++ pins) (I : Inv X pins σ H s) (f : FpOk X pins H it) (st : s.heap.IsListIter it a i) (g : ∃ xs, SqL X.K H a xs ∧ xs.length ≤ i) :
    wpAny (model X.prog X.w) X.A (pyNext (.ref it)) (fun r s1 => r = none ∧ Inv X pins σ H s1) E s := by
  obtain ⟨xs, hq, hx⟩ := g
  obtain ⟨vs, rel, lay, _⟩ := I.list hq
  obtain ⟨n0, n1, n2, n3, n4, n5⟩ := f
  have len := rel.length
  obtain ⟨hh, fs, df, cf⟩ := hot
  exact list_end ⟨hh, p.2, fs, (I.pin p hp).1, df, cf⟩ st lay.isList (by simp; omega) fun h1 k => ⟨rfl, I.turned (t' := s.toks) (fun b o nb eb => k b o nb eb) n0 n1 n3 n4 n5⟩
end
section
variable {X : Cx}
/-- [elt for tg in iter if ..] over a list, an exception being handled -/
theorem pe_lcH {elt tg iter : Expr} {ifs : List Expr} {scope : Scope} {own : List (Str × Nat)} {pos : Pos} {tl : TE} {g : TG} {tt : TT} {te : TE} (hot : HotC X) (hN : X.N.Nodup) (hi : PE X iter tl) (ok : BlkOk X.N X.env.scope scope own)
    (hg : ∀ (s : Shared) (H : Hp) (C : Addr) (cl : List (Str × Addr)) (fp : List Addr), PG (X.blk s H scope (compEnvC scope cl C X.env) fp) tg g)
    (ht : ∀ (s : Shared) (H : Hp) (C : Addr) (cl : List (Str × Addr)) (fp : List Addr), PTs (X.blk s H scope (compEnvC scope cl C X.env) fp) ifs tt)
    (he : ∀ (s : Shared) (H : Hp) (C : Addr) (cl : List (Str × Addr)) (fp : List Addr), PE (X.blk s H scope (compEnvC scope cl C X.env) fp) elt te)
    (hs : ∀ x, foldedSetIterable iter X.env x = pure x := by intro _; rfl) :
    PE X (.ListComp elt [⟨tg, iter, ifs, 0⟩] scope pos) (tLc (iList X.K tl) g tt te (own.map (·.2))) := by
  refine ⟨fun pins s σ H Q I h => ?_⟩
  obtain ⟨p, hot1, hp⟩ := hot
  rw [eval_ListComp]
  have cells : ∀ y ∈ scope.names, y.2 = .free → ∃ c, X.env.cells.lookup y.1 = some c := by
    intro y hy ey
    cases ok.free y hy ey with
    | inl k => exact I.ok.has _ (.inl k)
    | inr k => exact I.ok.has _ (.inr k)
  refine wpAny_comprehension_free (use := none) rfl hs (closure_ok cells) ok.kind (fun y hy ey => by rw [ok.uniq y hy, ey])
    (thn (hi.run pins s σ H _ I h) fun v s1 h1 => ?_)
  obtain ⟨x, H1, I1, r1, a, ex, ⟨xs, hq⟩, q⟩ := h1
  subst ex
  cases r1
  obtain ⟨vs, rel, lay, _⟩ := I1.list hq
  refine wpAny_pyIter_list lay.isList ?_
  -- the iterator
  generalize hs2 : ({ s1 with heap := s1.heap.push { cls := .type "list_iterator", data := .fields #[.ref a, .int 0 0] } } : Shared) = s2
  generalize hit : s1.heap.objs.size = it
  have I2 : Inv X pins σ H1 s2 := by
    rw [← hs2]
    exact I1.kept (t' := s1.toks) fun b o eb => Heap.get?_push_of_some _ eb
  have st2 : s2.heap.IsListIter it a 0 := by
    rw [← hs2, ← hit]
    exact ⟨_, Heap.get?_push_size _ rfl, rfl, rfl⟩
  have f2 : FpOk X pins H1 it := I1.fpOk (Nat.le_of_eq hit) (I1.hok.fresh (Nat.le_of_eq hit))
  refine wpAny_newObj_type (newEnv_comp ?_) (by show 0 ≤ sizeLine; decide)
  generalize hD : s2.heap.objs.size = D
  have freeD : H1 D = none := I2.hok.fresh (Nat.le_of_eq hD)
  obtain ⟨W, ⟨m0, w0⟩, turn⟩ := q D freeD
  -- the new list
  generalize hs3 : ({ s2 with heap := s2.heap.push { cls := .type "list", data := .seq ([] : List Value).toArray } } : Shared) = s3
  have h3 : s3.heap = s2.heap.push { cls := .type "list", data := .seq ([] : List Value).toArray } := by rw [← hs3]
  have I3 : Inv X pins σ (upd H1 D (.lst [])) s3 := by
    rw [← hs3]
    refine I2.laid (t' := s2.toks) (fun b o eb => Heap.get?_push_of_some _ eb) (Nat.le_of_eq hD) ⟨Nat.zero_le _, [], 0, .nil, ?_⟩
    rw [← hD]
    exact Heap.get?_push_size _ rfl
  have itlt : it < s2.heap.objs.size := by
    obtain ⟨o, eo, _⟩ := st2
    exact Heap.lt_size eo
  have f3 : ∀ b ∈ [it], FpOk X pins (upd H1 D (.lst [])) b ∧ b < s3.heap.objs.size := by
    intro b hb
    cases List.mem_singleton.mp hb
    refine ⟨⟨?_, f2.2⟩, ?_⟩
    · rw [upd_ne (by rw [← hD]; exact Nat.ne_of_lt itlt)]
      exact f2.1
    · rw [h3, Heap.size_push]
      exact Nat.lt_succ_of_lt itlt
  have st3 : s3.heap.IsListIter it a 0 := by
    rw [h3]
    exact st2.at fun o eo => Heap.get?_push_of_some _ eo
  have I4 := block_start I3 ok hN f3
  have pg := hg s3 (upd H1 D (.lst [])) s3.heap.objs.size (cellsFrom (s3.heap.objs.size + 1) scope.names (cloFrom X.env.cells scope.names [])) [it]
  have pt := ht s3 (upd H1 D (.lst [])) s3.heap.objs.size (cellsFrom (s3.heap.objs.size + 1) scope.names (cloFrom X.env.cells scope.names [])) [it]
  have pe := he s3 (upd H1 D (.lst [])) s3.heap.objs.size (cellsFrom (s3.heap.objs.size + 1) scope.names (cloFrom X.env.cells scope.names [])) [it]
  show codeAny _ _ (.compStart (.ListComp elt [⟨tg, iter, ifs, 0⟩] scope pos) 0 (.ref it) (.ref D) (compEnvC scope (cellsFrom (s3.heap.objs.size + 1) scope.names (cloFrom X.env.cells scope.names [])) s3.heap.objs.size X.env))
    (compPost (model X.prog X.w) X.A X.xe none (EP X pins σ Q) (.ref D) s3.heap.objs.size) { s3 with heap := pushCells (s3.heap.push { cls := .type "dict", data := .dict #[] }) scope.names }
  have nit : (upd H1 D (.lst [])) it = none := (f3 it (List.mem_singleton.mpr rfl)).1.1
  have P3 := I3.pin p (List.mem_append_left _ hp)
  generalize hce : compEnvC scope (cellsFrom (s3.heap.objs.size + 1) scope.names (cloFrom X.env.cells scope.names [])) s3.heap.objs.size X.env = ce at I4 pg pt pe ⊢
  have cL : ce.locals = s3.heap.objs.size := by
    subst hce
    rfl
  generalize hH3 : upd H1 D (.lst []) = H3 at I3 I4 pg pt pe w0 nit f3 P3
  generalize hs4 : ({ s3 with heap := pushCells (s3.heap.push { cls := .type "dict", data := .dict #[] }) scope.names } : Shared) = s4 at I4 ⊢
  have up4 : ∀ b o, s3.heap.get? b = some o → s4.heap.get? b = some o := by
    intro b o eb
    rw [← hs4]
    exact pushCells_keeps _ _ _ _ (Heap.get?_push_of_some _ eb)
  have st4 : s4.heap.IsListIter it a 0 := st3.at fun o eo => up4 _ o eo
  -- the handled exception stays pinned within the block
  have pfs : p.1 ∉ (X.blk s3 H3 scope ce [it]).fs := by
    intro z
    rcases List.mem_cons.mp (I3.stkSub p.1 z) with z | z
    · exact P3.2.2.1 z
    · exact P3.2.2.2.1 z
  have I4 : Inv (X.blk s3 H3 scope ce [it]) [p] (wipe σ (own.map (·.2))) H3 s4 := I4.pins_of fun r hr => by
    have er : r = p := by simpa using (show r ∈ ([] : List (Addr × Obj)) ++ [p] from hr)
    subst er
    refine ⟨up4 _ _ P3.1, P3.2.1, ?_, pfs, P3.2.2.2.2⟩
    rw [cL]
    exact Nat.ne_of_lt (Heap.lt_size P3.1)
  have pit : p.1 ≠ it := f2.2.2.2.2.2 p (List.mem_append_left _ hp)
  have stat : ∀ {σ' : L2.St} {H' : Hp} {s' : Shared}, Inv (X.blk s3 H3 scope ce [it]) [p] σ' H' s' → H' it = none → FpOk (X.blk s3 H3 scope ce [it]) [p] H' it := fun {σ' H' s'} J n =>
    have mem : it ∈ [it] := List.mem_singleton.mpr rfl
    ⟨n, (J.ok.exf it mem).1, J.ok.exfs it mem, .inl mem, fun y c ey => (J.ok.exf it mem).2 y c ey, fun r hr => by
      have er : r = p := by simpa using (show r ∈ ([] : List (Addr × Obj)) ++ [p] from hr)
      rw [er]
      exact pit⟩
  have loop : codeAny (model X.prog X.w) X.A (.compLoop (.ListComp elt [⟨tg, iter, ifs, 0⟩] scope pos) 0 (.ref it) (.ref D) ce) (compPost (model X.prog X.w) X.A X.xe none (EP X pins σ Q) (.ref D) s3.heap.objs.size) s4 := by
    refine compLoop_any (fun n s' => ∃ i H', Inv (X.blk s3 H3 scope ce [it]) [p] (wipe σ (own.map (·.2))) H' s' ∧ s'.heap.IsListIter it a i ∧ H' it = none ∧ W i n H') ?_ m0 ⟨0, H3, I4, st4, nit, w0⟩
    rintro n s5 ⟨i, H5, I5, st5, n5, w5⟩
    rcases turn i n H5 w5 with ⟨stop, qq⟩ | ⟨go, Nx, hNx, step⟩
    · refine thnF (walk_done (X := X.blk s3 H3 scope ce [it]) (E := fun _ _ => False) hot1 (List.mem_append_right _ (List.mem_singleton.mpr rfl)) I5 (stat I5 n5) st5 stop) fun r s6 ⟨hr, I6⟩ => ?_
      subst hr
      have I7 : Inv X pins σ H5 s6 := I3.call' (ch := [it]) I6.os I6.base I6.hok I6.bare fun b hb =>
        have z := (f3 b hb).1
        ⟨z.2.2.2.1, z.2.1, z.2.2.2.2.1, z.2.2.2.2.2⟩
      have nC : H5 s3.heap.objs.size = none := by
        have z : H5 ce.locals = none := I6.free
        rw [cL] at z
        exact z
      obtain ⟨m, hn, _⟩ := I6.loc
      have hn : s6.heap.Ns ce.locals m := hn
      rw [cL] at hn
      obtain ⟨k0, k1, k2, k3, k4, k5⟩ := I3.fpOk (Nat.le_refl _) nC
      exact ⟨m, hn, fun h9 sb => ⟨.ref D, H5, I7.turned (t' := s6.toks) (fun b o nb eb => (sb.2 b nb).trans eb) k0 k1 k3 k4 k5, rfl, qq⟩⟩
    · refine thnF (walk_item (tg := tg) (X := X.blk s3 H3 scope ce [it]) (E := fun _ _ => False) I5 (stat I5 n5) st5 go) fun r s6 ⟨u, hr, h6⟩ => ?_
      subst hr
      refine thnF h6 fun _ s7 ⟨x, I7, r7, y7, st7⟩ => ?_
      have objs : ∀ b ∈ [it], ∃ o, s7.heap.get? b = some o ∧ ∀ v, o.data ≠ .cell v := by
        intro b hb
        cases List.mem_singleton.mp hb
        obtain ⟨o, eo, _, dO⟩ := st7
        exact ⟨o, eo, fun v z => by rw [dO] at z; cases z⟩
      have I7' := I7.pinned (fp := [it]) (fun b hb => by cases List.mem_singleton.mp hb; exact stat I7 n5) objs
      refine thnF (pg.run _ s7 _ H5 x u _ I7' r7 (step x H5 y7)) fun _ s8 ⟨σ8, H8, I8, hw8, q8⟩ => ?_
      refine thnF (pt.run _ s8 σ8 H8 _ I8 q8) fun b s9 ⟨H9, I9, q9⟩ => ?_
      have fin : ∀ {s' : Shared} {H' : Hp}, Inv (X.blk s3 H3 scope ce [it]) ([p] ++ pinsAt [it] s7.heap) σ8 H' s' → Nx H' →
          ∃ m, m < n ∧ ∃ i H', Inv (X.blk s3 H3 scope ce [it]) [p] (wipe σ (own.map (·.2))) H' s' ∧ s'.heap.IsListIter it a i ∧ H' it = none ∧ W i m H' := by
        intro s' H' J nx
        obtain ⟨m', hm, w'⟩ := hNx H' nx
        obtain ⟨o, eo, ho⟩ := id st7
        have z := J.pin (it, o) (List.mem_append_right _ (List.mem_append_right _ (mem_pinsAt (List.mem_singleton.mpr rfl) eo)))
        have hl : (wipe σ (own.map (·.2))).length = σ8.length := by rw [← hw8, wipe_length]
        refine ⟨m', hm, i + 1, H', (J.unpinned (pins := [p])).weak hl (fun j v ej => ?_), ⟨o, z.1, ho⟩, z.2.1, w'⟩
        rw [← hw8] at ej
        exact (wipe_some ej).1
      cases b with
      | false =>
        simp only [Bool.false_eq_true, if_false] at q9 ⊢
        exact fin I9 q9
      | true =>
        simp only [if_true] at q9 ⊢
        refine thnF (pe.run _ s9 σ8 H9 _ I9 q9) fun z s10 ⟨yv, H10, I10, r10, acc, hD10, hz10, nx⟩ => ?_
        exact app_ok (X := X.blk s3 H3 scope ce [it]) I10 hD10 hz10 r10 fun s11 I11 => fin I11 nx
  exact codeAny_compStart_list loop (wpAny_pyIter_listiter st4 loop)
end
/-! ### defs that may raise, defs called while an exception is handled -/
section
variable {P : Program} {w : World} {K : PySem.W.Frag} {mg : Str → Option Value} {base : Heap}
theorem okN {x qual : Str} {st : Stmt} {f : Addr} {fd : FuncData} {N ps : List Str} {k : Nat} {sp : Sp} (F : L2.Fun K x qual st f fd) (S : FnScope N ps (defScope st)) (len : ∀ vs H Q E, sp vs H Q E → vs.length = ps.length)
    (body : ∀ (cdv : Value) (A : Around) (outer : List Env) (s : Shared) (H : Hp) (vs : List V) (Q : VK) (E : XK), Room k (A.deeper (envOfC qual (defScope st) s.heap.objs.size f cdv)) → sp vs H Q E →
      ∃ t, PSs (cxOf (L2N.CX P w) P w K mg base N qual (defScope st) f cdv A outer s H E) (defBody st) t ∧ t ⟨fun _ H' => Q .non H', Q, fun _ _ => False, fun _ _ => False⟩ (L2.start N vs) H) :
    FnOk P w K mg base (L2N.CX P w) (k + 1) f fd ps sp := by
  obtain ⟨oc, od, kV, doc, pm, an, cdv, ct, osl, rfl, lk, hcd⟩ := F.ex
  exact fn_of lk hcd S len fun A outer s H vs Q E hr h => body cdv A outer s H vs Q E hr h
theorem okH {x qual : Str} {st : Stmt} {f : Addr} {fd : FuncData} {N ps : List Str} {k : Nat} {sp : Sp} (F : L2.Fun K x qual st f fd) (S : FnScope N ps (defScope st)) (len : ∀ vs H Q E, sp vs H Q E → vs.length = ps.length)
    (body : ∀ (cdv : Value) (A : Around) (outer : List Env) (s : Shared) (H : Hp) (vs : List V) (Q : VK) (E : XK) (p : Addr × Obj), Hot1 A p → RoomH k (A.deeper (envOfC qual (defScope st) s.heap.objs.size f cdv)) → sp vs H Q E →
      ∃ t, PSs (cxH CX0 P w K mg base N qual (defScope st) f cdv A outer s H E p) (defBody st) t ∧ t ⟨fun _ H' => Q .non H', Q, fun _ _ => False, fun _ _ => False⟩ (L2.start N vs) H) :
    FnH P w K mg base CX0 (k + 1) f fd ps sp := by
  obtain ⟨oc, od, kV, doc, pm, an, cdv, ct, osl, rfl, lk, hcd⟩ := F.ex
  exact fn_ofH lk hcd S len fun A outer s H vs Q E p hot hr h => body cdv A outer s H vs Q E p hot hr h
/-- the def of this name keeps this promise; it may raise -/
def CalN (P : Program) (w : World) (K : PySem.W.Frag) (mg : Str → Option Value) (base : Heap) (k : Nat) (x : Str) (ps : List Str) (sp : Sp) : Prop :=
  ∃ f fd, FnOk P w K mg base (L2N.CX P w) k f fd ps sp ∧ mg x = some (.ref f) ∧ PySem.W.keepIn K (.ref f) = true ∧ Binds K fd ps []
/-- the def of this name keeps this promise while an exception is handled -/
def CalH (P : Program) (w : World) (K : PySem.W.Frag) (mg : Str → Option Value) (base : Heap) (k : Nat) (x : Str) (ps : List Str) (sp : Sp) : Prop :=
  ∃ f fd, FnH P w K mg base CX0 k f fd ps sp ∧ mg x = some (.ref f) ∧ PySem.W.keepIn K (.ref f) = true ∧ Binds K fd ps []
theorem defN {x : Str} {st : Stmt} {ps N : List Str} {k : Nat} {sp : Sp} (F : Rd.Def K mg x st ps) (S : FnScope N ps (defScope st)) (len : ∀ vs H Q E, sp vs H Q E → vs.length = ps.length)
    (body : ∀ (f : Addr) (cdv : Value) (A : Around) (outer : List Env) (s : Shared) (H : Hp) (vs : List V) (Q : VK) (E : XK), Room k (A.deeper (envOfC x (defScope st) s.heap.objs.size f cdv)) → sp vs H Q E →
      ∃ t, PSs (cxOf (L2N.CX P w) P w K mg base N x (defScope st) f cdv A outer s H E) (defBody st) t ∧ t ⟨fun _ H' => Q .non H', Q, fun _ _ => False, fun _ _ => False⟩ (L2.start N vs) H) : CalN P w K mg base (k + 1) x ps sp := by
  obtain ⟨f, fd, F, m, b⟩ := F
  exact ⟨f, fd, okN F S len (fun cdv A outer s H vs Q E hr h => body f cdv A outer s H vs Q E hr h), m, F.kp, b⟩
theorem defH {x : Str} {st : Stmt} {ps N : List Str} {k : Nat} {sp : Sp} (F : Rd.Def K mg x st ps) (S : FnScope N ps (defScope st)) (len : ∀ vs H Q E, sp vs H Q E → vs.length = ps.length)
    (body : ∀ (f : Addr) (cdv : Value) (A : Around) (outer : List Env) (s : Shared) (H : Hp) (vs : List V) (Q : VK) (E : XK) (p : Addr × Obj), Hot1 A p → RoomH k (A.deeper (envOfC x (defScope st) s.heap.objs.size f cdv)) → sp vs H Q E →
      ∃ t, PSs (cxH CX0 P w K mg base N x (defScope st) f cdv A outer s H E p) (defBody st) t ∧ t ⟨fun _ H' => Q .non H', Q, fun _ _ => False, fun _ _ => False⟩ (L2.start N vs) H) : CalH P w K mg base (k + 1) x ps sp := by
  obtain ⟨f, fd, F, m, b⟩ := F
  exact ⟨f, fd, okH F S len (fun cdv A outer s H vs Q E p hot hr h => body f cdv A outer s H vs Q E p hot hr h), m, F.kp, b⟩
theorem CalN.mono {x : Str} {ps : List Str} {j k : Nat} {sp : Sp} (C : CalN P w K mg base j x ps sp) (h : j ≤ k) : CalN P w K mg base k x ps sp := by
  obtain ⟨f, fd, F, r⟩ := C
  exact ⟨f, fd, F.mono h, r⟩
end
theorem pe_calN {X : Cx} {W : WX} {e : Expr} {es : List Expr} {t : TA} {p pos : Pos} {j k : Nat} {x : Str} {ps : List Str} {sp : Sp} (C : CalN X.prog X.w X.K X.mg X.base j x ps sp) (tk : L2N.Takes X W) (hr : Room k X.A) (ha : PA X (e :: es) t) (hk : j ≤ k := by decide) (hg : Gl X x := by rfl)
    (hdb : (x == ("__debug__" : Str)) = false := by decide) (he : starEach (e :: es) X.env = (false, eval e X.env) :: starEach es X.env := by rfl) (hpl : (backTo pos (starEach es X.env)).any (·.1) = false := by rfl) :
    PE X (.Call (.Name x p) (e :: es) [] pos) (tCallS sp (WE W) t) := by
  obtain ⟨f, fd, F, m, kp, b⟩ := C
  exact pe_callS F (hr.mono hk) hg m kp b (fun σ => L2N.passAt tk σ) ha hdb he hpl
theorem pe_calH {X : Cx} {e : Expr} {es : List Expr} {t : TA} {p pos : Pos} {j k : Nat} {x : Str} {ps : List Str} {sp : Sp} (C : CalH X.prog X.w X.K X.mg X.base j x ps sp) (hot : HotC X) (hr : RoomH k X.A) (ha : PA X (e :: es) t) (hk : j ≤ k := by decide) (hg : Gl X x := by rfl)
    (hdb : (x == ("__debug__" : Str)) = false := by decide) (he : starEach (e :: es) X.env = (false, eval e X.env) :: starEach es X.env := by rfl) (hpl : (backTo pos (starEach es X.env)).any (·.1) = false := by rfl) :
    PE X (.Call (.Name x p) (e :: es) [] pos) (tCallS sp (fun _ => E0) t) := by
  obtain ⟨f, fd, F, m, kp, b⟩ := C
  exact pe_callH F (hr.mono hk) hot hg m kp b (fun σ _ _ _ _ _ _ h => h.elim) ha hdb he hpl
/-! ### the exception that is handled: its fields, its class -/
/-- a is a pinned exception of the class at C, its dict holds fs -/
def ExAt (pn : List (Addr × Obj)) (H : Hp) (a C : Addr) (fs : List (Str × V)) : Prop := ∃ (p : Addr × Obj) (dd : Addr), p ∈ pn ∧ p.1 = a ∧ p.2.cls = .ref C ∧ p.2.dict = some dd ∧ (∃ vs, p.2.data = .fields vs) ∧ H dd = some (.xd fs)
/-- e.f -/
def tXe (K : PySem.W.Frag) (pn : List (Addr × Obj)) (f : Str) (te : TE) : TE := fun σ H Q => te σ H fun x H1 => ∃ (a C : Addr) (fs : List (Str × V)) (v : V), x = .ref a ∧ ExAt pn H1 a C fs ∧ XfC K C ∧ PySem.W.findIn K (.ref C) f = some none ∧ fs.lookup f = some v ∧ Q v H1
section
variable {X : Cx} {pins : List (Addr × Obj)} {σ : L2.St} {H : Hp} {s : Shared}
theorem ExAt.inst {a C : Addr} {fs : List (Str × V)} (x : ExAt X.pn H a C fs) (I : Inv X pins σ H s) : ∃ (oe od : Obj) (dd : Addr) (mA : Str → Option Value), PySem.W.InstAt s.heap a oe C (some od) ∧ (∀ f, PySem.W.lookIn f od = some (mA f)) ∧ ∀ f, RelO (fs.lookup f) (mA f) := by
  obtain ⟨p, dd, hp, rfl, hc, hd, ⟨vs, hv⟩, hx⟩ := x
  obtain ⟨gp, _⟩ := I.pin p (List.mem_append_left _ hp)
  obtain ⟨mA, ns, rel⟩ := (show ObjOk X.prog X.w H s.heap dd (.xd fs) from I.hok dd _ hx)
  obtain ⟨od, ho, hl⟩ := lookIn_ns ns
  refine ⟨p.2, od, dd, mA, ⟨gp, hc, ?_, ?_⟩, fun f => hl f, rel⟩
  · unfold PySem.W.notCls
    rw [hv] <;> rfl
  · rw [hd]
    exact ho
theorem pe_xe {e : Expr} {te : TE} {pos : Pos} {n : Str} (he : PE X e te) (hb : attributeBase e n X.env (eval e X.env) = eval e X.env := by rfl) : PE X (.Attribute e n pos) (tXe X.K X.pn n te) := by
  refine ⟨fun pins s σ H Q I h => ?_⟩
  refine attr_of hb (thn (he.run pins s σ H _ I h) fun u s1 hh => ?_)
  obtain ⟨x, H1, I1, rx, a, C, fs, v, ex, at1, T, hno, l, q⟩ := hh
  subst ex
  obtain rfl : u = Value.ref a := rx
  obtain ⟨oe, od, dd, mA, J, hl, rel⟩ := at1.inst I1
  obtain ⟨u, hu, ru⟩ := RelO.some_of (v := v) (o := mA n) (by rw [← l]; exact rel n)
  exact HandSPX.exc_get I1.kIn J T.ga T.gg T.exC (PySem.W.findObj_own T.hdC hno rfl (by rw [hl, hu])) (handed_of ru) ⟨v, H1, I1.tok _, ru, q⟩
/-- what the written part says of a class of errors, for isinstance -/
structure XkC (K : PySem.W.Frag) (C : Addr) : Prop where
  cl : (PySem.W.clsIn K C).isSome = true
  ca : PySem.W.findIn K (.ref C) "__class__" = some (some (.builtin "object.__class__"))
  ob : PySem.W.mroIn K C (.type "object") = some true
structure XkO (K : PySem.W.Frag) : Prop where
  gt : PySem.W.specialIn K (.builtin "object.__class__") "__get__" = some (some (.builtin "getset_descriptor.__get__"))
  tk : PySem.W.takesIn K (.builtin "object.__class__") = some true
/-- isinstance(e, D) -/
def rIsE (K : PySem.W.Frag) (pn : List (Addr × Obj)) : List V → Hp → VK → Prop := fun xs H Q => ∃ (a C : Addr) (fs : List (Str × V)) (c : V) (u : Value) (b : Bool), xs = [.ref a, c] ∧ ExAt pn H a C fs ∧ XfC K C ∧ XkC K C ∧ XkO K ∧ ClsV c u ∧ PySem.W.kitOne K (.ref C) u = some b ∧ Q (.bl b) H
theorem q_isE : CallR X (.builtin "isinstance") (rIsE X.K X.pn) := by
  intro pins s σ H xs us Q I r h
  obtain ⟨a, C, fs, c, u, b, rfl, at1, T, T2, O, k, e, q⟩ := h
  obtain ⟨u1, u2, rfl, r1, r2⟩ := vals2 r
  have e2 := k.eq r2
  subst e2
  obtain rfl : u1 = Value.ref a := r1
  obtain ⟨oe, od, dd, mA, J, _, _⟩ := at1.inst I
  exact PySem.W.kia_one (PySem.W.kitx_exc T2.cl T.ga T.gg T.exC T2.ca O.gt O.tk T2.ob) I.kIn J e (fun z => nomatch z) fun tk => ⟨.bl b, H, I.tok tk, rfl, q⟩
end
/-! ### raise, where nothing is handled: an exception whose context is None -/
section
variable {X : Cx} {e : Expr} {es : List Expr} {ta : TA} {p pos : Pos}
/-- as HandS.ExcInit's rule, and the context of what is made is told -/
theorem pmk_init {CX : CXT} {x : Str} {C fI : Addr} {k : Nat} {fd : FuncData} {ps : List Str} {sp : Sp} (T : OexC X.K C) (iC : PySem.W.findIn X.K (.ref C) "__init__" = some (some (.ref fI))) (tI : PySem.W.typeIn X.K (.ref fI) = some (.type "function"))
    (Fi : FnOk X.prog X.w X.K X.mg X.base CX k fI fd ps sp) (hr : Room (k + 1) X.A) (hb : Binds X.K fd ps []) (hx : Passes CX X (fun _ _ _ => False)) (hg : Gl X x) (hm : X.mg x = some (.ref C)) (ha : PA X (e :: es) ta)
    (hdb : (x == ("__debug__" : Str)) = false := by decide) (he : starEach (e :: es) X.env = (false, eval e X.env) :: starEach es X.env := by rfl) (hpl : (backTo pos (starEach es X.env)).any (·.1) = false := by rfl) :
    L2N.PMk X (.Call (.Name x p) (e :: es) [] pos) (tMkO C sp [] ta) := by
  intro pins s σ H Q I h
  obtain ⟨nm, q, N, bs, bm, sn, sub, ab, col, dd, k0, k1, k2, k3, k5, hC, hbm⟩ := T.cls
  refine wpAny_Call_Name_kw (ld_glob I hg hm ?_ hdb)
  refine PySem.W.callWith_K (h₀ := X.base) I.ok.mod.kin T.kC (thn (ha.run pos pins s σ H _ I h) fun us s1 hh => ?_) he hpl
  obtain ⟨vs, H1, I1, r1, hz, q1⟩ := hh
  refine ⟨I1.kIn, ?_⟩
  show wpAny _ _ (call (.ref C) us) _ _ _
  obtain ⟨hp, g, dr, tk, os⟩ := s1
  generalize hD : hp.objs.size + 1 = D
  have hsz : hp.objs.size ≤ D := by
    rw [← hD]
    exact Nat.le_succ _
  have hq := q1 D (I1.hok.fresh hsz)
  rw [List.append_nil] at hq
  generalize hh2 : (hp.push (PySem.W.kdv_tup us)).push (PySem.HandSPX.excO C hp.objs.size) = h2
  have kk : ∀ b o, hp.get? b = some o → h2.get? b = some o := by
    intro b o eb
    rw [← hh2]
    exact Heap.get?_push_of_some _ (Heap.get?_push_of_some _ eb)
  have hget : h2.get? D = some (PySem.HandSPX.excO C hp.objs.size) := by
    rw [← hh2, ← hD]
    heap_get
  have I2 : Inv X pins σ (upd H1 D (exo D C none)) ⟨h2, g, dr, tk, os⟩ := I1.laid (t' := tk) (a := D) (o := exo D C none) (h' := h2) kk hsz (exo_ok hget)
  have r2 : Vals (V.ref D :: vs) (Value.ref D :: us) := .cons rfl r1
  have hl : (Value.ref D :: us).length = ps.length := by
    rw [← Fi.len _ _ _ _ hq]
    exact r2.length.symm
  have b2 := hb ⟨h2, g, dr, tk, os⟩ (Value.ref D :: us) I2.kIn (by rw [List.append_nil]; exact hl)
  rw [List.append_nil] at b2
  have hus : us.length ≤ sizeLine := by
    rw [← Paired.length r1, sizeLine_eq]
    omega
  subst hh2
  subst hD
  refine wpAny_call (PySem.HandSPX.call_own F.excBase_ValueError (fun Y => PySem.HandSPX.refsVE_contains Y bm hbm) (I1.kIn _ _ hC) (PySem.W.looks_findIn I1.kIn iC) (fun self => PySem.W.bind_fn I1.kIn self tI) hus ?_)
  refine codeAny_mono (Fi.run _ X.stack _ _ _ _ _ _ (fun _ _ _ => False) (hr.make C us []) (I2.env0.make C us []) b2 r2 hq) fun r s' hq' => ?_
  cases r with
  | error er => exact hx pins σ _ _ er s' I2 hq'
  | ok fl =>
    cases fl with
    | ret u =>
      obtain ⟨v, H2, os2, bare2, un2, hok2, rv, ev, d, fs, ea, ed, hd1, q2⟩ := hq'
      subst ev
      obtain ⟨h3, g3, d3, t3, os'⟩ := s'
      obtain ⟨t0, G, J, kG, ge, hoe, na⟩ := mk_end0 (d2 := d3) (t2 := t3) I1 hsz kk un2 hok2 os2 bare2 ea ed hd1
      exact ⟨rv, ⟨_, _, _, ⟨G, g3, d3, t3, os'⟩, _, .ref C, some d, rfl, J, kG, ge, hoe, ⟨rfl, rfl, fun vs hv => by cases hv; rfl⟩, rfl, rfl, na, rfl, bare2, raises_own T.exC T.tyC, q2⟩⟩
    | next => exact False.elim hq'
    | brk => exact False.elim hq'
    | cont => exact False.elim hq'
end
/-! ### defs that are told which exception is handled: at a, of the class cls, its dict d -/
structure FnP (P : Program) (w : World) (K : PySem.W.Frag) (mg : Str → Option Value) (base : Heap) (k : Nat) (f : Addr) (fd : FuncData) (ps : List Str) (sp : Addr → Value → Option Addr → Sp) : Prop where
  len : ∀ a c d vs H Q E, sp a c d vs H Q E → vs.length = ps.length
  run : ∀ (A : Around) (outer : List Env) (s : Shared) (H : Hp) (args : Args) (us : List Value) (vs : List V) (Q : VK) (E : XK) (p : Addr × Obj), RoomH k A → Hot1 A p → PinOk outer H s p → Env0 P w K mg base A outer s H →
    BindsTo s fd args (ps.zip us) → Vals vs us → sp p.1 p.2.cls p.2.dict vs H Q E → codeAny (model P w) A (.call (.ref f) args) (CR CX0 outer P w H s Q E) s
/-- the def of this name keeps this promise of the exception that is handled -/
def CalP (P : Program) (w : World) (K : PySem.W.Frag) (mg : Str → Option Value) (base : Heap) (k : Nat) (x : Str) (ps : List Str) (sp : Addr → Value → Option Addr → Sp) : Prop :=
  ∃ f fd, FnP P w K mg base k f fd ps sp ∧ mg x = some (.ref f) ∧ PySem.W.keepIn K (.ref f) = true ∧ Binds K fd ps []
section
variable {P : Program} {w : World} {K : PySem.W.Frag} {mg : Str → Option Value} {base : Heap}
theorem fnP_of {k : Nat} {f : Addr} {name qual : Str} {params : Arguments} {body : List Stmt} {scope : Scope} {dV kV doc pm cdv ct oc : Value} {an od : Option Addr} {osl : Array (Option Value)} {N ps : List Str} {sp : Addr → Value → Option Addr → Sp}
    (lk : K.lookup f = some ⟨oc, od, .func (PySem.W.fnOf name qual params body scope dV kV doc pm an cdv ct), osl⟩) (code : PySem.W.codeIn K cdv qual = true) (S : FnScope N ps scope) (len : ∀ a c d vs H Q E, sp a c d vs H Q E → vs.length = ps.length)
    (hb : ∀ (A : Around) (outer : List Env) (s : Shared) (H : Hp) (vs : List V) (Q : VK) (E : XK) (p : Addr × Obj), Hot1 A p → RoomH k (A.deeper (envOfC qual scope s.heap.objs.size f cdv)) → sp p.1 p.2.cls p.2.dict vs H Q E →
      ∃ t, PSs (cxH CX0 P w K mg base N qual scope f cdv A outer s H E p) body t ∧ t ⟨fun _ H' => Q .non H', Q, fun _ _ => False, fun _ _ => False⟩ (L2.start N vs) H) :
    FnP P w K mg base (k + 1) f (PySem.W.fnOf name qual params body scope dV kV doc pm an cdv ct) ps sp where
  len := len
  run := by
    intro A outer s H args us vs Q E p room hot pinned e0 binds rel h
    have hl := len _ _ _ _ _ _ _ h
    have kin : K.In s.heap := e0.mod.kin.keeps fun b o eb => (e0.bs b o eb).1
    have lim : s.heap.NoLimit := e0.mod.nolimit.keeps fun b o eb => (e0.bs b o eb).1
    refine codeAny_call_function room.depth (kin _ _ lk) rfl S.co S.gen rfl (PySem.W.codeRec_of kin code) (binds _ _ _ _ ?_)
    refine wpAny_newFunctionEnv_cells S.kind (fun y hy => ?_) fun env he s1 x => ?_
    · obtain ⟨n, v⟩ := y
      cases S.par n (List.of_mem_zip hy).1 with
      | inl q => exact .inl q
      | inr q => exact .inr ⟨q, PySem.W.cellsFrom_some _ _ _ (.inl q)⟩
    · subst he
      obtain ⟨t, ht, hq⟩ := hb A outer s H vs Q E p hot (room.deeper _) h
      refine ⟨lim.keeps x.toInCall.keep, codeAny_func ?_⟩
      refine wpAny_mono (ht.run [] s1 (L2.start N vs) H _ (inv_startH S pinned e0 hl rel x) hq) (fun fl s' hs => ?_) fun e s' hs => hs
      cases fl with
      | ret u =>
        obtain ⟨v, σ', H', J, rv, q⟩ := hs
        exact ⟨v, H', J.os, J.bare, J.base, J.hok, rv, q⟩
      | next =>
        obtain ⟨σ', H', J, q⟩ := hs
        exact ⟨.non, H', J.os, J.bare, J.base, J.hok, rfl, q⟩
      | brk =>
        obtain ⟨_, _, _, q⟩ := hs
        exact q.elim
      | cont =>
        obtain ⟨_, _, _, q⟩ := hs
        exact q.elim
theorem defP {x : Str} {st : Stmt} {ps N : List Str} {k : Nat} {sp : Addr → Value → Option Addr → Sp} (F : Rd.Def K mg x st ps) (S : FnScope N ps (defScope st)) (len : ∀ a c d vs H Q E, sp a c d vs H Q E → vs.length = ps.length)
    (body : ∀ (f : Addr) (cdv : Value) (A : Around) (outer : List Env) (s : Shared) (H : Hp) (vs : List V) (Q : VK) (E : XK) (p : Addr × Obj), Hot1 A p → RoomH k (A.deeper (envOfC x (defScope st) s.heap.objs.size f cdv)) → sp p.1 p.2.cls p.2.dict vs H Q E →
      ∃ t, PSs (cxH CX0 P w K mg base N x (defScope st) f cdv A outer s H E p) (defBody st) t ∧ t ⟨fun _ H' => Q .non H', Q, fun _ _ => False, fun _ _ => False⟩ (L2.start N vs) H) : CalP P w K mg base (k + 1) x ps sp := by
  obtain ⟨f, fd, F, m, b⟩ := F
  obtain ⟨oc, od, kV, doc, pm, an, cdv, ct, osl, rfl, lk, hcd⟩ := F.ex
  exact ⟨f, _, fnP_of lk hcd S len (fun A outer s H vs Q E p hot hr h => body f cdv A outer s H vs Q E p hot hr h), m, F.kp, b⟩
end
/-- such a call in an except suite -/
def tCallP (sp : Addr → Value → Option Addr → Sp) (a : Addr) (cls : Value) (d : Option Addr) (t : TA) : TE := fun σ H Q => t σ H fun vs H1 => sp a cls d vs H1 Q E0
theorem pe_calP {X : Cx} {a : Addr} {oe : Obj} {cls : Value} {d : Option Addr} {pn : List (Addr × Obj)} {e : Expr} {es : List Expr} {t : TA} {q pos : Pos} {j k : Nat} {x : Str} {ps : List Str} {sp : Addr → Value → Option Addr → Sp}
    (C : CalP X.prog X.w X.K X.mg X.base j x ps sp) (hz : L2N.Zn cls d oe) (hf : ∃ vs, oe.data = .fields vs) (hr : Room k X.A) (ha : PA (X.suite a ((a, oe) :: pn)) (e :: es) t) (hk : j ≤ k := by decide) (hg : Gl (X.suite a ((a, oe) :: pn)) x := by rfl)
    (hdb : (x == ("__debug__" : Str)) = false := by decide) (he : starEach (e :: es) X.env = (false, eval e X.env) :: starEach es X.env := by rfl) (hpl : (backTo pos (starEach es X.env)).any (·.1) = false := by rfl) :
    PE (X.suite a ((a, oe) :: pn)) (.Call (.Name x q) (e :: es) [] pos) (tCallP sp a cls d t) := by
  obtain ⟨f, fd, F, m, kp, b⟩ := C
  refine ⟨fun pins s σ H Q I h => ?_⟩
  refine wpAny_Call_Name_kw (ld_glob I hg m ?_ hdb)
  refine PySem.W.callWith_K (h₀ := X.base) I.ok.mod.kin kp (thn (ha.run pos pins s σ H _ I h) fun us s1 hh => ?_) he hpl
  obtain ⟨vs, H1, I1, r, h1⟩ := hh
  refine ⟨I1.kIn, ?_⟩
  have hl : us.length = ps.length := by
    rw [← F.len _ _ _ _ _ _ _ h1]
    exact r.length.symm
  have b2 := b s1 us I1.kIn (by rw [List.append_nil]; exact hl)
  rw [List.append_nil] at b2
  obtain ⟨fs, dat⟩ := hf
  obtain ⟨p1, p2, p3, p4, p5⟩ := I1.pin (a, oe) (List.mem_append_left _ List.mem_cons_self)
  have pinned : PinOk X.stack H1 s1 (a, oe) := by
    refine ⟨p1, p2, fun hm => ?_, p5⟩
    cases List.mem_cons.mp (I1.stkSub a hm) with
    | inl z => exact p3 z
    | inr z => exact p4 z
  have hot : Hot1 (X.suite a ((a, oe) :: pn)).A (a, oe) := ⟨rfl, fs, dat, hz.2.2 fs dat⟩
  have h2 : sp (a, oe).1 (a, oe).2.cls (a, oe).2.dict vs H1 Q E0 := by
    show sp a oe.cls oe.dict vs H1 Q E0
    rw [hz.1, hz.2.1]
    exact h1
  have hr2 : RoomH j (X.A.mark (some (.ref a))) := roomH_mark (hr.mono hk) _
  refine wpAny_call (codeAny_mono (F.run _ X.stack s1 H1 ⟨us, []⟩ us vs Q E0 (a, oe) hr2 hot pinned I1.env0 b2 r h2) fun r s' hq => ?_)
  cases r with
  | error e => exact hq.elim
  | ok fl =>
    cases fl with
    | ret u => exact I1.after hq
    | next => exact hq.elim
    | brk => exact hq.elim
    | cont => exact hq.elim
/-- e.f in an except suite: a the exception, cls its class, d its dict -/
def tXs (K : PySem.W.Frag) (a : Addr) (cls : Value) (d : Option Addr) (f : Str) (te : TE) : TE := fun σ H Q => te σ H fun x H1 => x = .ref a ∧ ∃ (C dd : Addr) (fs : List (Str × V)) (v : V), cls = .ref C ∧ XfC K C ∧ PySem.W.findIn K (.ref C) f = some none ∧ d = some dd ∧ H1 dd = some (.xd fs) ∧ fs.lookup f = some v ∧ Q v H1
theorem pe_xs {X : Cx} {K : PySem.W.Frag} (hK : X.K = K) {a : Addr} {oe : Obj} {cls : Value} {d : Option Addr} {pn : List (Addr × Obj)} {e : Expr} {te : TE} {pos : Pos} {n : Str} (hz : L2N.Zn cls d oe) (hf : ∃ vs, oe.data = .fields vs) (he : PE (X.suite a ((a, oe) :: pn)) e te)
    (hb : attributeBase e n X.env (eval e X.env) = eval e X.env := by rfl) : PE (X.suite a ((a, oe) :: pn)) (.Attribute e n pos) (tXs K a cls d n te) := by
  subst hK
  refine ⟨fun pins s σ H Q I h => ?_⟩
  refine attr_of hb (thn (he.run pins s σ H _ I h) fun u s1 hh => ?_)
  obtain ⟨x, H1, I1, rx, ex, C, dd, fs, v, ec, T, hno, ed, hd, l, q⟩ := hh
  subst ex
  obtain rfl : u = Value.ref a := rx
  have at1 : ExAt (X.suite a ((a, oe) :: pn)).pn H1 a C fs := ⟨(a, oe), dd, List.mem_cons_self, rfl, hz.1.trans ec, hz.2.1.trans ed, hf, hd⟩
  obtain ⟨oe', od, dd', mA, J, hl, rel⟩ := at1.inst I1
  obtain ⟨u, hu, ru⟩ := RelO.some_of (v := v) (o := mA n) (by rw [← l]; exact rel n)
  have found := PySem.W.findObj_own (od := od) T.hdC hno rfl (by rw [hl, hu])
  exact HandSPX.exc_get I1.kIn J T.ga T.gg T.exC found (handed_of ru) ⟨v, H1, I1.tok _, ru, q⟩
/-! ### an error class of the program with one field -/
section
variable {P : Program} {w : World} {K : PySem.W.Frag} {mg : Str → Option Value} {base : Heap}
/-- C.__init__(self, y): self.code = x; self.f = y -/
def spInit (K : PySem.W.Frag) (C : Addr) (x f : Str) : Sp := fun vs H Q _ => ∃ (a : Addr) (y : V), vs = [.ref a, y] ∧ H a = some (exo a C none) ∧ OexC K C ∧ PySem.W.findIn K (.ref C) "code" = some none ∧ PySem.W.findIn K (.ref C) f = some none ∧
  ∀ dx, H dx = none → dx ≠ a → Q .non (upd (upd (upd H dx (exd dx [("code", .str x)])) a (exo a C (some dx))) dx (exd dx [(f, y), ("code", .str x)]))
structure ErrC (P : Program) (w : World) (K : PySem.W.Frag) (mg : Str → Option Value) (base : Heap) (x : Str) (C : Addr) (f : Str) : Prop where
  gC : mg x = some (.ref C)
  ox : OexC K C
  xf : XfC K C
  no1 : PySem.W.findIn K (.ref C) "code" = some none
  no2 : PySem.W.findIn K (.ref C) f = some none
  ini : ∃ fI fd, PySem.W.findIn K (.ref C) "__init__" = some (some (.ref fI)) ∧ PySem.W.typeIn K (.ref fI) = some (.type "function") ∧ FnOk P w K mg base CX0 1 fI fd ["self", f] (spInit K C x f) ∧ Binds K fd ["self", f] []
end
def tErr (C : Addr) (x f : Str) (ta : TA) : L2.St → Hp → XK → Prop := fun σ H Q => ta σ H fun vs H1 => ∃ y, vs = [y] ∧ ∀ d, H1 d = none → Q (.ref C) (some d) (upd H1 d (.xd [(f, y), ("code", .str x)]))
def tRaise (C : Addr) (x f : Str) (W : WX) (ta : TA) : TS := fun _ σ H => tErr C x f ta σ H fun cls d H' => W cls d σ H'
theorem upd_del {H : Hp} {a d : Addr} {o1 o2 o3 o4 o : HO} (n : H a = none) : upd (del (upd (upd (upd (upd H a o1) d o2) a o3) d o4) a) d o = upd H d o := by
  funext b
  by_cases hd : b = d
  · rw [hd, upd_same, upd_same]
  · rw [upd_ne hd, upd_ne hd]
    by_cases ha : b = a
    · rw [ha, del_same, n]
    · rw [del_ne ha, upd_ne hd, upd_ne ha, upd_ne hd, upd_ne ha]
def Up (ta : TA) : Prop := ∀ (σ : L2.St) (H : Hp) (Q Q' : List V → Hp → Prop), (∀ vs H', Q vs H' → Q' vs H') → ta σ H Q → ta σ H Q'
theorem up_v {i : Nat} : Up (tCons (tVar i) tNil) := fun σ H Q Q' k h => by
  obtain ⟨v, e, q⟩ := h
  exact ⟨v, e, k _ _ q⟩
theorem up_c {v : V} : Up (tCons (tC v) tNil) := fun σ H Q Q' k h => k _ _ h
theorem mk_of_err {P : Program} {w : World} {K : PySem.W.Frag} {mg : Str → Option Value} {base : Heap} {x f : Str} {C : Addr} {ta : TA} {σ : L2.St} {H : Hp} {Q : XK} (T : ErrC P w K mg base x C f) (up : Up ta) (h : tErr C x f ta σ H Q) : tMkO C (spInit K C x f) [] ta σ H Q := by
  refine up σ H _ _ (fun vs H1 q => ?_) h
  obtain ⟨y, rfl, q⟩ := q
  refine ⟨by show 1 ≤ 1000; decide, fun a na => ⟨a, y, rfl, upd_same, T.ox, T.no1, T.no2, fun dx nd ne => ?_⟩⟩
  have nd1 : H1 dx = none := by
    rw [upd_ne ne] at nd
    exact nd
  refine ⟨rfl, dx, _, (upd_ne (Ne.symm ne)).trans upd_same, upd_same, nd1, ?_⟩
  rw [upd_del na]
  exact q dx nd1
section
variable {X : Cx} {W : WX} {e : Expr} {ta : TA} {x f : Str} {C : Addr} {p pos pos2 : Pos} {k : Nat}
theorem ps_err (hc : X.calm = true) (T : ErrC X.prog X.w X.K X.mg X.base x C f) (hr : Room k X.A) (tk : L2N.Takes X W) (ha : PA X [e] ta) (up : Up ta) (hk : 2 ≤ k := by decide) (hg : Gl X x := by rfl) (hdb : (x == ("__debug__" : Str)) = false := by decide)
    (he : starEach (e :: []) X.env = (false, eval e X.env) :: starEach [] X.env := by rfl) (hpl : (backTo pos (starEach [] X.env)).any (·.1) = false := by rfl) :
    PS X (.Raise (some (.Call (.Name x p) [e] [] pos)) none pos2) (tRaise C x f W ta) := by
  obtain ⟨fI, fd, iC, tI, F, b⟩ := T.ini
  have mk := pmk_init (X := X) (p := p) (pos := pos) T.ox iC tI F (hr.mono hk) b pass0 hg T.gC ha hdb he hpl
  exact L2N.ps_raise hc tk (t := tErr C x f ta) fun pins s σ H Q I h => mk pins s σ H Q I (mk_of_err T up h)
end
/-! ### small ones -/
theorem takes0 {X : Cx} : L2N.Takes X (fun _ _ _ _ => False) := fun _ _ x => by
  obtain ⟨_, _, _, _, _, _, _, _, _, _, _, _, _, _, _, _, z⟩ := x
  exact z.elim
theorem pe_const {X : Cx} {x : Str} {v : Int} {pos : Pos} (h : ∃ t, X.mg x = some (.int v t)) (hg : Gl X x) (hd : (x == ("__debug__" : Str)) = false := by decide) : PE X (.Name x pos) (tC (.int v)) := by
  obtain ⟨t, h⟩ := h
  exact pe_glob hg h ⟨t, rfl⟩ hd
section
variable {X : Cx} {K : PySem.W.Frag} {pn : List (Addr × Obj)}
theorem q_isEK (hK : X.K = K) (hp : X.pn = pn) : CallR X (.builtin "isinstance") (rIsE K pn) := by
  subst hK hp
  exact q_isE
theorem pe_xeK {e : Expr} {te : TE} {pos : Pos} {n : Str} (hK : X.K = K) (hp : X.pn = pn) (he : PE X e te) (hb : attributeBase e n X.env (eval e X.env) = eval e X.env := by rfl) : PE X (.Attribute e n pos) (tXe K pn n te) := by
  subst hK hp
  exact pe_xe he hb
theorem pe_lcHK {elt tg iter : Expr} {ifs : List Expr} {scope : Scope} {own : List (Str × Nat)} {pos : Pos} {tl : TE} {g : TG} {tt : TT} {te : TE} (hK : X.K = K) (hot : HotC X) (hN : X.N.Nodup) (hi : PE X iter tl) (ok : BlkOk X.N X.env.scope scope own)
    (hg : ∀ (s : Shared) (H : Hp) (C : Addr) (cl : List (Str × Addr)) (fp : List Addr), PG (X.blk s H scope (compEnvC scope cl C X.env) fp) tg g) (ht : ∀ (s : Shared) (H : Hp) (C : Addr) (cl : List (Str × Addr)) (fp : List Addr), PTs (X.blk s H scope (compEnvC scope cl C X.env) fp) ifs tt)
    (he : ∀ (s : Shared) (H : Hp) (C : Addr) (cl : List (Str × Addr)) (fp : List Addr), PE (X.blk s H scope (compEnvC scope cl C X.env) fp) elt te) (hs : ∀ x, foldedSetIterable iter X.env x = pure x := by intro _; rfl) :
    PE X (.ListComp elt [⟨tg, iter, ifs, 0⟩] scope pos) (tLc (iList K tl) g tt te (own.map (·.2))) := by
  subst hK
  exact pe_lcH hot hN hi ok hg ht he hs
theorem eqDK (hK : X.K = K) (hu : X.A.units + 64 < cLine) : OpR X (compareOp .Eq) (rEqD K) := by
  subst hK
  exact op_eqD hu
theorem neDK (hK : X.K = K) (hu : X.A.units + 64 < cLine) : OpR X (compareOp .NotEq) (rNeD K) := by
  subst hK
  exact op_neD hu
theorem unitsH {k : Nat} {A : Around} (r : RoomH k A) : A.units + 64 < cLine := by
  have := r.un
  omega
end
/-- what the written part says of the class of an error, so that isinstance and fields are known -/
structure Knd (K : PySem.W.Frag) (D : Str → Addr) (names : List Str) (C : Addr) (code f : Str) : Prop where
  xf : XfC K C
  xk : XkC K C
  xo : XkO K
  nf : PySem.W.findIn K (.ref C) f = some none
  nc : PySem.W.findIn K (.ref C) "code" = some none
  is : ∀ x ∈ names, PySem.W.kitOne K (.ref C) (.ref (D x)) = some (decide (x = code))
  ve : PySem.W.kitOne K (.ref C) (.type "ValueError") = some true
section
variable {K : PySem.W.Frag} {D : Str → Addr} {names : List Str} {C dd : Addr} {code f x : Str} {p : Addr × Obj} {fs : List (Str × V)} {H : Hp} {Q : VK} {b : Bool}
theorem isE (kn : Knd K D names C code f) (hc : p.2.cls = .ref C) (hd : p.2.dict = some dd) (hv : ∃ vs, p.2.data = .fields vs) (hx : H dd = some (.xd fs)) (m : x ∈ names) (e : decide (x = code) = b) (q : Q (.bl b) H) : rIsE K [p] [.ref p.1, .ref (D x)] H Q := by
  subst e
  exact ⟨p.1, C, fs, _, _, _, rfl, ⟨p, dd, List.mem_cons_self, rfl, hc, hd, hv, hx⟩, kn.xf, kn.xk, kn.xo, .own _, kn.is x m, q⟩
theorem isEf (kn : Knd K D names C code f) (hc : p.2.cls = .ref C) (hd : p.2.dict = some dd) (hv : ∃ vs, p.2.data = .fields vs) (hx : H dd = some (.xd fs)) (m : x ∈ names ∧ decide (x = code) = false) (q : Q (.bl false) H) : rIsE K [p] [.ref p.1, .ref (D x)] H Q := isE kn hc hd hv hx m.1 m.2 q
theorem isEt (kn : Knd K D names C code f) (hc : p.2.cls = .ref C) (hd : p.2.dict = some dd) (hv : ∃ vs, p.2.data = .fields vs) (hx : H dd = some (.xd fs)) (m : x ∈ names ∧ decide (x = code) = true) (q : Q (.bl true) H) : rIsE K [p] [.ref p.1, .ref (D x)] H Q := isE kn hc hd hv hx m.1 m.2 q
theorem isVE (kn : Knd K D names C code f) (hc : p.2.cls = .ref C) (hd : p.2.dict = some dd) (hv : ∃ vs, p.2.data = .fields vs) (hx : H dd = some (.xd fs)) (q : Q (.bl true) H) : rIsE K [p] [.ref p.1, .ty "ValueError"] H Q :=
  ⟨p.1, C, fs, _, _, _, rfl, ⟨p, dd, List.mem_cons_self, rfl, hc, hd, hv, hx⟩, kn.xf, kn.xk, kn.xo, .ty _, kn.ve, q⟩
theorem xeE {v : V} (kn : Knd K D names C code f) (hc : p.2.cls = .ref C) (hd : p.2.dict = some dd) (hv : ∃ vs, p.2.data = .fields vs) (hx : H dd = some (.xd fs)) (l : fs.lookup f = some v) (q : Q v H) :
    ∃ (a C : Addr) (fs : List (Str × V)) (v : V), V.ref p.1 = .ref a ∧ ExAt [p] H a C fs ∧ XfC K C ∧ PySem.W.findIn K (.ref C) f = some none ∧ fs.lookup f = some v ∧ Q v H :=
  ⟨p.1, C, fs, v, rfl, ⟨p, dd, List.mem_cons_self, rfl, hc, hd, hv, hx⟩, kn.xf, kn.nf, l, q⟩
end
theorem xe {K : PySem.W.Frag} {pn : List (Addr × Obj)} {f : Str} {te : TE} {σ : L2.St} {H : Hp} {Q : VK} (h : te σ H fun x H1 => ∃ (a C : Addr) (fs : List (Str × V)) (v : V), x = .ref a ∧ ExAt pn H1 a C fs ∧ XfC K C ∧ PySem.W.findIn K (.ref C) f = some none ∧ fs.lookup f = some v ∧ Q v H1) : tXe K pn f te σ H Q := h
/-- _law_refusal(e, e.code): a new tuple -/
def spRef (K : PySem.W.Frag) (D : Str → Addr) (names : List Str) (code f : Str) : Addr → Value → Option Addr → Sp := fun a cls d vs H Q _ => ∃ (C dd : Addr) (y : V), cls = .ref C ∧ d = some dd ∧ vs = [.ref a, .str code] ∧ Knd K D names C code f ∧ H dd = some (.xd [(f, y), ("code", .str code)]) ∧
  ∀ p H', H p = none → L2.Same H H' → H' p = some (.tup [.str "refused", .str code, y]) → Q (.ref p) H'
end Ho
namespace Rd
open PySem PySem.Spec PyProof.Rows L2
section
variable {K : PySem.W.Frag} {σ : L2.St} {H : Hp} {g : TG} {tt : TT} {te : TE} {vs : List Nat} {Q : VK} {a : Addr}
/-- a comprehension whose turns only make their item -/
theorem lcMap (xs : List V) (f : V → V) (ha : SqL K H a xs) (hz : xs.length ≤ 100000)
    (hs : ∀ (i : Nat) (x : V) (L : Addr) (G : Hp) (out : List V) (Nx : Hp → Prop), xs[i]? = some x → Same H G → G L = some (.lst out) → out.length < sizeLine → Nx (upd G L (.lst (out ++ [f x]))) → Turn1 g tt te vs σ L x G Nx)
    (hd : ∀ (L : Addr) (G : Hp), H L = none → Same H G → G L = some (.lst (xs.map f)) → Q (.ref L) G) : LcB (Itl K a) g tt te vs σ H Q := by
  refine lcL xs fun L hL => ⟨fun i h => i ≤ xs.length ∧ h = upd H L (.lst ((xs.take i).map f)), ⟨Nat.zero_le _, rfl⟩, ?_, ?_, ?_⟩
  · rintro i h _ ⟨_, rfl⟩
    exact (same_upd hL).seq ha
  · rintro i x h hx ⟨hi, rfl⟩
    have lt : i < xs.length := (List.getElem?_eq_some_iff.mp hx).1
    refine hs i x L _ _ _ hx (same_upd hL) upd_same ?_ ⟨lt, ?_⟩
    · rw [List.length_map, List.length_take]
      exact sz5' (by omega)
    · rw [upd_upd, List.take_add_one, hx, List.map_append]
      rfl
  · rintro h ⟨_, rfl⟩
    rw [List.take_length]
    exact hd L _ hL (same_upd hL) upd_same
theorem dp_bls : ∀ bs : List Bool, DpAll K H (bs.map V.bl) (bs.map PyData.bool)
  | [] => .nil
  | b :: bs => .cons (.bl b) (dp_bls bs)
/-- two lists of the same bools differ not -/
theorem neBl {p q : Addr} {xs ys : List V} (bs : List Bool) (h : H p = some (.lst xs)) (h' : H q = some (.lst ys)) (e : (xs = bs.map V.bl ∧ ys = bs.map V.bl) ∧ SeqAt.shaped (.list (bs.map PyData.bool)) = true ∧ PyData.eqv (.list (bs.map PyData.bool)) (.list (bs.map PyData.bool)) = true)
    (k : Q (.bl false) H) : rNeD K (.ref p) (.ref q) H Q := by
  obtain ⟨⟨rfl, rfl⟩, e1, e2⟩ := e
  refine ⟨_, _, .lst (.inl (.inl h)) (dp_bls bs), .lst (.inl (.inl h')) (dp_bls bs), e1, e1, ?_⟩
  rw [e2]
  exact k
theorem idx {p : Addr} {ys : List V} {y : V} (j : Nat) (h : H p = some (.lst ys)) (e : (flatV y && (ys.all flatV && ((ys[j]?.any fun z => eqV z y) && (ys.take j).all fun z => !eqV z y))) = true) (k : Q (.int (j : Nat)) H) : rIndex K (.ref p) [y] H Q := by
  obtain ⟨e1, e⟩ := Bool.and_eq_true_iff.mp e
  obtain ⟨e2, e⟩ := Bool.and_eq_true_iff.mp e
  obtain ⟨e3, e4⟩ := Bool.and_eq_true_iff.mp e
  cases hz : ys[j]? with
  | none =>
    rw [hz] at e3
    cases e3
  | some z =>
    rw [hz] at e3
    refine ⟨p, ys, y, j, z, rfl, rfl, .inl (.inl h), e1, e2, hz, e3, fun m z' hm hz' => ?_, k⟩
    have q := List.all_eq_true.mp e4 z' (List.mem_of_getElem? (i := m) (by rw [List.getElem?_take_of_lt hm]; exact hz'))
    simpa using q
theorem iteDt {p A B : Prop} [Decidable p] (h : p) (k : A) : if decide p = true then A else B := by
  rw [if_pos (decide_eq_true h)]
  exact k
theorem iteDf {p A B : Prop} [Decidable p] (h : ¬ p) (k : B) : if decide p = true then A else B := by
  rw [if_neg (by rw [decide_eq_false h]; exact Bool.false_ne_true)]
  exact k
end
end Rd
/-! ### data with dicts of at most one entry -/
namespace Rd
open PySem PySem.Spec PyProof.Rows L2
mutual
inductive Dv (K : PySem.W.Frag) (H : Hp) : V → PyData → Prop
  | non : Dv K H .non .none
  | bl (b : Bool) : Dv K H (.bl b) (.bool b)
  | int (i : Int) : Dv K H (.int i) (.int i)
  | str (x : Str) : Dv K H (.str x) (.str x)
  | lst {a : Addr} {xs : List V} {ds : List PyData} : SqL K H a xs → DvAll K H xs ds → Dv K H (.ref a) (.list ds)
  | tup {a : Addr} {xs : List V} {ds : List PyData} : SqT K H a xs → DvAll K H xs ds → Dv K H (.ref a) (.tuple ds)
  | dc0 {a : Addr} : H a = some (.dK []) → Dv K H (.ref a) (.dict [])
  | dc1 {a : Addr} {k : Str} {v : V} {d : PyData} : H a = some (.dK [(Sum.inr k, v)]) → Dv K H v d → Dv K H (.ref a) (.dict [(.str k, d)])
inductive DvAll (K : PySem.W.Frag) (H : Hp) : List V → List PyData → Prop
  | nil : DvAll K H [] []
  | cons {v : V} {vs : List V} {d : PyData} {ds : List PyData} : Dv K H v d → DvAll K H vs ds → DvAll K H (v :: vs) (d :: ds)
end
/-- data no deeper than n, with short lists -/
inductive Fd : Nat → PyData → Prop
  | non {n : Nat} : Fd n .none
  | bl {n : Nat} (b : Bool) : Fd n (.bool b)
  | int {n : Nat} (i : Int) : Fd n (.int i)
  | str {n : Nat} (s : Str) : Fd n (.str s)
  | lst {n : Nat} {ds : List PyData} : ds.length ≤ 100000 → (∀ d ∈ ds, Fd n d) → Fd (n + 1) (.list ds)
  | tup {n : Nat} {ds : List PyData} : ds.length ≤ 100000 → (∀ d ∈ ds, Fd n d) → Fd (n + 1) (.tuple ds)
  | dc0 {n : Nat} : Fd (n + 1) (.dict [])
  | dc1 {n : Nat} {k : Str} {d : PyData} : Fd n d → Fd (n + 1) (.dict [(.str k, d)])
theorem Fd.mono {n m : Nat} {d : PyData} (h : Fd n d) (k : n ≤ m) : Fd m d := by
  induction h generalizing m with
  | non => exact .non
  | bl b => exact .bl b
  | int i => exact .int i
  | str s => exact .str s
  | lst l _ ih =>
    cases m with
    | zero => omega
    | succ m => exact .lst l fun d hd => ih d hd (by omega)
  | tup l _ ih =>
    cases m with
    | zero => omega
    | succ m => exact .tup l fun d hd => ih d hd (by omega)
  | dc0 =>
    cases m with
    | zero => omega
    | succ m => exact .dc0
  | dc1 _ ih =>
    cases m with
    | zero => omega
    | succ m => exact .dc1 (ih (by omega))
section
variable {K : PySem.W.Frag} {H H' : Hp} {Q : VK}
theorem va_len : ∀ {vs : List V} {ds : List PyData}, DvAll K H vs ds → vs.length = ds.length
  | _, _, .nil => rfl
  | _, _, .cons _ r => by rw [List.length_cons, List.length_cons, va_len r]
theorem va_at : ∀ (vs : List V) (ds : List PyData) (i : Nat) (d : PyData), DvAll K H vs ds → ds[i]? = some d → ∃ v, vs[i]? = some v ∧ Dv K H v d
  | _, [], _, _, _, e => by simp at e
  | [], _ :: _, _, _, h, _ => by cases h
  | v :: _, _ :: _, 0, _, h, e => by
    cases h with
    | cons a _ =>
      cases e
      exact ⟨v, rfl, a⟩
  | _ :: vs, _ :: ds, i + 1, d, h, e => by
    cases h with
    | cons _ r =>
      obtain ⟨v, ev, dv⟩ := va_at vs ds i d r (by simpa using e)
      exact ⟨v, by simpa using ev, dv⟩
theorem va_append : ∀ (vs : List V) (ds : List PyData) {ws : List V} {es : List PyData}, DvAll K H vs ds → DvAll K H ws es → DvAll K H (vs ++ ws) (ds ++ es)
  | [], [], _, _, _, h => h
  | _ :: vs, _ :: ds, _, _, h, h' => by
    cases h with
    | cons a r => exact .cons a (va_append vs ds r h')
  | [], _ :: _, _, _, h, _ => by cases h
  | _ :: _, [], _, _, h, _ => by cases h
mutual
theorem dv_same (e : Same H H') : ∀ {v : V} {d : PyData}, Dv K H v d → Dv K H' v d
  | _, _, .non => .non
  | _, _, .bl b => .bl b
  | _, _, .int i => .int i
  | _, _, .str s => .str s
  | _, _, .lst h r => .lst (e.seq h) (va_same e r)
  | _, _, .tup h r => .tup (sqT_same e h) (va_same e r)
  | _, _, .dc0 h => .dc0 (e _ _ h)
  | _, _, .dc1 h r => .dc1 (e _ _ h) (dv_same e r)
theorem va_same (e : Same H H') : ∀ {v : List V} {d : List PyData}, DvAll K H v d → DvAll K H' v d
  | _, _, .nil => .nil
  | _, _, .cons h r => .cons (dv_same e h) (va_same e r)
end
def tnv : PyData → String
  | .none => "NoneType"
  | .bool _ => "bool"
  | .int _ => "int"
  | .str _ => "str"
  | .list _ => "list"
  | .tuple _ => "tuple"
  | .dict _ => "dict"
theorem dv_ty {x : V} {d : PyData} (h : Dv K H x d) : TyX K H x (.type (tnv d)) := by
  cases h with
  | non => exact .base .non
  | bl b => exact .base (.bl b)
  | int i => exact .base (.int i)
  | str s => exact .base (.str s)
  | lst h _ => exact tyL' h
  | tup h _ => exact tyT' h
  | dc0 h => exact .base (.dK h)
  | dc1 h _ => exact .base (.dK h)
theorem tyD' {a : Addr} {kvs : List (Key × V)} (h : H a = some (.dK kvs)) : TyX K H (.ref a) (.type "dict") := .base (.dK h)
/-- len of a list, a tuple, a dict -/
def rLenA (K : PySem.W.Frag) : List V → Hp → VK → Prop := fun xs H Q => ∃ (p : Addr) (n : Nat), xs = [.ref p] ∧ ((∃ ys, (SqL K H p ys ∨ SqT K H p ys) ∧ n = ys.length) ∨ ∃ kvs, H p = some (.dK kvs) ∧ n = kvs.length) ∧ Q (.int n) H
theorem q_lenA {X : Cx} : CallR X (.builtin "len") (rLenA X.K) := by
  intro pins s σ H xs us Q I r h
  obtain ⟨p, n, rfl, h | h, q⟩ := h
  · obtain ⟨ys, h, rfl⟩ := h
    exact q_len pins s σ H _ us Q I r ⟨p, ys, rfl, h, q⟩
  · obtain ⟨kvs, h, rfl⟩ := h
    exact call_lenD pins s σ H _ us Q I r ⟨p, kvs, rfl, h, q⟩
theorem lenAs {p : Addr} {ys : List V} (h : SqL K H p ys ∨ SqT K H p ys) (q : Q (.int ys.length) H) : rLenA K [.ref p] H Q := ⟨p, _, rfl, .inl ⟨ys, h, rfl⟩, q⟩
theorem lenAd {p : Addr} {kvs : List (Key × V)} (h : H p = some (.dK kvs)) (q : Q (.int kvs.length) H) : rLenA K [.ref p] H Q := ⟨p, _, rfl, .inr ⟨kvs, h, rfl⟩, q⟩
theorem din {td : TE} {σ : L2.St} {ty : TE} (h : ty σ H fun y H1 => td σ H1 fun x H2 => ∃ a o, x = .ref a ∧ DGet H2 a y o ∧ Q (.bl (!o.isSome)) H2) : tDNotIn ty td σ H Q := h
theorem dget {td ty : TE} {σ : L2.St} (h : td σ H fun x H1 => ty σ H1 fun y H2 => ∃ a v, x = .ref a ∧ DGet H2 a y (some v) ∧ Q v H2) : tDGet td ty σ H Q := h
def rListDk : List V → Hp → VK → Prop := fun xs H Q => ∃ (a : Addr) (kvs : List (Key × V)), xs = [.ref a] ∧ Rd H a (.dK kvs) ∧ ∀ p, H p = none → Q (.ref p) (upd H p (.lst (kvs.map fun kv => kV kv.1)))
theorem q_listDk {X : Cx} (hc : X.calm = true) : CallR X (.type "list") rListDk := call_listD hc
theorem listDk {a : Addr} {kvs : List (Key × V)} {zs : List V} (h : H a = some (.dK kvs)) (e : (kvs.map fun kv => kV kv.1) = zs) (q : ∀ p, H p = none → Q (.ref p) (upd H p (.lst zs))) : rListDk [.ref a] H Q := by
  subst e
  exact ⟨a, kvs, rfl, .inl h, q⟩
end
end Rd
namespace Rd
open PySem PySem.Spec PyProof.Rows L2
theorem q_lenAK {X : Cx} {K : PySem.W.Frag} (h : X.K = K) : CallR X (.builtin "len") (rLenA K) := h ▸ q_lenA
end Rd
namespace Rd
open PySem PySem.Spec PyProof.Rows L2
theorem bb_isinstance : bootBuiltins "isinstance" = some (.builtin "isinstance") := by decide +kernel
theorem bb_int : bootBuiltins "int" = some (.type "int") := by decide +kernel
theorem bb_bool : bootBuiltins "bool" = some (.type "bool") := by decide +kernel
theorem bb_str : bootBuiltins "str" = some (.type "str") := by decide +kernel
theorem bb_list : bootBuiltins "list" = some (.type "list") := by decide +kernel
theorem bb_tuple : bootBuiltins "tuple" = some (.type "tuple") := by decide +kernel
theorem bb_dict : bootBuiltins "dict" = some (.type "dict") := by decide +kernel
theorem bb_ValueError : bootBuiltins "ValueError" = some (.type "ValueError") := by decide +kernel
theorem bb_max : bootBuiltins "max" = some (.builtin "max") := by decide +kernel
theorem bb_min : bootBuiltins "min" = some (.builtin "min") := by decide +kernel
theorem bb_abs : bootBuiltins "abs" = some (.builtin "abs") := by decide +kernel
theorem bb_sorted : bootBuiltins "sorted" = some (.builtin "sorted") := by decide +kernel
theorem bb_all : bootBuiltins "all" = some (.builtin "all") := by decide +kernel
end Rd
namespace Rd
open PySem PySem.Spec PyProof.Rows L2
theorem q_sortedSK {X : Cx} {K : PySem.W.Frag} (h : X.K = K) : CallR X (.builtin "sorted") (rSortedS K) := h ▸ cr_sortedS
theorem sortS1 {K : PySem.W.Frag} {H : Hp} {Q : VK} {a : Addr} (z : List Str) (hz : z.length ≤ 1) (h : SqL K H a (z.map V.str)) (q : ∀ p, H p = none → Q (.ref p) (upd H p (.lst (z.map V.str)))) : rSortedS K [.ref a] H Q := by
  have lt : z.length < 64 := Nat.lt_of_le_of_lt hz (by decide)
  refine ⟨a, z, rfl, h, lt, fun ys p pm _ n => ?_⟩
  have e : ys = z := by
    rcases z with _ | ⟨x, _ | ⟨y, z⟩⟩
    · exact List.perm_nil.mp pm
    · exact List.perm_singleton.mp pm
    · exact absurd hz (by rw [List.length_cons, List.length_cons]; omega)
  subst e
  exact q p n
end Rd
namespace Rd
open PySem PySem.Spec PyProof.Rows L2
theorem dget_k {H : Hp} {a : Addr} {k : Str} {v : V} (h : H a = some (.dK [(Sum.inr k, v)])) : DGet H a (.str k) (some v) := by
  have e : valV [((Sum.inr k : Key), v)] (Sum.inr k) = some v := by simp [valV]
  exact .inl ⟨_, Sum.inr k, .inl h, rfl, e.symm⟩
theorem someF {v : V} {A B : Prop} (h : B) : if (!(some v).isSome) = true then A else B := h
theorem lcT {K : PySem.W.Frag} {g : TG} {tt : TT} {te : TE} {vs : List Nat} {σ : L2.St} {H : Hp} {Q : VK} {a : Addr} (xs : List V) (f : ∀ L, H L = none → ∃ Pv : Nat → Hp → Prop, Pv 0 (upd H L (.lst [])) ∧ (∀ i h, i ≤ xs.length → Pv i h → SqT K h a xs) ∧
    (∀ i x h, xs[i]? = some x → Pv i h → Turn1 g tt te vs σ L x h (Pv (i + 1))) ∧ ∀ h, Pv xs.length h → Q (.ref L) h) : LcB (Itt K a) g tt te vs σ H Q := fun L hL => by
  obtain ⟨Pv, h0, hl, hs, hd⟩ := f L hL
  exact lc_tup (Qd := Q (.ref L)) Pv h0 hl hs hd
/-! data without lists and dicts stays where lists are written -/
mutual
theorem dv_tk {K : PySem.W.Frag} {H H' : Hp} (e : Tk H H') : ∀ {v : V} {d : PyData}, Dv K H v d → Tp d → Dv K H' v d
  | _, _, .non, _ => .non
  | _, _, .bl b, _ => .bl b
  | _, _, .int i, _ => .int i
  | _, _, .str s, _ => .str s
  | _, _, .lst _ _, t => nomatch t
  | _, _, .tup h r, .tup t => .tup (sqT_tk e h) (va_tk e r t)
  | _, _, .dc0 _, t => nomatch t
  | _, _, .dc1 _ _, t => nomatch t
theorem va_tk {K : PySem.W.Frag} {H H' : Hp} (e : Tk H H') : ∀ {v : List V} {d : List PyData}, DvAll K H v d → (∀ x ∈ d, Tp x) → DvAll K H' v d
  | _, _, .nil, _ => .nil
  | _, _, .cons h r, t => .cons (dv_tk e h (t _ List.mem_cons_self)) (va_tk e r fun x hx => t x (List.mem_cons_of_mem _ hx))
end
theorem itup {K : PySem.W.Frag} {te : TE} {σ : L2.St} {H : Hp} {R : It → Hp → Prop} (h : te σ H fun x H1 => ∃ a, x = .ref a ∧ (∃ xs, SqT K H1 a xs) ∧ R (Itt K a) H1) : iTup K te σ H R := h
theorem extup {K : PySem.W.Frag} {H : Hp} {p : Addr} {ys : List V} {P' : Addr → Prop} (h : SqT K H p ys) (g : P' p) : ∃ a, V.ref p = V.ref a ∧ (∃ zs, SqT K H a zs) ∧ P' a := ⟨p, rfl, ⟨ys, h⟩, g⟩
end Rd
/-! ### texts -/
namespace Rd
open PySem PySem.Spec PyProof.Rows L2
/-- a text some times -/
def rRepZ : R2 := fun x y H Q => ∃ (z : Str) (n : Int), x = .str z ∧ y = .int n ∧ (z.length ≤ 1000 ∧ -1000 ≤ n ∧ n ≤ 1000) ∧ Q (.str (Txt.mul z n)) H
theorem mulOk {z : Str} {n : Int} (h : z.length ≤ 1000 ∧ -1000 ≤ n ∧ n ≤ 1000) : MulOk z n := by
  obtain ⟨h1, h2, h3⟩ := h
  refine ⟨?_, fun k _ => ?_, fun k _ => ?_⟩
  · rw [decide_eq_false (by omega), decide_eq_false (by omega)]
    rfl
  · have : (1000 : Int) ≤ (2 ^ 63 - 1) / n := Int.le_ediv_of_mul_le (by omega) (by omega)
    omega
  · have a : n.toNat ≤ 1000 := by omega
    have b : z.length * n.toNat ≤ 1000 * 1000 := Nat.mul_le_mul h1 a
    have c : (1000 * 1000 : Nat) ≤ sizeLine := by decide
    unfold Builtin.Str.tooLong
    exact decide_eq_false (by omega)
theorem op_rep_str {X : Cx} : OpR X (binaryOp .Mult) rRepZ := by
  intro pins s σ H x y v u Q I rx ry h
  obtain ⟨z, n, rfl, rfl, hz, q⟩ := h
  obtain ⟨t, rfl⟩ := rx
  obtain ⟨t', rfl⟩ := ry
  exact SB.mul (mulOk hz) fun t' k => ⟨.str _, H, I.tok _, ⟨_, rfl⟩, q⟩
def rLeZ : R2 := fun x y H Q => ∃ i j, x = .str i ∧ y = .str j ∧ Q (.bl (!decide (j.cps.toList < i.cps.toList))) H
def rGtZ : R2 := fun x y H Q => ∃ i j, x = .str i ∧ y = .str j ∧ Q (.bl (decide (j.cps.toList < i.cps.toList))) H
def rGeZ : R2 := fun x y H Q => ∃ i j, x = .str i ∧ y = .str j ∧ Q (.bl (!decide (i.cps.toList < j.cps.toList))) H
theorem o_leZ {X : Cx} : OpR X (compareOp .LtE) rLeZ := op_le_str
theorem o_gtZ {X : Cx} : OpR X (compareOp .Gt) rGtZ := op_gt_str
theorem o_geZ {X : Cx} : OpR X (compareOp .GtE) rGeZ := op_ge_str
section
variable {K : PySem.W.Frag} {σ σ' : L2.St} {H : Hp} {Q : VK} {a b' z : Str} {g : TG} {tb : TS} {tt : TT} {te : TE} {n b c : L2.St → Hp → Prop} {rr : VK} {vs : List Nat}
theorem repZ {n : Int} (h : z.length ≤ 1000 ∧ -1000 ≤ n ∧ n ≤ 1000) (q : Q (.str (Txt.mul z n)) H) : rRepZ (.str z) (.int n) H Q := ⟨z, n, rfl, rfl, h, q⟩
theorem leZ (h : Q (.bl (!decide (b'.cps.toList < a.cps.toList))) H) : rLeZ (.str a) (.str b') H Q := ⟨a, b', rfl, rfl, h⟩
theorem gtZ (h : Q (.bl (decide (b'.cps.toList < a.cps.toList))) H) : rGtZ (.str a) (.str b') H Q := ⟨a, b', rfl, rfl, h⟩
theorem geZ (h : Q (.bl (!decide (a.cps.toList < b'.cps.toList))) H) : rGeZ (.str a) (.str b') H Q := ⟨a, b', rfl, rfl, h⟩
theorem istr {R : It → Hp → Prop} (h : te σ H fun v H1 => ∃ x, v = .str x ∧ R (Its x) H1) : iStr te σ H R := h
theorem exstr {P : Str → Prop} (h : P z) : ∃ x, V.str z = V.str x ∧ P x := ⟨z, rfl, h⟩
theorem at_cl {i : Nat} {c : Nat} (h : z.cps[i]? = some c) : (cl z)[i]? = some c := by
  rw [Array.getElem?_toList]
  exact h
theorem forZ (Pv : Nat → L2.St → Hp → Prop) (h0 : Pv 0 σ H)
    (hs : ∀ i x σ H, (cl z)[i]? = some x → Pv i σ H → g (.str ⟨#[x]⟩) σ H fun σ2 H2 => tb ⟨Pv (i + 1), rr, n, Pv (i + 1)⟩ σ2 H2) (hd : ∀ σ H, Pv z.length σ H → n σ H) : ForB (Its z) g tb ⟨n, rr, b, c⟩ σ H := by
  refine L2.for_it (D := ⟨n, rr, b, c⟩) L2.walk_str Pv h0 (fun _ _ _ _ _ => trivial) (fun i x σ H H' hi p y => ?_) hd
  obtain ⟨rfl, c, hc, rfl⟩ := y
  exact hs i c σ H' (at_cl hc) p
theorem lcZ (f : ∀ L, H L = none → ∃ Pv : Nat → Hp → Prop, Pv 0 (upd H L (.lst [])) ∧ (∀ i x h, (cl z)[i]? = some x → Pv i h → Turn1 g tt te vs σ L (.str ⟨#[x]⟩) h (Pv (i + 1))) ∧ ∀ h, Pv z.length h → Q (.ref L) h) : LcB (Its z) g tt te vs σ H Q := fun L hL => by
  obtain ⟨Pv, h0, hs, hd⟩ := f L hL
  refine L2.lc_it (Qd := Q (.ref L)) L2.walk_str Pv h0 (fun _ _ _ _ => trivial) (fun i x h h' hi p y => ?_) hd
  obtain ⟨rfl, c, hc, rfl⟩ := y
  exact hs i c h' (at_cl hc) p
theorem allB {p : Addr} {bs : List Bool} (h : SqL K H p (bs.map V.bl)) (q : Q (.bl (bs.all id)) H) : rAll K [.ref p] H Q := ⟨p, bs, rfl, h, q⟩
end
theorem lt_one {a b : Nat} : ([a] < [b] : Prop) ↔ a < b := by
  simp [List.cons_lt_cons_iff]
theorem cutL (z : Str) (lo hi : Option Int) {n : Nat} (h : z.length ≤ n) : (cutS z lo hi).length ≤ n := Nat.le_trans (cutS_length z lo hi) h
theorem mulL {z : Str} {n : Int} {k m : Nat} (h : z.length ≤ k) (h2 : n ≤ m) : (Txt.mul z n).length ≤ k * m := by
  have e := len_mul z n
  have c : (((Txt.mul z n).length : Nat) : Int) ≤ (k : Int) * (m : Int) := by
    rw [e]
    split
    · rw [Int.mul_zero]
      exact Int.mul_nonneg (Int.natCast_nonneg _) (Int.natCast_nonneg _)
    · rename_i z0
      have z1 : ¬ n < 0 := fun y => z0 (decide_eq_true y)
      exact Int.mul_le_mul (by omega) h2 (by omega) (Int.natCast_nonneg _)
  rw [← Int.natCast_mul] at c
  exact Int.ofNat_le.mp c
/-! ### what is new -/
def nw (H H' : Hp) : Hp := fun b => match H b with
  | none => H' b
  | some _ => none
theorem nw_at {H H' : Hp} {b : Addr} {o : HO} (h : nw H H' b = some o) : H b = none ∧ H' b = some o := by
  unfold nw at h
  cases e : H b with
  | none =>
    rw [e] at h
    exact ⟨rfl, h⟩
  | some u =>
    rw [e] at h
    cases h
theorem nw_mk {H H' : Hp} {b : Addr} {o : HO} (n : H b = none) (h : H' b = some o) : nw H H' b = some o := by
  unfold nw
  rw [n]
  exact h
theorem nw_sub {H H' G : Hp} (k : ∀ b o, H b = none → H' b = some o → G b = some o) : Same (nw H H') G := fun b o e => k b o (nw_at e).1 (nw_at e).2
theorem nw_in {H H' : Hp} : Same (nw H H') H' := nw_sub fun _ _ _ e => e
theorem nw_mono {H H1 H2 H3 : Hp} (a : ∀ b, H1 b = none → H b = none) (c : ∀ b o, H1 b = none → H2 b = some o → H3 b = some o) : Same (nw H1 H2) (nw H H3) := nw_sub fun b o n e => nw_mk (a b n) (c b o n e)
theorem del_in {H : Hp} {a : Addr} : Same (del H a) H := fun b o e => by
  by_cases z : b = a
  · rw [z, del_same] at e
    cases e
  · rw [del_ne z] at e
    exact e
theorem del_at {H : Hp} {a b : Addr} {o : HO} (h : del H a b = some o) : b ≠ a ∧ H b = some o := by
  refine ⟨fun z => ?_, del_in b o h⟩
  rw [z, del_same] at h
  cases h
theorem del_mk {H : Hp} {a b : Addr} {o : HO} (n : b ≠ a) (h : H b = some o) : del H a b = some o := (del_ne n).trans h
theorem del_sub {H H' : Hp} {a : Addr} (k : ∀ b o, b ≠ a → H b = some o → H' b = some o) : Same (del H a) (del H' a) := fun b o e => del_mk (del_at e).1 (k b o (del_at e).1 (del_at e).2)
theorem del2_sub {H H' : Hp} {a c : Addr} (k : ∀ b o, b ≠ a → b ≠ c → H b = some o → H' b = some o) : Same (del (del H a) c) (del (del H' a) c) := fun b o e => by
  obtain ⟨n, e⟩ := del_at e
  obtain ⟨m, e⟩ := del_at e
  exact del_mk n (del_mk m (k b o m n e))
theorem nw_del2 {H H' G : Hp} {a c : Addr} (ha : H a ≠ none) (hc : H c ≠ none) (k : ∀ b o, H b = none → H' b = some o → G b = some o) : Same (nw H H') (del (del G a) c) := nw_sub fun b o n e =>
  del_mk (fun z => hc (z ▸ n)) (del_mk (fun z => ha (z ▸ n)) (k b o n e))
end Rd
namespace Rd
open PySem PySem.Spec PyProof.Rows L2
theorem cr_allK {X : Cx} {K : PySem.W.Frag} (h : X.K = K) (hc : X.calm = true) : CallR X (.builtin "all") (rAll K) := h ▸ cr_all hc
theorem ltA {c : Nat} : ((⟨#[c]⟩ : Str).cps.toList < ("a" : Str).cps.toList) ↔ c < 97 := by
  have e : ("a" : Str).cps.toList = [97] := by decide +kernel
  rw [e]
  exact lt_one
theorem gtZs {c : Nat} : (("z" : Str).cps.toList < (⟨#[c]⟩ : Str).cps.toList) ↔ 122 < c := by
  have e : ("z" : Str).cps.toList = [122] := by decide +kernel
  rw [e]
  exact lt_one
theorem lt0 {c : Nat} : ((⟨#[c]⟩ : Str).cps.toList < ("0" : Str).cps.toList) ↔ c < 48 := by
  have e : ("0" : Str).cps.toList = [48] := by decide +kernel
  rw [e]
  exact lt_one
theorem gt9 {c : Nat} : (("9" : Str).cps.toList < (⟨#[c]⟩ : Str).cps.toList) ↔ 57 < c := by
  have e : ("9" : Str).cps.toList = [57] := by decide +kernel
  rw [e]
  exact lt_one
/-- z is a name -/
def nmB (z : Str) : Bool := (decide (1 ≤ z.length) && decide (z.length ≤ 12)) && (((cl z)[0]?.any fun c => decide (Low c)) && (cl z).all fun c => decide (Aln c))
def nameD : PyData → Bool
  | .str z => nmB z
  | _ => false
theorem nmB_head {z : Str} {c : Nat} (h : (cl z)[0]? = some c) (n : ¬ Low c) : nmB z = false := by
  unfold nmB
  rw [h]
  show (_ && (decide (Low c) && _)) = false
  rw [decide_eq_false n, Bool.false_and, Bool.and_false]
theorem nmB_in {z : Str} {c : Nat} (h : c ∈ cl z) (n : ¬ Aln c) : nmB z = false := by
  unfold nmB
  have : ((cl z).all fun c => decide (Aln c)) = false := by
    rw [List.all_eq_false]
    exact ⟨c, h, by rw [decide_eq_false n]; exact Bool.false_ne_true⟩
  rw [this, Bool.and_false, Bool.and_false]
theorem nmB_big {z : Str} (h : z.length < 1 ∨ 12 < z.length) : nmB z = false := by
  unfold nmB
  rcases h with h | h
  · rw [decide_eq_false (show ¬ 1 ≤ z.length by omega), Bool.false_and, Bool.false_and]
  · rw [decide_eq_false (show ¬ z.length ≤ 12 by omega), Bool.and_false, Bool.false_and]
theorem nmB_all {z : Str} {c : Nat} (h1 : 1 ≤ z.length) (h2 : z.length ≤ 12) (h : (cl z)[0]? = some c) (l : Low c) : nmB z = (cl z).all fun c => decide (Aln c) := by
  unfold nmB
  rw [decide_eq_true h1, decide_eq_true h2, h]
  show (decide (Low c) && _) = _
  rw [decide_eq_true l, Bool.true_and]
theorem nm_head {z : Str} (h1 : 1 ≤ z.length) : ∃ c, (cl z)[0]? = some c := by
  have h : 0 < (cl z).length := by rw [cl_len]; omega
  exact ⟨_, List.getElem?_eq_getElem h⟩
end Rd
namespace Rd
open PySem PySem.Spec PyProof.Rows L2
theorem upL {z : Str} (h : ∀ c ∈ cl z, c < 128) : (Txt.upper z).length = z.length := by
  have e : z = SX.S (cl z) := cl_inj rfl
  have u := SX.upper_S (a := cl z) (by
    rw [List.all_eq_true]
    exact fun c hc => decide_eq_true (h c hc))
  rw [← e] at u
  rw [u]
  show ((cl z).map up1).toArray.size = _
  rw [List.size_toArray, List.length_map, cl_len]
theorem nm_128 {l : List Nat} (h : Nm l) : ∀ c ∈ l, c < 128 := fun c hc => by
  rcases h.all c hc with a | a
  · have := a.2
    omega
  · have := a.2
    omega
end Rd
namespace Rd
open PySem PySem.Spec PyProof.Rows L2
section
variable {H : Hp} {Q : VK} {c : Nat}
theorem dec_not {p q : Prop} [Decidable p] [Decidable q] (h : p ↔ ¬ q) : (!decide p) = decide q := by
  by_cases hp : p
  · rw [decide_eq_true hp, decide_eq_false (h.mp hp)]
    rfl
  · rw [decide_eq_false hp, decide_eq_true (Decidable.not_not.mp fun z => hp (h.mpr z))]
    rfl
theorem leA (h : Q (.bl (decide (97 ≤ c))) H) : rLeZ (.str "a") (.str ⟨#[c]⟩) H Q := by
  refine leZ ?_
  rw [dec_not (q := 97 ≤ c) (ltA.trans (by omega))]
  exact h
theorem leZz (h : Q (.bl (decide (c ≤ 122))) H) : rLeZ (.str ⟨#[c]⟩) (.str "z") H Q := by
  refine leZ ?_
  rw [dec_not (q := c ≤ 122) (gtZs.trans (by omega))]
  exact h
theorem le0 (h : Q (.bl (decide (48 ≤ c))) H) : rLeZ (.str "0") (.str ⟨#[c]⟩) H Q := by
  refine leZ ?_
  rw [dec_not (q := 48 ≤ c) (lt0.trans (by omega))]
  exact h
theorem le9 (h : Q (.bl (decide (c ≤ 57))) H) : rLeZ (.str ⟨#[c]⟩) (.str "9") H Q := by
  refine leZ ?_
  rw [dec_not (q := c ≤ 57) (gt9.trans (by omega))]
  exact h
end
end Rd
namespace Rd
open PySem PySem.Spec PyProof.Rows L2
theorem joinLen0 (y : Str) : ∀ parts : List Str, (Str.join y parts).length ≤ (parts.map (·.length)).sum + parts.length * y.length
  | [] => Nat.zero_le _
  | [p] => by
    show p.length ≤ (p.length + 0) + 1 * y.length
    omega
  | p :: q :: r => by
    have e : (Str.join y (p :: q :: r)).length = p.length + y.length + (Str.join y (q :: r)).length := by
      show (p ++ y ++ Str.join y (q :: r)).length = _
      rw [add_len, add_len]
    have ih := joinLen0 y (q :: r)
    rw [e, List.map_cons, List.sum_cons, List.length_cons, Nat.succ_mul]
    omega
theorem joinLen (y : Str) (parts : List Str) : (Txt.join y parts).length ≤ (parts.map (·.length)).sum + parts.length * y.length := by
  rw [TL.join_eq]
  exact joinLen0 y parts
theorem sum_le {xs : List Str} {k : Nat} (h : ∀ x ∈ xs, x.length ≤ k) : (xs.map (·.length)).sum ≤ xs.length * k := by
  induction xs with
  | nil => exact Nat.zero_le _
  | cons x xs ih =>
    have a := h x List.mem_cons_self
    have b := ih fun y hy => h y (List.mem_cons_of_mem _ hy)
    rw [List.map_cons, List.sum_cons, List.length_cons, Nat.succ_mul]
    omega
theorem split_one {z : Str} (h : 10 ∉ cl z) : Txt.split z "\n" = [z] := by
  have ey : TL.tl ("\n" : Str) = 10 :: [] := by decide +kernel
  have e := TL.split_join (parts := [z]) ey (by decide +kernel) (by intro c; cases c) (fun p hp => by rw [List.mem_singleton.mp hp]; exact h)
  rw [TL.join_eq] at e
  exact e
theorem nm_10 {l : List Nat} (h : Nm l) : 10 ∉ l := fun m => by
  rcases h.all 10 m with a | a
  · exact absurd a.1 (by decide)
  · exact absurd a.1 (by decide)
/-- a text is not too long -/
def Sz (d : PyData) : Prop := ∀ z, d = .str z → z.length ≤ 100000
theorem Sz.str {z : Str} (h : z.length ≤ 100000) : Sz (.str z) := fun _ e => by cases e; exact h
theorem raiseX {C : Addr} {x f : Str} {W : WX} {ta : TA} {D : Ends} {σ : L2.St} {H : Hp} (h : ta σ H fun vs H1 => ∃ y, vs = [y] ∧ ∀ d, H1 d = none → W (.ref C) (some d) σ (upd H1 d (.xd [(f, y), ("code", .str x)]))) : Ho.tRaise C x f W ta D σ H := h
theorem exone {y : V} {P' : V → Prop} (h : P' y) : ∃ z, [y] = [z] ∧ P' z := ⟨y, rfl, h⟩
theorem callS {sp : Sp} {E : L2.St → XK} {ts : TA} {σ : L2.St} {H : Hp} {Q : VK} (h : ts σ H fun vs H1 => sp vs H1 Q (E σ)) : tCallS sp E ts σ H Q := h
theorem callP {sp : Addr → Value → Option Addr → Sp} {a : Addr} {cls : Value} {d : Option Addr} {ts : TA} {σ : L2.St} {H : Hp} {Q : VK} (h : ts σ H fun vs H1 => sp a cls d vs H1 Q E0) : Ho.tCallP sp a cls d ts σ H Q := h
theorem xsX {K : PySem.W.Frag} {a : Addr} {cls : Value} {d : Option Addr} {f : Str} {te : TE} {σ : L2.St} {H : Hp} {Q : VK} (h : te σ H fun x H1 => x = .ref a ∧ ∃ (C dd : Addr) (fs : List (Str × V)) (v : V), cls = .ref C ∧ XfC K C ∧ PySem.W.findIn K (.ref C) f = some none ∧ d = some dd ∧ H1 dd = some (.xd fs) ∧ fs.lookup f = some v ∧ Q v H1) : Ho.tXs K a cls d f te σ H Q := h
theorem dnewX {σ : L2.St} {H : Hp} {Q : VK} (h : ∀ p, H p = none → Q (.ref p) (upd H p (.dK []))) : tDNewK σ H Q := h
theorem tyZ {K : PySem.W.Frag} {z : Str} {H : Hp} {B : Prop} (g : B) : tyV K "str" (.str z) H ∧ B := ⟨rfl, g⟩
def rNewZ (ys : List Str) : Hp → VK → Prop := fun H Q => ∀ p, H p = none → Q (.ref p) (upd H p (.lst (ys.map V.str)))
end Rd
/-! the order of texts; sorted lists of texts; dicts whose keys are texts -/
namespace Rd
open PySem PySem.Spec PyProof.Rows L2
theorem ltCps_iff : ∀ (a b : List Nat), ltCps a b = true ↔ a < b
  | [], [] => ⟨fun h => (nomatch h), fun h => absurd h (List.lt_irrefl _)⟩
  | [], _ :: _ => ⟨fun _ => List.nil_lt_cons _ _, fun _ => rfl⟩
  | _ :: _, [] => ⟨fun h => (nomatch h), fun h => absurd h (List.not_lt_nil _)⟩
  | a :: r, b :: t => by
    rw [List.cons_lt_cons_iff, ← ltCps_iff r t]
    show (decide (a < b) || (a == b && ltCps r t)) = true ↔ _
    simp
theorem ltCps_not {a b : List Nat} : ltCps a b = false ↔ ¬ a < b := by
  rw [← ltCps_iff]
  cases ltCps a b <;> simp
theorem not_lt_trans {a b c : List Nat} (h : ¬ b < a) (k : ¬ c < b) : ¬ c < a := List.le_trans (List.not_lt.mp h) (List.not_lt.mp k)
theorem rising_pw : ∀ (p : Str) (l : List Str), risingS p l = true → (p :: l).Pairwise (fun a b => ¬ cl b < cl a)
  | p, [], _ => List.pairwise_singleton _ _
  | p, x :: r, h => by
    have h : (!ltCps x.cps.toList p.cps.toList && risingS x r) = true := h
    obtain ⟨h1, h2⟩ := Bool.and_eq_true_iff.mp h
    have h1 : ltCps x.cps.toList p.cps.toList = false := by simpa using h1
    have ih := rising_pw x r h2
    refine List.pairwise_cons.mpr ⟨fun y hy => ?_, ih⟩
    rcases List.mem_cons.mp hy with rfl | hy
    · exact ltCps_not.mp h1
    · exact not_lt_trans (ltCps_not.mp h1) ((List.pairwise_cons.mp ih).1 y hy)
theorem sorted_pw : ∀ (l : List Str), sortedS l = true → l.Pairwise (fun a b => ¬ cl b < cl a)
  | [], _ => .nil
  | x :: r, h => rising_pw x r h
theorem le_antisymm' {a b : Str} (h : ¬ cl b < cl a) (k : ¬ cl a < cl b) : a = b := cl_inj (List.le_antisymm (List.not_lt.mp h) (List.not_lt.mp k))
/-- the sorted order is one -/
theorem sorted_one {ys zs : List Str} (p : ys.Perm zs) (h : sortedS ys = true) (k : sortedS zs = true) : ys = zs :=
  List.Perm.eq_of_pairwise (le := fun a b => ¬ cl b < cl a) (fun _ _ _ _ h k => le_antisymm' h k) (sorted_pw _ h) (sorted_pw _ k) p
theorem sorted_strict {ys : List Str} (h : sortedS ys = true) (n : ys.Nodup) : ys.Pairwise (fun a b => cl a < cl b) := by
  refine ((sorted_pw _ h).and n).imp fun {a b} hab => ?_
  rcases Decidable.em (cl a < cl b) with z | z
  · exact z
  · exact absurd (le_antisymm' hab.1 z) hab.2
section
variable {K : PySem.W.Frag} {H : Hp} {Q : VK} {a : Addr}
/-- sorted of texts whose order is known -/
theorem sortS {ks zs : List Str} (h : SqL K H a (ks.map V.str)) (hz : ks.length < 64) (p : ks.Perm zs) (s : sortedS zs = true) (q : ∀ p, H p = none → Q (.ref p) (upd H p (.lst (zs.map V.str)))) : rSortedS K [.ref a] H Q :=
  ⟨a, ks, rfl, h, hz, fun ys l pm sy n => by
    rw [sorted_one (pm.trans p) sy s]
    exact q l n⟩
end
/-! ### dicts: the keys ks, at each the value f -/
def kd (ks : List Str) (f : Str → V) : List (Key × V) := ks.map fun z => (Sum.inr z, f z)
theorem kd_len {ks : List Str} {f : Str → V} : (kd ks f).length = ks.length := List.length_map _
theorem kd_keys {ks : List Str} {f : Str → V} : ((kd ks f).map fun kv => kV kv.1) = ks.map V.str := by
  unfold kd
  rw [List.map_map]
  rfl
theorem kd_get : ∀ {ks : List Str} {f : Str → V} {z : Str}, z ∈ ks → valV (kd ks f) (Sum.inr z) = some (f z)
  | k :: ks, f, z, h => by
    unfold kd valV
    rw [List.map_cons, List.find?_cons]
    by_cases e : k = z
    · subst e
      rw [decide_eq_true rfl]
      rfl
    · rw [decide_eq_false (by intro z'; exact e (Sum.inr.inj z'))]
      exact kd_get (ks := ks) (f := f) ((List.mem_cons.mp h).resolve_left (fun w => e w.symm))
theorem kd_none : ∀ {ks : List Str} {f : Str → V} {z : Str}, z ∉ ks → valV (kd ks f) (Sum.inr z) = none
  | [], _, _, _ => rfl
  | k :: ks, f, z, h => by
    unfold kd valV
    rw [List.map_cons, List.find?_cons]
    rw [decide_eq_false (by intro z'; exact h (by rw [Sum.inr.inj z']; exact List.mem_cons_self))]
    exact kd_none (ks := ks) (f := f) (fun w => h (List.mem_cons_of_mem _ w))
theorem kd_any {ks : List Str} {f : Str → V} {z : Str} : ((kd ks f).any fun kv => decide (kv.1 = (Sum.inr z : Key))) = decide (z ∈ ks) := by
  rw [Bool.eq_iff_iff, List.any_eq_true, decide_eq_true_iff]
  unfold kd
  constructor
  · rintro ⟨x, hx, e⟩
    obtain ⟨y, hy, rfl⟩ := List.mem_map.mp hx
    rw [← Sum.inr.inj (of_decide_eq_true e)]
    exact hy
  · intro h
    exact ⟨_, List.mem_map.mpr ⟨z, h, rfl⟩, decide_eq_true rfl⟩
theorem kd_put {ks : List Str} {f : Str → V} {z : Str} {v : V} (h : z ∈ ks) : putK (kd ks f) (Sum.inr z) v = kd ks (fun y => if y = z then v else f y) := by
  unfold putK
  rw [kd_any, decide_eq_true h, if_pos rfl]
  unfold kd
  rw [List.map_map]
  refine List.map_congr_left fun y _ => ?_
  show (if (Sum.inr y : Key) = Sum.inr z then _ else _) = _
  by_cases e : y = z
  · subst e
    rw [if_pos rfl]
    show _ = ((Sum.inr y : Key), if y = y then v else f y)
    rw [if_pos rfl]
  · rw [if_neg (fun w => e (Sum.inr.inj w))]
    show _ = ((Sum.inr y : Key), if y = z then v else f y)
    rw [if_neg e]
theorem kd_congr {ks : List Str} {f g : Str → V} (h : ∀ z ∈ ks, f z = g z) : kd ks f = kd ks g := List.map_congr_left fun y hy => by rw [h y hy]
theorem kd_new {ks : List Str} {f : Str → V} {z : Str} {v : V} (h : z ∉ ks) : putK (kd ks f) (Sum.inr z) v = kd (ks ++ [z]) (fun y => if y = z then v else f y) := by
  unfold putK
  rw [kd_any, decide_eq_false h, if_neg Bool.false_ne_true]
  unfold kd
  rw [List.map_append]
  congr 1
  · refine List.map_congr_left fun y hy => ?_
    show _ = ((Sum.inr y : Key), if y = z then v else f y)
    rw [if_neg (fun e => h (by rw [← e]; exact hy))]
  · show _ = [((Sum.inr z : Key), if z = z then v else f z)]
    rw [if_pos rfl]
/-- pairs of texts and values, as a dict -/
def kp (ps : List (Str × V)) : List (Key × V) := ps.map fun p => (Sum.inr p.1, p.2)
theorem kp_kd {ks : List Str} {f : Str → V} : kp (ks.map fun z => (z, f z)) = kd ks f := by
  unfold kp kd
  rw [List.map_map]
  rfl
theorem merge_kd : ∀ {ls ks : List Str} {f : Str → V}, ls.Nodup → (∀ z ∈ ls, z ∉ ks) → mergeK (kd ks f) (kd ls f) = kd (ks ++ ls) f
  | [], ks, f, _, _ => by
    rw [List.append_nil]
    rfl
  | z :: ls, ks, f, n, d => by
    obtain ⟨n1, n2⟩ := List.nodup_cons.mp n
    show mergeK (putK (kd ks f) (Sum.inr z) (f z)) (kd ls f) = _
    rw [kd_new (d z List.mem_cons_self), kd_congr (g := f) (fun y _ => by
      split
      · rename_i e
        rw [e]
      · rfl)]
    rw [merge_kd n2 (fun y hy hz => ?_), List.append_assoc]
    · rfl
    · rcases List.mem_append.mp hz with h | h
      · exact d y (List.mem_cons_of_mem _ hy) h
      · rw [List.mem_singleton.mp h] at hy
        exact n1 hy
section
variable {K : PySem.W.Frag} {H : Hp} {Q : VK} {a b : Addr} {ks ls : List Str} {f g : Str → V} {z : Str} {v : V}
theorem dgetK (h : H a = some (.dK (kd ks f))) (m : z ∈ ks) (q : Q (f z) H) : ∃ a' v, V.ref a = .ref a' ∧ DGet H a' (.str z) (some v) ∧ Q v H := ⟨a, _, rfl, .inl ⟨_, Sum.inr z, .inl h, rfl, (kd_get m).symm⟩, q⟩
theorem dputK {P : Hp → Prop} (h : H a = some (.dK (kd ks f))) (m : z ∈ ks) (hz : ks.length ≤ 100000) (q : P (upd H a (.dK (kd ks fun y => if y = z then v else f y)))) : rSetD (.ref a) (.str z) v H P :=
  ⟨a, _, rfl, .inl ⟨_, Sum.inr z, h, rfl, by rw [kd_len]; exact sz5' hz, by rw [kd_put m]⟩, q⟩
theorem dnewK {P : Hp → Prop} (h : H a = some (.dK (kd ks f))) (m : z ∉ ks) (hz : ks.length ≤ 100000) (q : P (upd H a (.dK (kd (ks ++ [z]) fun y => if y = z then v else f y)))) : rSetD (.ref a) (.str z) v H P :=
  ⟨a, _, rfl, .inl ⟨_, Sum.inr z, h, rfl, by rw [kd_len]; exact sz5' hz, by rw [kd_new m]⟩, q⟩
def rDictD : List V → Hp → VK → Prop := fun xs H Q => ∃ (a : Addr) (kvs : List (Key × V)), xs = [.ref a] ∧ L2.Rd H a (.dK kvs) ∧ ∀ p, H p = none → Q (.ref p) (upd H p (.dK kvs))
theorem q_dictD {X : Cx} : CallR X (.type "dict") rDictD := call_dictD
theorem dictD {kvs : List (Key × V)} (h : H a = some (.dK kvs)) (q : ∀ p, H p = none → Q (.ref p) (upd H p (.dK kvs))) : rDictD [.ref a] H Q := ⟨a, kvs, rfl, .inl h, q⟩
theorem listDkd (h : H a = some (.dK (kd ks f))) (q : ∀ p, H p = none → Q (.ref p) (upd H p (.lst (ks.map V.str)))) : rListDk [.ref a] H Q := listDk h kd_keys q
end
theorem cr_anyK {X : Cx} {K : PySem.W.Frag} (h : X.K = K) (hc : X.calm = true) : CallR X (.builtin "any") (rAny K) := h ▸ cr_any hc
theorem q_maxLK {X : Cx} {K : PySem.W.Frag} (h : X.K = K) (hc : X.calm = true) : CallR X (.builtin "max") (rMax K) := h ▸ cr_max hc
theorem bb_any : bootBuiltins "any" = some (.builtin "any") := by decide +kernel
theorem un1 {k : Nat} {A : Around} (r : Room k A) : A.units + 1 < cLine := by
  have := r.units
  omega
/-! ### d.update(d2) -/
def rUpdD : V → List V → Hp → VK → Prop := fun x vs H Q => ∃ (a b : Addr) (kvs ks : List (Key × V)), x = .ref a ∧ vs = [.ref b] ∧ a ≠ b ∧ H a = some (.dK kvs) ∧ H b = some (.dK ks) ∧ kvs.length + ks.length ≤ 100000 ∧ Q .non (upd H a (.dK (mergeK kvs ks)))
theorem mt_dict_update {X : Cx} : MtR X "dict.update" rUpdD := by
  intro pins s σ H x vs v us Q I rx rv h
  obtain ⟨a, b, kvs, ks, rfl, rfl, ne, ha, hb, hl, q⟩ := h
  obtain rfl : v = Value.ref a := rx
  obtain ⟨u, rfl, ru⟩ := vals1 rv
  obtain rfl : u = Value.ref b := ru
  obtain ⟨z, hd, ws, rel, dd⟩ := dk_of I.hok ha
  obtain ⟨z2, hd2, ws2, rel2, dd2⟩ := dk_of I.hok hb
  have hz : ws.length + ws2.length ≤ sizeLine := by
    rw [← rel.length, ← rel2.length]
    exact sz5 hl
  refine call_meetsIn PySem.F.slot_dict_update dd.typeIs PySem.F.entry_dict_update (PySem.F.args_dict_update_2 _ _) (meets_dict_update _ a b ne hd2) ⟨ws, ws2, dd, dd2, hz, fun h' dd' _ hs => ?_⟩
  have he : ∃ q, h'.get? a = some q := let ⟨q, _, _, hq, _⟩ := dd'; ⟨q, hq⟩
  exact ⟨.non, _, d_write (t' := s.toks) I (by rw [ha]; exact True.intro) hs he (dk_new (Nat.le_trans (length_mergeK ks kvs) (sz5 hl)) hd (KV.merge rel2 rel) dd'), rfl, q⟩
section
variable {K : PySem.W.Frag} {H : Hp} {Q : VK} {a b : Addr} {ks ls : List Str} {f : Str → V}
theorem updD (ha : H a = some (.dK (kd ks f))) (hb : H b = some (.dK (kd ls f))) (ne : a ≠ b) (n : ls.Nodup) (d : ∀ z ∈ ls, z ∉ ks) (l : ks.length + ls.length ≤ 100000) (q : Q .non (upd H a (.dK (kd (ks ++ ls) f)))) : rUpdD (.ref a) [.ref b] H Q :=
  ⟨a, b, _, _, rfl, rfl, ne, ha, hb, by rw [kd_len, kd_len]; exact l, by rw [merge_kd n d]; exact q⟩
theorem lockE {t : TE} {σ : L2.St} {d : Addr} {kvs : List (Key × V)} (h : H d = some (.dK kvs)) (g : ∀ od, t σ (upd H d (.frz od (.dK kvs))) fun v H' => H' d = some (.frz od (.dK kvs)) ∧ Q v (upd H' d (.dK kvs))) : tLockE t σ H Q := ⟨d, _, h, True.intro, g⟩
end
/-- a comprehension over the values of a locked dict -/
theorem lcV {g : TG} {tt : TT} {te : TE} {vs : List Nat} {σ : L2.St} {H : Hp} {Q : VK} {d : Addr} {o : Obj} (kvs : List (Key × V)) (f : ∀ L, H L = none → ∃ Pv : Nat → Hp → Prop, Pv 0 (upd H L (.lst [])) ∧ (∀ i h, i ≤ kvs.length → Pv i h → h d = some (.frz o (.dK kvs))) ∧
    (∀ i k x h, kvs[i]? = some (k, x) → Pv i h → Turn1 g tt te vs σ L x h (Pv (i + 1))) ∧ ∀ h, Pv kvs.length h → Q (.ref L) h) : LcB (Itd d o kvs) g tt te vs σ H Q := fun L hL => by
  obtain ⟨Pv, h0, hl, hs, hd⟩ := f L hL
  refine ⟨fun i m h => m = kvs.length - i ∧ i ≤ kvs.length ∧ Pv i h, ⟨kvs.length, by simp, Nat.zero_le _, h0⟩, ?_⟩
  rintro i m h ⟨rfl, hi, p⟩
  have q := hl i h hi p
  by_cases hlt : i < kvs.length
  · refine .inr ⟨⟨q, hlt⟩, Pv (i + 1), fun H' p' => ⟨kvs.length - (i + 1), by omega, rfl, hlt, p'⟩, fun x H' y => ?_⟩
    obtain ⟨e, k, y⟩ := y
    subst e
    exact hs i k x _ y p
  · have : i = kvs.length := by omega
    subst this
    exact .inl ⟨⟨q, Nat.le_refl _⟩, hd h p⟩
theorem valsX {td : TE} {σ : L2.St} {H : Hp} {R : It → Hp → Prop} (h : td σ H fun x H1 => ∃ d o kvs, x = .ref d ∧ H1 d = some (.frz o (.dK kvs)) ∧ R (Itd d o kvs) H1) : iVals td σ H R := h
end Rd
/-! sorted of tuples of texts, any number of them, of any lengths from 1 on -/
namespace Rd
open PySem PySem.Spec PyProof.Rows L2 SrtO
/-- one tuple of texts before another -/
def lexS : List Str → List Str → Bool
  | [], [] => false
  | [], _ :: _ => true
  | _ :: _, [] => false
  | x :: xs, y :: ys => if x = y then lexS xs ys else decide (x.cps.toList < y.cps.toList)
theorem lexS_iff : ∀ {xs ys : List Str}, lexS xs ys = true ↔ xs.map cl < ys.map cl
  | [], [] => ⟨fun h => (nomatch h), fun h => absurd h (List.lt_irrefl _)⟩
  | [], _ :: _ => ⟨fun _ => List.nil_lt_cons _ _, fun _ => rfl⟩
  | _ :: _, [] => ⟨fun h => (nomatch h), fun h => absurd h (List.not_lt_nil _)⟩
  | x :: xs, y :: ys => by
    rw [List.map_cons, List.map_cons, List.cons_lt_cons_iff]
    unfold lexS
    by_cases e : x = y
    · subst e
      rw [if_pos rfl, lexS_iff]
      exact ⟨fun h => .inr ⟨rfl, h⟩, fun h => h.elim (fun h => absurd h (List.lt_irrefl _)) (·.2)⟩
    · rw [if_neg e, decide_eq_true_iff]
      exact ⟨.inl, fun h => h.elim id fun h => absurd (cl_inj h.1) e⟩
theorem lexS_no {xs ys : List Str} : lexS xs ys = false ↔ ¬ xs.map cl < ys.map cl := by
  rw [← lexS_iff]
  cases lexS xs ys <;> simp
theorem lexS_trans {xs ys zs : List Str} (h : lexS xs ys = false) (k : lexS ys zs = false) : lexS xs zs = false :=
  lexS_no.mpr (List.not_lt.mpr (List.le_trans (List.not_lt.mp (lexS_no.mp k)) (List.not_lt.mp (lexS_no.mp h))))
theorem map_cl_inj : ∀ {xs ys : List Str}, xs.map cl = ys.map cl → xs = ys
  | [], [], _ => rfl
  | [], _ :: _, h => nomatch h
  | _ :: _, [], h => nomatch h
  | x :: xs, y :: ys, h => by
    obtain ⟨a, b⟩ := List.cons.inj h
    rw [cl_inj a, map_cl_inj b]
theorem lexS_antisymm {xs ys : List Str} (h : lexS xs ys = false) (k : lexS ys xs = false) : xs = ys :=
  map_cl_inj (List.le_antisymm (List.not_lt.mp (lexS_no.mp k)) (List.not_lt.mp (lexS_no.mp h)))
theorem swo_lexS {α : Type} (k : α → List Str) : Swo fun v u => lexS (k v) (k u) :=
  ⟨fun x y h => lexS_no.mpr fun h' => List.lt_irrefl _ (List.lt_trans (lexS_iff.mp h) h'), fun x y z h1 h2 => lexS_trans h2 h1⟩
section
variable {prog : Program} {w : World} {A : Around} {E : Value → Shared → Prop} {s : Shared}
def IsTupS (h : Heap) (v : Value) (xs : List Str) : Prop := ∃ a o us n, v = .ref a ∧ h.get? a = some o ∧ o.cls = .type "tuple" ∧ o.data = .seq (List.toArray us) n ∧ Vals (xs.map V.str) us
theorem IsTupS.keeps {h h' : Heap} {v : Value} {xs : List Str} (p : IsTupS h v xs) (k : ∀ b o, h.get? b = some o → o.cls = .type "tuple" → h'.get? b = some o) : IsTupS h' v xs := by
  obtain ⟨a, o, us, n, e, ho, hc, hd, r⟩ := p
  exact ⟨a, o, us, n, e, k _ _ ho hc, hc, hd, r⟩
theorem lex_strs {b fin : Bool} {Q : Bool → Shared → Prop} : ∀ {xs ys : List Str} {us vs : List Value} (i : Nat), Vals (xs.map V.str) us → Vals (ys.map V.str) vs → fin = decide (us.length < vs.length) → Q (lexS xs ys) s → PySem.W.KatLex prog w A b fin Q (us.zip vs) i s
  | [], [], _, _, i, .nil, .nil, hf, h => by
    subst hf
    exact PySem.W.kat_nil h
  | [], _ :: _, _, _, i, .nil, .cons _ _, hf, h => by
    subst hf
    exact PySem.W.kat_nil (by rw [decide_eq_true (by simp)]; exact h)
  | _ :: _, [], _, _, i, .cons _ _, .nil, hf, h => by
    subst hf
    exact PySem.W.kat_nil (by rw [decide_eq_false (by simp)]; exact h)
  | x :: xs, y :: ys, _, _, i, .cons r1 t1, .cons r2 t2, hf, h => by
    obtain ⟨t, rfl⟩ := r1
    obtain ⟨u, rfl⟩ := r2
    refine PySem.W.kat_cons (SeqAt.EqAt.str_str x t y u prog w _ _ ?_)
    unfold lexS at h
    refine PySem.W.kat_go (fun e1 => ?_) (fun e1 => ?_)
    · have ex : x = y := by simpa using e1
      rw [if_pos ex] at h
      exact PySem.W.kat_yes (lex_strs (i + 1) t1 t2 (by rw [hf]; simp) h)
    · have ex : ¬ x = y := by simpa using e1
      rw [if_neg ex] at h
      exact PySem.W.kat_no (PyProof.Rows.oneLt_any_str h)
theorem tup_cmpS {vs : List Value} {k : Value → List Str} (hp : ∀ v ∈ vs, IsTupS s.heap v (k v)) : Cmp prog w A s (tuples' true) (fun p => p.1 ∈ vs) (lt2 fun v u => lexS (k v) (k u)) := by
  intro p q hm hm'
  have h1 := hp _ hm
  have h2 := hp _ hm'
  show wpAny (model prog w) A (keyLt' (tuples' true) p.1 q.1) (fun r s' => s' = s ∧ r = lexS (k p.1) (k q.1)) (fun _ _ => False) s
  obtain ⟨a, o, us, n, e, ho, hc, hd, r⟩ := h1
  obtain ⟨a', o', us', n', e', ho', hc', hd', r'⟩ := h2
  generalize k p.1 = xs at r ⊢
  generalize k q.1 = ys at r' ⊢
  rw [e, e']
  refine PySem.W.kat_lt ho hd ho' hd' ?_
  exact lex_strs 0 r r' (by simp) ⟨rfl, rfl⟩
theorem firsts_ofS {h : Heap} : ∀ {vs : List Value}, (∀ v ∈ vs, ∃ xs, xs ≠ [] ∧ IsTupS h v xs) → ∃ fs : List Value, PySem.W.KatTups h vs fs ∧ fs.length = vs.length ∧ ∀ f ∈ fs, ∃ x t, f = Value.str x t
  | [], _ => ⟨[], PySem.W.KatTups.nil, rfl, fun _ hm => by simp at hm⟩
  | v :: vs, hp => by
    obtain ⟨fs, h1, h2, h3⟩ := firsts_ofS (vs := vs) fun v' hm => hp v' (List.mem_cons_of_mem _ hm)
    obtain ⟨xs, hne, a, o, us, n, e, ho, hc, hd, r⟩ := hp v (List.mem_cons_self ..)
    subst e
    match xs, us, r with
    | [], _, _ => exact absurd rfl hne
    | x :: xs, _, .cons r1 t1 =>
      obtain ⟨t, rfl⟩ := r1
      refine ⟨.str x t :: fs, PySem.W.KatTups.cons ho hc hd rfl h1, by rw [List.length_cons, List.length_cons, h2], fun f hm => ?_⟩
      rcases List.mem_cons.mp hm with rfl | hm
      · exact ⟨x, t, rfl⟩
      · exact h3 f hm
theorem tups_sortable {a : Addr} {vs : List Value} {k : Value → List Str} (h0 : 0 < vs.length) (hp : ∀ v ∈ vs, k v ≠ [] ∧ IsTupS s.heap v (k v)) (ha : ∀ o, s.heap.get? a = some o → o.cls ≠ .type "tuple") : SortableO prog w A s a vs fun v u => lexS (k v) (k u) := by
  intro h' keep
  have hp' : ∀ v ∈ vs, IsTupS h' v (k v) := fun v hm => (hp v hm).2.keeps fun b o e c => keep b o (fun z => by subst z; exact ha o e c) e
  obtain ⟨fs, h1, h2, h3⟩ := firsts_ofS fun v hm => ⟨_, (hp v hm).1, hp' v hm⟩
  refine ⟨tuples' true, fun Q E hq => ?_, tup_cmpS hp'⟩
  refine PySem.W.kat_kind (T := .type "str") h1 (by omega) (fun f hm => ?_) (by rfl) ?_
  · obtain ⟨x, t, rfl⟩ := h3 f hm
    exact PySem.W.Looks.now
  · have e : (Value.type "str" != Value.type "tuple") = true := by first | decide +kernel | rfl | decide
    rw [e]
    exact hq
theorem sorted_tups {l : Addr} {vs : List Value} {k : Value → List Str} {Q : Value → Shared → Prop} (hl : s.heap.IsList l vs.toArray) (hz : vs.length ≤ sizeLine) (hp : ∀ v ∈ vs, k v ≠ [] ∧ IsTupS s.heap v (k v))
    (h : ∀ (h' : Heap) (d : Addr) (out : List Value), Srtd (fun v u => lexS (k v) (k u)) out → Stb (fun v u => lexS (k v) (k u)) out vs → (∀ b o, s.heap.get? b = some o → h'.get? b = some o) → s.heap.objs.size ≤ d → (∃ n, h'.get? d = some (seqObj "list" out.toArray n)) → Q (.ref d) { s with heap := h' }) :
    wpAny (model prog w) A (PySem.call (.builtin "sorted") [.ref l]) Q E s := by
  refine sorted_ord (swo_lexS k) hl hz (fun h2 h₁ a ha kk => ?_) fun out hs hb => ?_
  · refine tups_sortable (s := { s with heap := h₁ }) (by omega) (fun v hm => ⟨(hp v hm).1, (hp v hm).2.keeps fun b o e _ => (kk b o e).2⟩) fun o e => ?_
    have e' : some o = some (seqObj "list" vs.toArray 0) := e.symm.trans ha
    cases e'
    intro c
    exact absurd (Value.type.inj c) (by decide)
  · exact h _ _ out hs hb (fun b o e => sortedAll_old e) (Nat.le_succ _) (sortedAll_at s.heap vs out.toArray)
end
/-- sorted(xs), xs a list of tuples of texts (k says which) -/
def rSortedTS (K : PySem.W.Frag) : List V → Hp → VK → Prop := fun vs H Q => ∃ (a : Addr) (xs : List V) (k : V → List Str), vs = [V.ref a] ∧ SqL K H a xs ∧ (∀ x ∈ xs, ∃ t, x = V.ref t ∧ k x ≠ [] ∧ H t = some (.tup ((k x).map V.str))) ∧
  ∀ ys p, ys.Pairwise (fun x y => lexS (k y) (k x) = false) → ys.Perm xs → H p = none → Q (.ref p) (upd H p (.lst ys))
section
variable {X : Cx}
theorem cr_sortedTS : CallR X (.builtin "sorted") (rSortedTS X.K) := by
  intro pins s σ H vs us Q I r h
  obtain ⟨a, xs, k, rfl, hs, hx, q⟩ := h
  obtain ⟨its, rv, hl, hz⟩ := I.list hs
  obtain ⟨u, rfl, ru⟩ := vals1 r
  obtain rfl : u = Value.ref a := ru
  obtain ⟨e1, e2⟩ := refs_back rv fun x m => by
    obtain ⟨t, e, _⟩ := hx x m
    exact ⟨t, e⟩
  refine sorted_tups (k := fun u => k (backV u)) hl.isList (by rw [← rv.length]; exact hz) (fun v hv => ?_) fun h' d out h1 h2 kp hd hn => ?_
  · obtain ⟨t, rfl⟩ := e2 v hv
    have hm : V.ref t ∈ xs := by rw [e1]; exact List.mem_map.mpr ⟨_, hv, rfl⟩
    obtain ⟨t', e, ne, ht⟩ := hx _ hm
    cases e
    obtain ⟨_, its2, r2, o, ho, hc, n, hd⟩ := I.hok _ _ ht
    exact ⟨ne, t, o, its2, n, rfl, ho, hc, hd, r2⟩
  · have h3 : ∀ u ∈ out, ∃ a, u = Value.ref a := fun u hu => e2 u (h2.perm.mem_iff.mp hu)
    obtain ⟨n, hn⟩ := hn
    have hb : (out.map backV).Perm xs := by
      rw [e1]
      exact h2.perm.map backV
    refine ⟨.ref d, upd H d (.lst (out.map backV)), I.laid (t' := s.toks) kp hd ⟨?_, out, n, vals_back h3, hn⟩, rfl, q _ d (srtd_map h1) hb (I.hok.fresh hd)⟩
    rw [hb.length_eq]
    exact hz
end
end Rd
/-! a text in a list of any data -/
namespace PySem.SeqAt
open AutoSeq1 (wpAny_loadPart')
open MeetsSeq
theorem dict_eq_declines_str (l : Addr) (es : Array DictEntry) (n : Nat) (dd : Option Addr) (sl : Array (Option Value)) (b : Str) (u : Tok) :
    Meets (Builtin.«dict.__eq__» ⟨[.ref l, .str b u], []⟩) (fun _ R s => s.heap.get? l = some { cls := .type "dict", dict := dd, data := .dict es n, slots := sl } ∧ R (.ok (.ret .notImplemented)) s) :=
  .of_wp fun prog w A R s h => by obtain ⟨hp, g, d, tk, os⟩ := s; obtain ⟨hl, h⟩ := h; have f1 := F.sub_str_dict; wp_walk using wpAny_loadPart' hl; exact ⟨_, rfl, h⟩
theorem str_eq_declines_dict (b : Str) (u : Tok) (l : Addr) (c : Value) (es : Array DictEntry) (n : Nat) (dd : Option Addr) (sl : Array (Option Value)) :
    Meets (Builtin.«str.__eq__» ⟨[.str b u, .ref l], []⟩) (fun _ R s => s.heap.get? l = some { cls := c, dict := dd, data := .dict es n, slots := sl } ∧ R (.ok (.ret .notImplemented)) s) :=
  .of_wp fun prog w A R s h => by obtain ⟨hp, g, d, tk, os⟩ := s; obtain ⟨hl, h⟩ := h; wp_walk using wpAny_loadPart' hl, wpAny_load hl; exact ⟨_, rfl, h⟩
section
variable {A : Around} {s : Shared}
theorem RcAt.dict_str {l : Addr} {ob : Obj} {es : Array DictEntry} {n : Nat} (b : Str) (u : Tok) (hl : s.heap.get? l = some ob) (hc : ob.cls = .type "dict") (hd : ob.data = .dict es n) (hu : A.units < cLine) : RcAt A s (.ref l) (.str b u) false := fun prog w E Q h => by
  obtain ⟨cls, dd, data, sl⟩ := ob
  simp only at hc hd
  subst hc hd
  exact rc_eq_decline_or (k := false) ⟨_, hl, rfl⟩ (typeIs_str s b u) (by decide) F.sub_str_dict F.slot_dict_eq F.slot_str_eq_refl
    (fun _ hq => call_meets F.slot_dict_eq ⟨_, hl, rfl⟩ F.entry_dict_eq (F.args_dict_eq_2 _ _) (dict_eq_declines_str l es n dd sl b u) ⟨hl, hq⟩)
    (fun _ hq => call_meets F.slot_str_eq_refl (typeIs_str s b u) F.entry_str_eq (F.args_str_eq_2 _ _) (str_eq_declines_dict b u l (.type "dict") es n dd sl) ⟨hl, hq⟩)
    (fun _ hq => wpAny_of_eq (rfl : isSame (.ref l) (.str b u) = pure false) hq) (.inr hu) h
theorem EqAt.dict_str {l : Addr} {ob : Obj} {es : Array DictEntry} {n : Nat} (b : Str) (u : Tok) (hl : s.heap.get? l = some ob) (hc : ob.cls = .type "dict") (hd : ob.data = .dict es n) (hu : A.units < cLine) : EqAt A s (.ref l) (.str b u) false := fun prog w E Q h => by
  unfold eqBool
  refine wpAny_holding ?_
  refine wpAny_ite_split (fun hab => absurd (eq_of_beq hab) nofun) (fun _ => ?_)
  exact wpAny_bind (RcAt.dict_str b u hl hc hd hu prog w E _ (wpAny_truthy_bool h))
end
end PySem.SeqAt
namespace Rd
open PySem PySem.Spec PyProof.Rows L2
section
variable {X : Cx} {pins : List (Addr × Obj)} {σ : L2.St} {H : Hp} {s : Shared}
/-- == of any data and a text -/
theorem dv_eqAt {A : Around} {z : Str} {t : Tok} (hu : A.units < cLine) (I : Inv X pins σ H s) {x : V} {d : PyData} {u : Value} (h : Dv X.K H x d) (r : RelV x u) : SeqAt.EqAt A s u (.str z t) (eqU (.str z) u) := by
  cases h with
  | non =>
    cases r
    exact SeqAt.EqAt.none_str z t
  | bl b =>
    cases r
    exact SeqAt.EqAt.bool_str b z t
  | int i =>
    obtain ⟨t', rfl⟩ := r
    exact SeqAt.EqAt.int_str i t' z t
  | str y =>
    obtain ⟨t', rfl⟩ := r
    exact SeqAt.EqAt.str_str y t' z t
  | lst h _ =>
    cases r
    obtain ⟨its, _, pl, _⟩ := I.list h
    exact SeqAt.EqAt.list_str z t pl.isList hu
  | tup h _ =>
    cases r
    obtain ⟨its, _, pl, _⟩ := I.tuple h
    exact SeqAt.EqAt.tuple_str z t pl hu
  | dc0 h =>
    cases r
    obtain ⟨_, _, ws, _, o, es, ep, ho, hc, hd, _⟩ := dk_of I.hok h
    exact SeqAt.EqAt.dict_str z t ho hc.1 hd hu
  | dc1 h _ =>
    cases r
    obtain ⟨_, _, ws, _, o, es, ep, ho, hc, hd, _⟩ := dk_of I.hok h
    exact SeqAt.EqAt.dict_str z t ho hc.1 hd hu
theorem eqU_str {z : Str} {x : V} {d : PyData} {u : Value} {K : PySem.W.Frag} (h : Dv K H x d) (r : RelV x u) : eqU (.str z) u = eqV x (.str z) := by
  cases h with
  | non => cases r; rfl
  | bl b => cases r; rfl
  | int i =>
    obtain ⟨t', rfl⟩ := r
    rfl
  | str y =>
    obtain ⟨t', rfl⟩ := r
    rfl
  | _ => cases r; rfl
theorem any_eqS {z : Str} {K : PySem.W.Frag} : ∀ {xs : List V} {us : List Value}, Vals xs us → (∀ v ∈ xs, ∃ d, Dv K H v d) → us.any (eqU (.str z)) = inV (.str z) xs
  | _, _, .nil, _ => rfl
  | y :: xs, u :: us, .cons r t, f => by
    obtain ⟨d, dv⟩ := f y List.mem_cons_self
    unfold inV
    rw [List.any_cons, List.any_cons, eqU_str dv r, any_eqS t fun v hv => f v (List.mem_cons_of_mem _ hv)]
    rfl
theorem mem_eqS {A : Around} {z : Str} {t' : Tok} (hu : A.units < cLine) (I : Inv X pins σ H s) : ∀ {xs : List V} {us : List Value}, Vals xs us → (∀ v ∈ xs, ∃ d, Dv X.K H v d) → ∀ u ∈ us, SeqAt.EqAt A s u (.str z t') (eqU (.str z) u)
  | _, _, .nil, _ => fun u hu => by cases hu
  | y :: xs, u :: us, .cons r t, f => fun u' hm => by
    rcases List.mem_cons.mp hm with rfl | hm
    · obtain ⟨d, dv⟩ := f y List.mem_cons_self
      exact dv_eqAt hu I dv r
    · exact mem_eqS hu I t (fun v hv => f v (List.mem_cons_of_mem _ hv)) u' hm
end
/-- a text in a list of any data -/
def rInZX (K : PySem.W.Frag) (neg : Bool) : R2 := fun x y H Q => ∃ (z : Str) (p : Addr) (xs : List V), x = .str z ∧ y = .ref p ∧ SqL K H p xs ∧ (∀ v ∈ xs, ∃ d, Dv K H v d) ∧ Q (.bl (if neg then !inV (.str z) xs else inV (.str z) xs)) H
section
variable {X : Cx} {K : PySem.W.Frag}
theorem op_inZX {k : Nat} (hr : Room k X.A) (hK : X.K = K) : OpR X (compareOp .In) (rInZX K false) := by
  subst hK
  intro pins s σ H x y v u Q I rx ry h
  obtain ⟨z, p, xs, rfl, rfl, hq, f, q⟩ := h
  cases ry
  obtain ⟨t, rfl⟩ := rx
  obtain ⟨its, r, pl, hz⟩ := I.list hq
  have hu := hr.units
  refine SeqAt.in_listAt (eqU (.str z)) pl.isList (fun w hw => mem_eqS (by show X.A.units + 1 < cLine; omega) I r f w (by simpa using hw)) ⟨.bl _, H, I, rfl, ?_⟩
  rw [show its.toArray.any (eqU (.str z)) = its.any (eqU (.str z)) by simp, any_eqS r f]
  exact q
theorem op_niZX {k : Nat} (hr : Room k X.A) (hK : X.K = K) : OpR X (compareOp .NotIn) (rInZX K true) := by
  subst hK
  intro pins s σ H x y v u Q I rx ry h
  obtain ⟨z, p, xs, rfl, rfl, hq, f, q⟩ := h
  cases ry
  obtain ⟨t, rfl⟩ := rx
  obtain ⟨its, r, pl, hz⟩ := I.list hq
  have hu := hr.units
  refine SeqAt.notIn_listAt (eqU (.str z)) pl.isList (fun w hw => mem_eqS (by show X.A.units + 1 < cLine; omega) I r f w (by simpa using hw)) ⟨.bl _, H, I, rfl, ?_⟩
  rw [show its.toArray.any (eqU (.str z)) = its.any (eqU (.str z)) by simp, any_eqS r f]
  exact q
end
end Rd
/-! drawn names: what is needed of their signs -/
namespace Rd
open PySem PySem.Spec PyProof.Rows L2
theorem mul_one_cl (c : Nat) (n : Int) : cl (Txt.mul ⟨#[c]⟩ n) = List.replicate n.toNat c := by
  unfold Txt.mul
  by_cases h : n < 1
  · rw [if_pos h, show n.toNat = 0 by omega]
    rfl
  · rw [if_neg h]
    by_cases h1 : n = 1
    · subst h1
      rfl
    · rw [if_neg (by simp [h1]; show ¬ (1 : Nat) = 0; decide)]
      have e : ∀ (k : Nat) (a : Array Nat), ((List.replicate k (#[c] : Array Nat)).foldl (· ++ ·) a).toList = a.toList ++ List.replicate k c := by
        intro k
        induction k with
        | zero => intro a; simp
        | succ k ih =>
          intro a
          rw [List.replicate_succ, List.foldl_cons, ih, Array.toList_append, List.append_assoc, List.replicate_succ]
          rfl
      exact (e n.toNat #[]).trans (by simp)
theorem mul_one_len (c : Nat) (n : Int) : (Txt.mul ⟨#[c]⟩ n).length = n.toNat := by
  rw [← cl_len, mul_one_cl, List.length_replicate]
/-- a name of at most 12 signs -/
def NmS (z : Str) : Prop := Nm (cl z) ∧ z.length ≤ 12
theorem Nm.app {l r : List Nat} (h : Nm l) (k : ∀ x ∈ r, Aln x) : Nm (l ++ r) := by
  obtain ⟨c, s, rfl, hc, hs⟩ := h
  refine ⟨c, s ++ r, rfl, hc, fun x hx => ?_⟩
  rcases List.mem_append.mp hx with hx | hx
  · exact hs x hx
  · exact k x hx
theorem Nm.one {c : Nat} (h : Low c) : Nm (cl ⟨#[c]⟩) := ⟨c, [], rfl, h, fun _ h => nomatch h⟩
theorem nodup_rel {α : Type} {R : Nat → α → Prop} : ∀ {zs : List α} {n : Nat}, zs.length ≤ n → (∀ i z, zs[i]? = some z → R i z) → (∀ i j z, i < n → j < n → R i z → R j z → i = j) → zs.Nodup := by
  intro zs n hl hr inj
  refine List.pairwise_iff_getElem.mpr fun i j hi hj hij e => ?_
  have e1 := List.getElem?_eq_getElem hi
  have e2 := List.getElem?_eq_getElem hj
  rw [← e] at e2
  have := inj i j _ (by omega) (by omega) (hr i _ e1) (hr j _ e2)
  omega
theorem a26_len : ("abcdefghijklmnopqrstuvwxyz" : Str).length = 26 := by decide +kernel
theorem a36_len : ("0123456789abcdefghijklmnopqrstuvwxyz" : Str).length = 36 := by decide +kernel
theorem a26_nd : (cl ("abcdefghijklmnopqrstuvwxyz" : Str)).Nodup := by decide +kernel
theorem a36_nd : (cl ("0123456789abcdefghijklmnopqrstuvwxyz" : Str)).Nodup := by decide +kernel
theorem a36_cat : ("0123456789" : Str) ++ ("abcdefghijklmnopqrstuvwxyz" : Str) = "0123456789abcdefghijklmnopqrstuvwxyz" := by decide +kernel
theorem at_one {l : List Nat} (n : l.Nodup) {i j x : Nat} (h : l[i]? = some x) (k : l[j]? = some x) : i = j := by
  obtain ⟨hi, ei⟩ := List.getElem?_eq_some_iff.mp h
  obtain ⟨hj, ej⟩ := List.getElem?_eq_some_iff.mp k
  exact (List.getElem_inj n).mp (ei.trans ej.symm)
/-- steps that share no factor with 1296 -/
theorem step_one {s t i j : Int} (h : t = 1 ∨ t = 5 ∨ t = 7 ∨ t = 37 ∨ t = 1295) (i0 : 0 ≤ i) (i1 : i < 1296) (j0 : 0 ≤ j) (j1 : j < 1296) (e : (s + i * t) % 1296 = (s + j * t) % 1296) : i = j := by
  rcases h with rfl | rfl | rfl | rfl | rfl <;> omega
end Rd
/-! tours: keys of houses and of arcs -/
namespace Ty
open PySem Rd
inductive Ky
  | h (x : Str)
  | a (l x y : Str)
deriving DecidableEq
def Ky.start : Ky → Str
  | .h x => x
  | .a _ x _ => x
def Ky.stop : Ky → Str
  | .h x => x
  | .a _ _ y => y
def Ky.words : Ky → List Str
  | .h x => [x]
  | .a l x y => [l, x, y]
def hsOf (ks : List Ky) : List Str := ks.filterMap fun k => match k with | .h x => some x | _ => none
def asOf (ks : List Ky) : List (Str × Str × Str) := ks.filterMap fun k => match k with | .a l x y => some (l, x, y) | _ => none
theorem hs_mem {ks : List Ky} {x : Str} : x ∈ hsOf ks ↔ .h x ∈ ks := by
  unfold hsOf
  rw [List.mem_filterMap]
  constructor
  · rintro ⟨k, hk, e⟩
    cases k with
    | h y =>
      cases e
      exact hk
    | a l u v => cases e
  · exact fun h => ⟨_, h, rfl⟩
theorem as_mem {ks : List Ky} {l x y : Str} : (l, x, y) ∈ asOf ks ↔ .a l x y ∈ ks := by
  unfold asOf
  rw [List.mem_filterMap]
  constructor
  · rintro ⟨k, hk, e⟩
    cases k with
    | h y => cases e
    | a l u v =>
      cases e
      exact hk
  · exact fun h => ⟨_, h, rfl⟩
theorem hs_app {xs ys : List Ky} : hsOf (xs ++ ys) = hsOf xs ++ hsOf ys := List.filterMap_append
theorem as_app {xs ys : List Ky} : asOf (xs ++ ys) = asOf xs ++ asOf ys := List.filterMap_append
theorem hs_as_len : ∀ ks : List Ky, (hsOf ks).length + (asOf ks).length = ks.length
  | [] => rfl
  | .h x :: ks => by
    have := hs_as_len ks
    show (hsOf ks).length + 1 + (asOf ks).length = ks.length + 1
    omega
  | .a l x y :: ks => by
    have := hs_as_len ks
    show (hsOf ks).length + ((asOf ks).length + 1) = ks.length + 1
    omega
/-- a walk from s to t -/
def Ch : Str → List Ky → Str → Prop
  | s, [], t => s = t
  | s, k :: ks, t => k.start = s ∧ Ch k.stop ks t
theorem ch_app : ∀ {xs ys : List Ky} {s t : Str}, Ch s (xs ++ ys) t ↔ ∃ m, Ch s xs m ∧ Ch m ys t
  | [], ys, s, t => ⟨fun h => ⟨s, rfl, h⟩, fun ⟨m, e, h⟩ => by cases e; exact h⟩
  | k :: xs, ys, s, t => by
    show (k.start = s ∧ Ch k.stop (xs ++ ys) t) ↔ _
    rw [ch_app]
    exact ⟨fun ⟨e, m, a, b⟩ => ⟨m, ⟨e, a⟩, b⟩, fun ⟨m, ⟨e, a⟩, b⟩ => ⟨e, m, a, b⟩⟩
structure T (ks : List Ky) : Prop where
  nm : ∀ k ∈ ks, ∀ n ∈ k.words, NmS n
  nd : ks.Nodup
  ne : ∀ l x y, .a l x y ∈ ks → x ≠ y
  rev : ∀ l x y, .a l x y ∈ ks → .a l y x ∈ ks
  one : ∀ l x y u v, .a l x y ∈ ks → .a l u v ∈ ks → (u = x ∧ v = y) ∨ (u = y ∧ v = x)
  hs : ∀ l x y, .a l x y ∈ ks → .h x ∈ ks
  cyc : ∃ s, Ch s ks s
  cnt : (hsOf ks).length * 2 = (asOf ks).length + 2
theorem T.single {x : Str} (h : NmS x) : T [.h x] :=
  ⟨fun k hk n hn => by
    rw [List.mem_singleton.mp hk] at hn
    rw [List.mem_singleton.mp hn]
    exact h, List.nodup_cons.mpr ⟨List.not_mem_nil, .nil⟩, fun l u v h => (nomatch List.mem_singleton.mp h), fun l u v h => (nomatch List.mem_singleton.mp h), fun l _ _ _ _ h => (nomatch List.mem_singleton.mp h),
    fun l u v h => (nomatch List.mem_singleton.mp h), ⟨x, rfl, rfl⟩, rfl⟩
theorem T.pos {ks : List Ky} (h : T ks) : 0 < ks.length := by
  have a := h.cnt
  have b := hs_as_len ks
  omega
theorem T.rot {xs ys : List Ky} (h : T (xs ++ ys)) : T (ys ++ xs) := by
  have m : ∀ k, k ∈ ys ++ xs ↔ k ∈ xs ++ ys := fun k => by
    rw [List.mem_append, List.mem_append]
    exact Or.comm
  refine ⟨fun k hk => h.nm k ((m k).mp hk), (List.perm_append_comm.nodup_iff).mp h.nd, fun l x y k => h.ne l x y ((m _).mp k), fun l x y k => (m _).mpr (h.rev l x y ((m _).mp k)), fun l x y u v a b => h.one l x y u v ((m _).mp a) ((m _).mp b),
    fun l x y k => (m _).mpr (h.hs l x y ((m _).mp k)), ?_, ?_⟩
  · obtain ⟨s, hs⟩ := h.cyc
    obtain ⟨t, a, b⟩ := ch_app.mp hs
    exact ⟨t, ch_app.mpr ⟨s, b, a⟩⟩
  · have := h.cnt
    rw [hs_app, as_app, List.length_append, List.length_append] at this ⊢
    omega
/-- two tours tied by a line -/
theorem T.link {a b l : Str} {xs ys : List Ky} (ha : T (.h a :: xs)) (hb : T (.h b :: ys)) (hl : NmS l) (n1 : ∀ x y, .a l x y ∉ .h a :: xs) (n2 : ∀ x y, .a l x y ∉ .h b :: ys)
    (dh : ∀ x, .h x ∈ .h a :: xs → .h x ∉ .h b :: ys) (dl : ∀ m x y u v, .a m x y ∈ .h a :: xs → .a m u v ∉ .h b :: ys) : T ((.h a :: xs) ++ [.a l a b] ++ (.h b :: ys) ++ [.a l b a]) := by
  have ab : a ≠ b := fun e => dh a List.mem_cons_self (e ▸ List.mem_cons_self)
  have ha' : Ch a (.h a :: xs) a := by
    obtain ⟨s, hs⟩ := ha.cyc
    obtain rfl : a = s := hs.1
    exact hs
  have hb' : Ch b (.h b :: ys) b := by
    obtain ⟨s, hs⟩ := hb.cyc
    obtain rfl : b = s := hs.1
    exact hs
  have an := ha.nm _ List.mem_cons_self a List.mem_cons_self
  have bn := hb.nm _ List.mem_cons_self b List.mem_cons_self
  have am : Ky.h a ∈ .h a :: xs := List.mem_cons_self
  have bm : Ky.h b ∈ .h b :: ys := List.mem_cons_self
  generalize hA : Ky.h a :: xs = A at *
  generalize hB : Ky.h b :: ys = B at *
  have mem : ∀ k, k ∈ A ++ [.a l a b] ++ B ++ [.a l b a] ↔ k ∈ A ∨ k = .a l a b ∨ k ∈ B ∨ k = .a l b a := fun k => by
    simp only [List.mem_append, List.mem_singleton, or_assoc]
  refine ⟨fun k hk => ?_, ?_, fun m x y k => ?_, fun m x y k => ?_, fun m x y u v h1 h2 => ?_, fun m x y k => ?_, ⟨a, ?_⟩, ?_⟩
  · rcases (mem k).mp hk with h | rfl | h | rfl
    · exact ha.nm k h
    · intro n hn
      rcases List.mem_cons.mp hn with rfl | hn
      · exact hl
      rcases List.mem_cons.mp hn with rfl | hn
      · exact an
      · rw [List.mem_singleton.mp hn]
        exact bn
    · exact hb.nm k h
    · intro n hn
      rcases List.mem_cons.mp hn with rfl | hn
      · exact hl
      rcases List.mem_cons.mp hn with rfl | hn
      · exact bn
      · rw [List.mem_singleton.mp hn]
        exact an
  · have d : ∀ k ∈ A, k ∉ B := fun k hk hk' => by
      cases k with
      | h x => exact dh x hk hk'
      | a m x y => exact dl m x y x y hk hk'
    rw [List.append_assoc, List.append_assoc]
    refine List.nodup_append.mpr ⟨ha.nd, List.nodup_append.mpr ⟨List.nodup_cons.mpr ⟨List.not_mem_nil, .nil⟩, List.nodup_append.mpr ⟨hb.nd, List.nodup_cons.mpr ⟨List.not_mem_nil, .nil⟩, fun x hx y hy e => ?_⟩, fun x hx y hy e => ?_⟩, fun x hx y hy e => ?_⟩
    · rw [List.mem_singleton.mp hy] at e
      exact n2 b a (e ▸ hx)
    · rw [List.mem_singleton.mp hx] at e
      rcases List.mem_append.mp hy with hy | hy
      · exact n2 a b (e ▸ hy)
      · rw [List.mem_singleton.mp hy] at e
        injection e with _ e _
        exact ab e
    · rcases List.mem_append.mp hy with hy | hy
      · rw [List.mem_singleton.mp hy] at e
        exact n1 a b (e ▸ hx)
      · rcases List.mem_append.mp hy with hy | hy
        · exact d x hx (e ▸ hy)
        · rw [List.mem_singleton.mp hy] at e
          exact n1 b a (e ▸ hx)
  · rcases (mem _).mp k with h | h | h | h
    · exact ha.ne m x y h
    · injection h with _ e1 e2
      rw [e1, e2]
      exact ab
    · exact hb.ne m x y h
    · injection h with _ e1 e2
      rw [e1, e2]
      exact ab.symm
  · rcases (mem _).mp k with h | h | h | h
    · exact (mem _).mpr (.inl (ha.rev m x y h))
    · injection h with e0 e1 e2
      subst e0 e1 e2
      exact (mem _).mpr (.inr (.inr (.inr rfl)))
    · exact (mem _).mpr (.inr (.inr (.inl (hb.rev m x y h))))
    · injection h with e0 e1 e2
      subst e0 e1 e2
      exact (mem _).mpr (.inr (.inl rfl))
  · rcases (mem _).mp h1 with k1 | k1 | k1 | k1 <;> rcases (mem _).mp h2 with k2 | k2 | k2 | k2
    · exact ha.one m x y u v k1 k2
    · injection k2 with e0 e1 e2
      subst e0
      exact absurd k1 (n1 _ _)
    · exact absurd k2 (dl _ _ _ _ _ k1)
    · injection k2 with e0 e1 e2
      subst e0
      exact absurd k1 (n1 _ _)
    · injection k1 with e0 e1 e2
      subst e0
      exact absurd k2 (n1 _ _)
    · injection k1 with e0 e1 e2
      injection k2 with f0 f1 f2
      exact .inl ⟨f1.trans e1.symm, f2.trans e2.symm⟩
    · injection k1 with e0 e1 e2
      subst e0
      exact absurd k2 (n2 _ _)
    · injection k1 with e0 e1 e2
      injection k2 with f0 f1 f2
      exact .inr ⟨f1.trans e2.symm, f2.trans e1.symm⟩
    · exact absurd k1 (dl _ _ _ _ _ k2)
    · injection k2 with e0 e1 e2
      subst e0
      exact absurd k1 (n2 _ _)
    · exact hb.one m x y u v k1 k2
    · injection k2 with e0 e1 e2
      subst e0
      exact absurd k1 (n2 _ _)
    · injection k1 with e0 e1 e2
      subst e0
      exact absurd k2 (n1 _ _)
    · injection k1 with e0 e1 e2
      injection k2 with f0 f1 f2
      exact .inr ⟨f1.trans e2.symm, f2.trans e1.symm⟩
    · injection k1 with e0 e1 e2
      subst e0
      exact absurd k2 (n2 _ _)
    · injection k1 with e0 e1 e2
      injection k2 with f0 f1 f2
      exact .inl ⟨f1.trans e1.symm, f2.trans e2.symm⟩
  · rcases (mem _).mp k with h | h | h | h
    · exact (mem _).mpr (.inl (ha.hs m x y h))
    · injection h with e0 e1 e2
      subst e1
      exact (mem _).mpr (.inl am)
    · exact (mem _).mpr (.inr (.inr (.inl (hb.hs m x y h))))
    · injection h with e0 e1 e2
      subst e1
      exact (mem _).mpr (.inr (.inr (.inl bm)))
  · exact ch_app.mpr ⟨b, ch_app.mpr ⟨b, ch_app.mpr ⟨a, ha', rfl, rfl⟩, hb'⟩, rfl, rfl⟩
  · have c1 := ha.cnt
    have c2 := hb.cnt
    simp only [hs_app, as_app, List.length_append]
    show ((hsOf A).length + 0 + (hsOf B).length + 0) * 2 = (asOf A).length + 1 + (asOf B).length + 1 + 2
    omega
/-- each key starts where the one before stops, the first one where the last one stops -/
theorem ch_at : ∀ {ks : List Ky} {s t : Str} {i : Nat} {k k' : Ky}, Ch s ks t → ks[i]? = some k → ks[i + 1]? = some k' → k.stop = k'.start
  | [], _, _, _, _, _, _, h, _ => by simp at h
  | x :: [], _, _, i, _, _, _, _, h => by simp at h
  | x :: y :: ks, s, t, 0, k, k', hc, h1, h2 => by
    cases h1
    cases h2
    exact hc.2.1.symm
  | x :: y :: ks, s, t, i + 1, k, k', hc, h1, h2 => ch_at (ks := y :: ks) (i := i) hc.2 (by simpa using h1) (by simpa using h2)
theorem ch_last : ∀ {ks : List Ky} {s t : Str} {k : Ky}, Ch s ks t → ks[ks.length - 1]? = some k → k.stop = t
  | [], _, _, _, _, h => by simp at h
  | x :: [], _, _, k, hc, h => by
    cases h
    exact hc.2
  | x :: y :: ks, s, t, k, hc, h => ch_last (ks := y :: ks) hc.2 (by simpa using h)
theorem ch_first {ks : List Ky} {s t : Str} {k : Ky} (hc : Ch s ks t) (h : ks[0]? = some k) : k.start = s := by
  cases ks with
  | nil => simp at h
  | cons x ks =>
    cases h
    exact hc.1
/-- the arcs of one line, in their order -/
def pairsOf (ks : List Ky) (l : Str) : List (Str × Str) := (asOf ks).filterMap fun p => if p.1 = l then some p.2 else none
theorem pairs_mem {ks : List Ky} {l x y : Str} : (x, y) ∈ pairsOf ks l ↔ .a l x y ∈ ks := by
  unfold pairsOf
  rw [List.mem_filterMap, ← as_mem]
  constructor
  · rintro ⟨⟨m, u, v⟩, h, e⟩
    by_cases z : m = l
    · subst z
      rw [if_pos rfl] at e
      cases e
      exact h
    · rw [if_neg z] at e
      cases e
  · exact fun h => ⟨_, h, if_pos rfl⟩
theorem as_nodup {ks : List Ky} (h : ks.Nodup) : (asOf ks).Nodup := by
  unfold asOf
  refine List.Pairwise.filterMap _ (fun k k' hne b hb b' hb' e => ?_) h
  subst e
  cases k with
  | h x => cases hb
  | a l x y =>
    cases k' with
    | h x => cases hb'
    | a l' x' y' =>
      cases hb
      cases hb'
      exact hne rfl
theorem hs_nodup {ks : List Ky} (h : ks.Nodup) : (hsOf ks).Nodup := by
  unfold hsOf
  refine List.Pairwise.filterMap _ (fun k k' hne b hb b' hb' e => ?_) h
  subst e
  cases k with
  | a l x y => cases hb
  | h x =>
    cases k' with
    | a l x y => cases hb'
    | h x' =>
      cases hb
      cases hb'
      exact hne rfl
theorem pairs_nodup {ks : List Ky} {l : Str} (h : ks.Nodup) : (pairsOf ks l).Nodup := by
  unfold pairsOf
  refine List.Pairwise.filterMap _ (fun k k' hne b hb b' hb' e => ?_) (as_nodup h)
  subst e
  by_cases z : k.1 = l
  · rw [if_pos z] at hb
    by_cases z' : k'.1 = l
    · rw [if_pos z'] at hb'
      exact hne (Prod.ext (z.trans z'.symm) ((Option.some.inj hb).trans (Option.some.inj hb').symm))
    · rw [if_neg z'] at hb'
      cases hb'
  · rw [if_neg z] at hb
    cases hb
/-- of a tour's line: two arcs, the one the reverse of the other -/
theorem T.pairs {ks : List Ky} (h : T ks) {l x y : Str} (m : .a l x y ∈ ks) : ∃ u v, pairsOf ks l = [(u, v), (v, u)] ∧ .a l u v ∈ ks := by
  have p : (pairsOf ks l).Perm [(x, y), (y, x)] := by
    refine (List.perm_ext_iff_of_nodup (pairs_nodup h.nd) ?_).mpr fun ⟨u, v⟩ => ?_
    · refine List.nodup_cons.mpr ⟨fun z => ?_, List.nodup_cons.mpr ⟨List.not_mem_nil, .nil⟩⟩
      exact h.ne l x y m (Prod.mk.inj (List.mem_singleton.mp z)).1
    · rw [pairs_mem]
      constructor
      · intro k
        rcases h.one l x y u v m k with ⟨rfl, rfl⟩ | ⟨rfl, rfl⟩
        · exact List.mem_cons_self
        · exact List.mem_cons_of_mem _ List.mem_cons_self
      · intro k
        rcases List.mem_cons.mp k with e | k
        · cases e
          exact m
        · cases List.mem_singleton.mp k
          exact h.rev l x y m
  have e : pairsOf ks l = [(x, y), (y, x)] ∨ pairsOf ks l = [(y, x), (x, y)] := by
    have l2 := p.length_eq
    match hq : pairsOf ks l, l2 with
    | [q1, q2], _ =>
      rw [hq] at p
      have h1 := p.mem_iff.mp (List.mem_cons_self (a := q1) (l := [q2]))
      have nd := p.nodup_iff.mpr (by
        refine List.nodup_cons.mpr ⟨fun z => ?_, List.nodup_cons.mpr ⟨List.not_mem_nil, .nil⟩⟩
        exact h.ne l x y m (Prod.mk.inj (List.mem_singleton.mp z)).1)
      have h2 := p.mem_iff.mp (List.mem_cons_of_mem q1 (List.mem_cons_self (a := q2) (l := [])))
      have d : q1 ≠ q2 := fun e => (List.nodup_cons.mp nd).1 (e ▸ List.mem_cons_self)
      simp only [List.mem_cons, List.not_mem_nil, or_false] at h1 h2
      rcases h1 with rfl | rfl <;> rcases h2 with rfl | rfl
      · exact absurd rfl d
      · exact .inl rfl
      · exact .inr rfl
      · exact absurd rfl d
  rcases e with e | e
  · exact ⟨x, y, e, m⟩
  · exact ⟨y, x, e, h.rev l x y m⟩
end Ty
/-! lists of keys on the heap -/
namespace Ty
open PySem PySem.Spec PyProof.Rows L2 Rd
section
variable {X : Cx} {K : PySem.W.Frag}
theorem inDK (hK : X.K = K) (hu : X.A.units + 65 < cLine) : OpR X (compareOp .In) (rInD K) := by
  subst hK
  exact op_inD hu
theorem niDK (hK : X.K = K) (hu : X.A.units + 65 < cLine) : OpR X (compareOp .NotIn) (rNotInD K) := by
  subst hK
  exact op_notInD hu
theorem idxDK (hK : X.K = K) (hu : X.A.units + 65 < cLine) : MtR X "list.index" (rIndexD K) := by
  subst hK
  exact mt_indexD hu
theorem un65 {k : Nat} {A : Around} (r : Room k A) : A.units + 65 < cLine := by
  have := r.un
  omega
end
/-- a key's items -/
def kv : Ky → List Str
  | .h x => ["house", x]
  | .a l x y => ["arc", l, x, y]
def kdat (k : Ky) : PyData := .tuple ((kv k).map PyData.str)
theorem house_arc : ("house" : Str) ≠ "arc" := by decide +kernel
theorem kv_inj : ∀ {k j : Ky}, kv k = kv j → k = j
  | .h x, .h y, e => by
    cases e
    rfl
  | .a l x y, .a m u v, e => by
    cases e
    rfl
  | .h x, .a _ _ _, e => absurd (List.cons.inj e).1 house_arc
  | .a _ _ _, .h x, e => absurd (List.cons.inj e).1.symm house_arc
theorem eqv_strs : ∀ xs ys : List Str, PyData.eqvAll (xs.map PyData.str) (ys.map PyData.str) = decide (xs = ys)
  | [], [] => by simp [PyData.eqvAll]
  | [], _ :: _ => by simp [PyData.eqvAll]
  | _ :: _, [] => by simp [PyData.eqvAll]
  | x :: xs, y :: ys => by
    rw [List.map_cons, List.map_cons, PyData.eqvAll, eqv_strs xs ys]
    by_cases e : x = y
    · subst e
      simp [PyData.eqv]
    · simp [PyData.eqv, e]
theorem eqv_key (k j : Ky) : PyData.eqv (kdat k) (kdat j) = decide (k = j) := by
  unfold kdat
  rw [PyData.eqv, eqv_strs]
  by_cases e : k = j
  · subst e
    simp
  · rw [decide_eq_false e, decide_eq_false fun h => e (kv_inj h)]
/-- words that a program can hold -/
def OkK (k : Ky) : Prop := ∀ n ∈ k.words, PyData.strOk n = true
theorem nm_ok {z : Str} (h : NmS z) : PyData.strOk z = true := by
  unfold PyData.strOk
  obtain ⟨c, s, e, hc, hs⟩ := h.1
  rw [Array.all_eq_true_iff_forall_mem]
  intro x hx
  have hx : x ∈ cl z := Array.mem_toList_iff.mpr hx
  rw [e] at hx
  have hl : Low c → c < 0x110000 := fun h => by
    have := h.2
    omega
  have ha : ∀ x, Aln x → x < 0x110000 := fun x h => by
    rcases h with h | h <;> · have := h.2; omega
  rcases List.mem_cons.mp hx with rfl | hx
  · exact decide_eq_true (hl hc)
  · exact decide_eq_true (ha x (hs x hx))
theorem OkK.all {k : Ky} (h : OkK k) : ∀ n ∈ kv k, PyData.strOk n = true := by
  have e1 : PyData.strOk "house" = true := by decide +kernel
  have e2 : PyData.strOk "arc" = true := by decide +kernel
  intro n hn
  cases k with
  | h x =>
    rcases List.mem_cons.mp hn with rfl | hn
    · exact e1
    · exact h n hn
  | a l x y =>
    rcases List.mem_cons.mp hn with rfl | hn
    · exact e2
    · exact h n hn
theorem lay_strs : ∀ xs : List Str, (∀ n ∈ xs, PyData.strOk n = true) → PyData.canLayAll0 (xs.map PyData.str) = true
  | [], _ => rfl
  | x :: xs, h => by
    rw [List.map_cons, PyData.canLayAll0, lay_strs xs fun n m => h n (List.mem_cons_of_mem _ m), PyData.canLay0, h x List.mem_cons_self]
    rfl
theorem depth_strs : ∀ xs : List Str, PyData.depthAll (xs.map PyData.str) = 0
  | [] => rfl
  | x :: xs => by
    rw [List.map_cons, PyData.depthAll, depth_strs xs]
    rfl
theorem shaped_key {k : Ky} (h : OkK k) : SeqAt.shaped (kdat k) = true := by
  unfold SeqAt.shaped kdat
  rw [PyData.canLay0, lay_strs _ h.all, PyData.depth, depth_strs]
  rfl
theorem lay_keys : ∀ ks : List Ky, (∀ k ∈ ks, OkK k) → PyData.canLayAll0 (ks.map kdat) = true
  | [], _ => rfl
  | k :: ks, h => by
    rw [List.map_cons, PyData.canLayAll0, lay_keys ks fun j m => h j (List.mem_cons_of_mem _ m)]
    have := SeqAt.canLay_of_shaped (shaped_key (h k List.mem_cons_self))
    rw [this]
    rfl
theorem depth_keys : ∀ ks : List Ky, PyData.depthAll (ks.map kdat) ≤ 1
  | [] => Nat.zero_le _
  | k :: ks => by
    rw [List.map_cons, PyData.depthAll]
    have : (kdat k).depth ≤ 1 := by
      unfold kdat
      rw [PyData.depth, depth_strs]
      decide
    have := depth_keys ks
    omega
theorem shaped_keys {ks : List Ky} (h : ∀ k ∈ ks, OkK k) : SeqAt.shaped (.list (ks.map kdat)) = true := by
  unfold SeqAt.shaped
  rw [PyData.canLay0, lay_keys ks h, PyData.depth]
  have := depth_keys ks
  rw [decide_eq_true (by omega)]
  rfl
theorem any_key (ks : List Ky) (k : Ky) : ((ks.map kdat).any fun z => PyData.eqv z (kdat k)) = decide (k ∈ ks) := by
  rw [List.any_map]
  have : ((fun z => PyData.eqv z (kdat k)) ∘ kdat) = fun j => decide (j = k) := funext fun j => eqv_key j k
  rw [this]
  by_cases m : k ∈ ks
  · rw [decide_eq_true m, List.any_eq_true]
    exact ⟨k, m, decide_eq_true rfl⟩
  · rw [decide_eq_false m, List.any_eq_false]
    intro j hj
    simp only [decide_eq_true_eq]
    exact fun e => m (e ▸ hj)
/-- v is the key k -/
def KV (H : Hp) (v : V) (k : Ky) : Prop := OkK k ∧ ∃ t, v = .ref t ∧ H t = some (.tup ((kv k).map V.str))
def KVs (H : Hp) : List V → List Ky → Prop
  | [], [] => True
  | v :: vs, k :: ks => KV H v k ∧ KVs H vs ks
  | _, _ => False
theorem KV.same {H H' : Hp} {v : V} {k : Ky} (h : KV H v k) (s : Same H H') : KV H' v k := by
  obtain ⟨o, t, e, h⟩ := h
  exact ⟨o, t, e, s _ _ h⟩
theorem KVs.all {H H' : Hp} : ∀ {vs : List V} {ks : List Ky}, KVs H vs ks → (∀ v k, v ∈ vs → KV H v k → KV H' v k) → KVs H' vs ks
  | [], [], _, _ => trivial
  | v :: vs, k :: ks, h, s => ⟨s _ _ List.mem_cons_self h.1, KVs.all h.2 fun u j m => s u j (List.mem_cons_of_mem _ m)⟩
  | [], _ :: _, h, _ => h.elim
  | _ :: _, [], h, _ => h.elim
theorem KVs.same {H H' : Hp} {vs : List V} {ks : List Ky} (h : KVs H vs ks) (s : Same H H') : KVs H' vs ks := h.all fun _ _ _ k => k.same s
theorem KVs.len {H : Hp} : ∀ {vs : List V} {ks : List Ky}, KVs H vs ks → vs.length = ks.length
  | [], [], _ => rfl
  | v :: vs, k :: ks, h => by rw [List.length_cons, List.length_cons, KVs.len h.2]
  | [], _ :: _, h => h.elim
  | _ :: _, [], h => h.elim
theorem KVs.app {H : Hp} : ∀ {vs ws : List V} {ks js : List Ky}, KVs H vs ks → KVs H ws js → KVs H (vs ++ ws) (ks ++ js)
  | [], _, [], _, _, h => h
  | v :: vs, _, k :: ks, _, h, g => ⟨h.1, KVs.app h.2 g⟩
  | [], _, _ :: _, _, h, _ => h.elim
  | _ :: _, _, [], _, h, _ => h.elim
theorem KVs.cut {H : Hp} : ∀ {vs : List V} {ks : List Ky} (n : Nat), KVs H vs ks → KVs H (vs.take n) (ks.take n) ∧ KVs H (vs.drop n) (ks.drop n)
  | vs, ks, 0, h => ⟨trivial, h⟩
  | [], [], _ + 1, h => ⟨trivial, trivial⟩
  | v :: vs, k :: ks, n + 1, h => ⟨⟨h.1, (KVs.cut n h.2).1⟩, (KVs.cut n h.2).2⟩
  | [], _ :: _, _ + 1, h => h.elim
  | _ :: _, [], _ + 1, h => h.elim
theorem KVs.at {H : Hp} : ∀ {vs : List V} {ks : List Ky} {n : Nat} {v : V}, KVs H vs ks → vs[n]? = some v → ∃ k, ks[n]? = some k ∧ KV H v k
  | v :: vs, k :: ks, 0, _, h, e => by
    cases e
    exact ⟨k, rfl, h.1⟩
  | v :: vs, k :: ks, n + 1, _, h, e => KVs.at (n := n) h.2 e
  | [], [], _, _, _, e => nomatch e
  | [], _ :: _, _, _, h, _ => h.elim
  | _ :: _, [], _, _, h, _ => h.elim
theorem KVs.mem {H : Hp} {vs : List V} {ks : List Ky} {v : V} (h : KVs H vs ks) (m : v ∈ vs) : ∃ k ∈ ks, KV H v k := by
  obtain ⟨n, hn⟩ := List.mem_iff_getElem?.mp m
  obtain ⟨k, hk, e⟩ := h.at hn
  exact ⟨k, List.mem_of_getElem? hk, e⟩
variable {K : PySem.W.Frag}
theorem dp_strs {H : Hp} : ∀ xs : List Str, DpAll K H (xs.map V.str) (xs.map PyData.str)
  | [] => .nil
  | x :: xs => .cons (.str x) (dp_strs xs)
theorem KV.dp {H : Hp} {v : V} {k : Ky} (h : KV H v k) : Dp K H v (kdat k) := by
  obtain ⟨_, t, rfl, h⟩ := h
  exact .tup (.inl (.inl h)) (dp_strs _)
theorem KVs.dp {H : Hp} : ∀ {vs : List V} {ks : List Ky}, KVs H vs ks → DpAll K H vs (ks.map kdat)
  | [], [], _ => .nil
  | v :: vs, k :: ks, h => .cons h.1.dp (KVs.dp h.2)
  | [], _ :: _, h => h.elim
  | _ :: _, [], h => h.elim
theorem KVs.ok {H : Hp} : ∀ {vs : List V} {ks : List Ky}, KVs H vs ks → ∀ k ∈ ks, OkK k
  | [], [], _ => fun _ m => nomatch m
  | v :: vs, k :: ks, h => fun j m => (List.mem_cons.mp m).elim (fun e => e ▸ h.1.1) (KVs.ok h.2 j)
  | [], _ :: _, h => h.elim
  | _ :: _, [], h => h.elim
/-- at a a list of the keys ks -/
def KL (H : Hp) (a : Addr) (ks : List Ky) : Prop := ∃ vs, H a = some (.lst vs) ∧ KVs H vs ks
theorem KL.same {H H' : Hp} {a : Addr} {ks : List Ky} (h : KL H a ks) (s : Same H H') : KL H' a ks := by
  obtain ⟨vs, e, k⟩ := h
  exact ⟨vs, s _ _ e, k.same s⟩
theorem KL.ok {H : Hp} {a : Addr} {ks : List Ky} (h : KL H a ks) : ∀ k ∈ ks, OkK k := by
  obtain ⟨vs, _, k⟩ := h
  exact k.ok
theorem KL.dp {H : Hp} {a : Addr} {ks : List Ky} (h : KL H a ks) : Dp K H (.ref a) (.list (ks.map kdat)) := by
  obtain ⟨vs, e, k⟩ := h
  exact .lst (.inl (.inl e)) k.dp
theorem niK {H : Hp} {Q : VK} {a : Addr} {ks : List Ky} {v : V} {k : Ky} (h : KL H a ks) (hv : KV H v k) (q : Q (.bl (!decide (k ∈ ks))) H) : rNotInD K v (.ref a) H Q :=
  ⟨kdat k, ks.map kdat, hv.dp, h.dp, shaped_key hv.1, shaped_keys h.ok, by rw [any_key]; exact q⟩
theorem inK {H : Hp} {Q : VK} {a : Addr} {ks : List Ky} {v : V} {k : Ky} (h : KL H a ks) (hv : KV H v k) (q : Q (.bl (decide (k ∈ ks))) H) : rInD K v (.ref a) H Q :=
  ⟨kdat k, ks.map kdat, hv.dp, h.dp, shaped_key hv.1, shaped_keys h.ok, by rw [any_key]; exact q⟩
theorem idxK {H : Hp} {Q : VK} {a : Addr} {xs ys : List Ky} {v : V} {k : Ky} (h : KL H a (xs ++ k :: ys)) (n : k ∉ xs) (hv : KV H v k) (q : Q (.int (xs.length : Nat)) H) : rIndexD K (.ref a) [v] H Q := by
  refine ⟨a, v, kdat k, (xs ++ k :: ys).map kdat, xs.length, kdat k, rfl, rfl, h.dp, hv.dp, shaped_keys h.ok, shaped_key hv.1, ?_, ?_, fun m z l e => ?_, q⟩
  · rw [List.getElem?_map, List.getElem?_append_right (Nat.le_refl _), Nat.sub_self]
    rfl
  · rw [eqv_key]
    exact decide_eq_true rfl
  · rw [List.getElem?_map, List.getElem?_append_left l] at e
    obtain ⟨j, hj, rfl⟩ := Option.map_eq_some_iff.mp e
    rw [eqv_key]
    exact decide_eq_false fun z => n (z ▸ List.mem_of_getElem? hj)
theorem eqK {H : Hp} {Q : VK} {v u : V} {k j : Ky} (h : KV H v k) (g : KV H u j) (q : Q (.bl (decide (k = j))) H) : rEqD K v u H Q :=
  ⟨kdat k, kdat j, h.dp, g.dp, shaped_key h.1, shaped_key g.1, by rw [eqv_key]; exact q⟩
theorem cut_from {xs : List V} (n : Nat) : cutV xs (some (n : Int)) none = xs.drop n := by
  unfold cutV
  rw [HT.sIx_nat, HT.sIx_none]
  by_cases l : n ≤ xs.length
  · rw [Nat.min_eq_left l, List.take_of_length_le (by rw [List.length_drop]; exact Nat.le_refl _)]
  · rw [Nat.min_eq_right (by omega), List.drop_of_length_le (Nat.le_refl _), List.drop_of_length_le (by omega), List.take_nil]
theorem cut_to {xs : List V} (n : Nat) : cutV xs none (some (n : Int)) = xs.take n := by
  unfold cutV
  rw [HT.sIx_nat, HT.sIx_none, List.drop_zero, Nat.sub_zero]
  by_cases l : n ≤ xs.length
  · rw [Nat.min_eq_left l]
  · rw [Nat.min_eq_right (by omega), List.take_of_length_le (Nat.le_refl _), List.take_of_length_le (by omega)]
end Ty
/-! comprehensions with tests, whose turns may make new objects -/
namespace Rd
open PySem PySem.Spec PyProof.Rows L2
theorem filterMap_succ {fs : Nat → Option V} {i : Nat} : (List.range (i + 1)).filterMap fs = (List.range i).filterMap fs ++ (fs i).toList := by
  rw [List.range_succ, List.filterMap_append]
  cases h : fs i <;> simp [h]
theorem filterMap_le {fs : Nat → Option V} {i : Nat} : ((List.range i).filterMap fs).length ≤ i := by
  have := List.length_filterMap_le fs (List.range i)
  rwa [List.length_range] at this
/-- one turn: what is told of it -/
def TurnW (g : TG) (tt : TT) (te : TE) (vs : List Nat) (σ : L2.St) (y0 : Option V) (x : V) (h h' : Hp) : Prop :=
  ∀ (L : Addr) (Nx : Hp → Prop), (∀ G y, y0 = some y → Same h G → ∃ out, G L = some (.lst out) ∧ out.length < sizeLine ∧ Nx (upd G L (.lst (out ++ [y])))) → (∀ G, y0 = none → Same h G → Nx G) → Turn1 g tt te vs σ L x h' Nx
theorem lcW {J : It} {n : Nat} {Gd : Hp → Prop} {Y : Nat → Hp → V → Hp → Prop} (w : L2.Walk J n Gd Y) {g : TG} {tt : TT} {te : TE} {vs : List Nat} {σ : L2.St} {H : Hp} {Q : VK} (fs : Nat → Option V) (hz : n ≤ 100000) (hG : ∀ h, Same H h → Gd h)
    (hs : ∀ i x h h', i < n → Same H h → Y i h x h' → TurnW g tt te vs σ (fs i) x h h')
    (hd : ∀ L G, H L = none → Same H G → G L = some (.lst ((List.range n).filterMap fs)) → Q (.ref L) G) : LcB J g tt te vs σ H Q := fun L hL => by
  have st : ∀ {G : Hp} {o : HO}, Same H G → Same H (upd G L o) := fun s b o e => (upd_ne (ne_of_none e hL)).trans (s b o e)
  refine L2.lc_it (Qd := Q (.ref L)) w (fun i h => Same H h ∧ h L = some (.lst ((List.range i).filterMap fs))) ⟨st (.refl H), upd_same⟩ (fun i h _ p => hG h p.1) (fun i x h h' hi p y => ?_) fun h p => hd L h hL p.1 p.2
  refine hs i x h h' hi p.1 y L _ (fun G y e s => ?_) fun G e s => ?_
  · refine ⟨_, s _ _ p.2, ?_, st (p.1.trans s), ?_⟩
    · have := filterMap_le (fs := fs) (i := i)
      have := sz5 (Nat.le_refl 100000)
      omega
    · rw [filterMap_succ, e]
      exact upd_same
  · refine ⟨p.1.trans s, ?_⟩
    rw [filterMap_succ, e]
    exact (s _ _ p.2).trans (by simp)
/-- over a list -/
theorem lcF {K : PySem.W.Frag} {a : Addr} {g : TG} {tt : TT} {te : TE} {vs : List Nat} {σ : L2.St} {H : Hp} {Q : VK} (xs : List V) (fs : Nat → Option V) (ha : SqL K H a xs) (hz : xs.length ≤ 100000)
    (hs : ∀ i x h, xs[i]? = some x → Same H h → TurnW g tt te vs σ (fs i) x h h)
    (hd : ∀ L G, H L = none → Same H G → G L = some (.lst ((List.range xs.length).filterMap fs)) → Q (.ref L) G) : LcB (Itl K a) g tt te vs σ H Q :=
  lcW walk_list fs hz (fun h s => s.seq ha) (fun i x h h' _ s y => by
    obtain ⟨rfl, e⟩ := y
    exact hs i x h' e s) hd
/-- over a list with its places -/
theorem lcE {K : PySem.W.Frag} {a : Addr} {g : TG} {tt : TT} {te : TE} {vs : List Nat} {σ : L2.St} {H : Hp} {Q : VK} (xs : List V) (fs : Nat → Option V) (ha : SqL K H a xs) (hz : xs.length ≤ 100000)
    (hs : ∀ i x h T, xs[i]? = some x → Same H h → h T = none → TurnW g tt te vs σ (fs i) (.ref T) h (upd h T (.tup [.int (i : Nat), x])))
    (hd : ∀ L G, H L = none → Same H G → G L = some (.lst ((List.range xs.length).filterMap fs)) → Q (.ref L) G) : LcB (Ite K a) g tt te vs σ H Q :=
  lcW walk_enum fs hz (fun h s => s.seq ha) (fun i x h h' _ s y => by
    obtain ⟨T, u, v, rfl, n, rfl, e, e'⟩ := y
    cases e
    exact hs i v h T e' s n) hd
/-- over a range -/
theorem lcG {lo : Int} {n : Nat} {g : TG} {tt : TT} {te : TE} {vs : List Nat} {σ : L2.St} {H : Hp} {Q : VK} (fs : Nat → Option V) (hz : n ≤ 100000)
    (hs : ∀ i h, i < n → Same H h → TurnW g tt te vs σ (fs i) (.int (lo + i)) h h)
    (hd : ∀ L G, H L = none → Same H G → G L = some (.lst ((List.range n).filterMap fs)) → Q (.ref L) G) : LcB (Itr lo n) g tt te vs σ H Q :=
  lcW walk_range fs hz (fun _ _ => trivial) (fun i x h h' hi s y => by
    obtain ⟨rfl, rfl⟩ := y
    exact hs i h' hi s) hd
theorem pg_tupK {X : Cx} {K : PySem.W.Frag} {pos : Pos} {es : List Expr} {k : Nat} {t : TGs} {n : Nat} (hK : X.K = K) (hc : X.calm = true) (h : PGs X es t) (hn : (assignEach es X.env).length = n := by rfl)
    (hst : (assignEach es X.env).findIdx? (·.1) = none := by rfl) : PG X (.Tuple es k pos) (gTup K n t) := by
  subst hK
  exact pg_tup hc h hn hst
theorem gunl {K : PySem.W.Frag} {n : Nat} {t : TGs} {p : Addr} {xs : List V} {σ : L2.St} {H : Hp} {P : L2.St → Hp → Prop} (h : SqL K H p xs) (e : xs.length = n) (g : t xs σ H P) : gUnl K n t (.ref p) σ H P := ⟨p, xs, rfl, h, e, g⟩
theorem ienum {K : PySem.W.Frag} {ta : TA} {σ : L2.St} {H : Hp} {R : It → Hp → Prop} (h : ta σ H fun vs H1 => ∃ a xs, vs = [.ref a] ∧ SqL K H1 a xs ∧ R (Ite K a) H1) : iEnum K ta σ H R := h
theorem op_notIn_seqK {X : Cx} {K : PySem.W.Frag} (hK : X.K = K) : OpR X (compareOp .NotIn) (rIn K true) := by
  subst hK
  exact op_notIn_seq
theorem op_in_seqK {X : Cx} {K : PySem.W.Frag} (hK : X.K = K) : OpR X (compareOp .In) (rIn K false) := by
  subst hK
  exact op_in_seq
theorem pi_listK {X : Cx} {K : PySem.W.Frag} (hK : X.K = K) {tg l : Expr} {tl : TE} (h : PE X l tl) : PI X tg l (iList K tl) := hK ▸ pi_list h
theorem pi_tupK {X : Cx} {K : PySem.W.Frag} (hK : X.K = K) {tg l : Expr} {tl : TE} (h : PE X l tl) : PI X tg l (iTup K tl) := hK ▸ pi_tup h
/-- what a filtered list of the items is -/
theorem fm_at {α β : Type} {f : α → Option β} : ∀ {xs : List α} {fs : Nat → Option β}, (∀ (i : Nat) (h : i < xs.length), fs i = f xs[i]) → (List.range xs.length).filterMap fs = xs.filterMap f
  | [], _, _ => rfl
  | x :: xs, fs, h => by
    have e := h 0 (Nat.zero_lt_succ _)
    have ih := fm_at (xs := xs) (fs := fun i => fs (i + 1)) fun i hi => h (i + 1) (Nat.succ_lt_succ hi)
    rw [List.length_cons, List.range_succ_eq_map, List.filterMap_cons, List.filterMap_map, List.filterMap_cons]
    have ih : (List.range xs.length).filterMap (fs ∘ Nat.succ) = xs.filterMap f := ih
    rw [ih, e]
    rfl
/-! dicts made from a list: text keys, each once, one value -/
theorem filterMap_succ' {α : Type} {fs : Nat → Option α} {i : Nat} : (List.range (i + 1)).filterMap fs = (List.range i).filterMap fs ++ (fs i).toList := by
  rw [List.range_succ, List.filterMap_append]
  cases h : fs i <;> simp [h]
def DcB (J : It) (g : TG) (tt : TT) (tk tv : TE) (vs : List Nat) (σ : L2.St) (H : Hp) (Q : VK) : Prop := tDc (fun _ H1 R => R J H1) g tt tk tv vs σ H Q
theorem dcX {wi : TI} {g : TG} {tt : TT} {tk tv : TE} {vs : List Nat} {σ : L2.St} {H : Hp} {Q : VK} (h : wi σ H fun J H1 => DcB J g tt tk tv vs σ H1 Q) : tDc wi g tt tk tv vs σ H Q := h
def TurnD (g : TG) (tt : TT) (tk tv : TE) (vs : List Nat) (σ : L2.St) (c : V) (y0 : Option Str) (x : V) (h : Hp) : Prop :=
  ∀ (L : Addr) (Nx : Hp → Prop), (∀ G z, y0 = some z → Same h G → ∃ (kvs : List (Key × V)) (k : Key), V.str z = kV k ∧ G L = some (.dK kvs) ∧ kvs.length < sizeLine ∧ Nx (upd G L (.dK (putK kvs k c)))) → (∀ G, y0 = none → Same h G → Nx G) →
    g x (wipe σ vs) h fun σ2 h2 => wipe σ2 vs = wipe σ vs ∧ tt σ2 h2 fun k h3 => if k = true then tk σ2 h3 fun y h4 => tv σ2 h4 fun z h5 => ∃ (kvs : List (Key × V)) (k : Key), y = kV k ∧ h5 L = some (.dK kvs) ∧ kvs.length < sizeLine ∧ Nx (upd h5 L (.dK (putK kvs k z))) else Nx h3
theorem dcF {K : PySem.W.Frag} {a : Addr} {g : TG} {tt : TT} {tk tv : TE} {vs : List Nat} {σ : L2.St} {H : Hp} {Q : VK} (xs : List V) (fs : Nat → Option Str) (c : V) (ha : SqL K H a xs) (hz : xs.length ≤ 100000) (nd : ((List.range xs.length).filterMap fs).Nodup)
    (hs : ∀ i x h, xs[i]? = some x → Same H h → TurnD g tt tk tv vs σ c (fs i) x h)
    (hd : ∀ L G, H L = none → Same H G → G L = some (.dK (kd ((List.range xs.length).filterMap fs) fun _ => c)) → Q (.ref L) G) : DcB (Itl K a) g tt tk tv vs σ H Q := fun L hL => by
  have st : ∀ {G : Hp} {o : HO}, Same H G → Same H (upd G L o) := fun s b o e => (upd_ne (ne_of_none e hL)).trans (s b o e)
  have big := sz5 (Nat.le_refl 100000)
  have w := walk_list (K := K) (a := a) (xs := xs)
  refine ⟨fun i m h => m = xs.length - i ∧ i ≤ xs.length ∧ Same H h ∧ h L = some (.dK (kd ((List.range i).filterMap fs) fun _ => c)), ⟨xs.length, by simp, Nat.zero_le _, st (.refl H), upd_same⟩, ?_⟩
  rintro i m h ⟨rfl, hi, p⟩
  by_cases il : i < xs.length
  · refine .inr ⟨w.goes i h il (p.1.seq ha), fun h => Same H h ∧ h L = some (.dK (kd ((List.range (i + 1)).filterMap fs) fun _ => c)), fun H' p' => ⟨xs.length - (i + 1), by omega, rfl, il, p'⟩, fun x H' y => ?_⟩
    obtain ⟨rfl, hx⟩ := w.yields i h x H' il (p.1.seq ha) y
    refine hs i x _ hx p.1 L _ (fun G z e s => ?_) fun G e s => ?_
    · refine ⟨_, Sum.inr z, rfl, s _ _ p.2, ?_, st (p.1.trans s), ?_⟩
      · rw [kd_len]
        have := List.length_filterMap_le fs (List.range i)
        rw [List.length_range] at this
        omega
      · have nz : z ∉ (List.range i).filterMap fs := fun m => by
          have sub : ((List.range (i + 1)).filterMap fs).Sublist ((List.range xs.length).filterMap fs) := by
            refine List.Sublist.filterMap _ ?_
            obtain ⟨d, hd'⟩ : ∃ d, xs.length = (i + 1) + d := ⟨xs.length - (i + 1), by omega⟩
            have er : List.range xs.length = List.range (i + 1) ++ (List.range d).map ((i + 1) + ·) := by
              rw [hd']
              exact List.range_add ..
            rw [er]
            exact List.sublist_append_left _ _
          have n2 := nd.sublist sub
          rw [filterMap_succ', e] at n2
          exact (List.nodup_append.mp n2).2.2 z m z (List.mem_singleton.mpr rfl) rfl
        rw [upd_same, kd_new nz, filterMap_succ', e, kd_congr (g := fun _ => c) fun y _ => by split <;> rfl]
        rfl
    · refine ⟨p.1.trans s, ?_⟩
      rw [filterMap_succ', e]
      exact (s _ _ p.2).trans (by simp)
  · have e : i = xs.length := by omega
    subst e
    exact .inl ⟨w.stops h (p.1.seq ha), hd L h hL p.1 p.2⟩
end Rd
/-! min and max of two texts -/
namespace MinZ0
open PySem PySem.Spec PyProof.Rows L2
def ltW : Value → Value → Bool
  | .str a _, .str b _ => decide (a.cps.toList < b.cps.toList)
  | _, _ => false
inductive IsStrV : Value → Prop
  | str (z t) : IsStrV (.str z t)
section
variable {prog : Program} {w : World} {A : Around}
theorem lt_strW {E : Value → Shared → Prop} {s : Shared} {Q : Value → Shared → Prop} {a b : Value} (ha : IsStrV a) (hb : IsStrV b) (h : Q (.bool (ltW a b)) s) : wpAny (model prog w) A (richCompare .Lt a b) Q E s := by
  cases ha; cases hb
  exact P.lt_str h
theorem gt_strW {E : Value → Shared → Prop} {s : Shared} {Q : Value → Shared → Prop} {a b : Value} (ha : IsStrV a) (hb : IsStrV b) (h : Q (.bool (ltW b a)) s) : wpAny (model prog w) A (richCompare .Gt a b) Q E s := by
  cases ha; cases hb
  exact P.gt_str h
theorem cmpOf_ltW (vs : Array Value) (hn : ∀ v ∈ vs, IsStrV v) :
    CmpOf prog w A .Lt (fun i v => vs[i]? = some v) (fun i j => ltW (vs.getD i .none) (vs.getD j .none)) := fun i j vi vj s Q E hi hj h => by
  have e1 : vs.getD i .none = vi := by simp [Array.getD_eq_getD_getElem?, hi]
  have e2 : vs.getD j .none = vj := by simp [Array.getD_eq_getD_getElem?, hj]
  simp only [e1, e2] at h
  exact lt_strW (hn _ (Array.mem_of_getElem? hi)) (hn _ (Array.mem_of_getElem? hj)) h
theorem cmpOf_gtW (vs : Array Value) (hn : ∀ v ∈ vs, IsStrV v) :
    CmpOf prog w A .Gt (fun i v => vs[i]? = some v) (fun i j => ltW (vs.getD j .none) (vs.getD i .none)) := fun i j vi vj s Q E hi hj h => by
  have e1 : vs.getD i .none = vi := by simp [Array.getD_eq_getD_getElem?, hi]
  have e2 : vs.getD j .none = vj := by simp [Array.getD_eq_getD_getElem?, hj]
  simp only [e1, e2] at h
  exact gt_strW (hn _ (Array.mem_of_getElem? hi)) (hn _ (Array.mem_of_getElem? hj)) h
theorem min_two_str {E : Value → Shared → Prop} {s : Shared} {Q : Value → Shared → Prop} {a b : Value} (hh : A.handled = none) (ha : IsStrV a) (hb : IsStrV b)
    (h : ∀ h' tk, (∀ c o, s.heap.get? c = some o → h'.get? c = some o) → Q (if ltW b a then b else a) { s with heap := h', toks := tk }) :
    wpAny (model prog w) A (call (.builtin "min") [a, b]) Q E s := by
  have hT : (s.heap.push { cls := .type "tuple", data := .seq #[a, b] }).IsTuple s.heap.objs.size #[a, b] := ⟨_, Heap.get?_push_size _ rfl, rfl, 0, rfl⟩
  refine call_min_two (wpAny_pyIter_tuple hT ?_)
  have hsz : (s.heap.push { cls := .type "tuple", data := .seq #[a, b] }).objs.size = s.heap.objs.size + 1 := Heap.size_push ..
  refine ⟨_, [_, s.heap.objs.size], [_], _, _, _, _, rfl, Walks.tuple (A := A.in1) hh _ s.heap.objs.size (by rw [hsz]; exact Nat.ne_of_lt (Nat.lt_succ_self _)) #[a, b],
    ⟨⟨_, Heap.get?_push_size _ rfl, rfl, rfl⟩, hT.push _⟩, fun c hc => ?_, by simp, cmpOf_ltW #[a, b] (by simp [ha, hb]), fun v h' tk hP hk => ?_⟩
  · show c < ((s.heap.push _).push _).objs.size
    rw [Heap.size_push, hsz]
    rcases List.mem_cons.mp hc with rfl | hc
    · rw [hsz]; exact Nat.lt_succ_self _
    · rcases List.mem_cons.mp hc with rfl | hc
      · exact Nat.lt_succ_of_lt (Nat.lt_succ_self _)
      · cases hc
  · have hold : ∀ c o, s.heap.get? c = some o → h'.get? c = some o := fun c o e => by
      refine hk c o (fun hm => ?_) (Heap.get?_push_of_some _ (Heap.get?_push_of_some _ e))
      rcases List.mem_cons.mp hm with e1 | hm
      · have := Heap.lt_size e; rw [e1, hsz] at this; exact Nat.lt_irrefl _ (Nat.lt_of_succ_lt this)
      · cases hm
    have := h h' tk hold
    have hv : v = if ltW b a then b else a := by
      cases hc : ltW b a <;> simp [argBest, hc] at hP <;> simp [hP]
    rw [hv]; exact this
theorem max_two_str {E : Value → Shared → Prop} {s : Shared} {Q : Value → Shared → Prop} {a b : Value} (hh : A.handled = none) (ha : IsStrV a) (hb : IsStrV b)
    (h : ∀ h' tk, (∀ c o, s.heap.get? c = some o → h'.get? c = some o) → Q (if ltW a b then b else a) { s with heap := h', toks := tk }) :
    wpAny (model prog w) A (call (.builtin "max") [a, b]) Q E s := by
  have hT : (s.heap.push { cls := .type "tuple", data := .seq #[a, b] }).IsTuple s.heap.objs.size #[a, b] := ⟨_, Heap.get?_push_size _ rfl, rfl, 0, rfl⟩
  refine call_max_two (wpAny_pyIter_tuple hT ?_)
  have hsz : (s.heap.push { cls := .type "tuple", data := .seq #[a, b] }).objs.size = s.heap.objs.size + 1 := Heap.size_push ..
  refine ⟨_, [_, s.heap.objs.size], [_], _, _, _, _, rfl, Walks.tuple (A := A.in1) hh _ s.heap.objs.size (by rw [hsz]; exact Nat.ne_of_lt (Nat.lt_succ_self _)) #[a, b],
    ⟨⟨_, Heap.get?_push_size _ rfl, rfl, rfl⟩, hT.push _⟩, fun c hc => ?_, by simp, cmpOf_gtW #[a, b] (by simp [ha, hb]), fun v h' tk hP hk => ?_⟩
  · show c < ((s.heap.push _).push _).objs.size
    rw [Heap.size_push, hsz]
    rcases List.mem_cons.mp hc with rfl | hc
    · rw [hsz]; exact Nat.lt_succ_self _
    · rcases List.mem_cons.mp hc with rfl | hc
      · exact Nat.lt_succ_of_lt (Nat.lt_succ_self _)
      · cases hc
  · have hold : ∀ c o, s.heap.get? c = some o → h'.get? c = some o := fun c o e => by
      refine hk c o (fun hm => ?_) (Heap.get?_push_of_some _ (Heap.get?_push_of_some _ e))
      rcases List.mem_cons.mp hm with e1 | hm
      · have := Heap.lt_size e; rw [e1, hsz] at this; exact Nat.lt_irrefl _ (Nat.lt_of_succ_lt this)
      · cases hm
    have := h h' tk hold
    have hv : v = if ltW a b then b else a := by
      cases hc : ltW a b <;> simp [argBest, hc] at hP <;> simp [hP]
    rw [hv]; exact this
end
end MinZ0
namespace Rd
open PySem PySem.Spec PyProof.Rows L2 MinZ0
def rMinZ : List V → Hp → VK → Prop := fun xs H Q => ∃ i j : Str, xs = [.str i, .str j] ∧ Q (.str (if j.cps.toList < i.cps.toList then j else i)) H
def rMaxZ : List V → Hp → VK → Prop := fun xs H Q => ∃ i j : Str, xs = [.str i, .str j] ∧ Q (.str (if i.cps.toList < j.cps.toList then j else i)) H
theorem q_minZ {X : Cx} (hc : X.calm = true) : CallR X (.builtin "min") rMinZ := by
  intro pins s σ H xs us Q I r h
  obtain ⟨i, j, rfl, q⟩ := h
  obtain ⟨u, w', rfl, ⟨t, rfl⟩, ⟨t', rfl⟩⟩ := vals2 r
  refine min_two_str (I.ok.hd hc) (.str _ _) (.str _ _) fun h' tk k => ⟨_, H, I.kept k, ?_, q⟩
  show RelV _ (if decide (j.cps.toList < i.cps.toList) = true then _ else _)
  by_cases hj : j.cps.toList < i.cps.toList
  · rw [if_pos hj, if_pos (decide_eq_true hj)]; exact ⟨_, rfl⟩
  · rw [if_neg hj, if_neg (by rw [decide_eq_false hj]; exact Bool.false_ne_true)]; exact ⟨_, rfl⟩
theorem q_maxZ {X : Cx} (hc : X.calm = true) : CallR X (.builtin "max") rMaxZ := by
  intro pins s σ H xs us Q I r h
  obtain ⟨i, j, rfl, q⟩ := h
  obtain ⟨u, w', rfl, ⟨t, rfl⟩, ⟨t', rfl⟩⟩ := vals2 r
  refine max_two_str (I.ok.hd hc) (.str _ _) (.str _ _) fun h' tk k => ⟨_, H, I.kept k, ?_, q⟩
  show RelV _ (if decide (i.cps.toList < j.cps.toList) = true then _ else _)
  by_cases hj : i.cps.toList < j.cps.toList
  · rw [if_pos hj, if_pos (decide_eq_true hj)]; exact ⟨_, rfl⟩
  · rw [if_neg hj, if_neg (by rw [decide_eq_false hj]; exact Bool.false_ne_true)]; exact ⟨_, rfl⟩
section
variable {H : Hp} {Q : VK} {a b : Str}
theorem minZ (q : Q (.str (if cl b < cl a then b else a)) H) : rMinZ [.str a, .str b] H Q := ⟨a, b, rfl, q⟩
theorem maxZ (q : Q (.str (if cl a < cl b then b else a)) H) : rMaxZ [.str a, .str b] H Q := ⟨a, b, rfl, q⟩
end
end Rd
/-! lists of tuples of texts on the heap -/
namespace Ln
open PySem PySem.Spec PyProof.Rows L2 Rd Ty
section
def wdat (k : List Str) : PyData := .tuple (k.map PyData.str)
theorem eqv_word (k j : List Str) : PyData.eqv (wdat k) (wdat j) = decide (k = j) := by
  unfold wdat
  rw [PyData.eqv, eqv_strs]
/-- words that a program can hold -/
def OkW (k : List Str) : Prop := ∀ n ∈ k, PyData.strOk n = true
theorem shaped_word {k : List Str} (h : OkW k) : SeqAt.shaped (wdat k) = true := by
  unfold SeqAt.shaped wdat
  rw [PyData.canLay0, lay_strs _ h, PyData.depth, depth_strs]
  rfl
theorem lay_words : ∀ ks : List (List Str), (∀ k ∈ ks, OkW k) → PyData.canLayAll0 (ks.map wdat) = true
  | [], _ => rfl
  | k :: ks, h => by
    rw [List.map_cons, PyData.canLayAll0, lay_words ks fun j m => h j (List.mem_cons_of_mem _ m)]
    have := SeqAt.canLay_of_shaped (shaped_word (h k List.mem_cons_self))
    rw [this]
    rfl
theorem depth_words : ∀ ks : List (List Str), PyData.depthAll (ks.map wdat) ≤ 1
  | [] => Nat.zero_le _
  | k :: ks => by
    rw [List.map_cons, PyData.depthAll]
    have : (wdat k).depth ≤ 1 := by
      unfold wdat
      rw [PyData.depth, depth_strs]
      decide
    have := depth_words ks
    omega
theorem shaped_words {ks : List (List Str)} (h : ∀ k ∈ ks, OkW k) : SeqAt.shaped (.list (ks.map wdat)) = true := by
  unfold SeqAt.shaped
  rw [PyData.canLay0, lay_words ks h, PyData.depth]
  have := depth_words ks
  rw [decide_eq_true (by omega)]
  rfl
theorem any_word (ks : List (List Str)) (k : List Str) : ((ks.map wdat).any fun z => PyData.eqv z (wdat k)) = decide (k ∈ ks) := by
  rw [List.any_map]
  have : ((fun z => PyData.eqv z (wdat k)) ∘ wdat) = fun j => decide (j = k) := funext fun j => eqv_word j k
  rw [this]
  by_cases m : k ∈ ks
  · rw [decide_eq_true m, List.any_eq_true]
    exact ⟨k, m, decide_eq_true rfl⟩
  · rw [decide_eq_false m, List.any_eq_false]
    intro j hj
    simp only [decide_eq_true_eq]
    exact fun e => m (e ▸ hj)
/-- v is the key k -/
def WV (H : Hp) (v : V) (k : List Str) : Prop := OkW k ∧ ∃ t, v = .ref t ∧ H t = some (.tup (k.map V.str))
def WVs (H : Hp) : List V → List (List Str) → Prop
  | [], [] => True
  | v :: vs, k :: ks => WV H v k ∧ WVs H vs ks
  | _, _ => False
theorem WV.same {H H' : Hp} {v : V} {k : List Str} (h : WV H v k) (s : Same H H') : WV H' v k := by
  obtain ⟨o, t, e, h⟩ := h
  exact ⟨o, t, e, s _ _ h⟩
theorem WVs.all {H H' : Hp} : ∀ {vs : List V} {ks : List (List Str)}, WVs H vs ks → (∀ v k, v ∈ vs → WV H v k → WV H' v k) → WVs H' vs ks
  | [], [], _, _ => trivial
  | v :: vs, k :: ks, h, s => ⟨s _ _ List.mem_cons_self h.1, WVs.all h.2 fun u j m => s u j (List.mem_cons_of_mem _ m)⟩
  | [], _ :: _, h, _ => h.elim
  | _ :: _, [], h, _ => h.elim
theorem WVs.same {H H' : Hp} {vs : List V} {ks : List (List Str)} (h : WVs H vs ks) (s : Same H H') : WVs H' vs ks := h.all fun _ _ _ k => k.same s
theorem WVs.len {H : Hp} : ∀ {vs : List V} {ks : List (List Str)}, WVs H vs ks → vs.length = ks.length
  | [], [], _ => rfl
  | v :: vs, k :: ks, h => by rw [List.length_cons, List.length_cons, WVs.len h.2]
  | [], _ :: _, h => h.elim
  | _ :: _, [], h => h.elim
theorem WVs.app {H : Hp} : ∀ {vs ws : List V} {ks js : List (List Str)}, WVs H vs ks → WVs H ws js → WVs H (vs ++ ws) (ks ++ js)
  | [], _, [], _, _, h => h
  | v :: vs, _, k :: ks, _, h, g => ⟨h.1, WVs.app h.2 g⟩
  | [], _, _ :: _, _, h, _ => h.elim
  | _ :: _, _, [], _, h, _ => h.elim
theorem WVs.cut {H : Hp} : ∀ {vs : List V} {ks : List (List Str)} (n : Nat), WVs H vs ks → WVs H (vs.take n) (ks.take n) ∧ WVs H (vs.drop n) (ks.drop n)
  | vs, ks, 0, h => ⟨trivial, h⟩
  | [], [], _ + 1, h => ⟨trivial, trivial⟩
  | v :: vs, k :: ks, n + 1, h => ⟨⟨h.1, (WVs.cut n h.2).1⟩, (WVs.cut n h.2).2⟩
  | [], _ :: _, _ + 1, h => h.elim
  | _ :: _, [], _ + 1, h => h.elim
theorem WVs.at {H : Hp} : ∀ {vs : List V} {ks : List (List Str)} {n : Nat} {v : V}, WVs H vs ks → vs[n]? = some v → ∃ k, ks[n]? = some k ∧ WV H v k
  | v :: vs, k :: ks, 0, _, h, e => by
    cases e
    exact ⟨k, rfl, h.1⟩
  | v :: vs, k :: ks, n + 1, _, h, e => WVs.at (n := n) h.2 e
  | [], [], _, _, _, e => nomatch e
  | [], _ :: _, _, _, h, _ => h.elim
  | _ :: _, [], _, _, h, _ => h.elim
theorem WVs.mem {H : Hp} {vs : List V} {ks : List (List Str)} {v : V} (h : WVs H vs ks) (m : v ∈ vs) : ∃ k ∈ ks, WV H v k := by
  obtain ⟨n, hn⟩ := List.mem_iff_getElem?.mp m
  obtain ⟨k, hk, e⟩ := h.at hn
  exact ⟨k, List.mem_of_getElem? hk, e⟩
variable {K : PySem.W.Frag}
theorem WV.dp {H : Hp} {v : V} {k : List Str} (h : WV H v k) : Dp K H v (wdat k) := by
  obtain ⟨_, t, rfl, h⟩ := h
  exact .tup (.inl (.inl h)) (dp_strs _)
theorem WVs.dp {H : Hp} : ∀ {vs : List V} {ks : List (List Str)}, WVs H vs ks → DpAll K H vs (ks.map wdat)
  | [], [], _ => .nil
  | v :: vs, k :: ks, h => .cons h.1.dp (WVs.dp h.2)
  | [], _ :: _, h => h.elim
  | _ :: _, [], h => h.elim
theorem WVs.ok {H : Hp} : ∀ {vs : List V} {ks : List (List Str)}, WVs H vs ks → ∀ k ∈ ks, OkW k
  | [], [], _ => fun _ m => nomatch m
  | v :: vs, k :: ks, h => fun j m => (List.mem_cons.mp m).elim (fun e => e ▸ h.1.1) (WVs.ok h.2 j)
  | [], _ :: _, h => h.elim
  | _ :: _, [], h => h.elim
/-- at a a list of the keys ks -/
def WL (H : Hp) (a : Addr) (ks : List (List Str)) : Prop := ∃ vs, H a = some (.lst vs) ∧ WVs H vs ks
theorem WL.same {H H' : Hp} {a : Addr} {ks : List (List Str)} (h : WL H a ks) (s : Same H H') : WL H' a ks := by
  obtain ⟨vs, e, k⟩ := h
  exact ⟨vs, s _ _ e, k.same s⟩
theorem WL.ok {H : Hp} {a : Addr} {ks : List (List Str)} (h : WL H a ks) : ∀ k ∈ ks, OkW k := by
  obtain ⟨vs, _, k⟩ := h
  exact k.ok
theorem WL.dp {H : Hp} {a : Addr} {ks : List (List Str)} (h : WL H a ks) : Dp K H (.ref a) (.list (ks.map wdat)) := by
  obtain ⟨vs, e, k⟩ := h
  exact .lst (.inl (.inl e)) k.dp
theorem niW {H : Hp} {Q : VK} {a : Addr} {ks : List (List Str)} {v : V} {k : List Str} (h : WL H a ks) (hv : WV H v k) (q : Q (.bl (!decide (k ∈ ks))) H) : rNotInD K v (.ref a) H Q :=
  ⟨wdat k, ks.map wdat, hv.dp, h.dp, shaped_word hv.1, shaped_words h.ok, by rw [any_word]; exact q⟩
theorem inW {H : Hp} {Q : VK} {a : Addr} {ks : List (List Str)} {v : V} {k : List Str} (h : WL H a ks) (hv : WV H v k) (q : Q (.bl (decide (k ∈ ks))) H) : rInD K v (.ref a) H Q :=
  ⟨wdat k, ks.map wdat, hv.dp, h.dp, shaped_word hv.1, shaped_words h.ok, by rw [any_word]; exact q⟩
theorem idxW {H : Hp} {Q : VK} {a : Addr} {xs ys : List (List Str)} {v : V} {k : List Str} (h : WL H a (xs ++ k :: ys)) (n : k ∉ xs) (hv : WV H v k) (q : Q (.int (xs.length : Nat)) H) : rIndexD K (.ref a) [v] H Q := by
  refine ⟨a, v, wdat k, (xs ++ k :: ys).map wdat, xs.length, wdat k, rfl, rfl, h.dp, hv.dp, shaped_words h.ok, shaped_word hv.1, ?_, ?_, fun m z l e => ?_, q⟩
  · rw [List.getElem?_map, List.getElem?_append_right (Nat.le_refl _), Nat.sub_self]
    rfl
  · rw [eqv_word]
    exact decide_eq_true rfl
  · rw [List.getElem?_map, List.getElem?_append_left l] at e
    obtain ⟨j, hj, rfl⟩ := Option.map_eq_some_iff.mp e
    rw [eqv_word]
    exact decide_eq_false fun z => n (z ▸ List.mem_of_getElem? hj)
theorem eqW {H : Hp} {Q : VK} {v u : V} {k j : List Str} (h : WV H v k) (g : WV H u j) (q : Q (.bl (decide (k = j))) H) : rEqD K v u H Q :=
  ⟨wdat k, wdat j, h.dp, g.dp, shaped_word h.1, shaped_word g.1, by rw [eqv_word]; exact q⟩
end
end Ln
/-! in, by a class's own __contains__ -/
namespace OwnC
open PySem PySem.W
section
variable {prog : Program} {w : World} {A : Around} {E : Value → Shared → Prop} {s : Shared} {K : Frag} {x C f : Addr} {ox : Obj} {od : Option Obj} {y : Value}
theorem contains_K {Q : Bool → Shared → Prop} (X : K.In s.heap) (I : InstAt s.heap x ox C od) (hs : findIn K (.ref C) "__contains__" = some (some (.ref f))) (hf : isFn K (.ref f) = true)
    (h : wpAny (model prog w) A (call (.ref f) [.ref x, y]) (fun r s' => ∃ b, r = .bool b ∧ Q b s') E s) : wpAny (model prog w) A (contains (.ref x) y) Q E s := by
  unfold contains
  refine wpAny_holding ?_
  rw [stdlibNamesSay?_ref]
  refine wpAny_bind (wpAny_bind (I.type.here ((looks_findIn X hs).here ?_)))
  show wpAny _ A (if (some (Value.ref f) == some Value.none) = true then _ else _) Q E s
  rw [if_neg (by simp)]
  refine wpAny_bind ?_
  unfold callSpecialUnlessNone?
  refine wpAny_bind (wpAny_bind (I.type.here ((looks_findIn X hs).here ?_)))
  refine wpAny_holding (wpAny_bind ((bind_fn X _ (beq_iff_eq.mp hf)).here ?_))
  show wpAny _ A (if (Value.ref f == Value.none) = true then _ else _) _ E s
  rw [if_neg (by simp)]
  refine wpAny_bind (wpAny_mono h (fun v s' hv => ?_) fun _ _ e => e)
  obtain ⟨b, rfl, q⟩ := hv
  exact wpAny_pure (wpAny_truthy_bool q)
end
end OwnC
namespace L2
open PySem PySem.Spec PyProof.Rows
/-- x in o, o of the class at C -/
def rInO (C : Addr) (sp : Sp) (E : XK) : R2 := fun x y H Q => ∃ a dx fs, y = .ref a ∧ H a = some (.ins C dx fs) ∧ sp [.ref a, x] H (fun v H' => ∃ b, v = .bl b ∧ Q (.bl b) H') E
def rNiO (C : Addr) (sp : Sp) (E : XK) : R2 := fun x y H Q => ∃ a dx fs, y = .ref a ∧ H a = some (.ins C dx fs) ∧ sp [.ref a, x] H (fun v H' => ∃ b, v = .bl b ∧ Q (.bl (!b)) H') E
section
variable {X : Cx} {CX : CXT} {C f : Addr} {fd : FuncData} {ps : List Str} {sp : Sp} {k : Nat} {E : XK}
theorem own_in {pins : List (Addr × Obj)} {s : Shared} {σ : St} {H : Hp} {x : V} {a dx : Addr} {fs : List (Str × V)} {u : Value} {R : Bool → VK} (F : FnOk X.prog X.w X.K X.mg X.base CX k f fd ps sp) (hr : Room k X.A)
    (hs : PySem.W.findIn X.K (.ref C) "__contains__" = some (some (.ref f))) (hf : PySem.W.isFn X.K (.ref f) = true) (hb : Binds X.K fd ps []) (hx : Passes CX X E)
    (I : Inv X pins σ H s) (ha : H a = some (.ins C dx fs)) (rx : RelV x u) (h : sp [.ref a, x] H (fun v H' => ∃ b, v = .bl b ∧ R b (.bl b) H') E) :
    wpAny (model X.prog X.w) X.A (contains (.ref a) u) (fun b s' => ∃ H', Inv X pins σ H' s' ∧ R b (.bl b) H') X.xe s := by
  obtain ⟨mA, J, _⟩ := ins_get I.hok ha
  obtain ⟨od, J, _⟩ := J.look
  refine OwnC.contains_K I.kIn J hs hf ?_
  refine wpAny_mono (run_fn (us := [.ref a, u]) (vs := [.ref a, x]) F hr hb .nil hx I (.cons rfl (.cons rx .nil)) h) (fun r s' q => ?_) fun _ _ e => e
  obtain ⟨v, H', I', rv, b, rfl, q⟩ := q
  cases rv
  exact ⟨b, rfl, H', I', q⟩
theorem op_inOwn (F : FnOk X.prog X.w X.K X.mg X.base CX k f fd ps sp) (hr : Room k X.A)
    (hs : PySem.W.findIn X.K (.ref C) "__contains__" = some (some (.ref f))) (hf : PySem.W.isFn X.K (.ref f) = true) (hb : Binds X.K fd ps []) (hx : Passes CX X E) : OpR X (compareOp .In) (rInO C sp E) := by
  intro pins s σ H x y v u Q I rx ry h
  obtain ⟨a, dx, fs, rfl, ha, q⟩ := h
  cases ry
  show wpAny _ _ (do return Value.bool (← contains (.ref a) v)) _ _ _
  refine wpAny_bind (wpAny_mono (own_in (R := fun b v H' => Q (.bl b) H') F hr hs hf hb hx I ha rx q) (fun b s' z => ?_) fun _ _ e => e)
  obtain ⟨H', I', q⟩ := z
  exact wpAny_pure ⟨.bl b, H', I', rfl, q⟩
theorem op_niOwn (F : FnOk X.prog X.w X.K X.mg X.base CX k f fd ps sp) (hr : Room k X.A)
    (hs : PySem.W.findIn X.K (.ref C) "__contains__" = some (some (.ref f))) (hf : PySem.W.isFn X.K (.ref f) = true) (hb : Binds X.K fd ps []) (hx : Passes CX X E) : OpR X (compareOp .NotIn) (rNiO C sp E) := by
  intro pins s σ H x y v u Q I rx ry h
  obtain ⟨a, dx, fs, rfl, ha, q⟩ := h
  cases ry
  show wpAny _ _ (do return Value.bool (!(← contains (.ref a) v))) _ _ _
  refine wpAny_bind (wpAny_mono (own_in (R := fun b v H' => Q (.bl (!b)) H') F hr hs hf hb hx I ha rx q) (fun b s' z => ?_) fun _ _ e => e)
  obtain ⟨H', I', q⟩ := z
  exact wpAny_pure ⟨.bl (!b), H', I', rfl, q⟩
end
end L2
namespace Rd
open PySem PySem.Spec PyProof.Rows L2
section
variable {P : Program} {w : World} {K : PySem.W.Frag} {mg : Str → Option Value} {base : Heap}
/-- a def of a class, which R finds, stands as the text says -/
def DefR (K : PySem.W.Frag) (R : Addr → Prop) (x qual : Str) (st : Stmt) (ps : List Str) : Prop := ∃ f fd dvs, R f ∧ FunD K x qual (defArgs st) (defBody st) (defScope st) dvs [] f fd ∧ Binds K fd ps []
/-- a def of a class, which R finds, keeps this promise; it may raise -/
def CalR (P : Program) (w : World) (K : PySem.W.Frag) (mg : Str → Option Value) (base : Heap) (k : Nat) (R : Addr → Prop) (ps : List Str) (sp : Sp) : Prop :=
  ∃ f fd, R f ∧ FnOk P w K mg base (L2N.CX P w) k f fd ps sp ∧ Binds K fd ps []
theorem DefR.ok {R : Addr → Prop} {x qual : Str} {st : Stmt} {ps N : List Str} {k : Nat} {sp : Sp} (F : DefR K R x qual st ps) (S : FnScope N ps (defScope st)) (len : ∀ vs H Q E, sp vs H Q E → vs.length = ps.length)
    (body : ∀ (f : Addr) (cdv : Value) (A : Around) (outer : List Env) (s : Shared) (H : Hp) (vs : List V) (Q : VK) (E : XK), Room k (A.deeper (envOfC qual (defScope st) s.heap.objs.size f cdv)) → sp vs H Q E →
      ∃ t, PSs (cxOf (L2N.CX P w) P w K mg base N qual (defScope st) f cdv A outer s H E) (defBody st) t ∧ t ⟨fun _ H' => Q .non H', Q, fun _ _ => False, fun _ _ => False⟩ (L2.start N vs) H) : CalR P w K mg base (k + 1) R ps sp := by
  obtain ⟨f, fd, dvs, r, F, b⟩ := F
  exact ⟨f, fd, r, F.ok S len (fun cdv A outer s H vs Q E hr h => body f cdv A outer s H vs Q E hr h), b⟩
theorem quietN {X : Cx} : Passes (L2N.CX X.prog X.w) X E0 := fun _ _ _ _ _ _ _ h => by
  obtain ⟨_, _, _, _, _, _, _, _, _, _, _, _, h⟩ := h
  exact h.elim
end
def PropR (K : PySem.W.Frag) (C : Addr) (f : Str) : Addr → Prop := fun g => ∃ p, PropOf K C f p g
def InR (K : PySem.W.Frag) (C : Addr) : Addr → Prop := fun g => PySem.W.findIn K (.ref C) "__contains__" = some (some (.ref g)) ∧ PySem.W.isFn K (.ref g) = true
theorem propR_mk {K : PySem.W.Frag} {C p g : Addr} {f : Str} {od : Option Addr} {rest : List Value} {sl : Array (Option Value)} (at_ : PySem.W.findIn K (.ref C) f = some (some (.ref p))) (get : PySem.W.specialIn K (.ref p) "__get__" = some (some (.builtin "property.__get__"))) (tak : PySem.W.takesIn K (.ref p) = some true)
    (l : K.lookup p = some ⟨.type "property", od, .fields (List.toArray (.ref g :: rest)), sl⟩) : PropR K C f g := ⟨p, at_, get, tak, rest, by
  unfold PySem.W.recIn
  rw [l]
  rfl⟩
section
variable {X : Cx} {k j : Nat} {C : Addr} {ps : List Str} {sp : Sp} {E : XK} {f m : Str}
theorem pe_propR {e : Expr} {pos : Pos} {ta : TE} (F : CalR X.prog X.w X.K X.mg X.base j (PropR X.K C f) ps sp) (he : PE X e ta) (c : Cls X.K C) (hr : Room k X.A) (hk : j + 1 ≤ k := by decide)
    (hab : attributeBase e f X.env (eval e X.env) = eval e X.env := by rfl) : PE X (.Attribute e f pos) (tProp C sp [] E0 ta) := by
  obtain ⟨g, fd, ⟨p, r⟩, F, b⟩ := F
  exact pe_prop he c r F (hr.mono hk) b .nil quietN hab
theorem pe_methR {o e : Expr} {es : List Expr} {pos apos : Pos} {ta : TE} {t : TA} {pl : Sem Bool} (F : CalR X.prog X.w X.K X.mg X.base j (Meth X.K C m) ps sp) (he : PE X o ta) (c : Cls X.K C) (hr : Room k X.A) (ha : PA X (e :: es) t) (hk : j ≤ k := by decide)
    (hst : starEach (e :: es) X.env = (false, eval e X.env) :: starEach es X.env := by rfl) (hpl : (backTo pos (starEach es X.env)).any (·.1) = false := by rfl)
    (ht : eval (.Call (.Attribute o m apos) (e :: es) [] pos) X.env = (do
      let ov ← eval o X.env
      standAt apos.atName
      let (f, first) ← holding [ov] (getMethod ov m pl)
      callWith pos f first (backTo pos (starEach (e :: es) X.env)) (backToKw pos (keywordEach [] X.env))) := by rfl) :
    PE X (.Call (.Attribute o m apos) (e :: es) [] pos) (tMeth C m sp [] E0 ta t) := by
  obtain ⟨g, fd, r, F, b⟩ := F
  exact pe_meth he c r F (hr.mono hk) b .nil quietN ha hst hpl ht
theorem pe_makeR {e : Expr} {es : List Expr} {p pos : Pos} {t : TA} {x : Str} (F : CalR X.prog X.w X.K X.mg X.base j (Mk X.K C) ps sp) (hm : X.mg x = some (.ref C)) (hr : Room k X.A) (ha : PA X (e :: es) t) (hk : j + 1 ≤ k := by decide) (hg : Gl X x := by rfl)
    (hdb : (x == ("__debug__" : Str)) = false := by decide) (he : starEach (e :: es) X.env = (false, eval e X.env) :: starEach es X.env := by rfl) (hpl : (backTo pos (starEach es X.env)).any (·.1) = false := by rfl) :
    PE X (.Call (.Name x p) (e :: es) [] pos) (tMake C sp [] E0 t) := by
  obtain ⟨g, fd, r, F, b⟩ := F
  exact pe_make r F (hr.mono hk) hg hm b .nil quietN ha hdb he hpl
theorem op_inR (F : CalR X.prog X.w X.K X.mg X.base j (InR X.K C) ps sp) (hr : Room k X.A) (hk : j ≤ k := by decide) : OpR X (compareOp .In) (rInO C sp E0) := by
  obtain ⟨g, fd, ⟨r, i⟩, F, b⟩ := F
  exact op_inOwn F (hr.mono hk) r i b quietN
theorem op_niR (F : CalR X.prog X.w X.K X.mg X.base j (InR X.K C) ps sp) (hr : Room k X.A) (hk : j ≤ k := by decide) : OpR X (compareOp .NotIn) (rNiO C sp E0) := by
  obtain ⟨g, fd, ⟨r, i⟩, F, b⟩ := F
  exact op_niOwn F (hr.mono hk) r i b quietN
end
/-- the class x: its name, no class attribute of its fields' names -/
structure ClsF (K : PySem.W.Frag) (mg : Str → Option Value) (D : Str → Addr) (x : Str) (fs : List Str) : Prop where
  cl : Cls K (D x)
  na : ∀ f ∈ fs, NoAttr K (D x) f
  mg : mg x = some (.ref (D x))
section
variable {K : PySem.W.Frag} {R : Addr → Prop} {x qual : Str} {st : Stmt} {ps : List Str} {f : Addr} {oc : Value} {od an : Option Addr} {osl : Array (Option Value)} {kV doc pm cdv ct : Value}
/-- what the top has left of a def of a class -/
theorem defR_mk (r : R f) (l : K.lookup f = some ⟨oc, od, .func (PySem.W.fnOf x qual (defArgs st) (defBody st) (defScope st) .none kV doc pm an cdv ct), osl⟩) (c : PySem.W.codeIn K cdv qual = true) (k : PySem.W.keepIn K (.ref f) = true)
    (hb : ∀ (kV doc pm : Value) (an : Option Addr) (cdv ct : Value) (us : List Value), us.length = ps.length → bindArgs (PySem.W.fnOf x qual (defArgs st) (defBody st) (defScope st) .none kV doc pm an cdv ct) ⟨us, []⟩ = pure (ps.zip us)) : DefR K R x qual st ps :=
  ⟨f, _, [], r, ⟨⟨oc, od, .none, kV, doc, pm, an, cdv, ct, osl, rfl, l, c, .inl ⟨rfl, rfl⟩, .inl rfl⟩, k⟩, .all (hb kV doc pm an cdv ct)⟩
/-- the same of one whose last two parameters have defaults, which are objects -/
theorem defR_mk2 {T a b : Addr} {oc2 : Value} {od2 : Option Addr} {n2 : Nat} {osl2 : Array (Option Value)} (r : R f) (l : K.lookup f = some ⟨oc, od, .func (PySem.W.fnOf x qual (defArgs st) (defBody st) (defScope st) (.ref T) kV doc pm an cdv ct), osl⟩) (c : PySem.W.codeIn K cdv qual = true) (k : PySem.W.keepIn K (.ref f) = true)
    (lT : K.lookup T = some ⟨oc2, od2, .seq #[.ref a, .ref b] n2, osl2⟩)
    (hb : ∀ (T : Addr) (kV doc pm : Value) (an : Option Addr) (cdv ct : Value) (us its : List Value), us.length = ps.length → its.length = 2 →
      ∃ k, bindArgs (PySem.W.fnOf x qual (defArgs st) (defBody st) (defScope st) (.ref T) kV doc pm an cdv ct) ⟨us, []⟩ = seqItems? (.ref T) >>= k ∧ k (some its.toArray) = pure (ps.zip us)) : DefR K R x qual st ps := by
  have F : FunD K x qual (defArgs st) (defBody st) (defScope st) [.ref a, .ref b] [] f (PySem.W.fnOf x qual (defArgs st) (defBody st) (defScope st) (.ref T) kV doc pm an cdv ct) :=
    ⟨⟨oc, od, .ref T, kV, doc, pm, an, cdv, ct, osl, rfl, l, c, .inr ⟨List.cons_ne_nil _ _, T, _, [.ref a, .ref b], n2, rfl, lT, rfl, .cons rfl (.cons rfl .nil)⟩, .inl rfl⟩, k⟩
  obtain ⟨ds, hv, bs⟩ := F.binds1 (ps := ps) ps.length 2 (List.cons_ne_nil _ _) rfl fun T kV doc pm an cdv ct us its h1 h2 => by
    obtain ⟨k, e1, e2⟩ := hb T kV doc pm an cdv ct us its h1 h2
    refine ⟨k, e1, ?_⟩
    rw [e2, List.drop_of_length_le (by rw [h2]; exact Nat.le_refl _), List.append_nil]
  cases hv
  exact ⟨f, _, _, r, F, bs⟩
end
end Rd
/-! sorted of a tuple of texts -/
namespace PyProof.Rows
open PySem
section
variable {prog : Program} {w : World} {A : Around} {E : Value → Shared → Prop} {s : Shared}
theorem collect_tupO {l : Addr} {o : Obj} {n : Nat} {vs : List Value} {Q : List Value → Shared → Prop} (ho : s.heap.get? l = some o) (hc : o.cls = .type "tuple") (hd : o.data = .seq vs.toArray n)
    (h : Q vs { s with heap := (s.heap.push (seqObj "list" #[] 0)).update s.heap.objs.size (Obj.mapSeq (· ++ vs.toArray)) }) (hsz : vs.length ≤ sizeLine) :
    wpAny (model prog w) A (collect (.ref l)) Q E s := by
  unfold collect
  refine wpAny_bind (wpAny_runValue (codeAny_builtin entry_proto_collect' ?_))
  show wpAny _ _ (do again (.builtin "list.__iadd__" ⟨[← newList [], .ref l], []⟩)) _ _ s
  refine wpAny_bind (wpAny_newList (wpAny_pure ⟨Code.quiet_builtin _ (by decide +kernel), codeAny_builtin entry_list_iadd' ?_⟩))
  show wpAny _ _ (Builtin.List.listExtendWith (.ref s.heap.objs.size) (.ref l) (.ref s.heap.objs.size)) _ _ { s with heap := s.heap.push (seqObj "list" #[] 0) }
  unfold Builtin.List.listExtendWith
  have ho' : (s.heap.push (seqObj "list" #[] 0)).get? l = some o := Heap.get?_push_of_some _ ho
  refine wpAny_bind (wpAny_typeOf (T := "tuple") ⟨o, ho', hc⟩ ?_)
  have ht : (Value.type "tuple" == Value.type "tuple") = true := by rfl
  rw [if_pos (by rw [ht]; simp)]
  refine wpAny_bind (listItems_at ho' hd ?_)
  refine wpAny_bind (listItems_at (xs := #[]) (n := 0) (Heap.get?_push_size _ rfl) rfl ?_)
  rw [if_neg (by simp)]
  refine wpAny_bind (listUpdate_at (xs := #[]) (n := 0) (Heap.get?_push_size _ rfl) rfl ?_ (Nat.zero_le _) (by show (#[] ++ vs.toArray).size ≤ sizeLine + 1; simp only [Array.size_append, List.size_toArray, List.length_nil]; omega))
  refine wpAny_pure ?_
  show wpAny (model prog w) A (do
      let o ← load s.heap.objs.size
      match o.data with
      | .seq xs _ => pure xs.toList
      | _ => unsupported "internal:collect") Q E { s with heap := (s.heap.push (seqObj "list" #[] 0)).update s.heap.objs.size (Obj.mapSeq (· ++ vs.toArray)) }
  refine wpAny_bind (wpAny_load (get?_update_seq (Heap.get?_push_size _ rfl) _) ?_)
  show wpAny _ _ (pure ((#[] : Array Value) ++ vs.toArray).toList) Q E _
  rw [show ((#[] : Array Value) ++ vs.toArray).toList = vs by simp]
  exact wpAny_pure h
theorem sorted_strsT {l : Addr} {o : Obj} {n : Nat} {vs : List Value} {ss : List Str} {Q : Value → Shared → Prop} (ho : s.heap.get? l = some o) (hc : o.cls = .type "tuple") (hd : o.data = .seq vs.toArray n) (hS : StrsAre vs ss) (hL : vs.length ≤ sizeLine)
    (h : ∀ (out : Array Value) (ss' : List Str), StrsAre out.toList ss' → ss'.Perm ss → sortedS ss' = true → Q (.ref (s.heap.objs.size + 1)) { s with heap := sortedAll s.heap vs out }) :
    wpAny (model prog w) A (call (.builtin "sorted") [.ref l]) Q E s := by
  refine Calls.call_function_entry kind_sorted plain_sorted entry_sorted (args_sorted1 _) ?_
  unfold Builtin.«sorted»
  refine wpAny_bind (m := checkCount "sorted" 1 1 _) (wpAny_pure ?_)
  refine wpAny_bind (collect_tupO ho hc hd ?_ hL)
  refine wpAny_bind (wpAny_newList ?_ hL)
  have hsz : ((s.heap.push (seqObj "list" #[] 0)).update s.heap.objs.size (Obj.mapSeq (· ++ vs.toArray))).objs.size = s.heap.objs.size + 1 := by
    rw [Heap.size_update, size_push']
  have hoL : (((s.heap.push (seqObj "list" #[] 0)).update s.heap.objs.size (Obj.mapSeq (· ++ vs.toArray))).push (seqObj "list" vs.toArray 0)).get? (s.heap.objs.size + 1) = some (seqObj "list" vs.toArray 0) := by
    rw [← hsz]; exact Heap.get?_push_size _ rfl
  show wpAny _ _ _ _ _ { s with heap := ((s.heap.push (seqObj "list" #[] 0)).update s.heap.objs.size (Obj.mapSeq (· ++ vs.toArray))).push (seqObj "list" vs.toArray 0) }
  rw [hsz]
  refine wpAny_bind (wpAny_holding (wpAny_call_entry slot_list_sort ⟨_, hoL, rfl⟩ entry_list_sort (list_sort_treeKAny strKind_oneLt hoL hS.keysOf (fun v₁ v₂ rest e => keyKind_strs (by rw [← e]; exact hS)) hL fun st' a1 a2 => ⟨_, rfl, ?_⟩) (args_list_sort _)))
  obtain ⟨ss', h1, h2, h3⟩ := sorted_out_str hS a1 a2
  exact wpAny_pure ⟨_, rfl, h _ ss' h1 h2 h3⟩
end
end PyProof.Rows
namespace Rd
open PySem PySem.Spec PyProof.Rows L2
/-- sorted(t), t a tuple of texts -/
def rSortedST (K : PySem.W.Frag) : List V → Hp → VK → Prop := fun vs H Q => ∃ (a : Addr) (xs : List Str), vs = [V.ref a] ∧ SqT K H a (xs.map V.str) ∧
  ∀ (ys : List Str) (p : Addr), ys.Perm xs → sortedS ys = true → H p = none → Q (.ref p) (upd H p (.lst (ys.map V.str)))
section
variable {X : Cx}
theorem cr_sortedST : CallR X (.builtin "sorted") (rSortedST X.K) := by
  intro pins s σ H vs us Q I r h
  obtain ⟨a, xs, rfl, hs, q⟩ := h
  obtain ⟨its, rv, ⟨o, ho, hc, n, hd⟩, hz⟩ := I.tuple hs
  rw [Vals.ref1 r]
  have hlen0 := rv.length
  rw [List.length_map] at hlen0 hz
  refine sorted_strsT ho hc hd rv.strs (by omega) fun out ys h1 h2 h3 => ?_
  obtain ⟨ep, he'⟩ := PyProof.Rows.sortedAll_at s.heap its out
  have hlen : (ys.map V.str).length ≤ sizeLine := by rw [List.length_map, h2.length_eq]; exact hz
  exact ⟨.ref _, upd H (s.heap.objs.size + 1) (.lst (ys.map V.str)), I.laid (t' := s.toks) (fun _ _ => PyProof.Rows.sortedAll_old) (Nat.le_succ _) ⟨hlen, out.toList, ep, vals_of_strs h1, he'⟩, rfl, q ys _ h2 h3 (I.hok.fresh (Nat.le_succ _))⟩
theorem q_sortedSTK {K : PySem.W.Frag} (h : X.K = K) : CallR X (.builtin "sorted") (rSortedST K) := h ▸ cr_sortedST
end
theorem sl_tupK {X : Cx} {K : PySem.W.Frag} (h : X.K = K) : SlR X (rSlT K) := h ▸ sl_tup
/-- two texts, sorted -/
theorem sortT2 {K : PySem.W.Frag} {H : Hp} {Q : VK} {a : Addr} {x y : Str} (h : SqT K H a [V.str x, .str y]) (q : ∀ p, H p = none → Q (.ref p) (upd H p (.lst ((if cl y < cl x then [y, x] else [x, y]).map V.str)))) : rSortedST K [.ref a] H Q :=
  ⟨a, [x, y], rfl, h, fun ys p pm s n => by
    have e : ys = if cl y < cl x then [y, x] else [x, y] := by
      refine sorted_one (pm.trans ?_) s ?_
      · split
        · exact .swap ..
        · exact .refl _
      · split
        · rename_i h
          have : ltCps (cl x) (cl y) = false := ltCps_not.mpr fun k => List.lt_irrefl _ (List.lt_trans h k)
          simpa [sortedS, risingS] using this
        · rename_i h
          have : ltCps (cl y) (cl x) = false := ltCps_not.mpr h
          simpa [sortedS, risingS] using this
    rw [e]
    exact q p n⟩
end Rd
/-! texts of signs below 128 -/
namespace Ln
open PySem PySem.Spec PyProof.Rows L2 Rd Ty
def As (z : Str) : Prop := ∀ x ∈ cl z, x < 128
theorem As.ok {z : Str} (h : As z) : PyData.strOk z = true := by
  unfold PyData.strOk
  rw [← Array.all_toList, List.all_eq_true]
  exact fun x hx => decide_eq_true (Nat.lt_of_lt_of_le (h x hx) (by decide))
theorem As.nm {z : Str} (h : Nm (cl z)) : As z := nm_128 h
theorem As.add {a b : Str} (h : As a) (g : As b) : As (a ++ b) := fun x hx => by
  rw [cl_add] at hx
  exact (List.mem_append.mp hx).elim (h x) (g x)
theorem As.one {z : Str} (h : As z) {x : Nat} (m : x ∈ cl z) : As ⟨#[x]⟩ := fun y hy => by
  have hy : y ∈ [x] := hy
  rw [List.mem_singleton.mp hy]
  exact h x m
theorem As.cut {z : Str} (h : As z) (lo hi : Option Int) : As (cutS z lo hi) := fun x hx => by
  have hx : x ∈ (z.cps.toList.drop (HT.sIx z.length 0 lo)).take (HT.sIx z.length z.length hi - HT.sIx z.length 0 lo) := by
    have e : cl (cutS z lo hi) = (z.cps.toList.drop (HT.sIx z.length 0 lo)).take (HT.sIx z.length z.length hi - HT.sIx z.length 0 lo) := by
      unfold cutS
      simp [cl]
    rw [e] at hx
    exact hx
  exact h x (List.mem_of_mem_drop (List.mem_of_mem_take hx))
theorem mem_fold (z : Str) {x : Nat} : ∀ (k : Nat) (a : Array Nat), x ∈ ((List.replicate k z.cps).foldl (· ++ ·) a).toList → x ∈ a.toList ∨ x ∈ cl z
  | 0, a, h => .inl h
  | k + 1, a, h => by
    rw [List.replicate_succ, List.foldl_cons] at h
    rcases mem_fold z k _ h with h | h
    · rw [Array.toList_append] at h
      exact List.mem_append.mp h
    · exact .inr h
theorem As.mul {z : Str} (h : As z) (n : Int) : As (Txt.mul z n) := fun x hx => by
  unfold Txt.mul at hx
  split at hx
  · cases hx
  · split at hx
    · exact h x hx
    · rcases mem_fold z _ _ hx with k | k
      · cases k
      · exact h x k
theorem As.up {z : Str} (h : As z) : As (Txt.upper z) := fun x hx => by
  have e : z = SX.S (cl z) := cl_inj rfl
  have u := SX.upper_S (a := cl z) (by
    rw [List.all_eq_true]
    exact fun c hc => decide_eq_true (h c hc))
  rw [← e] at u
  rw [u] at hx
  have hx : x ∈ (cl z).map up1 := hx
  obtain ⟨y, hy, rfl⟩ := List.mem_map.mp hx
  have := h y hy
  unfold up1
  split <;> omega
theorem As.lit {z : Str} (h : ((cl z).all fun c => decide (c < 128)) = true) : As z := fun x hx => of_decide_eq_true (List.all_eq_true.mp h x hx)
end Ln
namespace Kj
open PySem PySem.Spec PyProof.Rows L2 Rd
def topS (i : Nat) : Stmt := PySem.Challenge.pw_keptjoined_k10_is_way.main.body.getD i (.Pass ⟨0, 0, 0, 0⟩)
/-! ### heaps by their names -/
theorem hpS {H G : Hp} {a : Addr} {o : HO} (s : Same H G) (h : H a = some o) : G a = some o := s _ _ h
theorem newOne {H G : Hp} {l : Addr} {o : HO} (n : H l = none) (e : upd H l o = G) : Same H G ∧ G l = some o := by
  subst e
  exact ⟨same_upd n, upd_same⟩
theorem nd_k : (("k" : Str) == ("__debug__" : Str)) = false := by decide +kernel
theorem nc_k : (("k" : Str) == ("__classdict__" : Str)) = false := by decide +kernel
theorem nn_k : ("k" : Str) ≠ "__name__" := by decide +kernel
theorem nd__wall : (("_wall" : Str) == ("__debug__" : Str)) = false := by decide +kernel
theorem nc__wall : (("_wall" : Str) == ("__classdict__" : Str)) = false := by decide +kernel
theorem nn__wall : ("_wall" : Str) ≠ "__name__" := by decide +kernel
theorem nd_word : (("word" : Str) == ("__debug__" : Str)) = false := by decide +kernel
theorem nc_word : (("word" : Str) == ("__classdict__" : Str)) = false := by decide +kernel
theorem nn_word : ("word" : Str) ≠ "__name__" := by decide +kernel
theorem nd_c : (("c" : Str) == ("__debug__" : Str)) = false := by decide +kernel
theorem nc_c : (("c" : Str) == ("__classdict__" : Str)) = false := by decide +kernel
theorem nn_c : ("c" : Str) ≠ "__name__" := by decide +kernel
theorem nd_isinstance : (("isinstance" : Str) == ("__debug__" : Str)) = false := by decide +kernel
theorem nc_isinstance : (("isinstance" : Str) == ("__classdict__" : Str)) = false := by decide +kernel
theorem nn_isinstance : ("isinstance" : Str) ≠ "__name__" := by decide +kernel
theorem nd_str : (("str" : Str) == ("__debug__" : Str)) = false := by decide +kernel
theorem nc_str : (("str" : Str) == ("__classdict__" : Str)) = false := by decide +kernel
theorem nn_str : ("str" : Str) ≠ "__name__" := by decide +kernel
theorem nd_len : (("len" : Str) == ("__debug__" : Str)) = false := by decide +kernel
theorem nc_len : (("len" : Str) == ("__classdict__" : Str)) = false := by decide +kernel
theorem nn_len : ("len" : Str) ≠ "__name__" := by decide +kernel
theorem nd_all : (("all" : Str) == ("__debug__" : Str)) = false := by decide +kernel
theorem nc_all : (("all" : Str) == ("__classdict__" : Str)) = false := by decide +kernel
theorem nn_all : ("all" : Str) ≠ "__name__" := by decide +kernel
theorem nd_is_name : (("is_name" : Str) == ("__debug__" : Str)) = false := by decide +kernel
theorem nc_is_name : (("is_name" : Str) == ("__classdict__" : Str)) = false := by decide +kernel
theorem nn_is_name : ("is_name" : Str) ≠ "__name__" := by decide +kernel
theorem nd_check_name : (("check_name" : Str) == ("__debug__" : Str)) = false := by decide +kernel
theorem nc_check_name : (("check_name" : Str) == ("__classdict__" : Str)) = false := by decide +kernel
theorem nn_check_name : ("check_name" : Str) ≠ "__name__" := by decide +kernel
theorem nd_houses : (("houses" : Str) == ("__debug__" : Str)) = false := by decide +kernel
theorem nc_houses : (("houses" : Str) == ("__classdict__" : Str)) = false := by decide +kernel
theorem nn_houses : ("houses" : Str) ≠ "__name__" := by decide +kernel
theorem nd_made : (("made" : Str) == ("__debug__" : Str)) = false := by decide +kernel
theorem nc_made : (("made" : Str) == ("__classdict__" : Str)) = false := by decide +kernel
theorem nn_made : ("made" : Str) ≠ "__name__" := by decide +kernel
theorem nd_house : (("house" : Str) == ("__debug__" : Str)) = false := by decide +kernel
theorem nc_house : (("house" : Str) == ("__classdict__" : Str)) = false := by decide +kernel
theorem nn_house : ("house" : Str) ≠ "__name__" := by decide +kernel
theorem nd_sorted : (("sorted" : Str) == ("__debug__" : Str)) = false := by decide +kernel
theorem nc_sorted : (("sorted" : Str) == ("__classdict__" : Str)) = false := by decide +kernel
theorem nn_sorted : ("sorted" : Str) ≠ "__name__" := by decide +kernel
theorem nd_list : (("list" : Str) == ("__debug__" : Str)) = false := by decide +kernel
theorem nc_list : (("list" : Str) == ("__classdict__" : Str)) = false := by decide +kernel
theorem nn_list : ("list" : Str) ≠ "__name__" := by decide +kernel
theorem nd_check_houses : (("check_houses" : Str) == ("__debug__" : Str)) = false := by decide +kernel
theorem nc_check_houses : (("check_houses" : Str) == ("__classdict__" : Str)) = false := by decide +kernel
theorem nn_check_houses : ("check_houses" : Str) ≠ "__name__" := by decide +kernel
theorem nd_a : (("a" : Str) == ("__debug__" : Str)) = false := by decide +kernel
theorem nc_a : (("a" : Str) == ("__classdict__" : Str)) = false := by decide +kernel
theorem nn_a : ("a" : Str) ≠ "__name__" := by decide +kernel
theorem nd_b : (("b" : Str) == ("__debug__" : Str)) = false := by decide +kernel
theorem nc_b : (("b" : Str) == ("__classdict__" : Str)) = false := by decide +kernel
theorem nn_b : ("b" : Str) ≠ "__name__" := by decide +kernel
theorem nd_ordered : (("ordered" : Str) == ("__debug__" : Str)) = false := by decide +kernel
theorem nc_ordered : (("ordered" : Str) == ("__classdict__" : Str)) = false := by decide +kernel
theorem nn_ordered : ("ordered" : Str) ≠ "__name__" := by decide +kernel
theorem nd_words : (("words" : Str) == ("__debug__" : Str)) = false := by decide +kernel
theorem nc_words : (("words" : Str) == ("__classdict__" : Str)) = false := by decide +kernel
theorem nn_words : ("words" : Str) ≠ "__name__" := by decide +kernel
theorem nd_check_names : (("check_names" : Str) == ("__debug__" : Str)) = false := by decide +kernel
theorem nc_check_names : (("check_names" : Str) == ("__classdict__" : Str)) = false := by decide +kernel
theorem nn_check_names : ("check_names" : Str) ≠ "__name__" := by decide +kernel
theorem nd_check_stand : (("check_stand" : Str) == ("__debug__" : Str)) = false := by decide +kernel
theorem nc_check_stand : (("check_stand" : Str) == ("__classdict__" : Str)) = false := by decide +kernel
theorem nn_check_stand : ("check_stand" : Str) ≠ "__name__" := by decide +kernel
theorem nd_line : (("line" : Str) == ("__debug__" : Str)) = false := by decide +kernel
theorem nc_line : (("line" : Str) == ("__classdict__" : Str)) = false := by decide +kernel
theorem nn_line : ("line" : Str) ≠ "__name__" := by decide +kernel
theorem nd_check_line : (("check_line" : Str) == ("__debug__" : Str)) = false := by decide +kernel
theorem nc_check_line : (("check_line" : Str) == ("__classdict__" : Str)) = false := by decide +kernel
theorem nn_check_line : ("check_line" : Str) ≠ "__name__" := by decide +kernel
theorem nd_standing : (("standing" : Str) == ("__debug__" : Str)) = false := by decide +kernel
theorem nc_standing : (("standing" : Str) == ("__classdict__" : Str)) = false := by decide +kernel
theorem nn_standing : ("standing" : Str) ≠ "__name__" := by decide +kernel
theorem nd_check_new_line : (("check_new_line" : Str) == ("__debug__" : Str)) = false := by decide +kernel
theorem nc_check_new_line : (("check_new_line" : Str) == ("__classdict__" : Str)) = false := by decide +kernel
theorem nn_check_new_line : ("check_new_line" : Str) ≠ "__name__" := by decide +kernel
theorem nd_check_line_stands : (("check_line_stands" : Str) == ("__debug__" : Str)) = false := by decide +kernel
theorem nc_check_line_stands : (("check_line_stands" : Str) == ("__classdict__" : Str)) = false := by decide +kernel
theorem nn_check_line_stands : ("check_line_stands" : Str) ≠ "__name__" := by decide +kernel
theorem nd_web : (("web" : Str) == ("__debug__" : Str)) = false := by decide +kernel
theorem nc_web : (("web" : Str) == ("__classdict__" : Str)) = false := by decide +kernel
theorem nn_web : ("web" : Str) ≠ "__name__" := by decide +kernel
theorem nd_way : (("way" : Str) == ("__debug__" : Str)) = false := by decide +kernel
theorem nc_way : (("way" : Str) == ("__classdict__" : Str)) = false := by decide +kernel
theorem nn_way : ("way" : Str) ≠ "__name__" := by decide +kernel
theorem nd_met : (("met" : Str) == ("__debug__" : Str)) = false := by decide +kernel
theorem nc_met : (("met" : Str) == ("__classdict__" : Str)) = false := by decide +kernel
theorem nn_met : ("met" : Str) ≠ "__name__" := by decide +kernel
theorem nd_start : (("start" : Str) == ("__debug__" : Str)) = false := by decide +kernel
theorem nc_start : (("start" : Str) == ("__classdict__" : Str)) = false := by decide +kernel
theorem nn_start : ("start" : Str) ≠ "__name__" := by decide +kernel
theorem nd_stop : (("stop" : Str) == ("__debug__" : Str)) = false := by decide +kernel
theorem nc_stop : (("stop" : Str) == ("__classdict__" : Str)) = false := by decide +kernel
theorem nn_stop : ("stop" : Str) ≠ "__name__" := by decide +kernel
theorem nd_is_way : (("is_way" : Str) == ("__debug__" : Str)) = false := by decide +kernel
theorem nc_is_way : (("is_way" : Str) == ("__classdict__" : Str)) = false := by decide +kernel
theorem nn_is_way : ("is_way" : Str) ≠ "__name__" := by decide +kernel
theorem nd_Web_houses : (("Web_houses" : Str) == ("__debug__" : Str)) = false := by decide +kernel
theorem nc_Web_houses : (("Web_houses" : Str) == ("__classdict__" : Str)) = false := by decide +kernel
theorem nn_Web_houses : ("Web_houses" : Str) ≠ "__name__" := by decide +kernel
theorem nd_Web_contains : (("Web_contains" : Str) == ("__debug__" : Str)) = false := by decide +kernel
theorem nc_Web_contains : (("Web_contains" : Str) == ("__classdict__" : Str)) = false := by decide +kernel
theorem nn_Web_contains : ("Web_contains" : Str) ≠ "__name__" := by decide +kernel
theorem nd_Web_ends : (("Web_ends" : Str) == ("__debug__" : Str)) = false := by decide +kernel
theorem nc_Web_ends : (("Web_ends" : Str) == ("__classdict__" : Str)) = false := by decide +kernel
theorem nn_Web_ends : ("Web_ends" : Str) ≠ "__name__" := by decide +kernel
theorem nd_script : (("script" : Str) == ("__debug__" : Str)) = false := by decide +kernel
theorem nc_script : (("script" : Str) == ("__classdict__" : Str)) = false := by decide +kernel
theorem nn_script : ("script" : Str) ≠ "__name__" := by decide +kernel
theorem nd_cells : (("cells" : Str) == ("__debug__" : Str)) = false := by decide +kernel
theorem nc_cells : (("cells" : Str) == ("__classdict__" : Str)) = false := by decide +kernel
theorem nn_cells : ("cells" : Str) ≠ "__name__" := by decide +kernel
theorem nd_state : (("state" : Str) == ("__debug__" : Str)) = false := by decide +kernel
theorem nc_state : (("state" : Str) == ("__classdict__" : Str)) = false := by decide +kernel
theorem nn_state : ("state" : Str) ≠ "__name__" := by decide +kernel
theorem nd_cell : (("cell" : Str) == ("__debug__" : Str)) = false := by decide +kernel
theorem nc_cell : (("cell" : Str) == ("__classdict__" : Str)) = false := by decide +kernel
theorem nn_cell : ("cell" : Str) ≠ "__name__" := by decide +kernel
theorem nd_int : (("int" : Str) == ("__debug__" : Str)) = false := by decide +kernel
theorem nc_int : (("int" : Str) == ("__classdict__" : Str)) = false := by decide +kernel
theorem nn_int : ("int" : Str) ≠ "__name__" := by decide +kernel
theorem nd__law_store : (("_law_store" : Str) == ("__debug__" : Str)) = false := by decide +kernel
theorem nc__law_store : (("_law_store" : Str) == ("__classdict__" : Str)) = false := by decide +kernel
theorem nn__law_store : ("_law_store" : Str) ≠ "__name__" := by decide +kernel
theorem nd_store : (("store" : Str) == ("__debug__" : Str)) = false := by decide +kernel
theorem nc_store : (("store" : Str) == ("__classdict__" : Str)) = false := by decide +kernel
theorem nn_store : ("store" : Str) ≠ "__name__" := by decide +kernel
theorem nd_many : (("many" : Str) == ("__debug__" : Str)) = false := by decide +kernel
theorem nc_many : (("many" : Str) == ("__classdict__" : Str)) = false := by decide +kernel
theorem nn_many : ("many" : Str) ≠ "__name__" := by decide +kernel
theorem nd_digits : (("digits" : Str) == ("__debug__" : Str)) = false := by decide +kernel
theorem nc_digits : (("digits" : Str) == ("__classdict__" : Str)) = false := by decide +kernel
theorem nn_digits : ("digits" : Str) ≠ "__name__" := by decide +kernel
theorem nd_tick : (("tick" : Str) == ("__debug__" : Str)) = false := by decide +kernel
theorem nc_tick : (("tick" : Str) == ("__classdict__" : Str)) = false := by decide +kernel
theorem nn_tick : ("tick" : Str) ≠ "__name__" := by decide +kernel
theorem nd_place : (("place" : Str) == ("__debug__" : Str)) = false := by decide +kernel
theorem nc_place : (("place" : Str) == ("__classdict__" : Str)) = false := by decide +kernel
theorem nn_place : ("place" : Str) ≠ "__name__" := by decide +kernel
theorem nd_mixed : (("mixed" : Str) == ("__debug__" : Str)) = false := by decide +kernel
theorem nc_mixed : (("mixed" : Str) == ("__classdict__" : Str)) = false := by decide +kernel
theorem nn_mixed : ("mixed" : Str) ≠ "__name__" := by decide +kernel
theorem nd__law_take : (("_law_take" : Str) == ("__debug__" : Str)) = false := by decide +kernel
theorem nc__law_take : (("_law_take" : Str) == ("__classdict__" : Str)) = false := by decide +kernel
theorem nn__law_take : ("_law_take" : Str) ≠ "__name__" := by decide +kernel
theorem nd_least : (("least" : Str) == ("__debug__" : Str)) = false := by decide +kernel
theorem nc_least : (("least" : Str) == ("__classdict__" : Str)) = false := by decide +kernel
theorem nn_least : ("least" : Str) ≠ "__name__" := by decide +kernel
theorem nd_most : (("most" : Str) == ("__debug__" : Str)) = false := by decide +kernel
theorem nc_most : (("most" : Str) == ("__classdict__" : Str)) = false := by decide +kernel
theorem nn_most : ("most" : Str) ≠ "__name__" := by decide +kernel
theorem nd_edge : (("edge" : Str) == ("__debug__" : Str)) = false := by decide +kernel
theorem nc_edge : (("edge" : Str) == ("__classdict__" : Str)) = false := by decide +kernel
theorem nn_edge : ("edge" : Str) ≠ "__name__" := by decide +kernel
theorem nd__law_between : (("_law_between" : Str) == ("__debug__" : Str)) = false := by decide +kernel
theorem nc__law_between : (("_law_between" : Str) == ("__classdict__" : Str)) = false := by decide +kernel
theorem nn__law_between : ("_law_between" : Str) ≠ "__name__" := by decide +kernel
theorem nd_items : (("items" : Str) == ("__debug__" : Str)) = false := by decide +kernel
theorem nc_items : (("items" : Str) == ("__classdict__" : Str)) = false := by decide +kernel
theorem nn_items : ("items" : Str) ≠ "__name__" := by decide +kernel
theorem nd__law_pick : (("_law_pick" : Str) == ("__debug__" : Str)) = false := by decide +kernel
theorem nc__law_pick : (("_law_pick" : Str) == ("__classdict__" : Str)) = false := by decide +kernel
theorem nn__law_pick : ("_law_pick" : Str) ≠ "__name__" := by decide +kernel
theorem nd_row : (("row" : Str) == ("__debug__" : Str)) = false := by decide +kernel
theorem nc_row : (("row" : Str) == ("__classdict__" : Str)) = false := by decide +kernel
theorem nn_row : ("row" : Str) ≠ "__name__" := by decide +kernel
theorem nd_style : (("style" : Str) == ("__debug__" : Str)) = false := by decide +kernel
theorem nc_style : (("style" : Str) == ("__classdict__" : Str)) = false := by decide +kernel
theorem nn_style : ("style" : Str) ≠ "__name__" := by decide +kernel
theorem nd_at : (("at" : Str) == ("__debug__" : Str)) = false := by decide +kernel
theorem nc_at : (("at" : Str) == ("__classdict__" : Str)) = false := by decide +kernel
theorem nn_at : ("at" : Str) ≠ "__name__" := by decide +kernel
theorem nd_kept : (("kept" : Str) == ("__debug__" : Str)) = false := by decide +kernel
theorem nc_kept : (("kept" : Str) == ("__classdict__" : Str)) = false := by decide +kernel
theorem nn_kept : ("kept" : Str) ≠ "__name__" := by decide +kernel
theorem nd_reversed : (("reversed" : Str) == ("__debug__" : Str)) = false := by decide +kernel
theorem nc_reversed : (("reversed" : Str) == ("__classdict__" : Str)) = false := by decide +kernel
theorem nn_reversed : ("reversed" : Str) ≠ "__name__" := by decide +kernel
theorem nd_range : (("range" : Str) == ("__debug__" : Str)) = false := by decide +kernel
theorem nc_range : (("range" : Str) == ("__classdict__" : Str)) = false := by decide +kernel
theorem nn_range : ("range" : Str) ≠ "__name__" := by decide +kernel
theorem nd__law_shuffled : (("_law_shuffled" : Str) == ("__debug__" : Str)) = false := by decide +kernel
theorem nc__law_shuffled : (("_law_shuffled" : Str) == ("__classdict__" : Str)) = false := by decide +kernel
theorem nn__law_shuffled : ("_law_shuffled" : Str) ≠ "__name__" := by decide +kernel
theorem nd_spare : (("spare" : Str) == ("__debug__" : Str)) = false := by decide +kernel
theorem nc_spare : (("spare" : Str) == ("__classdict__" : Str)) = false := by decide +kernel
theorem nn_spare : ("spare" : Str) ≠ "__name__" := by decide +kernel
theorem nd_to : (("to" : Str) == ("__debug__" : Str)) = false := by decide +kernel
theorem nc_to : (("to" : Str) == ("__classdict__" : Str)) = false := by decide +kernel
theorem nn_to : ("to" : Str) ≠ "__name__" := by decide +kernel
theorem nd__law_bent_list : (("_law_bent_list" : Str) == ("__debug__" : Str)) = false := by decide +kernel
theorem nc__law_bent_list : (("_law_bent_list" : Str) == ("__classdict__" : Str)) = false := by decide +kernel
theorem nn__law_bent_list : ("_law_bent_list" : Str) ≠ "__name__" := by decide +kernel
theorem nd_value : (("value" : Str) == ("__debug__" : Str)) = false := by decide +kernel
theorem nc_value : (("value" : Str) == ("__classdict__" : Str)) = false := by decide +kernel
theorem nn_value : ("value" : Str) ≠ "__name__" := by decide +kernel
theorem nd_bool : (("bool" : Str) == ("__debug__" : Str)) = false := by decide +kernel
theorem nc_bool : (("bool" : Str) == ("__classdict__" : Str)) = false := by decide +kernel
theorem nn_bool : ("bool" : Str) ≠ "__name__" := by decide +kernel
theorem nd__law_is_integer : (("_law_is_integer" : Str) == ("__debug__" : Str)) = false := by decide +kernel
theorem nc__law_is_integer : (("_law_is_integer" : Str) == ("__classdict__" : Str)) = false := by decide +kernel
theorem nn__law_is_integer : ("_law_is_integer" : Str) ≠ "__name__" := by decide +kernel
theorem nd_one : (("one" : Str) == ("__debug__" : Str)) = false := by decide +kernel
theorem nc_one : (("one" : Str) == ("__classdict__" : Str)) = false := by decide +kernel
theorem nn_one : ("one" : Str) ≠ "__name__" := by decide +kernel
theorem nd_two : (("two" : Str) == ("__debug__" : Str)) = false := by decide +kernel
theorem nc_two : (("two" : Str) == ("__classdict__" : Str)) = false := by decide +kernel
theorem nn_two : ("two" : Str) ≠ "__name__" := by decide +kernel
theorem nd_key : (("key" : Str) == ("__debug__" : Str)) = false := by decide +kernel
theorem nc_key : (("key" : Str) == ("__classdict__" : Str)) = false := by decide +kernel
theorem nn_key : ("key" : Str) ≠ "__name__" := by decide +kernel
theorem nd_lists : (("lists" : Str) == ("__debug__" : Str)) = false := by decide +kernel
theorem nc_lists : (("lists" : Str) == ("__classdict__" : Str)) = false := by decide +kernel
theorem nn_lists : ("lists" : Str) ≠ "__name__" := by decide +kernel
theorem nd_dict : (("dict" : Str) == ("__debug__" : Str)) = false := by decide +kernel
theorem nc_dict : (("dict" : Str) == ("__classdict__" : Str)) = false := by decide +kernel
theorem nn_dict : ("dict" : Str) ≠ "__name__" := by decide +kernel
theorem nd_tuple : (("tuple" : Str) == ("__debug__" : Str)) = false := by decide +kernel
theorem nc_tuple : (("tuple" : Str) == ("__classdict__" : Str)) = false := by decide +kernel
theorem nn_tuple : ("tuple" : Str) ≠ "__name__" := by decide +kernel
theorem nd__law_same : (("_law_same" : Str) == ("__debug__" : Str)) = false := by decide +kernel
theorem nc__law_same : (("_law_same" : Str) == ("__classdict__" : Str)) = false := by decide +kernel
theorem nn__law_same : ("_law_same" : Str) ≠ "__name__" := by decide +kernel
theorem nd_item : (("item" : Str) == ("__debug__" : Str)) = false := by decide +kernel
theorem nc_item : (("item" : Str) == ("__classdict__" : Str)) = false := by decide +kernel
theorem nn_item : ("item" : Str) ≠ "__name__" := by decide +kernel
theorem nd__law_frozen : (("_law_frozen" : Str) == ("__debug__" : Str)) = false := by decide +kernel
theorem nc__law_frozen : (("_law_frozen" : Str) == ("__classdict__" : Str)) = false := by decide +kernel
theorem nn__law_frozen : ("_law_frozen" : Str) ≠ "__name__" := by decide +kernel
theorem nd_size : (("size" : Str) == ("__debug__" : Str)) = false := by decide +kernel
theorem nc_size : (("size" : Str) == ("__classdict__" : Str)) = false := by decide +kernel
theorem nn_size : ("size" : Str) ≠ "__name__" := by decide +kernel
theorem nd_alike : (("alike" : Str) == ("__debug__" : Str)) = false := by decide +kernel
theorem nc_alike : (("alike" : Str) == ("__classdict__" : Str)) = false := by decide +kernel
theorem nn_alike : ("alike" : Str) ≠ "__name__" := by decide +kernel
theorem nd__law_name : (("_law_name" : Str) == ("__debug__" : Str)) = false := by decide +kernel
theorem nc__law_name : (("_law_name" : Str) == ("__classdict__" : Str)) = false := by decide +kernel
theorem nn__law_name : ("_law_name" : Str) ≠ "__name__" := by decide +kernel
theorem nd_letters : (("letters" : Str) == ("__debug__" : Str)) = false := by decide +kernel
theorem nc_letters : (("letters" : Str) == ("__classdict__" : Str)) = false := by decide +kernel
theorem nn_letters : ("letters" : Str) ≠ "__name__" := by decide +kernel
theorem nd_signs : (("signs" : Str) == ("__debug__" : Str)) = false := by decide +kernel
theorem nc_signs : (("signs" : Str) == ("__classdict__" : Str)) = false := by decide +kernel
theorem nn_signs : ("signs" : Str) ≠ "__name__" := by decide +kernel
theorem nd_first : (("first" : Str) == ("__debug__" : Str)) = false := by decide +kernel
theorem nc_first : (("first" : Str) == ("__classdict__" : Str)) = false := by decide +kernel
theorem nn_first : ("first" : Str) ≠ "__name__" := by decide +kernel
theorem nd_names : (("names" : Str) == ("__debug__" : Str)) = false := by decide +kernel
theorem nc_names : (("names" : Str) == ("__classdict__" : Str)) = false := by decide +kernel
theorem nn_names : ("names" : Str) ≠ "__name__" := by decide +kernel
theorem nd_sign : (("sign" : Str) == ("__debug__" : Str)) = false := by decide +kernel
theorem nc_sign : (("sign" : Str) == ("__classdict__" : Str)) = false := by decide +kernel
theorem nn_sign : ("sign" : Str) ≠ "__name__" := by decide +kernel
theorem nd_ahead : (("ahead" : Str) == ("__debug__" : Str)) = false := by decide +kernel
theorem nc_ahead : (("ahead" : Str) == ("__classdict__" : Str)) = false := by decide +kernel
theorem nn_ahead : ("ahead" : Str) ≠ "__name__" := by decide +kernel
theorem nd_tail : (("tail" : Str) == ("__debug__" : Str)) = false := by decide +kernel
theorem nc_tail : (("tail" : Str) == ("__classdict__" : Str)) = false := by decide +kernel
theorem nn_tail : ("tail" : Str) ≠ "__name__" := by decide +kernel
theorem nd_step : (("step" : Str) == ("__debug__" : Str)) = false := by decide +kernel
theorem nc_step : (("step" : Str) == ("__classdict__" : Str)) = false := by decide +kernel
theorem nn_step : ("step" : Str) ≠ "__name__" := by decide +kernel
theorem nd_code : (("code" : Str) == ("__debug__" : Str)) = false := by decide +kernel
theorem nc_code : (("code" : Str) == ("__classdict__" : Str)) = false := by decide +kernel
theorem nn_code : ("code" : Str) ≠ "__name__" := by decide +kernel
theorem nd__law_names : (("_law_names" : Str) == ("__debug__" : Str)) = false := by decide +kernel
theorem nc__law_names : (("_law_names" : Str) == ("__classdict__" : Str)) = false := by decide +kernel
theorem nn__law_names : ("_law_names" : Str) ≠ "__name__" := by decide +kernel
theorem nd_odd : (("odd" : Str) == ("__debug__" : Str)) = false := by decide +kernel
theorem nc_odd : (("odd" : Str) == ("__classdict__" : Str)) = false := by decide +kernel
theorem nn_odd : ("odd" : Str) ≠ "__name__" := by decide +kernel
theorem nd__law_bad_word : (("_law_bad_word" : Str) == ("__debug__" : Str)) = false := by decide +kernel
theorem nc__law_bad_word : (("_law_bad_word" : Str) == ("__classdict__" : Str)) = false := by decide +kernel
theorem nn__law_bad_word : ("_law_bad_word" : Str) ≠ "__name__" := by decide +kernel
theorem nd__law_houses : (("_law_houses" : Str) == ("__debug__" : Str)) = false := by decide +kernel
theorem nc__law_houses : (("_law_houses" : Str) == ("__classdict__" : Str)) = false := by decide +kernel
theorem nn__law_houses : ("_law_houses" : Str) ≠ "__name__" := by decide +kernel
theorem nd_shape : (("shape" : Str) == ("__debug__" : Str)) = false := by decide +kernel
theorem nc_shape : (("shape" : Str) == ("__classdict__" : Str)) = false := by decide +kernel
theorem nn_shape : ("shape" : Str) ≠ "__name__" := by decide +kernel
theorem nd_half : (("half" : Str) == ("__debug__" : Str)) = false := by decide +kernel
theorem nc_half : (("half" : Str) == ("__classdict__" : Str)) = false := by decide +kernel
theorem nn_half : ("half" : Str) ≠ "__name__" := by decide +kernel
theorem nd_low : (("low" : Str) == ("__debug__" : Str)) = false := by decide +kernel
theorem nc_low : (("low" : Str) == ("__classdict__" : Str)) = false := by decide +kernel
theorem nn_low : ("low" : Str) ≠ "__name__" := by decide +kernel
theorem nd_min : (("min" : Str) == ("__debug__" : Str)) = false := by decide +kernel
theorem nc_min : (("min" : Str) == ("__classdict__" : Str)) = false := by decide +kernel
theorem nn_min : ("min" : Str) ≠ "__name__" := by decide +kernel
theorem nd_max : (("max" : Str) == ("__debug__" : Str)) = false := by decide +kernel
theorem nc_max : (("max" : Str) == ("__classdict__" : Str)) = false := by decide +kernel
theorem nn_max : ("max" : Str) ≠ "__name__" := by decide +kernel
theorem nd__law_pair : (("_law_pair" : Str) == ("__debug__" : Str)) = false := by decide +kernel
theorem nc__law_pair : (("_law_pair" : Str) == ("__classdict__" : Str)) = false := by decide +kernel
theorem nn__law_pair : ("_law_pair" : Str) ≠ "__name__" := by decide +kernel
theorem nd_name : (("name" : Str) == ("__debug__" : Str)) = false := by decide +kernel
theorem nc_name : (("name" : Str) == ("__classdict__" : Str)) = false := by decide +kernel
theorem nn_name : ("name" : Str) ≠ "__name__" := by decide +kernel
theorem nd__law_line_names : (("_law_line_names" : Str) == ("__debug__" : Str)) = false := by decide +kernel
theorem nc__law_line_names : (("_law_line_names" : Str) == ("__classdict__" : Str)) = false := by decide +kernel
theorem nn__law_line_names : ("_law_line_names" : Str) ≠ "__name__" := by decide +kernel
theorem nd_lines : (("lines" : Str) == ("__debug__" : Str)) = false := by decide +kernel
theorem nc_lines : (("lines" : Str) == ("__classdict__" : Str)) = false := by decide +kernel
theorem nn_lines : ("lines" : Str) ≠ "__name__" := by decide +kernel
theorem nd_pair : (("pair" : Str) == ("__debug__" : Str)) = false := by decide +kernel
theorem nc_pair : (("pair" : Str) == ("__classdict__" : Str)) = false := by decide +kernel
theorem nn_pair : ("pair" : Str) ≠ "__name__" := by decide +kernel
theorem nd__law_lines : (("_law_lines" : Str) == ("__debug__" : Str)) = false := by decide +kernel
theorem nc__law_lines : (("_law_lines" : Str) == ("__classdict__" : Str)) = false := by decide +kernel
theorem nn__law_lines : ("_law_lines" : Str) ≠ "__name__" := by decide +kernel
theorem nd__law_web : (("_law_web" : Str) == ("__debug__" : Str)) = false := by decide +kernel
theorem nc__law_web : (("_law_web" : Str) == ("__classdict__" : Str)) = false := by decide +kernel
theorem nn__law_web : ("_law_web" : Str) ≠ "__name__" := by decide +kernel
theorem nd_ends : (("ends" : Str) == ("__debug__" : Str)) = false := by decide +kernel
theorem nc_ends : (("ends" : Str) == ("__classdict__" : Str)) = false := by decide +kernel
theorem nn_ends : ("ends" : Str) ≠ "__name__" := by decide +kernel
theorem nd__law_is_way : (("_law_is_way" : Str) == ("__debug__" : Str)) = false := by decide +kernel
theorem nc__law_is_way : (("_law_is_way" : Str) == ("__classdict__" : Str)) = false := by decide +kernel
theorem nn__law_is_way : ("_law_is_way" : Str) ≠ "__name__" := by decide +kernel
theorem nd__law_is_steps : (("_law_is_steps" : Str) == ("__debug__" : Str)) = false := by decide +kernel
theorem nc__law_is_steps : (("_law_is_steps" : Str) == ("__classdict__" : Str)) = false := by decide +kernel
theorem nn__law_is_steps : ("_law_is_steps" : Str) ≠ "__name__" := by decide +kernel
theorem nd__law_is_words : (("_law_is_words" : Str) == ("__debug__" : Str)) = false := by decide +kernel
theorem nc__law_is_words : (("_law_is_words" : Str) == ("__classdict__" : Str)) = false := by decide +kernel
theorem nn__law_is_words : ("_law_is_words" : Str) ≠ "__name__" := by decide +kernel
theorem nd_steps : (("steps" : Str) == ("__debug__" : Str)) = false := by decide +kernel
theorem nc_steps : (("steps" : Str) == ("__classdict__" : Str)) = false := by decide +kernel
theorem nn_steps : ("steps" : Str) ≠ "__name__" := by decide +kernel
theorem nd__law_walk : (("_law_walk" : Str) == ("__debug__" : Str)) = false := by decide +kernel
theorem nc__law_walk : (("_law_walk" : Str) == ("__classdict__" : Str)) = false := by decide +kernel
theorem nn__law_walk : ("_law_walk" : Str) ≠ "__name__" := by decide +kernel
theorem nd_same : (("same" : Str) == ("__debug__" : Str)) = false := by decide +kernel
theorem nc_same : (("same" : Str) == ("__classdict__" : Str)) = false := by decide +kernel
theorem nn_same : ("same" : Str) ≠ "__name__" := by decide +kernel
theorem nd_other : (("other" : Str) == ("__debug__" : Str)) = false := by decide +kernel
theorem nc_other : (("other" : Str) == ("__classdict__" : Str)) = false := by decide +kernel
theorem nn_other : ("other" : Str) ≠ "__name__" := by decide +kernel
theorem nd__law_bent_way : (("_law_bent_way" : Str) == ("__debug__" : Str)) = false := by decide +kernel
theorem nc__law_bent_way : (("_law_bent_way" : Str) == ("__classdict__" : Str)) = false := by decide +kernel
theorem nn__law_bent_way : ("_law_bent_way" : Str) ≠ "__name__" := by decide +kernel
theorem nd_told : (("told" : Str) == ("__debug__" : Str)) = false := by decide +kernel
theorem nc_told : (("told" : Str) == ("__classdict__" : Str)) = false := by decide +kernel
theorem nn_told : ("told" : Str) ≠ "__name__" := by decide +kernel
theorem nd__law_judged_right : (("_law_judged_right" : Str) == ("__debug__" : Str)) = false := by decide +kernel
theorem nc__law_judged_right : (("_law_judged_right" : Str) == ("__classdict__" : Str)) = false := by decide +kernel
theorem nn__law_judged_right : ("_law_judged_right" : Str) ≠ "__name__" := by decide +kernel
theorem nd__law_word : (("_law_word" : Str) == ("__debug__" : Str)) = false := by decide +kernel
theorem nc__law_word : (("_law_word" : Str) == ("__classdict__" : Str)) = false := by decide +kernel
theorem nn__law_word : ("_law_word" : Str) ≠ "__name__" := by decide +kernel
theorem nd_asks : (("asks" : Str) == ("__debug__" : Str)) = false := by decide +kernel
theorem nc_asks : (("asks" : Str) == ("__classdict__" : Str)) = false := by decide +kernel
theorem nn_asks : ("asks" : Str) ≠ "__name__" := by decide +kernel
theorem nd_walk : (("walk" : Str) == ("__debug__" : Str)) = false := by decide +kernel
theorem nc_walk : (("walk" : Str) == ("__classdict__" : Str)) = false := by decide +kernel
theorem nn_walk : ("walk" : Str) ≠ "__name__" := by decide +kernel
theorem nd_bent : (("bent" : Str) == ("__debug__" : Str)) = false := by decide +kernel
theorem nc_bent : (("bent" : Str) == ("__classdict__" : Str)) = false := by decide +kernel
theorem nn_bent : ("bent" : Str) ≠ "__name__" := by decide +kernel
theorem nd_back : (("back" : Str) == ("__debug__" : Str)) = false := by decide +kernel
theorem nc_back : (("back" : Str) == ("__classdict__" : Str)) = false := by decide +kernel
theorem nn_back : ("back" : Str) ≠ "__name__" := by decide +kernel
theorem nd__law_asks : (("_law_asks" : Str) == ("__debug__" : Str)) = false := by decide +kernel
theorem nc__law_asks : (("_law_asks" : Str) == ("__classdict__" : Str)) = false := by decide +kernel
theorem nn__law_asks : ("_law_asks" : Str) ≠ "__name__" := by decide +kernel
theorem nd_less : (("less" : Str) == ("__debug__" : Str)) = false := by decide +kernel
theorem nc_less : (("less" : Str) == ("__classdict__" : Str)) = false := by decide +kernel
theorem nn_less : ("less" : Str) ≠ "__name__" := by decide +kernel
theorem nd_ask : (("ask" : Str) == ("__debug__" : Str)) = false := by decide +kernel
theorem nc_ask : (("ask" : Str) == ("__classdict__" : Str)) = false := by decide +kernel
theorem nn_ask : ("ask" : Str) ≠ "__name__" := by decide +kernel
theorem nd_law : (("law" : Str) == ("__debug__" : Str)) = false := by decide +kernel
theorem nc_law : (("law" : Str) == ("__classdict__" : Str)) = false := by decide +kernel
theorem nn_law : ("law" : Str) ≠ "__name__" := by decide +kernel
theorem nd_Web_init : (("Web_init" : Str) == ("__debug__" : Str)) = false := by decide +kernel
theorem nc_Web_init : (("Web_init" : Str) == ("__classdict__" : Str)) = false := by decide +kernel
theorem nn_Web_init : ("Web_init" : Str) ≠ "__name__" := by decide +kernel
theorem nd_Web_lines : (("Web_lines" : Str) == ("__debug__" : Str)) = false := by decide +kernel
theorem nc_Web_lines : (("Web_lines" : Str) == ("__classdict__" : Str)) = false := by decide +kernel
theorem nn_Web_lines : ("Web_lines" : Str) ≠ "__name__" := by decide +kernel
theorem nd_self : (("self" : Str) == ("__debug__" : Str)) = false := by decide +kernel
theorem nc_self : (("self" : Str) == ("__classdict__" : Str)) = false := by decide +kernel
theorem nn_self : ("self" : Str) ≠ "__name__" := by decide +kernel
theorem nd_high : (("high" : Str) == ("__debug__" : Str)) = false := by decide +kernel
theorem nc_high : (("high" : Str) == ("__classdict__" : Str)) = false := by decide +kernel
theorem nn_high : ("high" : Str) ≠ "__name__" := by decide +kernel
theorem nd_property : (("property" : Str) == ("__debug__" : Str)) = false := by decide +kernel
theorem nc_property : (("property" : Str) == ("__classdict__" : Str)) = false := by decide +kernel
theorem nn_property : ("property" : Str) ≠ "__name__" := by decide +kernel
theorem nd_Web_eq : (("Web_eq" : Str) == ("__debug__" : Str)) = false := by decide +kernel
theorem nc_Web_eq : (("Web_eq" : Str) == ("__classdict__" : Str)) = false := by decide +kernel
theorem nn_Web_eq : ("Web_eq" : Str) ≠ "__name__" := by decide +kernel
theorem nd_Web_len : (("Web_len" : Str) == ("__debug__" : Str)) = false := by decide +kernel
theorem nc_Web_len : (("Web_len" : Str) == ("__classdict__" : Str)) = false := by decide +kernel
theorem nn_Web_len : ("Web_len" : Str) ≠ "__name__" := by decide +kernel
theorem nd_iter : (("iter" : Str) == ("__debug__" : Str)) = false := by decide +kernel
theorem nc_iter : (("iter" : Str) == ("__classdict__" : Str)) = false := by decide +kernel
theorem nn_iter : ("iter" : Str) ≠ "__name__" := by decide +kernel
theorem nd_Web_iter : (("Web_iter" : Str) == ("__debug__" : Str)) = false := by decide +kernel
theorem nc_Web_iter : (("Web_iter" : Str) == ("__classdict__" : Str)) = false := by decide +kernel
theorem nn_Web_iter : ("Web_iter" : Str) ≠ "__name__" := by decide +kernel
abbrev s__wall : Stmt := topS 0
abbrev N__wall : List Str := ["k"]
abbrev P__wall : List Str := ["k"]
theorem sc__wall : FnScope N__wall P__wall (defScope s__wall) := ⟨rfl, rfl, rfl, by decide +kernel, rfl, by decide +kernel, by decide +kernel⟩
abbrev s_is_name : Stmt := topS 13
abbrev N_is_name : List Str := ["word", "c"]
abbrev P_is_name : List Str := ["word"]
theorem sc_is_name : FnScope N_is_name P_is_name (defScope s_is_name) := ⟨rfl, rfl, rfl, by decide +kernel, rfl, by decide +kernel, by decide +kernel⟩
abbrev s_check_name : Stmt := topS 14
abbrev N_check_name : List Str := ["word"]
abbrev P_check_name : List Str := ["word"]
theorem sc_check_name : FnScope N_check_name P_check_name (defScope s_check_name) := ⟨rfl, rfl, rfl, by decide +kernel, rfl, by decide +kernel, by decide +kernel⟩
abbrev s_check_houses : Stmt := topS 15
abbrev N_check_houses : List Str := ["houses", "made", "house"]
abbrev P_check_houses : List Str := ["houses"]
theorem sc_check_houses : FnScope N_check_houses P_check_houses (defScope s_check_houses) := ⟨rfl, rfl, rfl, by decide +kernel, rfl, by decide +kernel, by decide +kernel⟩
abbrev s_ordered : Stmt := topS 16
abbrev N_ordered : List Str := ["a", "b"]
abbrev P_ordered : List Str := ["a", "b"]
theorem sc_ordered : FnScope N_ordered P_ordered (defScope s_ordered) := ⟨rfl, rfl, rfl, by decide +kernel, rfl, by decide +kernel, by decide +kernel⟩
abbrev s_check_names : Stmt := topS 18
abbrev N_check_names : List Str := ["words", "word"]
abbrev P_check_names : List Str := ["words"]
theorem sc_check_names : FnScope N_check_names P_check_names (defScope s_check_names) := ⟨rfl, rfl, rfl, by decide +kernel, rfl, by decide +kernel, by decide +kernel⟩
abbrev s_check_stand : Stmt := topS 19
abbrev N_check_stand : List Str := ["houses", "words", "word"]
abbrev P_check_stand : List Str := ["houses", "words"]
theorem sc_check_stand : FnScope N_check_stand P_check_stand (defScope s_check_stand) := ⟨rfl, rfl, rfl, by decide +kernel, rfl, by decide +kernel, by decide +kernel⟩
abbrev s_check_line : Stmt := topS 20
abbrev N_check_line : List Str := ["houses", "line", "a", "b"]
abbrev P_check_line : List Str := ["houses", "line", "a", "b"]
theorem sc_check_line : FnScope N_check_line P_check_line (defScope s_check_line) := ⟨rfl, rfl, rfl, by decide +kernel, rfl, by decide +kernel, by decide +kernel⟩
abbrev s_check_new_line : Stmt := topS 21
abbrev N_check_new_line : List Str := ["houses", "standing", "line", "a", "b"]
abbrev P_check_new_line : List Str := ["houses", "standing", "line", "a", "b"]
theorem sc_check_new_line : FnScope N_check_new_line P_check_new_line (defScope s_check_new_line) := ⟨rfl, rfl, rfl, by decide +kernel, rfl, by decide +kernel, by decide +kernel⟩
abbrev s_check_line_stands : Stmt := topS 22
abbrev N_check_line_stands : List Str := ["standing", "line"]
abbrev P_check_line_stands : List Str := ["standing", "line"]
theorem sc_check_line_stands : FnScope N_check_line_stands P_check_line_stands (defScope s_check_line_stands) := ⟨rfl, rfl, rfl, by decide +kernel, rfl, by decide +kernel, by decide +kernel⟩
abbrev s_is_way : Stmt := topS 24
abbrev N_is_way : List Str := ["web", "a", "b", "way", "met", "line", "start", "stop"]
abbrev P_is_way : List Str := ["web", "a", "b", "way"]
theorem sc_is_way : FnScope N_is_way P_is_way (defScope s_is_way) := ⟨rfl, rfl, rfl, by decide +kernel, rfl, by decide +kernel, by decide +kernel⟩
abbrev s__law_store : Stmt := topS 28
abbrev N__law_store : List Str := ["script", "cells", "state", "cell"]
abbrev P__law_store : List Str := ["script"]
theorem sc__law_store : FnScope N__law_store P__law_store (defScope s__law_store) := ⟨rfl, rfl, rfl, by decide +kernel, rfl, by decide +kernel, by decide +kernel⟩
abbrev s__law_take : Stmt := topS 29
abbrev N__law_take : List Str := ["store", "many", "digits", "tick", "cells", "place", "cell", "mixed"]
abbrev P__law_take : List Str := ["store", "many"]
theorem sc__law_take : FnScope N__law_take P__law_take (defScope s__law_take) := ⟨rfl, rfl, rfl, by decide +kernel, rfl, by decide +kernel, by decide +kernel⟩
abbrev s__law_between : Stmt := topS 30
abbrev N__law_between : List Str := ["store", "least", "most", "edge"]
abbrev P__law_between : List Str := ["store", "least", "most"]
theorem sc__law_between : FnScope N__law_between P__law_between (defScope s__law_between) := ⟨rfl, rfl, rfl, by decide +kernel, rfl, by decide +kernel, by decide +kernel⟩
abbrev s__law_pick : Stmt := topS 31
abbrev N__law_pick : List Str := ["store", "items"]
abbrev P__law_pick : List Str := ["store", "items"]
theorem sc__law_pick : FnScope N__law_pick P__law_pick (defScope s__law_pick) := ⟨rfl, rfl, rfl, by decide +kernel, rfl, by decide +kernel, by decide +kernel⟩
abbrev s__law_shuffled : Stmt := topS 32
abbrev N__law_shuffled : List Str := ["store", "items", "row", "style", "k", "at", "kept"]
abbrev P__law_shuffled : List Str := ["store", "items"]
theorem sc__law_shuffled : FnScope N__law_shuffled P__law_shuffled (defScope s__law_shuffled) := ⟨rfl, rfl, rfl, by decide +kernel, rfl, by decide +kernel, by decide +kernel⟩
abbrev s__law_bent_list : Stmt := topS 33
abbrev N__law_bent_list : List Str := ["store", "items", "spare", "row", "style", "at", "to", "kept"]
abbrev P__law_bent_list : List Str := ["store", "items", "spare"]
theorem sc__law_bent_list : FnScope N__law_bent_list P__law_bent_list (defScope s__law_bent_list) := ⟨rfl, rfl, rfl, by decide +kernel, rfl, by decide +kernel, by decide +kernel⟩
abbrev s__law_is_integer : Stmt := topS 34
abbrev N__law_is_integer : List Str := ["value"]
abbrev P__law_is_integer : List Str := ["value"]
theorem sc__law_is_integer : FnScope N__law_is_integer P__law_is_integer (defScope s__law_is_integer) := ⟨rfl, rfl, rfl, by decide +kernel, rfl, by decide +kernel, by decide +kernel⟩
abbrev s__law_same : Stmt := topS 35
abbrev N__law_same : List Str := ["one", "two", "key", "lists", "k"]
abbrev P__law_same : List Str := ["one", "two"]
theorem sc__law_same : FnScope N__law_same P__law_same (defScope s__law_same) := ⟨rfl, rfl, rfl, by decide +kernel, rfl, by decide +kernel, by decide +kernel⟩
abbrev s__law_frozen : Stmt := topS 36
abbrev N__law_frozen : List Str := ["value", "key", "item"]
abbrev P__law_frozen : List Str := ["value"]
theorem sc__law_frozen : FnScope N__law_frozen P__law_frozen (defScope s__law_frozen) := ⟨rfl, rfl, rfl, by decide +kernel, rfl, by decide +kernel, by decide +kernel⟩
abbrev s__law_name : Stmt := topS 37
abbrev N__law_name : List Str := ["store", "size", "word", "alike", "k"]
abbrev P__law_name : List Str := ["store"]
theorem sc__law_name : FnScope N__law_name P__law_name (defScope s__law_name) := ⟨rfl, rfl, rfl, by decide +kernel, rfl, by decide +kernel, by decide +kernel⟩
abbrev s__law_names : Stmt := topS 38
abbrev N__law_names : List Str := ["store", "many", "letters", "signs", "style", "first", "names", "sign", "k", "start", "ahead", "tail", "step", "code"]
abbrev P__law_names : List Str := ["store", "many"]
theorem sc__law_names : FnScope N__law_names P__law_names (defScope s__law_names) := ⟨rfl, rfl, rfl, by decide +kernel, rfl, by decide +kernel, by decide +kernel⟩
abbrev s__law_bad_word : Stmt := topS 39
abbrev N__law_bad_word : List Str := ["store", "word", "odd", "style", "at"]
abbrev P__law_bad_word : List Str := ["store"]
theorem sc__law_bad_word : FnScope N__law_bad_word P__law_bad_word (defScope s__law_bad_word) := ⟨rfl, rfl, rfl, by decide +kernel, rfl, by decide +kernel, by decide +kernel⟩
abbrev s__law_houses : Stmt := topS 40
abbrev N__law_houses : List Str := ["store", "most", "many", "style"]
abbrev P__law_houses : List Str := ["store", "most"]
theorem sc__law_houses : FnScope N__law_houses P__law_houses (defScope s__law_houses) := ⟨rfl, rfl, rfl, by decide +kernel, rfl, by decide +kernel, by decide +kernel⟩
abbrev s__law_pair : Stmt := topS 41
abbrev N__law_pair : List Str := ["store", "houses", "shape", "k", "many", "at", "to", "half", "low", "size"]
abbrev P__law_pair : List Str := ["store", "houses", "shape", "k"]
theorem sc__law_pair : FnScope N__law_pair P__law_pair (defScope s__law_pair) := ⟨rfl, rfl, rfl, by decide +kernel, rfl, by decide +kernel, by decide +kernel⟩
abbrev s__law_line_names : Stmt := topS 42
abbrev N__law_line_names : List Str := ["store", "houses", "many", "names", "name"]
abbrev P__law_line_names : List Str := ["store", "houses", "many"]
theorem sc__law_line_names : FnScope N__law_line_names P__law_line_names (defScope s__law_line_names) := ⟨rfl, rfl, rfl, by decide +kernel, rfl, by decide +kernel, by decide +kernel⟩
abbrev s__law_lines : Stmt := topS 43
abbrev N__law_lines : List Str := ["store", "houses", "most", "many", "shape", "names", "lines", "k", "pair"]
abbrev P__law_lines : List Str := ["store", "houses", "most"]
theorem sc__law_lines : FnScope N__law_lines P__law_lines (defScope s__law_lines) := ⟨rfl, rfl, rfl, by decide +kernel, rfl, by decide +kernel, by decide +kernel⟩
abbrev s__law_web : Stmt := topS 44
abbrev N__law_web : List Str := ["store", "most", "houses"]
abbrev P__law_web : List Str := ["store", "most"]
theorem sc__law_web : FnScope N__law_web P__law_web (defScope s__law_web) := ⟨rfl, rfl, rfl, by decide +kernel, rfl, by decide +kernel, by decide +kernel⟩
abbrev s__law_is_way : Stmt := topS 45
abbrev N__law_is_way : List Str := ["houses", "lines", "a", "b", "way", "ends", "line", "met", "step"]
abbrev P__law_is_way : List Str := ["houses", "lines", "a", "b", "way"]
theorem sc__law_is_way : FnScope N__law_is_way P__law_is_way (defScope s__law_is_way) := ⟨rfl, rfl, rfl, by decide +kernel, rfl, by decide +kernel, by decide +kernel⟩
abbrev s__law_is_words : Stmt := topS 46
abbrev N__law_is_words : List Str := ["value", "item"]
abbrev P__law_is_words : List Str := ["value"]
theorem sc__law_is_words : FnScope N__law_is_words P__law_is_words (defScope s__law_is_words) := ⟨rfl, rfl, rfl, by decide +kernel, rfl, by decide +kernel, by decide +kernel⟩
abbrev s__law_is_steps : Stmt := topS 47
abbrev N__law_is_steps : List Str := ["value", "item"]
abbrev P__law_is_steps : List Str := ["value"]
theorem sc__law_is_steps : FnScope N__law_is_steps P__law_is_steps (defScope s__law_is_steps) := ⟨rfl, rfl, rfl, by decide +kernel, rfl, by decide +kernel, by decide +kernel⟩
abbrev s__law_walk : Stmt := topS 48
abbrev N__law_walk : List Str := ["store", "houses", "lines", "a", "most", "way", "met", "k", "steps", "line", "step"]
abbrev P__law_walk : List Str := ["store", "houses", "lines", "a", "most"]
theorem sc__law_walk : FnScope N__law_walk P__law_walk (defScope s__law_walk) := ⟨rfl, rfl, rfl, by decide +kernel, rfl, by decide +kernel, by decide +kernel⟩
abbrev s__law_bent_way : Stmt := topS 49
abbrev N__law_bent_way : List Str := ["store", "way", "houses", "lines", "line", "words", "spare", "style", "at", "step", "row", "same", "name", "other"]
abbrev P__law_bent_way : List Str := ["store", "way", "houses", "lines"]
theorem sc__law_bent_way : FnScope N__law_bent_way P__law_bent_way (defScope s__law_bent_way) := ⟨rfl, rfl, rfl, by decide +kernel, rfl, by decide +kernel, by decide +kernel⟩
abbrev s__law_judged_right : Stmt := topS 50
abbrev N__law_judged_right : List Str := ["web", "houses", "lines", "a", "b", "way", "kept", "told"]
abbrev P__law_judged_right : List Str := ["web", "houses", "lines", "a", "b", "way"]
theorem sc__law_judged_right : FnScope N__law_judged_right P__law_judged_right (defScope s__law_judged_right) := ⟨rfl, rfl, rfl, by decide +kernel, rfl, by decide +kernel, by decide +kernel⟩
abbrev s__law_word : Stmt := topS 51
abbrev N__law_word : List Str := ["store", "houses", "style"]
abbrev P__law_word : List Str := ["store", "houses"]
theorem sc__law_word : FnScope N__law_word P__law_word (defScope s__law_word) := ⟨rfl, rfl, rfl, by decide +kernel, rfl, by decide +kernel, by decide +kernel⟩
abbrev s__law_asks : Stmt := topS 52
abbrev N__law_asks : List Str := ["store", "houses", "lines", "word", "asks", "k", "a", "walk", "bent", "other", "back", "step"]
abbrev P__law_asks : List Str := ["store", "houses", "lines"]
theorem sc__law_asks : FnScope N__law_asks P__law_asks (defScope s__law_asks) := ⟨rfl, rfl, rfl, by decide +kernel, rfl, by decide +kernel, by decide +kernel⟩
abbrev s_law : Stmt := topS 53
abbrev N_law : List Str := ["script", "store", "first", "at", "less", "one", "two", "asks", "ask"]
abbrev P_law : List Str := ["script"]
theorem sc_law : FnScope N_law P_law (defScope s_law) := ⟨rfl, rfl, rfl, by decide +kernel, rfl, by decide +kernel, by decide +kernel⟩
abbrev s_Web_init : Stmt := inClass (topS 26) 0
abbrev N_Web_init : List Str := ["self", "houses", "lines", "line", "a", "b", "low", "high"]
abbrev P_Web_init : List Str := ["self", "houses", "lines"]
theorem sc_Web_init : FnScope N_Web_init P_Web_init (defScope s_Web_init) := ⟨rfl, rfl, rfl, by decide +kernel, rfl, by decide +kernel, by decide +kernel⟩
abbrev s_Web_houses : Stmt := inClass (topS 26) 1
abbrev N_Web_houses : List Str := ["self"]
abbrev P_Web_houses : List Str := ["self"]
theorem sc_Web_houses : FnScope N_Web_houses P_Web_houses (defScope s_Web_houses) := ⟨rfl, rfl, rfl, by decide +kernel, rfl, by decide +kernel, by decide +kernel⟩
abbrev s_Web_lines : Stmt := inClass (topS 26) 2
abbrev N_Web_lines : List Str := ["self"]
abbrev P_Web_lines : List Str := ["self"]
theorem sc_Web_lines : FnScope N_Web_lines P_Web_lines (defScope s_Web_lines) := ⟨rfl, rfl, rfl, by decide +kernel, rfl, by decide +kernel, by decide +kernel⟩
abbrev s_Web_ends : Stmt := inClass (topS 26) 3
abbrev N_Web_ends : List Str := ["self", "line"]
abbrev P_Web_ends : List Str := ["self", "line"]
theorem sc_Web_ends : FnScope N_Web_ends P_Web_ends (defScope s_Web_ends) := ⟨rfl, rfl, rfl, by decide +kernel, rfl, by decide +kernel, by decide +kernel⟩
abbrev s_Web_eq : Stmt := inClass (topS 26) 8
abbrev N_Web_eq : List Str := ["self", "other"]
abbrev P_Web_eq : List Str := ["self", "other"]
theorem sc_Web_eq : FnScope N_Web_eq P_Web_eq (defScope s_Web_eq) := ⟨rfl, rfl, rfl, by decide +kernel, rfl, by decide +kernel, by decide +kernel⟩
abbrev s_Web_len : Stmt := inClass (topS 26) 9
abbrev N_Web_len : List Str := ["self"]
abbrev P_Web_len : List Str := ["self"]
theorem sc_Web_len : FnScope N_Web_len P_Web_len (defScope s_Web_len) := ⟨rfl, rfl, rfl, by decide +kernel, rfl, by decide +kernel, by decide +kernel⟩
abbrev s_Web_contains : Stmt := inClass (topS 26) 10
abbrev N_Web_contains : List Str := ["self", "line"]
abbrev P_Web_contains : List Str := ["self", "line"]
theorem sc_Web_contains : FnScope N_Web_contains P_Web_contains (defScope s_Web_contains) := ⟨rfl, rfl, rfl, by decide +kernel, rfl, by decide +kernel, by decide +kernel⟩
abbrev s_Web_iter : Stmt := inClass (topS 26) 11
abbrev N_Web_iter : List Str := ["self"]
abbrev P_Web_iter : List Str := ["self"]
theorem sc_Web_iter : FnScope N_Web_iter P_Web_iter (defScope s_Web_iter) := ⟨rfl, rfl, rfl, by decide +kernel, rfl, by decide +kernel, by decide +kernel⟩
/-! ### the stepper -/
local macro_rules | `(tactic| walk_at "hp") => `(tactic| first
  | assumption
  | exact upd_same
  | (refine Eq.trans (upd_ne (by first | assumption | (apply Ne.symm; assumption))) ?_; walk_at "hp"))
local macro_rules | `(tactic| walk_at "sq") => `(tactic| first
  | assumption
  | (refine Or.inl (Or.inl ?_); walk_at "hp"))
local macro_rules | `(tactic| walk_at "st") => `(tactic| first
  | assumption
  | (refine Or.inl (Or.inl ?_); walk_at "hp"))
local macro_rules | `(tactic| walk_at "ar") => `(tactic| first
  | assumption
  | omega
  | decide)
local macro_rules | `(tactic| walk_at "ci") => `(tactic| first
  | (refine (show CMul _ _ from Or.inr ⟨?_, ?_⟩) <;> omega)
  | (refine (show CMul _ _ from Or.inl ⟨?_, ?_⟩) <;> omega)
  | (show CPow _ _; exact ⟨by decide, by decide, by decide⟩)
  | (refine wide_div (b := 63) ?_ ?_ (by decide) (by decide) <;> omega)
  | (show (0 : Int) < _; omega))
local macro_rules | `(tactic| walk_at "ty") => `(tactic| first
  | exact dp_ty (by assumption)
  | exact TyX.base (TyOf.int _)
  | exact TyX.base (TyOf.str _)
  | exact TyX.base (TyOf.bl _)
  | exact TyX.base TyOf.non
  | exact tyL' (by walk_at "sq")
  | exact tyT' (by walk_at "st"))
local macro_rules | `(tactic| walk_at "isi") => `(tactic| first
  | ((with_reducible apply Rd.isiF); (walk_at "ty"); (decide))
  | ((with_reducible apply Rd.isiT); (walk_at "ty"); (decide)))
local macro_rules | `(tactic| walk_at "rd") => `(tactic| first
  | with_reducible apply Rd.seq
  | ((with_reducible apply Rd.var); rfl)
  | with_reducible apply Rd.con
  | with_reducible apply Rd.op
  | with_reducible apply Rd.asg
  | ((with_reducible apply Rd.gname); ((dsimp only [List.set, L2.wipe, Int.reduceToNat]) <;> rfl))
  | with_reducible apply Rd.nxt
  | with_reducible apply Rd.ifs
  | with_reducible apply Rd.test
  | with_reducible apply Rd.testB
  | with_reducible apply Rd.exbl
  | with_reducible apply Rd.ret
  | with_reducible apply Rd.drop
  | with_reducible apply Rd.retN
  | with_reducible apply Rd.nil
  | with_reducible apply Rd.cons
  | with_reducible apply Rd.call
  | with_reducible apply Rd.cb
  | with_reducible apply Rd.and
  | with_reducible apply Rd.or
  | with_reducible apply Rd.not
  | with_reducible apply Rd.andV
  | with_reducible apply Rd.orV
  | with_reducible apply Rd.notV
  | with_reducible apply Rd.ife
  | with_reducible apply Rd.tup
  | with_reducible apply Rd.lst
  | with_reducible apply Rd.un
  | with_reducible apply Rd.chain
  | with_reducible apply Rd.brk
  | with_reducible apply Rd.cnt
  | with_reducible apply Rd.I0
  | with_reducible apply Rd.U1
  | ((with_reducible apply Rd.eq); rfl)
  | ((with_reducible apply Rd.ne); rfl)
  | ((with_reducible apply Rd.I1); (walk_at "ci"))
  | with_reducible apply Rd.lc0
  | with_reducible apply Rd.ln0
  | with_reducible apply Rd.exN
  | ((with_reducible apply Rd.iteSf); (decide +kernel))
  | ((with_reducible apply Rd.iteSt); (decide +kernel))
  | ((with_reducible apply Rd.niQ); (exact Or.inl (by walk_at "sq")); (exact ⟨rfl, rfl⟩); (rfl))
  | ((with_reducible apply Rd.inQ); (exact Or.inl (by walk_at "sq")); (exact ⟨rfl, rfl⟩); (rfl))
  | with_reducible apply Rd.rn1
  | with_reducible apply Rd.in1
  | with_reducible apply Rd.sn1
  | with_reducible apply Rd.bn1
  | with_reducible apply Rd.nn1
  | with_reducible apply Rd.rn2
  | with_reducible apply Rd.in2
  | with_reducible apply Rd.sn2
  | with_reducible apply Rd.bn2
  | with_reducible apply Rd.nn2
  | with_reducible apply Rd.nt1
  | with_reducible apply Rd.nf1
  | (with_reducible refine Rd.iteI (fun _ => ?_) (fun _ => ?_))
  | (with_reducible refine Rd.iteNI (fun _ => ?_) (fun _ => ?_))
  | (with_reducible refine iteT ?_)
  | (with_reducible refine iteF ?_)
  | (with_reducible refine Rd.iteD (fun _ => ?_) (fun _ => ?_))
  | (with_reducible refine Rd.iteN (fun _ => ?_) (fun _ => ?_))
  | with_reducible apply Rd.intI
  | with_reducible apply Rd.intB
  | with_reducible apply Rd.maxQ
  | with_reducible apply Rd.minQ
  | with_reducible apply Rd.absQ
  | with_reducible apply Rd.isN
  | with_reducible apply Rd.noN
  | with_reducible apply Rd.ltZ
  | with_reducible apply Rd.bm
  | with_reducible apply Rd.bm0
  | with_reducible apply Rd.par
  | with_reducible apply Rd.expar
  | with_reducible apply Rd.exint
  | with_reducible apply Rd.ipi
  | with_reducible apply Rd.slice
  | with_reducible apply Rd.noPart
  | with_reducible apply Rd.part
  | with_reducible apply Rd.gcons
  | with_reducible apply Rd.gnil
  | with_reducible apply Rd.iseq
  | with_reducible apply Rd.irng1
  | walk_at "isi"
  | with_reducible apply Rd.forX
  | with_reducible apply Rd.lstRev
  | with_reducible apply Rd.lstRg
  | with_reducible apply Rd.rg1
  | with_reducible apply Rd.rg2
  | with_reducible apply Rd.exint2
  | ((with_reducible apply Rd.exrev); (walk_at "sq"))
  | with_reducible apply Rd.lcX
  | with_reducible apply Rd.yes
  | ((with_reducible apply Rd.exrng1); (constructor <;> omega))
  | ((with_reducible apply Rd.exrng2); (refine ⟨?_, ?_, ?_, ?_⟩ <;> omega))
  | with_reducible apply Rd.irng2
  | ((with_reducible apply Rd.aug); rfl)
  | ((with_reducible apply Rd.exlst); (walk_at "sq"))
  | ((with_reducible apply Rd.gtup); (walk_at "st"); (rfl))
  | ((with_reducible apply Rd.tyL); (walk_at "hp"))
  | ((with_reducible apply Rd.ixL); (walk_at "sq"); (rfl))
  | ((with_reducible apply Rd.ixI); (walk_at "sq"); (omega); (first | assumption | (simp only [List.length_map]; omega)); (intro _ _))
  | (with_reducible refine Rd.gsub ?_)
  | ((with_reducible apply Rd.setL); (walk_at "hp"); (rfl); ((dsimp only [List.set, L2.wipe, Int.reduceToNat]) <;> rfl))
  | ((with_reducible apply Rd.lenQ); (first | exact Or.inl (by walk_at "sq") | exact Or.inr (by walk_at "st")))
  | ((with_reducible apply Rd.listQ); (first | exact Or.inl (by walk_at "sq") | exact Or.inr (by walk_at "st")))
  | ((with_reducible apply Rd.tupQ); (walk_at "sq"))
  | ((with_reducible apply Rd.slL); (walk_at "sq"))
  | ((with_reducible apply Rd.ixT); (walk_at "st"); (rfl))
  | (with_reducible refine Rd.iteB (fun _ => ?_) (fun _ => ?_))
  | (with_reducible refine Rd.iteNB (fun _ => ?_) (fun _ => ?_))
  | (refine Rd.andI (Nat.le_of_ble_eq_true rfl) ?_)
  | dsimp only [List.set])
/-! ### the law's store of draws -/
/-- at st a store, its cells at c: a place and digits that are no less than 0 -/
def StoreAt (H : Hp) (st c : Addr) : Prop := ∃ (ns : List Int) (p d s t : Int), H st = some (.lst [.ref c, .int p, .int d, .int s, .int t]) ∧ H c = some (.lst (ns.map V.int)) ∧ c ≠ st ∧ 0 ≤ p ∧ 0 ≤ d
theorem StoreAt.kept {H H' : Hp} {st c : Addr} (h : StoreAt H st c) (k : ∀ b o, (b = st ∨ b = c) → H b = some o → H' b = some o) : StoreAt H' st c := by
  obtain ⟨ns, p, d, s, t, h1, h2, r⟩ := h
  exact ⟨ns, p, d, s, t, k _ _ (.inl rfl) h1, k _ _ (.inr rfl) h2, r⟩
theorem StoreAt.same {H H' : Hp} {st c : Addr} (h : StoreAt H st c) (k : Same H H') : StoreAt H' st c := h.kept fun b o _ => k b o
theorem StoreAt.has {H : Hp} {st c : Addr} (h : StoreAt H st c) : (∃ o, H st = some o) ∧ ∃ o, H c = some o := by
  obtain ⟨ns, p, d, s, t, h1, h2, r⟩ := h
  exact ⟨⟨_, h1⟩, ⟨_, h2⟩⟩
/-- what is new is no part of the store -/
theorem StoreAt.off {H : Hp} {st c p : Addr} (h : StoreAt H st c) (n : H p = none) : p ≠ st ∧ p ≠ c := by
  obtain ⟨⟨o, e⟩, ⟨o', e'⟩⟩ := h.has
  exact ⟨(ne_of_none e n).symm, (ne_of_none e' n).symm⟩
theorem StoreAt.put {H : Hp} {st c p : Addr} (h : StoreAt H st c) (n : p ≠ st ∧ p ≠ c) (o : HO) : StoreAt (upd H p o) st c := h.kept fun b u e z => by
  rw [upd_ne]
  · exact z
  · rcases e with rfl | rfl
    · exact n.1.symm
    · exact n.2.symm
/-- draws were taken: all else stands -/
structure Go (st c : Addr) (H H' : Hp) : Prop where
  ok : StoreAt H' st c
  keep : ∀ b o, b ≠ st → H b = some o → H' b = some o
theorem Go.refl {st c : Addr} {H : Hp} (h : StoreAt H st c) : Go st c H H := ⟨h, fun _ _ _ e => e⟩
theorem Go.trans {st c : Addr} {H H1 H2 : Hp} (a : Go st c H H1) (b : Go st c H1 H2) : Go st c H H2 := ⟨b.ok, fun d o n e => b.keep d o n (a.keep d o n e)⟩
/-- what is new behind was new ahead -/
theorem Go.free {st c p : Addr} {H H' : Hp} (g : Go st c H H') (n : H' p = none) : H p = none := by
  cases e : H p with
  | none => rfl
  | some o =>
    rw [g.keep p o (g.ok.off n).1 e] at n
    cases n
/-- a new object beside -/
theorem Go.new {st c p : Addr} {H H' : Hp} (g : Go st c H H') (n : H' p = none) (o : HO) : Go st c H (upd H' p o) :=
  ⟨g.ok.put (g.ok.off n) o, fun b u hb e => (upd_ne (ne_of_none (g.keep b u hb e) n)).trans (g.keep b u hb e)⟩
/-- an object that is newer than H is written -/
theorem Go.write {st c p : Addr} {H H' : Hp} (g : Go st c H H') (n : H p = none) (h : p ≠ st ∧ p ≠ c) (o : HO) : Go st c H (upd H' p o) :=
  ⟨g.ok.put h o, fun b u hb e => (upd_ne (ne_of_none e n)).trans (g.keep b u hb e)⟩
theorem Go.same {st c : Addr} {H H1 H2 : Hp} (g : Go st c H H1) (k : Same H1 H2) : Go st c H H2 := ⟨g.ok.same k, fun b u hb e => k b u (g.keep b u hb e)⟩
theorem go_upd {st c : Addr} {H : Hp} {ns : List Int} {p d s t p' d' s' t' : Int} (h : H st = some (.lst [.ref c, .int p, .int d, .int s, .int t])) (hc : H c = some (.lst (ns.map V.int))) (n : c ≠ st) (hp : 0 ≤ p') (hd : 0 ≤ d') :
    Go st c H (upd H st (.lst [.ref c, .int p', .int d', .int s', .int t'])) :=
  ⟨⟨ns, p', d', s', t', upd_same, (upd_ne n).trans hc, n, hp, hd⟩, fun b o hb e => (upd_ne hb).trans e⟩
/-- _law_take(store, many): 0, or a number below many -/
def spTake : Sp := fun vs H Q _ => ∃ (st c : Addr) (many : Int), vs = [.ref st, .int many] ∧ StoreAt H st c ∧ many < 4611686018427387904 ∧ ∀ (r : Int) (H' : Hp), 0 ≤ r → (r < many ∨ r = 0) → Go st c H H' → Q (.int r) H'
section
variable {P : Program} {w : World} {K : PySem.W.Frag} {mg : Str → Option Value} {base : Heap}
theorem ok__law_take (F : Def K mg "_law_take" s__law_take P__law_take) (m_int : mg "int" = none) (m_len : mg "len" = none) : Cal P w K mg base 1 "_law_take" P__law_take spTake := by
  refine F.ok sc__law_take (fun vs H Q E h => ?_) (fun f cdv A outer s H vs Q E hr h => ?_)
  · obtain ⟨st, c, many, rfl, _⟩ := h
    rfl
  obtain ⟨st, c, many, rfl, ⟨ns, p, d, z, t, hst, hc, hne, hp, hd⟩, hm, q⟩ := h
  refine ⟨_, (pss_cons (ps_if (pt_cmpR op_lt (pv 1 (hd := nd_many) (hcd := nc_many)) pe_int (nomark _)) (pss_one (ps_ret pe_int)) pss_nil)
  (pss_cons (ps_set (i := 2) sc__law_take.nd rfl (Or.inl rfl) (pe_callTy q_intI (by rfl) m_int bb_int (pa_cons (pe_ix ix_list (pv 0 (hd := nd_store) (hcd := nc_store)) pe_int (fun _ _ => rfl)) pa_nil) (hn := nn_int) (hdb := nd_int)))
  (pss_cons (ps_if (pt_cmpR op_gt (pv 2 (hd := nd_digits) (hcd := nc_digits)) pe_int (nomark _)) (pss_cons (ps_asg (pe_op op_fdivW (pv 2 (hd := nd_digits) (hcd := nc_digits)) (pv 1 (hd := nd_many) (hcd := nc_many))) (pg_sub (pv 0 (hd := nd_store) (hcd := nc_store)) pe_int set_list))
  (pss_one (ps_ret (pe_op op_mod (pv 2 (hd := nd_digits) (hcd := nc_digits)) (pv 1 (hd := nd_many) (hcd := nc_many)))))) pss_nil)
  (pss_cons (ps_asg (pe_op op_add (pe_callTy q_intI (by rfl) m_int bb_int (pa_cons (pe_ix ix_list (pv 0 (hd := nd_store) (hcd := nc_store)) pe_int (fun _ _ => rfl)) pa_nil) (hn := nn_int) (hdb := nd_int)) pe_int) (pg_sub (pv 0 (hd := nd_store) (hcd := nc_store)) pe_int set_list))
  (pss_cons (ps_set (i := 3) sc__law_take.nd rfl (Or.inl rfl) (pe_callTy q_intI (by rfl) m_int bb_int (pa_cons (pe_ix ix_list (pv 0 (hd := nd_store) (hcd := nc_store)) pe_int (fun _ _ => rfl)) pa_nil) (hn := nn_int) (hdb := nd_int)))
  (pss_cons (ps_set (i := 4) sc__law_take.nd rfl (Or.inl rfl) (pe_ix ix_list (pv 0 (hd := nd_store) (hcd := nc_store)) pe_int (fun _ _ => rfl)))
  (pss_cons (ps_set (i := 5) sc__law_take.nd rfl (Or.inl rfl) (pe_callTy q_intI (by rfl) m_int bb_int (pa_cons (pe_ix ix_list (pv 0 (hd := nd_store) (hcd := nc_store)) pe_int (fun _ _ => rfl)) pa_nil) (hn := nn_int) (hdb := nd_int)))
  (pss_cons (ps_if (pt_cmpR op_lt (pv 5 (hd := nd_place) (hcd := nc_place)) (pe_callB q_len (by rfl) m_len PySem.boot_len (pa_cons (pv 4 (hd := nd_cells) (hcd := nc_cells)) pa_nil) (hn := nn_len) (hdb := nd_len)) (nomark _)) (pss_cons (ps_set (i := 6) sc__law_take.nd rfl (Or.inl rfl) (pe_callTy q_intI (by rfl) m_int bb_int (pa_cons (pe_ix ix_list (pv 4 (hd := nd_cells) (hcd := nc_cells)) (pv 5 (hd := nd_place) (hcd := nc_place)) (fun _ _ => rfl)) pa_nil) (hn := nn_int) (hdb := nd_int)))
  (pss_cons (ps_asg (pe_op op_add (pv 5 (hd := nd_place) (hcd := nc_place)) pe_int) (pg_sub (pv 0 (hd := nd_store) (hcd := nc_store)) pe_int set_list))
  (pss_cons (ps_if (pt_cmpR op_ge (pv 6 (hd := nd_cell) (hcd := nc_cell)) (pe_op op_pow pe_int pe_int) (nomark _)) (pss_cons (ps_asg (pe_op op_fdivW (pv 6 (hd := nd_cell) (hcd := nc_cell)) (pv 1 (hd := nd_many) (hcd := nc_many))) (pg_sub (pv 0 (hd := nd_store) (hcd := nc_store)) pe_int set_list))
  (pss_one (ps_ret (pe_op op_mod (pv 6 (hd := nd_cell) (hcd := nc_cell)) (pv 1 (hd := nd_many) (hcd := nc_many)))))) pss_nil)
  (pss_one (ps_set (i := 7) sc__law_take.nd rfl (Or.inl rfl) (pe_op op_mod (pe_op op_add (pe_op op_add (pe_op op_mul (pv 6 (hd := nd_cell) (hcd := nc_cell)) pe_int) (pe_op op_mul (pv 3 (hd := nd_tick) (hcd := nc_tick)) pe_int)) pe_int) pe_int)))))) (pss_cons (ps_set (i := 7) sc__law_take.nd rfl (Or.inl rfl) (pe_op op_mod (pe_op op_add (pe_op op_add (pe_op op_mul (pe_callTy q_intI (by rfl) m_int bb_int (pa_cons (pe_ix ix_list (pv 0 (hd := nd_store) (hcd := nc_store)) pe_int (fun _ _ => rfl)) pa_nil) (hn := nn_int) (hdb := nd_int)) pe_int) (pe_op op_mul (pv 3 (hd := nd_tick) (hcd := nc_tick)) pe_int)) pe_int) pe_int))
  (pss_one (ps_asg (pv 7 (hd := nd_mixed) (hcd := nc_mixed)) (pg_sub (pv 0 (hd := nd_store) (hcd := nc_store)) pe_int set_list)))))
  (pss_one (ps_ret (pe_op op_mod (pe_op op_mod (pe_op op_add (pe_op op_mul (pv 7 (hd := nd_mixed) (hcd := nc_mixed)) (pv 7 (hd := nd_mixed) (hcd := nc_mixed))) (pe_op op_fdivW (pv 7 (hd := nd_mixed) (hcd := nc_mixed)) pe_int)) pe_int) (pv 1 (hd := nd_many) (hcd := nc_many))))))))))))), ?_⟩
  refine Rd.at0 (σ := [some (.ref st), some (.int many), none, none, none, none, none, none]) rfl ?_
  repeat' (walk_at "rd")
  · exact q 0 _ (Int.le_refl 0) (.inr rfl) (Go.refl ⟨ns, p, d, z, t, hst, hc, hne, hp, hd⟩)
  · exact q _ _ (Int.emod_nonneg _ (by omega)) (.inl (Int.emod_lt_of_pos _ (by omega))) (go_upd hst hc hne hp (Int.ediv_nonneg hd (by omega)))
  · rename_i v hv hv2
    have h0 : (0 : Int) ≤ v := Int.le_trans (by decide) hv2
    rw [upd_upd, upd_upd]
    exact q _ _ (Int.emod_nonneg _ (by omega)) (.inl (Int.emod_lt_of_pos _ (by omega))) (go_upd hst hc hne (by omega) (Int.ediv_nonneg h0 (by omega)))
  · rw [upd_upd]
    exact q _ _ (Int.emod_nonneg _ (by omega)) (.inl (Int.emod_lt_of_pos _ (by omega))) (go_upd hst hc hne (by omega) hd)
  · rw [upd_upd]
    exact q _ _ (Int.emod_nonneg _ (by omega)) (.inl (Int.emod_lt_of_pos _ (by omega))) (go_upd hst hc hne hp hd)
/-- _law_between(store, least, most): a number from least to most; least if most is less -/
def spBetween : Sp := fun vs H Q _ => ∃ (st c : Addr) (lo hi : Int), vs = [.ref st, .int lo, .int hi] ∧ StoreAt H st c ∧ hi - lo < 4611686018427387900 ∧ ∀ (r : Int) (H' : Hp), lo ≤ r → (r ≤ hi ∨ r = lo) → Go st c H H' → Q (.int r) H'
theorem ok__law_between (F : Def K mg "_law_between" s__law_between P__law_between) (C__law_take : Cal P w K mg base 1 "_law_take" P__law_take spTake) : Cal P w K mg base 2 "_law_between" P__law_between spBetween := by
  refine F.ok sc__law_between (fun vs H Q E h => ?_) (fun f cdv A outer s H vs Q E hr h => ?_)
  · obtain ⟨st, c, lo, hi, rfl, _⟩ := h
    rfl
  obtain ⟨st, c, lo, hi, rfl, hs, hm, q⟩ := h
  refine ⟨_, (pss_cons (ps_if (pt_cmpR op_le (pv 2 (hd := nd_most) (hcd := nc_most)) (pv 1 (hd := nd_least) (hcd := nc_least)) (nomark _)) (pss_one (ps_ret (pv 1 (hd := nd_least) (hcd := nc_least)))) pss_nil)
  (pss_cons (ps_set (i := 3) sc__law_between.nd rfl (Or.inl rfl) (pe_cal C__law_take hr (pa_cons (pv 0 (hd := nd_store) (hcd := nc_store)) (pa_cons pe_int pa_nil)) (hdb := nd__law_take)))
  (pss_cons (ps_if (pt_cmpR op_eq (pv 3 (hd := nd_edge) (hcd := nc_edge)) pe_int (nomark _)) (pss_one (ps_ret (pv 1 (hd := nd_least) (hcd := nc_least)))) pss_nil)
  (pss_cons (ps_if (pt_cmpR op_eq (pv 3 (hd := nd_edge) (hcd := nc_edge)) pe_int (nomark _)) (pss_one (ps_ret (pv 2 (hd := nd_most) (hcd := nc_most)))) pss_nil)
  (pss_cons (ps_if (pt_cmpR op_eq (pv 3 (hd := nd_edge) (hcd := nc_edge)) pe_int (nomark _)) (pss_one (ps_ret (pe_op op_add (pv 1 (hd := nd_least) (hcd := nc_least)) pe_int))) pss_nil)
  (pss_one (ps_ret (pe_op op_add (pv 1 (hd := nd_least) (hcd := nc_least)) (pe_cal C__law_take hr (pa_cons (pv 0 (hd := nd_store) (hcd := nc_store)) (pa_cons (pe_op op_add (pe_op op_sub (pv 2 (hd := nd_most) (hcd := nc_most)) (pv 1 (hd := nd_least) (hcd := nc_least))) pe_int) pa_nil)) (hdb := nd__law_take)))))))))), ?_⟩
  refine Rd.at0 (σ := [some (.ref st), some (.int lo), some (.int hi), none]) rfl ?_
  repeat' (walk_at "rd")
  · exact q lo _ (Int.le_refl _) (.inr rfl) (Go.refl hs)
  refine ⟨st, c, 9, rfl, hs, by decide, fun e H1 h0 h9 g1 => ?_⟩
  repeat' (walk_at "rd")
  · exact q lo _ (Int.le_refl _) (.inr rfl) g1
  · exact q hi _ (by omega) (.inl (Int.le_refl _)) g1
  · exact q (lo + 1) _ (by omega) (.inl (by omega)) g1
  refine ⟨st, c, hi - lo + 1, rfl, g1.ok, by omega, fun r H2 k0 k1 g2 => ?_⟩
  repeat' (walk_at "rd")
  exact q (lo + r) _ (by omega) (.inl (by omega)) (g1.trans g2)
/-- _law_store(script): a new store -/
def spStore (K : PySem.W.Frag) : Sp := fun vs H Q _ => ∃ (a : Addr) (ns : List Int), vs = [.ref a] ∧ SqL K H a (ns.map V.int) ∧ ns.length ≤ 1000 ∧ ∀ (st c : Addr) (H' : Hp), Same H H' → H st = none → StoreAt H' st c → Q (.ref st) H'
theorem ok__law_store (F : Def K mg "_law_store" s__law_store P__law_store) (m_list : mg "list" = none) (m_len : mg "len" = none) (m_int : mg "int" = none) : Cal P w K mg base 1 "_law_store" P__law_store (spStore K) := by
  refine F.ok sc__law_store (fun vs H Q E h => ?_) (fun f cdv A outer s H vs Q E hr h => ?_)
  · obtain ⟨a, ns, rfl, _⟩ := h
    rfl
  obtain ⟨a, ns, rfl, hS, hl, q⟩ := h
  refine ⟨_, (pss_cons (ps_set (i := 1) sc__law_store.nd rfl (Or.inl rfl) (pe_callTy q_list (by rfl) m_list bb_list (pa_cons (pv 0 (hd := nd_script) (hcd := nc_script)) pa_nil) (hn := nn_list) (hdb := nd_list)))
  (pss_cons (ps_set (i := 2) sc__law_store.nd rfl (Or.inl rfl) (pe_op op_add pe_int (pe_callB q_len (by rfl) m_len PySem.boot_len (pa_cons (pv 1 (hd := nd_cells) (hcd := nc_cells)) pa_nil) (hn := nn_len) (hdb := nd_len))))
  (pss_cons (ps_for PassesOwn.never rfl (pi_list (pv 1 (hd := nd_cells) (hcd := nc_cells))) (pg_name (i := 3) sc__law_store.nd rfl (Or.inl rfl)) (pss_one (ps_set (i := 2) sc__law_store.nd rfl (Or.inl rfl) (pe_op op_mod (pe_op op_add (pe_op op_add (pe_op op_mul (pv 2 (hd := nd_state) (hcd := nc_state)) pe_int) (pe_op op_mod (pe_callTy q_intI (by rfl) m_int bb_int (pa_cons (pv 3 (hd := nd_cell) (hcd := nc_cell)) pa_nil) (hn := nn_int) (hdb := nd_int)) pe_int)) pe_int) pe_int))))
  (pss_one (ps_ret (pe_lst (pa_cons (pv 1 (hd := nd_cells) (hcd := nc_cells)) (pa_cons pe_int (pa_cons pe_int (pa_cons (pv 2 (hd := nd_state) (hcd := nc_state)) (pa_cons pe_int pa_nil))))))))))), ?_⟩
  refine Rd.at0 (σ := [some (.ref a), none, none, none]) rfl ?_
  repeat' (walk_at "rd")
  intro c hc
  repeat' (walk_at "rd")
  refine forL (ns.map V.int) (fun i σ H' => ∃ (s : Int) (v3 : Option V), σ = [some (.ref a), some (.ref c), some (.int s), v3] ∧ H' = upd H c (.lst (ns.map V.int))) ⟨_, none, rfl, rfl⟩ (fun i σ H' _ ⟨_, _, _, e⟩ => by rw [e]; exact .inl (.inl upd_same)) ?_ ?_
  · rintro i x σ H' hx ⟨z, v3, rfl, rfl⟩
    obtain ⟨y, hy, rfl⟩ := int_at hx
    repeat' (walk_at "rd")
    exact ⟨_, _, rfl, rfl⟩
  · rintro σ H' ⟨z, v3, rfl, rfl⟩
    repeat' (walk_at "rd")
    intro st hst
    have n1 : c ≠ st := (new_ne upd_same hst).symm
    exact q st c _ ((same_upd hc).trans (same_upd hst)) (free_of hst (same_upd hc)) ⟨ns, 0, 0, z, 0, upd_same, (upd_ne n1).trans upd_same, n1, Int.le_refl _, Int.le_refl _⟩
end
/-! ### a drawn order -/
/-- _law_shuffled(store, items): a new list of the same items in some order -/
def spShuffled (K : PySem.W.Frag) : Sp := fun vs H Q _ => ∃ (st c a : Addr) (xs : List V), vs = [.ref st, .ref a] ∧ StoreAt H st c ∧ SqL K H a xs ∧ xs.length ≤ 100000 ∧
  ∀ (l : Addr) (ys : List V) (H' : Hp), ys.Perm xs → H l = none → Go st c H H' → H' l = some (.lst ys) → Q (.ref l) H'
section
variable {P : Program} {w : World} {K : PySem.W.Frag} {mg : Str → Option Value} {base : Heap}
theorem ok__law_shuffled (F : Def K mg "_law_shuffled" s__law_shuffled P__law_shuffled) (m_list : mg "list" = none) (m_reversed : mg "reversed" = none) (m_range : mg "range" = none) (m_len : mg "len" = none) (C__law_take : Cal P w K mg base 1 "_law_take" P__law_take spTake) : Cal P w K mg base 2 "_law_shuffled" P__law_shuffled (spShuffled K) := by
  refine F.ok sc__law_shuffled (fun vs H Q E h => ?_) (fun f cdv A outer s H vs Q E hr h => ?_)
  · obtain ⟨st, c, a, xs, rfl, _⟩ := h
    rfl
  obtain ⟨st, c, a, xs, rfl, hs, ha, hl, q⟩ := h
  refine ⟨_, (pss_cons (ps_set (i := 2) sc__law_shuffled.nd rfl (Or.inl rfl) (pe_callTy q_list (by rfl) m_list bb_list (pa_cons (pv 1 (hd := nd_items) (hcd := nc_items)) pa_nil) (hn := nn_list) (hdb := nd_list)))
  (pss_cons (ps_set (i := 3) sc__law_shuffled.nd rfl (Or.inl rfl) (pe_cal C__law_take hr (pa_cons (pv 0 (hd := nd_store) (hcd := nc_store)) (pa_cons pe_int pa_nil)) (hdb := nd__law_take)))
  (pss_cons (ps_if (pt_cmpR op_eq (pv 3 (hd := nd_style) (hcd := nc_style)) pe_int (nomark _)) (pss_one (ps_ret (pv 2 (hd := nd_row) (hcd := nc_row)))) pss_nil)
  (pss_cons (ps_if (pt_cmpR op_eq (pv 3 (hd := nd_style) (hcd := nc_style)) pe_int (nomark _)) (pss_one (ps_ret (pe_lstRev (by rfl) (by rfl) m_list (by rfl) m_reversed (pv 2 (hd := nd_row) (hcd := nc_row))))) pss_nil)
  (pss_cons (ps_for PassesOwn.never rfl (pi_range1 (by rfl) m_range (pa_cons (pe_op op_sub (pe_callB q_len (by rfl) m_len PySem.boot_len (pa_cons (pv 2 (hd := nd_row) (hcd := nc_row)) pa_nil) (hn := nn_len) (hdb := nd_len)) pe_int) pa_nil)) (pg_name (i := 4) sc__law_shuffled.nd rfl (Or.inl rfl)) (pss_cons (ps_set (i := 5) sc__law_shuffled.nd rfl (Or.inl rfl) (pe_op op_add (pv 4 (hd := nd_k) (hcd := nc_k)) (pe_cal C__law_take hr (pa_cons (pv 0 (hd := nd_store) (hcd := nc_store)) (pa_cons (pe_op op_sub (pe_callB q_len (by rfl) m_len PySem.boot_len (pa_cons (pv 2 (hd := nd_row) (hcd := nc_row)) pa_nil) (hn := nn_len) (hdb := nd_len)) (pv 4 (hd := nd_k) (hcd := nc_k))) pa_nil)) (hdb := nd__law_take))))
  (pss_cons (ps_set (i := 6) sc__law_shuffled.nd rfl (Or.inl rfl) (pe_ix ix_list (pv 2 (hd := nd_row) (hcd := nc_row)) (pv 4 (hd := nd_k) (hcd := nc_k)) (fun _ _ => rfl)))
  (pss_cons (ps_asg (pe_ix ix_list (pv 2 (hd := nd_row) (hcd := nc_row)) (pv 5 (hd := nd_at) (hcd := nc_at)) (fun _ _ => rfl)) (pg_sub (pv 2 (hd := nd_row) (hcd := nc_row)) (pv 4 (hd := nd_k) (hcd := nc_k)) set_list))
  (pss_one (ps_asg (pv 6 (hd := nd_kept) (hcd := nc_kept)) (pg_sub (pv 2 (hd := nd_row) (hcd := nc_row)) (pv 5 (hd := nd_at) (hcd := nc_at)) set_list)))))))
  (pss_one (ps_ret (pv 2 (hd := nd_row) (hcd := nc_row))))))))), ?_⟩
  refine Rd.at0 (σ := [some (.ref st), some (.ref a), none, none, none, none, none]) rfl ?_
  repeat' (walk_at "rd")
  intro p hp
  have pst := hs.off hp
  have g0 : Go st c H (upd H p (.lst xs)) := (Go.refl hs).new hp _
  repeat' (walk_at "rd")
  refine ⟨st, c, 6, rfl, g0.ok, by decide, fun e H1 e0 e6 g1 => ?_⟩
  have hp1 : H1 p = some (.lst xs) := g1.keep p _ pst.1 upd_same
  have g01 := g0.trans g1
  repeat' (walk_at "rd")
  · exact q p xs H1 (.refl _) hp g01 hp1
  · intro r hr1
    exact q r xs.reverse _ (List.reverse_perm xs) (g01.free hr1) (g01.new hr1 _) upd_same
  refine forR (fun i σ H' => ∃ (ys : List V) (v4 v5 v6 : Option V), σ = [some (.ref st), some (.ref a), some (.ref p), some (.int e), v4, v5, v6] ∧ ys.Perm xs ∧ H' p = some (.lst ys) ∧ Go st c H H')
    ⟨xs, none, none, none, rfl, .refl _, hp1, g01⟩ ?_ ?_
  · rintro i σ H' hi ⟨ys, v4, v5, v6, rfl, pm, hp', g⟩
    have hy : ys.length = xs.length := pm.length_eq
    have hi2 : i + 1 < ys.length := by omega
    repeat' (walk_at "rd")
    refine ⟨st, c, _, rfl, g.ok, by omega, fun r H2 r0 r1 g2 => ?_⟩
    have hp2 : H2 p = some (.lst ys) := g2.keep p _ pst.1 hp'
    have hr2 : 0 + (i : Int) + r < (ys.length : Int) := by omega
    have x1 : ys[(0 + (i : Int)).toNat]? = some ys[i] := by
      rw [show (0 + (i : Int)).toNat = i by omega]
      exact List.getElem?_eq_getElem (by omega)
    have j2 : (0 + (i : Int) + r).toNat < ys.length := by omega
    have x2 : ys[(0 + (i : Int) + r).toNat]? = some ys[(0 + (i : Int) + r).toNat] := List.getElem?_eq_getElem j2
    repeat' (walk_at "rd")
    refine ixN' (.inl (.inl hp2)) (by omega) x1 ?_
    repeat' (walk_at "rd")
    refine ixN' (.inl (.inl hp2)) (by omega) x2 ?_
    repeat' (walk_at "rd")
    refine setN' hp2 (by omega) (by omega) ?_
    repeat' (walk_at "rd")
    refine setN' upd_same (by omega) (by rw [List.length_set]; omega) ?_
    repeat' (walk_at "rd")
    rw [upd_upd]
    exact ⟨_, _, _, _, rfl, (swap_perm x1 x2).trans pm, upd_same, (g.trans g2).write hp pst _⟩
  · rintro σ H' ⟨ys, v4, v5, v6, rfl, pm, hp', g⟩
    repeat' (walk_at "rd")
    exact q p ys H' pm hp g hp'
end
end Kj
namespace Kj
open PySem PySem.Spec PyProof.Rows L2 Rd
/-! ### the stepper -/
local macro_rules | `(tactic| walk_at "hp") => `(tactic| first
  | assumption
  | exact upd_same
  | (refine Eq.trans (upd_ne (by first | assumption | (apply Ne.symm; assumption))) ?_; walk_at "hp"))
local macro_rules | `(tactic| walk_at "sq") => `(tactic| first
  | assumption
  | (refine Or.inl (Or.inl ?_); walk_at "hp"))
local macro_rules | `(tactic| walk_at "st") => `(tactic| first
  | assumption
  | (refine Or.inl (Or.inl ?_); walk_at "hp"))
local macro_rules | `(tactic| walk_at "ar") => `(tactic| first
  | assumption
  | omega
  | decide)
local macro_rules | `(tactic| walk_at "ci") => `(tactic| first
  | (refine (show CMul _ _ from Or.inr ⟨?_, ?_⟩) <;> omega)
  | (refine (show CMul _ _ from Or.inl ⟨?_, ?_⟩) <;> omega)
  | (show CPow _ _; exact ⟨by decide, by decide, by decide⟩)
  | (refine wide_div (b := 63) ?_ ?_ (by decide) (by decide) <;> omega)
  | (show (0 : Int) < _; omega))
local macro_rules | `(tactic| walk_at "ty") => `(tactic| first
  | exact dp_ty (by assumption)
  | exact TyX.base (TyOf.int _)
  | exact TyX.base (TyOf.str _)
  | exact TyX.base (TyOf.bl _)
  | exact TyX.base TyOf.non
  | exact tyL' (by walk_at "sq")
  | exact tyT' (by walk_at "st"))
local macro_rules | `(tactic| walk_at "isi") => `(tactic| first
  | ((with_reducible apply Rd.isiF); (walk_at "ty"); (decide))
  | ((with_reducible apply Rd.isiT); (walk_at "ty"); (decide)))
local macro_rules | `(tactic| walk_at "rd") => `(tactic| first
  | with_reducible apply Rd.seq
  | ((with_reducible apply Rd.var); rfl)
  | with_reducible apply Rd.con
  | with_reducible apply Rd.op
  | with_reducible apply Rd.asg
  | ((with_reducible apply Rd.gname); ((dsimp only [List.set, L2.wipe, Int.reduceToNat]) <;> rfl))
  | with_reducible apply Rd.nxt
  | with_reducible apply Rd.ifs
  | with_reducible apply Rd.test
  | with_reducible apply Rd.testB
  | with_reducible apply Rd.exbl
  | with_reducible apply Rd.ret
  | with_reducible apply Rd.drop
  | with_reducible apply Rd.retN
  | with_reducible apply Rd.nil
  | with_reducible apply Rd.cons
  | with_reducible apply Rd.call
  | with_reducible apply Rd.cb
  | with_reducible apply Rd.and
  | with_reducible apply Rd.or
  | with_reducible apply Rd.not
  | with_reducible apply Rd.andV
  | with_reducible apply Rd.orV
  | with_reducible apply Rd.notV
  | with_reducible apply Rd.ife
  | with_reducible apply Rd.tup
  | with_reducible apply Rd.lst
  | with_reducible apply Rd.un
  | with_reducible apply Rd.chain
  | with_reducible apply Rd.brk
  | with_reducible apply Rd.cnt
  | with_reducible apply Rd.I0
  | with_reducible apply Rd.U1
  | ((with_reducible apply Rd.eq); rfl)
  | ((with_reducible apply Rd.ne); rfl)
  | ((with_reducible apply Rd.I1); (walk_at "ci"))
  | with_reducible apply Rd.lc0
  | with_reducible apply Rd.ln0
  | with_reducible apply Rd.exN
  | ((with_reducible apply Rd.iteSf); (decide +kernel))
  | ((with_reducible apply Rd.iteSt); (decide +kernel))
  | ((with_reducible apply Rd.niQ); (exact Or.inl (by walk_at "sq")); (exact ⟨rfl, rfl⟩); (rfl))
  | ((with_reducible apply Rd.inQ); (exact Or.inl (by walk_at "sq")); (exact ⟨rfl, rfl⟩); (rfl))
  | with_reducible apply Rd.rn1
  | with_reducible apply Rd.in1
  | with_reducible apply Rd.sn1
  | with_reducible apply Rd.bn1
  | with_reducible apply Rd.nn1
  | with_reducible apply Rd.rn2
  | with_reducible apply Rd.in2
  | with_reducible apply Rd.sn2
  | with_reducible apply Rd.bn2
  | with_reducible apply Rd.nn2
  | with_reducible apply Rd.nt1
  | with_reducible apply Rd.nf1
  | (with_reducible refine Rd.iteI (fun _ => ?_) (fun _ => ?_))
  | (with_reducible refine Rd.iteNI (fun _ => ?_) (fun _ => ?_))
  | (with_reducible refine iteT ?_)
  | (with_reducible refine iteF ?_)
  | (with_reducible refine Rd.iteD (fun _ => ?_) (fun _ => ?_))
  | (with_reducible refine Rd.iteN (fun _ => ?_) (fun _ => ?_))
  | with_reducible apply Rd.intI
  | with_reducible apply Rd.intB
  | with_reducible apply Rd.maxQ
  | with_reducible apply Rd.minQ
  | with_reducible apply Rd.absQ
  | with_reducible apply Rd.isN
  | with_reducible apply Rd.noN
  | with_reducible apply Rd.ltZ
  | with_reducible apply Rd.bm
  | with_reducible apply Rd.bm0
  | with_reducible apply Rd.par
  | with_reducible apply Rd.expar
  | with_reducible apply Rd.exint
  | with_reducible apply Rd.ipi
  | with_reducible apply Rd.slice
  | with_reducible apply Rd.noPart
  | with_reducible apply Rd.part
  | with_reducible apply Rd.gcons
  | with_reducible apply Rd.gnil
  | with_reducible apply Rd.iseq
  | with_reducible apply Rd.irng1
  | walk_at "isi"
  | with_reducible apply Rd.forX
  | with_reducible apply Rd.lstRev
  | with_reducible apply Rd.lstRg
  | with_reducible apply Rd.rg1
  | with_reducible apply Rd.rg2
  | with_reducible apply Rd.exint2
  | ((with_reducible apply Rd.exrev); (walk_at "sq"))
  | with_reducible apply Rd.lcX
  | with_reducible apply Rd.yes
  | ((with_reducible apply Rd.exrng1); (constructor <;> omega))
  | ((with_reducible apply Rd.exrng2); (refine ⟨?_, ?_, ?_, ?_⟩ <;> omega))
  | with_reducible apply Rd.irng2
  | ((with_reducible apply Rd.aug); rfl)
  | ((with_reducible apply Rd.exlst); (walk_at "sq"))
  | ((with_reducible apply Rd.gtup); (walk_at "st"); (rfl))
  | ((with_reducible apply Rd.tyL); (walk_at "hp"))
  | ((with_reducible apply Rd.ixL); (walk_at "sq"); (rfl))
  | ((with_reducible apply Rd.ixI); (walk_at "sq"); (omega); (first | assumption | (simp only [List.length_map]; omega)); (intro _ _))
  | (with_reducible refine Rd.gsub ?_)
  | ((with_reducible apply Rd.setL); (walk_at "hp"); (rfl); ((dsimp only [List.set, L2.wipe, Int.reduceToNat]) <;> rfl))
  | ((with_reducible apply Rd.lenQ); (first | exact Or.inl (by walk_at "sq") | exact Or.inr (by walk_at "st")))
  | ((with_reducible apply Rd.listQ); (first | exact Or.inl (by walk_at "sq") | exact Or.inr (by walk_at "st")))
  | ((with_reducible apply Rd.tupQ); (walk_at "sq"))
  | ((with_reducible apply Rd.slL); (walk_at "sq"))
  | ((with_reducible apply Rd.ixT); (walk_at "st"); (rfl))
  | (with_reducible refine Rd.iteB (fun _ => ?_) (fun _ => ?_))
  | (with_reducible refine Rd.iteNB (fun _ => ?_) (fun _ => ?_))
  | (refine Rd.andI (Nat.le_of_ble_eq_true rfl) ?_)
  | dsimp only [List.set])
/-! ### drawn names -/
section
variable {P : Program} {w : World} {K : PySem.W.Frag} {mg : Str → Option Value} {base : Heap}
abbrev A26 : Str := "abcdefghijklmnopqrstuvwxyz"
abbrev A36 : Str := "0123456789abcdefghijklmnopqrstuvwxyz"
theorem a26 : A26.length = 26 ∧ ∀ c ∈ cl A26, Low c := by decide +kernel
theorem a36 : A36.length = 36 ∧ ∀ c ∈ cl A36, Aln c := by decide +kernel
/-- _law_name(store): a name of 1 to 12 signs -/
def spName : Sp := fun vs H Q _ => ∃ (st c : Addr), vs = [.ref st] ∧ StoreAt H st c ∧ ∀ (z : Str) (H' : Hp), Nm (cl z) → z.length ≤ 12 → Go st c H H' → Q (.str z) H'
theorem ok__law_name (F : Def K mg "_law_name" s__law_name P__law_name) (m_range : mg "range" = none) (C__law_take : Cal P w K mg base 1 "_law_take" P__law_take spTake) (C__law_between : Cal P w K mg base 2 "_law_between" P__law_between spBetween) : Cal P w K mg base 3 "_law_name" P__law_name spName := by
  refine F.ok sc__law_name (fun vs H Q E h => ?_) (fun f cdv A outer s H vs Q E hr h => ?_)
  · obtain ⟨st, c, rfl, _⟩ := h
    rfl
  obtain ⟨st, c, rfl, hs, q⟩ := h
  refine ⟨_, (pss_cons (ps_set (i := 1) sc__law_name.nd rfl (Or.inl rfl) (pe_cal C__law_between hr (pa_cons (pv 0 (hd := nd_store) (hcd := nc_store)) (pa_cons pe_int (pa_cons pe_int pa_nil))) (hdb := nd__law_between)))
  (pss_cons (ps_set (i := 2) sc__law_name.nd rfl (Or.inl rfl) (pe_ix ix_str pe_str (pe_cal C__law_take hr (pa_cons (pv 0 (hd := nd_store) (hcd := nc_store)) (pa_cons pe_int pa_nil)) (hdb := nd__law_take)) (fun _ _ => rfl)))
  (pss_cons (ps_set (i := 3) sc__law_name.nd rfl (Or.inl rfl) (pe_cmpR op_eq (pe_cal C__law_take hr (pa_cons (pv 0 (hd := nd_store) (hcd := nc_store)) (pa_cons pe_int pa_nil)) (hdb := nd__law_take)) pe_int (nomark _)))
  (pss_cons (ps_for PassesOwn.never rfl (pi_range1 (by rfl) m_range (pa_cons (pe_op op_sub (pv 1 (hd := nd_size) (hcd := nc_size)) pe_int) pa_nil)) (pg_name (i := 4) sc__law_name.nd rfl (Or.inl rfl)) (pss_one (ps_if (pt_val (pv 3 (hd := nd_alike) (hcd := nc_alike))) (pss_one (ps_set (i := 2) sc__law_name.nd rfl (Or.inl rfl) (pe_op o_addZ (pv 2 (hd := nd_word) (hcd := nc_word)) (pe_ix ix_str (pv 2 (hd := nd_word) (hcd := nc_word)) pe_int (fun _ _ => rfl))))) (pss_one (ps_set (i := 2) sc__law_name.nd rfl (Or.inl rfl) (pe_op o_addZ (pv 2 (hd := nd_word) (hcd := nc_word)) (pe_ix ix_str pe_str (pe_cal C__law_take hr (pa_cons (pv 0 (hd := nd_store) (hcd := nc_store)) (pa_cons pe_int pa_nil)) (hdb := nd__law_take)) (fun _ _ => rfl))))))))
  (pss_one (ps_ret (pv 2 (hd := nd_word) (hcd := nc_word)))))))), ?_⟩
  refine Rd.at0 (σ := [some (.ref st), none, none, none, none]) rfl ?_
  repeat' (walk_at "rd")
  refine ⟨st, c, 1, 12, rfl, hs, by decide, fun size H1 s1 s2 g1 => ?_⟩
  repeat' (walk_at "rd")
  refine ⟨st, c, 26, rfl, g1.ok, by decide, fun r H2 r0 r1 g2 => ?_⟩
  refine sign (z := A26) (by rw [a26.1]; decide) (by omega) (by rw [a26.1]; omega) fun x _ hx => ?_
  have hx := a26.2 x hx
  repeat' (walk_at "rd")
  refine ⟨st, c, 3, rfl, g2.ok, by decide, fun t H3 t0 t1 g3 => ?_⟩
  repeat' (walk_at "rd")
  generalize decide (V.int t = V.int 0) = al
  refine forR (fun i σ H' => ∃ (z : Str) (v4 : Option V), σ = [some (.ref st), some (.int size), some (.str z), some (.bl al), v4] ∧ Nm (cl z) ∧ z.length = i + 1 ∧ Go st c H H')
    ⟨⟨#[x]⟩, none, rfl, ⟨x, [], rfl, hx, fun _ h => by cases h⟩, rfl, (g1.trans g2).trans g3⟩ ?_ ?_
  · rintro i σ H' hi ⟨z, v4, rfl, nz, lz, g⟩
    repeat' (walk_at "rd")
    · obtain ⟨x, ex, lx⟩ := nz.head
      refine sign (z := z) (by omega) (by decide) (by omega) fun y ey _ => ?_
      obtain rfl : x = y := Option.some.inj (ex.symm.trans ey)
      repeat' (walk_at "rd")
      refine addZ (by rw [one_len]; exact sz5 (by omega)) ?_
      repeat' (walk_at "rd")
      refine ⟨_, _, rfl, ?_, ?_, g⟩
      · rw [cl_add, cl_one]
        exact nz.snoc (.inl lx)
      · rw [add_len, one_len, lz]
    · refine ⟨st, c, 36, rfl, g.ok, by decide, fun r H4 r0 r1 g4 => ?_⟩
      refine sign (z := A36) (by rw [a36.1]; decide) (by omega) (by rw [a36.1]; omega) fun x _ hx => ?_
      have hx := a36.2 x hx
      repeat' (walk_at "rd")
      refine addZ (by rw [one_len]; exact sz5 (by omega)) ?_
      repeat' (walk_at "rd")
      refine ⟨_, _, rfl, ?_, ?_, g.trans g4⟩
      · rw [cl_add, cl_one]
        exact nz.snoc hx
      · rw [add_len, one_len, lz]
  · rintro σ H' ⟨z, v4, rfl, nz, lz, g⟩
    repeat' (walk_at "rd")
    exact q z H' nz (by omega) g
end
/-! ### one of a text's signs, one of a list's items; drawn names -/
section
variable {P : Program} {w : World} {K : PySem.W.Frag} {mg : Str → Option Value} {base : Heap}
theorem Go.seq {st c a : Addr} {H H' : Hp} {xs : List V} (g : Go st c H H') (n : a ≠ st) (h : SqL K H a xs) : SqL K H' a xs := by
  rcases h with (h | ⟨o, h⟩) | h
  · exact .inl (.inl (g.keep _ _ n h))
  · exact .inl (.inr ⟨o, g.keep _ _ n h⟩)
  · exact .inr h
/-- _law_pick(store, z) of a text: one of its signs -/
def spPickZ : Sp := fun vs H Q _ => ∃ (st c : Addr) (z : Str), vs = [.ref st, .str z] ∧ StoreAt H st c ∧ 1 ≤ z.length ∧ z.length ≤ 1000 ∧ ∀ (x : Nat) (H' : Hp), x ∈ cl z → Go st c H H' → Q (.str ⟨#[x]⟩) H'
/-- _law_pick(store, items) of a list: one of its items, None if there is none -/
def spPickL (K : PySem.W.Frag) : Sp := fun vs H Q _ => ∃ (st c a : Addr) (xs : List V), vs = [.ref st, .ref a] ∧ StoreAt H st c ∧ a ≠ st ∧ SqL K H a xs ∧ xs.length ≤ 100000 ∧ (xs = [] → Q .non H) ∧ ∀ (x : V) (H' : Hp), x ∈ xs → Go st c H H' → Q x H'
def spPick (K : PySem.W.Frag) : Sp := fun vs H Q E => spPickZ vs H Q E ∨ spPickL K vs H Q E
theorem ok__law_pick (F : Def K mg "_law_pick" s__law_pick P__law_pick) (m_len : mg "len" = none) (C__law_take : Cal P w K mg base 1 "_law_take" P__law_take spTake) : Cal P w K mg base 2 "_law_pick" P__law_pick (spPick K) := by
  refine F.ok sc__law_pick (fun vs H Q E h => ?_) (fun f cdv A outer s H vs Q E hr h => ?_)
  · rcases h with ⟨st, c, z, rfl, _⟩ | ⟨st, c, a, xs, rfl, _⟩ <;> rfl
  rcases h with ⟨st, c, z, rfl, hs, l1, l2, q⟩ | ⟨st, c, a, xs, rfl, hs, na, ha, l2, qn, q⟩
  · refine ⟨_, (pss_cons (ps_if (pt_cmpR op_eq (pe_callB q_lenZ (by rfl) m_len PySem.boot_len (pa_cons (pv 1 (hd := nd_items) (hcd := nc_items)) pa_nil) (hn := nn_len) (hdb := nd_len)) pe_int (nomark _)) (pss_one (ps_ret pe_non)) pss_nil)
  (pss_one (ps_ret (pe_ix ix_str (pv 1 (hd := nd_items) (hcd := nc_items)) (pe_cal C__law_take hr (pa_cons (pv 0 (hd := nd_store) (hcd := nc_store)) (pa_cons (pe_callB q_lenZ (by rfl) m_len PySem.boot_len (pa_cons (pv 1 (hd := nd_items) (hcd := nc_items)) pa_nil) (hn := nn_len) (hdb := nd_len)) pa_nil)) (hdb := nd__law_take)) (fun _ _ => rfl))))), ?_⟩
    refine Rd.at0 (σ := [some (.ref st), some (.str z)]) rfl ?_
    have lz : z.length ≤ sizeLine := sz5 (by omega)
    repeat' (walk_at "rd")
    refine lenZ lz ?_
    repeat' (walk_at "rd")
    · exfalso
      omega
    refine lenZ lz ?_
    refine ⟨st, c, _, rfl, hs, by omega, fun r H1 r0 r1 g => ?_⟩
    exact sign (by omega) r0 (by omega) fun x _ hx => q x H1 hx g
  · refine ⟨_, (pss_cons (ps_if (pt_cmpR op_eq (pe_callB q_len (by rfl) m_len PySem.boot_len (pa_cons (pv 1 (hd := nd_items) (hcd := nc_items)) pa_nil) (hn := nn_len) (hdb := nd_len)) pe_int (nomark _)) (pss_one (ps_ret pe_non)) pss_nil)
  (pss_one (ps_ret (pe_ix ix_list (pv 1 (hd := nd_items) (hcd := nc_items)) (pe_cal C__law_take hr (pa_cons (pv 0 (hd := nd_store) (hcd := nc_store)) (pa_cons (pe_callB q_len (by rfl) m_len PySem.boot_len (pa_cons (pv 1 (hd := nd_items) (hcd := nc_items)) pa_nil) (hn := nn_len) (hdb := nd_len)) pa_nil)) (hdb := nd__law_take)) (fun _ _ => rfl))))), ?_⟩
    refine Rd.at0 (σ := [some (.ref st), some (.ref a)]) rfl ?_
    by_cases e : xs = []
    · subst e
      repeat' (walk_at "rd")
      exact qn rfl
    have l1 := List.length_pos_iff.mpr e
    repeat' (walk_at "rd")
    · exfalso
      omega
    refine ⟨st, c, _, rfl, hs, by omega, fun r H1 r0 r1 g => ?_⟩
    have lt : r.toNat < xs.length := by omega
    exact ixN' (g.seq na ha) r0 (List.getElem?_eq_getElem lt) (q _ H1 (List.getElem_mem lt) g)
/-- _law_names(store, many): new names, all different -/
def spNames : Sp := fun vs H Q _ => ∃ (st c : Addr) (m : Int), vs = [.ref st, .int m] ∧ StoreAt H st c ∧ 0 ≤ m ∧ m ≤ 1000 ∧ ∀ (L : Addr) (zs : List Str) (H' : Hp), (zs.length : Int) = m → (∀ z ∈ zs, NmS z) → zs.Nodup → H L = none → Go st c H H' → H' L = some (.lst (zs.map V.str)) → Q (.ref L) H'
/-- two texts of which the first one has n signs -/
theorem two_at {a t : List Nat} {x y : Nat} : (a ++ ([x, y] ++ t))[a.length]? = some x ∧ (a ++ ([x, y] ++ t))[a.length + 1]? = some y := by
  constructor
  · rw [List.getElem?_append_right (Nat.le_refl _), Nat.sub_self]
    rfl
  · rw [List.getElem?_append_right (Nat.le_add_right a.length 1), Nat.add_sub_cancel_left]
    rfl
theorem snoc_at {α : Type} {zs : List α} {z y : α} {j : Nat} (h : (zs ++ [z])[j]? = some y) : (j < zs.length ∧ zs[j]? = some y) ∨ (j = zs.length ∧ y = z) := by
  by_cases l : j < zs.length
  · rw [List.getElem?_append_left l] at h
    exact .inl ⟨l, h⟩
  · rw [List.getElem?_append_right (by omega)] at h
    by_cases e : j - zs.length = 0
    · rw [e] at h
      exact .inr ⟨by omega, (Option.some.inj h).symm⟩
    · obtain ⟨k, hk⟩ : ∃ k, j - zs.length = k + 1 := ⟨j - zs.length - 1, by omega⟩
      rw [hk] at h
      cases h
theorem cl_str {l : List Nat} : cl ⟨l.toArray⟩ = l := by simp [cl]
theorem permS {ys : List V} {zs : List Str} (p : ys.Perm (zs.map V.str)) : ∃ ks : List Str, ys = ks.map V.str ∧ ks.Perm zs := by
  refine ⟨ys.map fun v => match v with | .str z => z | _ => "", ?_, ?_⟩
  · rw [List.map_map]
    conv => lhs; rw [← List.map_id ys]
    refine List.map_congr_left fun y hy => ?_
    obtain ⟨z, _, rfl⟩ := List.mem_map.mp (p.mem_iff.mp hy)
    rfl
  · have := p.map fun v => match v with | .str z => z | _ => ""
    rw [List.map_map] at this
    simpa [Function.comp_def] using this
local macro_rules | `(tactic| walk_at "sz") => `(tactic| first
  | exact sz5 (by omega)
  | (simp only [add_len, one_len]; exact sz5 (by omega)))
local macro_rules | `(tactic| walk_at "rd") => `(tactic| first
  | ((with_reducible apply Rd.lenZ); (walk_at "sz"))
  | ((with_reducible apply Rd.addZ); (walk_at "sz")))
theorem ok__law_names (F : Def K mg "_law_names" s__law_names P__law_names) (m_range : mg "range" = none) (m_int : mg "int" = none) (C__law_take : Cal P w K mg base 1 "_law_take" P__law_take spTake) (C__law_pick : Cal P w K mg base 2 "_law_pick" P__law_pick (spPick K)) (C__law_shuffled : Cal P w K mg base 2 "_law_shuffled" P__law_shuffled (spShuffled K)) : Cal P w K mg base 3 "_law_names" P__law_names spNames := by
  refine F.ok sc__law_names (fun vs H Q E h => ?_) (fun f cdv A outer s H vs Q E hr h => ?_)
  · obtain ⟨st, c, m, rfl, _⟩ := h
    rfl
  obtain ⟨st, c, m, rfl, hs, m0, m1, q⟩ := h
  refine ⟨_, (pss_cons (ps_set (i := 2) sc__law_names.nd rfl (Or.inl rfl) pe_str)
  (pss_cons (ps_set (i := 3) sc__law_names.nd rfl (Or.inl rfl) (pe_op o_addZ pe_str (pv 2 (hd := nd_letters) (hcd := nc_letters))))
  (pss_cons (ps_set (i := 4) sc__law_names.nd rfl (Or.inl rfl) (pe_cal C__law_take hr (pa_cons (pv 0 (hd := nd_store) (hcd := nc_store)) (pa_cons pe_int pa_nil)) (hdb := nd__law_take)))
  (pss_cons (ps_set (i := 5) sc__law_names.nd rfl (Or.inl rfl) (pe_cal C__law_pick hr (pa_cons (pv 0 (hd := nd_store) (hcd := nc_store)) (pa_cons (pv 2 (hd := nd_letters) (hcd := nc_letters)) pa_nil)) (hdb := nd__law_pick)))
  (pss_cons (ps_set (i := 6) sc__law_names.nd rfl (Or.inl rfl) (pe_lst pa_nil))
  (C8.pss_cut (ps_if (PW.pt (pw_and (pt_cmpR op_eq (pv 4 (hd := nd_style) (hcd := nc_style)) pe_int (nomark _)) (pw_and1 (pt_cmpR op_le (pv 1 (hd := nd_many) (hcd := nc_many)) pe_int (nomark _))))) (pss_cons (ps_set (i := 7) sc__law_names.nd rfl (Or.inl rfl) (pe_cal C__law_pick hr (pa_cons (pv 0 (hd := nd_store) (hcd := nc_store)) (pa_cons (pv 3 (hd := nd_signs) (hcd := nc_signs)) pa_nil)) (hdb := nd__law_pick)))
  (pss_cons (ps_for PassesOwn.never rfl (pi_range1 (by rfl) m_range (pa_cons (pv 1 (hd := nd_many) (hcd := nc_many)) pa_nil)) (pg_name (i := 8) sc__law_names.nd rfl (Or.inl rfl)) (pss_one (ps_expr (pe_bm PySem.F.plainAttrs_list PySem.F.slot_list_append PySem.F.type_list_append mt_append (pv 6 (hd := nd_names) (hcd := nc_names)) (pa_cons (pe_op o_addZ (pv 5 (hd := nd_first) (hcd := nc_first)) (pe_op op_rep_str (pv 7 (hd := nd_sign) (hcd := nc_sign)) (pv 8 (hd := nd_k) (hcd := nc_k)))) pa_nil)))))
  (pss_one (ps_ret (pe_cal C__law_shuffled hr (pa_cons (pv 0 (hd := nd_store) (hcd := nc_store)) (pa_cons (pv 6 (hd := nd_names) (hcd := nc_names)) pa_nil)) (hdb := nd__law_shuffled)))))) pss_nil)
  (C8.pss_cut (ps_if (PW.pt (pw_and (pt_cmpR op_lt (pv 4 (hd := nd_style) (hcd := nc_style)) pe_int (nomark _)) (pw_and1 (pt_cmpR op_le (pv 1 (hd := nd_many) (hcd := nc_many)) pe_int (nomark _))))) (pss_cons (ps_set (i := 9) sc__law_names.nd rfl (Or.inl rfl) (pe_cal C__law_take hr (pa_cons (pv 0 (hd := nd_store) (hcd := nc_store)) (pa_cons pe_int pa_nil)) (hdb := nd__law_take)))
  (pss_cons (ps_for PassesOwn.never rfl (pi_range1 (by rfl) m_range (pa_cons (pv 1 (hd := nd_many) (hcd := nc_many)) pa_nil)) (pg_name (i := 8) sc__law_names.nd rfl (Or.inl rfl)) (pss_one (ps_expr (pe_bm PySem.F.plainAttrs_list PySem.F.slot_list_append PySem.F.type_list_append mt_append (pv 6 (hd := nd_names) (hcd := nc_names)) (pa_cons (pe_ix ix_str (pv 2 (hd := nd_letters) (hcd := nc_letters)) (pe_op op_mod (pe_callTy q_intI (by rfl) m_int bb_int (pa_cons (pe_op op_add (pv 9 (hd := nd_start) (hcd := nc_start)) (pv 8 (hd := nd_k) (hcd := nc_k))) pa_nil) (hn := nn_int) (hdb := nd_int)) pe_int) (fun _ _ => rfl)) pa_nil)))))
  (pss_one (ps_ret (pe_cal C__law_shuffled hr (pa_cons (pv 0 (hd := nd_store) (hcd := nc_store)) (pa_cons (pv 6 (hd := nd_names) (hcd := nc_names)) pa_nil)) (hdb := nd__law_shuffled)))))) pss_nil)
  (pss_cons (ps_set (i := 10) sc__law_names.nd rfl (Or.inl rfl) (pv 5 (hd := nd_first) (hcd := nc_first)))
  (pss_cons (ps_for PassesOwn.never rfl (pi_range1 (by rfl) m_range (pa_cons (pe_cal C__law_take hr (pa_cons (pv 0 (hd := nd_store) (hcd := nc_store)) (pa_cons pe_int pa_nil)) (hdb := nd__law_take)) pa_nil)) (pg_name (i := 8) sc__law_names.nd rfl (Or.inl rfl)) (pss_one (ps_set (i := 10) sc__law_names.nd rfl (Or.inl rfl) (pe_op o_addZ (pv 10 (hd := nd_ahead) (hcd := nc_ahead)) (pe_cal C__law_pick hr (pa_cons (pv 0 (hd := nd_store) (hcd := nc_store)) (pa_cons (pv 3 (hd := nd_signs) (hcd := nc_signs)) pa_nil)) (hdb := nd__law_pick))))))
  (pss_cons (ps_set (i := 11) sc__law_names.nd rfl (Or.inl rfl) (pe_op op_rep_str (pe_cal C__law_pick hr (pa_cons (pv 0 (hd := nd_store) (hcd := nc_store)) (pa_cons (pv 3 (hd := nd_signs) (hcd := nc_signs)) pa_nil)) (hdb := nd__law_pick)) (pe_cal C__law_take hr (pa_cons (pv 0 (hd := nd_store) (hcd := nc_store)) (pa_cons pe_int pa_nil)) (hdb := nd__law_take))))
  (pss_cons (ps_set (i := 9) sc__law_names.nd rfl (Or.inl rfl) (pe_cal C__law_take hr (pa_cons (pv 0 (hd := nd_store) (hcd := nc_store)) (pa_cons pe_int pa_nil)) (hdb := nd__law_take)))
  (pss_cons (ps_set (i := 12) sc__law_names.nd rfl (Or.inl rfl) (pe_ix ix_list (pe_lst (pa_cons pe_int (pa_cons pe_int (pa_cons pe_int (pa_cons (pe_op op_add pe_int pe_int) (pa_cons (pe_op op_sub pe_int pe_int) pa_nil)))))) (pe_cal C__law_take hr (pa_cons (pv 0 (hd := nd_store) (hcd := nc_store)) (pa_cons pe_int pa_nil)) (hdb := nd__law_take)) (fun _ _ => rfl)))
  (pss_cons (ps_for PassesOwn.never rfl (pi_range1 (by rfl) m_range (pa_cons (pv 1 (hd := nd_many) (hcd := nc_many)) pa_nil)) (pg_name (i := 8) sc__law_names.nd rfl (Or.inl rfl)) (pss_cons (ps_set (i := 13) sc__law_names.nd rfl (Or.inl rfl) (pe_op op_mod (pe_callTy q_intI (by rfl) m_int bb_int (pa_cons (pe_op op_add (pv 9 (hd := nd_start) (hcd := nc_start)) (pe_op op_mul (pv 8 (hd := nd_k) (hcd := nc_k)) (pv 12 (hd := nd_step) (hcd := nc_step)))) pa_nil) (hn := nn_int) (hdb := nd_int)) pe_int))
  (pss_cons (ps_if (pt_cmpR op_eq (pv 4 (hd := nd_style) (hcd := nc_style)) pe_int (nomark _)) (pss_one (ps_set (i := 11) sc__law_names.nd rfl (Or.inl rfl) (pe_op op_rep_str (pe_cal C__law_pick hr (pa_cons (pv 0 (hd := nd_store) (hcd := nc_store)) (pa_cons (pv 3 (hd := nd_signs) (hcd := nc_signs)) pa_nil)) (hdb := nd__law_pick)) (pe_cal C__law_take hr (pa_cons (pv 0 (hd := nd_store) (hcd := nc_store)) (pa_cons pe_int pa_nil)) (hdb := nd__law_take))))) pss_nil)
  (pss_one (ps_expr (pe_bm PySem.F.plainAttrs_list PySem.F.slot_list_append PySem.F.type_list_append mt_append (pv 6 (hd := nd_names) (hcd := nc_names)) (pa_cons (pe_op o_addZ (pe_op o_addZ (pe_op o_addZ (pv 10 (hd := nd_ahead) (hcd := nc_ahead)) (pe_ix ix_str (pv 3 (hd := nd_signs) (hcd := nc_signs)) (pe_op op_fdivW (pv 13 (hd := nd_code) (hcd := nc_code)) pe_int) (fun _ _ => rfl))) (pe_ix ix_str (pv 3 (hd := nd_signs) (hcd := nc_signs)) (pe_op op_mod (pe_callTy q_intI (by rfl) m_int bb_int (pa_cons (pv 13 (hd := nd_code) (hcd := nc_code)) pa_nil) (hn := nn_int) (hdb := nd_int)) pe_int) (fun _ _ => rfl))) (pv 11 (hd := nd_tail) (hcd := nc_tail))) pa_nil)))))))
  (pss_one (ps_ret (pe_cal C__law_shuffled hr (pa_cons (pv 0 (hd := nd_store) (hcd := nc_store)) (pa_cons (pv 6 (hd := nd_names) (hcd := nc_names)) pa_nil)) (hdb := nd__law_shuffled))))))))))))))))), ?_⟩
  refine Rd.at0 (σ := [some (.ref st), some (.int m), none, none, none, none, none, none, none, none, none, none, none, none]) rfl ?_
  have e10 : ("0123456789" : Str).length = 10 := by decide +kernel
  have e26 : A26.length = 26 := a26_len
  have e26x := a26_len
  have e36x := a36_len
  have e36 : A36.length = 36 := a36_len
  have e26c : (cl A26).length = 26 := by rw [cl_len, e26]
  repeat' (walk_at "rd")
  rw [a36_cat]
  repeat' (walk_at "rd")
  refine ⟨st, c, 6, rfl, hs, by decide, fun sy H1 s0 s1 g1 => ?_⟩
  repeat' (walk_at "rd")
  refine .inl ⟨st, c, A26, rfl, g1.ok, by omega, by omega, fun fx H2 hfx g2 => ?_⟩
  have hfx := a26.2 fx hfx
  have g12 := g1.trans g2
  repeat' (walk_at "rd")
  intro L hL
  have oL := g12.ok.off hL
  have fL := g12.free hL
  have g3 := g12.new hL (.lst [])
  have eL : (upd H2 L (.lst [])) L = some (.lst ((([] : List Str)).map V.str)) := upd_same
  generalize upd H2 L (.lst []) = H3 at *
  repeat' (walk_at "rd")
  have nL : L ≠ st := oL.1
  have fin : ∀ (zs : List Str) (h : Hp) (EE : XK), (zs.length : Int) = m → (∀ z ∈ zs, NmS z) → zs.Nodup → h L = some (.lst (zs.map V.str)) → Go st c H h → spShuffled K [.ref st, .ref L] h Q EE := fun zs h EE hl hn nd hL g =>
    ⟨st, c, L, zs.map V.str, rfl, g.ok, .inl (.inl hL), by rw [List.length_map]; omega, fun l ys H' pm fl g' el => by
      obtain ⟨ks, rfl, pk⟩ := permS pm
      exact q l ks H' (by rw [pk.length_eq]; exact hl) (fun z hz => hn z (pk.mem_iff.mp hz)) (pk.nodup_iff.mpr nd) (g.free fl) (g.trans g') el⟩
  refine Rd.cut (fun σ' H' => σ' = [some (.ref st), some (.int m), some (.str A26), some (.str A36), some (.int sy), some (.str ⟨#[fx]⟩), some (.ref L), none, none, none, none, none, none, none] ∧ H' = H3) ?_ ?_
  · repeat' (walk_at "rd")
    · refine .inl ⟨st, c, A36, rfl, g3.ok, by omega, by omega, fun sx H4 hsx g4 => ?_⟩
      have hsx := a36.2 sx hsx
      have g34 := g3.trans g4
      repeat' (walk_at "rd")
      refine forR (fun i σ H' => ∃ (zs : List Str) (v8 : Option V), σ = [some (.ref st), some (.int m), some (.str A26), some (.str A36), some (.int sy), some (.str ⟨#[fx]⟩), some (.ref L), some (.str ⟨#[sx]⟩), v8, none, none, none, none, none] ∧ zs.length = i ∧
        (∀ (j : Nat) (z : Str), zs[j]? = some z → z = ⟨#[fx]⟩ ++ Txt.mul ⟨#[sx]⟩ ((j : Nat) : Int)) ∧ H' L = some (.lst (zs.map V.str)) ∧ Go st c H H') ⟨[], none, rfl, rfl, fun j z h => absurd h (by simp), g4.keep _ _ nL eL, g34⟩ ?_ ?_
      · rintro i σ H' hi ⟨zs, v8, rfl, lz, hz, eL', g'⟩
        have e0 : (0 : Int) + (i : Int) = (i : Int) := by omega
        repeat' (walk_at "rd")
        rw [e0]
        refine repZ ⟨by rw [one_len]; decide, by omega, by omega⟩ ?_
        have lm := mul_one_len sx i
        repeat' (walk_at "rd")
        refine append eL' (by rw [List.length_map, lz]; exact sz5' (by omega)) ?_
        repeat' (walk_at "rd")
        refine ⟨zs ++ [⟨#[fx]⟩ ++ Txt.mul ⟨#[sx]⟩ (i : Int)], _, rfl, by rw [List.length_append, lz]; rfl, fun j z h => ?_, by rw [List.map_append]; exact upd_same, g'.write fL oL _⟩
        rcases snoc_at h with ⟨_, h⟩ | ⟨e, h⟩
        · exact hz j z h
        · rw [h, e, lz]
      · rintro σ H' ⟨zs, v8, rfl, lz, hz, eL', g'⟩
        have lz : zs.length = m.toNat := lz
        repeat' (walk_at "rd")
        refine fin zs H' _ (by omega) (fun z hm => ?_) (nodup_rel (R := fun j z => z = ⟨#[fx]⟩ ++ Txt.mul ⟨#[sx]⟩ ((j : Nat) : Int)) (Nat.le_refl _) hz fun i j z _ _ h1 h2 => ?_) eL' g'
        · obtain ⟨j, hj, e⟩ := List.getElem_of_mem hm
          have h := hz j z (by rw [List.getElem?_eq_getElem hj, e])
          subst h
          refine ⟨?_, ?_⟩
          · rw [cl_add, mul_one_cl]
            exact (Nm.one hfx).app fun x hx => by rw [List.eq_of_mem_replicate hx]; exact hsx
          · rw [add_len, one_len, mul_one_len]
            omega
        · have : (⟨#[fx]⟩ ++ Txt.mul ⟨#[sx]⟩ ((i : Nat) : Int) : Str).length = (⟨#[fx]⟩ ++ Txt.mul ⟨#[sx]⟩ ((j : Nat) : Int) : Str).length := by rw [← h1, ← h2]
          rw [add_len, add_len, mul_one_len, mul_one_len] at this
          omega
    · exact ⟨rfl, rfl⟩
    · exact ⟨rfl, rfl⟩
  rintro σ' H' ⟨rfl, eH⟩
  rw [eH]
  clear eH H'
  repeat' (walk_at "rd")
  refine Rd.cut (fun σ' H' => σ' = [some (.ref st), some (.int m), some (.str A26), some (.str A36), some (.int sy), some (.str ⟨#[fx]⟩), some (.ref L), none, none, none, none, none, none, none] ∧ H' = H3) ?_ ?_
  · repeat' (walk_at "rd")
    · refine ⟨st, c, 26, rfl, g3.ok, by decide, fun r H4 r0 r1 g4 => ?_⟩
      have g34 := g3.trans g4
      repeat' (walk_at "rd")
      refine forR (fun i σ H' => ∃ (zs : List Str) (v8 : Option V), σ = [some (.ref st), some (.int m), some (.str A26), some (.str A36), some (.int sy), some (.str ⟨#[fx]⟩), some (.ref L), none, v8, some (.int r), none, none, none, none] ∧ zs.length = i ∧
        (∀ (j : Nat) (z : Str), zs[j]? = some z → ∃ x, z = ⟨#[x]⟩ ∧ (cl A26)[((r + ((j : Nat) : Int)) % 26).toNat]? = some x) ∧ H' L = some (.lst (zs.map V.str)) ∧ Go st c H H') ⟨[], none, rfl, rfl, fun j z h => absurd h (by simp), g4.keep _ _ nL eL, g34⟩ ?_ ?_
      · rintro i σ H' hi ⟨zs, v8, rfl, lz, hz, eL', g'⟩
        have e0 : (0 : Int) + (i : Int) = (i : Int) := by omega
        repeat' (walk_at "rd")
        rw [e0]
        refine sign (z := A26) (by omega) (by omega) (by omega) fun x hx _ => ?_
        repeat' (walk_at "rd")
        refine append eL' (by rw [List.length_map, lz]; exact sz5' (by omega)) ?_
        repeat' (walk_at "rd")
        refine ⟨zs ++ [⟨#[x]⟩], _, rfl, by rw [List.length_append, lz]; rfl, fun j z h => ?_, by rw [List.map_append]; exact upd_same, g'.write fL oL _⟩
        rcases snoc_at h with ⟨_, h⟩ | ⟨e, h⟩
        · exact hz j z h
        · rw [h, e, lz]
          exact ⟨x, rfl, hx⟩
      · rintro σ H' ⟨zs, v8, rfl, lz, hz, eL', g'⟩
        have lz : zs.length = m.toNat := lz
        repeat' (walk_at "rd")
        refine fin zs H' _ (by omega) (fun z hm => ?_) (nodup_rel (Nat.le_refl _) hz fun i j z hi hj ⟨x, h1, h2⟩ ⟨y, h3, h4⟩ => ?_) eL' g'
        · obtain ⟨j, hj, e⟩ := List.getElem_of_mem hm
          obtain ⟨x, rfl, hx⟩ := hz j z (by rw [List.getElem?_eq_getElem hj, e])
          exact ⟨Nm.one (a26.2 x (List.mem_of_getElem? hx)), by rw [one_len]; decide⟩
        · have exy : x = y := by
            have := h1.symm.trans h3
            have := congrArg cl this
            rw [cl_one, cl_one] at this
            exact List.head_eq_of_cons_eq this
          subst exy
          have := at_one a26_nd h2 h4
          omega
    · exact ⟨rfl, rfl⟩
    · exact ⟨rfl, rfl⟩
  rintro σ' H' ⟨rfl, eH⟩
  rw [eH]
  clear eH H'
  repeat' (walk_at "rd")
  refine ⟨st, c, 6, rfl, g3.ok, by decide, fun ka H4 ka0 ka1 g4 => ?_⟩
  repeat' (walk_at "rd")
  refine forR (fun i σ H' => ∃ (ah : Str) (v8 : Option V), σ = [some (.ref st), some (.int m), some (.str A26), some (.str A36), some (.int sy), some (.str ⟨#[fx]⟩), some (.ref L), none, v8, none, some (.str ah), none, none, none] ∧ Nm (cl ah) ∧ ah.length = 1 + i ∧
    H' L = some (.lst ((([] : List Str)).map V.str)) ∧ Go st c H H') ⟨⟨#[fx]⟩, none, rfl, Nm.one hfx, rfl, g4.keep _ _ nL eL, g3.trans g4⟩ ?_ ?_
  · rintro i σ H' hi ⟨ah, v8, rfl, na, la, eL', g'⟩
    repeat' (walk_at "rd")
    refine .inl ⟨st, c, A36, rfl, g'.ok, by omega, by omega, fun x H5 hx g5 => ?_⟩
    have hx := a36.2 x hx
    repeat' (walk_at "rd")
    refine ⟨_, _, rfl, ?_, ?_, g5.keep _ _ nL eL', g'.trans g5⟩
    · rw [cl_add, cl_one]
      exact na.snoc hx
    · rw [add_len, one_len]
      omega
  rintro σ H' ⟨ah, v8, rfl, na, la, eL', g'⟩
  have la : ah.length = 1 + ka.toNat := la
  repeat' (walk_at "rd")
  refine .inl ⟨st, c, A36, rfl, g'.ok, by omega, by omega, fun tx H5 htx g5 => ?_⟩
  have htx := a36.2 tx htx
  repeat' (walk_at "rd")
  refine ⟨st, c, 5, rfl, g5.ok, by decide, fun tn H6 tn0 tn1 g6 => ?_⟩
  refine repZ ⟨by rw [one_len]; decide, by omega, by omega⟩ ?_
  repeat' (walk_at "rd")
  refine ⟨st, c, 1296, rfl, g6.ok, by decide, fun s0 H7 s00 s01 g7 => ?_⟩
  repeat' (walk_at "rd")
  intro l hl
  have o7 := (g7.ok.put (g7.ok.off hl) (.lst [.int 1, .int 5, .int 7, .int (36 + 1), .int (1296 - 1)]))
  have el : (upd H7 l (.lst [.int 1, .int 5, .int 7, .int (36 + 1), .int (1296 - 1)])) l = some (.lst [.int 1, .int 5, .int 7, .int (36 + 1), .int (1296 - 1)]) := upd_same
  have g8 := ((g'.trans g5).trans g6).trans g7
  have g9 := g8.new hl (.lst [.int 1, .int 5, .int 7, .int (36 + 1), .int (1296 - 1)])
  have eL9 := same_upd (o := .lst [.int 1, .int 5, .int 7, .int (36 + 1), .int (1296 - 1)]) hl _ _ (g7.keep _ _ nL (g6.keep _ _ nL (g5.keep _ _ nL eL')))
  have nl := (g7.ok.off hl).1
  generalize upd H7 l (.lst [.int 1, .int 5, .int 7, .int (36 + 1), .int (1296 - 1)]) = H8 at *
  repeat' (walk_at "rd")
  refine ⟨st, c, 5, rfl, o7, by decide, fun r H9 r0 r1 g10 => ?_⟩
  obtain ⟨t, ht, et⟩ : ∃ t : Int, (t = 1 ∨ t = 5 ∨ t = 7 ∨ t = 37 ∨ t = 1295) ∧ [V.int 1, .int 5, .int 7, .int (36 + 1), .int (1296 - 1)][r.toNat]? = some (.int t) := by
    obtain rfl | rfl | rfl | rfl | rfl : r = 0 ∨ r = 1 ∨ r = 2 ∨ r = 3 ∨ r = 4 := by omega
    · exact ⟨1, .inl rfl, rfl⟩
    · exact ⟨5, .inr (.inl rfl), rfl⟩
    · exact ⟨7, .inr (.inr (.inl rfl)), rfl⟩
    · exact ⟨37, .inr (.inr (.inr (.inl rfl))), rfl⟩
    · exact ⟨1295, .inr (.inr (.inr (.inr rfl))), rfl⟩
  refine ixN' (.inl (.inl (g10.keep _ _ nl el))) r0 et ?_
  repeat' (walk_at "rd")
  refine forR (fun i σ H' => ∃ (zs : List Str) (tl : Str) (v8 v13 : Option V), σ = [some (.ref st), some (.int m), some (.str A26), some (.str A36), some (.int sy), some (.str ⟨#[fx]⟩), some (.ref L), none, v8, some (.int s0), some (.str ah), some (.str tl), some (.int t), v13] ∧ zs.length = i ∧ (∀ x ∈ cl tl, Aln x) ∧ tl.length ≤ 4 ∧
    (∀ (j : Nat) (z : Str), zs[j]? = some z → ∃ x y tl', z = ah ++ ⟨#[x]⟩ ++ ⟨#[y]⟩ ++ tl' ∧ (∀ x ∈ cl tl', Aln x) ∧ tl'.length ≤ 4 ∧ (cl A36)[(((s0 + ((j : Nat) : Int) * t) % 1296) / 36).toNat]? = some x ∧ (cl A36)[(((s0 + ((j : Nat) : Int) * t) % 1296) % 36).toNat]? = some y) ∧
    H' L = some (.lst (zs.map V.str)) ∧ Go st c H H') ⟨[], _, v8, none, rfl, rfl, (fun x hx => by
      rw [mul_one_cl] at hx
      rw [List.eq_of_mem_replicate hx]
      exact htx), by rw [mul_one_len]; omega, fun j z h => absurd h (by simp), g10.keep _ _ nL eL9, g9.trans g10⟩ ?_ ?_
  · rintro i σ H' hi ⟨zs, tl, v8, v13, rfl, lz, ht4, lt4, hz, eL', g'⟩
    have e0 : (0 : Int) + (i : Int) = (i : Int) := by omega
    have step : ∀ (tl : Str) (G : Hp) (v8 v13 : Option V) (x y : Nat), (∀ x ∈ cl tl, Aln x) → tl.length ≤ 4 → (cl A36)[(((s0 + ((i : Nat) : Int) * t) % 1296) / 36).toNat]? = some x → (cl A36)[(((s0 + ((i : Nat) : Int) * t) % 1296) % 36).toNat]? = some y → G L = some (.lst (zs.map V.str)) → Go st c H G →
        ∃ (zs' : List Str) (tl' : Str) (w8 w13 : Option V), [some (V.ref st), some (.int m), some (.str A26), some (.str A36), some (.int sy), some (.str ⟨#[fx]⟩), some (.ref L), none, v8, some (.int s0), some (.str ah), some (.str tl), some (.int t), v13] = [some (.ref st), some (.int m), some (.str A26), some (.str A36), some (.int sy), some (.str ⟨#[fx]⟩), some (.ref L), none, w8, some (.int s0), some (.str ah), some (.str tl'), some (.int t), w13] ∧ zs'.length = i + 1 ∧ (∀ x ∈ cl tl', Aln x) ∧ tl'.length ≤ 4 ∧
        (∀ (j : Nat) (z : Str), zs'[j]? = some z → ∃ x y tl', z = ah ++ ⟨#[x]⟩ ++ ⟨#[y]⟩ ++ tl' ∧ (∀ x ∈ cl tl', Aln x) ∧ tl'.length ≤ 4 ∧ (cl A36)[(((s0 + ((j : Nat) : Int) * t) % 1296) / 36).toNat]? = some x ∧ (cl A36)[(((s0 + ((j : Nat) : Int) * t) % 1296) % 36).toNat]? = some y) ∧
        (upd G L (.lst (zs.map V.str ++ [V.str (ah ++ ⟨#[x]⟩ ++ ⟨#[y]⟩ ++ tl)]))) L = some (.lst (zs'.map V.str)) ∧ Go st c H (upd G L (.lst (zs.map V.str ++ [V.str (ah ++ ⟨#[x]⟩ ++ ⟨#[y]⟩ ++ tl)]))) := fun tl G v8 v13 x y h1 h2 hx hy eG gG =>
      ⟨zs ++ [ah ++ ⟨#[x]⟩ ++ ⟨#[y]⟩ ++ tl], tl, v8, v13, rfl, by rw [List.length_append, lz]; rfl, h1, h2, fun j z h => by
        rcases snoc_at h with ⟨_, h⟩ | ⟨e, h⟩
        · exact hz j z h
        · rw [h, e, lz]
          exact ⟨x, y, tl, rfl, h1, h2, hx, hy⟩, by rw [List.map_append]; exact upd_same, gG.write fL oL _⟩
    repeat' (walk_at "rd")
    · refine .inl ⟨st, c, A36, rfl, g'.ok, by omega, by omega, fun tx H5 htx g5 => ?_⟩
      have htx := a36.2 tx htx
      repeat' (walk_at "rd")
      refine ⟨st, c, 5, rfl, g5.ok, by decide, fun tn H6 tn0 tn1 g6 => ?_⟩
      refine repZ ⟨by rw [one_len]; decide, by omega, by omega⟩ ?_
      have lm := mul_one_len tx tn
      have eL6 := g6.keep _ _ nL (g5.keep _ _ nL eL')
      repeat' (walk_at "rd")
      rw [e0]
      refine sign (z := A36) (by omega) (by omega) (by omega) fun x hx _ => ?_
      repeat' (walk_at "rd")
      refine sign (z := A36) (by omega) (by omega) (by omega) fun y hy _ => ?_
      repeat' (walk_at "rd")
      refine append (g6.keep _ _ nL (g5.keep _ _ nL eL')) (by rw [List.length_map, lz]; exact sz5' (by omega)) ?_
      repeat' (walk_at "rd")
      refine step _ _ _ _ x y (fun x hx => ?_) (by omega) hx hy (g6.keep _ _ nL (g5.keep _ _ nL eL')) ((g'.trans g5).trans g6)
      rw [mul_one_cl] at hx
      rw [List.eq_of_mem_replicate hx]
      exact htx
    · rw [e0]
      refine sign (z := A36) (by omega) (by omega) (by omega) fun x hx _ => ?_
      repeat' (walk_at "rd")
      refine sign (z := A36) (by omega) (by omega) (by omega) fun y hy _ => ?_
      repeat' (walk_at "rd")
      refine append eL' (by rw [List.length_map, lz]; exact sz5' (by omega)) ?_
      repeat' (walk_at "rd")
      exact step _ _ _ _ x y ht4 lt4 hx hy eL' g'
  · rintro σ H' ⟨zs, tl, v8, v13, rfl, lz, ht4, lt4, hz, eL', g'⟩
    have lz : zs.length = m.toNat := lz
    repeat' (walk_at "rd")
    refine fin zs H' _ (by omega) (fun z hm => ?_) (nodup_rel (Nat.le_refl _) hz fun i j z hi hj ⟨x, y, t1, h1, _, _, h2, h3⟩ ⟨x', y', t2, k1, _, _, k2, k3⟩ => ?_) eL' g'
    · obtain ⟨j, hj, e⟩ := List.getElem_of_mem hm
      obtain ⟨x, y, t1, rfl, h1, h2, h3, h4⟩ := hz j z (by rw [List.getElem?_eq_getElem hj, e])
      have hx := a36.2 x (List.mem_of_getElem? h3)
      have hy := a36.2 y (List.mem_of_getElem? h4)
      refine ⟨?_, ?_⟩
      · rw [cl_add, cl_add, cl_add, cl_one, cl_one]
        exact ((na.snoc hx).snoc hy).app h1
      · rw [add_len, add_len, add_len, one_len, one_len]
        omega
    · have e := congrArg cl (h1.symm.trans k1)
      rw [cl_add, cl_add, cl_add, cl_one, cl_one, cl_add, cl_add, cl_add, cl_one, cl_one, List.append_assoc, List.append_assoc, List.append_assoc, List.append_assoc] at e
      have e := List.append_cancel_left e
      have ex := (List.cons.inj e).1
      have e := (List.cons.inj e).2
      have ey := (List.cons.inj e).1
      have a := at_one a36_nd h2 (by rw [ex]; exact k2)
      have b := at_one a36_nd h3 (by rw [ey]; exact k3)
      have := step_one (s := s0) (t := t) (i := i) (j := j) ht (by omega) (by omega) (by omega) (by omega) (by omega)
      omega
end
end Kj
namespace Kj
open PySem PySem.Spec PyProof.Rows L2 Rd
/-! ### the stepper -/
local macro_rules | `(tactic| walk_at "hp") => `(tactic| first
  | assumption
  | exact upd_same
  | (refine Eq.trans (upd_ne (by first | assumption | (apply Ne.symm; assumption))) ?_; walk_at "hp"))
local macro_rules | `(tactic| walk_at "sq") => `(tactic| first
  | assumption
  | (refine Or.inl (Or.inl ?_); walk_at "hp"))
local macro_rules | `(tactic| walk_at "st") => `(tactic| first
  | assumption
  | (refine Or.inl (Or.inl ?_); walk_at "hp"))
local macro_rules | `(tactic| walk_at "ar") => `(tactic| first
  | assumption
  | omega
  | decide)
local macro_rules | `(tactic| walk_at "ci") => `(tactic| first
  | (refine (show CMul _ _ from Or.inr ⟨?_, ?_⟩) <;> omega)
  | (refine (show CMul _ _ from Or.inl ⟨?_, ?_⟩) <;> omega)
  | (show CPow _ _; exact ⟨by decide, by decide, by decide⟩)
  | (refine wide_div (b := 63) ?_ ?_ (by decide) (by decide) <;> omega)
  | (show (0 : Int) < _; omega))
local macro_rules | `(tactic| walk_at "ty") => `(tactic| first
  | exact dp_ty (by assumption)
  | exact TyX.base (TyOf.int _)
  | exact TyX.base (TyOf.str _)
  | exact TyX.base (TyOf.bl _)
  | exact TyX.base TyOf.non
  | exact tyL' (by walk_at "sq")
  | exact tyT' (by walk_at "st"))
local macro_rules | `(tactic| walk_at "isi") => `(tactic| first
  | ((with_reducible apply Rd.isiF); (walk_at "ty"); (decide))
  | ((with_reducible apply Rd.isiT); (walk_at "ty"); (decide)))
local macro_rules | `(tactic| walk_at "rd") => `(tactic| first
  | with_reducible apply Rd.seq
  | ((with_reducible apply Rd.var); rfl)
  | with_reducible apply Rd.con
  | with_reducible apply Rd.op
  | with_reducible apply Rd.asg
  | ((with_reducible apply Rd.gname); ((dsimp only [List.set, L2.wipe, Int.reduceToNat]) <;> rfl))
  | with_reducible apply Rd.nxt
  | with_reducible apply Rd.ifs
  | with_reducible apply Rd.test
  | with_reducible apply Rd.testB
  | with_reducible apply Rd.exbl
  | with_reducible apply Rd.ret
  | with_reducible apply Rd.drop
  | with_reducible apply Rd.retN
  | with_reducible apply Rd.nil
  | with_reducible apply Rd.cons
  | with_reducible apply Rd.call
  | with_reducible apply Rd.cb
  | with_reducible apply Rd.and
  | with_reducible apply Rd.or
  | with_reducible apply Rd.not
  | with_reducible apply Rd.andV
  | with_reducible apply Rd.orV
  | with_reducible apply Rd.notV
  | with_reducible apply Rd.ife
  | with_reducible apply Rd.tup
  | with_reducible apply Rd.lst
  | with_reducible apply Rd.un
  | with_reducible apply Rd.chain
  | with_reducible apply Rd.brk
  | with_reducible apply Rd.cnt
  | with_reducible apply Rd.I0
  | with_reducible apply Rd.U1
  | ((with_reducible apply Rd.eq); rfl)
  | ((with_reducible apply Rd.ne); rfl)
  | ((with_reducible apply Rd.I1); (walk_at "ci"))
  | with_reducible apply Rd.lc0
  | with_reducible apply Rd.ln0
  | with_reducible apply Rd.exN
  | ((with_reducible apply Rd.iteSf); (decide +kernel))
  | ((with_reducible apply Rd.iteSt); (decide +kernel))
  | ((with_reducible apply Rd.niQ); (exact Or.inl (by walk_at "sq")); (exact ⟨rfl, rfl⟩); (rfl))
  | ((with_reducible apply Rd.inQ); (exact Or.inl (by walk_at "sq")); (exact ⟨rfl, rfl⟩); (rfl))
  | with_reducible apply Rd.rn1
  | with_reducible apply Rd.in1
  | with_reducible apply Rd.sn1
  | with_reducible apply Rd.bn1
  | with_reducible apply Rd.nn1
  | with_reducible apply Rd.rn2
  | with_reducible apply Rd.in2
  | with_reducible apply Rd.sn2
  | with_reducible apply Rd.bn2
  | with_reducible apply Rd.nn2
  | with_reducible apply Rd.nt1
  | with_reducible apply Rd.nf1
  | (with_reducible refine Rd.iteI (fun _ => ?_) (fun _ => ?_))
  | (with_reducible refine Rd.iteNI (fun _ => ?_) (fun _ => ?_))
  | (with_reducible refine iteT ?_)
  | (with_reducible refine iteF ?_)
  | (with_reducible refine Rd.iteD (fun _ => ?_) (fun _ => ?_))
  | (with_reducible refine Rd.iteN (fun _ => ?_) (fun _ => ?_))
  | with_reducible apply Rd.intI
  | with_reducible apply Rd.intB
  | with_reducible apply Rd.maxQ
  | with_reducible apply Rd.minQ
  | with_reducible apply Rd.absQ
  | with_reducible apply Rd.isN
  | with_reducible apply Rd.noN
  | with_reducible apply Rd.ltZ
  | with_reducible apply Rd.bm
  | with_reducible apply Rd.bm0
  | with_reducible apply Rd.par
  | with_reducible apply Rd.expar
  | with_reducible apply Rd.exint
  | with_reducible apply Rd.ipi
  | with_reducible apply Rd.slice
  | with_reducible apply Rd.noPart
  | with_reducible apply Rd.part
  | with_reducible apply Rd.gcons
  | with_reducible apply Rd.gnil
  | with_reducible apply Rd.iseq
  | with_reducible apply Rd.irng1
  | walk_at "isi"
  | with_reducible apply Rd.forX
  | with_reducible apply Rd.lstRev
  | with_reducible apply Rd.lstRg
  | with_reducible apply Rd.rg1
  | with_reducible apply Rd.rg2
  | with_reducible apply Rd.exint2
  | ((with_reducible apply Rd.exrev); (walk_at "sq"))
  | with_reducible apply Rd.lcX
  | with_reducible apply Rd.yes
  | ((with_reducible apply Rd.exrng1); (constructor <;> omega))
  | ((with_reducible apply Rd.exrng2); (refine ⟨?_, ?_, ?_, ?_⟩ <;> omega))
  | with_reducible apply Rd.irng2
  | ((with_reducible apply Rd.aug); rfl)
  | ((with_reducible apply Rd.exlst); (walk_at "sq"))
  | ((with_reducible apply Rd.gtup); (walk_at "st"); (rfl))
  | ((with_reducible apply Rd.tyL); (walk_at "hp"))
  | ((with_reducible apply Rd.ixL); (walk_at "sq"); (rfl))
  | ((with_reducible apply Rd.ixI); (walk_at "sq"); (omega); (first | assumption | (simp only [List.length_map]; omega)); (intro _ _))
  | (with_reducible refine Rd.gsub ?_)
  | ((with_reducible apply Rd.setL); (walk_at "hp"); (rfl); ((dsimp only [List.set, L2.wipe, Int.reduceToNat]) <;> rfl))
  | ((with_reducible apply Rd.lenQ); (first | exact Or.inl (by walk_at "sq") | exact Or.inr (by walk_at "st")))
  | ((with_reducible apply Rd.listQ); (first | exact Or.inl (by walk_at "sq") | exact Or.inr (by walk_at "st")))
  | ((with_reducible apply Rd.tupQ); (walk_at "sq"))
  | ((with_reducible apply Rd.slL); (walk_at "sq"))
  | ((with_reducible apply Rd.ixT); (walk_at "st"); (rfl))
  | (with_reducible refine Rd.iteB (fun _ => ?_) (fun _ => ?_))
  | (with_reducible refine Rd.iteNB (fun _ => ?_) (fun _ => ?_))
  | (refine Rd.andI (Nat.le_of_ble_eq_true rfl) ?_)
  | dsimp only [List.set])
local macro_rules | `(tactic| walk_at "hp") => `(tactic| first
  | assumption
  | exact upd_same
  | (refine Eq.trans (upd_ne (by first | assumption | (apply Ne.symm; assumption))) ?_; walk_at "hp")
  | (refine hpS (by assumption) ?_; walk_at "hp"))
local macro_rules | `(tactic| walk_at "al") => `(tactic| (with_reducible intro l hl; generalize hG : upd _ l _ = G; have hs := newOne hl hG; clear hG; obtain ⟨hs, he⟩ := hs))
local macro_rules | `(tactic| walk_at "rd") => `(tactic| first
  | walk_at "al"
  | ((with_reducible apply Rd.cat); (walk_at "hp"); (walk_at "hp"); (exact Nat.le_of_ble_eq_true rfl)))
local macro_rules | `(tactic| walk_at "sm") => `(tactic| first
  | assumption
  | exact Same.refl _
  | (refine Same.trans ?_ (by assumption); walk_at "sm"))
local macro_rules | `(tactic| walk_at "fr") => `(tactic| first
  | assumption
  | (refine Same.free (by assumption) ?_; walk_at "fr"))
local macro_rules | `(tactic| walk_at "ty") => `(tactic| first
  | exact dv_ty (by assumption)
  | exact tyD' (by walk_at "hp"))
local macro_rules | `(tactic| walk_at "sz") => `(tactic| first
  | exact sz5 (by omega)
  | (simp only [add_len, one_len]; exact sz5 (by omega)))
local macro_rules | `(tactic| walk_at "rd") => `(tactic| first
  | with_reducible apply Rd.istr
  | with_reducible apply Rd.exstr
  | with_reducible apply Rd.leA
  | with_reducible apply Rd.leZz
  | with_reducible apply Rd.le0
  | with_reducible apply Rd.le9
  | with_reducible apply Rd.niZ
  | ((with_reducible apply Rd.lenZ); (walk_at "sz"))
  | ((with_reducible apply Rd.slZ); (walk_at "sz"))
  | ((with_reducible apply Rd.addZ); (walk_at "sz"))
  | with_reducible apply Rd.raiseX
  | with_reducible apply Rd.exone
  | with_reducible apply Rd.callS
  | with_reducible apply Rd.callP
  | with_reducible apply Rd.xsX
  | with_reducible apply Rd.dnewX
  | with_reducible apply Rd.tyZ)
/-! ### names of lines -/
open Ty
section
variable {P : Program} {w : World} {K : PySem.W.Frag} {mg : Str → Option Value} {base : Heap} {D : Str → Addr}
theorem nodup_le : ∀ {xs ys : List Str}, xs.Nodup → (∀ x ∈ xs, x ∈ ys) → xs.length ≤ ys.length
  | [], _, _, _ => Nat.zero_le _
  | x :: xs, ys, nd, h => by
    have m := h x List.mem_cons_self
    obtain ⟨n, nd⟩ := List.nodup_cons.mp nd
    have := nodup_le (xs := xs) (ys := ys.erase x) nd fun z hz => (List.mem_erase_of_ne (fun e => n (by rw [← e]; exact hz))).mpr (h z (List.mem_cons_of_mem _ hz))
    rw [List.length_erase_of_mem m] at this
    have := List.length_pos_of_mem m
    rw [List.length_cons]
    omega
theorem flt_two (p : Str → Bool) : ∀ ns : List Str, ns.length = (ns.filter p).length + (ns.filter fun n => !p n).length
  | [] => rfl
  | n :: ns => by
    have := flt_two p ns
    rw [List.filter_cons, List.filter_cons]
    cases p n <;> simp <;> omega
theorem more_names {zs ns : List Str} (nd : ns.Nodup) : ns.length ≤ zs.length + (ns.filter fun n => !decide (n ∈ zs)).length := by
  have e := flt_two (fun n => decide (n ∈ zs)) ns
  have l : (ns.filter fun n => decide (n ∈ zs)).length ≤ zs.length := nodup_le (nd.sublist List.filter_sublist) fun x hx => of_decide_eq_true (List.mem_filter.mp hx).2
  omega
theorem fm_not {zs : List Str} : ∀ ns : List Str, ns.filterMap (fun n => ((if n ∈ zs then none else some n : Option Str)).map V.str) = (ns.filter fun n => !decide (n ∈ zs)).map V.str
  | [] => rfl
  | n :: ns => by
    rw [List.filterMap_cons, List.filter_cons, fm_not ns]
    by_cases m : n ∈ zs
    · rw [if_pos m, decide_eq_true m]
      rfl
    · rw [if_neg m, decide_eq_false m]
      rfl
theorem inV_strs {n : Str} : ∀ zs : List Str, inV (.str n) (zs.map V.str) = decide (n ∈ zs) := fun zs => by
  unfold inV
  by_cases m : n ∈ zs
  · rw [decide_eq_true m, List.any_eq_true]
    exact ⟨.str n, List.mem_map.mpr ⟨n, m, rfl⟩, by first | (show decide (n = n) = true; exact decide_eq_true rfl) | exact decide_eq_true rfl | simp [eqV]⟩
  · rw [decide_eq_false m, List.any_eq_false]
    intro v hv
    obtain ⟨z, hz, rfl⟩ := List.mem_map.mp hv
    intro e
    have e : z = n := by first | exact of_decide_eq_true e | simpa [eqV] using e
    exact m (e ▸ hz)
theorem flat_strs (zs : List Str) : (zs.map V.str).all flatV = true := List.all_eq_true.mpr fun v hv => by
  obtain ⟨z, _, rfl⟩ := List.mem_map.mp hv
  rfl
/-- _law_line_names(store, houses, many) -/
def spLineNames : Sp := fun vs H Q _ => ∃ (st c h : Addr) (zs : List Str) (m : Int), vs = [.ref st, .ref h, .int m] ∧ StoreAt H st c ∧ h ≠ st ∧ H h = some (.lst (zs.map V.str)) ∧ zs.length ≤ 1000 ∧ zs.Nodup ∧ (∀ z ∈ zs, NmS z) ∧ 0 ≤ m ∧ m ≤ 1000 ∧
  ∀ (L : Addr) (ns : List Str) (H' : Hp), (ns.length : Int) = m → (∀ z ∈ ns, NmS z) → ns.Nodup → H L = none → Go st c H H' → H' L = some (.lst (ns.map V.str)) → Q (.ref L) H'
theorem ok__law_line_names (F : Def K mg "_law_line_names" s__law_line_names P__law_line_names) (m_list : mg "list" = none) (C__law_take : Cal P w K mg base 1 "_law_take" P__law_take spTake) (C__law_names : Cal P w K mg base 3 "_law_names" P__law_names spNames) : Cal P w K mg base 4 "_law_line_names" P__law_line_names spLineNames := by
  refine F.ok sc__law_line_names (fun vs H Q E h => ?_) (fun f cdv A outer s H vs Q E hr h => ?_)
  · obtain ⟨st, c, h, zs, m, rfl, _⟩ := h
    rfl
  obtain ⟨st, c, h, zs, m, rfl, hs, hst, eh, lz, ndz, mz, m0, m1, q⟩ := h
  refine ⟨_, (pss_cons (ps_set (i := 3) sc__law_line_names.nd rfl (Or.inl rfl) (pe_cal C__law_names hr (pa_cons (pv 0 (hd := nd_store) (hcd := nc_store)) (pa_cons (pv 2 (hd := nd_many) (hcd := nc_many)) pa_nil)) (hdb := nd__law_names)))
  (pss_cons (ps_if (pt_cmpR op_eq (pe_cal C__law_take hr (pa_cons (pv 0 (hd := nd_store) (hcd := nc_store)) (pa_cons pe_int pa_nil)) (hdb := nd__law_take)) pe_int (nomark _)) (pss_one (ps_set (i := 3) sc__law_line_names.nd rfl (Or.inl rfl) (pe_op op_cat (pe_callTy q_list (by rfl) m_list bb_list (pa_cons (pv 1 (hd := nd_houses) (hcd := nc_houses)) pa_nil) (hn := nn_list) (hdb := nd_list)) (pe_lc (own := [("name", 4)]) (by rfl) sc__law_line_names.nd (pi_list (pv 3 (hd := nd_names) (hcd := nc_names))) (blkOk_by (N := N__law_line_names) (sc := defScope s__law_line_names) (by decide +kernel)) (fun _ _ _ _ _ => (pg_name (i := 4) sc__law_line_names.nd rfl (Or.inl rfl))) (fun _ _ _ _ _ => (pts_one (pt_cmpR (op_notIn_seqK (K := K) rfl) (pv 4 (hd := nd_name) (hcd := nc_name)) (pv 1 (hd := nd_houses) (hcd := nc_houses)) (by rfl)))) (fun _ _ _ _ _ => (pv 4 (hd := nd_name) (hcd := nc_name))))))) pss_nil)
  (pss_one (ps_ret (pe_slice sl_list (pv 3 (hd := nd_names) (hcd := nc_names)) po_none (po_some (pv 2 (hd := nd_many) (hcd := nc_many)))))))), ?_⟩
  refine Rd.at0 (σ := [some (.ref st), some (.ref h), some (.int m), none, none]) rfl ?_
  repeat' (walk_at "rd")
  refine ⟨st, c, m, rfl, hs, m0, m1, fun L ns H1 ln mn nd fL g1 eL => ?_⟩
  repeat' (walk_at "rd")
  refine ⟨st, c, 4, rfl, g1.ok, by decide, fun r H2 r0 r1 g2 => ?_⟩
  have g12 := g1.trans g2
  have eh2 := g12.keep h _ hst eh
  have eL2 := g2.keep L _ (hs.off fL).1 eL
  have ln' : (ns.map V.str).length = ns.length := List.length_map ..
  obtain ⟨k, rfl⟩ : ∃ k : Nat, m = k := ⟨m.toNat, by omega⟩
  repeat' (walk_at "rd")
  · rename_i l1 p1 G1 s1 e1
    have eh3 := s1 _ _ eh2
    have eL3 := s1 _ _ eL2
    refine lcF (ns.map V.str) (fun i => (ns[i]?.bind fun n => if n ∈ zs then none else some n).map V.str) (.inl (.inl eL3)) (by omega) (fun i v h' hv s => ?_) fun L4 G4 n4 s4 e4 => ?_
    · intro L5 Nx yes no
      rw [List.getElem?_map] at hv
      obtain ⟨n, hn, rfl⟩ := Option.map_eq_some_iff.mp hv
      have ei : ((ns[i]?.bind fun n => if n ∈ zs then none else some n).map V.str) = (if n ∈ zs then none else some n : Option Str).map V.str := by
        rw [hn]
        rfl
      have eh' := s _ _ eh3
      refine turn1 ?_
      repeat' (walk_at "rd")
      refine ⟨rfl, ?_⟩
      repeat' (walk_at "rd")
      refine ⟨h, _, rfl, .inl (.inl (.inl eh')), rfl, flat_strs zs, ?_⟩
      rw [if_pos rfl, inV_strs]
      by_cases mm : n ∈ zs
      · rw [if_pos mm] at ei
        rw [decide_eq_true mm]
        repeat' (walk_at "rd")
        exact no _ ei (.refl _)
      · rw [if_neg mm] at ei
        rw [decide_eq_false mm]
        repeat' (walk_at "rd")
        exact yes _ _ ei (.refl _)
    · have ef : (List.range (ns.map V.str).length).filterMap (fun i => (ns[i]?.bind fun n => if n ∈ zs then none else some n).map V.str) = (ns.filter fun n => !decide (n ∈ zs)).map V.str := by
        rw [ln', ← fm_not]
        exact fm_at fun i h => by rw [List.getElem?_eq_getElem h]; rfl
      rw [ef] at e4
      have lf := List.length_filter_le (fun n => !decide (n ∈ zs)) ns
      have mo := more_names (zs := zs) nd
      refine cat (s4 _ _ e1) e4 (sz5 (by rw [List.length_map, List.length_map]; omega)) ?_
      rw [← List.map_append]
      repeat' (walk_at "rd")
      rename_i l6 p6 G6 s6 e6 l7 p7 G7 s7 e7
      rw [cut_to, ← List.map_take] at e7
      have t : Same H2 G7 := ((s1.trans s4).trans s6).trans s7
      refine q l7 _ G7 ?_ (fun z hz => ?_) ?_ (g12.free (((s1.trans s4).trans s6).free p7)) (g12.same t) e7
      · rw [List.length_take, List.length_append]
        omega
      · rcases List.mem_append.mp (List.mem_of_mem_take hz) with hz | hz
        · exact mz z hz
        · exact mn z (List.mem_filter.mp hz).1
      · refine List.Nodup.sublist (List.take_sublist _ _) (List.nodup_append.mpr ⟨ndz, nd.sublist List.filter_sublist, fun a ha b hb e => ?_⟩)
        have := (List.mem_filter.mp hb).2
        rw [← e, decide_eq_true ha] at this
        cases this
  · rename_i l1 p1 G1 s1 e1
    rw [cut_to, List.take_of_length_le (by omega)] at e1
    exact q l1 ns G1 ln mn nd (g12.free p1) (g12.same s1) e1
end
end Kj
namespace Kj
open PySem PySem.Spec PyProof.Rows L2 Rd
/-! ### the stepper -/
local macro_rules | `(tactic| walk_at "hp") => `(tactic| first
  | assumption
  | exact upd_same
  | (refine Eq.trans (upd_ne (by first | assumption | (apply Ne.symm; assumption))) ?_; walk_at "hp"))
local macro_rules | `(tactic| walk_at "sq") => `(tactic| first
  | assumption
  | (refine Or.inl (Or.inl ?_); walk_at "hp"))
local macro_rules | `(tactic| walk_at "st") => `(tactic| first
  | assumption
  | (refine Or.inl (Or.inl ?_); walk_at "hp"))
local macro_rules | `(tactic| walk_at "ar") => `(tactic| first
  | assumption
  | omega
  | decide)
local macro_rules | `(tactic| walk_at "ci") => `(tactic| first
  | (refine (show CMul _ _ from Or.inr ⟨?_, ?_⟩) <;> omega)
  | (refine (show CMul _ _ from Or.inl ⟨?_, ?_⟩) <;> omega)
  | (show CPow _ _; exact ⟨by decide, by decide, by decide⟩)
  | (refine wide_div (b := 63) ?_ ?_ (by decide) (by decide) <;> omega)
  | (show (0 : Int) < _; omega))
local macro_rules | `(tactic| walk_at "ty") => `(tactic| first
  | exact dp_ty (by assumption)
  | exact TyX.base (TyOf.int _)
  | exact TyX.base (TyOf.str _)
  | exact TyX.base (TyOf.bl _)
  | exact TyX.base TyOf.non
  | exact tyL' (by walk_at "sq")
  | exact tyT' (by walk_at "st"))
local macro_rules | `(tactic| walk_at "isi") => `(tactic| first
  | ((with_reducible apply Rd.isiF); (walk_at "ty"); (decide))
  | ((with_reducible apply Rd.isiT); (walk_at "ty"); (decide)))
local macro_rules | `(tactic| walk_at "rd") => `(tactic| first
  | with_reducible apply Rd.seq
  | ((with_reducible apply Rd.var); rfl)
  | with_reducible apply Rd.con
  | with_reducible apply Rd.op
  | with_reducible apply Rd.asg
  | ((with_reducible apply Rd.gname); ((dsimp only [List.set, L2.wipe, Int.reduceToNat]) <;> rfl))
  | with_reducible apply Rd.nxt
  | with_reducible apply Rd.ifs
  | with_reducible apply Rd.test
  | with_reducible apply Rd.testB
  | with_reducible apply Rd.exbl
  | with_reducible apply Rd.ret
  | with_reducible apply Rd.drop
  | with_reducible apply Rd.retN
  | with_reducible apply Rd.nil
  | with_reducible apply Rd.cons
  | with_reducible apply Rd.call
  | with_reducible apply Rd.cb
  | with_reducible apply Rd.and
  | with_reducible apply Rd.or
  | with_reducible apply Rd.not
  | with_reducible apply Rd.andV
  | with_reducible apply Rd.orV
  | with_reducible apply Rd.notV
  | with_reducible apply Rd.ife
  | with_reducible apply Rd.tup
  | with_reducible apply Rd.lst
  | with_reducible apply Rd.un
  | with_reducible apply Rd.chain
  | with_reducible apply Rd.brk
  | with_reducible apply Rd.cnt
  | with_reducible apply Rd.I0
  | with_reducible apply Rd.U1
  | ((with_reducible apply Rd.eq); rfl)
  | ((with_reducible apply Rd.ne); rfl)
  | ((with_reducible apply Rd.I1); (walk_at "ci"))
  | with_reducible apply Rd.lc0
  | with_reducible apply Rd.ln0
  | with_reducible apply Rd.exN
  | ((with_reducible apply Rd.iteSf); (decide +kernel))
  | ((with_reducible apply Rd.iteSt); (decide +kernel))
  | ((with_reducible apply Rd.niQ); (exact Or.inl (by walk_at "sq")); (exact ⟨rfl, rfl⟩); (rfl))
  | ((with_reducible apply Rd.inQ); (exact Or.inl (by walk_at "sq")); (exact ⟨rfl, rfl⟩); (rfl))
  | with_reducible apply Rd.rn1
  | with_reducible apply Rd.in1
  | with_reducible apply Rd.sn1
  | with_reducible apply Rd.bn1
  | with_reducible apply Rd.nn1
  | with_reducible apply Rd.rn2
  | with_reducible apply Rd.in2
  | with_reducible apply Rd.sn2
  | with_reducible apply Rd.bn2
  | with_reducible apply Rd.nn2
  | with_reducible apply Rd.nt1
  | with_reducible apply Rd.nf1
  | (with_reducible refine Rd.iteI (fun _ => ?_) (fun _ => ?_))
  | (with_reducible refine Rd.iteNI (fun _ => ?_) (fun _ => ?_))
  | (with_reducible refine iteT ?_)
  | (with_reducible refine iteF ?_)
  | (with_reducible refine Rd.iteD (fun _ => ?_) (fun _ => ?_))
  | (with_reducible refine Rd.iteN (fun _ => ?_) (fun _ => ?_))
  | with_reducible apply Rd.intI
  | with_reducible apply Rd.intB
  | with_reducible apply Rd.maxQ
  | with_reducible apply Rd.minQ
  | with_reducible apply Rd.absQ
  | with_reducible apply Rd.isN
  | with_reducible apply Rd.noN
  | with_reducible apply Rd.ltZ
  | with_reducible apply Rd.bm
  | with_reducible apply Rd.bm0
  | with_reducible apply Rd.par
  | with_reducible apply Rd.expar
  | with_reducible apply Rd.exint
  | with_reducible apply Rd.ipi
  | with_reducible apply Rd.slice
  | with_reducible apply Rd.noPart
  | with_reducible apply Rd.part
  | with_reducible apply Rd.gcons
  | with_reducible apply Rd.gnil
  | with_reducible apply Rd.iseq
  | with_reducible apply Rd.irng1
  | walk_at "isi"
  | with_reducible apply Rd.forX
  | with_reducible apply Rd.lstRev
  | with_reducible apply Rd.lstRg
  | with_reducible apply Rd.rg1
  | with_reducible apply Rd.rg2
  | with_reducible apply Rd.exint2
  | ((with_reducible apply Rd.exrev); (walk_at "sq"))
  | with_reducible apply Rd.lcX
  | with_reducible apply Rd.yes
  | ((with_reducible apply Rd.exrng1); (constructor <;> omega))
  | ((with_reducible apply Rd.exrng2); (refine ⟨?_, ?_, ?_, ?_⟩ <;> omega))
  | with_reducible apply Rd.irng2
  | ((with_reducible apply Rd.aug); rfl)
  | ((with_reducible apply Rd.exlst); (walk_at "sq"))
  | ((with_reducible apply Rd.gtup); (walk_at "st"); (rfl))
  | ((with_reducible apply Rd.tyL); (walk_at "hp"))
  | ((with_reducible apply Rd.ixL); (walk_at "sq"); (rfl))
  | ((with_reducible apply Rd.ixI); (walk_at "sq"); (omega); (first | assumption | (simp only [List.length_map]; omega)); (intro _ _))
  | (with_reducible refine Rd.gsub ?_)
  | ((with_reducible apply Rd.setL); (walk_at "hp"); (rfl); ((dsimp only [List.set, L2.wipe, Int.reduceToNat]) <;> rfl))
  | ((with_reducible apply Rd.lenQ); (first | exact Or.inl (by walk_at "sq") | exact Or.inr (by walk_at "st")))
  | ((with_reducible apply Rd.listQ); (first | exact Or.inl (by walk_at "sq") | exact Or.inr (by walk_at "st")))
  | ((with_reducible apply Rd.tupQ); (walk_at "sq"))
  | ((with_reducible apply Rd.slL); (walk_at "sq"))
  | ((with_reducible apply Rd.ixT); (walk_at "st"); (rfl))
  | (with_reducible refine Rd.iteB (fun _ => ?_) (fun _ => ?_))
  | (with_reducible refine Rd.iteNB (fun _ => ?_) (fun _ => ?_))
  | (refine Rd.andI (Nat.le_of_ble_eq_true rfl) ?_)
  | dsimp only [List.set])
local macro_rules | `(tactic| walk_at "hp") => `(tactic| first
  | assumption
  | exact upd_same
  | (refine Eq.trans (upd_ne (by first | assumption | (apply Ne.symm; assumption))) ?_; walk_at "hp")
  | (refine hpS (by assumption) ?_; walk_at "hp"))
local macro_rules | `(tactic| walk_at "al") => `(tactic| (with_reducible intro l hl; generalize hG : upd _ l _ = G; have hs := newOne hl hG; clear hG; obtain ⟨hs, he⟩ := hs))
local macro_rules | `(tactic| walk_at "rd") => `(tactic| first
  | walk_at "al"
  | ((with_reducible apply Rd.cat); (walk_at "hp"); (walk_at "hp"); (exact Nat.le_of_ble_eq_true rfl)))
local macro_rules | `(tactic| walk_at "sm") => `(tactic| first
  | assumption
  | exact Same.refl _
  | (refine Same.trans ?_ (by assumption); walk_at "sm"))
local macro_rules | `(tactic| walk_at "fr") => `(tactic| first
  | assumption
  | (refine Same.free (by assumption) ?_; walk_at "fr"))
local macro_rules | `(tactic| walk_at "ty") => `(tactic| first
  | exact dv_ty (by assumption)
  | exact tyD' (by walk_at "hp"))
/-! ### names judged -/
section
variable {P : Program} {w : World} {K : PySem.W.Frag} {mg : Str → Option Value} {base : Heap} {D : Str → Addr}
/-- a value is judged: is it a name -/
def spNamed (K : PySem.W.Frag) : Sp := fun vs H Q _ => ∃ (x : V) (d : PyData), vs = [x] ∧ Dv K H x d ∧ Sz d ∧ ∀ H', Same H H' → Q (.bl (nameD d)) H'
theorem str_cases (d : PyData) : (∃ z, d = .str z) ∨ (nameD d = false ∧ ∀ z, d ≠ .str z) := by
  cases d <;> first | exact .inl ⟨_, rfl⟩ | exact .inr ⟨rfl, fun _ e => by cases e⟩
theorem a26_in {c : Nat} : c ∈ ("abcdefghijklmnopqrstuvwxyz" : Str).cps.toList ↔ Low c := by
  refine ⟨fun h => a26.2 c h, fun h => ?_⟩
  have k : ∀ c, c < 123 → 97 ≤ c → c ∈ ("abcdefghijklmnopqrstuvwxyz" : Str).cps.toList := by decide +kernel
  exact k c (by have := h.2; omega) h.1
theorem a36_in {c : Nat} : c ∈ ("abcdefghijklmnopqrstuvwxyz0123456789" : Str).cps.toList ↔ Aln c := by
  have e : ∀ c ∈ ("abcdefghijklmnopqrstuvwxyz0123456789" : Str).cps.toList, Aln c := by decide +kernel
  refine ⟨fun h => e c h, fun h => ?_⟩
  have k : ∀ c, c < 123 → Aln c → c ∈ ("abcdefghijklmnopqrstuvwxyz0123456789" : Str).cps.toList := by decide +kernel
  refine k c ?_ h
  rcases h with h | h
  · have := h.2
    omega
  · have := h.2
    omega
local macro_rules | `(tactic| walk_at "rd") => `(tactic| first
  | with_reducible apply Rd.istr
  | with_reducible apply Rd.exstr
  | with_reducible apply Rd.leA
  | with_reducible apply Rd.leZz
  | with_reducible apply Rd.le0
  | with_reducible apply Rd.le9
  | with_reducible apply Rd.niZ)
local macro_rules | `(tactic| walk_at "sz") => `(tactic| exact sz5 (by omega))
local macro_rules | `(tactic| walk_at "rd") => `(tactic| ((with_reducible apply Rd.lenZ); (walk_at "sz")))
theorem ok_is_name (F : Def K mg "is_name" s_is_name P_is_name) (m_isinstance : mg "isinstance" = none) (m_str : mg "str" = none) (m_len : mg "len" = none) (m_all : mg "all" = none) (c_LONGEST_NAME : ∃ t, mg "LONGEST_NAME" = some (.int 12 t)) : Cal P w K mg base 1 "is_name" P_is_name (spNamed K) := by
  refine F.ok sc_is_name (fun vs H Q E h => ?_) (fun f cdv A outer s H vs Q E hr h => ?_)
  · obtain ⟨x, d, rfl, _⟩ := h
    rfl
  obtain ⟨x, d, rfl, hx, hz, q⟩ := h
  have q0 := q H (.refl H)
  refine ⟨_, (pss_cons (ps_if (PW.pt (pw_or (pt_not (pt_val (pe_callB call_isi (by rfl) m_isinstance bb_isinstance (pa_cons (pv 0 (hd := nd_word) (hcd := nc_word)) (pa_cons (pe_bltn (v := .ty "str") (u := .type "str") (by rfl) m_str bb_str rfl (hn := nn_str) (hd := nd_str)) pa_nil)) (hn := nn_isinstance) (hdb := nd_isinstance)))) (pw_or1 (pt_not (pt_chain op_le op_le pe_int (pe_callB q_lenZ (by rfl) m_len PySem.boot_len (pa_cons (pv 0 (hd := nd_word) (hcd := nc_word)) pa_nil) (hn := nn_len) (hdb := nd_len)) (Ho.pe_const (v := 12) c_LONGEST_NAME (by rfl))))))) (pss_one (ps_ret pe_bl)) pss_nil)
  (pss_one (ps_ret (pe_and (pe_chain o_leZ o_leZ pe_str (pe_ix ix_str (pv 0 (hd := nd_word) (hcd := nc_word)) pe_int (fun _ _ => rfl)) pe_str) (pe_one (pe_callB (cr_allK (K := K) rfl rfl) (by rfl) m_all bb_all (pa_cons (pe_lc (own := [("c", 1)]) (by rfl) sc_is_name.nd (pi_str (pv 0 (hd := nd_word) (hcd := nc_word))) (blkOk_by (N := N_is_name) (sc := defScope s_is_name) (by decide +kernel)) (fun _ _ _ _ _ => (pg_name (i := 1) sc_is_name.nd rfl (Or.inl rfl))) (fun _ _ _ _ _ => pts_nil) (fun _ _ _ _ _ => (pe_or (pe_chain o_leZ o_leZ pe_str (pv 1 (hd := nd_c) (hcd := nc_c)) pe_str) (pe_one (pe_chain o_leZ o_leZ pe_str (pv 1 (hd := nd_c) (hcd := nc_c)) pe_str))))) pa_nil) (hn := nn_all) (hdb := nd_all))))))), ?_⟩
  refine Rd.at0 (σ := [some x, none]) rfl ?_
  rcases str_cases d with ⟨z, rfl⟩ | ⟨e, ne⟩
  · cases hx
    have lz := hz z rfl
    change ∀ H', Same H H' → Q (.bl (nmB z)) H' at q
    change Q (.bl (nmB z)) H at q0
    repeat' (walk_at "rd")
    · rw [nmB_big (by omega)] at q0
      exact q0
    · have l1 : 1 ≤ z.length := by omega
      have l2 : z.length ≤ 12 := by omega
      obtain ⟨c, hc⟩ := nm_head l1
      refine sign (by omega) (by decide) (by omega) fun c' hc' _ => ?_
      obtain rfl : c = c' := Option.some.inj (hc.symm.trans hc')
      repeat' (walk_at "rd")
      · have lo : Low c := ⟨by omega, by omega⟩
        have ea := nmB_all l1 l2 hc lo
        refine lcZ fun L nL => ⟨fun i h => i ≤ z.length ∧ h = upd H L (.lst (((cl z).take i).map fun c => V.bl (decide (Aln c)))), ⟨Nat.zero_le _, rfl⟩, ?_, ?_⟩
        · rintro i x h hx ⟨hi, rfl⟩
          have lt : i + 1 ≤ z.length := by
            rw [← cl_len]
            exact (List.getElem?_eq_some_iff.mp hx).1
          have key : ∀ b, b = decide (Aln x) → upd H L (.lst (((cl z).take i).map (fun c => V.bl (decide (Aln c))) ++ [V.bl b])) = upd H L (.lst (((cl z).take (i + 1)).map fun c => V.bl (decide (Aln c)))) := by
            intro b hb
            rw [List.take_add_one, hx, List.map_append, hb]
            rfl
          have sz : (((cl z).take i).map (fun c => V.bl (decide (Aln c)))).length < sizeLine := by
            rw [List.length_map, List.length_take]
            exact sz5' (by omega)
          refine turn1 ?_
          repeat' (walk_at "rd")
          refine ⟨rfl, ?_⟩
          repeat' (walk_at "rd")
          all_goals
            refine ⟨_, upd_same, sz, lt, ?_⟩
            rw [upd_upd]
            refine key _ ?_
            first
            | exact (decide_eq_true (show Aln x from by unfold Aln Low; omega)).symm
            | exact (decide_eq_false (show ¬ Aln x from by unfold Aln Low; omega)).symm
            | (by_cases y : x ≤ 57
               · rw [decide_eq_true y, decide_eq_true (show Aln x from by unfold Aln Low; omega)]
               · rw [decide_eq_false y, decide_eq_false (show ¬ Aln x from by unfold Aln Low; omega)])
        · rintro h ⟨_, rfl⟩
          rw [List.take_of_length_le (by rw [cl_len]; exact Nat.le_refl _)]
          repeat' (walk_at "rd")
          refine allB (bs := (cl z).map fun c => decide (Aln c)) (.inl (.inl ?_)) ?_
          · rw [List.map_map]
            exact upd_same
          · rw [List.all_map, show ((cl z).all (id ∘ fun c => decide (Aln c))) = nmB z from ea.symm]
            exact q _ (same_upd nL)
      · rw [nmB_head hc (fun l => by have := l.2; omega)] at q0
        exact q0
      · rw [nmB_head hc (fun l => by have := l.1; omega)] at q0
        exact q0
    · rw [nmB_big (by omega)] at q0
      exact q0
  · rw [e] at q0
    cases hx
    case str z => exact absurd rfl (ne z)
    all_goals
      repeat' (walk_at "rd")
      exact q0
end
end Kj
namespace Kj
open PySem PySem.Spec PyProof.Rows L2 Rd
/-! ### lists of tuples of texts, sorted -/
open Ty Ln
theorem cr_sortedTSK {X : Cx} {K : PySem.W.Frag} (h : X.K = K) : CallR X (.builtin "sorted") (rSortedTS K) := h ▸ cr_sortedTS
theorem WVs.perm {H : Hp} : ∀ {ys vs : List V}, ys.Perm vs → ∀ {ks : List (List Str)}, WVs H vs ks → ∃ js : List (List Str), WVs H ys js ∧ js.Perm ks := by
  intro ys vs p
  induction p with
  | nil => exact fun {ks} h => ⟨ks, h, .refl _⟩
  | cons x _ ih =>
    intro ks h
    match ks, h with
    | k :: ks, h =>
      obtain ⟨js, a, b⟩ := ih h.2
      exact ⟨k :: js, ⟨h.1, a⟩, b.cons k⟩
  | swap x y l =>
    intro ks h
    match ks, h with
    | k :: j :: ks, h => exact ⟨j :: k :: ks, ⟨h.2.1, h.1, h.2.2⟩, .swap ..⟩
  | trans _ _ ih1 ih2 =>
    intro ks h
    obtain ⟨js, a, b⟩ := ih2 h
    obtain ⟨is, a', b'⟩ := ih1 a
    exact ⟨is, a', b'.trans b⟩
def stO : V → Str
  | .str s => s
  | _ => ""
def kOf (H : Hp) : V → List Str
  | .ref t => match H t with
    | some (.tup ws) => ws.map stO
    | _ => []
  | _ => []
theorem kOf_wv {H : Hp} {v : V} {k : List Str} (h : WV H v k) : kOf H v = k := by
  obtain ⟨_, t, rfl, e⟩ := h
  show (match H t with
    | some (.tup ws) => ws.map stO
    | _ => []) = k
  rw [e]
  show (k.map V.str).map stO = k
  rw [List.map_map]
  exact List.map_id _
def SrtW (ks : List (List Str)) : Prop := ks.Pairwise fun x y => lexS y x = false
theorem wvs_pw {H : Hp} : ∀ {vs : List V} {ks : List (List Str)}, WVs H vs ks → vs.Pairwise (fun x y => lexS (kOf H y) (kOf H x) = false) → SrtW ks
  | [], [], _, _ => .nil
  | v :: vs, k :: ks, h, p => by
    obtain ⟨a, b⟩ := List.pairwise_cons.mp p
    refine List.pairwise_cons.mpr ⟨fun j hj => ?_, wvs_pw h.2 b⟩
    obtain ⟨i, hi⟩ := List.mem_iff_getElem?.mp hj
    have l : i < vs.length := by
      rw [h.2.len]
      exact (List.getElem?_eq_some_iff.mp hi).1
    obtain ⟨j', e, kj⟩ := h.2.at (List.getElem?_eq_getElem l)
    rw [hi] at e
    cases e
    have := a _ (List.getElem_mem l)
    rwa [kOf_wv kj, kOf_wv h.1] at this
  | [], _ :: _, h, _ => h.elim
  | _ :: _, [], h, _ => h.elim
theorem sortW {K : PySem.W.Frag} {H : Hp} {Q : VK} {a : Addr} {ks : List (List Str)} (h : WL H a ks) (ne : ∀ k ∈ ks, k ≠ []) (q : ∀ js p G, js.Perm ks → SrtW js → H p = none → Same H G → WL G p js → Q (.ref p) G) : rSortedTS K [.ref a] H Q := by
  obtain ⟨vs, e, k⟩ := h
  refine ⟨a, vs, kOf H, rfl, .inl (.inl e), fun x m => ?_, fun ys p pw pm n => ?_⟩
  · obtain ⟨k', mk, hk⟩ := k.mem m
    obtain ⟨_, t, rfl, ht⟩ := id hk
    exact ⟨t, rfl, by rw [kOf_wv hk]; exact ne _ mk, by rw [kOf_wv hk]; exact ht⟩
  · obtain ⟨js, hj, pj⟩ := WVs.perm pm k
    exact q js p _ pj (wvs_pw hj pw) n (same_upd n) ⟨ys, upd_same, hj.same (same_upd n)⟩
theorem srtw_one {xs ys : List (List Str)} (p : xs.Perm ys) (h : SrtW xs) (k : SrtW ys) : xs = ys := List.Perm.eq_of_pairwise (le := fun x y => lexS y x = false) (fun a b _ _ h1 h2 => lexS_antisymm h2 h1) h k p
end Kj
namespace Kj
open PySem PySem.Spec PyProof.Rows L2 Rd
/-! ### the stepper -/
local macro_rules | `(tactic| walk_at "hp") => `(tactic| first
  | assumption
  | exact upd_same
  | (refine Eq.trans (upd_ne (by first | assumption | (apply Ne.symm; assumption))) ?_; walk_at "hp"))
local macro_rules | `(tactic| walk_at "sq") => `(tactic| first
  | assumption
  | (refine Or.inl (Or.inl ?_); walk_at "hp"))
local macro_rules | `(tactic| walk_at "st") => `(tactic| first
  | assumption
  | (refine Or.inl (Or.inl ?_); walk_at "hp"))
local macro_rules | `(tactic| walk_at "ar") => `(tactic| first
  | assumption
  | omega
  | decide)
local macro_rules | `(tactic| walk_at "ci") => `(tactic| first
  | (refine (show CMul _ _ from Or.inr ⟨?_, ?_⟩) <;> omega)
  | (refine (show CMul _ _ from Or.inl ⟨?_, ?_⟩) <;> omega)
  | (show CPow _ _; exact ⟨by decide, by decide, by decide⟩)
  | (refine wide_div (b := 63) ?_ ?_ (by decide) (by decide) <;> omega)
  | (show (0 : Int) < _; omega))
local macro_rules | `(tactic| walk_at "ty") => `(tactic| first
  | exact dp_ty (by assumption)
  | exact TyX.base (TyOf.int _)
  | exact TyX.base (TyOf.str _)
  | exact TyX.base (TyOf.bl _)
  | exact TyX.base TyOf.non
  | exact tyL' (by walk_at "sq")
  | exact tyT' (by walk_at "st"))
local macro_rules | `(tactic| walk_at "isi") => `(tactic| first
  | ((with_reducible apply Rd.isiF); (walk_at "ty"); (decide))
  | ((with_reducible apply Rd.isiT); (walk_at "ty"); (decide)))
local macro_rules | `(tactic| walk_at "rd") => `(tactic| first
  | with_reducible apply Rd.seq
  | ((with_reducible apply Rd.var); rfl)
  | with_reducible apply Rd.con
  | with_reducible apply Rd.op
  | with_reducible apply Rd.asg
  | ((with_reducible apply Rd.gname); ((dsimp only [List.set, L2.wipe, Int.reduceToNat]) <;> rfl))
  | with_reducible apply Rd.nxt
  | with_reducible apply Rd.ifs
  | with_reducible apply Rd.test
  | with_reducible apply Rd.testB
  | with_reducible apply Rd.exbl
  | with_reducible apply Rd.ret
  | with_reducible apply Rd.drop
  | with_reducible apply Rd.retN
  | with_reducible apply Rd.nil
  | with_reducible apply Rd.cons
  | with_reducible apply Rd.call
  | with_reducible apply Rd.cb
  | with_reducible apply Rd.and
  | with_reducible apply Rd.or
  | with_reducible apply Rd.not
  | with_reducible apply Rd.andV
  | with_reducible apply Rd.orV
  | with_reducible apply Rd.notV
  | with_reducible apply Rd.ife
  | with_reducible apply Rd.tup
  | with_reducible apply Rd.lst
  | with_reducible apply Rd.un
  | with_reducible apply Rd.chain
  | with_reducible apply Rd.brk
  | with_reducible apply Rd.cnt
  | with_reducible apply Rd.I0
  | with_reducible apply Rd.U1
  | ((with_reducible apply Rd.eq); rfl)
  | ((with_reducible apply Rd.ne); rfl)
  | ((with_reducible apply Rd.I1); (walk_at "ci"))
  | with_reducible apply Rd.lc0
  | with_reducible apply Rd.ln0
  | with_reducible apply Rd.exN
  | ((with_reducible apply Rd.iteSf); (decide +kernel))
  | ((with_reducible apply Rd.iteSt); (decide +kernel))
  | ((with_reducible apply Rd.niQ); (exact Or.inl (by walk_at "sq")); (exact ⟨rfl, rfl⟩); (rfl))
  | ((with_reducible apply Rd.inQ); (exact Or.inl (by walk_at "sq")); (exact ⟨rfl, rfl⟩); (rfl))
  | with_reducible apply Rd.rn1
  | with_reducible apply Rd.in1
  | with_reducible apply Rd.sn1
  | with_reducible apply Rd.bn1
  | with_reducible apply Rd.nn1
  | with_reducible apply Rd.rn2
  | with_reducible apply Rd.in2
  | with_reducible apply Rd.sn2
  | with_reducible apply Rd.bn2
  | with_reducible apply Rd.nn2
  | with_reducible apply Rd.nt1
  | with_reducible apply Rd.nf1
  | (with_reducible refine Rd.iteI (fun _ => ?_) (fun _ => ?_))
  | (with_reducible refine Rd.iteNI (fun _ => ?_) (fun _ => ?_))
  | (with_reducible refine iteT ?_)
  | (with_reducible refine iteF ?_)
  | (with_reducible refine Rd.iteD (fun _ => ?_) (fun _ => ?_))
  | (with_reducible refine Rd.iteN (fun _ => ?_) (fun _ => ?_))
  | with_reducible apply Rd.intI
  | with_reducible apply Rd.intB
  | with_reducible apply Rd.maxQ
  | with_reducible apply Rd.minQ
  | with_reducible apply Rd.absQ
  | with_reducible apply Rd.isN
  | with_reducible apply Rd.noN
  | with_reducible apply Rd.ltZ
  | with_reducible apply Rd.bm
  | with_reducible apply Rd.bm0
  | with_reducible apply Rd.par
  | with_reducible apply Rd.expar
  | with_reducible apply Rd.exint
  | with_reducible apply Rd.ipi
  | with_reducible apply Rd.slice
  | with_reducible apply Rd.noPart
  | with_reducible apply Rd.part
  | with_reducible apply Rd.gcons
  | with_reducible apply Rd.gnil
  | with_reducible apply Rd.iseq
  | with_reducible apply Rd.irng1
  | walk_at "isi"
  | with_reducible apply Rd.forX
  | with_reducible apply Rd.lstRev
  | with_reducible apply Rd.lstRg
  | with_reducible apply Rd.rg1
  | with_reducible apply Rd.rg2
  | with_reducible apply Rd.exint2
  | ((with_reducible apply Rd.exrev); (walk_at "sq"))
  | with_reducible apply Rd.lcX
  | with_reducible apply Rd.yes
  | ((with_reducible apply Rd.exrng1); (constructor <;> omega))
  | ((with_reducible apply Rd.exrng2); (refine ⟨?_, ?_, ?_, ?_⟩ <;> omega))
  | with_reducible apply Rd.irng2
  | ((with_reducible apply Rd.aug); rfl)
  | ((with_reducible apply Rd.exlst); (walk_at "sq"))
  | ((with_reducible apply Rd.gtup); (walk_at "st"); (rfl))
  | ((with_reducible apply Rd.tyL); (walk_at "hp"))
  | ((with_reducible apply Rd.ixL); (walk_at "sq"); (rfl))
  | ((with_reducible apply Rd.ixI); (walk_at "sq"); (omega); (first | assumption | (simp only [List.length_map]; omega)); (intro _ _))
  | (with_reducible refine Rd.gsub ?_)
  | ((with_reducible apply Rd.setL); (walk_at "hp"); (rfl); ((dsimp only [List.set, L2.wipe, Int.reduceToNat]) <;> rfl))
  | ((with_reducible apply Rd.lenQ); (first | exact Or.inl (by walk_at "sq") | exact Or.inr (by walk_at "st")))
  | ((with_reducible apply Rd.listQ); (first | exact Or.inl (by walk_at "sq") | exact Or.inr (by walk_at "st")))
  | ((with_reducible apply Rd.tupQ); (walk_at "sq"))
  | ((with_reducible apply Rd.slL); (walk_at "sq"))
  | ((with_reducible apply Rd.ixT); (walk_at "st"); (rfl))
  | (with_reducible refine Rd.iteB (fun _ => ?_) (fun _ => ?_))
  | (with_reducible refine Rd.iteNB (fun _ => ?_) (fun _ => ?_))
  | (refine Rd.andI (Nat.le_of_ble_eq_true rfl) ?_)
  | dsimp only [List.set])
local macro_rules | `(tactic| walk_at "hp") => `(tactic| first
  | assumption
  | exact upd_same
  | (refine Eq.trans (upd_ne (by first | assumption | (apply Ne.symm; assumption))) ?_; walk_at "hp")
  | (refine hpS (by assumption) ?_; walk_at "hp"))
local macro_rules | `(tactic| walk_at "al") => `(tactic| (with_reducible intro l hl; generalize hG : upd _ l _ = G; have hs := newOne hl hG; clear hG; obtain ⟨hs, he⟩ := hs))
local macro_rules | `(tactic| walk_at "rd") => `(tactic| first
  | walk_at "al"
  | ((with_reducible apply Rd.cat); (walk_at "hp"); (walk_at "hp"); (exact Nat.le_of_ble_eq_true rfl)))
local macro_rules | `(tactic| walk_at "sm") => `(tactic| first
  | assumption
  | exact Same.refl _
  | (refine Same.trans ?_ (by assumption); walk_at "sm"))
local macro_rules | `(tactic| walk_at "fr") => `(tactic| first
  | assumption
  | (refine Same.free (by assumption) ?_; walk_at "fr"))
local macro_rules | `(tactic| walk_at "ty") => `(tactic| first
  | exact dv_ty (by assumption)
  | exact tyD' (by walk_at "hp"))
local macro_rules | `(tactic| walk_at "sz") => `(tactic| first
  | exact sz5 (by omega)
  | (simp only [add_len, one_len]; exact sz5 (by omega)))
local macro_rules | `(tactic| walk_at "rd") => `(tactic| first
  | with_reducible apply Rd.istr
  | with_reducible apply Rd.exstr
  | with_reducible apply Rd.leA
  | with_reducible apply Rd.leZz
  | with_reducible apply Rd.le0
  | with_reducible apply Rd.le9
  | with_reducible apply Rd.niZ
  | ((with_reducible apply Rd.lenZ); (walk_at "sz"))
  | ((with_reducible apply Rd.slZ); (walk_at "sz"))
  | ((with_reducible apply Rd.addZ); (walk_at "sz"))
  | with_reducible apply Rd.raiseX
  | with_reducible apply Rd.exone
  | with_reducible apply Rd.callS
  | with_reducible apply Rd.callP
  | with_reducible apply Rd.xsX
  | with_reducible apply Rd.dnewX
  | with_reducible apply Rd.tyZ)
/-! ### check_name, ordered -/
section
variable {P : Program} {w : World} {K : PySem.W.Frag} {mg : Str → Option Value} {base : Heap} {D : Str → Addr}
def spCheckN (K : PySem.W.Frag) (D : Str → Addr) : Sp := fun vs H Q E => ∃ (v : V) (d : PyData), vs = [v] ∧ Dv K H v d ∧ Sz d ∧ (nameD d = true → ∀ H', Same H H' → Q v H') ∧
  (nameD d = false → ∀ dd H', H dd = none → Same H H' → H' dd = some (.xd [("word", v), ("code", .str "BadName")]) → E (.ref (D "BadName")) (some dd) H')
theorem ok_check_name (F : Def K mg "check_name" s_check_name P_check_name) (T_BadName : Ho.ErrC P w K mg base "BadName" (D "BadName") "word") (C_is_name : Cal P w K mg base 1 "is_name" P_is_name (spNamed K)) : Ho.CalN P w K mg base 3 "check_name" P_check_name (spCheckN K D) := by
  refine Ho.defN F sc_check_name (fun vs H Q E h => ?_) (fun f cdv A outer s H vs Q E hr h => ?_)
  · obtain ⟨v, d, rfl, _⟩ := h
    rfl
  obtain ⟨v, d, rfl, hv, sz, qy, qn⟩ := h
  refine ⟨_, (pss_cons (ps_if (pt_not (pt_val (pe_cal C_is_name hr (pa_cons (pv 0 (hd := nd_word) (hcd := nc_word)) pa_nil) (hdb := nd_is_name)))) (pss_one (Ho.ps_err rfl T_BadName hr (L2N.takes_of rfl rfl rfl rfl) (pa_cons (pv 0 (hd := nd_word) (hcd := nc_word)) pa_nil) (by first | exact Ho.up_v | exact Ho.up_c))) pss_nil)
  (pss_one (ps_ret (pv 0 (hd := nd_word) (hcd := nc_word))))), ?_⟩
  refine Rd.at0 (σ := [some v]) rfl ?_
  repeat' (walk_at "rd")
  refine ⟨v, d, rfl, hv, sz, fun H1 s1 => ?_⟩
  repeat' (walk_at "rd")
  · rename_i e l n G s2 e2
    exact qn (by simpa using e) l G (Same.free s1 n) (s1.trans s2) e2
  · rename_i e
    exact qy (by simpa using e) H1 s1
end
end Kj
namespace Kj
open PySem PySem.Spec PyProof.Rows L2 Rd
/-! ### the stepper -/
local macro_rules | `(tactic| walk_at "hp") => `(tactic| first
  | assumption
  | exact upd_same
  | (refine Eq.trans (upd_ne (by first | assumption | (apply Ne.symm; assumption))) ?_; walk_at "hp"))
local macro_rules | `(tactic| walk_at "sq") => `(tactic| first
  | assumption
  | (refine Or.inl (Or.inl ?_); walk_at "hp"))
local macro_rules | `(tactic| walk_at "st") => `(tactic| first
  | assumption
  | (refine Or.inl (Or.inl ?_); walk_at "hp"))
local macro_rules | `(tactic| walk_at "ar") => `(tactic| first
  | assumption
  | omega
  | decide)
local macro_rules | `(tactic| walk_at "ci") => `(tactic| first
  | (refine (show CMul _ _ from Or.inr ⟨?_, ?_⟩) <;> omega)
  | (refine (show CMul _ _ from Or.inl ⟨?_, ?_⟩) <;> omega)
  | (show CPow _ _; exact ⟨by decide, by decide, by decide⟩)
  | (refine wide_div (b := 63) ?_ ?_ (by decide) (by decide) <;> omega)
  | (show (0 : Int) < _; omega))
local macro_rules | `(tactic| walk_at "ty") => `(tactic| first
  | exact dp_ty (by assumption)
  | exact TyX.base (TyOf.int _)
  | exact TyX.base (TyOf.str _)
  | exact TyX.base (TyOf.bl _)
  | exact TyX.base TyOf.non
  | exact tyL' (by walk_at "sq")
  | exact tyT' (by walk_at "st"))
local macro_rules | `(tactic| walk_at "isi") => `(tactic| first
  | ((with_reducible apply Rd.isiF); (walk_at "ty"); (decide))
  | ((with_reducible apply Rd.isiT); (walk_at "ty"); (decide)))
local macro_rules | `(tactic| walk_at "rd") => `(tactic| first
  | with_reducible apply Rd.seq
  | ((with_reducible apply Rd.var); rfl)
  | with_reducible apply Rd.con
  | with_reducible apply Rd.op
  | with_reducible apply Rd.asg
  | ((with_reducible apply Rd.gname); ((dsimp only [List.set, L2.wipe, Int.reduceToNat]) <;> rfl))
  | with_reducible apply Rd.nxt
  | with_reducible apply Rd.ifs
  | with_reducible apply Rd.test
  | with_reducible apply Rd.testB
  | with_reducible apply Rd.exbl
  | with_reducible apply Rd.ret
  | with_reducible apply Rd.drop
  | with_reducible apply Rd.retN
  | with_reducible apply Rd.nil
  | with_reducible apply Rd.cons
  | with_reducible apply Rd.call
  | with_reducible apply Rd.cb
  | with_reducible apply Rd.and
  | with_reducible apply Rd.or
  | with_reducible apply Rd.not
  | with_reducible apply Rd.andV
  | with_reducible apply Rd.orV
  | with_reducible apply Rd.notV
  | with_reducible apply Rd.ife
  | with_reducible apply Rd.tup
  | with_reducible apply Rd.lst
  | with_reducible apply Rd.un
  | with_reducible apply Rd.chain
  | with_reducible apply Rd.brk
  | with_reducible apply Rd.cnt
  | with_reducible apply Rd.I0
  | with_reducible apply Rd.U1
  | ((with_reducible apply Rd.eq); rfl)
  | ((with_reducible apply Rd.ne); rfl)
  | ((with_reducible apply Rd.I1); (walk_at "ci"))
  | with_reducible apply Rd.lc0
  | with_reducible apply Rd.ln0
  | with_reducible apply Rd.exN
  | ((with_reducible apply Rd.iteSf); (decide +kernel))
  | ((with_reducible apply Rd.iteSt); (decide +kernel))
  | ((with_reducible apply Rd.niQ); (exact Or.inl (by walk_at "sq")); (exact ⟨rfl, rfl⟩); (rfl))
  | ((with_reducible apply Rd.inQ); (exact Or.inl (by walk_at "sq")); (exact ⟨rfl, rfl⟩); (rfl))
  | with_reducible apply Rd.rn1
  | with_reducible apply Rd.in1
  | with_reducible apply Rd.sn1
  | with_reducible apply Rd.bn1
  | with_reducible apply Rd.nn1
  | with_reducible apply Rd.rn2
  | with_reducible apply Rd.in2
  | with_reducible apply Rd.sn2
  | with_reducible apply Rd.bn2
  | with_reducible apply Rd.nn2
  | with_reducible apply Rd.nt1
  | with_reducible apply Rd.nf1
  | (with_reducible refine Rd.iteI (fun _ => ?_) (fun _ => ?_))
  | (with_reducible refine Rd.iteNI (fun _ => ?_) (fun _ => ?_))
  | (with_reducible refine iteT ?_)
  | (with_reducible refine iteF ?_)
  | (with_reducible refine Rd.iteD (fun _ => ?_) (fun _ => ?_))
  | (with_reducible refine Rd.iteN (fun _ => ?_) (fun _ => ?_))
  | with_reducible apply Rd.intI
  | with_reducible apply Rd.intB
  | with_reducible apply Rd.maxQ
  | with_reducible apply Rd.minQ
  | with_reducible apply Rd.absQ
  | with_reducible apply Rd.isN
  | with_reducible apply Rd.noN
  | with_reducible apply Rd.ltZ
  | with_reducible apply Rd.bm
  | with_reducible apply Rd.bm0
  | with_reducible apply Rd.par
  | with_reducible apply Rd.expar
  | with_reducible apply Rd.exint
  | with_reducible apply Rd.ipi
  | with_reducible apply Rd.slice
  | with_reducible apply Rd.noPart
  | with_reducible apply Rd.part
  | with_reducible apply Rd.gcons
  | with_reducible apply Rd.gnil
  | with_reducible apply Rd.iseq
  | with_reducible apply Rd.irng1
  | walk_at "isi"
  | with_reducible apply Rd.forX
  | with_reducible apply Rd.lstRev
  | with_reducible apply Rd.lstRg
  | with_reducible apply Rd.rg1
  | with_reducible apply Rd.rg2
  | with_reducible apply Rd.exint2
  | ((with_reducible apply Rd.exrev); (walk_at "sq"))
  | with_reducible apply Rd.lcX
  | with_reducible apply Rd.yes
  | ((with_reducible apply Rd.exrng1); (constructor <;> omega))
  | ((with_reducible apply Rd.exrng2); (refine ⟨?_, ?_, ?_, ?_⟩ <;> omega))
  | with_reducible apply Rd.irng2
  | ((with_reducible apply Rd.aug); rfl)
  | ((with_reducible apply Rd.exlst); (walk_at "sq"))
  | ((with_reducible apply Rd.gtup); (walk_at "st"); (rfl))
  | ((with_reducible apply Rd.tyL); (walk_at "hp"))
  | ((with_reducible apply Rd.ixL); (walk_at "sq"); (rfl))
  | ((with_reducible apply Rd.ixI); (walk_at "sq"); (omega); (first | assumption | (simp only [List.length_map]; omega)); (intro _ _))
  | (with_reducible refine Rd.gsub ?_)
  | ((with_reducible apply Rd.setL); (walk_at "hp"); (rfl); ((dsimp only [List.set, L2.wipe, Int.reduceToNat]) <;> rfl))
  | ((with_reducible apply Rd.lenQ); (first | exact Or.inl (by walk_at "sq") | exact Or.inr (by walk_at "st")))
  | ((with_reducible apply Rd.listQ); (first | exact Or.inl (by walk_at "sq") | exact Or.inr (by walk_at "st")))
  | ((with_reducible apply Rd.tupQ); (walk_at "sq"))
  | ((with_reducible apply Rd.slL); (walk_at "sq"))
  | ((with_reducible apply Rd.ixT); (walk_at "st"); (rfl))
  | (with_reducible refine Rd.iteB (fun _ => ?_) (fun _ => ?_))
  | (with_reducible refine Rd.iteNB (fun _ => ?_) (fun _ => ?_))
  | (refine Rd.andI (Nat.le_of_ble_eq_true rfl) ?_)
  | dsimp only [List.set])
local macro_rules | `(tactic| walk_at "hp") => `(tactic| first
  | assumption
  | exact upd_same
  | (refine Eq.trans (upd_ne (by first | assumption | (apply Ne.symm; assumption))) ?_; walk_at "hp")
  | (refine hpS (by assumption) ?_; walk_at "hp"))
local macro_rules | `(tactic| walk_at "al") => `(tactic| (with_reducible intro l hl; generalize hG : upd _ l _ = G; have hs := newOne hl hG; clear hG; obtain ⟨hs, he⟩ := hs))
local macro_rules | `(tactic| walk_at "rd") => `(tactic| first
  | walk_at "al"
  | ((with_reducible apply Rd.cat); (walk_at "hp"); (walk_at "hp"); (exact Nat.le_of_ble_eq_true rfl)))
local macro_rules | `(tactic| walk_at "sm") => `(tactic| first
  | assumption
  | exact Same.refl _
  | (refine Same.trans ?_ (by assumption); walk_at "sm"))
local macro_rules | `(tactic| walk_at "fr") => `(tactic| first
  | assumption
  | (refine Same.free (by assumption) ?_; walk_at "fr"))
local macro_rules | `(tactic| walk_at "ty") => `(tactic| first
  | exact dv_ty (by assumption)
  | exact tyD' (by walk_at "hp"))
local macro_rules | `(tactic| walk_at "sz") => `(tactic| first
  | exact sz5 (by omega)
  | (simp only [add_len, one_len]; exact sz5 (by omega)))
local macro_rules | `(tactic| walk_at "rd") => `(tactic| first
  | with_reducible apply Rd.istr
  | with_reducible apply Rd.exstr
  | with_reducible apply Rd.leA
  | with_reducible apply Rd.leZz
  | with_reducible apply Rd.le0
  | with_reducible apply Rd.le9
  | with_reducible apply Rd.niZ
  | ((with_reducible apply Rd.lenZ); (walk_at "sz"))
  | ((with_reducible apply Rd.slZ); (walk_at "sz"))
  | ((with_reducible apply Rd.addZ); (walk_at "sz"))
  | with_reducible apply Rd.raiseX
  | with_reducible apply Rd.exone
  | with_reducible apply Rd.callS
  | with_reducible apply Rd.callP
  | with_reducible apply Rd.xsX
  | with_reducible apply Rd.dnewX
  | with_reducible apply Rd.tyZ)
/-! ### the checks of right words -/
section
variable {P : Program} {w : World} {K : PySem.W.Frag} {mg : Str → Option Value} {base : Heap} {D : Str → Addr}
theorem nm_b {z : Str} (h : NmS z) : nmB z = true := by
  obtain ⟨⟨c, s, e, hc, hs⟩, l⟩ := h
  have l1 : 1 ≤ z.length := by
    rw [← cl_len, e]
    exact Nat.succ_le_succ (Nat.zero_le _)
  rw [nmB_all l1 l (c := c) (by rw [e]; rfl) hc, List.all_eq_true]
  intro x hx
  rw [e] at hx
  rcases List.mem_cons.mp hx with rfl | hx
  · exact decide_eq_true (.inl hc)
  · exact decide_eq_true (hs x hx)
theorem nm_sz {z : Str} (h : NmS z) : Sz (.str z) := fun _ e => by
  cases e
  have := h.2
  omega
theorem ckn {z : Str} {H : Hp} {Q : VK} {E : XK} (h : NmS z) (q : ∀ H', Same H H' → Q (.str z) H') : spCheckN K D [.str z] H Q E :=
  ⟨.str z, .str z, rfl, .str z, nm_sz h, fun _ => q, fun e => by
    have e : nmB z = false := e
    rw [nm_b h] at e
    cases e⟩
theorem dinB {H : Hp} {Q : Bool → Hp → Prop} {a : Addr} {ks : List Str} {f : Str → V} {z : Str} (h : H a = some (.dK (kd ks f))) (q : Q (decide (z ∈ ks)) H) : ∃ a' v, V.ref a = .ref a' ∧ DGet H a' (.str z) v ∧ ∃ k, V.bl v.isSome = .bl k ∧ Q k H := by
  by_cases m : z ∈ ks
  · exact ⟨a, _, rfl, .inl ⟨_, Sum.inr z, .inl h, rfl, (kd_get m).symm⟩, _, rfl, by rw [decide_eq_true m] at q; exact q⟩
  · exact ⟨a, _, rfl, .inl ⟨_, Sum.inr z, .inl h, rfl, (kd_none m).symm⟩, _, rfl, by rw [decide_eq_false m] at q; exact q⟩
/-- ordered(a, b): a new tuple of two names, the lesser one first -/
def ordD (a b : Str) : List Str := if b.cps.toList < a.cps.toList then [b, a] else [a, b]
def spOrd : Sp := fun vs H Q _ => ∃ a b : Str, vs = [.str a, .str b] ∧ ∀ p H', H p = none → Same H H' → H' p = some (.tup ((ordD a b).map V.str)) → Q (.ref p) H'
theorem ok_ordered (F : Def K mg "ordered" s_ordered P_ordered) : Cal P w K mg base 1 "ordered" P_ordered spOrd := by
  refine F.ok sc_ordered (fun vs H Q E h => ?_) (fun f cdv A outer s H vs Q E hr h => ?_)
  · obtain ⟨a, b, rfl, _⟩ := h
    rfl
  obtain ⟨a, b, rfl, q⟩ := h
  refine ⟨_, (pss_cons (ps_if (pt_cmpR o_ltZ (pv 1 (hd := nd_b) (hcd := nc_b)) (pv 0 (hd := nd_a) (hcd := nc_a)) (nomark _)) (pss_one (ps_ret (pe_tup (pa_cons (pv 1 (hd := nd_b) (hcd := nc_b)) (pa_cons (pv 0 (hd := nd_a) (hcd := nc_a)) pa_nil))))) pss_nil)
  (pss_one (ps_ret (pe_tup (pa_cons (pv 0 (hd := nd_a) (hcd := nc_a)) (pa_cons (pv 1 (hd := nd_b) (hcd := nc_b)) pa_nil)))))), ?_⟩
  refine Rd.at0 (σ := [some (.str a), some (.str b)]) rfl ?_
  unfold ordD at q
  repeat' (walk_at "rd")
  · rename_i lt l n G s e
    rw [if_pos lt] at q
    exact q l G n s e
  · rename_i lt l n G s e
    rw [if_neg lt] at q
    exact q l G n s e
/-- check_names(words) of names -/
def spCkNs (K : PySem.W.Frag) : Sp := fun vs H Q _ => ∃ (l : Addr) (zs : List Str), vs = [.ref l] ∧ SqL K H l (zs.map V.str) ∧ zs.length ≤ 1000 ∧ (∀ z ∈ zs, NmS z) ∧ ∀ H', Same H H' → Q .non H'
theorem ok_check_names (F : Def K mg "check_names" s_check_names P_check_names) (C_check_name : Ho.CalN P w K mg base 3 "check_name" P_check_name (spCheckN K D)) : Ho.CalN P w K mg base 4 "check_names" P_check_names (spCkNs K) := by
  refine Ho.defN F sc_check_names (fun vs H Q E h => ?_) (fun f cdv A outer s H vs Q E hr h => ?_)
  · obtain ⟨l, zs, rfl, _⟩ := h
    rfl
  obtain ⟨l, zs, rfl, hl, lz, mz, q⟩ := h
  refine ⟨_, (pss_one (ps_for (passes_of rfl) rfl (pi_list (pv 0 (hd := nd_words) (hcd := nc_words))) (pg_name (i := 1) sc_check_names.nd rfl (Or.inl rfl)) (pss_one (ps_expr (Ho.pe_calN C_check_name (L2N.takes_of rfl rfl rfl rfl) hr (pa_cons (pv 1 (hd := nd_word) (hcd := nc_word)) pa_nil)))))), ?_⟩
  refine Rd.at0 (σ := [some (.ref l), none]) rfl ?_
  repeat' (walk_at "rd")
  refine forL (zs.map V.str) (fun i σ H' => ∃ v1 : Option V, σ = [some (.ref l), v1] ∧ Same H H') ⟨none, rfl, fun _ _ e => e⟩ (fun _ _ _ _ ⟨_, _, s⟩ => s.seq hl) ?_ ?_
  · rintro i x σ H' hx ⟨v1, rfl, s'⟩
    rw [List.getElem?_map] at hx
    obtain ⟨z, hz, rfl⟩ := Option.map_eq_some_iff.mp hx
    repeat' (walk_at "rd")
    refine ckn (mz z (List.mem_of_getElem? hz)) fun H2 s2 => ?_
    repeat' (walk_at "rd")
    exact ⟨_, rfl, s'.trans s2⟩
  · rintro σ H' ⟨v1, rfl, s'⟩
    repeat' (walk_at "rd")
    exact q H' s'
end
end Kj
namespace Kj
open PySem PySem.Spec PyProof.Rows L2 Rd
/-! ### the stepper -/
local macro_rules | `(tactic| walk_at "hp") => `(tactic| first
  | assumption
  | exact upd_same
  | (refine Eq.trans (upd_ne (by first | assumption | (apply Ne.symm; assumption))) ?_; walk_at "hp"))
local macro_rules | `(tactic| walk_at "sq") => `(tactic| first
  | assumption
  | (refine Or.inl (Or.inl ?_); walk_at "hp"))
local macro_rules | `(tactic| walk_at "st") => `(tactic| first
  | assumption
  | (refine Or.inl (Or.inl ?_); walk_at "hp"))
local macro_rules | `(tactic| walk_at "ar") => `(tactic| first
  | assumption
  | omega
  | decide)
local macro_rules | `(tactic| walk_at "ci") => `(tactic| first
  | (refine (show CMul _ _ from Or.inr ⟨?_, ?_⟩) <;> omega)
  | (refine (show CMul _ _ from Or.inl ⟨?_, ?_⟩) <;> omega)
  | (show CPow _ _; exact ⟨by decide, by decide, by decide⟩)
  | (refine wide_div (b := 63) ?_ ?_ (by decide) (by decide) <;> omega)
  | (show (0 : Int) < _; omega))
local macro_rules | `(tactic| walk_at "ty") => `(tactic| first
  | exact dp_ty (by assumption)
  | exact TyX.base (TyOf.int _)
  | exact TyX.base (TyOf.str _)
  | exact TyX.base (TyOf.bl _)
  | exact TyX.base TyOf.non
  | exact tyL' (by walk_at "sq")
  | exact tyT' (by walk_at "st"))
local macro_rules | `(tactic| walk_at "isi") => `(tactic| first
  | ((with_reducible apply Rd.isiF); (walk_at "ty"); (decide))
  | ((with_reducible apply Rd.isiT); (walk_at "ty"); (decide)))
local macro_rules | `(tactic| walk_at "rd") => `(tactic| first
  | with_reducible apply Rd.seq
  | ((with_reducible apply Rd.var); rfl)
  | with_reducible apply Rd.con
  | with_reducible apply Rd.op
  | with_reducible apply Rd.asg
  | ((with_reducible apply Rd.gname); ((dsimp only [List.set, L2.wipe, Int.reduceToNat]) <;> rfl))
  | with_reducible apply Rd.nxt
  | with_reducible apply Rd.ifs
  | with_reducible apply Rd.test
  | with_reducible apply Rd.testB
  | with_reducible apply Rd.exbl
  | with_reducible apply Rd.ret
  | with_reducible apply Rd.drop
  | with_reducible apply Rd.retN
  | with_reducible apply Rd.nil
  | with_reducible apply Rd.cons
  | with_reducible apply Rd.call
  | with_reducible apply Rd.cb
  | with_reducible apply Rd.and
  | with_reducible apply Rd.or
  | with_reducible apply Rd.not
  | with_reducible apply Rd.andV
  | with_reducible apply Rd.orV
  | with_reducible apply Rd.notV
  | with_reducible apply Rd.ife
  | with_reducible apply Rd.tup
  | with_reducible apply Rd.lst
  | with_reducible apply Rd.un
  | with_reducible apply Rd.chain
  | with_reducible apply Rd.brk
  | with_reducible apply Rd.cnt
  | with_reducible apply Rd.I0
  | with_reducible apply Rd.U1
  | ((with_reducible apply Rd.eq); rfl)
  | ((with_reducible apply Rd.ne); rfl)
  | ((with_reducible apply Rd.I1); (walk_at "ci"))
  | with_reducible apply Rd.lc0
  | with_reducible apply Rd.ln0
  | with_reducible apply Rd.exN
  | ((with_reducible apply Rd.iteSf); (decide +kernel))
  | ((with_reducible apply Rd.iteSt); (decide +kernel))
  | ((with_reducible apply Rd.niQ); (exact Or.inl (by walk_at "sq")); (exact ⟨rfl, rfl⟩); (rfl))
  | ((with_reducible apply Rd.inQ); (exact Or.inl (by walk_at "sq")); (exact ⟨rfl, rfl⟩); (rfl))
  | with_reducible apply Rd.rn1
  | with_reducible apply Rd.in1
  | with_reducible apply Rd.sn1
  | with_reducible apply Rd.bn1
  | with_reducible apply Rd.nn1
  | with_reducible apply Rd.rn2
  | with_reducible apply Rd.in2
  | with_reducible apply Rd.sn2
  | with_reducible apply Rd.bn2
  | with_reducible apply Rd.nn2
  | with_reducible apply Rd.nt1
  | with_reducible apply Rd.nf1
  | (with_reducible refine Rd.iteI (fun _ => ?_) (fun _ => ?_))
  | (with_reducible refine Rd.iteNI (fun _ => ?_) (fun _ => ?_))
  | (with_reducible refine iteT ?_)
  | (with_reducible refine iteF ?_)
  | (with_reducible refine Rd.iteD (fun _ => ?_) (fun _ => ?_))
  | (with_reducible refine Rd.iteN (fun _ => ?_) (fun _ => ?_))
  | with_reducible apply Rd.intI
  | with_reducible apply Rd.intB
  | with_reducible apply Rd.maxQ
  | with_reducible apply Rd.minQ
  | with_reducible apply Rd.absQ
  | with_reducible apply Rd.isN
  | with_reducible apply Rd.noN
  | with_reducible apply Rd.ltZ
  | with_reducible apply Rd.bm
  | with_reducible apply Rd.bm0
  | with_reducible apply Rd.par
  | with_reducible apply Rd.expar
  | with_reducible apply Rd.exint
  | with_reducible apply Rd.ipi
  | with_reducible apply Rd.slice
  | with_reducible apply Rd.noPart
  | with_reducible apply Rd.part
  | with_reducible apply Rd.gcons
  | with_reducible apply Rd.gnil
  | with_reducible apply Rd.iseq
  | with_reducible apply Rd.irng1
  | walk_at "isi"
  | with_reducible apply Rd.forX
  | with_reducible apply Rd.lstRev
  | with_reducible apply Rd.lstRg
  | with_reducible apply Rd.rg1
  | with_reducible apply Rd.rg2
  | with_reducible apply Rd.exint2
  | ((with_reducible apply Rd.exrev); (walk_at "sq"))
  | with_reducible apply Rd.lcX
  | with_reducible apply Rd.yes
  | ((with_reducible apply Rd.exrng1); (constructor <;> omega))
  | ((with_reducible apply Rd.exrng2); (refine ⟨?_, ?_, ?_, ?_⟩ <;> omega))
  | with_reducible apply Rd.irng2
  | ((with_reducible apply Rd.aug); rfl)
  | ((with_reducible apply Rd.exlst); (walk_at "sq"))
  | ((with_reducible apply Rd.gtup); (walk_at "st"); (rfl))
  | ((with_reducible apply Rd.tyL); (walk_at "hp"))
  | ((with_reducible apply Rd.ixL); (walk_at "sq"); (rfl))
  | ((with_reducible apply Rd.ixI); (walk_at "sq"); (omega); (first | assumption | (simp only [List.length_map]; omega)); (intro _ _))
  | (with_reducible refine Rd.gsub ?_)
  | ((with_reducible apply Rd.setL); (walk_at "hp"); (rfl); ((dsimp only [List.set, L2.wipe, Int.reduceToNat]) <;> rfl))
  | ((with_reducible apply Rd.lenQ); (first | exact Or.inl (by walk_at "sq") | exact Or.inr (by walk_at "st")))
  | ((with_reducible apply Rd.listQ); (first | exact Or.inl (by walk_at "sq") | exact Or.inr (by walk_at "st")))
  | ((with_reducible apply Rd.tupQ); (walk_at "sq"))
  | ((with_reducible apply Rd.slL); (walk_at "sq"))
  | ((with_reducible apply Rd.ixT); (walk_at "st"); (rfl))
  | (with_reducible refine Rd.iteB (fun _ => ?_) (fun _ => ?_))
  | (with_reducible refine Rd.iteNB (fun _ => ?_) (fun _ => ?_))
  | (refine Rd.andI (Nat.le_of_ble_eq_true rfl) ?_)
  | dsimp only [List.set])
local macro_rules | `(tactic| walk_at "hp") => `(tactic| first
  | assumption
  | exact upd_same
  | (refine Eq.trans (upd_ne (by first | assumption | (apply Ne.symm; assumption))) ?_; walk_at "hp")
  | (refine hpS (by assumption) ?_; walk_at "hp"))
local macro_rules | `(tactic| walk_at "al") => `(tactic| (with_reducible intro l hl; generalize hG : upd _ l _ = G; have hs := newOne hl hG; clear hG; obtain ⟨hs, he⟩ := hs))
local macro_rules | `(tactic| walk_at "rd") => `(tactic| first
  | walk_at "al"
  | ((with_reducible apply Rd.cat); (walk_at "hp"); (walk_at "hp"); (exact Nat.le_of_ble_eq_true rfl)))
local macro_rules | `(tactic| walk_at "sm") => `(tactic| first
  | assumption
  | exact Same.refl _
  | (refine Same.trans ?_ (by assumption); walk_at "sm"))
local macro_rules | `(tactic| walk_at "fr") => `(tactic| first
  | assumption
  | (refine Same.free (by assumption) ?_; walk_at "fr"))
local macro_rules | `(tactic| walk_at "ty") => `(tactic| first
  | exact dv_ty (by assumption)
  | exact tyD' (by walk_at "hp"))
local macro_rules | `(tactic| walk_at "sz") => `(tactic| first
  | exact sz5 (by omega)
  | (simp only [add_len, one_len]; exact sz5 (by omega)))
local macro_rules | `(tactic| walk_at "rd") => `(tactic| first
  | with_reducible apply Rd.istr
  | with_reducible apply Rd.exstr
  | with_reducible apply Rd.leA
  | with_reducible apply Rd.leZz
  | with_reducible apply Rd.le0
  | with_reducible apply Rd.le9
  | with_reducible apply Rd.niZ
  | ((with_reducible apply Rd.lenZ); (walk_at "sz"))
  | ((with_reducible apply Rd.slZ); (walk_at "sz"))
  | ((with_reducible apply Rd.addZ); (walk_at "sz"))
  | with_reducible apply Rd.raiseX
  | with_reducible apply Rd.exone
  | with_reducible apply Rd.callS
  | with_reducible apply Rd.callP
  | with_reducible apply Rd.xsX
  | with_reducible apply Rd.dnewX
  | with_reducible apply Rd.tyZ)
/-! ### the checks of lines and houses that are right -/
section
variable {P : Program} {w : World} {K : PySem.W.Frag} {mg : Str → Option Value} {base : Heap} {D : Str → Addr}
theorem dinXb {td : TE} {σ : L2.St} {ty : TE} {H : Hp} {Q : VK} (h : ty σ H fun y H1 => td σ H1 fun x H2 => ∃ a o, x = .ref a ∧ DGet H2 a y o ∧ Q (.bl o.isSome) H2) : tDIn ty td σ H Q := h
theorem dnewXb {σ : L2.St} {H : Hp} {Q : VK} (h : ∀ p, H p = none → Q (.ref p) (upd H p (.dK []))) : tDNewK σ H Q := h
theorem dinC {H : Hp} {P' : Bool → Prop} {a : Addr} {ks : List Str} {f : Str → V} {z : Str} (h : H a = some (.dK (kd ks f))) (q : P' (decide (z ∈ ks))) : ∃ a' o, V.ref a = .ref a' ∧ DGet H a' (.str z) o ∧ ∃ k, V.bl o.isSome = V.bl k ∧ P' k := by
  by_cases m : z ∈ ks
  · exact ⟨a, _, rfl, .inl ⟨_, Sum.inr z, .inl h, rfl, (kd_get m).symm⟩, _, rfl, by rw [decide_eq_true m] at q; exact q⟩
  · exact ⟨a, _, rfl, .inl ⟨_, Sum.inr z, .inl h, rfl, (kd_none m).symm⟩, _, rfl, by rw [decide_eq_false m] at q; exact q⟩
theorem dniC {H : Hp} {P' : Bool → Prop} {a : Addr} {ks : List Str} {f : Str → V} {z : Str} (h : H a = some (.dK (kd ks f))) (q : P' (!decide (z ∈ ks))) : ∃ a' o, V.ref a = .ref a' ∧ DGet H a' (.str z) o ∧ ∃ k, V.bl (!o.isSome) = V.bl k ∧ P' k := by
  by_cases m : z ∈ ks
  · exact ⟨a, _, rfl, .inl ⟨_, Sum.inr z, .inl h, rfl, (kd_get m).symm⟩, _, rfl, by rw [decide_eq_true m] at q; exact q⟩
  · exact ⟨a, _, rfl, .inl ⟨_, Sum.inr z, .inl h, rfl, (kd_none m).symm⟩, _, rfl, by rw [decide_eq_false m] at q; exact q⟩
local macro_rules | `(tactic| walk_at "rd") => `(tactic| first
  | with_reducible apply Rd.din
  | with_reducible apply Kj.dnewXb
  | with_reducible apply Kj.dinXb)
/-- check_stand(houses, words) of words that stand -/
def spCkSt (K : PySem.W.Frag) : Sp := fun vs H Q _ => ∃ (h l : Addr) (zs ws : List Str), vs = [.ref h, .ref l] ∧ SqL K H h (zs.map V.str) ∧ SqL K H l (ws.map V.str) ∧ ws.length ≤ 1000 ∧ (∀ z ∈ ws, z ∈ zs) ∧ ∀ H', Same H H' → Q .non H'
theorem ok_check_stand (F : Def K mg "check_stand" s_check_stand P_check_stand) (T_NoHouse : Ho.ErrC P w K mg base "NoHouse" (D "NoHouse") "word") : Ho.CalN P w K mg base 4 "check_stand" P_check_stand (spCkSt K) := by
  refine Ho.defN F sc_check_stand (fun vs H Q E h => ?_) (fun f cdv A outer s H vs Q E hr h => ?_)
  · obtain ⟨h, l, zs, ws, rfl, _⟩ := h
    rfl
  obtain ⟨h, l, zs, ws, rfl, hh, hl, lz, mz, q⟩ := h
  refine ⟨_, (pss_one (ps_for (passes_of rfl) rfl (pi_list (pv 1 (hd := nd_words) (hcd := nc_words))) (pg_name (i := 2) sc_check_stand.nd rfl (Or.inl rfl)) (pss_one (ps_if (pt_cmpR op_notIn_seq (pv 2 (hd := nd_word) (hcd := nc_word)) (pv 0 (hd := nd_houses) (hcd := nc_houses)) (by rfl)) (pss_one (Ho.ps_err rfl T_NoHouse hr (L2N.takes_of rfl rfl rfl rfl) (pa_cons (pv 2 (hd := nd_word) (hcd := nc_word)) pa_nil) (by first | exact Ho.up_v | exact Ho.up_c))) pss_nil)))), ?_⟩
  refine Rd.at0 (σ := [some (.ref h), some (.ref l), none]) rfl ?_
  repeat' (walk_at "rd")
  refine forL (ws.map V.str) (fun i σ H' => ∃ v1 : Option V, σ = [some (.ref h), some (.ref l), v1] ∧ Same H H') ⟨none, rfl, fun _ _ e => e⟩ (fun _ _ _ _ ⟨_, _, s⟩ => s.seq hl) ?_ ?_
  · rintro i x σ H' hx ⟨v1, rfl, s'⟩
    rw [List.getElem?_map] at hx
    obtain ⟨z, hz, rfl⟩ := Option.map_eq_some_iff.mp hx
    repeat' (walk_at "rd")
    refine ⟨h, _, rfl, .inl (s'.seq hh), rfl, flat_strs zs, ?_⟩
    rw [if_pos rfl, inV_strs, decide_eq_true (mz z (List.mem_of_getElem? hz))]
    repeat' (walk_at "rd")
    exact ⟨_, rfl, s'⟩
  · rintro σ H' ⟨v1, rfl, s'⟩
    repeat' (walk_at "rd")
    exact q H' s'
/-- check_line(houses, line, a, b), right -/
def spCkLn (K : PySem.W.Frag) : Sp := fun vs H Q _ => ∃ (h : Addr) (zs : List Str) (n a b : Str), vs = [.ref h, .str n, .str a, .str b] ∧ SqL K H h (zs.map V.str) ∧ (∀ z ∈ zs, NmS z) ∧ NmS n ∧ a ∈ zs ∧ b ∈ zs ∧ a ≠ b ∧ ∀ H', Same H H' → Q .non H'
theorem ok_check_line (F : Def K mg "check_line" s_check_line P_check_line) (T_SelfLine : Ho.ErrC P w K mg base "SelfLine" (D "SelfLine") "word") (C_check_names : Ho.CalN P w K mg base 4 "check_names" P_check_names (spCkNs K)) (C_check_stand : Ho.CalN P w K mg base 4 "check_stand" P_check_stand (spCkSt K)) : Ho.CalN P w K mg base 5 "check_line" P_check_line (spCkLn K) := by
  refine Ho.defN F sc_check_line (fun vs H Q E h => ?_) (fun f cdv A outer s H vs Q E hr h => ?_)
  · obtain ⟨h, zs, n, a, b, rfl, _⟩ := h
    rfl
  obtain ⟨h, zs, n, a, b, rfl, hh, mz, mn, ma, mb, ne, q⟩ := h
  refine ⟨_, (pss_cons (ps_expr (Ho.pe_calN C_check_names (L2N.takes_of rfl rfl rfl rfl) hr (pa_cons (pe_lst (pa_cons (pv 1 (hd := nd_line) (hcd := nc_line)) (pa_cons (pv 2 (hd := nd_a) (hcd := nc_a)) (pa_cons (pv 3 (hd := nd_b) (hcd := nc_b)) pa_nil)))) pa_nil)))
  (pss_cons (ps_expr (Ho.pe_calN C_check_stand (L2N.takes_of rfl rfl rfl rfl) hr (pa_cons (pv 0 (hd := nd_houses) (hcd := nc_houses)) (pa_cons (pe_lst (pa_cons (pv 2 (hd := nd_a) (hcd := nc_a)) (pa_cons (pv 3 (hd := nd_b) (hcd := nc_b)) pa_nil))) pa_nil))))
  (pss_one (ps_if (pt_cmpR op_eq (pv 2 (hd := nd_a) (hcd := nc_a)) (pv 3 (hd := nd_b) (hcd := nc_b)) (nomark _)) (pss_one (Ho.ps_err rfl T_SelfLine hr (L2N.takes_of rfl rfl rfl rfl) (pa_cons (pv 1 (hd := nd_line) (hcd := nc_line)) pa_nil) (by first | exact Ho.up_v | exact Ho.up_c))) pss_nil)))), ?_⟩
  refine Rd.at0 (σ := [some (.ref h), some (.str n), some (.str a), some (.str b)]) rfl ?_
  repeat' (walk_at "rd")
  rename_i l1 n1 G1 s1 e1
  refine ⟨l1, [n, a, b], rfl, .inl (.inl e1), by show 3 ≤ 1000; decide, fun z hz => ?_, fun H2 s2 => ?_⟩
  · have hz : z = n ∨ z = a ∨ z = b := by simpa using hz
    rcases hz with rfl | rfl | rfl
    · exact mn
    · exact mz _ ma
    · exact mz _ mb
  repeat' (walk_at "rd")
  rename_i l3 n3 G3 s3 e3
  refine ⟨h, l3, zs, [a, b], rfl, ((s1.trans s2).trans s3).seq hh, .inl (.inl e3), by show 2 ≤ 1000; decide, fun z hz => ?_, fun H4 s4 => ?_⟩
  · have hz : z = a ∨ z = b := by simpa using hz
    rcases hz with rfl | rfl
    · exact ma
    · exact mb
  repeat' (walk_at "rd")
  · rename_i e l' n' G' s' e'
    exact absurd (V.str.inj e) ne
  · exact q H4 (((s1.trans s2).trans s3).trans s4)
/-- check_new_line(houses, standing, line, a, b), right -/
def spCkNew (K : PySem.W.Frag) : Sp := fun vs H Q _ => ∃ (h d : Addr) (zs ks : List Str) (f : Str → V) (n a b : Str), vs = [.ref h, .ref d, .str n, .str a, .str b] ∧ SqL K H h (zs.map V.str) ∧ H d = some (.dK (kd ks f)) ∧ (∀ z ∈ zs, NmS z) ∧ NmS n ∧ a ∈ zs ∧ b ∈ zs ∧ a ≠ b ∧
  n ∉ ks ∧ ks.length < 96 ∧ ∀ H', Same H H' → Q .non H'
theorem ok_check_new_line (F : Def K mg "check_new_line" s_check_new_line P_check_new_line) (m_len : mg "len" = none) (c_MOST_LINES : ∃ t, mg "MOST_LINES" = some (.int 96 t)) (T_Taken : Ho.ErrC P w K mg base "Taken" (D "Taken") "word") (T_TooMany : Ho.ErrC P w K mg base "TooMany" (D "TooMany") "bound") (C_check_line : Ho.CalN P w K mg base 5 "check_line" P_check_line (spCkLn K)) : Ho.CalN P w K mg base 6 "check_new_line" P_check_new_line (spCkNew K) := by
  refine Ho.defN F sc_check_new_line (fun vs H Q E h => ?_) (fun f cdv A outer s H vs Q E hr h => ?_)
  · obtain ⟨h, d, zs, ks, f, n, a, b, rfl, _⟩ := h
    rfl
  obtain ⟨h, d, zs, ks, fk, n, a, b, rfl, hh, ed, mz, mn, ma, mb, ne, nk, lk, q⟩ := h
  refine ⟨_, (pss_cons (ps_expr (Ho.pe_calN C_check_line (L2N.takes_of rfl rfl rfl rfl) hr (pa_cons (pv 0 (hd := nd_houses) (hcd := nc_houses)) (pa_cons (pv 2 (hd := nd_line) (hcd := nc_line)) (pa_cons (pv 3 (hd := nd_a) (hcd := nc_a)) (pa_cons (pv 4 (hd := nd_b) (hcd := nc_b)) pa_nil))))))
  (pss_cons (ps_if (pt_cmp (pc_din (un1 hr) (pv 2 (hd := nd_line) (hcd := nc_line)) (pv 1 (hd := nd_standing) (hcd := nc_standing)))) (pss_one (Ho.ps_err rfl T_Taken hr (L2N.takes_of rfl rfl rfl rfl) (pa_cons (pv 2 (hd := nd_line) (hcd := nc_line)) pa_nil) (by first | exact Ho.up_v | exact Ho.up_c))) pss_nil)
  (pss_one (ps_if (pt_cmpR op_ge (pe_callB (q_lenAK (K := K) rfl) (by rfl) m_len PySem.boot_len (pa_cons (pv 1 (hd := nd_standing) (hcd := nc_standing)) pa_nil) (hn := nn_len) (hdb := nd_len)) (Ho.pe_const (v := 96) c_MOST_LINES (by rfl)) (nomark _)) (pss_one (Ho.ps_err rfl T_TooMany hr (L2N.takes_of rfl rfl rfl rfl) (pa_cons (Ho.pe_const (v := 96) c_MOST_LINES (by rfl)) pa_nil) (by first | exact Ho.up_v | exact Ho.up_c))) pss_nil)))), ?_⟩
  refine Rd.at0 (σ := [some (.ref h), some (.ref d), some (.str n), some (.str a), some (.str b)]) rfl ?_
  repeat' (walk_at "rd")
  refine ⟨h, zs, n, a, b, rfl, hh, mz, mn, ma, mb, ne, fun H1 s1 => ?_⟩
  have ed1 := s1 _ _ ed
  repeat' (walk_at "rd")
  refine dinC ed1 ?_
  rw [decide_eq_false nk]
  repeat' (walk_at "rd")
  refine lenAd ed1 ?_
  rw [kd_len]
  repeat' (walk_at "rd")
  · exfalso
    omega
  · exact q H1 s1
/-- check_line_stands(standing, line) of a line that stands -/
def spCkStands : Sp := fun vs H Q _ => ∃ (d : Addr) (ks : List Str) (f : Str → V) (n : Str), vs = [.ref d, .str n] ∧ H d = some (.dK (kd ks f)) ∧ NmS n ∧ n ∈ ks ∧ ∀ H', Same H H' → Q .non H'
theorem ok_check_line_stands (F : Def K mg "check_line_stands" s_check_line_stands P_check_line_stands) (T_NoLine : Ho.ErrC P w K mg base "NoLine" (D "NoLine") "word") (C_check_name : Ho.CalN P w K mg base 3 "check_name" P_check_name (spCheckN K D)) : Ho.CalN P w K mg base 4 "check_line_stands" P_check_line_stands spCkStands := by
  refine Ho.defN F sc_check_line_stands (fun vs H Q E h => ?_) (fun f cdv A outer s H vs Q E hr h => ?_)
  · obtain ⟨d, ks, f, n, rfl, _⟩ := h
    rfl
  obtain ⟨d, ks, fk, n, rfl, ed, mn, nk, q⟩ := h
  refine ⟨_, (pss_cons (ps_expr (Ho.pe_calN C_check_name (L2N.takes_of rfl rfl rfl rfl) hr (pa_cons (pv 1 (hd := nd_line) (hcd := nc_line)) pa_nil)))
  (pss_one (ps_if (pt_cmp (pc_dnotin (un1 hr) (pv 1 (hd := nd_line) (hcd := nc_line)) (pv 0 (hd := nd_standing) (hcd := nc_standing)))) (pss_one (Ho.ps_err rfl T_NoLine hr (L2N.takes_of rfl rfl rfl rfl) (pa_cons (pv 1 (hd := nd_line) (hcd := nc_line)) pa_nil) (by first | exact Ho.up_v | exact Ho.up_c))) pss_nil))), ?_⟩
  refine Rd.at0 (σ := [some (.ref d), some (.str n)]) rfl ?_
  repeat' (walk_at "rd")
  refine ckn mn fun H1 s1 => ?_
  have ed1 := s1 _ _ ed
  repeat' (walk_at "rd")
  refine dniC ed1 ?_
  rw [decide_eq_true nk]
  repeat' (walk_at "rd")
  exact q H1 s1
/-- check_houses(houses) of a list of different names -/
def spCkHs : Sp := fun vs H Q _ => ∃ (g : Addr) (zs : List Str), vs = [.ref g] ∧ H g = some (.lst (zs.map V.str)) ∧ zs.Nodup ∧ (∀ z ∈ zs, NmS z) ∧ zs.length ≤ 32 ∧
  ∀ L ys H', ys.Perm zs → sortedS ys = true → H L = none → Same H H' → H' L = some (.lst (ys.map V.str)) → Q (.ref L) H'
theorem ok_check_houses (F : Def K mg "check_houses" s_check_houses P_check_houses) (m_len : mg "len" = none) (m_sorted : mg "sorted" = none) (m_list : mg "list" = none) (c_MOST_HOUSES : ∃ t, mg "MOST_HOUSES" = some (.int 32 t)) (T_Taken : Ho.ErrC P w K mg base "Taken" (D "Taken") "word") (T_TooMany : Ho.ErrC P w K mg base "TooMany" (D "TooMany") "bound") (C_check_name : Ho.CalN P w K mg base 3 "check_name" P_check_name (spCheckN K D)) : Ho.CalN P w K mg base 4 "check_houses" P_check_houses spCkHs := by
  refine Ho.defN F sc_check_houses (fun vs H Q E h => ?_) (fun f cdv A outer s H vs Q E hr h => ?_)
  · obtain ⟨g, zs, rfl, _⟩ := h
    rfl
  obtain ⟨g, zs, rfl, ha, nd, mz, lz, q⟩ := h
  refine ⟨_, (pss_cons (ps_set (i := 1) sc_check_houses.nd rfl (Or.inl rfl) pe_dnewK)
  (pss_cons (ps_for (passes_of rfl) rfl (pi_list (pv 0 (hd := nd_houses) (hcd := nc_houses))) (pg_name (i := 2) sc_check_houses.nd rfl (Or.inl rfl)) (pss_cons (ps_expr (Ho.pe_calN C_check_name (L2N.takes_of rfl rfl rfl rfl) hr (pa_cons (pv 2 (hd := nd_house) (hcd := nc_house)) pa_nil)))
  (pss_cons (ps_if (pt_cmp (pc_din (un1 hr) (pv 2 (hd := nd_house) (hcd := nc_house)) (pv 1 (hd := nd_made) (hcd := nc_made)))) (pss_one (Ho.ps_err rfl T_Taken hr (L2N.takes_of rfl rfl rfl rfl) (pa_cons (pv 2 (hd := nd_house) (hcd := nc_house)) pa_nil) (by first | exact Ho.up_v | exact Ho.up_c))) pss_nil)
  (pss_cons (ps_if (pt_cmpR op_ge (pe_callB (q_lenAK (K := K) rfl) (by rfl) m_len PySem.boot_len (pa_cons (pv 1 (hd := nd_made) (hcd := nc_made)) pa_nil) (hn := nn_len) (hdb := nd_len)) (Ho.pe_const (v := 32) c_MOST_HOUSES (by rfl)) (nomark _)) (pss_one (Ho.ps_err rfl T_TooMany hr (L2N.takes_of rfl rfl rfl rfl) (pa_cons (Ho.pe_const (v := 32) c_MOST_HOUSES (by rfl)) pa_nil) (by first | exact Ho.up_v | exact Ho.up_c))) pss_nil)
  (pss_one (ps_asg pe_bl (pg_sub (pv 1 (hd := nd_made) (hcd := nc_made)) (pv 2 (hd := nd_house) (hcd := nc_house)) (set_dict (un1 hr)))))))))
  (pss_one (ps_ret (pe_callB (q_sortedSK (K := K) rfl) (by rfl) m_sorted bb_sorted (pa_cons (pe_callTy (q_listDk rfl) (by rfl) m_list bb_list (pa_cons (pv 1 (hd := nd_made) (hcd := nc_made)) pa_nil) (hn := nn_list) (hdb := nd_list)) pa_nil) (hn := nn_sorted) (hdb := nd_sorted)))))), ?_⟩
  refine Rd.at0 (σ := [some (.ref g), none, none]) rfl ?_
  have lm : (zs.map V.str).length = zs.length := List.length_map ..
  repeat' (walk_at "rd")
  rename_i M nM G sG eG
  have nMg : M ≠ g := fun e => by
    rw [e, ha] at nM
    cases nM
  have eG : G M = some (.dK (kd ([] : List Str) fun _ => .bl true)) := eG
  refine forL (zs.map V.str) (fun i σ H' => ∃ (v2 : Option V), σ = [some (.ref g), some (.ref M), v2] ∧ Same H H' ∧ H' M = some (.dK (kd (zs.take i) fun _ => .bl true))) ⟨none, rfl, sG, eG⟩ (fun _ _ _ _ ⟨_, _, s, _⟩ => .inl (.inl (s _ _ ha))) ?_ ?_
  · rintro i x σ H' hx ⟨v2, rfl, s', eM⟩
    rw [List.getElem?_map] at hx
    obtain ⟨z, hz, rfl⟩ := Option.map_eq_some_iff.mp hx
    obtain ⟨li, ei⟩ := List.getElem?_eq_some_iff.mp hz
    have nz : z ∉ zs.take i := fun m => by
      obtain ⟨j, hj, e⟩ := List.mem_take_iff_getElem.mp m
      have := (List.getElem_inj nd).mp (e.trans ei.symm)
      omega
    repeat' (walk_at "rd")
    refine ckn (mz z (List.mem_of_getElem? hz)) fun H2 s2 => ?_
    have s02 := s'.trans s2
    have eM2 := s2 _ _ eM
    repeat' (walk_at "rd")
    refine dinC eM2 ?_
    rw [decide_eq_false nz]
    repeat' (walk_at "rd")
    refine lenAd eM2 ?_
    rw [kd_len, List.length_take, Nat.min_eq_left (by omega)]
    repeat' (walk_at "rd")
    · exfalso
      omega
    · refine dnewK eM2 nz (by rw [List.length_take]; omega) ?_
      rw [kd_congr (g := fun _ => .bl true) (fun y _ => by split <;> rfl)]
      repeat' (walk_at "rd")
      refine ⟨_, rfl, same_put s02 nM _, ?_⟩
      rw [List.take_add_one, hz]
      exact upd_same
  · rintro σ H' ⟨v2, rfl, s', eM⟩
    rw [lm, List.take_of_length_le (Nat.le_refl _)] at eM
    repeat' (walk_at "rd")
    refine listDkd eM fun L1 hL1 => ?_
    repeat' (walk_at "rd")
    refine ⟨L1, zs, rfl, .inl (.inl upd_same), by omega, fun ys p pm sy np => ?_⟩
    exact q p ys _ pm sy (s'.free ((same_upd hL1).free np)) ((s'.trans (same_upd hL1)).trans (same_upd np)) upd_same
end
end Kj
namespace Kj
open PySem PySem.Spec PyProof.Rows L2 Rd
/-! ### the stepper -/
local macro_rules | `(tactic| walk_at "hp") => `(tactic| first
  | assumption
  | exact upd_same
  | (refine Eq.trans (upd_ne (by first | assumption | (apply Ne.symm; assumption))) ?_; walk_at "hp"))
local macro_rules | `(tactic| walk_at "sq") => `(tactic| first
  | assumption
  | (refine Or.inl (Or.inl ?_); walk_at "hp"))
local macro_rules | `(tactic| walk_at "st") => `(tactic| first
  | assumption
  | (refine Or.inl (Or.inl ?_); walk_at "hp"))
local macro_rules | `(tactic| walk_at "ar") => `(tactic| first
  | assumption
  | omega
  | decide)
local macro_rules | `(tactic| walk_at "ci") => `(tactic| first
  | (refine (show CMul _ _ from Or.inr ⟨?_, ?_⟩) <;> omega)
  | (refine (show CMul _ _ from Or.inl ⟨?_, ?_⟩) <;> omega)
  | (show CPow _ _; exact ⟨by decide, by decide, by decide⟩)
  | (refine wide_div (b := 63) ?_ ?_ (by decide) (by decide) <;> omega)
  | (show (0 : Int) < _; omega))
local macro_rules | `(tactic| walk_at "ty") => `(tactic| first
  | exact dp_ty (by assumption)
  | exact TyX.base (TyOf.int _)
  | exact TyX.base (TyOf.str _)
  | exact TyX.base (TyOf.bl _)
  | exact TyX.base TyOf.non
  | exact tyL' (by walk_at "sq")
  | exact tyT' (by walk_at "st"))
local macro_rules | `(tactic| walk_at "isi") => `(tactic| first
  | ((with_reducible apply Rd.isiF); (walk_at "ty"); (decide))
  | ((with_reducible apply Rd.isiT); (walk_at "ty"); (decide)))
local macro_rules | `(tactic| walk_at "rd") => `(tactic| first
  | with_reducible apply Rd.seq
  | ((with_reducible apply Rd.var); rfl)
  | with_reducible apply Rd.con
  | with_reducible apply Rd.op
  | with_reducible apply Rd.asg
  | ((with_reducible apply Rd.gname); ((dsimp only [List.set, L2.wipe, Int.reduceToNat]) <;> rfl))
  | with_reducible apply Rd.nxt
  | with_reducible apply Rd.ifs
  | with_reducible apply Rd.test
  | with_reducible apply Rd.testB
  | with_reducible apply Rd.exbl
  | with_reducible apply Rd.ret
  | with_reducible apply Rd.drop
  | with_reducible apply Rd.retN
  | with_reducible apply Rd.nil
  | with_reducible apply Rd.cons
  | with_reducible apply Rd.call
  | with_reducible apply Rd.cb
  | with_reducible apply Rd.and
  | with_reducible apply Rd.or
  | with_reducible apply Rd.not
  | with_reducible apply Rd.andV
  | with_reducible apply Rd.orV
  | with_reducible apply Rd.notV
  | with_reducible apply Rd.ife
  | with_reducible apply Rd.tup
  | with_reducible apply Rd.lst
  | with_reducible apply Rd.un
  | with_reducible apply Rd.chain
  | with_reducible apply Rd.brk
  | with_reducible apply Rd.cnt
  | with_reducible apply Rd.I0
  | with_reducible apply Rd.U1
  | ((with_reducible apply Rd.eq); rfl)
  | ((with_reducible apply Rd.ne); rfl)
  | ((with_reducible apply Rd.I1); (walk_at "ci"))
  | with_reducible apply Rd.lc0
  | with_reducible apply Rd.ln0
  | with_reducible apply Rd.exN
  | ((with_reducible apply Rd.iteSf); (decide +kernel))
  | ((with_reducible apply Rd.iteSt); (decide +kernel))
  | ((with_reducible apply Rd.niQ); (exact Or.inl (by walk_at "sq")); (exact ⟨rfl, rfl⟩); (rfl))
  | ((with_reducible apply Rd.inQ); (exact Or.inl (by walk_at "sq")); (exact ⟨rfl, rfl⟩); (rfl))
  | with_reducible apply Rd.rn1
  | with_reducible apply Rd.in1
  | with_reducible apply Rd.sn1
  | with_reducible apply Rd.bn1
  | with_reducible apply Rd.nn1
  | with_reducible apply Rd.rn2
  | with_reducible apply Rd.in2
  | with_reducible apply Rd.sn2
  | with_reducible apply Rd.bn2
  | with_reducible apply Rd.nn2
  | with_reducible apply Rd.nt1
  | with_reducible apply Rd.nf1
  | (with_reducible refine Rd.iteI (fun _ => ?_) (fun _ => ?_))
  | (with_reducible refine Rd.iteNI (fun _ => ?_) (fun _ => ?_))
  | (with_reducible refine iteT ?_)
  | (with_reducible refine iteF ?_)
  | (with_reducible refine Rd.iteD (fun _ => ?_) (fun _ => ?_))
  | (with_reducible refine Rd.iteN (fun _ => ?_) (fun _ => ?_))
  | with_reducible apply Rd.intI
  | with_reducible apply Rd.intB
  | with_reducible apply Rd.maxQ
  | with_reducible apply Rd.minQ
  | with_reducible apply Rd.absQ
  | with_reducible apply Rd.isN
  | with_reducible apply Rd.noN
  | with_reducible apply Rd.ltZ
  | with_reducible apply Rd.bm
  | with_reducible apply Rd.bm0
  | with_reducible apply Rd.par
  | with_reducible apply Rd.expar
  | with_reducible apply Rd.exint
  | with_reducible apply Rd.ipi
  | with_reducible apply Rd.slice
  | with_reducible apply Rd.noPart
  | with_reducible apply Rd.part
  | with_reducible apply Rd.gcons
  | with_reducible apply Rd.gnil
  | with_reducible apply Rd.iseq
  | with_reducible apply Rd.irng1
  | walk_at "isi"
  | with_reducible apply Rd.forX
  | with_reducible apply Rd.lstRev
  | with_reducible apply Rd.lstRg
  | with_reducible apply Rd.rg1
  | with_reducible apply Rd.rg2
  | with_reducible apply Rd.exint2
  | ((with_reducible apply Rd.exrev); (walk_at "sq"))
  | with_reducible apply Rd.lcX
  | with_reducible apply Rd.yes
  | ((with_reducible apply Rd.exrng1); (constructor <;> omega))
  | ((with_reducible apply Rd.exrng2); (refine ⟨?_, ?_, ?_, ?_⟩ <;> omega))
  | with_reducible apply Rd.irng2
  | ((with_reducible apply Rd.aug); rfl)
  | ((with_reducible apply Rd.exlst); (walk_at "sq"))
  | ((with_reducible apply Rd.gtup); (walk_at "st"); (rfl))
  | ((with_reducible apply Rd.tyL); (walk_at "hp"))
  | ((with_reducible apply Rd.ixL); (walk_at "sq"); (rfl))
  | ((with_reducible apply Rd.ixI); (walk_at "sq"); (omega); (first | assumption | (simp only [List.length_map]; omega)); (intro _ _))
  | (with_reducible refine Rd.gsub ?_)
  | ((with_reducible apply Rd.setL); (walk_at "hp"); (rfl); ((dsimp only [List.set, L2.wipe, Int.reduceToNat]) <;> rfl))
  | ((with_reducible apply Rd.lenQ); (first | exact Or.inl (by walk_at "sq") | exact Or.inr (by walk_at "st")))
  | ((with_reducible apply Rd.listQ); (first | exact Or.inl (by walk_at "sq") | exact Or.inr (by walk_at "st")))
  | ((with_reducible apply Rd.tupQ); (walk_at "sq"))
  | ((with_reducible apply Rd.slL); (walk_at "sq"))
  | ((with_reducible apply Rd.ixT); (walk_at "st"); (rfl))
  | (with_reducible refine Rd.iteB (fun _ => ?_) (fun _ => ?_))
  | (with_reducible refine Rd.iteNB (fun _ => ?_) (fun _ => ?_))
  | (refine Rd.andI (Nat.le_of_ble_eq_true rfl) ?_)
  | dsimp only [List.set])
local macro_rules | `(tactic| walk_at "hp") => `(tactic| first
  | assumption
  | exact upd_same
  | (refine Eq.trans (upd_ne (by first | assumption | (apply Ne.symm; assumption))) ?_; walk_at "hp")
  | (refine hpS (by assumption) ?_; walk_at "hp"))
local macro_rules | `(tactic| walk_at "al") => `(tactic| (with_reducible intro l hl; generalize hG : upd _ l _ = G; have hs := newOne hl hG; clear hG; obtain ⟨hs, he⟩ := hs))
local macro_rules | `(tactic| walk_at "rd") => `(tactic| first
  | walk_at "al"
  | ((with_reducible apply Rd.cat); (walk_at "hp"); (walk_at "hp"); (exact Nat.le_of_ble_eq_true rfl)))
local macro_rules | `(tactic| walk_at "sm") => `(tactic| first
  | assumption
  | exact Same.refl _
  | (refine Same.trans ?_ (by assumption); walk_at "sm"))
local macro_rules | `(tactic| walk_at "fr") => `(tactic| first
  | assumption
  | (refine Same.free (by assumption) ?_; walk_at "fr"))
local macro_rules | `(tactic| walk_at "ty") => `(tactic| first
  | exact dv_ty (by assumption)
  | exact tyD' (by walk_at "hp"))
local macro_rules | `(tactic| walk_at "sz") => `(tactic| first
  | exact sz5 (by omega)
  | (simp only [add_len, one_len]; exact sz5 (by omega)))
local macro_rules | `(tactic| walk_at "rd") => `(tactic| first
  | with_reducible apply Rd.istr
  | with_reducible apply Rd.exstr
  | with_reducible apply Rd.leA
  | with_reducible apply Rd.leZz
  | with_reducible apply Rd.le0
  | with_reducible apply Rd.le9
  | with_reducible apply Rd.niZ
  | ((with_reducible apply Rd.lenZ); (walk_at "sz"))
  | ((with_reducible apply Rd.slZ); (walk_at "sz"))
  | ((with_reducible apply Rd.addZ); (walk_at "sz"))
  | with_reducible apply Rd.raiseX
  | with_reducible apply Rd.exone
  | with_reducible apply Rd.callS
  | with_reducible apply Rd.callP
  | with_reducible apply Rd.xsX
  | with_reducible apply Rd.dnewX
  | with_reducible apply Rd.tyZ)
/-! ### drawn webs -/
open Ty Ln
section
variable {P : Program} {w : World} {K : PySem.W.Frag} {mg : Str → Option Value} {base : Heap} {D : Str → Addr}
/-- _law_houses(store, most) -/
def spHouses : Sp := fun vs H Q _ => ∃ (st c : Addr) (m : Int), vs = [.ref st, .int m] ∧ StoreAt H st c ∧ 0 ≤ m ∧ m ≤ 1000 ∧ ∀ (L : Addr) (zs : List Str) (H' : Hp), (zs.length : Int) ≤ m → (∀ z ∈ zs, NmS z) → zs.Nodup → H L = none → Go st c H H' → H' L = some (.lst (zs.map V.str)) → Q (.ref L) H'
theorem ok__law_houses (F : Def K mg "_law_houses" s__law_houses P__law_houses) (C__law_take : Cal P w K mg base 1 "_law_take" P__law_take spTake) (C__law_between : Cal P w K mg base 2 "_law_between" P__law_between spBetween) (C__law_names : Cal P w K mg base 3 "_law_names" P__law_names spNames) : Cal P w K mg base 4 "_law_houses" P__law_houses spHouses := by
  refine F.ok sc__law_houses (fun vs H Q E h => ?_) (fun f cdv A outer s H vs Q E hr h => ?_)
  · obtain ⟨st, c, m, rfl, _⟩ := h
    rfl
  obtain ⟨st, c, m, rfl, hs, m0, m1, q⟩ := h
  refine ⟨_, (pss_cons (ps_set (i := 2) sc__law_houses.nd rfl (Or.inl rfl) (pe_cal C__law_between hr (pa_cons (pv 0 (hd := nd_store) (hcd := nc_store)) (pa_cons pe_int (pa_cons pe_int pa_nil))) (hdb := nd__law_between)))
  (pss_cons (ps_set (i := 3) sc__law_houses.nd rfl (Or.inl rfl) (pe_cal C__law_take hr (pa_cons (pv 0 (hd := nd_store) (hcd := nc_store)) (pa_cons pe_int pa_nil)) (hdb := nd__law_take)))
  (pss_cons (ps_if (pt_cmpR op_lt (pv 3 (hd := nd_style) (hcd := nc_style)) pe_int (nomark _)) (pss_one (ps_set (i := 2) sc__law_houses.nd rfl (Or.inl rfl) (pv 3 (hd := nd_style) (hcd := nc_style)))) pss_nil)
  (pss_cons (ps_if (PW.pt (pw_or (pt_cmpR op_eq (pv 3 (hd := nd_style) (hcd := nc_style)) pe_int (nomark _)) (pw_or1 (pt_cmpR op_gt (pv 2 (hd := nd_many) (hcd := nc_many)) (pv 1 (hd := nd_most) (hcd := nc_most)) (nomark _))))) (pss_one (ps_set (i := 2) sc__law_houses.nd rfl (Or.inl rfl) (pv 1 (hd := nd_most) (hcd := nc_most)))) pss_nil)
  (pss_one (ps_ret (pe_cal C__law_names hr (pa_cons (pv 0 (hd := nd_store) (hcd := nc_store)) (pa_cons (pv 2 (hd := nd_many) (hcd := nc_many)) pa_nil)) (hdb := nd__law_names)))))))), ?_⟩
  refine Rd.at0 (σ := [some (.ref st), some (.int m), none, none]) rfl ?_
  repeat' (walk_at "rd")
  refine ⟨st, c, 2, 9, rfl, hs, by decide, fun r H1 r0 r1 g1 => ?_⟩
  repeat' (walk_at "rd")
  refine ⟨st, c, 12, rfl, g1.ok, by decide, fun y H2 y0 y1 g2 => ?_⟩
  have g12 := g1.trans g2
  repeat' (walk_at "rd")
  all_goals
    refine ⟨st, c, _, rfl, g12.ok, by omega, by omega, fun L zs H3 hl hn nd fL g3 eL => ?_⟩
    exact q L zs H3 (by omega) hn nd (g12.free fL) (g12.trans g3) eL
theorem mod_in {k m : Int} (h : 0 < m) : 0 ≤ k % m ∧ k % m < m := ⟨Int.emod_nonneg _ (by omega), Int.emod_lt_of_pos _ h⟩
theorem mod_next {a m : Int} (h0 : 0 ≤ a) (h1 : a < m) (h2 : 2 ≤ m) : (a + 1) % m ≠ a := by
  by_cases e : a + 1 = m
  · rw [e, Int.emod_self]
    omega
  · rw [Int.emod_eq_of_lt (by omega) (by omega)]
    omega
/-- _law_pair(store, houses, shape, k) -/
def spPair : Sp := fun vs H Q _ => ∃ (st c h : Addr) (zs : List Str) (y k : Int), vs = [.ref st, .ref h, .int y, .int k] ∧ StoreAt H st c ∧ h ≠ st ∧ H h = some (.lst (zs.map V.str)) ∧ zs.length ≤ 1000 ∧ zs.Nodup ∧ 0 ≤ k ∧ k ≤ 100000 ∧
  (zs.length < 2 → Q .non H) ∧ ∀ (p : Addr) (a b : Str) (H' : Hp), a ∈ zs → b ∈ zs → cl a < cl b → H p = none → Go st c H H' → H' p = some (.tup [.str a, .str b]) → Q (.ref p) H'
theorem ok__law_pair (F : Def K mg "_law_pair" s__law_pair P__law_pair) (m_len : mg "len" = none) (m_int : mg "int" = none) (m_min : mg "min" = none) (m_max : mg "max" = none) (C__law_take : Cal P w K mg base 1 "_law_take" P__law_take spTake) : Cal P w K mg base 2 "_law_pair" P__law_pair spPair := by
  refine F.ok sc__law_pair (fun vs H Q E h => ?_) (fun f cdv A outer s H vs Q E hr h => ?_)
  · obtain ⟨st, c, h, zs, y, k, rfl, _⟩ := h
    rfl
  obtain ⟨st, c, h, zs, y, k, rfl, hs, hst, eh, lz, nd, k0, k1, qn, q⟩ := h
  refine ⟨_, (pss_cons (ps_set (i := 4) sc__law_pair.nd rfl (Or.inl rfl) (pe_callB q_len (by rfl) m_len PySem.boot_len (pa_cons (pv 1 (hd := nd_houses) (hcd := nc_houses)) pa_nil) (hn := nn_len) (hdb := nd_len)))
  (pss_cons (ps_if (pt_cmpR op_lt (pv 4 (hd := nd_many) (hcd := nc_many)) pe_int (nomark _)) (pss_one (ps_ret pe_non)) pss_nil)
  (pss_cons (ps_set (i := 5) sc__law_pair.nd rfl (Or.inl rfl) (pe_op op_mod (pe_callTy q_intI (by rfl) m_int bb_int (pa_cons (pv 3 (hd := nd_k) (hcd := nc_k)) pa_nil) (hn := nn_int) (hdb := nd_int)) (pv 4 (hd := nd_many) (hcd := nc_many))))
  (pss_cons (ps_set (i := 6) sc__law_pair.nd rfl (Or.inl rfl) (pe_op op_mod (pe_callTy q_intI (by rfl) m_int bb_int (pa_cons (pe_op op_add (pv 3 (hd := nd_k) (hcd := nc_k)) pe_int) pa_nil) (hn := nn_int) (hdb := nd_int)) (pv 4 (hd := nd_many) (hcd := nc_many))))
  (C8.pss_cut (ps_if (pt_cmpR op_eq (pv 2 (hd := nd_shape) (hcd := nc_shape)) pe_int (nomark _)) (pss_cons (ps_set (i := 5) sc__law_pair.nd rfl (Or.inl rfl) pe_int)
  (pss_one (ps_set (i := 6) sc__law_pair.nd rfl (Or.inl rfl) (pe_op op_add pe_int (pe_op op_mod (pe_callTy q_intI (by rfl) m_int bb_int (pa_cons (pv 3 (hd := nd_k) (hcd := nc_k)) pa_nil) (hn := nn_int) (hdb := nd_int)) (pe_op op_sub (pv 4 (hd := nd_many) (hcd := nc_many)) pe_int)))))) pss_nil)
  (C8.pss_cut (ps_if (pt_cmpR op_eq (pv 2 (hd := nd_shape) (hcd := nc_shape)) pe_int (nomark _)) (pss_cons (ps_set (i := 6) sc__law_pair.nd rfl (Or.inl rfl) (pe_op op_add pe_int (pe_op op_mod (pe_callTy q_intI (by rfl) m_int bb_int (pa_cons (pv 3 (hd := nd_k) (hcd := nc_k)) pa_nil) (hn := nn_int) (hdb := nd_int)) (pe_op op_sub (pv 4 (hd := nd_many) (hcd := nc_many)) pe_int))))
  (pss_one (ps_set (i := 5) sc__law_pair.nd rfl (Or.inl rfl) (pe_cal C__law_take hr (pa_cons (pv 0 (hd := nd_store) (hcd := nc_store)) (pa_cons (pv 6 (hd := nd_to) (hcd := nc_to)) pa_nil)) (hdb := nd__law_take))))) pss_nil)
  (C8.pss_cut (ps_if (PW.pt (pw_and (pt_cmpR op_eq (pv 2 (hd := nd_shape) (hcd := nc_shape)) pe_int (nomark _)) (pw_and1 (pt_cmpR op_eq (pe_op op_mod (pe_callTy q_intI (by rfl) m_int bb_int (pa_cons (pv 3 (hd := nd_k) (hcd := nc_k)) pa_nil) (hn := nn_int) (hdb := nd_int)) pe_int) pe_int (nomark _))))) (pss_cons (ps_set (i := 5) sc__law_pair.nd rfl (Or.inl rfl) (pe_op op_mod (pe_callTy q_intI (by rfl) m_int bb_int (pa_cons (pe_op op_fdivW (pv 3 (hd := nd_k) (hcd := nc_k)) pe_int) pa_nil) (hn := nn_int) (hdb := nd_int)) (pv 4 (hd := nd_many) (hcd := nc_many))))
  (pss_one (ps_set (i := 6) sc__law_pair.nd rfl (Or.inl rfl) (pe_op op_mod (pe_callTy q_intI (by rfl) m_int bb_int (pa_cons (pe_op op_add (pv 5 (hd := nd_at) (hcd := nc_at)) pe_int) pa_nil) (hn := nn_int) (hdb := nd_int)) (pv 4 (hd := nd_many) (hcd := nc_many)))))) pss_nil)
  (C8.pss_cut (ps_if (PW.pt (pw_and (pt_cmpR op_eq (pv 2 (hd := nd_shape) (hcd := nc_shape)) pe_int (nomark _)) (pw_and1 (pt_cmpR op_eq (pe_op op_mod (pe_callTy q_intI (by rfl) m_int bb_int (pa_cons (pv 3 (hd := nd_k) (hcd := nc_k)) pa_nil) (hn := nn_int) (hdb := nd_int)) pe_int) pe_int (nomark _))))) (pss_cons (ps_set (i := 5) sc__law_pair.nd rfl (Or.inl rfl) (pe_op op_mod (pe_callTy q_intI (by rfl) m_int bb_int (pa_cons (pe_op op_mul pe_int (pe_op op_fdivW (pv 3 (hd := nd_k) (hcd := nc_k)) pe_int)) pa_nil) (hn := nn_int) (hdb := nd_int)) (pv 4 (hd := nd_many) (hcd := nc_many))))
  (pss_one (ps_set (i := 6) sc__law_pair.nd rfl (Or.inl rfl) (pe_op op_mod (pe_callTy q_intI (by rfl) m_int bb_int (pa_cons (pe_op op_add (pv 5 (hd := nd_at) (hcd := nc_at)) pe_int) pa_nil) (hn := nn_int) (hdb := nd_int)) (pv 4 (hd := nd_many) (hcd := nc_many)))))) pss_nil)
  (C8.pss_cut (ps_if (pt_cmpR op_eq (pv 2 (hd := nd_shape) (hcd := nc_shape)) pe_int (nomark _)) (pss_cons (ps_set (i := 7) sc__law_pair.nd rfl (Or.inl rfl) (pe_op op_fdivW (pv 4 (hd := nd_many) (hcd := nc_many)) pe_int))
  (pss_cons (ps_set (i := 8) sc__law_pair.nd rfl (Or.inl rfl) (pe_op op_mul (pe_cal C__law_take hr (pa_cons (pv 0 (hd := nd_store) (hcd := nc_store)) (pa_cons pe_int pa_nil)) (hdb := nd__law_take)) (pv 7 (hd := nd_half) (hcd := nc_half))))
  (pss_cons (ps_set (i := 9) sc__law_pair.nd rfl (Or.inl rfl) (pe_op op_add (pv 7 (hd := nd_half) (hcd := nc_half)) (pe_op op_mul (pe_op op_sub (pv 4 (hd := nd_many) (hcd := nc_many)) (pe_op op_mul pe_int (pv 7 (hd := nd_half) (hcd := nc_half)))) (pe_callTy q_intB (by rfl) m_int bb_int (pa_cons (pe_cmpR op_gt (pv 8 (hd := nd_low) (hcd := nc_low)) pe_int (nomark _)) pa_nil) (hn := nn_int) (hdb := nd_int)))))
  (pss_cons (ps_set (i := 5) sc__law_pair.nd rfl (Or.inl rfl) (pe_op op_add (pv 8 (hd := nd_low) (hcd := nc_low)) (pe_cal C__law_take hr (pa_cons (pv 0 (hd := nd_store) (hcd := nc_store)) (pa_cons (pv 9 (hd := nd_size) (hcd := nc_size)) pa_nil)) (hdb := nd__law_take))))
  (pss_one (ps_set (i := 6) sc__law_pair.nd rfl (Or.inl rfl) (pe_op op_add (pv 8 (hd := nd_low) (hcd := nc_low)) (pe_cal C__law_take hr (pa_cons (pv 0 (hd := nd_store) (hcd := nc_store)) (pa_cons (pv 9 (hd := nd_size) (hcd := nc_size)) pa_nil)) (hdb := nd__law_take))))))))) pss_nil)
  (C8.pss_cut (ps_if (pt_cmpR op_eq (pv 2 (hd := nd_shape) (hcd := nc_shape)) pe_int (nomark _)) (pss_cons (ps_set (i := 5) sc__law_pair.nd rfl (Or.inl rfl) pe_int)
  (pss_one (ps_set (i := 6) sc__law_pair.nd rfl (Or.inl rfl) pe_int))) pss_nil)
  (C8.pss_cut (ps_if (PW.pt (pw_or (pt_cmpR op_eq (pv 2 (hd := nd_shape) (hcd := nc_shape)) pe_int (nomark _)) (pw_or1 (PW.pt (pw_and (pt_cmpR op_eq (pv 2 (hd := nd_shape) (hcd := nc_shape)) pe_int (nomark _)) (pw_and1 (pt_cmpR op_ge (pv 3 (hd := nd_k) (hcd := nc_k)) (pe_op op_sub (pv 4 (hd := nd_many) (hcd := nc_many)) pe_int) (nomark _)))))))) (pss_cons (ps_set (i := 5) sc__law_pair.nd rfl (Or.inl rfl) (pe_cal C__law_take hr (pa_cons (pv 0 (hd := nd_store) (hcd := nc_store)) (pa_cons (pv 4 (hd := nd_many) (hcd := nc_many)) pa_nil)) (hdb := nd__law_take)))
  (pss_one (ps_set (i := 6) sc__law_pair.nd rfl (Or.inl rfl) (pe_op op_mod (pe_callTy q_intI (by rfl) m_int bb_int (pa_cons (pe_op op_add (pe_op op_add (pv 5 (hd := nd_at) (hcd := nc_at)) pe_int) (pe_cal C__law_take hr (pa_cons (pv 0 (hd := nd_store) (hcd := nc_store)) (pa_cons (pe_op op_sub (pv 4 (hd := nd_many) (hcd := nc_many)) pe_int) pa_nil)) (hdb := nd__law_take))) pa_nil) (hn := nn_int) (hdb := nd_int)) (pv 4 (hd := nd_many) (hcd := nc_many)))))) pss_nil)
  (C8.pss_cut (ps_if (pt_cmpR op_eq (pv 5 (hd := nd_at) (hcd := nc_at)) (pv 6 (hd := nd_to) (hcd := nc_to)) (nomark _)) (pss_one (ps_set (i := 6) sc__law_pair.nd rfl (Or.inl rfl) (pe_op op_mod (pe_callTy q_intI (by rfl) m_int bb_int (pa_cons (pe_op op_add (pv 5 (hd := nd_at) (hcd := nc_at)) pe_int) pa_nil) (hn := nn_int) (hdb := nd_int)) (pv 4 (hd := nd_many) (hcd := nc_many))))) pss_nil)
  (pss_one (ps_ret (pe_tup (pa_cons (pe_callB (q_minZ rfl) (by rfl) m_min bb_min (pa_cons (pe_ix ix_list (pv 1 (hd := nd_houses) (hcd := nc_houses)) (pv 5 (hd := nd_at) (hcd := nc_at)) (fun _ _ => rfl)) (pa_cons (pe_ix ix_list (pv 1 (hd := nd_houses) (hcd := nc_houses)) (pv 6 (hd := nd_to) (hcd := nc_to)) (fun _ _ => rfl)) pa_nil)) (hn := nn_min) (hdb := nd_min)) (pa_cons (pe_callB (q_maxZ rfl) (by rfl) m_max bb_max (pa_cons (pe_ix ix_list (pv 1 (hd := nd_houses) (hcd := nc_houses)) (pv 5 (hd := nd_at) (hcd := nc_at)) (fun _ _ => rfl)) (pa_cons (pe_ix ix_list (pv 1 (hd := nd_houses) (hcd := nc_houses)) (pv 6 (hd := nd_to) (hcd := nc_to)) (fun _ _ => rfl)) pa_nil)) (hn := nn_max) (hdb := nd_max)) pa_nil))))))))))))))))), ?_⟩
  refine Rd.at0 (σ := [some (.ref st), some (.ref h), some (.int y), some (.int k), none, none, none, none, none, none]) rfl ?_
  have lm : (zs.map V.str).length = zs.length := List.length_map ..
  by_cases l2 : zs.length < 2
  · repeat' (walk_at "rd")
    all_goals first
    | exact qn l2
    | (exfalso; omega)
  repeat' (walk_at "rd")
  · exfalso
    omega
  generalize em : ((zs.map V.str).length : Int) = m at *
  have m2 : 2 ≤ m := by omega
  have m3 : m ≤ 1000 := by omega
  have A1 := mod_in (k := k) (m := m - 1) (by omega)
  have A2 : ∀ z : Int, 0 ≤ z % m ∧ z % m < m := fun z => mod_in (by omega)
  have gr := Go.refl hs
  refine Rd.cut (fun σ' G => ∃ (a t : Int) (v7 v8 v9 : Option V), σ' = [some (.ref st), some (.ref h), some (.int y), some (.int k), some (.int m), some (.int a), some (.int t), v7, v8, v9] ∧ 0 ≤ a ∧ a < m ∧ 0 ≤ t ∧ t < m ∧ Go st c H G) ?_ ?_
  · repeat' (walk_at "rd")
    · exact ⟨_, _, _, _, _, rfl, by omega, by omega, by omega, by omega, gr⟩
    · exact ⟨_, _, _, _, _, rfl, (A2 _).1, (A2 _).2, (A2 _).1, (A2 _).2, gr⟩
  rintro σ' G ⟨a, t, v7, v8, v9, rfl, a0, a1, t0, t1, g⟩
  refine Rd.cut (fun σ' G => ∃ (a t : Int) (v7 v8 v9 : Option V), σ' = [some (.ref st), some (.ref h), some (.int y), some (.int k), some (.int m), some (.int a), some (.int t), v7, v8, v9] ∧ 0 ≤ a ∧ a < m ∧ 0 ≤ t ∧ t < m ∧ Go st c H G) ?_ ?_
  · repeat' (walk_at "rd")
    · refine ⟨st, c, _, rfl, g.ok, by omega, fun r H1 r0 r1 g1 => ?_⟩
      repeat' (walk_at "rd")
      exact ⟨_, _, _, _, _, rfl, by omega, by omega, by omega, by omega, g.trans g1⟩
    · exact ⟨_, _, _, _, _, rfl, by omega, by omega, by omega, by omega, g⟩
  rintro σ' G ⟨a, t, v7, v8, v9, rfl, a0, a1, t0, t1, g⟩
  refine Rd.cut (fun σ' G => ∃ (a t : Int) (v7 v8 v9 : Option V), σ' = [some (.ref st), some (.ref h), some (.int y), some (.int k), some (.int m), some (.int a), some (.int t), v7, v8, v9] ∧ 0 ≤ a ∧ a < m ∧ 0 ≤ t ∧ t < m ∧ Go st c H G) ?_ ?_
  · repeat' (walk_at "rd")
    all_goals first
    | exact ⟨_, _, _, _, _, rfl, (A2 _).1, (A2 _).2, (A2 _).1, (A2 _).2, g⟩
    | exact ⟨_, _, _, _, _, rfl, by omega, by omega, by omega, by omega, g⟩
  rintro σ' G ⟨a, t, v7, v8, v9, rfl, a0, a1, t0, t1, g⟩
  refine Rd.cut (fun σ' G => ∃ (a t : Int) (v7 v8 v9 : Option V), σ' = [some (.ref st), some (.ref h), some (.int y), some (.int k), some (.int m), some (.int a), some (.int t), v7, v8, v9] ∧ 0 ≤ a ∧ a < m ∧ 0 ≤ t ∧ t < m ∧ Go st c H G) ?_ ?_
  · repeat' (walk_at "rd")
    all_goals first
    | exact ⟨_, _, _, _, _, rfl, (A2 _).1, (A2 _).2, (A2 _).1, (A2 _).2, g⟩
    | exact ⟨_, _, _, _, _, rfl, by omega, by omega, by omega, by omega, g⟩
  rintro σ' G ⟨a, t, v7, v8, v9, rfl, a0, a1, t0, t1, g⟩
  refine Rd.cut (fun σ' G => ∃ (a t : Int) (v7 v8 v9 : Option V), σ' = [some (.ref st), some (.ref h), some (.int y), some (.int k), some (.int m), some (.int a), some (.int t), v7, v8, v9] ∧ 0 ≤ a ∧ a < m ∧ 0 ≤ t ∧ t < m ∧ Go st c H G) ?_ ?_
  · repeat' (walk_at "rd")
    · refine ⟨st, c, _, rfl, g.ok, by omega, fun r H1 r0 r1 g1 => ?_⟩
      have ml : 1 ≤ m / 2 := by omega
      obtain rfl | rfl : r = 0 ∨ r = 1 := by omega
      · repeat' (walk_at "rd")
        have e5 : (m / 2 + (m - 2 * (m / 2)) * if decide ((0 : Int) < 0 * (m / 2)) = true then 1 else 0) = m / 2 := by
          rw [Int.zero_mul, if_neg (by decide), Int.mul_zero, Int.add_zero]
        rw [e5, Int.zero_mul]
        refine ⟨st, c, _, rfl, g1.ok, by omega, fun r2 H2 r20 r21 g2 => ?_⟩
        repeat' (walk_at "rd")
        refine ⟨st, c, _, rfl, g2.ok, by omega, fun r3 H3 r30 r31 g3 => ?_⟩
        repeat' (walk_at "rd")
        exact ⟨_, _, _, _, _, rfl, by omega, by omega, by omega, by omega, ((g.trans g1).trans g2).trans g3⟩
      · repeat' (walk_at "rd")
        have e5 : (m / 2 + (m - 2 * (m / 2)) * if decide ((0 : Int) < 1 * (m / 2)) = true then 1 else 0) = m - m / 2 := by
          rw [Int.one_mul, if_pos (decide_eq_true (by omega))]
          omega
        rw [e5, Int.one_mul]
        refine ⟨st, c, _, rfl, g1.ok, by omega, fun r2 H2 r20 r21 g2 => ?_⟩
        repeat' (walk_at "rd")
        refine ⟨st, c, _, rfl, g2.ok, by omega, fun r3 H3 r30 r31 g3 => ?_⟩
        repeat' (walk_at "rd")
        exact ⟨_, _, _, _, _, rfl, by omega, by omega, by omega, by omega, ((g.trans g1).trans g2).trans g3⟩
    · exact ⟨_, _, _, _, _, rfl, by omega, by omega, by omega, by omega, g⟩
  rintro σ' G ⟨a, t, v7, v8, v9, rfl, a0, a1, t0, t1, g⟩
  refine Rd.cut (fun σ' G => ∃ (a t : Int) (v7 v8 v9 : Option V), σ' = [some (.ref st), some (.ref h), some (.int y), some (.int k), some (.int m), some (.int a), some (.int t), v7, v8, v9] ∧ 0 ≤ a ∧ a < m ∧ 0 ≤ t ∧ t < m ∧ Go st c H G) ?_ ?_
  · repeat' (walk_at "rd")
    all_goals exact ⟨_, _, _, _, _, rfl, by omega, by omega, by omega, by omega, g⟩
  rintro σ' G ⟨a, t, v7, v8, v9, rfl, a0, a1, t0, t1, g⟩
  refine Rd.cut (fun σ' G => ∃ (a t : Int) (v7 v8 v9 : Option V), σ' = [some (.ref st), some (.ref h), some (.int y), some (.int k), some (.int m), some (.int a), some (.int t), v7, v8, v9] ∧ 0 ≤ a ∧ a < m ∧ 0 ≤ t ∧ t < m ∧ Go st c H G) ?_ ?_
  · repeat' (walk_at "rd")
    all_goals first
    | exact ⟨_, _, _, _, _, rfl, by omega, by omega, by omega, by omega, g⟩
    | skip
    all_goals
      refine ⟨st, c, _, rfl, g.ok, by omega, fun r2 H2 r20 r21 g2 => ?_⟩
      repeat' (walk_at "rd")
      refine ⟨st, c, _, rfl, g2.ok, by omega, fun r3 H3 r30 r31 g3 => ?_⟩
      repeat' (walk_at "rd")
      exact ⟨_, _, _, _, _, rfl, by omega, by omega, (A2 _).1, (A2 _).2, (g.trans g2).trans g3⟩
  rintro σ' G ⟨a, t, v7, v8, v9, rfl, a0, a1, t0, t1, g⟩
  refine Rd.cut (fun σ' G => ∃ (a t : Int) (v7 v8 v9 : Option V), σ' = [some (.ref st), some (.ref h), some (.int y), some (.int k), some (.int m), some (.int a), some (.int t), v7, v8, v9] ∧ 0 ≤ a ∧ a < m ∧ 0 ≤ t ∧ t < m ∧ a ≠ t ∧ Go st c H G) ?_ ?_
  · repeat' (walk_at "rd")
    · exact ⟨_, _, _, _, _, rfl, by omega, by omega, (A2 _).1, (A2 _).2, fun e => mod_next a0 a1 m2 e.symm, g⟩
    · exact ⟨_, _, _, _, _, rfl, by omega, by omega, by omega, by omega, by omega, g⟩
  rintro σ' G ⟨a, t, v7, v8, v9, rfl, a0, a1, t0, t1, ne, g⟩
  have eh' := g.keep _ _ hst eh
  obtain ⟨x, ex⟩ : ∃ x, zs[a.toNat]? = some x := ⟨_, List.getElem?_eq_getElem (by omega)⟩
  obtain ⟨z, ez⟩ : ∃ z, zs[t.toNat]? = some z := ⟨_, List.getElem?_eq_getElem (by omega)⟩
  have nxz : x ≠ z := fun e => by
    obtain ⟨l1, e1⟩ := List.getElem?_eq_some_iff.mp ex
    obtain ⟨l3, e3⟩ := List.getElem?_eq_some_iff.mp ez
    have := (List.getElem_inj nd).mp ((e1.trans e).trans e3.symm)
    omega
  have ex' : (zs.map V.str)[a.toNat]? = some (.str x) := by rw [List.getElem?_map, ex]; rfl
  have ez' : (zs.map V.str)[t.toNat]? = some (.str z) := by rw [List.getElem?_map, ez]; rfl
  have mx := List.mem_of_getElem? ex
  have mz := List.mem_of_getElem? ez
  repeat' (walk_at "rd")
  refine ixN' (.inl (.inl eh')) a0 ex' ?_
  repeat' (walk_at "rd")
  refine ixN' (.inl (.inl eh')) t0 ez' ?_
  repeat' (walk_at "rd")
  refine minZ ?_
  repeat' (walk_at "rd")
  refine ixN' (.inl (.inl eh')) a0 ex' ?_
  repeat' (walk_at "rd")
  refine ixN' (.inl (.inl eh')) t0 ez' ?_
  repeat' (walk_at "rd")
  refine maxZ ?_
  repeat' (walk_at "rd")
  rename_i l n G2 s2 e2
  by_cases c1 : cl z < cl x
  · rw [if_pos c1, if_neg (fun c2 => List.lt_irrefl _ (List.lt_trans c1 c2))] at e2
    exact q l z x G2 mz mx c1 (g.free n) (g.same s2) e2
  · have c2 : cl x < cl z := by
      by_cases c2 : cl x < cl z
      · exact c2
      · exact absurd (le_antisymm' c1 c2) nxz
    rw [if_neg c1, if_pos c2] at e2
    exact q l x z G2 mx mz c2 (g.free n) (g.same s2) e2
end
end Kj
namespace Kj
open PySem PySem.Spec PyProof.Rows L2 Rd
/-! ### the stepper -/
local macro_rules | `(tactic| walk_at "hp") => `(tactic| first
  | assumption
  | exact upd_same
  | (refine Eq.trans (upd_ne (by first | assumption | (apply Ne.symm; assumption))) ?_; walk_at "hp"))
local macro_rules | `(tactic| walk_at "sq") => `(tactic| first
  | assumption
  | (refine Or.inl (Or.inl ?_); walk_at "hp"))
local macro_rules | `(tactic| walk_at "st") => `(tactic| first
  | assumption
  | (refine Or.inl (Or.inl ?_); walk_at "hp"))
local macro_rules | `(tactic| walk_at "ar") => `(tactic| first
  | assumption
  | omega
  | decide)
local macro_rules | `(tactic| walk_at "ci") => `(tactic| first
  | (refine (show CMul _ _ from Or.inr ⟨?_, ?_⟩) <;> omega)
  | (refine (show CMul _ _ from Or.inl ⟨?_, ?_⟩) <;> omega)
  | (show CPow _ _; exact ⟨by decide, by decide, by decide⟩)
  | (refine wide_div (b := 63) ?_ ?_ (by decide) (by decide) <;> omega)
  | (show (0 : Int) < _; omega))
local macro_rules | `(tactic| walk_at "ty") => `(tactic| first
  | exact dp_ty (by assumption)
  | exact TyX.base (TyOf.int _)
  | exact TyX.base (TyOf.str _)
  | exact TyX.base (TyOf.bl _)
  | exact TyX.base TyOf.non
  | exact tyL' (by walk_at "sq")
  | exact tyT' (by walk_at "st"))
local macro_rules | `(tactic| walk_at "isi") => `(tactic| first
  | ((with_reducible apply Rd.isiF); (walk_at "ty"); (decide))
  | ((with_reducible apply Rd.isiT); (walk_at "ty"); (decide)))
local macro_rules | `(tactic| walk_at "rd") => `(tactic| first
  | with_reducible apply Rd.seq
  | ((with_reducible apply Rd.var); rfl)
  | with_reducible apply Rd.con
  | with_reducible apply Rd.op
  | with_reducible apply Rd.asg
  | ((with_reducible apply Rd.gname); ((dsimp only [List.set, L2.wipe, Int.reduceToNat]) <;> rfl))
  | with_reducible apply Rd.nxt
  | with_reducible apply Rd.ifs
  | with_reducible apply Rd.test
  | with_reducible apply Rd.testB
  | with_reducible apply Rd.exbl
  | with_reducible apply Rd.ret
  | with_reducible apply Rd.drop
  | with_reducible apply Rd.retN
  | with_reducible apply Rd.nil
  | with_reducible apply Rd.cons
  | with_reducible apply Rd.call
  | with_reducible apply Rd.cb
  | with_reducible apply Rd.and
  | with_reducible apply Rd.or
  | with_reducible apply Rd.not
  | with_reducible apply Rd.andV
  | with_reducible apply Rd.orV
  | with_reducible apply Rd.notV
  | with_reducible apply Rd.ife
  | with_reducible apply Rd.tup
  | with_reducible apply Rd.lst
  | with_reducible apply Rd.un
  | with_reducible apply Rd.chain
  | with_reducible apply Rd.brk
  | with_reducible apply Rd.cnt
  | with_reducible apply Rd.I0
  | with_reducible apply Rd.U1
  | ((with_reducible apply Rd.eq); rfl)
  | ((with_reducible apply Rd.ne); rfl)
  | ((with_reducible apply Rd.I1); (walk_at "ci"))
  | with_reducible apply Rd.lc0
  | with_reducible apply Rd.ln0
  | with_reducible apply Rd.exN
  | ((with_reducible apply Rd.iteSf); (decide +kernel))
  | ((with_reducible apply Rd.iteSt); (decide +kernel))
  | ((with_reducible apply Rd.niQ); (exact Or.inl (by walk_at "sq")); (exact ⟨rfl, rfl⟩); (rfl))
  | ((with_reducible apply Rd.inQ); (exact Or.inl (by walk_at "sq")); (exact ⟨rfl, rfl⟩); (rfl))
  | with_reducible apply Rd.rn1
  | with_reducible apply Rd.in1
  | with_reducible apply Rd.sn1
  | with_reducible apply Rd.bn1
  | with_reducible apply Rd.nn1
  | with_reducible apply Rd.rn2
  | with_reducible apply Rd.in2
  | with_reducible apply Rd.sn2
  | with_reducible apply Rd.bn2
  | with_reducible apply Rd.nn2
  | with_reducible apply Rd.nt1
  | with_reducible apply Rd.nf1
  | (with_reducible refine Rd.iteI (fun _ => ?_) (fun _ => ?_))
  | (with_reducible refine Rd.iteNI (fun _ => ?_) (fun _ => ?_))
  | (with_reducible refine iteT ?_)
  | (with_reducible refine iteF ?_)
  | (with_reducible refine Rd.iteD (fun _ => ?_) (fun _ => ?_))
  | (with_reducible refine Rd.iteN (fun _ => ?_) (fun _ => ?_))
  | with_reducible apply Rd.intI
  | with_reducible apply Rd.intB
  | with_reducible apply Rd.maxQ
  | with_reducible apply Rd.minQ
  | with_reducible apply Rd.absQ
  | with_reducible apply Rd.isN
  | with_reducible apply Rd.noN
  | with_reducible apply Rd.ltZ
  | with_reducible apply Rd.bm
  | with_reducible apply Rd.bm0
  | with_reducible apply Rd.par
  | with_reducible apply Rd.expar
  | with_reducible apply Rd.exint
  | with_reducible apply Rd.ipi
  | with_reducible apply Rd.slice
  | with_reducible apply Rd.noPart
  | with_reducible apply Rd.part
  | with_reducible apply Rd.gcons
  | with_reducible apply Rd.gnil
  | with_reducible apply Rd.iseq
  | with_reducible apply Rd.irng1
  | walk_at "isi"
  | with_reducible apply Rd.forX
  | with_reducible apply Rd.lstRev
  | with_reducible apply Rd.lstRg
  | with_reducible apply Rd.rg1
  | with_reducible apply Rd.rg2
  | with_reducible apply Rd.exint2
  | ((with_reducible apply Rd.exrev); (walk_at "sq"))
  | with_reducible apply Rd.lcX
  | with_reducible apply Rd.yes
  | ((with_reducible apply Rd.exrng1); (constructor <;> omega))
  | ((with_reducible apply Rd.exrng2); (refine ⟨?_, ?_, ?_, ?_⟩ <;> omega))
  | with_reducible apply Rd.irng2
  | ((with_reducible apply Rd.aug); rfl)
  | ((with_reducible apply Rd.exlst); (walk_at "sq"))
  | ((with_reducible apply Rd.gtup); (walk_at "st"); (rfl))
  | ((with_reducible apply Rd.tyL); (walk_at "hp"))
  | ((with_reducible apply Rd.ixL); (walk_at "sq"); (rfl))
  | ((with_reducible apply Rd.ixI); (walk_at "sq"); (omega); (first | assumption | (simp only [List.length_map]; omega)); (intro _ _))
  | (with_reducible refine Rd.gsub ?_)
  | ((with_reducible apply Rd.setL); (walk_at "hp"); (rfl); ((dsimp only [List.set, L2.wipe, Int.reduceToNat]) <;> rfl))
  | ((with_reducible apply Rd.lenQ); (first | exact Or.inl (by walk_at "sq") | exact Or.inr (by walk_at "st")))
  | ((with_reducible apply Rd.listQ); (first | exact Or.inl (by walk_at "sq") | exact Or.inr (by walk_at "st")))
  | ((with_reducible apply Rd.tupQ); (walk_at "sq"))
  | ((with_reducible apply Rd.slL); (walk_at "sq"))
  | ((with_reducible apply Rd.ixT); (walk_at "st"); (rfl))
  | (with_reducible refine Rd.iteB (fun _ => ?_) (fun _ => ?_))
  | (with_reducible refine Rd.iteNB (fun _ => ?_) (fun _ => ?_))
  | (refine Rd.andI (Nat.le_of_ble_eq_true rfl) ?_)
  | dsimp only [List.set])
local macro_rules | `(tactic| walk_at "hp") => `(tactic| first
  | assumption
  | exact upd_same
  | (refine Eq.trans (upd_ne (by first | assumption | (apply Ne.symm; assumption))) ?_; walk_at "hp")
  | (refine hpS (by assumption) ?_; walk_at "hp"))
local macro_rules | `(tactic| walk_at "al") => `(tactic| (with_reducible intro l hl; generalize hG : upd _ l _ = G; have hs := newOne hl hG; clear hG; obtain ⟨hs, he⟩ := hs))
local macro_rules | `(tactic| walk_at "rd") => `(tactic| first
  | walk_at "al"
  | ((with_reducible apply Rd.cat); (walk_at "hp"); (walk_at "hp"); (exact Nat.le_of_ble_eq_true rfl)))
local macro_rules | `(tactic| walk_at "sm") => `(tactic| first
  | assumption
  | exact Same.refl _
  | (refine Same.trans ?_ (by assumption); walk_at "sm"))
local macro_rules | `(tactic| walk_at "fr") => `(tactic| first
  | assumption
  | (refine Same.free (by assumption) ?_; walk_at "fr"))
local macro_rules | `(tactic| walk_at "ty") => `(tactic| first
  | exact dv_ty (by assumption)
  | exact tyD' (by walk_at "hp"))
local macro_rules | `(tactic| walk_at "sz") => `(tactic| first
  | exact sz5 (by omega)
  | (simp only [add_len, one_len]; exact sz5 (by omega)))
local macro_rules | `(tactic| walk_at "rd") => `(tactic| first
  | with_reducible apply Rd.istr
  | with_reducible apply Rd.exstr
  | with_reducible apply Rd.leA
  | with_reducible apply Rd.leZz
  | with_reducible apply Rd.le0
  | with_reducible apply Rd.le9
  | with_reducible apply Rd.niZ
  | ((with_reducible apply Rd.lenZ); (walk_at "sz"))
  | ((with_reducible apply Rd.slZ); (walk_at "sz"))
  | ((with_reducible apply Rd.addZ); (walk_at "sz"))
  | with_reducible apply Rd.raiseX
  | with_reducible apply Rd.exone
  | with_reducible apply Rd.callS
  | with_reducible apply Rd.callP
  | with_reducible apply Rd.xsX
  | with_reducible apply Rd.dnewX
  | with_reducible apply Rd.tyZ)
/-! ### drawn lines and webs -/
open Ty Ln
section
variable {P : Program} {w : World} {K : PySem.W.Frag} {mg : Str → Option Value} {base : Heap} {D : Str → Addr}
/-- a line's three words -/
def tr (t : Str × Str × Str) : List Str := [t.1, t.2.1, t.2.2]
/-- lines of the houses zs -/
structure LinesOk (zs : List Str) (ts : List (Str × Str × Str)) : Prop where
  nd : (ts.map (·.1)).Nodup
  nm : ∀ t ∈ ts, NmS t.1
  en : ∀ t ∈ ts, t.2.1 ∈ zs ∧ t.2.2 ∈ zs ∧ cl t.2.1 < cl t.2.2
theorem wvs_go {st c : Addr} {H H' : Hp} {vs : List V} {ks : List (List Str)} (h : WVs H vs ks) (o : StoreAt H st c) (g : Go st c H H') : WVs H' vs ks := h.all fun v k _ kv => by
  obtain ⟨ok, t, e, ht⟩ := kv
  refine ⟨ok, t, e, g.keep _ _ (fun z => ?_) ht⟩
  obtain ⟨ns, p, d, s, t', h1, _⟩ := o
  rw [z, h1] at ht
  cases ht
theorem wl_go {st c a : Addr} {H H' : Hp} {ks : List (List Str)} (h : WL H a ks) (o : StoreAt H st c) (g : Go st c H H') (n : a ≠ st) : WL H' a ks := by
  obtain ⟨vs, e, k⟩ := h
  exact ⟨vs, g.keep _ _ n e, wvs_go k o g⟩
theorem wvs_put {H : Hp} {a : Addr} {xs ys : List V} {vs : List V} {ks : List (List Str)} (e : H a = some (.lst xs)) (h : WVs H vs ks) : WVs (upd H a (.lst ys)) vs ks := h.all fun v k _ kv => by
  obtain ⟨ok, t, e', ht⟩ := kv
  exact ⟨ok, t, e', (upd_ne (fun z => by rw [z, e] at ht; cases ht)).trans ht⟩
/-- _law_lines(store, houses, most) -/
def spLines : Sp := fun vs H Q _ => ∃ (st c h : Addr) (zs : List Str) (m : Int), vs = [.ref st, .ref h, .int m] ∧ StoreAt H st c ∧ h ≠ st ∧ H h = some (.lst (zs.map V.str)) ∧ zs.length ≤ 1000 ∧ zs.Nodup ∧ (∀ z ∈ zs, NmS z) ∧ 0 ≤ m ∧ m ≤ 1000 ∧
  ∀ (L : Addr) (ts : List (Str × Str × Str)) (H' : Hp), (ts.length : Int) ≤ m → LinesOk zs ts → H L = none → Go st c H H' → WL H' L (ts.map tr) → Q (.ref L) H'
theorem ok__law_lines (F : Def K mg "_law_lines" s__law_lines P__law_lines) (m_len : mg "len" = none) (m_range : mg "range" = none) (C__law_take : Cal P w K mg base 1 "_law_take" P__law_take spTake) (C__law_between : Cal P w K mg base 2 "_law_between" P__law_between spBetween) (C__law_pair : Cal P w K mg base 2 "_law_pair" P__law_pair spPair) (C__law_line_names : Cal P w K mg base 4 "_law_line_names" P__law_line_names spLineNames) : Cal P w K mg base 5 "_law_lines" P__law_lines spLines := by
  refine F.ok sc__law_lines (fun vs H Q E h => ?_) (fun f cdv A outer s H vs Q E hr h => ?_)
  · obtain ⟨st, c, h, zs, m, rfl, _⟩ := h
    rfl
  obtain ⟨st, c, h, zs, m, rfl, hs, hst, eh, lz, ndz, mz, m0, m1, q⟩ := h
  refine ⟨_, (pss_cons (ps_if (pt_cmpR op_lt (pe_callB q_len (by rfl) m_len PySem.boot_len (pa_cons (pv 1 (hd := nd_houses) (hcd := nc_houses)) pa_nil) (hn := nn_len) (hdb := nd_len)) pe_int (nomark _)) (pss_one (ps_ret (pe_lst pa_nil))) pss_nil)
  (pss_cons (ps_set (i := 3) sc__law_lines.nd rfl (Or.inl rfl) (pe_cal C__law_between hr (pa_cons (pv 0 (hd := nd_store) (hcd := nc_store)) (pa_cons pe_int (pa_cons (pv 2 (hd := nd_most) (hcd := nc_most)) pa_nil))) (hdb := nd__law_between)))
  (pss_cons (ps_set (i := 4) sc__law_lines.nd rfl (Or.inl rfl) (pe_cal C__law_take hr (pa_cons (pv 0 (hd := nd_store) (hcd := nc_store)) (pa_cons pe_int pa_nil)) (hdb := nd__law_take)))
  (pss_cons (ps_set (i := 5) sc__law_lines.nd rfl (Or.inl rfl) (pe_cal C__law_line_names hr (pa_cons (pv 0 (hd := nd_store) (hcd := nc_store)) (pa_cons (pv 1 (hd := nd_houses) (hcd := nc_houses)) (pa_cons (pv 3 (hd := nd_many) (hcd := nc_many)) pa_nil))) (hdb := nd__law_line_names)))
  (pss_cons (ps_set (i := 6) sc__law_lines.nd rfl (Or.inl rfl) (pe_lst pa_nil))
  (pss_cons (ps_for PassesOwn.never rfl (pi_range1 (by rfl) m_range (pa_cons (pv 3 (hd := nd_many) (hcd := nc_many)) pa_nil)) (pg_name (i := 7) sc__law_lines.nd rfl (Or.inl rfl)) (pss_cons (ps_set (i := 8) sc__law_lines.nd rfl (Or.inl rfl) (pe_cal C__law_pair hr (pa_cons (pv 0 (hd := nd_store) (hcd := nc_store)) (pa_cons (pv 1 (hd := nd_houses) (hcd := nc_houses)) (pa_cons (pv 4 (hd := nd_shape) (hcd := nc_shape)) (pa_cons (pv 7 (hd := nd_k) (hcd := nc_k)) pa_nil)))) (hdb := nd__law_pair)))
  (pss_one (ps_expr (pe_bm PySem.F.plainAttrs_list PySem.F.slot_list_append PySem.F.type_list_append mt_append (pv 6 (hd := nd_lines) (hcd := nc_lines)) (pa_cons (pe_tup (pa_cons (pe_ix ix_list (pv 5 (hd := nd_names) (hcd := nc_names)) (pv 7 (hd := nd_k) (hcd := nc_k)) (fun _ _ => rfl)) (pa_cons (pe_ix ix_tup (pv 8 (hd := nd_pair) (hcd := nc_pair)) pe_int (fun _ _ => rfl)) (pa_cons (pe_ix ix_tup (pv 8 (hd := nd_pair) (hcd := nc_pair)) pe_int (fun _ _ => rfl)) pa_nil)))) pa_nil))))))
  (pss_one (ps_ret (pv 6 (hd := nd_lines) (hcd := nc_lines)))))))))), ?_⟩
  refine Rd.at0 (σ := [some (.ref st), some (.ref h), some (.int m), none, none, none, none, none, none]) rfl ?_
  have lm : (zs.map V.str).length = zs.length := List.length_map ..
  repeat' (walk_at "rd")
  · rename_i l p G s1 e1
    exact q l [] G (by simpa using m0) ⟨List.nodup_nil, (fun _ h => nomatch h), fun _ h => nomatch h⟩ p ((Go.refl hs).same s1) ⟨[], e1, trivial⟩
  refine ⟨st, c, 0, m, rfl, hs, by omega, fun mm H1 r0 r1 g1 => ?_⟩
  repeat' (walk_at "rd")
  refine ⟨st, c, 8, rfl, g1.ok, by decide, fun y H2 y0 y1 g2 => ?_⟩
  have g12 := g1.trans g2
  repeat' (walk_at "rd")
  refine ⟨st, c, h, zs, mm, rfl, g12.ok, hst, g12.keep _ _ hst eh, lz, ndz, mz, by omega, by omega, fun N ns H3 ln mn ndn fN g3 eN => ?_⟩
  have g13 := g12.trans g3
  have oN := g12.ok.off fN
  repeat' (walk_at "rd")
  rename_i L p G s4 e4
  have fL := g13.free p
  have oL := (Go.refl hs).ok.off fL
  have g14 := g13.same s4
  have eN4 := s4 _ _ eN
  have neNL : N ≠ L := fun z => by rw [← z, eN] at p; cases p
  refine forR (fun i σ H' => ∃ (vs : List V) (ts : List (Str × Str × Str)) (v7 v8 : Option V), σ = [some (.ref st), some (.ref h), some (.int m), some (.int mm), some (.int y), some (.ref N), some (.ref L), v7, v8] ∧ ts.map (·.1) = ns.take i ∧ (∀ t ∈ ts, t.2.1 ∈ zs ∧ t.2.2 ∈ zs ∧ cl t.2.1 < cl t.2.2) ∧ H' L = some (.lst vs) ∧ WVs H' vs (ts.map tr) ∧ Go st c H H' ∧ H' N = some (.lst (ns.map V.str)))
    ⟨[], [], none, none, rfl, rfl, (fun _ h => nomatch h), e4, trivial, g14, eN4⟩ ?_ ?_
  · rintro i σ H' hi ⟨vs, ts, v7, v8, rfl, hn, he, eL, wv, g', eN'⟩
    have e0 : (0 : Int) + (i : Int) = (i : Int) := by omega
    have lns : i < ns.length := by omega
    have lts : ts.length = i := by
      have := congrArg List.length hn
      rw [List.length_map, List.length_take] at this
      omega
    repeat' (walk_at "rd")
    rw [e0]
    refine ⟨st, c, h, zs, y, _, rfl, g'.ok, hst, g'.keep _ _ hst eh, lz, ndz, by omega, by omega, fun l2 => absurd l2 (by omega), fun p2 a b G2 ma mb lab fp g2 e2 => ?_⟩
    have eL2 := g2.keep _ _ oL.1 eL
    have eN2 := g2.keep _ _ (hs.off (g12.free fN)).1 eN'
    have wv2 := wvs_go wv g'.ok g2
    have en : (ns.map V.str)[((i : Nat) : Int).toNat]? = some (.str ns[i]) := by
      rw [List.getElem?_map, show ((i : Nat) : Int).toNat = i from rfl, List.getElem?_eq_getElem lns]
      rfl
    repeat' (walk_at "rd")
    refine ixN' (.inl (.inl eN2)) (by omega) en ?_
    repeat' (walk_at "rd")
    rename_i t n G3 s3 e3
    have eL3 := s3 _ _ eL2
    have lvs : vs.length = i := by rw [wv2.len, List.length_map, lts]
    refine append eL3 (by rw [lvs]; exact sz5' (by omega)) ?_
    repeat' (walk_at "rd")
    have net : L ≠ t := fun z => by rw [← z, eL2] at n; cases n
    refine ⟨vs ++ [.ref t], ts ++ [(ns[i], a, b)], _, _, rfl, ?_, fun u hu => ?_, upd_same, ?_, ((g'.trans g2).same s3).write fL oL _, (upd_ne neNL).trans (s3 _ _ eN2)⟩
    · rw [List.map_append, hn, List.take_add_one, List.getElem?_eq_getElem lns]
      rfl
    · rcases List.mem_append.mp hu with hu | hu
      · exact he u hu
      · rw [List.mem_singleton.mp hu]
        exact ⟨ma, mb, lab⟩
    · rw [List.map_append]
      refine wvs_put eL3 ((wv2.same s3).app ⟨⟨fun z hz => ?_, t, rfl, e3⟩, trivial⟩)
      have hz : z = ns[i] ∨ z = a ∨ z = b := by
        simpa [tr] using hz
      rcases hz with rfl | rfl | rfl
      · exact nm_ok (mn _ (List.getElem_mem lns))
      · exact nm_ok (mz _ ma)
      · exact nm_ok (mz _ mb)
  · rintro σ H' ⟨vs, ts, v7, v8, rfl, hn, he, eL, wv, g', eN'⟩
    repeat' (walk_at "rd")
    have hn : ts.map (·.1) = ns.take mm.toNat := hn
    have lts : ts.length ≤ ns.length := by
      have := congrArg List.length hn
      rw [List.length_map, List.length_take] at this
      omega
    refine q L ts H' (by omega) ⟨?_, fun t ht => ?_, he⟩ fL g' ⟨vs, eL, wv⟩
    · rw [hn]
      exact ndn.sublist (List.take_sublist _ _)
    · have : t.1 ∈ ts.map (·.1) := List.mem_map.mpr ⟨t, ht, rfl⟩
      rw [hn] at this
      exact mn _ (List.mem_of_mem_take this)
/-- _law_web(store, most) -/
def spWeb : Sp := fun vs H Q _ => ∃ (st c : Addr) (m : Int), vs = [.ref st, .int m] ∧ StoreAt H st c ∧ 2 ≤ m ∧ m ≤ 200 ∧
  ∀ (L h l : Addr) (zs : List Str) (ts : List (Str × Str × Str)) (H' : Hp), (zs.length : Int) ≤ m → zs.Nodup → (∀ z ∈ zs, NmS z) → ts.length ≤ 96 → LinesOk zs ts → H L = none → H h = none → H l = none → Go st c H H' → H' L = some (.lst [.ref h, .ref l]) → H' h = some (.lst (zs.map V.str)) → WL H' l (ts.map tr) → Q (.ref L) H'
theorem ok__law_web (F : Def K mg "_law_web" s__law_web P__law_web) (m_min : mg "min" = none) (C__law_take : Cal P w K mg base 1 "_law_take" P__law_take spTake) (C__law_houses : Cal P w K mg base 4 "_law_houses" P__law_houses spHouses) (C__law_lines : Cal P w K mg base 5 "_law_lines" P__law_lines spLines) : Cal P w K mg base 6 "_law_web" P__law_web spWeb := by
  refine F.ok sc__law_web (fun vs H Q E h => ?_) (fun f cdv A outer s H vs Q E hr h => ?_)
  · obtain ⟨st, c, m, rfl, _⟩ := h
    rfl
  obtain ⟨st, c, m, rfl, hs, m0, m1, q⟩ := h
  refine ⟨_, (pss_cons (ps_if (pt_cmpR op_eq (pe_cal C__law_take hr (pa_cons (pv 0 (hd := nd_store) (hcd := nc_store)) (pa_cons pe_int pa_nil)) (hdb := nd__law_take)) pe_int (nomark _)) (pss_cons (ps_set (i := 2) sc__law_web.nd rfl (Or.inl rfl) (pe_cal C__law_houses hr (pa_cons (pv 0 (hd := nd_store) (hcd := nc_store)) (pa_cons (pv 1 (hd := nd_most) (hcd := nc_most)) pa_nil)) (hdb := nd__law_houses)))
  (pss_one (ps_ret (pe_lst (pa_cons (pv 2 (hd := nd_houses) (hcd := nc_houses)) (pa_cons (pe_cal C__law_lines hr (pa_cons (pv 0 (hd := nd_store) (hcd := nc_store)) (pa_cons (pv 2 (hd := nd_houses) (hcd := nc_houses)) (pa_cons (pe_callB (q_min rfl) (by rfl) m_min bb_min (pa_cons pe_int (pa_cons (pe_op op_mul pe_int (pv 1 (hd := nd_most) (hcd := nc_most))) pa_nil)) (hn := nn_min) (hdb := nd_min)) pa_nil))) (hdb := nd__law_lines)) pa_nil)))))) pss_nil)
  (pss_cons (ps_set (i := 2) sc__law_web.nd rfl (Or.inl rfl) (pe_cal C__law_houses hr (pa_cons (pv 0 (hd := nd_store) (hcd := nc_store)) (pa_cons (pe_callB (q_min rfl) (by rfl) m_min bb_min (pa_cons pe_int (pa_cons (pv 1 (hd := nd_most) (hcd := nc_most)) pa_nil)) (hn := nn_min) (hdb := nd_min)) pa_nil)) (hdb := nd__law_houses)))
  (pss_one (ps_ret (pe_lst (pa_cons (pv 2 (hd := nd_houses) (hcd := nc_houses)) (pa_cons (pe_cal C__law_lines hr (pa_cons (pv 0 (hd := nd_store) (hcd := nc_store)) (pa_cons (pv 2 (hd := nd_houses) (hcd := nc_houses)) (pa_cons pe_int pa_nil))) (hdb := nd__law_lines)) pa_nil))))))), ?_⟩
  refine Rd.at0 (σ := [some (.ref st), some (.int m), none]) rfl ?_
  repeat' (walk_at "rd")
  refine ⟨st, c, 10, rfl, hs, by decide, fun r H1 r0 r1 g1 => ?_⟩
  repeat' (walk_at "rd")
  all_goals
    refine ⟨st, c, _, rfl, g1.ok, by omega, by omega, fun h zs H2 lz mz ndz fh g2 eh => ?_⟩
    have oh := g1.ok.off fh
    repeat' (walk_at "rd")
    refine ⟨st, c, h, zs, _, rfl, g2.ok, oh.1, eh, by omega, ndz, mz, by omega, by omega, fun l ts H3 lt ok fl g3 wl => ?_⟩
    have eh3 := g3.keep _ _ oh.1 eh
    repeat' (walk_at "rd")
    rename_i L n G s e
    exact q L h l zs ts G (by omega) ndz mz (by omega) ok (((g1.trans g2).trans g3).free n) (g1.free fh) ((g1.trans g2).free fl) (((g1.trans g2).trans g3).same s) e (s _ _ eh3) (wl.same s)
end
end Kj
namespace Kj
open PySem PySem.Spec PyProof.Rows L2 Rd
/-! ### the stepper -/
local macro_rules | `(tactic| walk_at "hp") => `(tactic| first
  | assumption
  | exact upd_same
  | (refine Eq.trans (upd_ne (by first | assumption | (apply Ne.symm; assumption))) ?_; walk_at "hp"))
local macro_rules | `(tactic| walk_at "sq") => `(tactic| first
  | assumption
  | (refine Or.inl (Or.inl ?_); walk_at "hp"))
local macro_rules | `(tactic| walk_at "st") => `(tactic| first
  | assumption
  | (refine Or.inl (Or.inl ?_); walk_at "hp"))
local macro_rules | `(tactic| walk_at "ar") => `(tactic| first
  | assumption
  | omega
  | decide)
local macro_rules | `(tactic| walk_at "ci") => `(tactic| first
  | (refine (show CMul _ _ from Or.inr ⟨?_, ?_⟩) <;> omega)
  | (refine (show CMul _ _ from Or.inl ⟨?_, ?_⟩) <;> omega)
  | (show CPow _ _; exact ⟨by decide, by decide, by decide⟩)
  | (refine wide_div (b := 63) ?_ ?_ (by decide) (by decide) <;> omega)
  | (show (0 : Int) < _; omega))
local macro_rules | `(tactic| walk_at "ty") => `(tactic| first
  | exact dp_ty (by assumption)
  | exact TyX.base (TyOf.int _)
  | exact TyX.base (TyOf.str _)
  | exact TyX.base (TyOf.bl _)
  | exact TyX.base TyOf.non
  | exact tyL' (by walk_at "sq")
  | exact tyT' (by walk_at "st"))
local macro_rules | `(tactic| walk_at "isi") => `(tactic| first
  | ((with_reducible apply Rd.isiF); (walk_at "ty"); (decide))
  | ((with_reducible apply Rd.isiT); (walk_at "ty"); (decide)))
local macro_rules | `(tactic| walk_at "rd") => `(tactic| first
  | with_reducible apply Rd.seq
  | ((with_reducible apply Rd.var); rfl)
  | with_reducible apply Rd.con
  | with_reducible apply Rd.op
  | with_reducible apply Rd.asg
  | ((with_reducible apply Rd.gname); ((dsimp only [List.set, L2.wipe, Int.reduceToNat]) <;> rfl))
  | with_reducible apply Rd.nxt
  | with_reducible apply Rd.ifs
  | with_reducible apply Rd.test
  | with_reducible apply Rd.testB
  | with_reducible apply Rd.exbl
  | with_reducible apply Rd.ret
  | with_reducible apply Rd.drop
  | with_reducible apply Rd.retN
  | with_reducible apply Rd.nil
  | with_reducible apply Rd.cons
  | with_reducible apply Rd.call
  | with_reducible apply Rd.cb
  | with_reducible apply Rd.and
  | with_reducible apply Rd.or
  | with_reducible apply Rd.not
  | with_reducible apply Rd.andV
  | with_reducible apply Rd.orV
  | with_reducible apply Rd.notV
  | with_reducible apply Rd.ife
  | with_reducible apply Rd.tup
  | with_reducible apply Rd.lst
  | with_reducible apply Rd.un
  | with_reducible apply Rd.chain
  | with_reducible apply Rd.brk
  | with_reducible apply Rd.cnt
  | with_reducible apply Rd.I0
  | with_reducible apply Rd.U1
  | ((with_reducible apply Rd.eq); rfl)
  | ((with_reducible apply Rd.ne); rfl)
  | ((with_reducible apply Rd.I1); (walk_at "ci"))
  | with_reducible apply Rd.lc0
  | with_reducible apply Rd.ln0
  | with_reducible apply Rd.exN
  | ((with_reducible apply Rd.iteSf); (decide +kernel))
  | ((with_reducible apply Rd.iteSt); (decide +kernel))
  | ((with_reducible apply Rd.niQ); (exact Or.inl (by walk_at "sq")); (exact ⟨rfl, rfl⟩); (rfl))
  | ((with_reducible apply Rd.inQ); (exact Or.inl (by walk_at "sq")); (exact ⟨rfl, rfl⟩); (rfl))
  | with_reducible apply Rd.rn1
  | with_reducible apply Rd.in1
  | with_reducible apply Rd.sn1
  | with_reducible apply Rd.bn1
  | with_reducible apply Rd.nn1
  | with_reducible apply Rd.rn2
  | with_reducible apply Rd.in2
  | with_reducible apply Rd.sn2
  | with_reducible apply Rd.bn2
  | with_reducible apply Rd.nn2
  | with_reducible apply Rd.nt1
  | with_reducible apply Rd.nf1
  | (with_reducible refine Rd.iteI (fun _ => ?_) (fun _ => ?_))
  | (with_reducible refine Rd.iteNI (fun _ => ?_) (fun _ => ?_))
  | (with_reducible refine iteT ?_)
  | (with_reducible refine iteF ?_)
  | (with_reducible refine Rd.iteD (fun _ => ?_) (fun _ => ?_))
  | (with_reducible refine Rd.iteN (fun _ => ?_) (fun _ => ?_))
  | with_reducible apply Rd.intI
  | with_reducible apply Rd.intB
  | with_reducible apply Rd.maxQ
  | with_reducible apply Rd.minQ
  | with_reducible apply Rd.absQ
  | with_reducible apply Rd.isN
  | with_reducible apply Rd.noN
  | with_reducible apply Rd.ltZ
  | with_reducible apply Rd.bm
  | with_reducible apply Rd.bm0
  | with_reducible apply Rd.par
  | with_reducible apply Rd.expar
  | with_reducible apply Rd.exint
  | with_reducible apply Rd.ipi
  | with_reducible apply Rd.slice
  | with_reducible apply Rd.noPart
  | with_reducible apply Rd.part
  | with_reducible apply Rd.gcons
  | with_reducible apply Rd.gnil
  | with_reducible apply Rd.iseq
  | with_reducible apply Rd.irng1
  | walk_at "isi"
  | with_reducible apply Rd.forX
  | with_reducible apply Rd.lstRev
  | with_reducible apply Rd.lstRg
  | with_reducible apply Rd.rg1
  | with_reducible apply Rd.rg2
  | with_reducible apply Rd.exint2
  | ((with_reducible apply Rd.exrev); (walk_at "sq"))
  | with_reducible apply Rd.lcX
  | with_reducible apply Rd.yes
  | ((with_reducible apply Rd.exrng1); (constructor <;> omega))
  | ((with_reducible apply Rd.exrng2); (refine ⟨?_, ?_, ?_, ?_⟩ <;> omega))
  | with_reducible apply Rd.irng2
  | ((with_reducible apply Rd.aug); rfl)
  | ((with_reducible apply Rd.exlst); (walk_at "sq"))
  | ((with_reducible apply Rd.gtup); (walk_at "st"); (rfl))
  | ((with_reducible apply Rd.tyL); (walk_at "hp"))
  | ((with_reducible apply Rd.ixL); (walk_at "sq"); (rfl))
  | ((with_reducible apply Rd.ixI); (walk_at "sq"); (omega); (first | assumption | (simp only [List.length_map]; omega)); (intro _ _))
  | (with_reducible refine Rd.gsub ?_)
  | ((with_reducible apply Rd.setL); (walk_at "hp"); (rfl); ((dsimp only [List.set, L2.wipe, Int.reduceToNat]) <;> rfl))
  | ((with_reducible apply Rd.lenQ); (first | exact Or.inl (by walk_at "sq") | exact Or.inr (by walk_at "st")))
  | ((with_reducible apply Rd.listQ); (first | exact Or.inl (by walk_at "sq") | exact Or.inr (by walk_at "st")))
  | ((with_reducible apply Rd.tupQ); (walk_at "sq"))
  | ((with_reducible apply Rd.slL); (walk_at "sq"))
  | ((with_reducible apply Rd.ixT); (walk_at "st"); (rfl))
  | (with_reducible refine Rd.iteB (fun _ => ?_) (fun _ => ?_))
  | (with_reducible refine Rd.iteNB (fun _ => ?_) (fun _ => ?_))
  | (refine Rd.andI (Nat.le_of_ble_eq_true rfl) ?_)
  | dsimp only [List.set])
local macro_rules | `(tactic| walk_at "hp") => `(tactic| first
  | assumption
  | exact upd_same
  | (refine Eq.trans (upd_ne (by first | assumption | (apply Ne.symm; assumption))) ?_; walk_at "hp")
  | (refine hpS (by assumption) ?_; walk_at "hp"))
local macro_rules | `(tactic| walk_at "al") => `(tactic| (with_reducible intro l hl; generalize hG : upd _ l _ = G; have hs := newOne hl hG; clear hG; obtain ⟨hs, he⟩ := hs))
local macro_rules | `(tactic| walk_at "rd") => `(tactic| first
  | walk_at "al"
  | ((with_reducible apply Rd.cat); (walk_at "hp"); (walk_at "hp"); (exact Nat.le_of_ble_eq_true rfl)))
local macro_rules | `(tactic| walk_at "sm") => `(tactic| first
  | assumption
  | exact Same.refl _
  | (refine Same.trans ?_ (by assumption); walk_at "sm"))
local macro_rules | `(tactic| walk_at "fr") => `(tactic| first
  | assumption
  | (refine Same.free (by assumption) ?_; walk_at "fr"))
local macro_rules | `(tactic| walk_at "ty") => `(tactic| first
  | exact dv_ty (by assumption)
  | exact tyD' (by walk_at "hp"))
/-! ### a text that is no name, of plain signs -/
open Ty Ln
section
variable {P : Program} {w : World} {K : PySem.W.Frag} {mg : Str → Option Value} {base : Heap} {D : Str → Addr}
/-- a text of at most n signs, all of them below 128 -/
def spTextA (n : Nat) : Sp := fun vs H Q _ => ∃ (st c : Addr), vs = [.ref st] ∧ StoreAt H st c ∧ ∀ (z : Str) (H' : Hp), z.length ≤ n → As z → Go st c H H' → Q (.str z) H'
abbrev Odd33 : Str := " !\"#$&'()*+,-./:;<=>?@ABCDEFGHIJKLMNOPQRSTUVWXYZ[\\]^_`{|}~\n"
theorem odd33 : Odd33.length = 59 ∧ True := by decide +kernel
theorem aOdd : As Odd33 := .lit (by decide +kernel)
theorem aNl : As "\n" := .lit (by decide +kernel)
theorem aDig : As "0123456789" := .lit (by decide +kernel)
theorem aEmp : As "" := .lit (by decide +kernel)
local macro_rules | `(tactic| walk_at "rd") => `(tactic| first
  | with_reducible apply Rd.istr
  | with_reducible apply Rd.exstr
  | with_reducible apply Rd.leZ)
local macro_rules | `(tactic| walk_at "sz") => `(tactic| first
  | exact sz5 (by omega)
  | (simp only [add_len, one_len]; exact sz5 (by omega)))
local macro_rules | `(tactic| walk_at "rd") => `(tactic| first
  | ((with_reducible apply Rd.lenZ); (walk_at "sz"))
  | ((with_reducible apply Rd.slZ); (walk_at "sz"))
  | ((with_reducible apply Rd.addZ); (walk_at "sz")))
theorem ok__law_bad_word (F : Def K mg "_law_bad_word" s__law_bad_word P__law_bad_word) (m_len : mg "len" = none) (C__law_take : Cal P w K mg base 1 "_law_take" P__law_take spTake) (C__law_between : Cal P w K mg base 2 "_law_between" P__law_between spBetween) (C__law_pick : Cal P w K mg base 2 "_law_pick" P__law_pick (spPick K)) (C__law_name : Cal P w K mg base 3 "_law_name" P__law_name spName) : Cal P w K mg base 4 "_law_bad_word" P__law_bad_word (spTextA 200) := by
  refine F.ok sc__law_bad_word (fun vs H Q E h => ?_) (fun f cdv A outer s H vs Q E hr h => ?_)
  · obtain ⟨st, c, rfl, _⟩ := h
    rfl
  obtain ⟨st, c, rfl, hs, q⟩ := h
  refine ⟨_, (pss_cons (ps_set (i := 1) sc__law_bad_word.nd rfl (Or.inl rfl) (pe_cal C__law_name hr (pa_cons (pv 0 (hd := nd_store) (hcd := nc_store)) pa_nil) (hdb := nd__law_name)))
  (pss_cons (ps_set (i := 2) sc__law_bad_word.nd rfl (Or.inl rfl) pe_str)
  (pss_cons (ps_set (i := 3) sc__law_bad_word.nd rfl (Or.inl rfl) (pe_cal C__law_take hr (pa_cons (pv 0 (hd := nd_store) (hcd := nc_store)) (pa_cons pe_int pa_nil)) (hdb := nd__law_take)))
  (pss_cons (ps_if (pt_cmpR op_eq (pv 3 (hd := nd_style) (hcd := nc_style)) pe_int (nomark _)) (pss_one (ps_ret pe_str)) pss_nil)
  (pss_cons (ps_if (pt_cmpR op_eq (pv 3 (hd := nd_style) (hcd := nc_style)) pe_int (nomark _)) (pss_one (ps_ret (pe_slice sl_str (pe_op op_rep_str (pv 1 (hd := nd_word) (hcd := nc_word)) pe_int) po_none (po_some pe_int)))) pss_nil)
  (pss_cons (ps_if (pt_cmpR op_eq (pv 3 (hd := nd_style) (hcd := nc_style)) pe_int (nomark _)) (pss_one (ps_ret (pe_op op_rep_str (pe_ix ix_str (pv 1 (hd := nd_word) (hcd := nc_word)) pe_int (fun _ _ => rfl)) (pe_cal C__law_between hr (pa_cons (pv 0 (hd := nd_store) (hcd := nc_store)) (pa_cons pe_int (pa_cons pe_int pa_nil))) (hdb := nd__law_between))))) pss_nil)
  (pss_cons (ps_if (pt_cmpR op_eq (pv 3 (hd := nd_style) (hcd := nc_style)) pe_int (nomark _)) (pss_one (ps_ret (pe_op o_addZ (pe_ix ix_str pe_str (pe_cal C__law_take hr (pa_cons (pv 0 (hd := nd_store) (hcd := nc_store)) (pa_cons pe_int pa_nil)) (hdb := nd__law_take)) (fun _ _ => rfl)) (pe_slice sl_str (pv 1 (hd := nd_word) (hcd := nc_word)) (po_some pe_int) po_none)))) pss_nil)
  (pss_cons (ps_if (pt_cmpR op_eq (pv 3 (hd := nd_style) (hcd := nc_style)) pe_int (nomark _)) (pss_one (ps_ret (pe_op o_addZ (pv 1 (hd := nd_word) (hcd := nc_word)) pe_str))) pss_nil)
  (pss_cons (ps_if (pt_cmpR op_eq (pv 3 (hd := nd_style) (hcd := nc_style)) pe_int (nomark _)) (pss_one (ps_ret (pe_bm0 PySem.F.plainAttrs_str PySem.F.slot_str_upper PySem.F.type_str_upper mt_upper (pv 1 (hd := nd_word) (hcd := nc_word))))) pss_nil)
  (pss_cons (ps_set (i := 4) sc__law_bad_word.nd rfl (Or.inl rfl) (pe_cal C__law_take hr (pa_cons (pv 0 (hd := nd_store) (hcd := nc_store)) (pa_cons (pe_op op_add (pe_callB q_lenZ (by rfl) m_len PySem.boot_len (pa_cons (pv 1 (hd := nd_word) (hcd := nc_word)) pa_nil) (hn := nn_len) (hdb := nd_len)) pe_int) pa_nil)) (hdb := nd__law_take)))
  (pss_cons (ps_if (pt_cmpR op_eq (pv 3 (hd := nd_style) (hcd := nc_style)) pe_int (nomark _)) (pss_one (ps_ret (pe_op o_addZ (pe_op o_addZ (pe_slice sl_str (pv 1 (hd := nd_word) (hcd := nc_word)) po_none (po_some (pv 4 (hd := nd_at) (hcd := nc_at)))) (pe_cal C__law_pick hr (pa_cons (pv 0 (hd := nd_store) (hcd := nc_store)) (pa_cons (pv 2 (hd := nd_odd) (hcd := nc_odd)) pa_nil)) (hdb := nd__law_pick))) (pe_slice sl_str (pv 1 (hd := nd_word) (hcd := nc_word)) (po_some (pv 4 (hd := nd_at) (hcd := nc_at))) po_none)))) pss_nil)
  (pss_one (ps_ret (pe_op o_addZ (pe_op o_addZ (pe_slice sl_str (pv 1 (hd := nd_word) (hcd := nc_word)) po_none (po_some (pv 4 (hd := nd_at) (hcd := nc_at)))) (pe_cal C__law_pick hr (pa_cons (pv 0 (hd := nd_store) (hcd := nc_store)) (pa_cons (pv 2 (hd := nd_odd) (hcd := nc_odd)) pa_nil)) (hdb := nd__law_pick))) (pe_slice sl_str (pv 1 (hd := nd_word) (hcd := nc_word)) (po_some (pe_op op_add (pv 4 (hd := nd_at) (hcd := nc_at)) pe_int)) po_none))))))))))))))), ?_⟩
  refine Rd.at0 (σ := [some (.ref st), none, none, none, none]) rfl ?_
  repeat' (walk_at "rd")
  refine ⟨st, c, rfl, hs, fun z H1 nz lz g1 => ?_⟩
  have az : As z := .nm nz
  have l0 : 1 ≤ z.length := by
    obtain ⟨x, r, e, _⟩ := nz
    rw [← cl_len, e]
    exact Nat.le_add_left _ _
  have e1 : ("\n" : Str).length = 1 := by decide +kernel
  have e10 : ("0123456789" : Str).length = 10 := by decide +kernel
  have eo := odd33.1
  have c2 := fun a b => cutL z a b lz
  repeat' (walk_at "rd")
  refine ⟨st, c, 8, rfl, g1.ok, by decide, fun r H2 r0 r1 g2 => ?_⟩
  have g12 := g1.trans g2
  repeat' (walk_at "rd")
  · exact q _ _ (by decide) aEmp g12
  · refine repZ (by omega) ?_
    have m := mulL (k := 12) (m := 13) lz (show (13 : Int) ≤ ((13 : Nat) : Int) by decide)
    repeat' (walk_at "rd")
    exact q _ _ (cutL _ _ _ (by omega)) ((az.mul _).cut _ _) g12
  · refine sign (by omega) (by decide) (by omega) fun x _ hx => ?_
    repeat' (walk_at "rd")
    refine ⟨st, c, 13, 40, rfl, g2.ok, by decide, fun k H3 k0 k1 g3 => ?_⟩
    refine repZ (by rw [one_len]; omega) ?_
    exact q _ _ (Nat.le_trans (mulL (k := 1) (m := 40) (by rw [one_len]; decide) (show k ≤ ((40 : Nat) : Int) by omega)) (by decide)) ((az.one hx).mul _) (g12.trans g3)
  · refine ⟨st, c, 10, rfl, g2.ok, by decide, fun k H3 k0 k1 g3 => ?_⟩
    refine sign (z := "0123456789") (by omega) k0 (by omega) fun x _ hx => ?_
    have := c2 (some 1) none
    repeat' (walk_at "rd")
    exact q _ _ (by rw [add_len, one_len]; omega) ((aDig.one hx).add (az.cut _ _)) (g12.trans g3)
  · exact q _ _ (by rw [add_len, e1]; omega) (az.add aNl) g12
  · refine ⟨rfl, z, rfl, rfl, by omega, ?_⟩
    exact q _ _ (by rw [upL (nm_128 nz)]; omega) az.up g12
  all_goals
    refine ⟨st, c, _, rfl, g2.ok, by omega, fun a H3 a0 a1 g3 => ?_⟩
    have := c2 none (some a)
    have := c2 (some a) none
    have := c2 (some (a + 1)) none
    repeat' (walk_at "rd")
    all_goals
      refine .inl ⟨st, c, Odd33, rfl, g3.ok, by omega, by omega, fun x H4 hx g4 => ?_⟩
      repeat' (walk_at "rd")
      exact q _ _ (by rw [add_len, add_len, one_len]; omega) (((az.cut _ _).add (aOdd.one hx)).add (az.cut _ _)) ((g12.trans g3).trans g4)
end
end Kj
namespace Kj
open PySem PySem.Spec PyProof.Rows L2 Rd
/-! ### the stepper -/
local macro_rules | `(tactic| walk_at "hp") => `(tactic| first
  | assumption
  | exact upd_same
  | (refine Eq.trans (upd_ne (by first | assumption | (apply Ne.symm; assumption))) ?_; walk_at "hp"))
local macro_rules | `(tactic| walk_at "sq") => `(tactic| first
  | assumption
  | (refine Or.inl (Or.inl ?_); walk_at "hp"))
local macro_rules | `(tactic| walk_at "st") => `(tactic| first
  | assumption
  | (refine Or.inl (Or.inl ?_); walk_at "hp"))
local macro_rules | `(tactic| walk_at "ar") => `(tactic| first
  | assumption
  | omega
  | decide)
local macro_rules | `(tactic| walk_at "ci") => `(tactic| first
  | (refine (show CMul _ _ from Or.inr ⟨?_, ?_⟩) <;> omega)
  | (refine (show CMul _ _ from Or.inl ⟨?_, ?_⟩) <;> omega)
  | (show CPow _ _; exact ⟨by decide, by decide, by decide⟩)
  | (refine wide_div (b := 63) ?_ ?_ (by decide) (by decide) <;> omega)
  | (show (0 : Int) < _; omega))
local macro_rules | `(tactic| walk_at "ty") => `(tactic| first
  | exact dp_ty (by assumption)
  | exact TyX.base (TyOf.int _)
  | exact TyX.base (TyOf.str _)
  | exact TyX.base (TyOf.bl _)
  | exact TyX.base TyOf.non
  | exact tyL' (by walk_at "sq")
  | exact tyT' (by walk_at "st"))
local macro_rules | `(tactic| walk_at "isi") => `(tactic| first
  | ((with_reducible apply Rd.isiF); (walk_at "ty"); (decide))
  | ((with_reducible apply Rd.isiT); (walk_at "ty"); (decide)))
local macro_rules | `(tactic| walk_at "rd") => `(tactic| first
  | with_reducible apply Rd.seq
  | ((with_reducible apply Rd.var); rfl)
  | with_reducible apply Rd.con
  | with_reducible apply Rd.op
  | with_reducible apply Rd.asg
  | ((with_reducible apply Rd.gname); ((dsimp only [List.set, L2.wipe, Int.reduceToNat]) <;> rfl))
  | with_reducible apply Rd.nxt
  | with_reducible apply Rd.ifs
  | with_reducible apply Rd.test
  | with_reducible apply Rd.testB
  | with_reducible apply Rd.exbl
  | with_reducible apply Rd.ret
  | with_reducible apply Rd.drop
  | with_reducible apply Rd.retN
  | with_reducible apply Rd.nil
  | with_reducible apply Rd.cons
  | with_reducible apply Rd.call
  | with_reducible apply Rd.cb
  | with_reducible apply Rd.and
  | with_reducible apply Rd.or
  | with_reducible apply Rd.not
  | with_reducible apply Rd.andV
  | with_reducible apply Rd.orV
  | with_reducible apply Rd.notV
  | with_reducible apply Rd.ife
  | with_reducible apply Rd.tup
  | with_reducible apply Rd.lst
  | with_reducible apply Rd.un
  | with_reducible apply Rd.chain
  | with_reducible apply Rd.brk
  | with_reducible apply Rd.cnt
  | with_reducible apply Rd.I0
  | with_reducible apply Rd.U1
  | ((with_reducible apply Rd.eq); rfl)
  | ((with_reducible apply Rd.ne); rfl)
  | ((with_reducible apply Rd.I1); (walk_at "ci"))
  | with_reducible apply Rd.lc0
  | with_reducible apply Rd.ln0
  | with_reducible apply Rd.exN
  | ((with_reducible apply Rd.iteSf); (decide +kernel))
  | ((with_reducible apply Rd.iteSt); (decide +kernel))
  | ((with_reducible apply Rd.niQ); (exact Or.inl (by walk_at "sq")); (exact ⟨rfl, rfl⟩); (rfl))
  | ((with_reducible apply Rd.inQ); (exact Or.inl (by walk_at "sq")); (exact ⟨rfl, rfl⟩); (rfl))
  | with_reducible apply Rd.rn1
  | with_reducible apply Rd.in1
  | with_reducible apply Rd.sn1
  | with_reducible apply Rd.bn1
  | with_reducible apply Rd.nn1
  | with_reducible apply Rd.rn2
  | with_reducible apply Rd.in2
  | with_reducible apply Rd.sn2
  | with_reducible apply Rd.bn2
  | with_reducible apply Rd.nn2
  | with_reducible apply Rd.nt1
  | with_reducible apply Rd.nf1
  | (with_reducible refine Rd.iteI (fun _ => ?_) (fun _ => ?_))
  | (with_reducible refine Rd.iteNI (fun _ => ?_) (fun _ => ?_))
  | (with_reducible refine iteT ?_)
  | (with_reducible refine iteF ?_)
  | (with_reducible refine Rd.iteD (fun _ => ?_) (fun _ => ?_))
  | (with_reducible refine Rd.iteN (fun _ => ?_) (fun _ => ?_))
  | with_reducible apply Rd.intI
  | with_reducible apply Rd.intB
  | with_reducible apply Rd.maxQ
  | with_reducible apply Rd.minQ
  | with_reducible apply Rd.absQ
  | with_reducible apply Rd.isN
  | with_reducible apply Rd.noN
  | with_reducible apply Rd.ltZ
  | with_reducible apply Rd.bm
  | with_reducible apply Rd.bm0
  | with_reducible apply Rd.par
  | with_reducible apply Rd.expar
  | with_reducible apply Rd.exint
  | with_reducible apply Rd.ipi
  | with_reducible apply Rd.slice
  | with_reducible apply Rd.noPart
  | with_reducible apply Rd.part
  | with_reducible apply Rd.gcons
  | with_reducible apply Rd.gnil
  | with_reducible apply Rd.iseq
  | with_reducible apply Rd.irng1
  | walk_at "isi"
  | with_reducible apply Rd.forX
  | with_reducible apply Rd.lstRev
  | with_reducible apply Rd.lstRg
  | with_reducible apply Rd.rg1
  | with_reducible apply Rd.rg2
  | with_reducible apply Rd.exint2
  | ((with_reducible apply Rd.exrev); (walk_at "sq"))
  | with_reducible apply Rd.lcX
  | with_reducible apply Rd.yes
  | ((with_reducible apply Rd.exrng1); (constructor <;> omega))
  | ((with_reducible apply Rd.exrng2); (refine ⟨?_, ?_, ?_, ?_⟩ <;> omega))
  | with_reducible apply Rd.irng2
  | ((with_reducible apply Rd.aug); rfl)
  | ((with_reducible apply Rd.exlst); (walk_at "sq"))
  | ((with_reducible apply Rd.gtup); (walk_at "st"); (rfl))
  | ((with_reducible apply Rd.tyL); (walk_at "hp"))
  | ((with_reducible apply Rd.ixL); (walk_at "sq"); (rfl))
  | ((with_reducible apply Rd.ixI); (walk_at "sq"); (omega); (first | assumption | (simp only [List.length_map]; omega)); (intro _ _))
  | (with_reducible refine Rd.gsub ?_)
  | ((with_reducible apply Rd.setL); (walk_at "hp"); (rfl); ((dsimp only [List.set, L2.wipe, Int.reduceToNat]) <;> rfl))
  | ((with_reducible apply Rd.lenQ); (first | exact Or.inl (by walk_at "sq") | exact Or.inr (by walk_at "st")))
  | ((with_reducible apply Rd.listQ); (first | exact Or.inl (by walk_at "sq") | exact Or.inr (by walk_at "st")))
  | ((with_reducible apply Rd.tupQ); (walk_at "sq"))
  | ((with_reducible apply Rd.slL); (walk_at "sq"))
  | ((with_reducible apply Rd.ixT); (walk_at "st"); (rfl))
  | (with_reducible refine Rd.iteB (fun _ => ?_) (fun _ => ?_))
  | (with_reducible refine Rd.iteNB (fun _ => ?_) (fun _ => ?_))
  | (refine Rd.andI (Nat.le_of_ble_eq_true rfl) ?_)
  | dsimp only [List.set])
local macro_rules | `(tactic| walk_at "hp") => `(tactic| first
  | assumption
  | exact upd_same
  | (refine Eq.trans (upd_ne (by first | assumption | (apply Ne.symm; assumption))) ?_; walk_at "hp")
  | (refine hpS (by assumption) ?_; walk_at "hp"))
local macro_rules | `(tactic| walk_at "al") => `(tactic| (with_reducible intro l hl; generalize hG : upd _ l _ = G; have hs := newOne hl hG; clear hG; obtain ⟨hs, he⟩ := hs))
local macro_rules | `(tactic| walk_at "rd") => `(tactic| first
  | walk_at "al"
  | ((with_reducible apply Rd.cat); (walk_at "hp"); (walk_at "hp"); (exact Nat.le_of_ble_eq_true rfl)))
local macro_rules | `(tactic| walk_at "sm") => `(tactic| first
  | assumption
  | exact Same.refl _
  | (refine Same.trans ?_ (by assumption); walk_at "sm"))
local macro_rules | `(tactic| walk_at "fr") => `(tactic| first
  | assumption
  | (refine Same.free (by assumption) ?_; walk_at "fr"))
local macro_rules | `(tactic| walk_at "ty") => `(tactic| first
  | exact dv_ty (by assumption)
  | exact tyD' (by walk_at "hp"))
local macro_rules | `(tactic| walk_at "sz") => `(tactic| first
  | exact sz5 (by omega)
  | (simp only [add_len, one_len]; exact sz5 (by omega)))
local macro_rules | `(tactic| walk_at "rd") => `(tactic| first
  | with_reducible apply Rd.istr
  | with_reducible apply Rd.exstr
  | with_reducible apply Rd.leA
  | with_reducible apply Rd.leZz
  | with_reducible apply Rd.le0
  | with_reducible apply Rd.le9
  | with_reducible apply Rd.niZ
  | ((with_reducible apply Rd.lenZ); (walk_at "sz"))
  | ((with_reducible apply Rd.slZ); (walk_at "sz"))
  | ((with_reducible apply Rd.addZ); (walk_at "sz"))
  | with_reducible apply Rd.raiseX
  | with_reducible apply Rd.exone
  | with_reducible apply Rd.callS
  | with_reducible apply Rd.callP
  | with_reducible apply Rd.xsX
  | with_reducible apply Rd.dnewX
  | with_reducible apply Rd.tyZ)
section
variable {P : Program} {w : World} {K : PySem.W.Frag} {mg : Str → Option Value} {base : Heap}
/-- _law_is_integer(v) of a value of plain data -/
def isI : PyData → Bool
  | .int _ => true
  | _ => false
def spIsInt (K : PySem.W.Frag) : Sp := fun vs H Q _ => ∃ (x : V) (d : PyData), vs = [x] ∧ Dv K H x d ∧ Q (.bl (isI d)) H
theorem ok__law_is_integer (F : Def K mg "_law_is_integer" s__law_is_integer P__law_is_integer) (m_isinstance : mg "isinstance" = none) (m_int : mg "int" = none) (m_bool : mg "bool" = none) : Cal P w K mg base 1 "_law_is_integer" P__law_is_integer (spIsInt K) := by
  refine F.ok sc__law_is_integer (fun vs H Q E h => ?_) (fun f cdv A outer s H vs Q E hr h => ?_)
  · obtain ⟨x, d, rfl, _⟩ := h
    rfl
  obtain ⟨x, d, rfl, hx, q⟩ := h
  refine ⟨_, (pss_one (ps_ret (pe_and (pe_callB call_isi (by rfl) m_isinstance bb_isinstance (pa_cons (pv 0 (hd := nd_value) (hcd := nc_value)) (pa_cons (pe_bltn (v := .ty "int") (u := .type "int") (by rfl) m_int bb_int rfl (hn := nn_int) (hd := nd_int)) pa_nil)) (hn := nn_isinstance) (hdb := nd_isinstance)) (pe_one (pe_not (pe_callB call_isi (by rfl) m_isinstance bb_isinstance (pa_cons (pv 0 (hd := nd_value) (hcd := nc_value)) (pa_cons (pe_bltn (v := .ty "bool") (u := .type "bool") (by rfl) m_bool bb_bool rfl (hn := nn_bool) (hd := nd_bool)) pa_nil)) (hn := nn_isinstance) (hdb := nd_isinstance))))))), ?_⟩
  refine Rd.at0 (σ := [some x]) rfl ?_
  cases hx
  all_goals
    repeat' (walk_at "rd")
    exact q
end
/-! ### the law's own sameness, dicts of at most one entry within -/
section
variable {P : Program} {w : World} {K : PySem.W.Frag} {mg : Str → Option Value} {base : Heap}
/-- _law_same(one, two) of two values that hold the same data: True -/
def spSame (K : PySem.W.Frag) (n : Nat) : Sp := fun vs H Q _ => ∃ (x y : V) (d : PyData) (m : Nat), n = m + 1 ∧ vs = [x, y] ∧ Dv K H x d ∧ Dv K H y d ∧ Fd m d ∧ ∀ H', Same H H' → Q (.bl true) H'
theorem same_turn {K : PySem.W.Frag} {n : Nat} {H : Hp} {xs ys : List V} {ds : List PyData} {i : Nat} (h1 : DvAll K H xs ds) (h2 : DvAll K H ys ds) (hf : ∀ d ∈ ds, Fd n d) (hi : i < xs.length) :
    ∃ (x y : V) (d : PyData), xs[(0 + (i : Int)).toNat]? = some x ∧ ys[(0 + (i : Int)).toNat]? = some y ∧ Dv K H x d ∧ Dv K H y d ∧ Fd n d := by
  rw [show (0 + (i : Int)).toNat = i by omega]
  have hl : i < ds.length := by rw [← va_len h1]; exact hi
  have e := List.getElem?_eq_getElem hl
  obtain ⟨x, ex, dx⟩ := va_at _ _ _ _ h1 e
  obtain ⟨y, ey, dy⟩ := va_at _ _ _ _ h2 e
  exact ⟨x, y, _, ex, ey, dx, dy, hf _ (List.getElem_mem hl)⟩
local macro_rules | `(tactic| walk_at "rd") => `(tactic| first
  | ((with_reducible apply Rd.lenAs); (first | exact Or.inl (by walk_at "sq") | exact Or.inr (by walk_at "st")))
  | ((with_reducible apply Rd.lenAd); (walk_at "hp"))
  | ((with_reducible apply Rd.listDk); (walk_at "hp"); (rfl))
  | with_reducible apply Rd.din
  | with_reducible apply Rd.dget
  | with_reducible apply Rd.someF)
set_option maxHeartbeats 4000000 in
theorem ok_same1 {n : Nat} (F : Def K mg "_law_same" s__law_same P__law_same) (m_isinstance : mg "isinstance" = none) (m_bool : mg "bool" = none) (m_int : mg "int" = none) (m_str : mg "str" = none) (m_dict : mg "dict" = none) (m_len : mg "len" = none) (m_list : mg "list" = none) (m_tuple : mg "tuple" = none) (m_range : mg "range" = none) (C__law_is_integer : Cal P w K mg base 1 "_law_is_integer" P__law_is_integer (spIsInt K)) (C__law_same : Cal P w K mg base (n + 1) "_law_same" P__law_same (spSame K n)) : Cal P w K mg base (n + 2) "_law_same" P__law_same (spSame K (n + 1)) := by
  refine F.ok sc__law_same (fun vs H Q E h => ?_) (fun f cdv A outer s H vs Q E hr h => ?_)
  · obtain ⟨x, y, d, m, _, rfl, _⟩ := h
    rfl
  obtain ⟨x, y, d, m, hn, rfl, hx, hy, hf, q⟩ := h
  obtain rfl : n = m := by omega
  have q0 := q H (.refl H)
  refine ⟨_, (pss_cons (ps_if (PW.pt (pw_or (pt_cmpR o_isN (pv 0 (hd := nd_one) (hcd := nc_one)) pe_non (nomark _)) (pw_or1 (pt_cmpR o_isN (pv 1 (hd := nd_two) (hcd := nc_two)) pe_non (nomark _))))) (pss_one (ps_ret (pe_and (pe_cmpR o_isN (pv 0 (hd := nd_one) (hcd := nc_one)) pe_non (nomark _)) (pe_one (pe_cmpR o_isN (pv 1 (hd := nd_two) (hcd := nc_two)) pe_non (nomark _)))))) pss_nil)
  (pss_cons (ps_if (PW.pt (pw_or (pt_val (pe_callB call_isi (by rfl) m_isinstance bb_isinstance (pa_cons (pv 0 (hd := nd_one) (hcd := nc_one)) (pa_cons (pe_bltn (v := .ty "bool") (u := .type "bool") (by rfl) m_bool bb_bool rfl (hn := nn_bool) (hd := nd_bool)) pa_nil)) (hn := nn_isinstance) (hdb := nd_isinstance))) (pw_or1 (pt_val (pe_callB call_isi (by rfl) m_isinstance bb_isinstance (pa_cons (pv 1 (hd := nd_two) (hcd := nc_two)) (pa_cons (pe_bltn (v := .ty "bool") (u := .type "bool") (by rfl) m_bool bb_bool rfl (hn := nn_bool) (hd := nd_bool)) pa_nil)) (hn := nn_isinstance) (hdb := nd_isinstance)))))) (pss_one (ps_ret (pe_and (pe_callB call_isi (by rfl) m_isinstance bb_isinstance (pa_cons (pv 0 (hd := nd_one) (hcd := nc_one)) (pa_cons (pe_bltn (v := .ty "bool") (u := .type "bool") (by rfl) m_bool bb_bool rfl (hn := nn_bool) (hd := nd_bool)) pa_nil)) (hn := nn_isinstance) (hdb := nd_isinstance)) (pe_and (pe_callB call_isi (by rfl) m_isinstance bb_isinstance (pa_cons (pv 1 (hd := nd_two) (hcd := nc_two)) (pa_cons (pe_bltn (v := .ty "bool") (u := .type "bool") (by rfl) m_bool bb_bool rfl (hn := nn_bool) (hd := nd_bool)) pa_nil)) (hn := nn_isinstance) (hdb := nd_isinstance)) (pe_one (pe_cmpR op_eq (pv 0) (pv 1) (nomark _))))))) pss_nil)
  (pss_cons (ps_if (PW.pt (pw_or (pt_val (pe_callB call_isi (by rfl) m_isinstance bb_isinstance (pa_cons (pv 0 (hd := nd_one) (hcd := nc_one)) (pa_cons (pe_bltn (v := .ty "int") (u := .type "int") (by rfl) m_int bb_int rfl (hn := nn_int) (hd := nd_int)) pa_nil)) (hn := nn_isinstance) (hdb := nd_isinstance))) (pw_or1 (pt_val (pe_callB call_isi (by rfl) m_isinstance bb_isinstance (pa_cons (pv 1 (hd := nd_two) (hcd := nc_two)) (pa_cons (pe_bltn (v := .ty "int") (u := .type "int") (by rfl) m_int bb_int rfl (hn := nn_int) (hd := nd_int)) pa_nil)) (hn := nn_isinstance) (hdb := nd_isinstance)))))) (pss_one (ps_ret (pe_and (pe_callB call_isi (by rfl) m_isinstance bb_isinstance (pa_cons (pv 0 (hd := nd_one) (hcd := nc_one)) (pa_cons (pe_bltn (v := .ty "int") (u := .type "int") (by rfl) m_int bb_int rfl (hn := nn_int) (hd := nd_int)) pa_nil)) (hn := nn_isinstance) (hdb := nd_isinstance)) (pe_and (pe_callB call_isi (by rfl) m_isinstance bb_isinstance (pa_cons (pv 1 (hd := nd_two) (hcd := nc_two)) (pa_cons (pe_bltn (v := .ty "int") (u := .type "int") (by rfl) m_int bb_int rfl (hn := nn_int) (hd := nd_int)) pa_nil)) (hn := nn_isinstance) (hdb := nd_isinstance)) (pe_one (pe_cmpR op_eq (pv 0) (pv 1) (nomark _))))))) pss_nil)
  (pss_cons (ps_if (PW.pt (pw_or (pt_val (pe_callB call_isi (by rfl) m_isinstance bb_isinstance (pa_cons (pv 0 (hd := nd_one) (hcd := nc_one)) (pa_cons (pe_bltn (v := .ty "str") (u := .type "str") (by rfl) m_str bb_str rfl (hn := nn_str) (hd := nd_str)) pa_nil)) (hn := nn_isinstance) (hdb := nd_isinstance))) (pw_or1 (pt_val (pe_callB call_isi (by rfl) m_isinstance bb_isinstance (pa_cons (pv 1 (hd := nd_two) (hcd := nc_two)) (pa_cons (pe_bltn (v := .ty "str") (u := .type "str") (by rfl) m_str bb_str rfl (hn := nn_str) (hd := nd_str)) pa_nil)) (hn := nn_isinstance) (hdb := nd_isinstance)))))) (pss_one (ps_ret (pe_and (pe_callB call_isi (by rfl) m_isinstance bb_isinstance (pa_cons (pv 0 (hd := nd_one) (hcd := nc_one)) (pa_cons (pe_bltn (v := .ty "str") (u := .type "str") (by rfl) m_str bb_str rfl (hn := nn_str) (hd := nd_str)) pa_nil)) (hn := nn_isinstance) (hdb := nd_isinstance)) (pe_and (pe_callB call_isi (by rfl) m_isinstance bb_isinstance (pa_cons (pv 1 (hd := nd_two) (hcd := nc_two)) (pa_cons (pe_bltn (v := .ty "str") (u := .type "str") (by rfl) m_str bb_str rfl (hn := nn_str) (hd := nd_str)) pa_nil)) (hn := nn_isinstance) (hdb := nd_isinstance)) (pe_one (pe_cmpR op_eq (pv 0) (pv 1) (nomark _))))))) pss_nil)
  (pss_cons (ps_if (PW.pt (pw_or (pt_val (pe_callB call_isi (by rfl) m_isinstance bb_isinstance (pa_cons (pv 0 (hd := nd_one) (hcd := nc_one)) (pa_cons (pe_bltn (v := .ty "dict") (u := .type "dict") (by rfl) m_dict bb_dict rfl (hn := nn_dict) (hd := nd_dict)) pa_nil)) (hn := nn_isinstance) (hdb := nd_isinstance))) (pw_or1 (pt_val (pe_callB call_isi (by rfl) m_isinstance bb_isinstance (pa_cons (pv 1 (hd := nd_two) (hcd := nc_two)) (pa_cons (pe_bltn (v := .ty "dict") (u := .type "dict") (by rfl) m_dict bb_dict rfl (hn := nn_dict) (hd := nd_dict)) pa_nil)) (hn := nn_isinstance) (hdb := nd_isinstance)))))) (pss_cons (ps_if (PW.pt (pw_or (pt_not (pt_val (pe_callB call_isi (by rfl) m_isinstance bb_isinstance (pa_cons (pv 0 (hd := nd_one) (hcd := nc_one)) (pa_cons (pe_bltn (v := .ty "dict") (u := .type "dict") (by rfl) m_dict bb_dict rfl (hn := nn_dict) (hd := nd_dict)) pa_nil)) (hn := nn_isinstance) (hdb := nd_isinstance)))) (pw_or (pt_not (pt_val (pe_callB call_isi (by rfl) m_isinstance bb_isinstance (pa_cons (pv 1 (hd := nd_two) (hcd := nc_two)) (pa_cons (pe_bltn (v := .ty "dict") (u := .type "dict") (by rfl) m_dict bb_dict rfl (hn := nn_dict) (hd := nd_dict)) pa_nil)) (hn := nn_isinstance) (hdb := nd_isinstance)))) (pw_or1 (pt_cmpR op_ne (pe_callB (q_lenAK (K := K) rfl) (by rfl) m_len PySem.boot_len (pa_cons (pv 0) pa_nil)) (pe_callB (q_lenAK (K := K) rfl) (by rfl) m_len PySem.boot_len (pa_cons (pv 1) pa_nil)) (nomark _)))))) (pss_one (ps_ret pe_bl)) pss_nil)
  (pss_cons (ps_for PassesOwn.never rfl (pi_list (pe_callTy (q_listDk rfl) (by rfl) m_list bb_list (pa_cons (pv 0) pa_nil))) (pg_name (i := 2) sc__law_same.nd rfl (Or.inl rfl)) (pss_cons (ps_if (PW.pt (pw_or (pt_not (PW.pt (pw_or (pt_val (pe_callB call_isi (by rfl) m_isinstance bb_isinstance (pa_cons (pv 2 (hd := nd_key) (hcd := nc_key)) (pa_cons (pe_bltn (v := .ty "str") (u := .type "str") (by rfl) m_str bb_str rfl (hn := nn_str) (hd := nd_str)) pa_nil)) (hn := nn_isinstance) (hdb := nd_isinstance))) (pw_or1 (pt_val (pe_cal C__law_is_integer hr (pa_cons (pv 2) pa_nil) (by omega))))))) (pw_or1 (pt_cmp (pc_dnotin (hu_of hr) (pv 2) (pv 1)))))) (pss_one (ps_ret pe_bl)) pss_nil)
  (pss_one (ps_if (pt_not (pt_val (pe_cal C__law_same hr (pa_cons (pe_dget (hu_of hr) (pv 0) (pv 2) (fun _ _ => rfl)) (pa_cons (pe_dget (hu_of hr) (pv 1) (pv 2) (fun _ _ => rfl)) pa_nil)) (Nat.le_refl _)))) (pss_one (ps_ret pe_bl)) pss_nil))))
  (pss_cons (ps_for PassesOwn.never rfl (pi_list (pe_callTy (q_listDk rfl) (by rfl) m_list bb_list (pa_cons (pv 1) pa_nil))) (pg_name (i := 2) sc__law_same.nd rfl (Or.inl rfl)) (pss_one (ps_if (pt_not (PW.pt (pw_or (pt_val (pe_callB call_isi (by rfl) m_isinstance bb_isinstance (pa_cons (pv 2 (hd := nd_key) (hcd := nc_key)) (pa_cons (pe_bltn (v := .ty "str") (u := .type "str") (by rfl) m_str bb_str rfl (hn := nn_str) (hd := nd_str)) pa_nil)) (hn := nn_isinstance) (hdb := nd_isinstance))) (pw_or1 (pt_val (pe_cal C__law_is_integer hr (pa_cons (pv 2) pa_nil) (by omega))))))) (pss_one (ps_ret pe_bl)) pss_nil)))
  (pss_one (ps_ret pe_bl))))) pss_nil)
  (pss_cons (ps_set (i := 3) sc__law_same.nd rfl (Or.inl rfl) (pe_and (pe_callB call_isi (by rfl) m_isinstance bb_isinstance (pa_cons (pv 0 (hd := nd_one) (hcd := nc_one)) (pa_cons (pe_bltn (v := .ty "list") (u := .type "list") (by rfl) m_list bb_list rfl (hn := nn_list) (hd := nd_list)) pa_nil)) (hn := nn_isinstance) (hdb := nd_isinstance)) (pe_one (pe_callB call_isi (by rfl) m_isinstance bb_isinstance (pa_cons (pv 1 (hd := nd_two) (hcd := nc_two)) (pa_cons (pe_bltn (v := .ty "list") (u := .type "list") (by rfl) m_list bb_list rfl (hn := nn_list) (hd := nd_list)) pa_nil)) (hn := nn_isinstance) (hdb := nd_isinstance)))))
  (pss_cons (ps_if (PW.pt (pw_and (pt_not (pt_val (pv 3 (hd := nd_lists) (hcd := nc_lists)))) (pw_and1 (pt_not (PW.pt (pw_and (pt_val (pe_callB call_isi (by rfl) m_isinstance bb_isinstance (pa_cons (pv 0 (hd := nd_one) (hcd := nc_one)) (pa_cons (pe_bltn (v := .ty "tuple") (u := .type "tuple") (by rfl) m_tuple bb_tuple rfl (hn := nn_tuple) (hd := nd_tuple)) pa_nil)) (hn := nn_isinstance) (hdb := nd_isinstance))) (pw_and1 (pt_val (pe_callB call_isi (by rfl) m_isinstance bb_isinstance (pa_cons (pv 1 (hd := nd_two) (hcd := nc_two)) (pa_cons (pe_bltn (v := .ty "tuple") (u := .type "tuple") (by rfl) m_tuple bb_tuple rfl (hn := nn_tuple) (hd := nd_tuple)) pa_nil)) (hn := nn_isinstance) (hdb := nd_isinstance)))))))))) (pss_one (ps_ret pe_bl)) pss_nil)
  (pss_cons (ps_if (pt_cmpR op_ne (pe_callB (q_lenAK (K := K) rfl) (by rfl) m_len PySem.boot_len (pa_cons (pv 0) pa_nil)) (pe_callB (q_lenAK (K := K) rfl) (by rfl) m_len PySem.boot_len (pa_cons (pv 1) pa_nil)) (nomark _)) (pss_one (ps_ret pe_bl)) pss_nil)
  (pss_cons (ps_for PassesOwn.never rfl (pi_range1 (by rfl) m_range (pa_cons (pe_callB (q_lenAK (K := K) rfl) (by rfl) m_len PySem.boot_len (pa_cons (pv 0) pa_nil)) pa_nil)) (pg_name (i := 4) sc__law_same.nd rfl (Or.inl rfl)) (pss_one (ps_if (pt_not (pt_val (pe_cal C__law_same hr (pa_cons (pe_ix ix_seq (pv 0) (pv 4) (fun _ _ => rfl)) (pa_cons (pe_ix ix_seq (pv 1) (pv 4) (fun _ _ => rfl)) pa_nil)) (Nat.le_refl _)))) (pss_one (ps_ret pe_bl)) pss_nil)))
  (pss_one (ps_ret pe_bl))))))))))), ?_⟩
  refine Rd.at0 (σ := [some x, some y, none, none, none]) rfl ?_
  have eqv : ∀ v : V, decide (v = v) = true := fun v => decide_eq_true rfl
  cases hx with
  | non =>
    cases hy
    repeat' (walk_at "rd")
    rw [eqv]
    exact q0
  | bl b =>
    cases hy
    repeat' (walk_at "rd")
    rw [eqv]
    exact q0
  | int i =>
    cases hy
    repeat' (walk_at "rd")
    rw [eqv]
    exact q0
  | str z =>
    cases hy
    repeat' (walk_at "rd")
    rw [eqv]
    exact q0
  | lst h1 r1 =>
    cases hy with
    | lst h2 r2 =>
      rename_i a xs ds b ys
      cases hf with
      | lst hd hf =>
        rename_i n
        have l1 := va_len r1
        have l2 := va_len r2
        repeat' (walk_at "rd")
        · omega
        refine forR (fun i σ H' => ∃ v4 : Option V, σ = [some (.ref a), some (.ref b), none, some (.bl true), v4] ∧ Same H H') ⟨none, rfl, .refl _⟩ ?_ ?_
        · rintro i σ H' hi ⟨v4, rfl, sm⟩
          obtain ⟨x, y, d, ex, ey, dx, dy, fd⟩ := same_turn r1 r2 hf (show i < xs.length by omega)
          repeat' (walk_at "rd")
          refine .inl (ixN' (sm.seq h1) (by omega) ex ?_)
          repeat' (walk_at "rd")
          refine .inl (ixN' (sm.seq h2) (by omega) ey ?_)
          repeat' (walk_at "rd")
          refine ⟨x, y, d, n, rfl, rfl, dv_same sm dx, dv_same sm dy, fd, fun H2 s2 => ?_⟩
          repeat' (walk_at "rd")
          exact ⟨_, rfl, sm.trans s2⟩
        · rintro σ H' ⟨v4, rfl, sm⟩
          repeat' (walk_at "rd")
          exact q H' sm
  | tup h1 r1 =>
    cases hy with
    | tup h2 r2 =>
      rename_i a xs ds b ys
      cases hf with
      | tup hd hf =>
        rename_i n
        have l1 := va_len r1
        have l2 := va_len r2
        repeat' (walk_at "rd")
        · omega
        refine forR (fun i σ H' => ∃ v4 : Option V, σ = [some (.ref a), some (.ref b), none, some (.bl false), v4] ∧ Same H H') ⟨none, rfl, .refl _⟩ ?_ ?_
        · rintro i σ H' hi ⟨v4, rfl, sm⟩
          obtain ⟨x, y, d, ex, ey, dx, dy, fd⟩ := same_turn r1 r2 hf (show i < xs.length by omega)
          repeat' (walk_at "rd")
          refine .inr (.inl (ixT' (sqT_same sm h1) (by omega) ex ?_))
          repeat' (walk_at "rd")
          refine .inr (.inl (ixT' (sqT_same sm h2) (by omega) ey ?_))
          repeat' (walk_at "rd")
          refine ⟨x, y, d, n, rfl, rfl, dv_same sm dx, dv_same sm dy, fd, fun H2 s2 => ?_⟩
          repeat' (walk_at "rd")
          exact ⟨_, rfl, sm.trans s2⟩
        · rintro σ H' ⟨v4, rfl, sm⟩
          repeat' (walk_at "rd")
          exact q H' sm
  | @dc0 a h1 =>
    cases hy with
    | @dc0 b h2 =>
      repeat' (walk_at "rd")
      · rename_i z
        exact absurd rfl z
      rename_i l hl G hs he
      refine forL [] (fun i σ H' => H' = G ∧ σ = [some (.ref a), some (.ref b), none, none, none]) ⟨rfl, rfl⟩ (fun _ _ _ _ h => by rw [h.1]; exact .inl (.inl he)) (fun i x σ H' hx => by cases hx) ?_
      rintro σ H' ⟨rfl, rfl⟩
      repeat' (walk_at "rd")
      rename_i l2 hl2 G2 hs2 he2
      refine forL [] (fun i σ H' => H' = G2 ∧ σ = [some (.ref a), some (.ref b), none, none, none]) ⟨rfl, rfl⟩ (fun _ _ _ _ h => by rw [h.1]; exact .inl (.inl he2)) (fun i x σ H' hx => by cases hx) ?_
      rintro σ H' ⟨rfl, rfl⟩
      repeat' (walk_at "rd")
      exact q _ (hs.trans hs2)
  | @dc1 a k v d h1 d1 =>
    cases hy with
    | @dc1 b _ v' _ h2 d2 =>
      cases hf with
      | dc1 hf =>
        rename_i n
        have one : ∀ {i : Nat} {x : V}, [V.str k][i]? = some x → V.str k = x := fun {i x} hx => by
          match i, hx with
          | 0, hx => exact Option.some.inj hx
        repeat' (walk_at "rd")
        · rename_i z
          exact absurd rfl z
        rename_i l hl G hs he
        refine forL [V.str k] (fun i σ H' => ∃ v2, σ = [some (.ref a), some (.ref b), v2, none, none] ∧ Same G H') ⟨none, rfl, .refl _⟩ (fun _ _ _ _ ⟨_, _, s⟩ => s.seq (.inl (.inl he))) ?_ ?_
        · rintro i x σ H' hx ⟨v2, rfl, sm⟩
          obtain rfl := one hx
          have sm' := hs.trans sm
          have h1' := sm' _ _ h1
          have h2' := sm' _ _ h2
          repeat' (walk_at "rd")
          refine ⟨b, some v', rfl, dget_k h2', ?_⟩
          repeat' (walk_at "rd")
          refine ⟨a, v, rfl, dget_k h1', ?_⟩
          repeat' (walk_at "rd")
          refine ⟨b, v', rfl, dget_k h2', ?_⟩
          repeat' (walk_at "rd")
          refine ⟨v, v', d, n, rfl, rfl, dv_same sm' d1, dv_same sm' d2, hf, fun H2 s2 => ?_⟩
          repeat' (walk_at "rd")
          exact ⟨_, rfl, sm.trans s2⟩
        · rintro σ H' ⟨v2, rfl, sm⟩
          repeat' (walk_at "rd")
          rename_i l2 hl2 G2 hs2 he2
          refine forL [V.str k] (fun i σ H' => ∃ v2, σ = [some (.ref a), some (.ref b), v2, none, none] ∧ H' = G2) ⟨v2, rfl, rfl⟩ (fun _ _ _ _ ⟨_, _, e⟩ => by rw [e]; exact .inl (.inl he2)) ?_ ?_
          · rintro i x σ H' hx ⟨v2, rfl, rfl⟩
            obtain rfl := one hx
            repeat' (walk_at "rd")
            exact ⟨_, rfl, rfl⟩
          · rintro σ H' ⟨v2, rfl, rfl⟩
            repeat' (walk_at "rd")
            exact q _ ((hs.trans sm).trans hs2)
theorem ok__law_same (F : Def K mg "_law_same" s__law_same P__law_same) (m_isinstance : mg "isinstance" = none) (m_bool : mg "bool" = none) (m_int : mg "int" = none) (m_str : mg "str" = none) (m_dict : mg "dict" = none) (m_len : mg "len" = none) (m_list : mg "list" = none) (m_tuple : mg "tuple" = none) (m_range : mg "range" = none) (C__law_is_integer : Cal P w K mg base 1 "_law_is_integer" P__law_is_integer (spIsInt K)) : ∀ n : Nat, Cal P w K mg base (n + 1) "_law_same" P__law_same (spSame K n)
  | 0 => ((Def.none F).imp fun _ _ _ _ ⟨_, _, _, _, z, _⟩ => by omega).mono (Nat.zero_le _)
  | n + 1 => ok_same1 F m_isinstance m_bool m_int m_str m_dict m_len m_list m_tuple m_range C__law_is_integer (ok__law_same F m_isinstance m_bool m_int m_str m_dict m_len m_list m_tuple m_range C__law_is_integer n)
end
/-! ### a frozen copy -/
section
variable {P : Program} {w : World} {K : PySem.W.Frag} {mg : Str → Option Value} {base : Heap}
mutual
def frz : PyData → PyData
  | .list ds => .tuple [.str "list", .tuple (frzs ds)]
  | .tuple ds => .tuple [.str "tuple", .tuple (frzs ds)]
  | .dict [] => .tuple [.str "dict", .tuple []]
  | .dict ((k, d) :: _) => .tuple [.str "dict", .tuple [.tuple [k, frz d]]]
  | d => d
def frzs : List PyData → List PyData
  | [] => []
  | d :: ds => frz d :: frzs ds
end
theorem frzs_take : ∀ (ds : List PyData) (i : Nat) (d : PyData), ds[i]? = some d → frzs (ds.take (i + 1)) = frzs (ds.take i) ++ [frz d]
  | [], _, _, h => by simp at h
  | x :: ds, 0, d, h => by
    cases h
    rfl
  | x :: ds, i + 1, d, h => by
    have h : ds[i]? = some d := by simpa using h
    show frz x :: frzs (ds.take (i + 1)) = frz x :: frzs (ds.take i) ++ [frz d]
    rw [frzs_take ds i d h]
    rfl
theorem frzs_len : ∀ ds : List PyData, (frzs ds).length = ds.length
  | [] => rfl
  | _ :: ds => congrArg (· + 1) (frzs_len ds)
/-- _law_frozen(v): a value of the frozen data -/
def spFrozen (K : PySem.W.Frag) (n : Nat) : Sp := fun vs H Q _ => ∃ (x : V) (d : PyData) (m : Nat), n = m + 1 ∧ vs = [x] ∧ Dv K H x d ∧ Fd m d ∧ ∀ y H', Same H H' → Dv K H' y (frz d) → Q y H'
local macro_rules | `(tactic| walk_at "rd") => `(tactic| first
  | ((with_reducible apply Rd.listDk); (walk_at "hp"); (rfl))
  | with_reducible apply Rd.din
  | with_reducible apply Rd.dget
  | with_reducible apply Rd.someF
  | with_reducible apply Rd.itup
  | ((with_reducible apply Rd.extup); (walk_at "st")))
theorem frz_tp {n : Nat} {d : PyData} (h : Fd n d) : Tp (frz d) := by
  have all : ∀ {ds : List PyData}, (∀ d ∈ ds, Tp (frz d)) → ∀ x ∈ frzs ds, Tp x := by
    intro ds
    induction ds with
    | nil => exact fun _ x hx => nomatch hx
    | cons d ds ih =>
      intro h x hx
      rcases List.mem_cons.mp hx with e | hx
      · rw [e]
        exact h d List.mem_cons_self
      · exact ih (fun y hy => h y (List.mem_cons_of_mem _ hy)) x hx
  have two : ∀ {a b : PyData}, Tp a → Tp b → Tp (.tuple [a, b]) := fun {a b} ha hb => .tup fun x hx => by
    rcases List.mem_cons.mp hx with e | hx
    · rw [e]; exact ha
    · rw [List.mem_singleton.mp hx]; exact hb
  induction h with
  | non => exact .non
  | bl b => exact .bl b
  | int i => exact .int i
  | str s => exact .str s
  | lst l _ ih => exact two (.str _) (.tup (all ih))
  | tup l _ ih => exact two (.str _) (.tup (all ih))
  | dc0 => exact two (.str _) (.tup fun x hx => nomatch hx)
  | dc1 _ ih => exact two (.str _) (.tup fun x hx => by rw [List.mem_singleton.mp hx]; exact two (.str _) ih)
theorem frzs_tp {n : Nat} {ds : List PyData} (h : ∀ d ∈ ds, Fd n d) : ∀ x ∈ frzs ds, Tp x := by
  induction ds with
  | nil => exact fun x hx => nomatch hx
  | cons d ds ih =>
    intro x hx
    rcases List.mem_cons.mp hx with e | hx
    · rw [e]
      exact frz_tp (h d List.mem_cons_self)
    · exact ih (fun y hy => h y (List.mem_cons_of_mem _ hy)) x hx
theorem frz_fd {n : Nat} {d : PyData} (h : Fd n d) : Fd (3 * n) (frz d) := by
  have all : ∀ {n : Nat} {ds : List PyData}, (∀ d ∈ ds, Fd (3 * n) (frz d)) → ∀ x ∈ frzs ds, Fd (3 * n) x := by
    intro n ds
    induction ds with
    | nil => exact fun _ x hx => nomatch hx
    | cons d ds ih =>
      intro h x hx
      rcases List.mem_cons.mp hx with e | hx
      · rw [e]
        exact h d List.mem_cons_self
      · exact ih (fun y hy => h y (List.mem_cons_of_mem _ hy)) x hx
  have two : ∀ {n : Nat} {a b : PyData}, Fd n a → Fd n b → Fd (n + 1) (.tuple [a, b]) := fun {n a b} ha hb => .tup (show 2 ≤ 100000 by decide) fun x hx => by
    rcases List.mem_cons.mp hx with e | hx
    · rw [e]; exact ha
    · rw [List.mem_singleton.mp hx]; exact hb
  induction h with
  | non => exact .non
  | bl b => exact .bl b
  | int i => exact .int i
  | str s => exact .str s
  | @lst n ds l _ ih => exact (two (n := 3 * n + 1) (.str _) (.tup (by rw [frzs_len]; exact l) (all ih))).mono (by omega)
  | @tup n ds l _ ih => exact (two (n := 3 * n + 1) (.str _) (.tup (by rw [frzs_len]; exact l) (all ih))).mono (by omega)
  | @dc0 n => exact (two (n := 3 * n + 1) (.str _) (.tup (ds := []) (Nat.zero_le _) fun x hx => nomatch hx)).mono (by omega)
  | @dc1 n k d _ ih => exact (two (n := 3 * n + 2) (.str _) (.tup (ds := [.tuple [.str k, frz d]]) (show 1 ≤ 100000 by decide) fun x hx => by rw [List.mem_singleton.mp hx]; exact two (.str _) ih)).mono (by omega)
/-- a comprehension that freezes its items -/
theorem froze_list {n : Nat} {te : TE} {tl : TT} {g : TG} {vs : List Nat} {σ : L2.St} {H : Hp} {Q : VK} {xs : List V} {ds : List PyData} {J : It} (h1 : DvAll K H xs ds) (hl : ds.length ≤ 100000) (hf : ∀ d ∈ ds, Fd n d)
    (loop : ∀ (f : ∀ L, H L = none → ∃ Pv : Nat → Hp → Prop, Pv 0 (upd H L (.lst [])) ∧ (∀ i h, i ≤ xs.length → Pv i h → Same H h) ∧
      (∀ i x h, xs[i]? = some x → Pv i h → Turn1 g tl te vs σ L x h (Pv (i + 1))) ∧ ∀ h, Pv xs.length h → Q (.ref L) h), LcB J g tl te vs σ H Q)
    (turn : ∀ (i : Nat) (x : V) (d : PyData) (L : Addr) (G : Hp) (out : List V) (Nx : Hp → Prop), xs[i]? = some x → ds[i]? = some d → Same H G → G L = some (.lst out) → out.length < sizeLine →
      (∀ y G', Same G G' → Dv K G' y (frz d) → G' L = some (.lst out) → Nx (upd G' L (.lst (out ++ [y])))) → Turn1 g tl te vs σ L x G Nx)
    (done : ∀ (L : Addr) (G : Hp) (ys : List V), H L = none → Same H G → G L = some (.lst ys) → DvAll K G ys (frzs ds) → Q (.ref L) G) : LcB J g tl te vs σ H Q := by
  refine loop fun L nL => ⟨fun i h => ∃ out, Same H h ∧ h L = some (.lst out) ∧ DvAll K h out (frzs (ds.take i)) ∧ i ≤ xs.length, ⟨[], same_upd nL, upd_same, .nil, Nat.zero_le _⟩, fun i h _ ⟨_, s, _⟩ => s, ?_, ?_⟩
  · rintro i x h hx ⟨out, s, eL, da, hi⟩
    have lt : i < xs.length := (List.getElem?_eq_some_iff.mp hx).1
    have ll := va_len h1
    have hd := List.getElem?_eq_getElem (l := ds) (show i < ds.length by omega)
    have lo := va_len da
    rw [frzs_len, List.length_take] at lo
    refine turn i x _ L h out _ hx hd s eL (sz5' (by omega)) fun y G' s' dy eL' => ?_
    have off : ∀ b o, H b = some o → b ≠ L := fun b o e => ne_of_none e nL
    refine ⟨out ++ [y], fun b o e => (upd_ne (off b o e)).trans (s' _ _ (s _ _ e)), upd_same, ?_, lt⟩
    rw [frzs_take ds i _ hd]
    have tk : Tk G' (upd G' L (.lst (out ++ [y]))) := tk_put eL' _
    exact va_append _ _ (va_tk tk (va_same s' da) (frzs_tp fun d hd => hf d (List.mem_of_mem_take hd))) (.cons (dv_tk tk dy (frz_tp (hf _ (List.getElem_mem _)))) .nil)
  · rintro h ⟨out, s, eL, da, _⟩
    rw [List.take_of_length_le (by rw [va_len h1]; exact Nat.le_refl _)] at da
    exact done L h out nL s eL da
set_option maxHeartbeats 4000000 in
theorem ok_froz1 {n : Nat} (F : Def K mg "_law_frozen" s__law_frozen P__law_frozen) (m_isinstance : mg "isinstance" = none) (m_list : mg "list" = none) (m_tuple : mg "tuple" = none) (m_dict : mg "dict" = none) (m_str : mg "str" = none) (m_sorted : mg "sorted" = none) (C__law_frozen : Cal P w K mg base n "_law_frozen" P__law_frozen (spFrozen K n)) : Cal P w K mg base (n + 1) "_law_frozen" P__law_frozen (spFrozen K (n + 1)) := by
  refine F.ok sc__law_frozen (fun vs H Q E h => ?_) (fun f cdv A outer s H vs Q E hr h => ?_)
  · obtain ⟨x, d, m, _, rfl, _⟩ := h
    rfl
  obtain ⟨x, d, m, hn, rfl, hx, hf, q⟩ := h
  obtain rfl : n = m := by omega
  refine ⟨_, (pss_cons (ps_if (pt_val (pe_callB call_isi (by rfl) m_isinstance bb_isinstance (pa_cons (pv 0 (hd := nd_value) (hcd := nc_value)) (pa_cons (pe_bltn (v := .ty "list") (u := .type "list") (by rfl) m_list bb_list rfl (hn := nn_list) (hd := nd_list)) pa_nil)) (hn := nn_isinstance) (hdb := nd_isinstance))) (pss_one (ps_ret (pe_tup (pa_cons pe_str (pa_cons (pe_callTy q_tup (by rfl) m_tuple bb_tuple (pa_cons (pe_lc (own := [("item", 2)]) (by rfl) sc__law_frozen.nd (pi_list (pv 0 (hd := nd_value) (hcd := nc_value))) (blkOk_by (N := N__law_frozen) (sc := defScope s__law_frozen) (by decide +kernel)) (fun _ _ _ _ _ => (pg_name (i := 2) sc__law_frozen.nd rfl (Or.inl rfl))) (fun _ _ _ _ _ => pts_nil) (fun _ _ _ _ _ => (pe_cal C__law_frozen hr (pa_cons (pv 2) pa_nil) (Nat.le_refl _)))) pa_nil) (hn := nn_tuple) (hdb := nd_tuple)) pa_nil))))) pss_nil)
  (pss_cons (ps_if (pt_val (pe_callB call_isi (by rfl) m_isinstance bb_isinstance (pa_cons (pv 0 (hd := nd_value) (hcd := nc_value)) (pa_cons (pe_bltn (v := .ty "tuple") (u := .type "tuple") (by rfl) m_tuple bb_tuple rfl (hn := nn_tuple) (hd := nd_tuple)) pa_nil)) (hn := nn_isinstance) (hdb := nd_isinstance))) (pss_one (ps_ret (pe_tup (pa_cons pe_str (pa_cons (pe_callTy q_tup (by rfl) m_tuple bb_tuple (pa_cons (pe_lc (own := [("item", 2)]) (by rfl) sc__law_frozen.nd (pi_tup (pv 0 (hd := nd_value) (hcd := nc_value))) (blkOk_by (N := N__law_frozen) (sc := defScope s__law_frozen) (by decide +kernel)) (fun _ _ _ _ _ => (pg_name (i := 2) sc__law_frozen.nd rfl (Or.inl rfl))) (fun _ _ _ _ _ => pts_nil) (fun _ _ _ _ _ => (pe_cal C__law_frozen hr (pa_cons (pv 2) pa_nil) (Nat.le_refl _)))) pa_nil) (hn := nn_tuple) (hdb := nd_tuple)) pa_nil))))) pss_nil)
  (pss_cons (ps_if (pt_val (pe_callB call_isi (by rfl) m_isinstance bb_isinstance (pa_cons (pv 0 (hd := nd_value) (hcd := nc_value)) (pa_cons (pe_bltn (v := .ty "dict") (u := .type "dict") (by rfl) m_dict bb_dict rfl (hn := nn_dict) (hd := nd_dict)) pa_nil)) (hn := nn_isinstance) (hdb := nd_isinstance))) (pss_cons (ps_for PassesOwn.never rfl (pi_list (pe_callTy (q_listDk rfl) (by rfl) m_list bb_list (pa_cons (pv 0) pa_nil))) (pg_name (i := 1) sc__law_frozen.nd rfl (Or.inl rfl)) (pss_one (ps_if (pt_not (pt_val (pe_callB call_isi (by rfl) m_isinstance bb_isinstance (pa_cons (pv 1 (hd := nd_key) (hcd := nc_key)) (pa_cons (pe_bltn (v := .ty "str") (u := .type "str") (by rfl) m_str bb_str rfl (hn := nn_str) (hd := nd_str)) pa_nil)) (hn := nn_isinstance) (hdb := nd_isinstance)))) (pss_one (ps_ret (pe_tup (pa_cons pe_str (pa_cons pe_non pa_nil))))) pss_nil)))
  (pss_one (ps_ret (pe_tup (pa_cons pe_str (pa_cons (pe_callTy q_tup (by rfl) m_tuple bb_tuple (pa_cons (pe_lc (own := [("key", 1)]) (by rfl) sc__law_frozen.nd (pi_list (pe_callB (q_sortedSK (K := K) rfl) (by rfl) m_sorted bb_sorted (pa_cons (pe_callTy (q_listDk rfl) (by rfl) m_list bb_list (pa_cons (pv 0) pa_nil)) pa_nil) (hn := nn_sorted) (hdb := nd_sorted))) (blkOk_by (N := N__law_frozen) (sc := defScope s__law_frozen) (by decide +kernel)) (fun _ _ _ _ _ => (pg_name (i := 1) sc__law_frozen.nd rfl (Or.inl rfl))) (fun _ _ _ _ _ => pts_nil) (fun _ _ _ _ _ => (pe_tup (pa_cons (pv 1 (hd := nd_key) (hcd := nc_key)) (pa_cons (pe_cal C__law_frozen hr (pa_cons (pe_dget (hu_of hr) (pv 0) (pv 1) (fun _ _ => rfl)) pa_nil) (Nat.le_refl _)) pa_nil))))) pa_nil) (hn := nn_tuple) (hdb := nd_tuple)) pa_nil)))))) pss_nil)
  (pss_one (ps_ret (pv 0 (hd := nd_value) (hcd := nc_value))))))), ?_⟩
  refine Rd.at0 (σ := [some x, none, none]) rfl ?_
  cases hx with
  | non =>
    repeat' (walk_at "rd")
    exact q _ _ (.refl _) .non
  | bl b =>
    repeat' (walk_at "rd")
    exact q _ _ (.refl _) (.bl b)
  | int i =>
    repeat' (walk_at "rd")
    exact q _ _ (.refl _) (.int i)
  | str z =>
    repeat' (walk_at "rd")
    exact q _ _ (.refl _) (.str z)
  | @lst a xs ds h1 r1 =>
    cases hf with
    | @lst n _ hd hf =>
      repeat' (walk_at "rd")
      refine froze_list r1 hd hf (fun f => lcL xs fun L nL => ?_) (fun i x d L G out Nx hx hd' sG eL lo nx => ?_) (fun L G ys nL sG eL da => ?_)
      · obtain ⟨Pv, h0, hs, ht, he⟩ := f L nL
        exact ⟨Pv, h0, fun i h hi p => (hs i h hi p).seq h1, ht, he⟩
      · obtain ⟨x', ex, dx⟩ := va_at _ _ _ _ r1 hd'
        obtain rfl : x' = x := Option.some.inj (ex.symm.trans hx)
        refine turn1 ?_
        repeat' (walk_at "rd")
        refine ⟨rfl, ?_⟩
        repeat' (walk_at "rd")
        refine ⟨x', d, _, rfl, rfl, dv_same sG dx, hf d (List.mem_of_getElem? hd'), fun y G' s' dy => ?_⟩
        exact ⟨out, s' _ _ eL, lo, nx y G' s' dy (s' _ _ eL)⟩
      · repeat' (walk_at "rd")
        rename_i l1 hl1 G1 hs1 he1 l2 hl2 G2 hs2 he2
        refine q _ _ ((sG.trans hs1).trans hs2) ?_
        exact .tup (.inl (.inl he2)) (.cons (.str _) (.cons (.tup (.inl (.inl (hs2 _ _ he1))) (va_same (hs1.trans hs2) da)) .nil))
  | @tup a xs ds h1 r1 =>
    cases hf with
    | @tup n _ hd hf =>
      repeat' (walk_at "rd")
      refine froze_list r1 hd hf (fun f => lcT xs fun L nL => ?_) (fun i x d L G out Nx hx hd' sG eL lo nx => ?_) (fun L G ys nL sG eL da => ?_)
      · obtain ⟨Pv, h0, hs, ht, he⟩ := f L nL
        exact ⟨Pv, h0, fun i h hi p => sqT_same (hs i h hi p) h1, ht, he⟩
      · obtain ⟨x', ex, dx⟩ := va_at _ _ _ _ r1 hd'
        obtain rfl : x' = x := Option.some.inj (ex.symm.trans hx)
        refine turn1 ?_
        repeat' (walk_at "rd")
        refine ⟨rfl, ?_⟩
        repeat' (walk_at "rd")
        refine ⟨x', d, _, rfl, rfl, dv_same sG dx, hf d (List.mem_of_getElem? hd'), fun y G' s' dy => ?_⟩
        exact ⟨out, s' _ _ eL, lo, nx y G' s' dy (s' _ _ eL)⟩
      · repeat' (walk_at "rd")
        rename_i l1 hl1 G1 hs1 he1 l2 hl2 G2 hs2 he2
        refine q _ _ ((sG.trans hs1).trans hs2) ?_
        exact .tup (.inl (.inl he2)) (.cons (.str _) (.cons (.tup (.inl (.inl (hs2 _ _ he1))) (va_same (hs1.trans hs2) da)) .nil))
  | @dc0 a h1 =>
    repeat' (walk_at "rd")
    rename_i l hl G hs he
    refine forL [] (fun i σ H' => H' = G ∧ σ = [some (.ref a), none, none]) ⟨rfl, rfl⟩ (fun _ _ _ _ h => by rw [h.1]; exact .inl (.inl he)) (fun i x σ H' hx => by cases hx) ?_
    rintro σ H' ⟨rfl, rfl⟩
    repeat' (walk_at "rd")
    rename_i l2 hl2 G2 hs2 he2
    refine sortS1 [] (by decide) (.inl (.inl he2)) ?_
    repeat' (walk_at "rd")
    rename_i l3 hl3 G3 hs3 he3
    refine lcL [] fun L nL => ⟨fun _ h => h = upd G3 L (.lst []), rfl, fun _ h _ e => ?_, fun i x h hx => (by cases hx), fun h e => ?_⟩
    · rw [e]
      exact (same_upd nL).seq (.inl (.inl he3))
    · subst e
      have sL := same_upd (o := .lst []) nL
      have eL : (upd G3 L (.lst [])) L = some (.lst []) := upd_same
      repeat' (walk_at "rd")
      rename_i l4 hl4 G4 hs4 he4 l5 hl5 G5 hs5 he5
      refine q _ _ (((((hs.trans hs2).trans hs3).trans sL).trans hs4).trans hs5) ?_
      exact .tup (.inl (.inl he5)) (.cons (.str _) (.cons (.tup (.inl (.inl (hs5 _ _ he4))) .nil) .nil))
  | @dc1 a k v d h1 d1 =>
    cases hf with
    | @dc1 n _ _ hf =>
      have one : ∀ {i : Nat} {x : V}, [V.str k][i]? = some x → V.str k = x := fun {i x} hx => by
        match i, hx with
        | 0, hx => exact Option.some.inj hx
      repeat' (walk_at "rd")
      rename_i l hl G hs he
      refine forL [V.str k] (fun i σ H' => ∃ v1, σ = [some (.ref a), v1, none] ∧ H' = G) ⟨none, rfl, rfl⟩ (fun _ _ _ _ ⟨_, _, e⟩ => by rw [e]; exact .inl (.inl he)) ?_ ?_
      · rintro i x σ H' hx ⟨v1, rfl, rfl⟩
        obtain rfl := one hx
        repeat' (walk_at "rd")
        exact ⟨_, rfl, rfl⟩
      · rintro σ H' ⟨v1, rfl, rfl⟩
        repeat' (walk_at "rd")
        rename_i l2 hl2 G2 hs2 he2
        refine sortS1 [k] (Nat.le_refl _) (.inl (.inl he2)) ?_
        repeat' (walk_at "rd")
        rename_i l3 hl3 G3 hs3 he3
        have s3 := (hs.trans hs2).trans hs3
        refine lcL [V.str k] fun L nL => ⟨fun i h => Same G3 h ∧ ((i = 0 ∧ h L = some (.lst [])) ∨ (i = 1 ∧ ∃ y, h L = some (.lst [y]) ∧ Dv K h y (.tuple [.str k, frz d]))), ⟨same_upd nL, .inl ⟨rfl, upd_same⟩⟩, fun _ h _ e => e.1.seq (.inl (.inl he3)), ?_, ?_⟩
        · rintro i x h hx ⟨sG, ⟨rfl, eL⟩ | ⟨rfl, _⟩⟩
          · obtain rfl := one hx
            refine turn1 ?_
            repeat' (walk_at "rd")
            refine ⟨rfl, ?_⟩
            repeat' (walk_at "rd")
            refine ⟨a, v, rfl, dget_k ((s3.trans sG) _ _ h1), ?_⟩
            repeat' (walk_at "rd")
            refine ⟨v, d, _, rfl, rfl, dv_same (s3.trans sG) d1, hf, fun y G' s' dy => ?_⟩
            repeat' (walk_at "rd")
            rename_i l5 hl5 G5 hs5 he5
            have eL5 := hs5 _ _ (s' _ _ eL)
            refine ⟨[], eL5, by decide, fun b o e => ?_, .inr ⟨rfl, _, upd_same, ?_⟩⟩
            · rw [upd_ne (ne_of_none e nL)]
              exact hs5 _ _ (s' _ _ (sG _ _ e))
            · have t : Dv K G5 (.ref l5) (.tuple [.str k, frz d]) := .tup (.inl (.inl he5)) (.cons (.str _) (.cons (dv_same hs5 dy) .nil))
              refine dv_tk (tk_put eL5 _) t (.tup fun x hx => ?_)
              rcases List.mem_cons.mp hx with e | hx
              · rw [e]
                exact .str _
              · rw [List.mem_singleton.mp hx]
                exact frz_tp hf
          · cases hx
        · rintro h ⟨sG, ⟨e, _⟩ | ⟨_, y, eL, dy⟩⟩
          · cases e
          · repeat' (walk_at "rd")
            rename_i l4 hl4 G4 hs4 he4 l5 hl5 G5 hs5 he5
            refine q _ _ (((s3.trans sG).trans hs4).trans hs5) ?_
            exact .tup (.inl (.inl he5)) (.cons (.str _) (.cons (.tup (.inl (.inl (hs5 _ _ he4))) (.cons (dv_same (hs4.trans hs5) dy) .nil)) .nil))
theorem ok__law_frozen (F : Def K mg "_law_frozen" s__law_frozen P__law_frozen) (m_isinstance : mg "isinstance" = none) (m_list : mg "list" = none) (m_tuple : mg "tuple" = none) (m_dict : mg "dict" = none) (m_str : mg "str" = none) (m_sorted : mg "sorted" = none) : ∀ n : Nat, Cal P w K mg base n "_law_frozen" P__law_frozen (spFrozen K n)
  | 0 => (Def.none F).imp fun _ _ _ _ ⟨_, _, _, z, _⟩ => by omega
  | n + 1 => ok_froz1 F m_isinstance m_list m_tuple m_dict m_str m_sorted (ok__law_frozen F m_isinstance m_list m_tuple m_dict m_str m_sorted n)
end
end Kj
namespace Kj
open PySem PySem.Spec PyProof.Rows L2 Rd
/-! ### the stepper -/
local macro_rules | `(tactic| walk_at "hp") => `(tactic| first
  | assumption
  | exact upd_same
  | (refine Eq.trans (upd_ne (by first | assumption | (apply Ne.symm; assumption))) ?_; walk_at "hp"))
local macro_rules | `(tactic| walk_at "sq") => `(tactic| first
  | assumption
  | (refine Or.inl (Or.inl ?_); walk_at "hp"))
local macro_rules | `(tactic| walk_at "st") => `(tactic| first
  | assumption
  | (refine Or.inl (Or.inl ?_); walk_at "hp"))
local macro_rules | `(tactic| walk_at "ar") => `(tactic| first
  | assumption
  | omega
  | decide)
local macro_rules | `(tactic| walk_at "ci") => `(tactic| first
  | (refine (show CMul _ _ from Or.inr ⟨?_, ?_⟩) <;> omega)
  | (refine (show CMul _ _ from Or.inl ⟨?_, ?_⟩) <;> omega)
  | (show CPow _ _; exact ⟨by decide, by decide, by decide⟩)
  | (refine wide_div (b := 63) ?_ ?_ (by decide) (by decide) <;> omega)
  | (show (0 : Int) < _; omega))
local macro_rules | `(tactic| walk_at "ty") => `(tactic| first
  | exact dp_ty (by assumption)
  | exact TyX.base (TyOf.int _)
  | exact TyX.base (TyOf.str _)
  | exact TyX.base (TyOf.bl _)
  | exact TyX.base TyOf.non
  | exact tyL' (by walk_at "sq")
  | exact tyT' (by walk_at "st"))
local macro_rules | `(tactic| walk_at "isi") => `(tactic| first
  | ((with_reducible apply Rd.isiF); (walk_at "ty"); (decide))
  | ((with_reducible apply Rd.isiT); (walk_at "ty"); (decide)))
local macro_rules | `(tactic| walk_at "rd") => `(tactic| first
  | with_reducible apply Rd.seq
  | ((with_reducible apply Rd.var); rfl)
  | with_reducible apply Rd.con
  | with_reducible apply Rd.op
  | with_reducible apply Rd.asg
  | ((with_reducible apply Rd.gname); ((dsimp only [List.set, L2.wipe, Int.reduceToNat]) <;> rfl))
  | with_reducible apply Rd.nxt
  | with_reducible apply Rd.ifs
  | with_reducible apply Rd.test
  | with_reducible apply Rd.testB
  | with_reducible apply Rd.exbl
  | with_reducible apply Rd.ret
  | with_reducible apply Rd.drop
  | with_reducible apply Rd.retN
  | with_reducible apply Rd.nil
  | with_reducible apply Rd.cons
  | with_reducible apply Rd.call
  | with_reducible apply Rd.cb
  | with_reducible apply Rd.and
  | with_reducible apply Rd.or
  | with_reducible apply Rd.not
  | with_reducible apply Rd.andV
  | with_reducible apply Rd.orV
  | with_reducible apply Rd.notV
  | with_reducible apply Rd.ife
  | with_reducible apply Rd.tup
  | with_reducible apply Rd.lst
  | with_reducible apply Rd.un
  | with_reducible apply Rd.chain
  | with_reducible apply Rd.brk
  | with_reducible apply Rd.cnt
  | with_reducible apply Rd.I0
  | with_reducible apply Rd.U1
  | ((with_reducible apply Rd.eq); rfl)
  | ((with_reducible apply Rd.ne); rfl)
  | ((with_reducible apply Rd.I1); (walk_at "ci"))
  | with_reducible apply Rd.lc0
  | with_reducible apply Rd.ln0
  | with_reducible apply Rd.exN
  | ((with_reducible apply Rd.iteSf); (decide +kernel))
  | ((with_reducible apply Rd.iteSt); (decide +kernel))
  | ((with_reducible apply Rd.niQ); (exact Or.inl (by walk_at "sq")); (exact ⟨rfl, rfl⟩); (rfl))
  | ((with_reducible apply Rd.inQ); (exact Or.inl (by walk_at "sq")); (exact ⟨rfl, rfl⟩); (rfl))
  | with_reducible apply Rd.rn1
  | with_reducible apply Rd.in1
  | with_reducible apply Rd.sn1
  | with_reducible apply Rd.bn1
  | with_reducible apply Rd.nn1
  | with_reducible apply Rd.rn2
  | with_reducible apply Rd.in2
  | with_reducible apply Rd.sn2
  | with_reducible apply Rd.bn2
  | with_reducible apply Rd.nn2
  | with_reducible apply Rd.nt1
  | with_reducible apply Rd.nf1
  | (with_reducible refine Rd.iteI (fun _ => ?_) (fun _ => ?_))
  | (with_reducible refine Rd.iteNI (fun _ => ?_) (fun _ => ?_))
  | (with_reducible refine iteT ?_)
  | (with_reducible refine iteF ?_)
  | (with_reducible refine Rd.iteD (fun _ => ?_) (fun _ => ?_))
  | (with_reducible refine Rd.iteN (fun _ => ?_) (fun _ => ?_))
  | with_reducible apply Rd.intI
  | with_reducible apply Rd.intB
  | with_reducible apply Rd.maxQ
  | with_reducible apply Rd.minQ
  | with_reducible apply Rd.absQ
  | with_reducible apply Rd.isN
  | with_reducible apply Rd.noN
  | with_reducible apply Rd.ltZ
  | with_reducible apply Rd.bm
  | with_reducible apply Rd.bm0
  | with_reducible apply Rd.par
  | with_reducible apply Rd.expar
  | with_reducible apply Rd.exint
  | with_reducible apply Rd.ipi
  | with_reducible apply Rd.slice
  | with_reducible apply Rd.noPart
  | with_reducible apply Rd.part
  | with_reducible apply Rd.gcons
  | with_reducible apply Rd.gnil
  | with_reducible apply Rd.iseq
  | with_reducible apply Rd.irng1
  | walk_at "isi"
  | with_reducible apply Rd.forX
  | with_reducible apply Rd.lstRev
  | with_reducible apply Rd.lstRg
  | with_reducible apply Rd.rg1
  | with_reducible apply Rd.rg2
  | with_reducible apply Rd.exint2
  | ((with_reducible apply Rd.exrev); (walk_at "sq"))
  | with_reducible apply Rd.lcX
  | with_reducible apply Rd.yes
  | ((with_reducible apply Rd.exrng1); (constructor <;> omega))
  | ((with_reducible apply Rd.exrng2); (refine ⟨?_, ?_, ?_, ?_⟩ <;> omega))
  | with_reducible apply Rd.irng2
  | ((with_reducible apply Rd.aug); rfl)
  | ((with_reducible apply Rd.exlst); (walk_at "sq"))
  | ((with_reducible apply Rd.gtup); (walk_at "st"); (rfl))
  | ((with_reducible apply Rd.tyL); (walk_at "hp"))
  | ((with_reducible apply Rd.ixL); (walk_at "sq"); (rfl))
  | ((with_reducible apply Rd.ixI); (walk_at "sq"); (omega); (first | assumption | (simp only [List.length_map]; omega)); (intro _ _))
  | (with_reducible refine Rd.gsub ?_)
  | ((with_reducible apply Rd.setL); (walk_at "hp"); (rfl); ((dsimp only [List.set, L2.wipe, Int.reduceToNat]) <;> rfl))
  | ((with_reducible apply Rd.lenQ); (first | exact Or.inl (by walk_at "sq") | exact Or.inr (by walk_at "st")))
  | ((with_reducible apply Rd.listQ); (first | exact Or.inl (by walk_at "sq") | exact Or.inr (by walk_at "st")))
  | ((with_reducible apply Rd.tupQ); (walk_at "sq"))
  | ((with_reducible apply Rd.slL); (walk_at "sq"))
  | ((with_reducible apply Rd.ixT); (walk_at "st"); (rfl))
  | (with_reducible refine Rd.iteB (fun _ => ?_) (fun _ => ?_))
  | (with_reducible refine Rd.iteNB (fun _ => ?_) (fun _ => ?_))
  | (refine Rd.andI (Nat.le_of_ble_eq_true rfl) ?_)
  | dsimp only [List.set])
local macro_rules | `(tactic| walk_at "hp") => `(tactic| first
  | assumption
  | exact upd_same
  | (refine Eq.trans (upd_ne (by first | assumption | (apply Ne.symm; assumption))) ?_; walk_at "hp")
  | (refine hpS (by assumption) ?_; walk_at "hp"))
local macro_rules | `(tactic| walk_at "al") => `(tactic| (with_reducible intro l hl; generalize hG : upd _ l _ = G; have hs := newOne hl hG; clear hG; obtain ⟨hs, he⟩ := hs))
local macro_rules | `(tactic| walk_at "rd") => `(tactic| first
  | walk_at "al"
  | ((with_reducible apply Rd.cat); (walk_at "hp"); (walk_at "hp"); (exact Nat.le_of_ble_eq_true rfl)))
local macro_rules | `(tactic| walk_at "sm") => `(tactic| first
  | assumption
  | exact Same.refl _
  | (refine Same.trans ?_ (by assumption); walk_at "sm"))
local macro_rules | `(tactic| walk_at "fr") => `(tactic| first
  | assumption
  | (refine Same.free (by assumption) ?_; walk_at "fr"))
local macro_rules | `(tactic| walk_at "ty") => `(tactic| first
  | exact dv_ty (by assumption)
  | exact tyD' (by walk_at "hp"))
local macro_rules | `(tactic| walk_at "sz") => `(tactic| first
  | exact sz5 (by omega)
  | (simp only [add_len, one_len]; exact sz5 (by omega)))
local macro_rules | `(tactic| walk_at "rd") => `(tactic| first
  | with_reducible apply Rd.istr
  | with_reducible apply Rd.exstr
  | with_reducible apply Rd.leA
  | with_reducible apply Rd.leZz
  | with_reducible apply Rd.le0
  | with_reducible apply Rd.le9
  | with_reducible apply Rd.niZ
  | ((with_reducible apply Rd.lenZ); (walk_at "sz"))
  | ((with_reducible apply Rd.slZ); (walk_at "sz"))
  | ((with_reducible apply Rd.addZ); (walk_at "sz"))
  | with_reducible apply Rd.raiseX
  | with_reducible apply Rd.exone
  | with_reducible apply Rd.callS
  | with_reducible apply Rd.callP
  | with_reducible apply Rd.xsX
  | with_reducible apply Rd.dnewX
  | with_reducible apply Rd.tyZ)
/-! ### the class Web -/
open Ty Ln
section
variable {P : Program} {w : World} {K : PySem.W.Frag} {mg : Str → Option Value} {base : Heap} {D : Str → Addr}
def wfs (h d l : Addr) : List (Str × V) := [("_houses", .ref h), ("_ends", .ref d), ("_lines", .ref l)]
theorem w12 : ¬ (("_houses" : Str) = "_ends") := by decide +kernel
theorem w13 : ¬ (("_houses" : Str) = "_lines") := by decide +kernel
theorem w23 : ¬ (("_ends" : Str) = "_lines") := by decide +kernel
def wfs1 (h : Addr) : List (Str × V) := [("_houses", .ref h)]
def wfs2 (h d : Addr) : List (Str × V) := [("_houses", .ref h), ("_ends", .ref d)]
theorem wf1 (h : Addr) : putF "_houses" (.ref h) [] = wfs1 h := rfl
theorem wf2 (h d : Addr) : putF "_ends" (.ref d) (wfs1 h) = wfs2 h d := by
  unfold wfs1 putF
  rw [if_neg w12]
  rfl
theorem wf3 (h d l : Addr) : putF "_lines" (.ref l) (wfs2 h d) = wfs h d l := by
  unfold wfs2 putF
  rw [if_neg w13]
  unfold putF
  rw [if_neg w23]
  rfl
theorem lu1 (h : Addr) : (wfs1 h).lookup ("_houses" : Str) = some (.ref h) := by rw [← wf1, lookup_putF, if_pos rfl]
theorem lu2 (h d : Addr) : (wfs2 h d).lookup ("_houses" : Str) = some (.ref h) := by rw [← wf2, lookup_putF, if_neg w12, lu1]
theorem lu3 (h d : Addr) : (wfs2 h d).lookup ("_ends" : Str) = some (.ref d) := by rw [← wf2, lookup_putF, if_pos rfl]
theorem lk1 (h d l : Addr) : (wfs h d l).lookup ("_houses" : Str) = some (.ref h) := by rw [← wf3, lookup_putF, if_neg w13, lu2]
theorem lk2 (h d l : Addr) : (wfs h d l).lookup ("_ends" : Str) = some (.ref d) := by rw [← wf3, lookup_putF, if_neg w23, lu3]
theorem lk3 (h d l : Addr) : (wfs h d l).lookup ("_lines" : Str) = some (.ref l) := by rw [← wf3, lookup_putF, if_pos rfl]
theorem lkno {h d l : Addr} {m : Str} (a : ¬ m = "_houses") (b : ¬ m = "_ends") (c : ¬ m = "_lines") : (wfs h d l).lookup m = none := by
  rw [← wf3, lookup_putF, if_neg c, ← wf2, lookup_putF, if_neg b, ← wf1, lookup_putF, if_neg a]
  rfl
/-- at a a web of the houses zs and the lines ts -/
def WebAt (H : Hp) (C a : Addr) (zs : List Str) (ts : List (Str × Str × Str)) : Prop := ∃ (dx h d l : Addr) (ys : List Str) (ks : List (List Str)) (f : Str → V), H a = some (.ins C dx (wfs h d l)) ∧
  ys.Perm zs ∧ sortedS ys = true ∧ H h = some (.lst (ys.map V.str)) ∧ H d = some (.dK (kd (ts.map (·.1)) f)) ∧ (∀ t ∈ ts, WV H (f t.1) [t.2.1, t.2.2]) ∧ ks.Perm (ts.map tr) ∧ SrtW ks ∧ WL H l ks
theorem sfld {ta tv : TE} {f : Str} {D : Ends} {σ : L2.St} {H : Hp} (h : tv σ H fun y H1 => ta σ H1 fun x H2 => ∃ a C dx fs, x = .ref a ∧ H2 a = some (.ins C dx fs) ∧ Cls K C ∧ NoAttr K C f ∧ fs.length < 1000 ∧ D.nx σ (upd H2 a (.ins C dx (putF f y fs)))) : sFld K ta tv f D σ H := h
theorem fldX {ta : TE} {f : Str} {σ : L2.St} {H : Hp} {Q : VK} (h : ta σ H fun x H1 => ∃ a C dx fs v, x = .ref a ∧ H1 a = some (.ins C dx fs) ∧ Cls K C ∧ NoAttr K C f ∧ fs.lookup f = some v ∧ Q v H1) : tFld K ta f σ H Q := h
theorem dnewXc {σ : L2.St} {H : Hp} {Q : VK} (h : ∀ p, H p = none → Q (.ref p) (upd H p (.dK []))) : tDNewK σ H Q := h
local macro_rules | `(tactic| walk_at "rd") => `(tactic| first
  | with_reducible apply Kj.dnewXc
  | with_reducible apply Kj.sfld
  | with_reducible apply Kj.fldX)
/-- all but what stands at x is kept -/
def Kx (x : Addr) (H H' : Hp) : Prop := ∀ b o, b ≠ x → H b = some o → H' b = some o
theorem Kx.of {x : Addr} {H H' : Hp} (s : Same H H') : Kx x H H' := fun b o _ => s b o
theorem Kx.same {L : Addr} {H G F : Hp} (n : H L = none) (s : Same H G) (k : Kx L G F) : Same H F := fun b o e => k b o (fun z => by rw [z, n] at e; cases e) (s b o e)
theorem Kx.trans {x : Addr} {H H1 H2 : Hp} (a : Kx x H H1) (b : Kx x H1 H2) : Kx x H H2 := fun c o n e => b c o n (a c o n e)
theorem Kx.put {x : Addr} {H : Hp} {o : HO} : Kx x H (upd H x o) := fun b o' n e => (upd_ne n).trans e
theorem Kx.new {x p : Addr} {H : Hp} {o : HO} (h : H p = none) : Kx x H (upd H p o) := .of (same_upd h)
theorem wvs_of {H : Hp} : ∀ {vs : List V} {ks : List (List Str)}, vs.length = ks.length → (∀ (i : Nat) (v : V) (k : List Str), vs[i]? = some v → ks[i]? = some k → WV H v k) → WVs H vs ks
  | [], [], _, _ => trivial
  | v :: vs, k :: ks, l, h => ⟨h 0 v k rfl rfl, wvs_of (Nat.succ.inj l) fun i v' k' a b => h (i + 1) v' k' a b⟩
  | [], _ :: _, l, _ => nomatch l
  | _ :: _, [], l, _ => nomatch l
theorem wv_ins {H : Hp} {x C dx : Addr} {fs : List (Str × V)} {o : HO} {v : V} {k : List Str} (e : H x = some (.ins C dx fs)) (h : WV H v k) : WV (upd H x o) v k := by
  obtain ⟨ok, t, rfl, h⟩ := h
  exact ⟨ok, t, rfl, (upd_ne fun z => by rw [z, e] at h; cases h).trans h⟩
theorem wvs_ins {H : Hp} {x C dx : Addr} {fs : List (Str × V)} {o : HO} {vs : List V} {ks : List (List Str)} (e : H x = some (.ins C dx fs)) (h : WVs H vs ks) : WVs (upd H x o) vs ks := h.all fun _ _ _ k => wv_ins e k
/-- a comprehension whose items are new objects -/
theorem lcWO {J : It} {n : Nat} {Gd : Hp → Prop} {Y : Nat → Hp → V → Hp → Prop} (w : L2.Walk J n Gd Y) {g : TG} {tt : L2.TT} {te : TE} {vs : List Nat} {σ : L2.St} {H : Hp} {Q : VK} (R : Addr → Nat → V → Hp → Prop)
    (mono : ∀ L i v G G', R L i v G → Kx L G G' → R L i v G') (hz : n ≤ 100000) (hG : ∀ h, Same H h → Gd h)
    (hs : ∀ L i x h h', H L = none → i < n → Same H h → (∃ o, h L = some o) → Y i h x h' → ∀ Nx : Hp → Prop, (∀ G y, R L i y G → Same h G → ∃ out, G L = some (.lst out) ∧ out.length < sizeLine ∧ Nx (upd G L (.lst (out ++ [y])))) → Turn1 g tt te vs σ L x h' Nx)
    (hd : ∀ L G us, H L = none → Same H G → G L = some (.lst us) → us.length = n → (∀ i u, us[i]? = some u → R L i u G) → Q (.ref L) G) : LcB J g tt te vs σ H Q := fun L hL => by
  have st : ∀ {G : Hp} {o : HO}, Same H G → Same H (upd G L o) := fun s b o e => (upd_ne (ne_of_none e hL)).trans (s b o e)
  refine L2.lc_it (Qd := Q (.ref L)) w (fun i h => Same H h ∧ ∃ us, h L = some (.lst us) ∧ us.length = i ∧ ∀ j u, us[j]? = some u → R L j u h) ⟨st (.refl H), [], upd_same, rfl, fun j u e => by simp at e⟩ (fun i h _ p => hG h p.1) (fun i x h h' hi p y => ?_) fun h ⟨s, us, e, l, r⟩ => hd L h us hL s e l r
  obtain ⟨s, us, e, l, r⟩ := p
  refine hs L i x h h' hL hi s ⟨_, e⟩ y _ fun G z hz' sG => ⟨us, sG _ _ e, by have := sz5 (Nat.le_refl 100000); omega, st (s.trans sG), us ++ [z], upd_same, by rw [List.length_append, l]; rfl, fun j u hu => ?_⟩
  have kx : Kx L G (upd G L (.lst (us ++ [z]))) := fun b o n e => (upd_ne n).trans e
  by_cases c : j < us.length
  · rw [List.getElem?_append_left c] at hu
    exact mono _ _ _ _ _ (r j u hu) ((Kx.of sG).trans kx)
  · have : j = us.length := by
      have := (List.getElem?_eq_some_iff.mp hu).1
      rw [List.length_append] at this
      have : j < us.length + 1 := this
      omega
    subst this
    rw [List.getElem?_append_right (Nat.le_refl _), Nat.sub_self] at hu
    cases hu
    rw [l]
    exact mono _ _ _ _ _ hz' kx
theorem itemsX {td : TE} {σ : L2.St} {H : Hp} {R : It → Hp → Prop} (h : td σ H fun x H1 => ∃ d o kvs, x = .ref d ∧ H1 d = some (.frz o (.dK kvs)) ∧ R (Iti d o kvs) H1) : iItems td σ H R := h
local macro_rules | `(tactic| walk_at "rd") => `(tactic| first
  | with_reducible apply Kj.itemsX)
/-- Web(houses, lines) of right houses and lines -/
def spWInit (C : Addr) : Sp := fun vs H Q _ => ∃ (x dx g m : Addr) (zs : List Str) (ts : List (Str × Str × Str)), vs = [.ref x, .ref g, .ref m] ∧ H x = some (.ins C dx []) ∧ H g = some (.lst (zs.map V.str)) ∧ zs.Nodup ∧ (∀ z ∈ zs, NmS z) ∧ zs.length ≤ 32 ∧
  WL H m (ts.map tr) ∧ LinesOk zs ts ∧ ts.length ≤ 96 ∧ ∀ H', WebAt H' C x zs ts → (∀ b o, b ≠ x → H b = some o → H' b = some o) → Q .non H'
theorem ok_Web_init (F : DefR K (Mk K (D "Web")) "__init__" "Web.__init__" s_Web_init P_Web_init) (m_sorted : mg "sorted" = none) (KW_Web : ClsF K mg D "Web" ["_houses", "_ends", "_lines"]) (C_check_houses : Ho.CalN P w K mg base 4 "check_houses" P_check_houses spCkHs) (C_ordered : Cal P w K mg base 1 "ordered" P_ordered spOrd) (C_check_new_line : Ho.CalN P w K mg base 6 "check_new_line" P_check_new_line (spCkNew K)) : CalR P w K mg base 7 (Mk K (D "Web")) P_Web_init (spWInit (D "Web")) := by
  refine F.ok sc_Web_init (fun vs H Q E h => ?_) (fun f cdv A outer s H vs Q E hr h => ?_)
  · obtain ⟨x, dx, g, m, zs, ts, rfl, _⟩ := h
    rfl
  obtain ⟨x, dx, g, m, zs, ts, rfl, ex, eg, nd, mz, lz, hm, lo, lt, q⟩ := h
  refine ⟨_, (pss_cons (ps_fld (pv 0 (hd := nd_self) (hcd := nc_self)) (Ho.pe_calN C_check_houses (L2N.takes_of rfl rfl rfl rfl) hr (pa_cons (pv 1 (hd := nd_houses) (hcd := nc_houses)) pa_nil)) rfl)
  (pss_cons (ps_fld (pv 0 (hd := nd_self) (hcd := nc_self)) pe_dnewK rfl)
  (pss_cons (ps_for (passes_of rfl) rfl (pi_list (pv 2 (hd := nd_lines) (hcd := nc_lines))) (pg_tup (by rfl) (pgs_cons (pg_name (i := 3) sc_Web_init.nd rfl (Or.inl rfl)) (pgs_cons (pg_name (i := 4) sc_Web_init.nd rfl (Or.inl rfl)) (pgs_cons (pg_name (i := 5) sc_Web_init.nd rfl (Or.inl rfl)) pgs_nil)))) (pss_cons (ps_expr (Ho.pe_calN C_check_new_line (L2N.takes_of rfl rfl rfl rfl) hr (pa_cons (pe_fld (pv 0 (hd := nd_self) (hcd := nc_self)) rfl) (pa_cons (pe_fld (pv 0 (hd := nd_self) (hcd := nc_self)) rfl) (pa_cons (pv 3 (hd := nd_line) (hcd := nc_line)) (pa_cons (pv 4 (hd := nd_a) (hcd := nc_a)) (pa_cons (pv 5 (hd := nd_b) (hcd := nc_b)) pa_nil)))))))
  (pss_one (ps_asg (pe_cal C_ordered hr (pa_cons (pv 4 (hd := nd_a) (hcd := nc_a)) (pa_cons (pv 5 (hd := nd_b) (hcd := nc_b)) pa_nil)) (hdb := nd_ordered)) (pg_sub (pe_fld (pv 0 (hd := nd_self) (hcd := nc_self)) rfl) (pv 3 (hd := nd_line) (hcd := nc_line)) (set_dict (un1 hr)))))))
  (pss_one (ps_fld (pv 0 (hd := nd_self) (hcd := nc_self)) (pe_callB (cr_sortedTSK (K := K) rfl) (by rfl) m_sorted bb_sorted (pa_cons (pe_lock (pe_lc (own := [("line", 3), ("low", 6), ("high", 7)]) (by rfl) sc_Web_init.nd (pi_items (pe_fld (pv 0 (hd := nd_self) (hcd := nc_self)) rfl)) (blkOk_by (N := N_Web_init) (sc := defScope s_Web_init) (by decide +kernel)) (fun _ _ _ _ _ => (Rd.pg_tupK (K := K) (n := 2) rfl (by rfl) (pgs_cons (pg_name (i := 3) sc_Web_init.nd rfl (Or.inl rfl)) (pgs_cons (Rd.pg_tupK (K := K) (n := 2) rfl (by rfl) (pgs_cons (pg_name (i := 6) sc_Web_init.nd rfl (Or.inl rfl)) (pgs_cons (pg_name (i := 7) sc_Web_init.nd rfl (Or.inl rfl)) pgs_nil))) pgs_nil)))) (fun _ _ _ _ _ => pts_nil) (fun _ _ _ _ _ => (pe_tup (pa_cons (pv 3 (hd := nd_line) (hcd := nc_line)) (pa_cons (pv 6 (hd := nd_low) (hcd := nc_low)) (pa_cons (pv 7 (hd := nd_high) (hcd := nc_high)) pa_nil))))))) pa_nil) (hn := nn_sorted) (hdb := nd_sorted)) rfl))))), ?_⟩
  refine Rd.at0 (σ := [some (.ref x), some (.ref g), some (.ref m), none, none, none, none, none]) rfl ?_
  have na1 : NoAttr K (D "Web") "_houses" := KW_Web.na _ (.head _)
  have na2 : NoAttr K (D "Web") "_ends" := KW_Web.na _ (.tail _ (.head _))
  have na3 : NoAttr K (D "Web") "_lines" := KW_Web.na _ (.tail _ (.tail _ (.head _)))
  repeat' (walk_at "rd")
  refine ⟨g, zs, rfl, eg, nd, mz, lz, fun L ys G pm sy nL s1 eL => ?_⟩
  have neL : L ≠ x := fun z => by rw [z, ex] at nL; cases nL
  have ex1 := s1 _ _ ex
  repeat' (walk_at "rd")
  refine ⟨x, _, dx, _, rfl, ex1, KW_Web.cl, na1, by show 0 < 1000; decide, ?_⟩
  rw [wf1]
  have k1 : Kx x H (upd G x (.ins (D "Web") dx (wfs1 L))) := (Kx.of s1).trans .put
  have ex2 : upd G x (.ins (D "Web") dx (wfs1 L)) x = some (.ins (D "Web") dx (wfs1 L)) := upd_same
  have eL2 : upd G x (.ins (D "Web") dx (wfs1 L)) L = some (.lst (ys.map V.str)) := (upd_ne neL).trans eL
  generalize upd G x (.ins (D "Web") dx (wfs1 L)) = H2 at *
  repeat' (walk_at "rd")
  rename_i d nD G3 s3 ed3
  have ned : d ≠ x := fun z => by rw [z, ex2] at nD; cases nD
  refine ⟨x, _, dx, _, rfl, s3 _ _ ex2, KW_Web.cl, na2, by show 1 < 1000; decide, ?_⟩
  rw [wf2]
  have k2 : Kx x H (upd G3 x (.ins (D "Web") dx (wfs2 L d))) := (k1.trans (.of s3)).trans .put
  have ex3 : upd G3 x (.ins (D "Web") dx (wfs2 L d)) x = some (.ins (D "Web") dx (wfs2 L d)) := upd_same
  have nLd : L ≠ d := fun z => by rw [← z, eL2] at nD; cases nD
  have eL3 : upd G3 x (.ins (D "Web") dx (wfs2 L d)) L = some (.lst (ys.map V.str)) := (upd_ne neL).trans (s3 _ _ eL2)
  have ed4 : upd G3 x (.ins (D "Web") dx (wfs2 L d)) d = some (.dK []) := (upd_ne ned).trans ed3
  generalize upd G3 x (.ins (D "Web") dx (wfs2 L d)) = H3 at *
  obtain ⟨us, em, hus⟩ := hm
  have nemx : m ≠ x := fun z => by rw [z, ex] at em; cases em
  have nHd : H d = none := by
    cases e : H d with
    | none => rfl
    | some o => rw [k1 d o ned e] at nD; cases nD
  repeat' (walk_at "rd")
  refine ⟨m, rfl, ⟨us, .inl (.inl (k2 _ _ nemx em))⟩, ?_⟩
  repeat' (walk_at "rd")
  refine forL us (fun i σ H' => ∃ (fk : Str → V) (v3 v4 v5 : Option V), σ = [some (.ref x), some (.ref g), some (.ref m), v3, v4, v5, none, none] ∧ H' x = some (.ins (D "Web") dx (wfs2 L d)) ∧ H' d = some (.dK (kd ((ts.take i).map (·.1)) fk)) ∧
    (∀ t ∈ ts.take i, WV H' (fk t.1) [t.2.1, t.2.2]) ∧ H' L = some (.lst (ys.map V.str)) ∧ Kx x H H') ⟨fun _ => .non, none, none, none, rfl, ex3, ed4, (fun _ h => nomatch h), eL3, k2⟩ (fun _ _ _ _ ⟨_, _, _, _, _, _, _, _, _, k⟩ => .inl (.inl (k _ _ nemx em))) ?_ ?_
  · rintro i x0 σ H' hx ⟨fk, v3, v4, v5, rfl, ex', ed', hw, eL', k'⟩
    obtain ⟨kk, hk, ⟨okk, t0, rfl, et0⟩⟩ := hus.at hx
    rw [List.getElem?_map] at hk
    obtain ⟨⟨n, a, b⟩, ht, rfl⟩ := Option.map_eq_some_iff.mp hk
    have ne0 : t0 ≠ x := fun z => by rw [z, ex] at et0; cases et0
    have et0' := k' _ _ ne0 et0
    obtain ⟨li, ei⟩ := List.getElem?_eq_some_iff.mp ht
    have mt := List.mem_of_getElem? ht
    have men := lo.en _ mt
    have mnn := lo.nm _ mt
    have nn : n ∉ (ts.take i).map (·.1) := fun hmem => by
      have h1 : (ts.map (·.1))[i]? = some n := by rw [List.getElem?_map, ht]; rfl
      rw [List.map_take] at hmem
      obtain ⟨j, hj, e⟩ := List.mem_take_iff_getElem.mp hmem
      obtain ⟨h2, h3⟩ := List.getElem?_eq_some_iff.mp h1
      have := (List.getElem_inj lo.nd).mp (e.trans h3.symm)
      omega
    have lk : ((ts.take i).map (·.1)).length = i := by rw [List.length_map, List.length_take, Nat.min_eq_left (by omega)]
    have nab : a ≠ b := fun e => by rw [e] at men; exact List.lt_irrefl _ men.2.2
    repeat' (walk_at "rd")
    simp only [tr, List.map_cons, List.map_nil]
    repeat' (walk_at "rd")
    refine ⟨x, _, dx, _, .ref L, rfl, ex', KW_Web.cl, na1, lu2 _ _, ?_⟩
    repeat' (walk_at "rd")
    refine ⟨x, _, dx, _, .ref d, rfl, ex', KW_Web.cl, na2, lu3 _ _, ?_⟩
    repeat' (walk_at "rd")
    refine ⟨L, d, ys, _, fk, n, a, b, rfl, .inl (.inl eL'), ed', (fun z hz => mz z (pm.mem_iff.mp hz)), mnn, pm.mem_iff.mpr men.1, pm.mem_iff.mpr men.2.1, nab, nn, by rw [lk]; omega, fun H5 s5 => ?_⟩
    repeat' (walk_at "rd")
    refine ⟨a, b, rfl, fun p H6 n6 s6 e6 => ?_⟩
    have eo : ordD a b = [a, b] := if_neg fun z => List.lt_irrefl _ (List.lt_trans z men.2.2)
    rw [eo] at e6
    have s56 := s5.trans s6
    repeat' (walk_at "rd")
    refine ⟨x, _, dx, _, .ref d, rfl, s56 _ _ ex', KW_Web.cl, na2, lu3 _ _, ?_⟩
    repeat' (walk_at "rd")
    refine dnewK (s56 _ _ ed') nn (by rw [lk]; omega) ?_
    have npx : p ≠ x := fun z => by rw [z, s5 _ _ ex'] at n6; cases n6
    refine ⟨fun y => if y = n then V.ref p else fk y, _, _, _, rfl, (upd_ne (Ne.symm ned)).trans (s56 _ _ ex'), ?_, fun u hu => ?_, (upd_ne nLd).trans (s56 _ _ eL'), fun c o nc hc => ?_⟩
    · rw [List.take_add_one, ht, List.map_append]
      exact upd_same
    · have wv : ∀ {v : V} {k : List Str}, WV H' v k → WV (upd H6 d (.dK (kd ((ts.take i).map (·.1) ++ [n]) fun y => if y = n then V.ref p else fk y))) v k := fun {v k} h => by
        obtain ⟨ok, t', rfl, ht'⟩ := h
        exact ⟨ok, t', rfl, (upd_ne fun z => by rw [z, ed'] at ht'; cases ht').trans (s56 _ _ ht')⟩
      rw [List.take_add_one, ht] at hu
      rcases List.mem_append.mp hu with hu | hu
      · have : u.1 ≠ n := fun z => nn (List.mem_map.mpr ⟨u, hu, z⟩)
        show WV _ (if u.1 = n then _ else _) _
        rw [if_neg this]
        exact wv (hw u hu)
      · have hu : u = (n, a, b) := by simpa using hu
        subst hu
        show WV _ (if n = n then V.ref p else fk n) [a, b]
        rw [if_pos rfl]
        refine ⟨fun z hz => ?_, p, rfl, (upd_ne fun z => ?_).trans e6⟩
        · have hz : z = a ∨ z = b := by simpa using hz
          rcases hz with rfl | rfl
          · exact nm_ok (mz _ men.1)
          · exact nm_ok (mz _ men.2.1)
        · rw [z, s5 _ _ ed'] at n6
          cases n6
    · have : c ≠ d := fun z => by rw [z, nHd] at hc; cases hc
      exact (upd_ne this).trans (s56 _ _ (k' _ _ nc hc))
  · rintro σ H' ⟨fk, v3, v4, v5, rfl, ex', ed', hw, eL', k'⟩
    have lus : us.length = ts.length := by rw [hus.len, List.length_map]
    rw [List.take_of_length_le (by omega)] at ed' hw
    repeat' (walk_at "rd")
    refine lockE ed' fun od => ?_
    have exF : upd H' d (.frz od (.dK (kd (ts.map (·.1)) fk))) x = _ := (upd_ne (Ne.symm ned)).trans ex'
    have edF : upd H' d (.frz od (.dK (kd (ts.map (·.1)) fk))) d = _ := upd_same
    repeat' (walk_at "rd")
    refine ⟨x, _, dx, _, .ref d, rfl, exF, KW_Web.cl, na2, lu3 _ _, ?_⟩
    repeat' (walk_at "rd")
    refine ⟨d, od, _, rfl, edF, ?_⟩
    refine lcWO (L2.walk_items (o := od) (d := d) (kvs := kd (ts.map (·.1)) fk)) (fun L1 i y G => ∃ t p, ts[i]? = some t ∧ y = .ref p ∧ p ≠ L1 ∧ p ≠ d ∧ G p = some (.tup ((tr t).map V.str))) ?_ (by rw [kd_len, List.length_map]; omega) (fun h s => s _ _ edF) ?_ ?_
    · rintro L1 i y G G' ⟨t, p, h1, h2, n1, n2, e⟩ kx
      exact ⟨t, p, h1, h2, n1, n2, kx _ _ n1 e⟩
    · rintro L1 i x0 h h' nL1 hi sh ⟨oL, eoL⟩ ⟨T, kk, vv, rfl, nT, rfl, ek, ev⟩ Nx yes
      rw [kd_len, List.length_map] at hi
      obtain ⟨t, ht⟩ : ∃ t, ts[i]? = some t := ⟨_, List.getElem?_eq_getElem hi⟩
      have ekv : (kd (ts.map (·.1)) fk)[i]? = some (Sum.inr t.1, fk t.1) := by
        unfold kd
        rw [List.getElem?_map, List.getElem?_map, ht]
        rfl
      dsimp only at ek ev
      rw [ekv] at ek ev
      obtain rfl : V.str t.1 = kk := Option.some.inj ek
      obtain ⟨ok2, q2, eq2, hq2⟩ := hw t (List.mem_of_getElem? ht)
      obtain rfl : V.ref q2 = vv := eq2.symm.trans (Option.some.inj ev)
      have nqd : q2 ≠ d := fun z => by rw [z, ed'] at hq2; cases hq2
      have hq3 := sh _ _ ((upd_ne nqd).trans hq2)
      have sT := same_upd (o := .tup [.str t.1, .ref q2]) nT
      have eT : upd h T (.tup [.str t.1, .ref q2]) T = some (.tup [.str t.1, .ref q2]) := upd_same
      have hq4 : upd h T (.tup [.str t.1, .ref q2]) q2 = some (.tup [.str t.2.1, .str t.2.2]) := sT _ _ hq3
      have eL4 := sT _ _ eoL
      have ed4 := sT _ _ (sh _ _ edF)
      have sT0 : Same h (upd h T (.tup [.str t.1, .ref q2])) := sT
      generalize upd h T (.tup [.str t.1, .ref q2]) = h4 at *
      refine turn1 ?_
      repeat' (walk_at "rd")
      refine ⟨rfl, ?_⟩
      repeat' (walk_at "rd")
      rename_i p n5 G5 s5 e5
      exact yes G5 _ ⟨t, p, ht, rfl, (fun z => by rw [z, eL4] at n5; cases n5), (fun z => by rw [z, ed4] at n5; cases n5), e5⟩ (sT0.trans s5)
    · rintro L1 G us2 nL1 sG eL1 lus2 hR
      refine ⟨sG _ _ edF, ?_⟩
      have ned1 : d ≠ L1 := fun z => by rw [← z, edF] at nL1; cases nL1
      have exG : upd G d (.dK (kd (ts.map (·.1)) fk)) x = _ := (upd_ne (Ne.symm ned)).trans (sG _ _ exF)
      have edG : upd G d (.dK (kd (ts.map (·.1)) fk)) d = _ := upd_same
      have eLG : upd G d (.dK (kd (ts.map (·.1)) fk)) L = _ := (upd_ne nLd).trans (sG _ _ ((upd_ne nLd).trans eL'))
      have wG : ∀ t ∈ ts, WV (upd G d (.dK (kd (ts.map (·.1)) fk))) (fk t.1) [t.2.1, t.2.2] := fun t ht => by
        obtain ⟨ok, t', e, h⟩ := hw t ht
        have n : t' ≠ d := fun z => by rw [z, ed'] at h; cases h
        exact ⟨ok, t', e, (upd_ne n).trans (sG _ _ ((upd_ne n).trans h))⟩
      have wlG : WL (upd G d (.dK (kd (ts.map (·.1)) fk))) L1 (ts.map tr) := by
        refine ⟨us2, (upd_ne (Ne.symm ned1)).trans eL1, wvs_of (by rw [lus2, kd_len, List.length_map, List.length_map]) fun i v k hv hk => ?_⟩
        obtain ⟨t, p, h1, rfl, n1, n2, h3⟩ := hR i v hv
        rw [List.getElem?_map, h1] at hk
        obtain rfl : tr t = k := Option.some.inj hk
        exact ⟨hus.ok _ (List.mem_map.mpr ⟨t, List.mem_of_getElem? h1, rfl⟩), p, rfl, (upd_ne n2).trans h3⟩
      have kG : Kx x H (upd G d (.dK (kd (ts.map (·.1)) fk))) := fun c o nc hc => by
        have n : c ≠ d := fun z => by rw [z, nHd] at hc; cases hc
        exact (upd_ne n).trans (sG _ _ ((upd_ne n).trans (k' _ _ nc hc)))
      generalize upd G d (.dK (kd (ts.map (·.1)) fk)) = G2 at *
      repeat' (walk_at "rd")
      refine sortW wlG (fun k hk => ?_) fun js p G3 pj sj np s3 wl3 => ?_
      · obtain ⟨t, _, rfl⟩ := List.mem_map.mp hk
        exact List.cons_ne_nil _ _
      repeat' (walk_at "rd")
      have ex3 := s3 _ _ exG
      have npx : p ≠ x := fun z => by rw [z, exG] at np; cases np
      refine ⟨x, _, dx, _, rfl, ex3, KW_Web.cl, na3, by show 2 < 1000; decide, ?_⟩
      rw [wf3]
      obtain ⟨v3, e3, w3⟩ := wl3
      exact q _ ⟨dx, L, d, p, ys, js, fk, upd_same, pm, sy, (upd_ne neL).trans (s3 _ _ eLG), (upd_ne ned).trans (s3 _ _ edG), fun t ht => wv_ins ex3 ((wG t ht).same s3), pj, sj, v3, (upd_ne npx).trans e3, wvs_ins ex3 w3⟩ ((kG.trans (.of s3)).trans .put)
end
end Kj
namespace Kj
open PySem PySem.Spec PyProof.Rows L2 Rd
/-! ### the stepper -/
local macro_rules | `(tactic| walk_at "hp") => `(tactic| first
  | assumption
  | exact upd_same
  | (refine Eq.trans (upd_ne (by first | assumption | (apply Ne.symm; assumption))) ?_; walk_at "hp"))
local macro_rules | `(tactic| walk_at "sq") => `(tactic| first
  | assumption
  | (refine Or.inl (Or.inl ?_); walk_at "hp"))
local macro_rules | `(tactic| walk_at "st") => `(tactic| first
  | assumption
  | (refine Or.inl (Or.inl ?_); walk_at "hp"))
local macro_rules | `(tactic| walk_at "ar") => `(tactic| first
  | assumption
  | omega
  | decide)
local macro_rules | `(tactic| walk_at "ci") => `(tactic| first
  | (refine (show CMul _ _ from Or.inr ⟨?_, ?_⟩) <;> omega)
  | (refine (show CMul _ _ from Or.inl ⟨?_, ?_⟩) <;> omega)
  | (show CPow _ _; exact ⟨by decide, by decide, by decide⟩)
  | (refine wide_div (b := 63) ?_ ?_ (by decide) (by decide) <;> omega)
  | (show (0 : Int) < _; omega))
local macro_rules | `(tactic| walk_at "ty") => `(tactic| first
  | exact dp_ty (by assumption)
  | exact TyX.base (TyOf.int _)
  | exact TyX.base (TyOf.str _)
  | exact TyX.base (TyOf.bl _)
  | exact TyX.base TyOf.non
  | exact tyL' (by walk_at "sq")
  | exact tyT' (by walk_at "st"))
local macro_rules | `(tactic| walk_at "isi") => `(tactic| first
  | ((with_reducible apply Rd.isiF); (walk_at "ty"); (decide))
  | ((with_reducible apply Rd.isiT); (walk_at "ty"); (decide)))
local macro_rules | `(tactic| walk_at "rd") => `(tactic| first
  | with_reducible apply Rd.seq
  | ((with_reducible apply Rd.var); rfl)
  | with_reducible apply Rd.con
  | with_reducible apply Rd.op
  | with_reducible apply Rd.asg
  | ((with_reducible apply Rd.gname); ((dsimp only [List.set, L2.wipe, Int.reduceToNat]) <;> rfl))
  | with_reducible apply Rd.nxt
  | with_reducible apply Rd.ifs
  | with_reducible apply Rd.test
  | with_reducible apply Rd.testB
  | with_reducible apply Rd.exbl
  | with_reducible apply Rd.ret
  | with_reducible apply Rd.drop
  | with_reducible apply Rd.retN
  | with_reducible apply Rd.nil
  | with_reducible apply Rd.cons
  | with_reducible apply Rd.call
  | with_reducible apply Rd.cb
  | with_reducible apply Rd.and
  | with_reducible apply Rd.or
  | with_reducible apply Rd.not
  | with_reducible apply Rd.andV
  | with_reducible apply Rd.orV
  | with_reducible apply Rd.notV
  | with_reducible apply Rd.ife
  | with_reducible apply Rd.tup
  | with_reducible apply Rd.lst
  | with_reducible apply Rd.un
  | with_reducible apply Rd.chain
  | with_reducible apply Rd.brk
  | with_reducible apply Rd.cnt
  | with_reducible apply Rd.I0
  | with_reducible apply Rd.U1
  | ((with_reducible apply Rd.eq); rfl)
  | ((with_reducible apply Rd.ne); rfl)
  | ((with_reducible apply Rd.I1); (walk_at "ci"))
  | with_reducible apply Rd.lc0
  | with_reducible apply Rd.ln0
  | with_reducible apply Rd.exN
  | ((with_reducible apply Rd.iteSf); (decide +kernel))
  | ((with_reducible apply Rd.iteSt); (decide +kernel))
  | ((with_reducible apply Rd.niQ); (exact Or.inl (by walk_at "sq")); (exact ⟨rfl, rfl⟩); (rfl))
  | ((with_reducible apply Rd.inQ); (exact Or.inl (by walk_at "sq")); (exact ⟨rfl, rfl⟩); (rfl))
  | with_reducible apply Rd.rn1
  | with_reducible apply Rd.in1
  | with_reducible apply Rd.sn1
  | with_reducible apply Rd.bn1
  | with_reducible apply Rd.nn1
  | with_reducible apply Rd.rn2
  | with_reducible apply Rd.in2
  | with_reducible apply Rd.sn2
  | with_reducible apply Rd.bn2
  | with_reducible apply Rd.nn2
  | with_reducible apply Rd.nt1
  | with_reducible apply Rd.nf1
  | (with_reducible refine Rd.iteI (fun _ => ?_) (fun _ => ?_))
  | (with_reducible refine Rd.iteNI (fun _ => ?_) (fun _ => ?_))
  | (with_reducible refine iteT ?_)
  | (with_reducible refine iteF ?_)
  | (with_reducible refine Rd.iteD (fun _ => ?_) (fun _ => ?_))
  | (with_reducible refine Rd.iteN (fun _ => ?_) (fun _ => ?_))
  | with_reducible apply Rd.intI
  | with_reducible apply Rd.intB
  | with_reducible apply Rd.maxQ
  | with_reducible apply Rd.minQ
  | with_reducible apply Rd.absQ
  | with_reducible apply Rd.isN
  | with_reducible apply Rd.noN
  | with_reducible apply Rd.ltZ
  | with_reducible apply Rd.bm
  | with_reducible apply Rd.bm0
  | with_reducible apply Rd.par
  | with_reducible apply Rd.expar
  | with_reducible apply Rd.exint
  | with_reducible apply Rd.ipi
  | with_reducible apply Rd.slice
  | with_reducible apply Rd.noPart
  | with_reducible apply Rd.part
  | with_reducible apply Rd.gcons
  | with_reducible apply Rd.gnil
  | with_reducible apply Rd.iseq
  | with_reducible apply Rd.irng1
  | walk_at "isi"
  | with_reducible apply Rd.forX
  | with_reducible apply Rd.lstRev
  | with_reducible apply Rd.lstRg
  | with_reducible apply Rd.rg1
  | with_reducible apply Rd.rg2
  | with_reducible apply Rd.exint2
  | ((with_reducible apply Rd.exrev); (walk_at "sq"))
  | with_reducible apply Rd.lcX
  | with_reducible apply Rd.yes
  | ((with_reducible apply Rd.exrng1); (constructor <;> omega))
  | ((with_reducible apply Rd.exrng2); (refine ⟨?_, ?_, ?_, ?_⟩ <;> omega))
  | with_reducible apply Rd.irng2
  | ((with_reducible apply Rd.aug); rfl)
  | ((with_reducible apply Rd.exlst); (walk_at "sq"))
  | ((with_reducible apply Rd.gtup); (walk_at "st"); (rfl))
  | ((with_reducible apply Rd.tyL); (walk_at "hp"))
  | ((with_reducible apply Rd.ixL); (walk_at "sq"); (rfl))
  | ((with_reducible apply Rd.ixI); (walk_at "sq"); (omega); (first | assumption | (simp only [List.length_map]; omega)); (intro _ _))
  | (with_reducible refine Rd.gsub ?_)
  | ((with_reducible apply Rd.setL); (walk_at "hp"); (rfl); ((dsimp only [List.set, L2.wipe, Int.reduceToNat]) <;> rfl))
  | ((with_reducible apply Rd.lenQ); (first | exact Or.inl (by walk_at "sq") | exact Or.inr (by walk_at "st")))
  | ((with_reducible apply Rd.listQ); (first | exact Or.inl (by walk_at "sq") | exact Or.inr (by walk_at "st")))
  | ((with_reducible apply Rd.tupQ); (walk_at "sq"))
  | ((with_reducible apply Rd.slL); (walk_at "sq"))
  | ((with_reducible apply Rd.ixT); (walk_at "st"); (rfl))
  | (with_reducible refine Rd.iteB (fun _ => ?_) (fun _ => ?_))
  | (with_reducible refine Rd.iteNB (fun _ => ?_) (fun _ => ?_))
  | (refine Rd.andI (Nat.le_of_ble_eq_true rfl) ?_)
  | dsimp only [List.set])
local macro_rules | `(tactic| walk_at "hp") => `(tactic| first
  | assumption
  | exact upd_same
  | (refine Eq.trans (upd_ne (by first | assumption | (apply Ne.symm; assumption))) ?_; walk_at "hp")
  | (refine hpS (by assumption) ?_; walk_at "hp"))
local macro_rules | `(tactic| walk_at "al") => `(tactic| (with_reducible intro l hl; generalize hG : upd _ l _ = G; have hs := newOne hl hG; clear hG; obtain ⟨hs, he⟩ := hs))
local macro_rules | `(tactic| walk_at "rd") => `(tactic| first
  | walk_at "al"
  | ((with_reducible apply Rd.cat); (walk_at "hp"); (walk_at "hp"); (exact Nat.le_of_ble_eq_true rfl)))
local macro_rules | `(tactic| walk_at "sm") => `(tactic| first
  | assumption
  | exact Same.refl _
  | (refine Same.trans ?_ (by assumption); walk_at "sm"))
local macro_rules | `(tactic| walk_at "fr") => `(tactic| first
  | assumption
  | (refine Same.free (by assumption) ?_; walk_at "fr"))
local macro_rules | `(tactic| walk_at "ty") => `(tactic| first
  | exact dv_ty (by assumption)
  | exact tyD' (by walk_at "hp"))
local macro_rules | `(tactic| walk_at "sz") => `(tactic| first
  | exact sz5 (by omega)
  | (simp only [add_len, one_len]; exact sz5 (by omega)))
local macro_rules | `(tactic| walk_at "rd") => `(tactic| first
  | with_reducible apply Rd.istr
  | with_reducible apply Rd.exstr
  | with_reducible apply Rd.leA
  | with_reducible apply Rd.leZz
  | with_reducible apply Rd.le0
  | with_reducible apply Rd.le9
  | with_reducible apply Rd.niZ
  | ((with_reducible apply Rd.lenZ); (walk_at "sz"))
  | ((with_reducible apply Rd.slZ); (walk_at "sz"))
  | ((with_reducible apply Rd.addZ); (walk_at "sz"))
  | with_reducible apply Rd.raiseX
  | with_reducible apply Rd.exone
  | with_reducible apply Rd.callS
  | with_reducible apply Rd.callP
  | with_reducible apply Rd.xsX
  | with_reducible apply Rd.dnewX
  | with_reducible apply Rd.tyZ)
/-! ### a web is asked -/
open Ty Ln
section
variable {P : Program} {w : World} {K : PySem.W.Frag} {mg : Str → Option Value} {base : Heap} {D : Str → Addr}
local macro_rules | `(tactic| walk_at "rd") => `(tactic| first
  | with_reducible apply Rd.dget
  | with_reducible apply Rd.din
  | with_reducible apply Kj.dinXb
  | with_reducible apply Kj.fldX)
theorem WebAt.same {H H' : Hp} {C a : Addr} {zs : List Str} {ts : List (Str × Str × Str)} (h : WebAt H C a zs ts) (s : Same H H') : WebAt H' C a zs ts := by
  obtain ⟨dx, g, d, l, ys, ks, f, ea, pm, sy, eg, ed, hw, pk, sk, wl⟩ := h
  exact ⟨dx, g, d, l, ys, ks, f, s _ _ ea, pm, sy, s _ _ eg, s _ _ ed, (fun t ht => (hw t ht).same s), pk, sk, wl.same s⟩
/-- web.houses -/
def spWHouses (C : Addr) : Sp := fun vs H Q _ => ∃ (a : Addr) (zs : List Str) (ts : List (Str × Str × Str)), vs = [.ref a] ∧ WebAt H C a zs ts ∧ zs.length ≤ 1000 ∧ ∀ L ys H', ys.Perm zs → sortedS ys = true → H L = none → Same H H' → H' L = some (.lst (ys.map V.str)) → Q (.ref L) H'
theorem ok_Web_houses (F : DefR K (PropR K (D "Web") "houses") "houses" "Web.houses" s_Web_houses P_Web_houses) (m_list : mg "list" = none) (m_property : mg "property" = none) (KW_Web : ClsF K mg D "Web" ["_houses", "_ends", "_lines"]) : CalR P w K mg base 2 (PropR K (D "Web") "houses") P_Web_houses (spWHouses (D "Web")) := by
  refine F.ok sc_Web_houses (fun vs H Q E h => ?_) (fun f cdv A outer s H vs Q E hr h => ?_)
  · obtain ⟨a, zs, ts, rfl, _⟩ := h
    rfl
  obtain ⟨a, zs, ts, rfl, ⟨dx, g, d, l, ys, ks, f, ea, pm, sy, eg, ed, hw, pk, sk, wl⟩, lz, q⟩ := h
  refine ⟨_, (pss_one (ps_ret (pe_callTy q_list (by rfl) m_list bb_list (pa_cons (pe_fld (pv 0 (hd := nd_self) (hcd := nc_self)) rfl) pa_nil) (hn := nn_list) (hdb := nd_list)))), ?_⟩
  refine Rd.at0 (σ := [some (.ref a)]) rfl ?_
  repeat' (walk_at "rd")
  refine ⟨a, _, dx, _, .ref g, rfl, ea, KW_Web.cl, KW_Web.na _ (.head _), lk1 _ _ _, ?_⟩
  repeat' (walk_at "rd")
  rename_i L n G s e
  exact q L ys G pm sy n s e
/-- web.lines -/
def spWLines (C : Addr) : Sp := fun vs H Q _ => ∃ (a : Addr) (zs : List Str) (ts : List (Str × Str × Str)), vs = [.ref a] ∧ WebAt H C a zs ts ∧ ∀ L ks H', ks.Perm (ts.map tr) → SrtW ks → H L = none → Same H H' → WL H' L ks → Q (.ref L) H'
theorem ok_Web_lines (F : DefR K (PropR K (D "Web") "lines") "lines" "Web.lines" s_Web_lines P_Web_lines) (m_list : mg "list" = none) (m_property : mg "property" = none) (KW_Web : ClsF K mg D "Web" ["_houses", "_ends", "_lines"]) : CalR P w K mg base 2 (PropR K (D "Web") "lines") P_Web_lines (spWLines (D "Web")) := by
  refine F.ok sc_Web_lines (fun vs H Q E h => ?_) (fun f cdv A outer s H vs Q E hr h => ?_)
  · obtain ⟨a, zs, ts, rfl, _⟩ := h
    rfl
  obtain ⟨a, zs, ts, rfl, ⟨dx, g, d, l, ys, ks, f, ea, pm, sy, eg, ed, hw, pk, sk, us, el, wl⟩, q⟩ := h
  refine ⟨_, (pss_one (ps_ret (pe_callTy q_list (by rfl) m_list bb_list (pa_cons (pe_fld (pv 0 (hd := nd_self) (hcd := nc_self)) rfl) pa_nil) (hn := nn_list) (hdb := nd_list)))), ?_⟩
  refine Rd.at0 (σ := [some (.ref a)]) rfl ?_
  repeat' (walk_at "rd")
  refine ⟨a, _, dx, _, .ref l, rfl, ea, KW_Web.cl, KW_Web.na _ (.tail _ (.tail _ (.head _))), lk3 _ _ _, ?_⟩
  repeat' (walk_at "rd")
  rename_i L n G s e
  exact q L ks G pk sk n s ⟨us, e, wl.same s⟩
/-- web.ends(line) of a line -/
def spWEnds (C : Addr) : Sp := fun vs H Q _ => ∃ (a : Addr) (zs : List Str) (ts : List (Str × Str × Str)) (t : Str × Str × Str), vs = [.ref a, .str t.1] ∧ WebAt H C a zs ts ∧ t ∈ ts ∧ NmS t.1 ∧ ∀ v H', Same H H' → WV H' v [t.2.1, t.2.2] → Q v H'
theorem ok_Web_ends (F : DefR K (Meth K (D "Web") "ends") "ends" "Web.ends" s_Web_ends P_Web_ends) (KW_Web : ClsF K mg D "Web" ["_houses", "_ends", "_lines"]) (C_check_line_stands : Ho.CalN P w K mg base 4 "check_line_stands" P_check_line_stands spCkStands) : CalR P w K mg base 5 (Meth K (D "Web") "ends") P_Web_ends (spWEnds (D "Web")) := by
  refine F.ok sc_Web_ends (fun vs H Q E h => ?_) (fun f cdv A outer s H vs Q E hr h => ?_)
  · obtain ⟨a, zs, ts, t, rfl, _⟩ := h
    rfl
  obtain ⟨a, zs, ts, t, rfl, ⟨dx, g, d, l, ys, ks, f, ea, pm, sy, eg, ed, hw, pk, sk, wl⟩, mt, mn, q⟩ := h
  refine ⟨_, (pss_cons (ps_expr (Ho.pe_calN C_check_line_stands (L2N.takes_of rfl rfl rfl rfl) hr (pa_cons (pe_fld (pv 0 (hd := nd_self) (hcd := nc_self)) rfl) (pa_cons (pv 1 (hd := nd_line) (hcd := nc_line)) pa_nil))))
  (pss_one (ps_ret (pe_dget (un1 hr) (pe_fld (pv 0 (hd := nd_self) (hcd := nc_self)) rfl) (pv 1 (hd := nd_line) (hcd := nc_line)) (fun _ _ => rfl))))), ?_⟩
  refine Rd.at0 (σ := [some (.ref a), some (.str t.1)]) rfl ?_
  have mt1 : t.1 ∈ ts.map (·.1) := List.mem_map.mpr ⟨t, mt, rfl⟩
  repeat' (walk_at "rd")
  refine ⟨a, _, dx, _, .ref d, rfl, ea, KW_Web.cl, KW_Web.na _ (.tail _ (.head _)), lk2 _ _ _, ?_⟩
  repeat' (walk_at "rd")
  refine ⟨d, _, f, t.1, rfl, ed, mn, mt1, fun H1 s1 => ?_⟩
  repeat' (walk_at "rd")
  refine ⟨a, _, dx, _, .ref d, rfl, s1 _ _ ea, KW_Web.cl, KW_Web.na _ (.tail _ (.head _)), lk2 _ _ _, ?_⟩
  repeat' (walk_at "rd")
  exact dgetK (s1 _ _ ed) mt1 (q _ H1 s1 ((hw t mt).same s1))
/-- line in web, of a text -/
def spWIn (C : Addr) : Sp := fun vs H Q _ => ∃ (a : Addr) (zs : List Str) (ts : List (Str × Str × Str)) (n : Str), vs = [.ref a, .str n] ∧ WebAt H C a zs ts ∧ Q (.bl (decide (n ∈ ts.map (·.1)))) H
theorem ok_Web_contains (F : DefR K (InR K (D "Web")) "__contains__" "Web.__contains__" s_Web_contains P_Web_contains) (m_isinstance : mg "isinstance" = none) (m_str : mg "str" = none) (KW_Web : ClsF K mg D "Web" ["_houses", "_ends", "_lines"]) : CalR P w K mg base 2 (InR K (D "Web")) P_Web_contains (spWIn (D "Web")) := by
  refine F.ok sc_Web_contains (fun vs H Q E h => ?_) (fun f cdv A outer s H vs Q E hr h => ?_)
  · obtain ⟨a, zs, ts, n, rfl, _⟩ := h
    rfl
  obtain ⟨a, zs, ts, n, rfl, ⟨dx, g, d, l, ys, ks, f, ea, pm, sy, eg, ed, hw, pk, sk, wl⟩, q⟩ := h
  refine ⟨_, (pss_one (ps_ret (pe_and (pe_callB call_isi (by rfl) m_isinstance bb_isinstance (pa_cons (pv 1 (hd := nd_line) (hcd := nc_line)) (pa_cons (pe_bltn (v := .ty "str") (u := .type "str") (by rfl) m_str bb_str rfl (hn := nn_str) (hd := nd_str)) pa_nil)) (hn := nn_isinstance) (hdb := nd_isinstance)) (pe_one (pe_cmp (pc_din (un1 hr) (pv 1 (hd := nd_line) (hcd := nc_line)) (pe_fld (pv 0 (hd := nd_self) (hcd := nc_self)) rfl))))))), ?_⟩
  refine Rd.at0 (σ := [some (.ref a), some (.str n)]) rfl ?_
  repeat' (walk_at "rd")
  refine ⟨a, _, dx, _, .ref d, rfl, ea, KW_Web.cl, KW_Web.na _ (.tail _ (.head _)), lk2 _ _ _, ?_⟩
  by_cases m : n ∈ ts.map (·.1)
  · rw [decide_eq_true m] at q
    exact ⟨d, _, rfl, .inl ⟨_, Sum.inr n, .inl ed, rfl, (kd_get m).symm⟩, q⟩
  · rw [decide_eq_false m] at q
    exact ⟨d, _, rfl, .inl ⟨_, Sum.inr n, .inl ed, rfl, (kd_none m).symm⟩, q⟩
end
end Kj
namespace Kj
open PySem PySem.Spec PyProof.Rows L2 Rd
/-! ### the stepper -/
local macro_rules | `(tactic| walk_at "hp") => `(tactic| first
  | assumption
  | exact upd_same
  | (refine Eq.trans (upd_ne (by first | assumption | (apply Ne.symm; assumption))) ?_; walk_at "hp"))
local macro_rules | `(tactic| walk_at "sq") => `(tactic| first
  | assumption
  | (refine Or.inl (Or.inl ?_); walk_at "hp"))
local macro_rules | `(tactic| walk_at "st") => `(tactic| first
  | assumption
  | (refine Or.inl (Or.inl ?_); walk_at "hp"))
local macro_rules | `(tactic| walk_at "ar") => `(tactic| first
  | assumption
  | omega
  | decide)
local macro_rules | `(tactic| walk_at "ci") => `(tactic| first
  | (refine (show CMul _ _ from Or.inr ⟨?_, ?_⟩) <;> omega)
  | (refine (show CMul _ _ from Or.inl ⟨?_, ?_⟩) <;> omega)
  | (show CPow _ _; exact ⟨by decide, by decide, by decide⟩)
  | (refine wide_div (b := 63) ?_ ?_ (by decide) (by decide) <;> omega)
  | (show (0 : Int) < _; omega))
local macro_rules | `(tactic| walk_at "ty") => `(tactic| first
  | exact dp_ty (by assumption)
  | exact TyX.base (TyOf.int _)
  | exact TyX.base (TyOf.str _)
  | exact TyX.base (TyOf.bl _)
  | exact TyX.base TyOf.non
  | exact tyL' (by walk_at "sq")
  | exact tyT' (by walk_at "st"))
local macro_rules | `(tactic| walk_at "isi") => `(tactic| first
  | ((with_reducible apply Rd.isiF); (walk_at "ty"); (decide))
  | ((with_reducible apply Rd.isiT); (walk_at "ty"); (decide)))
local macro_rules | `(tactic| walk_at "rd") => `(tactic| first
  | with_reducible apply Rd.seq
  | ((with_reducible apply Rd.var); rfl)
  | with_reducible apply Rd.con
  | with_reducible apply Rd.op
  | with_reducible apply Rd.asg
  | ((with_reducible apply Rd.gname); ((dsimp only [List.set, L2.wipe, Int.reduceToNat]) <;> rfl))
  | with_reducible apply Rd.nxt
  | with_reducible apply Rd.ifs
  | with_reducible apply Rd.test
  | with_reducible apply Rd.testB
  | with_reducible apply Rd.exbl
  | with_reducible apply Rd.ret
  | with_reducible apply Rd.drop
  | with_reducible apply Rd.retN
  | with_reducible apply Rd.nil
  | with_reducible apply Rd.cons
  | with_reducible apply Rd.call
  | with_reducible apply Rd.cb
  | with_reducible apply Rd.and
  | with_reducible apply Rd.or
  | with_reducible apply Rd.not
  | with_reducible apply Rd.andV
  | with_reducible apply Rd.orV
  | with_reducible apply Rd.notV
  | with_reducible apply Rd.ife
  | with_reducible apply Rd.tup
  | with_reducible apply Rd.lst
  | with_reducible apply Rd.un
  | with_reducible apply Rd.chain
  | with_reducible apply Rd.brk
  | with_reducible apply Rd.cnt
  | with_reducible apply Rd.I0
  | with_reducible apply Rd.U1
  | ((with_reducible apply Rd.eq); rfl)
  | ((with_reducible apply Rd.ne); rfl)
  | ((with_reducible apply Rd.I1); (walk_at "ci"))
  | with_reducible apply Rd.lc0
  | with_reducible apply Rd.ln0
  | with_reducible apply Rd.exN
  | ((with_reducible apply Rd.iteSf); (decide +kernel))
  | ((with_reducible apply Rd.iteSt); (decide +kernel))
  | ((with_reducible apply Rd.niQ); (exact Or.inl (by walk_at "sq")); (exact ⟨rfl, rfl⟩); (rfl))
  | ((with_reducible apply Rd.inQ); (exact Or.inl (by walk_at "sq")); (exact ⟨rfl, rfl⟩); (rfl))
  | with_reducible apply Rd.rn1
  | with_reducible apply Rd.in1
  | with_reducible apply Rd.sn1
  | with_reducible apply Rd.bn1
  | with_reducible apply Rd.nn1
  | with_reducible apply Rd.rn2
  | with_reducible apply Rd.in2
  | with_reducible apply Rd.sn2
  | with_reducible apply Rd.bn2
  | with_reducible apply Rd.nn2
  | with_reducible apply Rd.nt1
  | with_reducible apply Rd.nf1
  | (with_reducible refine Rd.iteI (fun _ => ?_) (fun _ => ?_))
  | (with_reducible refine Rd.iteNI (fun _ => ?_) (fun _ => ?_))
  | (with_reducible refine iteT ?_)
  | (with_reducible refine iteF ?_)
  | (with_reducible refine Rd.iteD (fun _ => ?_) (fun _ => ?_))
  | (with_reducible refine Rd.iteN (fun _ => ?_) (fun _ => ?_))
  | with_reducible apply Rd.intI
  | with_reducible apply Rd.intB
  | with_reducible apply Rd.maxQ
  | with_reducible apply Rd.minQ
  | with_reducible apply Rd.absQ
  | with_reducible apply Rd.isN
  | with_reducible apply Rd.noN
  | with_reducible apply Rd.ltZ
  | with_reducible apply Rd.bm
  | with_reducible apply Rd.bm0
  | with_reducible apply Rd.par
  | with_reducible apply Rd.expar
  | with_reducible apply Rd.exint
  | with_reducible apply Rd.ipi
  | with_reducible apply Rd.slice
  | with_reducible apply Rd.noPart
  | with_reducible apply Rd.part
  | with_reducible apply Rd.gcons
  | with_reducible apply Rd.gnil
  | with_reducible apply Rd.iseq
  | with_reducible apply Rd.irng1
  | walk_at "isi"
  | with_reducible apply Rd.forX
  | with_reducible apply Rd.lstRev
  | with_reducible apply Rd.lstRg
  | with_reducible apply Rd.rg1
  | with_reducible apply Rd.rg2
  | with_reducible apply Rd.exint2
  | ((with_reducible apply Rd.exrev); (walk_at "sq"))
  | with_reducible apply Rd.lcX
  | with_reducible apply Rd.yes
  | ((with_reducible apply Rd.exrng1); (constructor <;> omega))
  | ((with_reducible apply Rd.exrng2); (refine ⟨?_, ?_, ?_, ?_⟩ <;> omega))
  | with_reducible apply Rd.irng2
  | ((with_reducible apply Rd.aug); rfl)
  | ((with_reducible apply Rd.exlst); (walk_at "sq"))
  | ((with_reducible apply Rd.gtup); (walk_at "st"); (rfl))
  | ((with_reducible apply Rd.tyL); (walk_at "hp"))
  | ((with_reducible apply Rd.ixL); (walk_at "sq"); (rfl))
  | ((with_reducible apply Rd.ixI); (walk_at "sq"); (omega); (first | assumption | (simp only [List.length_map]; omega)); (intro _ _))
  | (with_reducible refine Rd.gsub ?_)
  | ((with_reducible apply Rd.setL); (walk_at "hp"); (rfl); ((dsimp only [List.set, L2.wipe, Int.reduceToNat]) <;> rfl))
  | ((with_reducible apply Rd.lenQ); (first | exact Or.inl (by walk_at "sq") | exact Or.inr (by walk_at "st")))
  | ((with_reducible apply Rd.listQ); (first | exact Or.inl (by walk_at "sq") | exact Or.inr (by walk_at "st")))
  | ((with_reducible apply Rd.tupQ); (walk_at "sq"))
  | ((with_reducible apply Rd.slL); (walk_at "sq"))
  | ((with_reducible apply Rd.ixT); (walk_at "st"); (rfl))
  | (with_reducible refine Rd.iteB (fun _ => ?_) (fun _ => ?_))
  | (with_reducible refine Rd.iteNB (fun _ => ?_) (fun _ => ?_))
  | (refine Rd.andI (Nat.le_of_ble_eq_true rfl) ?_)
  | dsimp only [List.set])
local macro_rules | `(tactic| walk_at "hp") => `(tactic| first
  | assumption
  | exact upd_same
  | (refine Eq.trans (upd_ne (by first | assumption | (apply Ne.symm; assumption))) ?_; walk_at "hp")
  | (refine hpS (by assumption) ?_; walk_at "hp"))
local macro_rules | `(tactic| walk_at "al") => `(tactic| (with_reducible intro l hl; generalize hG : upd _ l _ = G; have hs := newOne hl hG; clear hG; obtain ⟨hs, he⟩ := hs))
local macro_rules | `(tactic| walk_at "rd") => `(tactic| first
  | walk_at "al"
  | ((with_reducible apply Rd.cat); (walk_at "hp"); (walk_at "hp"); (exact Nat.le_of_ble_eq_true rfl)))
local macro_rules | `(tactic| walk_at "sm") => `(tactic| first
  | assumption
  | exact Same.refl _
  | (refine Same.trans ?_ (by assumption); walk_at "sm"))
local macro_rules | `(tactic| walk_at "fr") => `(tactic| first
  | assumption
  | (refine Same.free (by assumption) ?_; walk_at "fr"))
local macro_rules | `(tactic| walk_at "ty") => `(tactic| first
  | exact dv_ty (by assumption)
  | exact tyD' (by walk_at "hp"))
local macro_rules | `(tactic| walk_at "sz") => `(tactic| first
  | exact sz5 (by omega)
  | (simp only [add_len, one_len]; exact sz5 (by omega)))
local macro_rules | `(tactic| walk_at "rd") => `(tactic| first
  | with_reducible apply Rd.istr
  | with_reducible apply Rd.exstr
  | with_reducible apply Rd.leA
  | with_reducible apply Rd.leZz
  | with_reducible apply Rd.le0
  | with_reducible apply Rd.le9
  | with_reducible apply Rd.niZ
  | ((with_reducible apply Rd.lenZ); (walk_at "sz"))
  | ((with_reducible apply Rd.slZ); (walk_at "sz"))
  | ((with_reducible apply Rd.addZ); (walk_at "sz"))
  | with_reducible apply Rd.raiseX
  | with_reducible apply Rd.exone
  | with_reducible apply Rd.callS
  | with_reducible apply Rd.callP
  | with_reducible apply Rd.xsX
  | with_reducible apply Rd.dnewX
  | with_reducible apply Rd.tyZ)
/-! ### is_way -/
open Ty Ln
section
variable {P : Program} {w : World} {K : PySem.W.Frag} {mg : Str → Option Value} {base : Heap} {D : Str → Addr}
def hasEnds (ts : List (Str × Str × Str)) (n s t : Str) : Bool := decide (∃ u ∈ ts, u.1 = n ∧ [u.2.1, u.2.2] = ordD s t)
/-- the rest of a way from the house last, the houses met being met -/
def wayB (ts : List (Str × Str × Str)) (b : Str) : List Str → Str → List (Str × Str × Str) → Bool
  | _, last, [] => decide (last = b)
  | met, last, (n, s, t) :: r => decide (s = last) && (!decide (t ∈ met) && (hasEnds ts n s t && wayB ts b (met ++ [t]) t r))
theorem wayB_nil {ts : List (Str × Str × Str)} {b last : Str} {met : List Str} : wayB ts b met last [] = decide (last = b) := rfl
theorem wayB_cons {ts : List (Str × Str × Str)} {b last n s t : Str} {met : List Str} {r : List (Str × Str × Str)} : wayB ts b met last ((n, s, t) :: r) = (decide (s = last) && (!decide (t ∈ met) && (hasEnds ts n s t && wayB ts b (met ++ [t]) t r))) := rfl
def isWayB (zs : List Str) (ts : List (Str × Str × Str)) (a b : Str) (ws : List (Str × Str × Str)) : Bool := decide (a ∈ zs) && wayB ts b [a] a ws
theorem propX {C : Addr} {sp : Sp} {dvs : List V} {E : XK} {ta : TE} {σ : L2.St} {H : Hp} {Q : VK} (h : ta σ H fun x H1 => ∃ a dx fs, x = .ref a ∧ H1 a = some (.ins C dx fs) ∧ sp (.ref a :: dvs) H1 Q E) : tProp C sp dvs E ta σ H Q := h
theorem methX {C : Addr} {m : Str} {sp : Sp} {dvs : List V} {E : XK} {ta : TE} {t : TA} {σ : L2.St} {H : Hp} {Q : VK} (h : ta σ H fun x H1 => ∃ a dx fs, x = .ref a ∧ H1 a = some (.ins C dx fs) ∧ fs.lookup m = none ∧ t σ H1 fun vs H2 => sp (x :: (vs ++ dvs)) H2 Q E) : tMeth C m sp dvs E ta t σ H Q := h
local macro_rules | `(tactic| walk_at "rd") => `(tactic| first
  | with_reducible apply Kj.propX
  | with_reducible apply Kj.methX)
theorem WebAt.ins {H : Hp} {C a : Addr} {zs : List Str} {ts : List (Str × Str × Str)} (h : WebAt H C a zs ts) : ∃ dx g d l, H a = some (.ins C dx (wfs g d l)) := by
  obtain ⟨dx, g, d, l, _, _, _, ea, _⟩ := h
  exact ⟨dx, g, d, l, ea⟩
theorem noE : ¬ (("ends" : Str) = "_houses") ∧ ¬ (("ends" : Str) = "_ends") ∧ ¬ (("ends" : Str) = "_lines") := by decide +kernel
/-- two tuples of words, not the same -/
theorem neW {H : Hp} {Q : VK} {v u : V} {k j : List Str} (h : WV H v k) (g : WV H u j) (q : Q (.bl (!decide (k = j))) H) : rNeD K v u H Q :=
  ⟨wdat k, wdat j, h.dp, g.dp, shaped_word h.1, shaped_word g.1, by rw [eqv_word]; exact q⟩
theorem map_one {ts : List (Str × Str × Str)} (nd : (ts.map (·.1)).Nodup) {u v : Str × Str × Str} (hu : u ∈ ts) (hv : v ∈ ts) (e : u.1 = v.1) : u = v := by
  obtain ⟨i, hi, rfl⟩ := List.getElem_of_mem hu
  obtain ⟨j, hj, rfl⟩ := List.getElem_of_mem hv
  have : (ts.map (·.1))[i]'(by rw [List.length_map]; exact hi) = (ts.map (·.1))[j]'(by rw [List.length_map]; exact hj) := by
    rw [List.getElem_map, List.getElem_map]
    exact e
  have := (List.getElem_inj nd).mp this
  subst this
  rfl
theorem hasEnds_at {ts : List (Str × Str × Str)} (nd : (ts.map (·.1)).Nodup) {u : Str × Str × Str} (hu : u ∈ ts) (s t : Str) : hasEnds ts u.1 s t = decide ([u.2.1, u.2.2] = ordD s t) := by
  unfold hasEnds
  refine decide_eq_decide.mpr ⟨fun ⟨v, hv, e1, e2⟩ => ?_, fun h => ⟨u, hu, rfl, h⟩⟩
  rw [← map_one nd hv hu e1]
  exact e2
theorem hasEnds_no {ts : List (Str × Str × Str)} {n : Str} (h : n ∉ ts.map (·.1)) (s t : Str) : hasEnds ts n s t = false :=
  decide_eq_false fun ⟨v, hv, e1, _⟩ => h (List.mem_map.mpr ⟨v, hv, e1⟩)
theorem okOrd {n s t : Str} (h : OkW [n, s, t]) : OkW (ordD s t) := fun z hz => by
  have hz : z = s ∨ z = t := by
    unfold ordD at hz
    split at hz
    · exact ((by simpa using hz : z = t ∨ z = s)).symm
    · simpa using hz
  rcases hz with rfl | rfl
  · exact h _ (.tail _ (.head _))
  · exact h _ (.tail _ (.tail _ (.head _)))
/-- is_way(web, a, b, way) -/
def spIsWay (C : Addr) : Sp := fun vs H Q _ => ∃ (g m : Addr) (a b : Str) (zs : List Str) (ts ws : List (Str × Str × Str)), vs = [.ref g, .str a, .str b, .ref m] ∧ WebAt H C g zs ts ∧ zs.length ≤ 1000 ∧ LinesOk zs ts ∧ WL H m (ws.map tr) ∧ ws.length ≤ 1000 ∧
  ∀ H', Same H H' → Q (.bl (isWayB zs ts a b ws)) H'
theorem ok_is_way (F : Def K mg "is_way" s_is_way P_is_way) (KW_Web : ClsF K mg D "Web" ["_houses", "_ends", "_lines"]) (C_ordered : Cal P w K mg base 1 "ordered" P_ordered spOrd) (C_Web_houses : CalR P w K mg base 2 (PropR K (D "Web") "houses") P_Web_houses (spWHouses (D "Web"))) (C_Web_contains : CalR P w K mg base 2 (InR K (D "Web")) P_Web_contains (spWIn (D "Web"))) (C_Web_ends : CalR P w K mg base 5 (Meth K (D "Web") "ends") P_Web_ends (spWEnds (D "Web"))) : Cal P w K mg base 6 "is_way" P_is_way (spIsWay (D "Web")) := by
  refine F.ok sc_is_way (fun vs H Q E h => ?_) (fun f cdv A outer s H vs Q E hr h => ?_)
  · obtain ⟨g, m, a, b, zs, ts, ws, rfl, _⟩ := h
    rfl
  obtain ⟨g, m, a, b, zs, ts, ws, rfl, hw, lz, lo, ⟨us, em, hus⟩, lws, q⟩ := h
  refine ⟨_, (pss_cons (ps_if (pt_cmpR op_notIn_seq (pv 1 (hd := nd_a) (hcd := nc_a)) (pe_propR C_Web_houses (pv 0 (hd := nd_web) (hcd := nc_web)) KW_Web.cl hr) (by rfl)) (pss_one (ps_ret pe_bl)) pss_nil)
  (pss_cons (ps_set (i := 4) sc_is_way.nd rfl (Or.inl rfl) (pe_lst (pa_cons (pv 1 (hd := nd_a) (hcd := nc_a)) pa_nil)))
  (pss_cons (ps_for PassesOwn.never rfl (pi_list (pv 3 (hd := nd_way) (hcd := nc_way))) (pg_tup (by rfl) (pgs_cons (pg_name (i := 5) sc_is_way.nd rfl (Or.inl rfl)) (pgs_cons (pg_name (i := 6) sc_is_way.nd rfl (Or.inl rfl)) (pgs_cons (pg_name (i := 7) sc_is_way.nd rfl (Or.inl rfl)) pgs_nil)))) (pss_cons (ps_if (PW.pt (pw_or (pt_cmpR op_ne (pv 6 (hd := nd_start) (hcd := nc_start)) (pe_ix ix_list (pv 4 (hd := nd_met) (hcd := nc_met)) (pe_un un_neg pe_int) (fun _ _ => rfl)) (nomark _)) (pw_or1 (pt_cmpR op_in_seq (pv 7 (hd := nd_stop) (hcd := nc_stop)) (pv 4 (hd := nd_met) (hcd := nc_met)) (by rfl))))) (pss_one (ps_ret pe_bl)) pss_nil)
  (pss_cons (ps_if (PW.pt (pw_or (pt_cmpR (op_niR C_Web_contains hr) (pv 5 (hd := nd_line) (hcd := nc_line)) (pv 0 (hd := nd_web) (hcd := nc_web)) (by rfl)) (pw_or1 (pt_cmpR (Ho.neDK (K := K) rfl hr.units) (pe_methR C_Web_ends (pv 0 (hd := nd_web) (hcd := nc_web)) KW_Web.cl hr (pa_cons (pv 5 (hd := nd_line) (hcd := nc_line)) pa_nil)) (pe_cal C_ordered hr (pa_cons (pv 6 (hd := nd_start) (hcd := nc_start)) (pa_cons (pv 7 (hd := nd_stop) (hcd := nc_stop)) pa_nil)) (hdb := nd_ordered)) (nomark _))))) (pss_one (ps_ret pe_bl)) pss_nil)
  (pss_one (ps_expr (pe_bm PySem.F.plainAttrs_list PySem.F.slot_list_append PySem.F.type_list_append mt_append (pv 4 (hd := nd_met) (hcd := nc_met)) (pa_cons (pv 7 (hd := nd_stop) (hcd := nc_stop)) pa_nil)))))))
  (pss_one (ps_ret (pe_cmpR op_eq (pe_ix ix_list (pv 4 (hd := nd_met) (hcd := nc_met)) (pe_un un_neg pe_int) (fun _ _ => rfl)) (pv 2 (hd := nd_b) (hcd := nc_b)) (nomark _))))))), ?_⟩
  refine Rd.at0 (σ := [some (.ref g), some (.str a), some (.str b), some (.ref m), none, none, none, none]) rfl ?_
  obtain ⟨dx, fh, fd, fl, eg⟩ := hw.ins
  repeat' (walk_at "rd")
  refine ⟨g, dx, _, rfl, eg, g, zs, ts, rfl, hw, lz, fun L ys H1 pm sy nL s1 eL => ?_⟩
  refine ⟨L, _, rfl, .inl (.inl (.inl eL)), rfl, flat_strs ys, ?_⟩
  rw [if_pos rfl, inV_strs, show decide (a ∈ ys) = decide (a ∈ zs) from decide_eq_decide.mpr pm.mem_iff]
  unfold isWayB at q
  by_cases ma : ¬ a ∈ zs
  · rw [decide_eq_false ma, Bool.false_and] at q
    rw [decide_eq_false ma]
    repeat' (walk_at "rd")
    exact q H1 s1
  have ma : a ∈ zs := Decidable.not_not.mp ma
  rw [decide_eq_true ma, Bool.true_and] at q
  rw [decide_eq_true ma]
  repeat' (walk_at "rd")
  rename_i M nM G sG eM
  have s2 := s1.trans sG
  have eM0 : G M = some (.lst (([a] : List Str).map V.str)) := eM
  have nMH : H M = none := s1.free nM
  have ew0 : wayB ts b [a] a ws = wayB ts b ([] ++ [a]) a (ws.drop 0) := rfl
  generalize wayB ts b [a] a ws = W at *
  refine forL us (fun i σ H' => ∃ (met : List Str) (last : Str) (v5 v6 v7 : Option V), σ = [some (.ref g), some (.str a), some (.str b), some (.ref m), some (.ref M), v5, v6, v7] ∧ H' M = some (.lst ((met ++ [last]).map V.str)) ∧ Same H H' ∧ met.length = i ∧
    W = wayB ts b (met ++ [last]) last (ws.drop i)) ⟨[], a, none, none, none, rfl, eM0, s2, rfl, ew0⟩ (fun _ _ _ _ ⟨_, _, _, _, _, _, _, s, _⟩ => .inl (.inl (s _ _ em))) ?_ ?_
  · rintro i x0 σ H' hx ⟨met, last, v5, v6, v7, rfl, eM', s', lmet, ew⟩
    obtain ⟨kk, hk, wv0⟩ := hus.at hx
    rw [List.getElem?_map] at hk
    obtain ⟨⟨n, sa, so⟩, ht, rfl⟩ := Option.map_eq_some_iff.mp hk
    obtain ⟨okk, t0, rfl, et0⟩ := wv0.same s'
    obtain ⟨li, ei⟩ := List.getElem?_eq_some_iff.mp ht
    rw [List.drop_eq_getElem_cons li, ei] at ew
    rw [wayB_cons] at ew
    repeat' (walk_at "rd")
    simp only [tr, List.map_cons, List.map_nil]
    repeat' (walk_at "rd")
    refine Rd.ixL (v := .str last) (.inl (.inl eM')) (by rw [List.map_append]; exact atI_last _ _) ?_
    repeat' (walk_at "rd")
    · rename_i ne
      rw [decide_eq_false (fun e => ne (by rw [e])), Bool.false_and] at ew
      rw [ew] at q
      exact q H' s'
    rename_i es
    have es : sa = last := V.str.inj es
    rw [decide_eq_true es, Bool.true_and] at ew
    refine ⟨M, _, rfl, .inl (.inl (.inl eM')), rfl, flat_strs _, ?_⟩
    rw [if_neg Bool.false_ne_true, inV_strs]
    by_cases mo : so ∈ met ++ [last]
    · rw [decide_eq_true mo, Bool.not_true, Bool.false_and] at ew
      rw [ew] at q
      rw [decide_eq_true mo]
      repeat' (walk_at "rd")
      exact q H' s'
    rw [decide_eq_false mo, Bool.not_false, Bool.true_and] at ew
    rw [decide_eq_false mo]
    repeat' (walk_at "rd")
    have eg' := s' _ _ eg
    have hw' := hw.same s'
    refine ⟨g, dx, _, rfl, eg', g, zs, ts, n, rfl, hw', _, rfl, ?_⟩
    by_cases mn : n ∉ ts.map (·.1)
    · rw [hasEnds_no mn, Bool.false_and] at ew
      rw [ew] at q
      rw [decide_eq_false mn]
      repeat' (walk_at "rd")
      exact q H' s'
    have mn : n ∈ ts.map (·.1) := Decidable.not_not.mp mn
    rw [decide_eq_true mn]
    obtain ⟨u, hu, rfl⟩ := List.mem_map.mp mn
    rw [hasEnds_at lo.nd hu] at ew
    repeat' (walk_at "rd")
    refine ⟨g, dx, _, rfl, eg', lkno noE.1 noE.2.1 noE.2.2, ?_⟩
    repeat' (walk_at "rd")
    refine ⟨g, zs, ts, u, rfl, hw', hu, lo.nm u hu, fun v H2 s2 wv => ?_⟩
    repeat' (walk_at "rd")
    refine ⟨sa, so, rfl, fun p H3 n3 s3 e3 => ?_⟩
    refine neW (wv.same s3) ⟨okOrd okk, p, rfl, e3⟩ ?_
    have s13 := (s'.trans s2).trans s3
    have eM3 := s3 _ _ (s2 _ _ eM')
    by_cases eo : ¬ [u.2.1, u.2.2] = ordD sa so
    · rw [decide_eq_false eo, Bool.false_and] at ew
      rw [ew] at q
      rw [decide_eq_false eo]
      repeat' (walk_at "rd")
      exact q H3 s13
    have eo : [u.2.1, u.2.2] = ordD sa so := Decidable.not_not.mp eo
    rw [decide_eq_true eo, Bool.true_and] at ew
    rw [decide_eq_true eo]
    repeat' (walk_at "rd")
    refine append eM3 (by rw [List.length_map, List.length_append]; exact sz5' (by show met.length + 1 ≤ 100000; omega)) ?_
    repeat' (walk_at "rd")
    refine ⟨met ++ [last], so, _, _, _, rfl, ?_, fun c o hc => (upd_ne (ne_of_none hc nMH)).trans (s13 _ _ hc), by rw [List.length_append, lmet]; rfl, ew⟩
    rw [List.map_append (l₁ := met ++ [last])]
    exact upd_same
  · rintro σ H' ⟨met, last, v5, v6, v7, rfl, eM', s', lmet, ew⟩
    rw [List.drop_of_length_le (by rw [hus.len, List.length_map]; exact Nat.le_refl _), wayB_nil] at ew
    rw [ew] at q
    repeat' (walk_at "rd")
    refine Rd.ixL (v := .str last) (.inl (.inl eM')) (by rw [List.map_append]; exact atI_last _ _) ?_
    repeat' (walk_at "rd")
    rw [show decide (V.str last = V.str b) = decide (last = b) from decide_eq_decide.mpr ⟨V.str.inj, fun e => by rw [e]⟩]
    exact q H' s'
end
end Kj
namespace Kj
open PySem PySem.Spec PyProof.Rows L2 Rd
/-! ### the stepper -/
local macro_rules | `(tactic| walk_at "hp") => `(tactic| first
  | assumption
  | exact upd_same
  | (refine Eq.trans (upd_ne (by first | assumption | (apply Ne.symm; assumption))) ?_; walk_at "hp"))
local macro_rules | `(tactic| walk_at "sq") => `(tactic| first
  | assumption
  | (refine Or.inl (Or.inl ?_); walk_at "hp"))
local macro_rules | `(tactic| walk_at "st") => `(tactic| first
  | assumption
  | (refine Or.inl (Or.inl ?_); walk_at "hp"))
local macro_rules | `(tactic| walk_at "ar") => `(tactic| first
  | assumption
  | omega
  | decide)
local macro_rules | `(tactic| walk_at "ci") => `(tactic| first
  | (refine (show CMul _ _ from Or.inr ⟨?_, ?_⟩) <;> omega)
  | (refine (show CMul _ _ from Or.inl ⟨?_, ?_⟩) <;> omega)
  | (show CPow _ _; exact ⟨by decide, by decide, by decide⟩)
  | (refine wide_div (b := 63) ?_ ?_ (by decide) (by decide) <;> omega)
  | (show (0 : Int) < _; omega))
local macro_rules | `(tactic| walk_at "ty") => `(tactic| first
  | exact dp_ty (by assumption)
  | exact TyX.base (TyOf.int _)
  | exact TyX.base (TyOf.str _)
  | exact TyX.base (TyOf.bl _)
  | exact TyX.base TyOf.non
  | exact tyL' (by walk_at "sq")
  | exact tyT' (by walk_at "st"))
local macro_rules | `(tactic| walk_at "isi") => `(tactic| first
  | ((with_reducible apply Rd.isiF); (walk_at "ty"); (decide))
  | ((with_reducible apply Rd.isiT); (walk_at "ty"); (decide)))
local macro_rules | `(tactic| walk_at "rd") => `(tactic| first
  | with_reducible apply Rd.seq
  | ((with_reducible apply Rd.var); rfl)
  | with_reducible apply Rd.con
  | with_reducible apply Rd.op
  | with_reducible apply Rd.asg
  | ((with_reducible apply Rd.gname); ((dsimp only [List.set, L2.wipe, Int.reduceToNat]) <;> rfl))
  | with_reducible apply Rd.nxt
  | with_reducible apply Rd.ifs
  | with_reducible apply Rd.test
  | with_reducible apply Rd.testB
  | with_reducible apply Rd.exbl
  | with_reducible apply Rd.ret
  | with_reducible apply Rd.drop
  | with_reducible apply Rd.retN
  | with_reducible apply Rd.nil
  | with_reducible apply Rd.cons
  | with_reducible apply Rd.call
  | with_reducible apply Rd.cb
  | with_reducible apply Rd.and
  | with_reducible apply Rd.or
  | with_reducible apply Rd.not
  | with_reducible apply Rd.andV
  | with_reducible apply Rd.orV
  | with_reducible apply Rd.notV
  | with_reducible apply Rd.ife
  | with_reducible apply Rd.tup
  | with_reducible apply Rd.lst
  | with_reducible apply Rd.un
  | with_reducible apply Rd.chain
  | with_reducible apply Rd.brk
  | with_reducible apply Rd.cnt
  | with_reducible apply Rd.I0
  | with_reducible apply Rd.U1
  | ((with_reducible apply Rd.eq); rfl)
  | ((with_reducible apply Rd.ne); rfl)
  | ((with_reducible apply Rd.I1); (walk_at "ci"))
  | with_reducible apply Rd.lc0
  | with_reducible apply Rd.ln0
  | with_reducible apply Rd.exN
  | ((with_reducible apply Rd.iteSf); (decide +kernel))
  | ((with_reducible apply Rd.iteSt); (decide +kernel))
  | ((with_reducible apply Rd.niQ); (exact Or.inl (by walk_at "sq")); (exact ⟨rfl, rfl⟩); (rfl))
  | ((with_reducible apply Rd.inQ); (exact Or.inl (by walk_at "sq")); (exact ⟨rfl, rfl⟩); (rfl))
  | with_reducible apply Rd.rn1
  | with_reducible apply Rd.in1
  | with_reducible apply Rd.sn1
  | with_reducible apply Rd.bn1
  | with_reducible apply Rd.nn1
  | with_reducible apply Rd.rn2
  | with_reducible apply Rd.in2
  | with_reducible apply Rd.sn2
  | with_reducible apply Rd.bn2
  | with_reducible apply Rd.nn2
  | with_reducible apply Rd.nt1
  | with_reducible apply Rd.nf1
  | (with_reducible refine Rd.iteI (fun _ => ?_) (fun _ => ?_))
  | (with_reducible refine Rd.iteNI (fun _ => ?_) (fun _ => ?_))
  | (with_reducible refine iteT ?_)
  | (with_reducible refine iteF ?_)
  | (with_reducible refine Rd.iteD (fun _ => ?_) (fun _ => ?_))
  | (with_reducible refine Rd.iteN (fun _ => ?_) (fun _ => ?_))
  | with_reducible apply Rd.intI
  | with_reducible apply Rd.intB
  | with_reducible apply Rd.maxQ
  | with_reducible apply Rd.minQ
  | with_reducible apply Rd.absQ
  | with_reducible apply Rd.isN
  | with_reducible apply Rd.noN
  | with_reducible apply Rd.ltZ
  | with_reducible apply Rd.bm
  | with_reducible apply Rd.bm0
  | with_reducible apply Rd.par
  | with_reducible apply Rd.expar
  | with_reducible apply Rd.exint
  | with_reducible apply Rd.ipi
  | with_reducible apply Rd.slice
  | with_reducible apply Rd.noPart
  | with_reducible apply Rd.part
  | with_reducible apply Rd.gcons
  | with_reducible apply Rd.gnil
  | with_reducible apply Rd.iseq
  | with_reducible apply Rd.irng1
  | walk_at "isi"
  | with_reducible apply Rd.forX
  | with_reducible apply Rd.lstRev
  | with_reducible apply Rd.lstRg
  | with_reducible apply Rd.rg1
  | with_reducible apply Rd.rg2
  | with_reducible apply Rd.exint2
  | ((with_reducible apply Rd.exrev); (walk_at "sq"))
  | with_reducible apply Rd.lcX
  | with_reducible apply Rd.yes
  | ((with_reducible apply Rd.exrng1); (constructor <;> omega))
  | ((with_reducible apply Rd.exrng2); (refine ⟨?_, ?_, ?_, ?_⟩ <;> omega))
  | with_reducible apply Rd.irng2
  | ((with_reducible apply Rd.aug); rfl)
  | ((with_reducible apply Rd.exlst); (walk_at "sq"))
  | ((with_reducible apply Rd.gtup); (walk_at "st"); (rfl))
  | ((with_reducible apply Rd.tyL); (walk_at "hp"))
  | ((with_reducible apply Rd.ixL); (walk_at "sq"); (rfl))
  | ((with_reducible apply Rd.ixI); (walk_at "sq"); (omega); (first | assumption | (simp only [List.length_map]; omega)); (intro _ _))
  | (with_reducible refine Rd.gsub ?_)
  | ((with_reducible apply Rd.setL); (walk_at "hp"); (rfl); ((dsimp only [List.set, L2.wipe, Int.reduceToNat]) <;> rfl))
  | ((with_reducible apply Rd.lenQ); (first | exact Or.inl (by walk_at "sq") | exact Or.inr (by walk_at "st")))
  | ((with_reducible apply Rd.listQ); (first | exact Or.inl (by walk_at "sq") | exact Or.inr (by walk_at "st")))
  | ((with_reducible apply Rd.tupQ); (walk_at "sq"))
  | ((with_reducible apply Rd.slL); (walk_at "sq"))
  | ((with_reducible apply Rd.ixT); (walk_at "st"); (rfl))
  | (with_reducible refine Rd.iteB (fun _ => ?_) (fun _ => ?_))
  | (with_reducible refine Rd.iteNB (fun _ => ?_) (fun _ => ?_))
  | (refine Rd.andI (Nat.le_of_ble_eq_true rfl) ?_)
  | dsimp only [List.set])
local macro_rules | `(tactic| walk_at "hp") => `(tactic| first
  | assumption
  | exact upd_same
  | (refine Eq.trans (upd_ne (by first | assumption | (apply Ne.symm; assumption))) ?_; walk_at "hp")
  | (refine hpS (by assumption) ?_; walk_at "hp"))
local macro_rules | `(tactic| walk_at "al") => `(tactic| (with_reducible intro l hl; generalize hG : upd _ l _ = G; have hs := newOne hl hG; clear hG; obtain ⟨hs, he⟩ := hs))
local macro_rules | `(tactic| walk_at "rd") => `(tactic| first
  | walk_at "al"
  | ((with_reducible apply Rd.cat); (walk_at "hp"); (walk_at "hp"); (exact Nat.le_of_ble_eq_true rfl)))
local macro_rules | `(tactic| walk_at "sm") => `(tactic| first
  | assumption
  | exact Same.refl _
  | (refine Same.trans ?_ (by assumption); walk_at "sm"))
local macro_rules | `(tactic| walk_at "fr") => `(tactic| first
  | assumption
  | (refine Same.free (by assumption) ?_; walk_at "fr"))
local macro_rules | `(tactic| walk_at "ty") => `(tactic| first
  | exact dv_ty (by assumption)
  | exact tyD' (by walk_at "hp"))
local macro_rules | `(tactic| walk_at "sz") => `(tactic| first
  | exact sz5 (by omega)
  | (simp only [add_len, one_len]; exact sz5 (by omega)))
local macro_rules | `(tactic| walk_at "rd") => `(tactic| first
  | with_reducible apply Rd.istr
  | with_reducible apply Rd.exstr
  | with_reducible apply Rd.leA
  | with_reducible apply Rd.leZz
  | with_reducible apply Rd.le0
  | with_reducible apply Rd.le9
  | with_reducible apply Rd.niZ
  | ((with_reducible apply Rd.lenZ); (walk_at "sz"))
  | ((with_reducible apply Rd.slZ); (walk_at "sz"))
  | ((with_reducible apply Rd.addZ); (walk_at "sz"))
  | with_reducible apply Rd.raiseX
  | with_reducible apply Rd.exone
  | with_reducible apply Rd.callS
  | with_reducible apply Rd.callP
  | with_reducible apply Rd.xsX
  | with_reducible apply Rd.dnewX
  | with_reducible apply Rd.tyZ)
/-! ### steps of words -/
open Ty Ln
section
variable {P : Program} {w : World} {K : PySem.W.Frag} {mg : Str → Option Value} {base : Heap} {D : Str → Addr}
theorem call_isiK {X : Cx} {K : PySem.W.Frag} (h : X.K = K) : CallR X (.builtin "isinstance") (rIsi K) := h ▸ call_isi
theorem niFalse {H : Hp} {Q : VK} {p : Addr} {xs : List V} (h : H p = some (.lst xs)) (e : ∀ v ∈ xs, v = .bl true) (q : Q (.bl true) H) : rIn K true (.bl false) (.ref p) H Q := by
  refine ⟨p, _, rfl, .inl (.inl (.inl h)), rfl, ?_, ?_⟩
  · rw [List.all_eq_true]
    intro x hx
    rw [e x hx]
    rfl
  · have : inV (.bl false) xs = false := by
      unfold inV
      rw [List.any_eq_false]
      intro x hx
      rw [e x hx]
      exact Bool.false_ne_true
    rw [this]
    exact q
def spIsWords : Sp := fun vs H Q _ => ∃ (l : Addr) (zs : List Str), vs = [.ref l] ∧ H l = some (.lst (zs.map V.str)) ∧ zs.length ≤ 1000 ∧ ∀ H', Same H H' → Q (.bl true) H'
theorem ok__law_is_words (F : Def K mg "_law_is_words" s__law_is_words P__law_is_words) (m_isinstance : mg "isinstance" = none) (m_list : mg "list" = none) (m_str : mg "str" = none) : Cal P w K mg base 1 "_law_is_words" P__law_is_words spIsWords := by
  refine F.ok sc__law_is_words (fun vs H Q E h => ?_) (fun f cdv A outer s H vs Q E hr h => ?_)
  · obtain ⟨l, zs, rfl, _⟩ := h
    rfl
  obtain ⟨l, zs, rfl, hl, lz, q⟩ := h
  refine ⟨_, (pss_one (ps_ret (pe_and (pe_callB call_isi (by rfl) m_isinstance bb_isinstance (pa_cons (pv 0 (hd := nd_value) (hcd := nc_value)) (pa_cons (pe_bltn (v := .ty "list") (u := .type "list") (by rfl) m_list bb_list rfl (hn := nn_list) (hd := nd_list)) pa_nil)) (hn := nn_isinstance) (hdb := nd_isinstance)) (pe_one (pe_cmpR op_notIn_seq pe_bl (pe_lc (own := [("item", 1)]) (by rfl) sc__law_is_words.nd (pi_list (pv 0 (hd := nd_value) (hcd := nc_value))) (blkOk_by (N := N__law_is_words) (sc := defScope s__law_is_words) (by decide +kernel)) (fun _ _ _ _ _ => (pg_name (i := 1) sc__law_is_words.nd rfl (Or.inl rfl))) (fun _ _ _ _ _ => pts_nil) (fun _ _ _ _ _ => (pe_callB (call_isiK (K := K) rfl) (by rfl) m_isinstance bb_isinstance (pa_cons (pv 1 (hd := nd_item) (hcd := nc_item)) (pa_cons (pe_bltn (v := .ty "str") (u := .type "str") (by rfl) m_str bb_str rfl (hn := nn_str) (hd := nd_str)) pa_nil)) (hn := nn_isinstance) (hdb := nd_isinstance)))) (by rfl)))))), ?_⟩
  refine Rd.at0 (σ := [some (.ref l), none]) rfl ?_
  repeat' (walk_at "rd")
  refine lcMap (zs.map V.str) (fun _ => .bl true) (.inl (.inl hl)) (by rw [List.length_map]; omega) (fun i x L4 G out Nx hx sG eL lo nx => ?_) (fun L4 G nL4 sG eL => ?_)
  · rw [List.getElem?_map] at hx
    obtain ⟨z, hz, rfl⟩ := Option.map_eq_some_iff.mp hx
    refine turn1 ?_
    repeat' (walk_at "rd")
    refine ⟨rfl, ?_⟩
    repeat' (walk_at "rd")
    exact ⟨out, eL, lo, nx⟩
  · repeat' (walk_at "rd")
    refine niFalse eL (fun v hv => ?_) ?_
    · obtain ⟨_, _, rfl⟩ := List.mem_map.mp hv
      rfl
    exact q G sG
def spIsSteps : Sp := fun vs H Q _ => ∃ (l : Addr) (ws : List (Str × Str × Str)), vs = [.ref l] ∧ WL H l (ws.map tr) ∧ ws.length ≤ 1000 ∧ ∀ H', Same H H' → Q (.bl true) H'
theorem ok__law_is_steps (F : Def K mg "_law_is_steps" s__law_is_steps P__law_is_steps) (m_isinstance : mg "isinstance" = none) (m_list : mg "list" = none) (m_tuple : mg "tuple" = none) (m_len : mg "len" = none) (C__law_is_words : Cal P w K mg base 1 "_law_is_words" P__law_is_words spIsWords) : Cal P w K mg base 2 "_law_is_steps" P__law_is_steps spIsSteps := by
  refine F.ok sc__law_is_steps (fun vs H Q E h => ?_) (fun f cdv A outer s H vs Q E hr h => ?_)
  · obtain ⟨l, ws, rfl, _⟩ := h
    rfl
  obtain ⟨l, ws, rfl, ⟨us, el, hus⟩, lw, q⟩ := h
  refine ⟨_, (pss_cons (ps_if (pt_not (pt_val (pe_callB call_isi (by rfl) m_isinstance bb_isinstance (pa_cons (pv 0 (hd := nd_value) (hcd := nc_value)) (pa_cons (pe_bltn (v := .ty "list") (u := .type "list") (by rfl) m_list bb_list rfl (hn := nn_list) (hd := nd_list)) pa_nil)) (hn := nn_isinstance) (hdb := nd_isinstance)))) (pss_one (ps_ret pe_bl)) pss_nil)
  (pss_cons (ps_for PassesOwn.never rfl (pi_list (pv 0 (hd := nd_value) (hcd := nc_value))) (pg_name (i := 1) sc__law_is_steps.nd rfl (Or.inl rfl)) (pss_one (ps_if (PW.pt (pw_or (pt_not (pt_val (pe_callB call_isi (by rfl) m_isinstance bb_isinstance (pa_cons (pv 1 (hd := nd_item) (hcd := nc_item)) (pa_cons (pe_bltn (v := .ty "tuple") (u := .type "tuple") (by rfl) m_tuple bb_tuple rfl (hn := nn_tuple) (hd := nd_tuple)) pa_nil)) (hn := nn_isinstance) (hdb := nd_isinstance)))) (pw_or (pt_cmpR op_ne (pe_callB q_len (by rfl) m_len PySem.boot_len (pa_cons (pv 1 (hd := nd_item) (hcd := nc_item)) pa_nil) (hn := nn_len) (hdb := nd_len)) pe_int (nomark _)) (pw_or1 (pt_not (pt_val (pe_cal C__law_is_words hr (pa_cons (pe_callTy q_list (by rfl) m_list bb_list (pa_cons (pv 1 (hd := nd_item) (hcd := nc_item)) pa_nil) (hn := nn_list) (hdb := nd_list)) pa_nil) (hdb := nd__law_is_words)))))))) (pss_one (ps_ret pe_bl)) pss_nil)))
  (pss_one (ps_ret pe_bl)))), ?_⟩
  refine Rd.at0 (σ := [some (.ref l), none]) rfl ?_
  repeat' (walk_at "rd")
  refine forL us (fun i σ H' => ∃ v1 : Option V, σ = [some (.ref l), v1] ∧ Same H H') ⟨none, rfl, fun _ _ e => e⟩ (fun _ _ _ _ ⟨_, _, s⟩ => .inl (.inl (s _ _ el))) ?_ ?_
  · rintro i x σ H' hx ⟨v1, rfl, s'⟩
    obtain ⟨kk, hk, wv⟩ := hus.at hx
    rw [List.getElem?_map] at hk
    obtain ⟨t, ht, rfl⟩ := Option.map_eq_some_iff.mp hk
    obtain ⟨ok, t0, rfl, e0⟩ := wv.same s'
    have l3 : (((tr t).map V.str).length : Int) = 3 := rfl
    repeat' (walk_at "rd")
    · exact absurd l3 (by assumption)
    rename_i l4 n4 G4 s4 e4
    refine ⟨l4, tr t, rfl, e4, by show 3 ≤ 1000; decide, fun H5 s5 => ?_⟩
    repeat' (walk_at "rd")
    exact ⟨_, rfl, (s'.trans s4).trans s5⟩
  · rintro σ H' ⟨v1, rfl, s'⟩
    repeat' (walk_at "rd")
    exact q H' s'
end
end Kj
namespace Kj
open PySem PySem.Spec PyProof.Rows L2 Rd
/-! ### the stepper -/
local macro_rules | `(tactic| walk_at "hp") => `(tactic| first
  | assumption
  | exact upd_same
  | (refine Eq.trans (upd_ne (by first | assumption | (apply Ne.symm; assumption))) ?_; walk_at "hp"))
local macro_rules | `(tactic| walk_at "sq") => `(tactic| first
  | assumption
  | (refine Or.inl (Or.inl ?_); walk_at "hp"))
local macro_rules | `(tactic| walk_at "st") => `(tactic| first
  | assumption
  | (refine Or.inl (Or.inl ?_); walk_at "hp"))
local macro_rules | `(tactic| walk_at "ar") => `(tactic| first
  | assumption
  | omega
  | decide)
local macro_rules | `(tactic| walk_at "ci") => `(tactic| first
  | (refine (show CMul _ _ from Or.inr ⟨?_, ?_⟩) <;> omega)
  | (refine (show CMul _ _ from Or.inl ⟨?_, ?_⟩) <;> omega)
  | (show CPow _ _; exact ⟨by decide, by decide, by decide⟩)
  | (refine wide_div (b := 63) ?_ ?_ (by decide) (by decide) <;> omega)
  | (show (0 : Int) < _; omega))
local macro_rules | `(tactic| walk_at "ty") => `(tactic| first
  | exact dp_ty (by assumption)
  | exact TyX.base (TyOf.int _)
  | exact TyX.base (TyOf.str _)
  | exact TyX.base (TyOf.bl _)
  | exact TyX.base TyOf.non
  | exact tyL' (by walk_at "sq")
  | exact tyT' (by walk_at "st"))
local macro_rules | `(tactic| walk_at "isi") => `(tactic| first
  | ((with_reducible apply Rd.isiF); (walk_at "ty"); (decide))
  | ((with_reducible apply Rd.isiT); (walk_at "ty"); (decide)))
local macro_rules | `(tactic| walk_at "rd") => `(tactic| first
  | with_reducible apply Rd.seq
  | ((with_reducible apply Rd.var); rfl)
  | with_reducible apply Rd.con
  | with_reducible apply Rd.op
  | with_reducible apply Rd.asg
  | ((with_reducible apply Rd.gname); ((dsimp only [List.set, L2.wipe, Int.reduceToNat]) <;> rfl))
  | with_reducible apply Rd.nxt
  | with_reducible apply Rd.ifs
  | with_reducible apply Rd.test
  | with_reducible apply Rd.testB
  | with_reducible apply Rd.exbl
  | with_reducible apply Rd.ret
  | with_reducible apply Rd.drop
  | with_reducible apply Rd.retN
  | with_reducible apply Rd.nil
  | with_reducible apply Rd.cons
  | with_reducible apply Rd.call
  | with_reducible apply Rd.cb
  | with_reducible apply Rd.and
  | with_reducible apply Rd.or
  | with_reducible apply Rd.not
  | with_reducible apply Rd.andV
  | with_reducible apply Rd.orV
  | with_reducible apply Rd.notV
  | with_reducible apply Rd.ife
  | with_reducible apply Rd.tup
  | with_reducible apply Rd.lst
  | with_reducible apply Rd.un
  | with_reducible apply Rd.chain
  | with_reducible apply Rd.brk
  | with_reducible apply Rd.cnt
  | with_reducible apply Rd.I0
  | with_reducible apply Rd.U1
  | ((with_reducible apply Rd.eq); rfl)
  | ((with_reducible apply Rd.ne); rfl)
  | ((with_reducible apply Rd.I1); (walk_at "ci"))
  | with_reducible apply Rd.lc0
  | with_reducible apply Rd.ln0
  | with_reducible apply Rd.exN
  | ((with_reducible apply Rd.iteSf); (decide +kernel))
  | ((with_reducible apply Rd.iteSt); (decide +kernel))
  | ((with_reducible apply Rd.niQ); (exact Or.inl (by walk_at "sq")); (exact ⟨rfl, rfl⟩); (rfl))
  | ((with_reducible apply Rd.inQ); (exact Or.inl (by walk_at "sq")); (exact ⟨rfl, rfl⟩); (rfl))
  | with_reducible apply Rd.rn1
  | with_reducible apply Rd.in1
  | with_reducible apply Rd.sn1
  | with_reducible apply Rd.bn1
  | with_reducible apply Rd.nn1
  | with_reducible apply Rd.rn2
  | with_reducible apply Rd.in2
  | with_reducible apply Rd.sn2
  | with_reducible apply Rd.bn2
  | with_reducible apply Rd.nn2
  | with_reducible apply Rd.nt1
  | with_reducible apply Rd.nf1
  | (with_reducible refine Rd.iteI (fun _ => ?_) (fun _ => ?_))
  | (with_reducible refine Rd.iteNI (fun _ => ?_) (fun _ => ?_))
  | (with_reducible refine iteT ?_)
  | (with_reducible refine iteF ?_)
  | (with_reducible refine Rd.iteD (fun _ => ?_) (fun _ => ?_))
  | (with_reducible refine Rd.iteN (fun _ => ?_) (fun _ => ?_))
  | with_reducible apply Rd.intI
  | with_reducible apply Rd.intB
  | with_reducible apply Rd.maxQ
  | with_reducible apply Rd.minQ
  | with_reducible apply Rd.absQ
  | with_reducible apply Rd.isN
  | with_reducible apply Rd.noN
  | with_reducible apply Rd.ltZ
  | with_reducible apply Rd.bm
  | with_reducible apply Rd.bm0
  | with_reducible apply Rd.par
  | with_reducible apply Rd.expar
  | with_reducible apply Rd.exint
  | with_reducible apply Rd.ipi
  | with_reducible apply Rd.slice
  | with_reducible apply Rd.noPart
  | with_reducible apply Rd.part
  | with_reducible apply Rd.gcons
  | with_reducible apply Rd.gnil
  | with_reducible apply Rd.iseq
  | with_reducible apply Rd.irng1
  | walk_at "isi"
  | with_reducible apply Rd.forX
  | with_reducible apply Rd.lstRev
  | with_reducible apply Rd.lstRg
  | with_reducible apply Rd.rg1
  | with_reducible apply Rd.rg2
  | with_reducible apply Rd.exint2
  | ((with_reducible apply Rd.exrev); (walk_at "sq"))
  | with_reducible apply Rd.lcX
  | with_reducible apply Rd.yes
  | ((with_reducible apply Rd.exrng1); (constructor <;> omega))
  | ((with_reducible apply Rd.exrng2); (refine ⟨?_, ?_, ?_, ?_⟩ <;> omega))
  | with_reducible apply Rd.irng2
  | ((with_reducible apply Rd.aug); rfl)
  | ((with_reducible apply Rd.exlst); (walk_at "sq"))
  | ((with_reducible apply Rd.gtup); (walk_at "st"); (rfl))
  | ((with_reducible apply Rd.tyL); (walk_at "hp"))
  | ((with_reducible apply Rd.ixL); (walk_at "sq"); (rfl))
  | ((with_reducible apply Rd.ixI); (walk_at "sq"); (omega); (first | assumption | (simp only [List.length_map]; omega)); (intro _ _))
  | (with_reducible refine Rd.gsub ?_)
  | ((with_reducible apply Rd.setL); (walk_at "hp"); (rfl); ((dsimp only [List.set, L2.wipe, Int.reduceToNat]) <;> rfl))
  | ((with_reducible apply Rd.lenQ); (first | exact Or.inl (by walk_at "sq") | exact Or.inr (by walk_at "st")))
  | ((with_reducible apply Rd.listQ); (first | exact Or.inl (by walk_at "sq") | exact Or.inr (by walk_at "st")))
  | ((with_reducible apply Rd.tupQ); (walk_at "sq"))
  | ((with_reducible apply Rd.slL); (walk_at "sq"))
  | ((with_reducible apply Rd.ixT); (walk_at "st"); (rfl))
  | (with_reducible refine Rd.iteB (fun _ => ?_) (fun _ => ?_))
  | (with_reducible refine Rd.iteNB (fun _ => ?_) (fun _ => ?_))
  | (refine Rd.andI (Nat.le_of_ble_eq_true rfl) ?_)
  | dsimp only [List.set])
local macro_rules | `(tactic| walk_at "hp") => `(tactic| first
  | assumption
  | exact upd_same
  | (refine Eq.trans (upd_ne (by first | assumption | (apply Ne.symm; assumption))) ?_; walk_at "hp")
  | (refine hpS (by assumption) ?_; walk_at "hp"))
local macro_rules | `(tactic| walk_at "al") => `(tactic| (with_reducible intro l hl; generalize hG : upd _ l _ = G; have hs := newOne hl hG; clear hG; obtain ⟨hs, he⟩ := hs))
local macro_rules | `(tactic| walk_at "rd") => `(tactic| first
  | walk_at "al"
  | ((with_reducible apply Rd.cat); (walk_at "hp"); (walk_at "hp"); (exact Nat.le_of_ble_eq_true rfl)))
local macro_rules | `(tactic| walk_at "sm") => `(tactic| first
  | assumption
  | exact Same.refl _
  | (refine Same.trans ?_ (by assumption); walk_at "sm"))
local macro_rules | `(tactic| walk_at "fr") => `(tactic| first
  | assumption
  | (refine Same.free (by assumption) ?_; walk_at "fr"))
local macro_rules | `(tactic| walk_at "ty") => `(tactic| first
  | exact dv_ty (by assumption)
  | exact tyD' (by walk_at "hp"))
local macro_rules | `(tactic| walk_at "sz") => `(tactic| first
  | exact sz5 (by omega)
  | (simp only [add_len, one_len]; exact sz5 (by omega)))
local macro_rules | `(tactic| walk_at "rd") => `(tactic| first
  | with_reducible apply Rd.istr
  | with_reducible apply Rd.exstr
  | with_reducible apply Rd.leA
  | with_reducible apply Rd.leZz
  | with_reducible apply Rd.le0
  | with_reducible apply Rd.le9
  | with_reducible apply Rd.niZ
  | ((with_reducible apply Rd.lenZ); (walk_at "sz"))
  | ((with_reducible apply Rd.slZ); (walk_at "sz"))
  | ((with_reducible apply Rd.addZ); (walk_at "sz"))
  | with_reducible apply Rd.raiseX
  | with_reducible apply Rd.exone
  | with_reducible apply Rd.callS
  | with_reducible apply Rd.callP
  | with_reducible apply Rd.xsX
  | with_reducible apply Rd.dnewX
  | with_reducible apply Rd.tyZ)
/-! ### the law's judge of a way -/
open Ty Ln
section
variable {P : Program} {w : World} {K : PySem.W.Frag} {mg : Str → Option Value} {base : Heap} {D : Str → Addr}
local macro_rules | `(tactic| walk_at "rd") => `(tactic| first
  | with_reducible apply Rd.dget
  | with_reducible apply Rd.din
  | with_reducible apply Kj.dnewXb
  | with_reducible apply Kj.dinXb)
theorem mm_ord (s t : Str) : [if cl t < cl s then t else s, if cl s < cl t then t else s] = ordD s t := by
  unfold ordD
  by_cases h : cl t < cl s
  · rw [if_pos h, if_neg (fun k => List.lt_irrefl _ (List.lt_trans h k)), if_pos h]
  · rw [if_neg h, if_neg (show ¬ t.cps.toList < s.cps.toList from h)]
    by_cases k : cl s < cl t
    · rw [if_pos k]
    · rw [if_neg k, le_antisymm' h k]
theorem ord_in {s t x y : Str} (h : [x, y] = ordD s t) : t = x ∨ t = y := by
  unfold ordD at h
  split at h
  · cases h
    exact .inl rfl
  · cases h
    exact .inr rfl
theorem wayB_in {zs : List Str} {ts : List (Str × Str × Str)} {b : Str} (lo : LinesOk zs ts) : ∀ (ws : List (Str × Str × Str)) (met : List Str) (last : Str), last ∈ zs → wayB ts b met last ws = true → b ∈ zs
  | [], met, last, h, e => by
    rw [wayB_nil] at e
    rw [← of_decide_eq_true e]
    exact h
  | (n, s, t) :: r, met, last, h, e => by
    rw [wayB_cons] at e
    have e := (Bool.and_eq_true_iff.mp (Bool.and_eq_true_iff.mp (Bool.and_eq_true_iff.mp e).2).2)
    obtain ⟨u, hu, _, eo⟩ := of_decide_eq_true (show decide _ = true from e.1)
    refine wayB_in lo r _ t ?_ e.2
    rcases ord_in eo with rfl | rfl
    · exact (lo.en u hu).1
    · exact (lo.en u hu).2.1
theorem isWay_no {zs : List Str} {ts ws : List (Str × Str × Str)} {a b : Str} (lo : LinesOk zs ts) (h : b ∉ zs) : isWayB zs ts a b ws = false := by
  unfold isWayB
  by_cases m : a ∈ zs
  · rw [decide_eq_true m, Bool.true_and, ← Bool.not_eq_true]
    exact fun e => h (wayB_in lo ws _ a m e)
  · rw [decide_eq_false m]
    rfl
/-- _law_is_way(houses, lines, a, b, way) -/
def spIsWayL : Sp := fun vs H Q _ => ∃ (h l m : Addr) (a b : Str) (zs : List Str) (ts ws : List (Str × Str × Str)), vs = [.ref h, .ref l, .str a, .str b, .ref m] ∧ H h = some (.lst (zs.map V.str)) ∧ WL H l (ts.map tr) ∧ LinesOk zs ts ∧ ts.length ≤ 1000 ∧ WL H m (ws.map tr) ∧ ws.length ≤ 1000 ∧
  ∀ H', Same H H' → Q (.bl (isWayB zs ts a b ws)) H'
theorem ok__law_is_way (F : Def K mg "_law_is_way" s__law_is_way P__law_is_way) (m_min : mg "min" = none) (m_max : mg "max" = none) (C__law_is_steps : Cal P w K mg base 2 "_law_is_steps" P__law_is_steps spIsSteps) : Cal P w K mg base 3 "_law_is_way" P__law_is_way spIsWayL := by
  refine F.ok sc__law_is_way (fun vs H Q E h => ?_) (fun f cdv A outer s H vs Q E hr h => ?_)
  · obtain ⟨h, l, m, a, b, zs, ts, ws, rfl, _⟩ := h
    rfl
  obtain ⟨h, l, m, a, b, zs, ts, ws, rfl, eh, ⟨ls, el, hls⟩, lo, lts, ⟨us, em, hus⟩, lws, q⟩ := h
  refine ⟨_, (pss_cons (ps_if (PW.pt (pw_or (pt_cmpR op_notIn_seq (pv 2 (hd := nd_a) (hcd := nc_a)) (pv 0 (hd := nd_houses) (hcd := nc_houses)) (by rfl)) (pw_or (pt_cmpR op_notIn_seq (pv 3 (hd := nd_b) (hcd := nc_b)) (pv 0 (hd := nd_houses) (hcd := nc_houses)) (by rfl)) (pw_or1 (pt_not (pt_val (pe_cal C__law_is_steps hr (pa_cons (pv 4 (hd := nd_way) (hcd := nc_way)) pa_nil) (hdb := nd__law_is_steps)))))))) (pss_one (ps_ret pe_bl)) pss_nil)
  (pss_cons (ps_set (i := 5) sc__law_is_way.nd rfl (Or.inl rfl) pe_dnewK)
  (pss_cons (ps_for PassesOwn.never rfl (pi_list (pv 1 (hd := nd_lines) (hcd := nc_lines))) (pg_name (i := 6) sc__law_is_way.nd rfl (Or.inl rfl)) (pss_one (ps_asg (pe_tup (pa_cons (pe_ix ix_tup (pv 6 (hd := nd_line) (hcd := nc_line)) pe_int (fun _ _ => rfl)) (pa_cons (pe_ix ix_tup (pv 6 (hd := nd_line) (hcd := nc_line)) pe_int (fun _ _ => rfl)) pa_nil))) (pg_sub (pv 5 (hd := nd_ends) (hcd := nc_ends)) (pe_ix ix_tup (pv 6 (hd := nd_line) (hcd := nc_line)) pe_int (fun _ _ => rfl)) (set_dict (un1 hr))))))
  (pss_cons (ps_set (i := 7) sc__law_is_way.nd rfl (Or.inl rfl) (pe_lst (pa_cons (pv 2 (hd := nd_a) (hcd := nc_a)) pa_nil)))
  (pss_cons (ps_for PassesOwn.never rfl (pi_list (pv 4 (hd := nd_way) (hcd := nc_way))) (pg_name (i := 8) sc__law_is_way.nd rfl (Or.inl rfl)) (pss_cons (ps_if (PW.pt (pw_or (pt_cmpR op_ne (pe_ix ix_tup (pv 8 (hd := nd_step) (hcd := nc_step)) pe_int (fun _ _ => rfl)) (pe_ix ix_list (pv 7 (hd := nd_met) (hcd := nc_met)) (pe_un un_neg pe_int) (fun _ _ => rfl)) (nomark _)) (pw_or (pt_cmpR op_in_seq (pe_ix ix_tup (pv 8 (hd := nd_step) (hcd := nc_step)) pe_int (fun _ _ => rfl)) (pv 7 (hd := nd_met) (hcd := nc_met)) (by rfl)) (pw_or1 (pt_cmp (pc_dnotin (un1 hr) (pe_ix ix_tup (pv 8 (hd := nd_step) (hcd := nc_step)) pe_int (fun _ _ => rfl)) (pv 5 (hd := nd_ends) (hcd := nc_ends)))))))) (pss_one (ps_ret pe_bl)) pss_nil)
  (pss_cons (ps_if (pt_cmpR (Ho.neDK (K := K) rfl hr.units) (pe_dget (un1 hr) (pv 5 (hd := nd_ends) (hcd := nc_ends)) (pe_ix ix_tup (pv 8 (hd := nd_step) (hcd := nc_step)) pe_int (fun _ _ => rfl)) (fun _ _ => rfl)) (pe_tup (pa_cons (pe_callB (q_minZ rfl) (by rfl) m_min bb_min (pa_cons (pe_ix ix_tup (pv 8 (hd := nd_step) (hcd := nc_step)) pe_int (fun _ _ => rfl)) (pa_cons (pe_ix ix_tup (pv 8 (hd := nd_step) (hcd := nc_step)) pe_int (fun _ _ => rfl)) pa_nil)) (hn := nn_min) (hdb := nd_min)) (pa_cons (pe_callB (q_maxZ rfl) (by rfl) m_max bb_max (pa_cons (pe_ix ix_tup (pv 8 (hd := nd_step) (hcd := nc_step)) pe_int (fun _ _ => rfl)) (pa_cons (pe_ix ix_tup (pv 8 (hd := nd_step) (hcd := nc_step)) pe_int (fun _ _ => rfl)) pa_nil)) (hn := nn_max) (hdb := nd_max)) pa_nil))) (nomark _)) (pss_one (ps_ret pe_bl)) pss_nil)
  (pss_one (ps_expr (pe_bm PySem.F.plainAttrs_list PySem.F.slot_list_append PySem.F.type_list_append mt_append (pv 7 (hd := nd_met) (hcd := nc_met)) (pa_cons (pe_ix ix_tup (pv 8 (hd := nd_step) (hcd := nc_step)) pe_int (fun _ _ => rfl)) pa_nil)))))))
  (pss_one (ps_ret (pe_cmpR op_eq (pe_ix ix_list (pv 7 (hd := nd_met) (hcd := nc_met)) (pe_un un_neg pe_int) (fun _ _ => rfl)) (pv 3 (hd := nd_b) (hcd := nc_b)) (nomark _))))))))), ?_⟩
  refine Rd.at0 (σ := [some (.ref h), some (.ref l), some (.str a), some (.str b), some (.ref m), none, none, none, none]) rfl ?_
  repeat' (walk_at "rd")
  refine ⟨h, _, rfl, .inl (.inl (.inl eh)), rfl, flat_strs zs, ?_⟩
  rw [if_pos rfl, inV_strs]
  by_cases ma : ¬ a ∈ zs
  · rw [show isWayB zs ts a b ws = false by unfold isWayB; rw [decide_eq_false ma]; rfl] at q
    rw [decide_eq_false ma]
    repeat' (walk_at "rd")
    exact q H (fun _ _ e => e)
  have ma : a ∈ zs := Decidable.not_not.mp ma
  rw [decide_eq_true ma]
  repeat' (walk_at "rd")
  refine ⟨h, _, rfl, .inl (.inl (.inl eh)), rfl, flat_strs zs, ?_⟩
  rw [if_pos rfl, inV_strs]
  by_cases mb : ¬ b ∈ zs
  · rw [isWay_no lo mb] at q
    rw [decide_eq_false mb]
    repeat' (walk_at "rd")
    exact q H (fun _ _ e => e)
  have mb : b ∈ zs := Decidable.not_not.mp mb
  rw [decide_eq_true mb]
  unfold isWayB at q
  rw [decide_eq_true ma, Bool.true_and] at q
  repeat' (walk_at "rd")
  refine ⟨m, ws, rfl, ⟨us, em, hus⟩, lws, fun H1 s1 => ?_⟩
  repeat' (walk_at "rd")
  rename_i d nD G2 s2 ed
  have s02 := s1.trans s2
  have nHd : H d = none := s1.free nD
  refine forL ls (fun i σ H' => ∃ (fk : Str → V) (v6 : Option V), σ = [some (.ref h), some (.ref l), some (.str a), some (.str b), some (.ref m), some (.ref d), v6, none, none] ∧ Same H H' ∧ H' d = some (.dK (kd ((ts.take i).map (·.1)) fk)) ∧ ∀ t ∈ ts.take i, WV H' (fk t.1) [t.2.1, t.2.2])
    ⟨fun _ => .non, none, rfl, s02, ed, fun _ h => nomatch h⟩ (fun _ _ _ _ ⟨_, _, _, s, _⟩ => .inl (.inl (s _ _ el))) ?_ ?_
  · rintro i x0 σ H' hx ⟨fk, v6, rfl, s', ed', hw⟩
    obtain ⟨kk, hk, wv0⟩ := hls.at hx
    rw [List.getElem?_map] at hk
    obtain ⟨⟨n, x, y⟩, ht, rfl⟩ := Option.map_eq_some_iff.mp hk
    obtain ⟨okk, t0, rfl, et0⟩ := wv0.same s'
    have et0 : H' t0 = some (.tup [.str n, .str x, .str y]) := et0
    obtain ⟨li, ei⟩ := List.getElem?_eq_some_iff.mp ht
    have nn : n ∉ (ts.take i).map (·.1) := fun hmem => by
      have h1 : (ts.map (·.1))[i]? = some n := by rw [List.getElem?_map, ht]; rfl
      rw [List.map_take] at hmem
      obtain ⟨j, hj, e⟩ := List.mem_take_iff_getElem.mp hmem
      obtain ⟨h2, h3⟩ := List.getElem?_eq_some_iff.mp h1
      have := (List.getElem_inj lo.nd).mp (e.trans h3.symm)
      omega
    have lk : ((ts.take i).map (·.1)).length = i := by rw [List.length_map, List.length_take, Nat.min_eq_left (by omega)]
    repeat' (walk_at "rd")
    rename_i p n6 H6 s6 e6
    refine dnewK (s6 _ _ ed') nn (by rw [lk]; omega) ?_
    refine ⟨fun z => if z = n then V.ref p else fk z, _, rfl, fun c o hc => (upd_ne (ne_of_none hc nHd)).trans (s6 _ _ (s' _ _ hc)), ?_, fun u hu => ?_⟩
    · rw [List.take_add_one, ht, List.map_append]
      exact upd_same
    · rw [List.take_add_one, ht] at hu
      rcases List.mem_append.mp hu with hu | hu
      · have : u.1 ≠ n := fun z => nn (List.mem_map.mpr ⟨u, hu, z⟩)
        show WV _ (if u.1 = n then _ else _) _
        rw [if_neg this]
        obtain ⟨ok, t', e', h'⟩ := hw u hu
        exact ⟨ok, t', e', (upd_ne fun z => by rw [z, ed'] at h'; cases h').trans (s6 _ _ h')⟩
      · have hu : u = (n, x, y) := by simpa using hu
        subst hu
        show WV _ (if n = n then V.ref p else fk n) [x, y]
        rw [if_pos rfl]
        exact ⟨fun z hz => okk z (.tail _ hz), p, rfl, (upd_ne fun z => by rw [z, ed'] at n6; cases n6).trans e6⟩
  · rintro σ H' ⟨fk, v6, rfl, s', ed', hw⟩
    have lls : ls.length = ts.length := by rw [hls.len, List.length_map]
    rw [List.take_of_length_le (by omega)] at ed' hw
    repeat' (walk_at "rd")
    rename_i M nM G3 s3 eM
    have s03 := s'.trans s3
    have nMH : H M = none := s'.free nM
    have nMd : M ≠ d := fun z => by rw [z, ed'] at nM; cases nM
    have eM0 : G3 M = some (.lst (([a] : List Str).map V.str)) := eM
    have ed3 := s3 _ _ ed'
    have hw3 : ∀ t ∈ ts, WV G3 (fk t.1) [t.2.1, t.2.2] := fun t ht => (hw t ht).same s3
    have ew0 : wayB ts b [a] a ws = wayB ts b ([] ++ [a]) a (ws.drop 0) := rfl
    generalize wayB ts b [a] a ws = W at *
    refine forL us (fun i σ H' => ∃ (met : List Str) (last : Str) (v8 : Option V), σ = [some (.ref h), some (.ref l), some (.str a), some (.str b), some (.ref m), some (.ref d), v6, some (.ref M), v8] ∧ H' M = some (.lst ((met ++ [last]).map V.str)) ∧ Same H H' ∧ met.length = i ∧
      H' d = some (.dK (kd (ts.map (·.1)) fk)) ∧ (∀ t ∈ ts, WV H' (fk t.1) [t.2.1, t.2.2]) ∧ W = wayB ts b (met ++ [last]) last (ws.drop i)) ⟨[], a, none, rfl, eM0, s03, rfl, ed3, hw3, ew0⟩ (fun _ _ _ _ ⟨_, _, _, _, _, s, _⟩ => .inl (.inl (s _ _ em))) ?_ ?_
    · rintro i x0 σ H' hx ⟨met, last, v8, rfl, eM', s', lmet, ed', hw, ew⟩
      obtain ⟨kk, hk, wv0⟩ := hus.at hx
      rw [List.getElem?_map] at hk
      obtain ⟨⟨n, sa, so⟩, ht, rfl⟩ := Option.map_eq_some_iff.mp hk
      obtain ⟨okk, t0, rfl, et0⟩ := wv0.same s'
      have et0 : H' t0 = some (.tup [.str n, .str sa, .str so]) := et0
      obtain ⟨li, ei⟩ := List.getElem?_eq_some_iff.mp ht
      rw [List.drop_eq_getElem_cons li, ei, wayB_cons] at ew
      repeat' (walk_at "rd")
      refine Rd.ixL (v := .str last) (.inl (.inl eM')) (by rw [List.map_append]; exact atI_last _ _) ?_
      repeat' (walk_at "rd")
      · rename_i ne
        rw [decide_eq_false (fun e => ne (by rw [e])), Bool.false_and] at ew
        rw [ew] at q
        exact q H' s'
      rename_i es
      have es : sa = last := V.str.inj es
      rw [decide_eq_true es, Bool.true_and] at ew
      refine ⟨M, _, rfl, .inl (.inl (.inl eM')), rfl, flat_strs _, ?_⟩
      rw [if_neg Bool.false_ne_true, inV_strs]
      by_cases mo : so ∈ met ++ [last]
      · rw [decide_eq_true mo, Bool.not_true, Bool.false_and] at ew
        rw [ew] at q
        rw [decide_eq_true mo]
        repeat' (walk_at "rd")
        exact q H' s'
      rw [decide_eq_false mo, Bool.not_false, Bool.true_and] at ew
      rw [decide_eq_false mo]
      repeat' (walk_at "rd")
      refine dniC ed' ?_
      by_cases mn : n ∉ ts.map (·.1)
      · rw [hasEnds_no mn, Bool.false_and] at ew
        rw [ew] at q
        rw [decide_eq_false mn]
        repeat' (walk_at "rd")
        exact q H' s'
      have mn : n ∈ ts.map (·.1) := Decidable.not_not.mp mn
      rw [decide_eq_true mn]
      obtain ⟨u, hu, rfl⟩ := List.mem_map.mp mn
      rw [hasEnds_at lo.nd hu, ← mm_ord] at ew
      repeat' (walk_at "rd")
      refine ⟨d, _, rfl, .inl ⟨_, Sum.inr u.1, .inl ed', rfl, (kd_get mn).symm⟩, ?_⟩
      repeat' (walk_at "rd")
      refine minZ ?_
      repeat' (walk_at "rd")
      refine maxZ ?_
      repeat' (walk_at "rd")
      rename_i p n3 G3 s3 e3
      refine neW ((hw u hu).same s3) (j := [if cl so < cl sa then so else sa, if cl sa < cl so then so else sa]) ⟨by rw [mm_ord]; exact okOrd okk, p, rfl, e3⟩ ?_
      have s13 := s'.trans s3
      have eM3 := s3 _ _ eM'
      have et3 := s3 _ _ et0
      by_cases eo : ¬ [u.2.1, u.2.2] = [if cl so < cl sa then so else sa, if cl sa < cl so then so else sa]
      · rw [decide_eq_false eo, Bool.false_and] at ew
        rw [ew] at q
        rw [decide_eq_false eo]
        repeat' (walk_at "rd")
        exact q G3 s13
      have eo := Decidable.not_not.mp eo
      rw [decide_eq_true eo, Bool.true_and] at ew
      rw [decide_eq_true eo]
      repeat' (walk_at "rd")
      refine append eM3 (by rw [List.length_map, List.length_append]; exact sz5' (by show met.length + 1 ≤ 100000; omega)) ?_
      repeat' (walk_at "rd")
      refine ⟨met ++ [last], so, _, rfl, ?_, fun c o hc => (upd_ne (ne_of_none hc nMH)).trans (s13 _ _ hc), by rw [List.length_append, lmet]; rfl, (upd_ne (Ne.symm nMd)).trans (s3 _ _ ed'), fun t ht => ?_, ew⟩
      · rw [List.map_append (l₁ := met ++ [last])]
        exact upd_same
      · obtain ⟨ok, t', e', h'⟩ := (hw t ht).same s3
        exact ⟨ok, t', e', (upd_ne fun z => by rw [z, s3 _ _ eM'] at h'; cases h').trans h'⟩
    · rintro σ H' ⟨met, last, v8, rfl, eM', s', lmet, ed', hw, ew⟩
      rw [List.drop_of_length_le (by rw [hus.len, List.length_map]; exact Nat.le_refl _), wayB_nil] at ew
      rw [ew] at q
      repeat' (walk_at "rd")
      refine Rd.ixL (v := .str last) (.inl (.inl eM')) (by rw [List.map_append]; exact atI_last _ _) ?_
      repeat' (walk_at "rd")
      rw [show decide (V.str last = V.str b) = decide (last = b) from decide_eq_decide.mpr ⟨V.str.inj, fun e => by rw [e]⟩]
      exact q H' s'
end
end Kj
namespace Kj
open PySem PySem.Spec PyProof.Rows L2 Rd
/-! ### the stepper -/
local macro_rules | `(tactic| walk_at "hp") => `(tactic| first
  | assumption
  | exact upd_same
  | (refine Eq.trans (upd_ne (by first | assumption | (apply Ne.symm; assumption))) ?_; walk_at "hp"))
local macro_rules | `(tactic| walk_at "sq") => `(tactic| first
  | assumption
  | (refine Or.inl (Or.inl ?_); walk_at "hp"))
local macro_rules | `(tactic| walk_at "st") => `(tactic| first
  | assumption
  | (refine Or.inl (Or.inl ?_); walk_at "hp"))
local macro_rules | `(tactic| walk_at "ar") => `(tactic| first
  | assumption
  | omega
  | decide)
local macro_rules | `(tactic| walk_at "ci") => `(tactic| first
  | (refine (show CMul _ _ from Or.inr ⟨?_, ?_⟩) <;> omega)
  | (refine (show CMul _ _ from Or.inl ⟨?_, ?_⟩) <;> omega)
  | (show CPow _ _; exact ⟨by decide, by decide, by decide⟩)
  | (refine wide_div (b := 63) ?_ ?_ (by decide) (by decide) <;> omega)
  | (show (0 : Int) < _; omega))
local macro_rules | `(tactic| walk_at "ty") => `(tactic| first
  | exact dp_ty (by assumption)
  | exact TyX.base (TyOf.int _)
  | exact TyX.base (TyOf.str _)
  | exact TyX.base (TyOf.bl _)
  | exact TyX.base TyOf.non
  | exact tyL' (by walk_at "sq")
  | exact tyT' (by walk_at "st"))
local macro_rules | `(tactic| walk_at "isi") => `(tactic| first
  | ((with_reducible apply Rd.isiF); (walk_at "ty"); (decide))
  | ((with_reducible apply Rd.isiT); (walk_at "ty"); (decide)))
local macro_rules | `(tactic| walk_at "rd") => `(tactic| first
  | with_reducible apply Rd.seq
  | ((with_reducible apply Rd.var); rfl)
  | with_reducible apply Rd.con
  | with_reducible apply Rd.op
  | with_reducible apply Rd.asg
  | ((with_reducible apply Rd.gname); ((dsimp only [List.set, L2.wipe, Int.reduceToNat]) <;> rfl))
  | with_reducible apply Rd.nxt
  | with_reducible apply Rd.ifs
  | with_reducible apply Rd.test
  | with_reducible apply Rd.testB
  | with_reducible apply Rd.exbl
  | with_reducible apply Rd.ret
  | with_reducible apply Rd.drop
  | with_reducible apply Rd.retN
  | with_reducible apply Rd.nil
  | with_reducible apply Rd.cons
  | with_reducible apply Rd.call
  | with_reducible apply Rd.cb
  | with_reducible apply Rd.and
  | with_reducible apply Rd.or
  | with_reducible apply Rd.not
  | with_reducible apply Rd.andV
  | with_reducible apply Rd.orV
  | with_reducible apply Rd.notV
  | with_reducible apply Rd.ife
  | with_reducible apply Rd.tup
  | with_reducible apply Rd.lst
  | with_reducible apply Rd.un
  | with_reducible apply Rd.chain
  | with_reducible apply Rd.brk
  | with_reducible apply Rd.cnt
  | with_reducible apply Rd.I0
  | with_reducible apply Rd.U1
  | ((with_reducible apply Rd.eq); rfl)
  | ((with_reducible apply Rd.ne); rfl)
  | ((with_reducible apply Rd.I1); (walk_at "ci"))
  | with_reducible apply Rd.lc0
  | with_reducible apply Rd.ln0
  | with_reducible apply Rd.exN
  | ((with_reducible apply Rd.iteSf); (decide +kernel))
  | ((with_reducible apply Rd.iteSt); (decide +kernel))
  | ((with_reducible apply Rd.niQ); (exact Or.inl (by walk_at "sq")); (exact ⟨rfl, rfl⟩); (rfl))
  | ((with_reducible apply Rd.inQ); (exact Or.inl (by walk_at "sq")); (exact ⟨rfl, rfl⟩); (rfl))
  | with_reducible apply Rd.rn1
  | with_reducible apply Rd.in1
  | with_reducible apply Rd.sn1
  | with_reducible apply Rd.bn1
  | with_reducible apply Rd.nn1
  | with_reducible apply Rd.rn2
  | with_reducible apply Rd.in2
  | with_reducible apply Rd.sn2
  | with_reducible apply Rd.bn2
  | with_reducible apply Rd.nn2
  | with_reducible apply Rd.nt1
  | with_reducible apply Rd.nf1
  | (with_reducible refine Rd.iteI (fun _ => ?_) (fun _ => ?_))
  | (with_reducible refine Rd.iteNI (fun _ => ?_) (fun _ => ?_))
  | (with_reducible refine iteT ?_)
  | (with_reducible refine iteF ?_)
  | (with_reducible refine Rd.iteD (fun _ => ?_) (fun _ => ?_))
  | (with_reducible refine Rd.iteN (fun _ => ?_) (fun _ => ?_))
  | with_reducible apply Rd.intI
  | with_reducible apply Rd.intB
  | with_reducible apply Rd.maxQ
  | with_reducible apply Rd.minQ
  | with_reducible apply Rd.absQ
  | with_reducible apply Rd.isN
  | with_reducible apply Rd.noN
  | with_reducible apply Rd.ltZ
  | with_reducible apply Rd.bm
  | with_reducible apply Rd.bm0
  | with_reducible apply Rd.par
  | with_reducible apply Rd.expar
  | with_reducible apply Rd.exint
  | with_reducible apply Rd.ipi
  | with_reducible apply Rd.slice
  | with_reducible apply Rd.noPart
  | with_reducible apply Rd.part
  | with_reducible apply Rd.gcons
  | with_reducible apply Rd.gnil
  | with_reducible apply Rd.iseq
  | with_reducible apply Rd.irng1
  | walk_at "isi"
  | with_reducible apply Rd.forX
  | with_reducible apply Rd.lstRev
  | with_reducible apply Rd.lstRg
  | with_reducible apply Rd.rg1
  | with_reducible apply Rd.rg2
  | with_reducible apply Rd.exint2
  | ((with_reducible apply Rd.exrev); (walk_at "sq"))
  | with_reducible apply Rd.lcX
  | with_reducible apply Rd.yes
  | ((with_reducible apply Rd.exrng1); (constructor <;> omega))
  | ((with_reducible apply Rd.exrng2); (refine ⟨?_, ?_, ?_, ?_⟩ <;> omega))
  | with_reducible apply Rd.irng2
  | ((with_reducible apply Rd.aug); rfl)
  | ((with_reducible apply Rd.exlst); (walk_at "sq"))
  | ((with_reducible apply Rd.gtup); (walk_at "st"); (rfl))
  | ((with_reducible apply Rd.tyL); (walk_at "hp"))
  | ((with_reducible apply Rd.ixL); (walk_at "sq"); (rfl))
  | ((with_reducible apply Rd.ixI); (walk_at "sq"); (omega); (first | assumption | (simp only [List.length_map]; omega)); (intro _ _))
  | (with_reducible refine Rd.gsub ?_)
  | ((with_reducible apply Rd.setL); (walk_at "hp"); (rfl); ((dsimp only [List.set, L2.wipe, Int.reduceToNat]) <;> rfl))
  | ((with_reducible apply Rd.lenQ); (first | exact Or.inl (by walk_at "sq") | exact Or.inr (by walk_at "st")))
  | ((with_reducible apply Rd.listQ); (first | exact Or.inl (by walk_at "sq") | exact Or.inr (by walk_at "st")))
  | ((with_reducible apply Rd.tupQ); (walk_at "sq"))
  | ((with_reducible apply Rd.slL); (walk_at "sq"))
  | ((with_reducible apply Rd.ixT); (walk_at "st"); (rfl))
  | (with_reducible refine Rd.iteB (fun _ => ?_) (fun _ => ?_))
  | (with_reducible refine Rd.iteNB (fun _ => ?_) (fun _ => ?_))
  | (refine Rd.andI (Nat.le_of_ble_eq_true rfl) ?_)
  | dsimp only [List.set])
local macro_rules | `(tactic| walk_at "hp") => `(tactic| first
  | assumption
  | exact upd_same
  | (refine Eq.trans (upd_ne (by first | assumption | (apply Ne.symm; assumption))) ?_; walk_at "hp")
  | (refine hpS (by assumption) ?_; walk_at "hp"))
local macro_rules | `(tactic| walk_at "al") => `(tactic| (with_reducible intro l hl; generalize hG : upd _ l _ = G; have hs := newOne hl hG; clear hG; obtain ⟨hs, he⟩ := hs))
local macro_rules | `(tactic| walk_at "rd") => `(tactic| first
  | walk_at "al"
  | ((with_reducible apply Rd.cat); (walk_at "hp"); (walk_at "hp"); (exact Nat.le_of_ble_eq_true rfl)))
local macro_rules | `(tactic| walk_at "sm") => `(tactic| first
  | assumption
  | exact Same.refl _
  | (refine Same.trans ?_ (by assumption); walk_at "sm"))
local macro_rules | `(tactic| walk_at "fr") => `(tactic| first
  | assumption
  | (refine Same.free (by assumption) ?_; walk_at "fr"))
local macro_rules | `(tactic| walk_at "ty") => `(tactic| first
  | exact dv_ty (by assumption)
  | exact tyD' (by walk_at "hp"))
local macro_rules | `(tactic| walk_at "sz") => `(tactic| first
  | exact sz5 (by omega)
  | (simp only [add_len, one_len]; exact sz5 (by omega)))
local macro_rules | `(tactic| walk_at "rd") => `(tactic| first
  | with_reducible apply Rd.istr
  | with_reducible apply Rd.exstr
  | with_reducible apply Rd.leA
  | with_reducible apply Rd.leZz
  | with_reducible apply Rd.le0
  | with_reducible apply Rd.le9
  | with_reducible apply Rd.niZ
  | ((with_reducible apply Rd.lenZ); (walk_at "sz"))
  | ((with_reducible apply Rd.slZ); (walk_at "sz"))
  | ((with_reducible apply Rd.addZ); (walk_at "sz"))
  | with_reducible apply Rd.raiseX
  | with_reducible apply Rd.exone
  | with_reducible apply Rd.callS
  | with_reducible apply Rd.callP
  | with_reducible apply Rd.xsX
  | with_reducible apply Rd.dnewX
  | with_reducible apply Rd.tyZ)
/-! ### both judges of a way -/
open Ty Ln
section
variable {P : Program} {w : World} {K : PySem.W.Frag} {mg : Str → Option Value} {base : Heap} {D : Str → Addr}
theorem dvStrs {K : PySem.W.Frag} {H : Hp} : ∀ k : List Str, DvAll K H (k.map V.str) (k.map PyData.str)
  | [] => .nil
  | x :: k => .cons (.str x) (dvStrs k)
theorem fdStrs {n : Nat} {k : List Str} : ∀ d ∈ k.map PyData.str, Fd n d := fun d hd => by
  obtain ⟨x, _, rfl⟩ := List.mem_map.mp hd
  exact .str x
theorem wv_dv {K : PySem.W.Frag} {H : Hp} {v : V} {k : List Str} (h : WV H v k) : Dv K H v (wdat k) := by
  obtain ⟨_, t, rfl, h⟩ := h
  exact .tup (.inl (.inl h)) (dvStrs k)
theorem wvs_dv {K : PySem.W.Frag} {H : Hp} : ∀ {vs : List V} {ks : List (List Str)}, WVs H vs ks → DvAll K H vs (ks.map wdat)
  | [], [], _ => .nil
  | v :: vs, k :: ks, h => .cons (wv_dv h.1) (wvs_dv h.2)
  | [], _ :: _, h => h.elim
  | _ :: _, [], h => h.elim
theorem wl_dv {K : PySem.W.Frag} {H : Hp} {a : Addr} {ks : List (List Str)} (h : WL H a ks) : Dv K H (.ref a) (.list (ks.map wdat)) := by
  obtain ⟨vs, e, k⟩ := h
  exact .lst (.inl (.inl e)) (wvs_dv k)
theorem fd_trs {ws : List (Str × Str × Str)} (h : ws.length ≤ 100000) : Fd 2 (.list ((ws.map tr).map wdat)) := .lst (by rw [List.length_map, List.length_map]; exact h) fun d hd => by
  obtain ⟨k, hk, rfl⟩ := List.mem_map.mp hd
  obtain ⟨u, _, rfl⟩ := List.mem_map.mp hk
  exact .tup (show 3 ≤ 100000 by decide) fdStrs
/-- _law_judged_right(web, houses, lines, a, b, way) -/
def spRight (K : PySem.W.Frag) (C : Addr) : Sp := fun vs H Q _ => ∃ (g h l m : Addr) (a b : Str) (zs : List Str) (ts ws : List (Str × Str × Str)), vs = [.ref g, .ref h, .ref l, .str a, .str b, .ref m] ∧ WebAt H C g zs ts ∧ zs.length ≤ 1000 ∧ LinesOk zs ts ∧ ts.length ≤ 1000 ∧
  H h = some (.lst (zs.map V.str)) ∧ WL H l (ts.map tr) ∧ WL H m (ws.map tr) ∧ ws.length ≤ 1000 ∧ ∀ H', Same H H' → Q (.bl true) H'
theorem ok__law_judged_right (F : Def K mg "_law_judged_right" s__law_judged_right P__law_judged_right) (C_is_way : Cal P w K mg base 6 "is_way" P_is_way (spIsWay (D "Web"))) (C__law_same : Cal P w K mg base 9 "_law_same" P__law_same (spSame K 8)) (C__law_frozen : Cal P w K mg base 8 "_law_frozen" P__law_frozen (spFrozen K 8)) (C__law_is_way : Cal P w K mg base 3 "_law_is_way" P__law_is_way spIsWayL) : Cal P w K mg base 10 "_law_judged_right" P__law_judged_right (spRight K (D "Web")) := by
  refine F.ok sc__law_judged_right (fun vs H Q E h => ?_) (fun f cdv A outer s H vs Q E hr h => ?_)
  · obtain ⟨g, h, l, m, a, b, zs, ts, ws, rfl, _⟩ := h
    rfl
  obtain ⟨g, h, l, m, a, b, zs, ts, ws, rfl, hw, lz, lo, lts, eh, wl, wm, lws, q⟩ := h
  refine ⟨_, (pss_cons (ps_set (i := 6) sc__law_judged_right.nd rfl (Or.inl rfl) (pe_cal C__law_frozen hr (pa_cons (pv 5 (hd := nd_way) (hcd := nc_way)) pa_nil) (hdb := nd__law_frozen)))
  (pss_cons (ps_set (i := 7) sc__law_judged_right.nd rfl (Or.inl rfl) (pe_cal C_is_way hr (pa_cons (pv 0 (hd := nd_web) (hcd := nc_web)) (pa_cons (pv 3 (hd := nd_a) (hcd := nc_a)) (pa_cons (pv 4 (hd := nd_b) (hcd := nc_b)) (pa_cons (pv 5 (hd := nd_way) (hcd := nc_way)) pa_nil)))) (hdb := nd_is_way)))
  (pss_one (ps_ret (pe_and (pe_cal C__law_same hr (pa_cons (pv 7 (hd := nd_told) (hcd := nc_told)) (pa_cons (pe_cal C__law_is_way hr (pa_cons (pv 1 (hd := nd_houses) (hcd := nc_houses)) (pa_cons (pv 2 (hd := nd_lines) (hcd := nc_lines)) (pa_cons (pv 3 (hd := nd_a) (hcd := nc_a)) (pa_cons (pv 4 (hd := nd_b) (hcd := nc_b)) (pa_cons (pv 5 (hd := nd_way) (hcd := nc_way)) pa_nil))))) (hdb := nd__law_is_way)) pa_nil)) (hdb := nd__law_same)) (pe_one (pe_cal C__law_same hr (pa_cons (pe_cal C__law_frozen hr (pa_cons (pv 5 (hd := nd_way) (hcd := nc_way)) pa_nil) (hdb := nd__law_frozen)) (pa_cons (pv 6 (hd := nd_kept) (hcd := nc_kept)) pa_nil)) (hdb := nd__law_same)))))))), ?_⟩
  refine Rd.at0 (σ := [some (.ref g), some (.ref h), some (.ref l), some (.str a), some (.str b), some (.ref m), none, none]) rfl ?_
  have fd : Fd 7 (.list ((ws.map tr).map wdat)) := (fd_trs (by omega)).mono (by decide)
  have ff : Fd 7 (frz (.list ((ws.map tr).map wdat))) := (frz_fd (fd_trs (by omega))).mono (by decide)
  repeat' (walk_at "rd")
  refine ⟨_, _, 7, rfl, rfl, wl_dv wm, fd, fun y H1 s1 d1 => ?_⟩
  repeat' (walk_at "rd")
  refine ⟨g, m, a, b, zs, ts, ws, rfl, hw.same s1, lz, lo, wm.same s1, lws, fun H2 s2 => ?_⟩
  have s12 := s1.trans s2
  repeat' (walk_at "rd")
  refine ⟨h, l, m, a, b, zs, ts, ws, rfl, s12 _ _ eh, wl.same s12, lo, lts, wm.same s12, lws, fun H3 s3 => ?_⟩
  have s13 := s12.trans s3
  repeat' (walk_at "rd")
  refine ⟨_, _, .bool _, 7, rfl, rfl, .bl _, .bl _, .bl _, fun H4 s4 => ?_⟩
  have s14 := s13.trans s4
  repeat' (walk_at "rd")
  refine ⟨_, _, 7, rfl, rfl, wl_dv (wm.same s14), fd, fun y2 H5 s5 d5 => ?_⟩
  repeat' (walk_at "rd")
  refine ⟨_, _, _, 7, rfl, rfl, d5, dv_same (((s2.trans s3).trans s4).trans s5) d1, ff, fun H6 s6 => ?_⟩
  exact q H6 ((s14.trans s5).trans s6)
end
end Kj
namespace Kj
open PySem PySem.Spec PyProof.Rows L2 Rd
/-! ### the stepper -/
local macro_rules | `(tactic| walk_at "hp") => `(tactic| first
  | assumption
  | exact upd_same
  | (refine Eq.trans (upd_ne (by first | assumption | (apply Ne.symm; assumption))) ?_; walk_at "hp"))
local macro_rules | `(tactic| walk_at "sq") => `(tactic| first
  | assumption
  | (refine Or.inl (Or.inl ?_); walk_at "hp"))
local macro_rules | `(tactic| walk_at "st") => `(tactic| first
  | assumption
  | (refine Or.inl (Or.inl ?_); walk_at "hp"))
local macro_rules | `(tactic| walk_at "ar") => `(tactic| first
  | assumption
  | omega
  | decide)
local macro_rules | `(tactic| walk_at "ci") => `(tactic| first
  | (refine (show CMul _ _ from Or.inr ⟨?_, ?_⟩) <;> omega)
  | (refine (show CMul _ _ from Or.inl ⟨?_, ?_⟩) <;> omega)
  | (show CPow _ _; exact ⟨by decide, by decide, by decide⟩)
  | (refine wide_div (b := 63) ?_ ?_ (by decide) (by decide) <;> omega)
  | (show (0 : Int) < _; omega))
local macro_rules | `(tactic| walk_at "ty") => `(tactic| first
  | exact dp_ty (by assumption)
  | exact TyX.base (TyOf.int _)
  | exact TyX.base (TyOf.str _)
  | exact TyX.base (TyOf.bl _)
  | exact TyX.base TyOf.non
  | exact tyL' (by walk_at "sq")
  | exact tyT' (by walk_at "st"))
local macro_rules | `(tactic| walk_at "isi") => `(tactic| first
  | ((with_reducible apply Rd.isiF); (walk_at "ty"); (decide))
  | ((with_reducible apply Rd.isiT); (walk_at "ty"); (decide)))
local macro_rules | `(tactic| walk_at "rd") => `(tactic| first
  | with_reducible apply Rd.seq
  | ((with_reducible apply Rd.var); rfl)
  | with_reducible apply Rd.con
  | with_reducible apply Rd.op
  | with_reducible apply Rd.asg
  | ((with_reducible apply Rd.gname); ((dsimp only [List.set, L2.wipe, Int.reduceToNat]) <;> rfl))
  | with_reducible apply Rd.nxt
  | with_reducible apply Rd.ifs
  | with_reducible apply Rd.test
  | with_reducible apply Rd.testB
  | with_reducible apply Rd.exbl
  | with_reducible apply Rd.ret
  | with_reducible apply Rd.drop
  | with_reducible apply Rd.retN
  | with_reducible apply Rd.nil
  | with_reducible apply Rd.cons
  | with_reducible apply Rd.call
  | with_reducible apply Rd.cb
  | with_reducible apply Rd.and
  | with_reducible apply Rd.or
  | with_reducible apply Rd.not
  | with_reducible apply Rd.andV
  | with_reducible apply Rd.orV
  | with_reducible apply Rd.notV
  | with_reducible apply Rd.ife
  | with_reducible apply Rd.tup
  | with_reducible apply Rd.lst
  | with_reducible apply Rd.un
  | with_reducible apply Rd.chain
  | with_reducible apply Rd.brk
  | with_reducible apply Rd.cnt
  | with_reducible apply Rd.I0
  | with_reducible apply Rd.U1
  | ((with_reducible apply Rd.eq); rfl)
  | ((with_reducible apply Rd.ne); rfl)
  | ((with_reducible apply Rd.I1); (walk_at "ci"))
  | with_reducible apply Rd.lc0
  | with_reducible apply Rd.ln0
  | with_reducible apply Rd.exN
  | ((with_reducible apply Rd.iteSf); (decide +kernel))
  | ((with_reducible apply Rd.iteSt); (decide +kernel))
  | ((with_reducible apply Rd.niQ); (exact Or.inl (by walk_at "sq")); (exact ⟨rfl, rfl⟩); (rfl))
  | ((with_reducible apply Rd.inQ); (exact Or.inl (by walk_at "sq")); (exact ⟨rfl, rfl⟩); (rfl))
  | with_reducible apply Rd.rn1
  | with_reducible apply Rd.in1
  | with_reducible apply Rd.sn1
  | with_reducible apply Rd.bn1
  | with_reducible apply Rd.nn1
  | with_reducible apply Rd.rn2
  | with_reducible apply Rd.in2
  | with_reducible apply Rd.sn2
  | with_reducible apply Rd.bn2
  | with_reducible apply Rd.nn2
  | with_reducible apply Rd.nt1
  | with_reducible apply Rd.nf1
  | (with_reducible refine Rd.iteI (fun _ => ?_) (fun _ => ?_))
  | (with_reducible refine Rd.iteNI (fun _ => ?_) (fun _ => ?_))
  | (with_reducible refine iteT ?_)
  | (with_reducible refine iteF ?_)
  | (with_reducible refine Rd.iteD (fun _ => ?_) (fun _ => ?_))
  | (with_reducible refine Rd.iteN (fun _ => ?_) (fun _ => ?_))
  | with_reducible apply Rd.intI
  | with_reducible apply Rd.intB
  | with_reducible apply Rd.maxQ
  | with_reducible apply Rd.minQ
  | with_reducible apply Rd.absQ
  | with_reducible apply Rd.isN
  | with_reducible apply Rd.noN
  | with_reducible apply Rd.ltZ
  | with_reducible apply Rd.bm
  | with_reducible apply Rd.bm0
  | with_reducible apply Rd.par
  | with_reducible apply Rd.expar
  | with_reducible apply Rd.exint
  | with_reducible apply Rd.ipi
  | with_reducible apply Rd.slice
  | with_reducible apply Rd.noPart
  | with_reducible apply Rd.part
  | with_reducible apply Rd.gcons
  | with_reducible apply Rd.gnil
  | with_reducible apply Rd.iseq
  | with_reducible apply Rd.irng1
  | walk_at "isi"
  | with_reducible apply Rd.forX
  | with_reducible apply Rd.lstRev
  | with_reducible apply Rd.lstRg
  | with_reducible apply Rd.rg1
  | with_reducible apply Rd.rg2
  | with_reducible apply Rd.exint2
  | ((with_reducible apply Rd.exrev); (walk_at "sq"))
  | with_reducible apply Rd.lcX
  | with_reducible apply Rd.yes
  | ((with_reducible apply Rd.exrng1); (constructor <;> omega))
  | ((with_reducible apply Rd.exrng2); (refine ⟨?_, ?_, ?_, ?_⟩ <;> omega))
  | with_reducible apply Rd.irng2
  | ((with_reducible apply Rd.aug); rfl)
  | ((with_reducible apply Rd.exlst); (walk_at "sq"))
  | ((with_reducible apply Rd.gtup); (walk_at "st"); (rfl))
  | ((with_reducible apply Rd.tyL); (walk_at "hp"))
  | ((with_reducible apply Rd.ixL); (walk_at "sq"); (rfl))
  | ((with_reducible apply Rd.ixI); (walk_at "sq"); (omega); (first | assumption | (simp only [List.length_map]; omega)); (intro _ _))
  | (with_reducible refine Rd.gsub ?_)
  | ((with_reducible apply Rd.setL); (walk_at "hp"); (rfl); ((dsimp only [List.set, L2.wipe, Int.reduceToNat]) <;> rfl))
  | ((with_reducible apply Rd.lenQ); (first | exact Or.inl (by walk_at "sq") | exact Or.inr (by walk_at "st")))
  | ((with_reducible apply Rd.listQ); (first | exact Or.inl (by walk_at "sq") | exact Or.inr (by walk_at "st")))
  | ((with_reducible apply Rd.tupQ); (walk_at "sq"))
  | ((with_reducible apply Rd.slL); (walk_at "sq"))
  | ((with_reducible apply Rd.ixT); (walk_at "st"); (rfl))
  | (with_reducible refine Rd.iteB (fun _ => ?_) (fun _ => ?_))
  | (with_reducible refine Rd.iteNB (fun _ => ?_) (fun _ => ?_))
  | (refine Rd.andI (Nat.le_of_ble_eq_true rfl) ?_)
  | dsimp only [List.set])
local macro_rules | `(tactic| walk_at "hp") => `(tactic| first
  | assumption
  | exact upd_same
  | (refine Eq.trans (upd_ne (by first | assumption | (apply Ne.symm; assumption))) ?_; walk_at "hp")
  | (refine hpS (by assumption) ?_; walk_at "hp"))
local macro_rules | `(tactic| walk_at "al") => `(tactic| (with_reducible intro l hl; generalize hG : upd _ l _ = G; have hs := newOne hl hG; clear hG; obtain ⟨hs, he⟩ := hs))
local macro_rules | `(tactic| walk_at "rd") => `(tactic| first
  | walk_at "al"
  | ((with_reducible apply Rd.cat); (walk_at "hp"); (walk_at "hp"); (exact Nat.le_of_ble_eq_true rfl)))
local macro_rules | `(tactic| walk_at "sm") => `(tactic| first
  | assumption
  | exact Same.refl _
  | (refine Same.trans ?_ (by assumption); walk_at "sm"))
local macro_rules | `(tactic| walk_at "fr") => `(tactic| first
  | assumption
  | (refine Same.free (by assumption) ?_; walk_at "fr"))
local macro_rules | `(tactic| walk_at "ty") => `(tactic| first
  | exact dv_ty (by assumption)
  | exact tyD' (by walk_at "hp"))
local macro_rules | `(tactic| walk_at "sz") => `(tactic| first
  | exact sz5 (by omega)
  | (simp only [add_len, one_len]; exact sz5 (by omega)))
local macro_rules | `(tactic| walk_at "rd") => `(tactic| first
  | with_reducible apply Rd.istr
  | with_reducible apply Rd.exstr
  | with_reducible apply Rd.leA
  | with_reducible apply Rd.leZz
  | with_reducible apply Rd.le0
  | with_reducible apply Rd.le9
  | with_reducible apply Rd.niZ
  | ((with_reducible apply Rd.lenZ); (walk_at "sz"))
  | ((with_reducible apply Rd.slZ); (walk_at "sz"))
  | ((with_reducible apply Rd.addZ); (walk_at "sz"))
  | with_reducible apply Rd.raiseX
  | with_reducible apply Rd.exone
  | with_reducible apply Rd.callS
  | with_reducible apply Rd.callP
  | with_reducible apply Rd.xsX
  | with_reducible apply Rd.dnewX
  | with_reducible apply Rd.tyZ)
/-! ### a word between which is asked -/
open Ty Ln
section
variable {P : Program} {w : World} {K : PySem.W.Frag} {mg : Str → Option Value} {base : Heap} {D : Str → Addr}
/-- _law_word(store, houses) -/
def spWord : Sp := fun vs H Q _ => ∃ (st c h : Addr) (zs : List Str), vs = [.ref st, .ref h] ∧ StoreAt H st c ∧ h ≠ st ∧ H h = some (.lst (zs.map V.str)) ∧ zs.length ≤ 1000 ∧ (∀ z ∈ zs, NmS z) ∧ ∀ z H', Go st c H H' → Q (.str z) H'
theorem ok__law_word (F : Def K mg "_law_word" s__law_word P__law_word) (m_len : mg "len" = none) (C__law_take : Cal P w K mg base 1 "_law_take" P__law_take spTake) (C__law_pick : Cal P w K mg base 2 "_law_pick" P__law_pick (spPick K)) : Cal P w K mg base 3 "_law_word" P__law_word spWord := by
  refine F.ok sc__law_word (fun vs H Q E h => ?_) (fun f cdv A outer s H vs Q E hr h => ?_)
  · obtain ⟨st, c, h, zs, rfl, _⟩ := h
    rfl
  obtain ⟨st, c, h, zs, rfl, hs, hst, eh, lz, nz, q⟩ := h
  refine ⟨_, (pss_cons (ps_set (i := 2) sc__law_word.nd rfl (Or.inl rfl) (pe_cal C__law_take hr (pa_cons (pv 0 (hd := nd_store) (hcd := nc_store)) (pa_cons pe_int pa_nil)) (hdb := nd__law_take)))
  (pss_cons (ps_if (pt_cmpR op_eq (pv 2 (hd := nd_style) (hcd := nc_style)) pe_int (nomark _)) (pss_one (ps_ret (pe_cal C__law_pick hr (pa_cons (pv 0 (hd := nd_store) (hcd := nc_store)) (pa_cons (pe_lst (pa_cons pe_str (pa_cons pe_str (pa_cons pe_str (pa_cons (pe_op op_rep_str pe_str pe_int) (pa_cons pe_str (pa_cons pe_str pa_nil))))))) pa_nil)) (hdb := nd__law_pick)))) pss_nil)
  (C8.pss_cut (ps_if (PW.pt (pw_or (pt_cmpR op_eq (pv 2 (hd := nd_style) (hcd := nc_style)) pe_int (nomark _)) (pw_or1 (pt_cmpR op_eq (pe_callB q_len (by rfl) m_len PySem.boot_len (pa_cons (pv 1 (hd := nd_houses) (hcd := nc_houses)) pa_nil) (hn := nn_len) (hdb := nd_len)) pe_int (nomark _))))) (pss_one (ps_ret (pe_slice sl_str (pe_op o_addZ (pe_cal C__law_pick hr (pa_cons (pv 0 (hd := nd_store) (hcd := nc_store)) (pa_cons (pe_op op_cat (pv 1 (hd := nd_houses) (hcd := nc_houses)) (pe_lst (pa_cons pe_str pa_nil))) pa_nil)) (hdb := nd__law_pick)) (pe_cal C__law_pick hr (pa_cons (pv 0 (hd := nd_store) (hcd := nc_store)) (pa_cons pe_str pa_nil)) (hdb := nd__law_pick))) po_none (po_some pe_int)))) pss_nil)
  (pss_one (ps_ret (pe_cal C__law_pick hr (pa_cons (pv 0 (hd := nd_store) (hcd := nc_store)) (pa_cons (pv 1 (hd := nd_houses) (hcd := nc_houses)) pa_nil)) (hdb := nd__law_pick))))))), ?_⟩
  refine Rd.at0 (σ := [some (.ref st), some (.ref h), none]) rfl ?_
  have lm : (zs.map V.str).length = zs.length := List.length_map ..
  repeat' (walk_at "rd")
  refine ⟨st, c, 5, rfl, hs, by decide, fun r H1 r0 r1 g1 => ?_⟩
  have eh1 := g1.keep _ _ hst eh
  have body : ∀ (D2 : Ends) (G : Hp) (p : Addr), True := fun _ _ _ => trivial
  repeat' (walk_at "rd")
  · refine repZ (by decide) ?_
    repeat' (walk_at "rd")
    rename_i l n G s e
    refine .inr ⟨st, c, l, _, rfl, g1.ok.same s, (g1.ok.off n).1, .inl (.inl e), by show 6 ≤ 100000; decide, (fun e => nomatch e), fun x H2 hx g2 => ?_⟩
    have gg := (g1.same s).trans g2
    simp only [List.mem_cons, List.not_mem_nil, or_false] at hx
    rcases hx with rfl | rfl | rfl | rfl | rfl | rfl <;> exact q _ _ gg
  refine Rd.cut (fun σ' G => σ' = [some (.ref st), some (.ref h), some (.int r)] ∧ G = H1 ∧ zs ≠ []) ?_ ?_
  · have e4 : ("09az" : Str).length = 4 := by decide +kernel
    repeat' (walk_at "rd")
    all_goals first
    | (refine ⟨rfl, rfl, fun e => ?_⟩
       subst e
       first
       | contradiction
       | (exfalso; simp at *; omega))
    | skip
    all_goals
      rename_i l n G s e
      refine Rd.cat (s _ _ eh1) e (sz5 (by rw [lm]; show zs.length + 1 ≤ 100000; omega)) ?_
      repeat' (walk_at "rd")
      rename_i l2 n2 G2 s2 e2
      have s12 := s.trans s2
      refine .inr ⟨st, c, l2, _, rfl, g1.ok.same s12, ((g1.ok.same s).off n2).1, .inl (.inl e2), by rw [List.length_append, lm]; show zs.length + 1 ≤ 100000; omega, (fun e => by simp at e), fun x H2 hx g2 => ?_⟩
      obtain ⟨z, rfl, lz12⟩ : ∃ z, x = .str z ∧ z.length ≤ 12 := by
        rcases List.mem_append.mp hx with hx | hx
        · obtain ⟨z, hz, rfl⟩ := List.mem_map.mp hx
          exact ⟨z, rfl, (nz z hz).2⟩
        · rw [List.mem_singleton.mp hx]
          exact ⟨_, rfl, by decide⟩
      have gg := (g1.same s12).trans g2
      repeat' (walk_at "rd")
      refine .inl ⟨st, c, "09az", rfl, gg.ok, by omega, by omega, fun y H3 _ g3 => ?_⟩
      repeat' (walk_at "rd")
      exact q _ _ (gg.trans g3)
  rintro σ' G ⟨rfl, rfl, ne⟩
  repeat' (walk_at "rd")
  refine .inr ⟨st, c, h, _, rfl, g1.ok, hst, .inl (.inl eh1), by omega, (fun e => absurd (List.map_eq_nil_iff.mp e) ne), fun x H2 hx g2 => ?_⟩
  obtain ⟨z, hz, rfl⟩ := List.mem_map.mp hx
  exact q z H2 (g1.trans g2)
end
end Kj
namespace Kj
open PySem PySem.Spec PyProof.Rows L2 Rd
/-! ### the stepper -/
local macro_rules | `(tactic| walk_at "hp") => `(tactic| first
  | assumption
  | exact upd_same
  | (refine Eq.trans (upd_ne (by first | assumption | (apply Ne.symm; assumption))) ?_; walk_at "hp"))
local macro_rules | `(tactic| walk_at "sq") => `(tactic| first
  | assumption
  | (refine Or.inl (Or.inl ?_); walk_at "hp"))
local macro_rules | `(tactic| walk_at "st") => `(tactic| first
  | assumption
  | (refine Or.inl (Or.inl ?_); walk_at "hp"))
local macro_rules | `(tactic| walk_at "ar") => `(tactic| first
  | assumption
  | omega
  | decide)
local macro_rules | `(tactic| walk_at "ci") => `(tactic| first
  | (refine (show CMul _ _ from Or.inr ⟨?_, ?_⟩) <;> omega)
  | (refine (show CMul _ _ from Or.inl ⟨?_, ?_⟩) <;> omega)
  | (show CPow _ _; exact ⟨by decide, by decide, by decide⟩)
  | (refine wide_div (b := 63) ?_ ?_ (by decide) (by decide) <;> omega)
  | (show (0 : Int) < _; omega))
local macro_rules | `(tactic| walk_at "ty") => `(tactic| first
  | exact dp_ty (by assumption)
  | exact TyX.base (TyOf.int _)
  | exact TyX.base (TyOf.str _)
  | exact TyX.base (TyOf.bl _)
  | exact TyX.base TyOf.non
  | exact tyL' (by walk_at "sq")
  | exact tyT' (by walk_at "st"))
local macro_rules | `(tactic| walk_at "isi") => `(tactic| first
  | ((with_reducible apply Rd.isiF); (walk_at "ty"); (decide))
  | ((with_reducible apply Rd.isiT); (walk_at "ty"); (decide)))
local macro_rules | `(tactic| walk_at "rd") => `(tactic| first
  | with_reducible apply Rd.seq
  | ((with_reducible apply Rd.var); rfl)
  | with_reducible apply Rd.con
  | with_reducible apply Rd.op
  | with_reducible apply Rd.asg
  | ((with_reducible apply Rd.gname); ((dsimp only [List.set, L2.wipe, Int.reduceToNat]) <;> rfl))
  | with_reducible apply Rd.nxt
  | with_reducible apply Rd.ifs
  | with_reducible apply Rd.test
  | with_reducible apply Rd.testB
  | with_reducible apply Rd.exbl
  | with_reducible apply Rd.ret
  | with_reducible apply Rd.drop
  | with_reducible apply Rd.retN
  | with_reducible apply Rd.nil
  | with_reducible apply Rd.cons
  | with_reducible apply Rd.call
  | with_reducible apply Rd.cb
  | with_reducible apply Rd.and
  | with_reducible apply Rd.or
  | with_reducible apply Rd.not
  | with_reducible apply Rd.andV
  | with_reducible apply Rd.orV
  | with_reducible apply Rd.notV
  | with_reducible apply Rd.ife
  | with_reducible apply Rd.tup
  | with_reducible apply Rd.lst
  | with_reducible apply Rd.un
  | with_reducible apply Rd.chain
  | with_reducible apply Rd.brk
  | with_reducible apply Rd.cnt
  | with_reducible apply Rd.I0
  | with_reducible apply Rd.U1
  | ((with_reducible apply Rd.eq); rfl)
  | ((with_reducible apply Rd.ne); rfl)
  | ((with_reducible apply Rd.I1); (walk_at "ci"))
  | with_reducible apply Rd.lc0
  | with_reducible apply Rd.ln0
  | with_reducible apply Rd.exN
  | ((with_reducible apply Rd.iteSf); (decide +kernel))
  | ((with_reducible apply Rd.iteSt); (decide +kernel))
  | ((with_reducible apply Rd.niQ); (exact Or.inl (by walk_at "sq")); (exact ⟨rfl, rfl⟩); (rfl))
  | ((with_reducible apply Rd.inQ); (exact Or.inl (by walk_at "sq")); (exact ⟨rfl, rfl⟩); (rfl))
  | with_reducible apply Rd.rn1
  | with_reducible apply Rd.in1
  | with_reducible apply Rd.sn1
  | with_reducible apply Rd.bn1
  | with_reducible apply Rd.nn1
  | with_reducible apply Rd.rn2
  | with_reducible apply Rd.in2
  | with_reducible apply Rd.sn2
  | with_reducible apply Rd.bn2
  | with_reducible apply Rd.nn2
  | with_reducible apply Rd.nt1
  | with_reducible apply Rd.nf1
  | (with_reducible refine Rd.iteI (fun _ => ?_) (fun _ => ?_))
  | (with_reducible refine Rd.iteNI (fun _ => ?_) (fun _ => ?_))
  | (with_reducible refine iteT ?_)
  | (with_reducible refine iteF ?_)
  | (with_reducible refine Rd.iteD (fun _ => ?_) (fun _ => ?_))
  | (with_reducible refine Rd.iteN (fun _ => ?_) (fun _ => ?_))
  | with_reducible apply Rd.intI
  | with_reducible apply Rd.intB
  | with_reducible apply Rd.maxQ
  | with_reducible apply Rd.minQ
  | with_reducible apply Rd.absQ
  | with_reducible apply Rd.isN
  | with_reducible apply Rd.noN
  | with_reducible apply Rd.ltZ
  | with_reducible apply Rd.bm
  | with_reducible apply Rd.bm0
  | with_reducible apply Rd.par
  | with_reducible apply Rd.expar
  | with_reducible apply Rd.exint
  | with_reducible apply Rd.ipi
  | with_reducible apply Rd.slice
  | with_reducible apply Rd.noPart
  | with_reducible apply Rd.part
  | with_reducible apply Rd.gcons
  | with_reducible apply Rd.gnil
  | with_reducible apply Rd.iseq
  | with_reducible apply Rd.irng1
  | walk_at "isi"
  | with_reducible apply Rd.forX
  | with_reducible apply Rd.lstRev
  | with_reducible apply Rd.lstRg
  | with_reducible apply Rd.rg1
  | with_reducible apply Rd.rg2
  | with_reducible apply Rd.exint2
  | ((with_reducible apply Rd.exrev); (walk_at "sq"))
  | with_reducible apply Rd.lcX
  | with_reducible apply Rd.yes
  | ((with_reducible apply Rd.exrng1); (constructor <;> omega))
  | ((with_reducible apply Rd.exrng2); (refine ⟨?_, ?_, ?_, ?_⟩ <;> omega))
  | with_reducible apply Rd.irng2
  | ((with_reducible apply Rd.aug); rfl)
  | ((with_reducible apply Rd.exlst); (walk_at "sq"))
  | ((with_reducible apply Rd.gtup); (walk_at "st"); (rfl))
  | ((with_reducible apply Rd.tyL); (walk_at "hp"))
  | ((with_reducible apply Rd.ixL); (walk_at "sq"); (rfl))
  | ((with_reducible apply Rd.ixI); (walk_at "sq"); (omega); (first | assumption | (simp only [List.length_map]; omega)); (intro _ _))
  | (with_reducible refine Rd.gsub ?_)
  | ((with_reducible apply Rd.setL); (walk_at "hp"); (rfl); ((dsimp only [List.set, L2.wipe, Int.reduceToNat]) <;> rfl))
  | ((with_reducible apply Rd.lenQ); (first | exact Or.inl (by walk_at "sq") | exact Or.inr (by walk_at "st")))
  | ((with_reducible apply Rd.listQ); (first | exact Or.inl (by walk_at "sq") | exact Or.inr (by walk_at "st")))
  | ((with_reducible apply Rd.tupQ); (walk_at "sq"))
  | ((with_reducible apply Rd.slL); (walk_at "sq"))
  | ((with_reducible apply Rd.ixT); (walk_at "st"); (rfl))
  | (with_reducible refine Rd.iteB (fun _ => ?_) (fun _ => ?_))
  | (with_reducible refine Rd.iteNB (fun _ => ?_) (fun _ => ?_))
  | (refine Rd.andI (Nat.le_of_ble_eq_true rfl) ?_)
  | dsimp only [List.set])
local macro_rules | `(tactic| walk_at "hp") => `(tactic| first
  | assumption
  | exact upd_same
  | (refine Eq.trans (upd_ne (by first | assumption | (apply Ne.symm; assumption))) ?_; walk_at "hp")
  | (refine hpS (by assumption) ?_; walk_at "hp"))
local macro_rules | `(tactic| walk_at "al") => `(tactic| (with_reducible intro l hl; generalize hG : upd _ l _ = G; have hs := newOne hl hG; clear hG; obtain ⟨hs, he⟩ := hs))
local macro_rules | `(tactic| walk_at "rd") => `(tactic| first
  | walk_at "al"
  | ((with_reducible apply Rd.cat); (walk_at "hp"); (walk_at "hp"); (exact Nat.le_of_ble_eq_true rfl)))
local macro_rules | `(tactic| walk_at "sm") => `(tactic| first
  | assumption
  | exact Same.refl _
  | (refine Same.trans ?_ (by assumption); walk_at "sm"))
local macro_rules | `(tactic| walk_at "fr") => `(tactic| first
  | assumption
  | (refine Same.free (by assumption) ?_; walk_at "fr"))
local macro_rules | `(tactic| walk_at "ty") => `(tactic| first
  | exact dv_ty (by assumption)
  | exact tyD' (by walk_at "hp"))
local macro_rules | `(tactic| walk_at "sz") => `(tactic| first
  | exact sz5 (by omega)
  | (simp only [add_len, one_len]; exact sz5 (by omega)))
local macro_rules | `(tactic| walk_at "rd") => `(tactic| first
  | with_reducible apply Rd.istr
  | with_reducible apply Rd.exstr
  | with_reducible apply Rd.leA
  | with_reducible apply Rd.leZz
  | with_reducible apply Rd.le0
  | with_reducible apply Rd.le9
  | with_reducible apply Rd.niZ
  | ((with_reducible apply Rd.lenZ); (walk_at "sz"))
  | ((with_reducible apply Rd.slZ); (walk_at "sz"))
  | ((with_reducible apply Rd.addZ); (walk_at "sz"))
  | with_reducible apply Rd.raiseX
  | with_reducible apply Rd.exone
  | with_reducible apply Rd.callS
  | with_reducible apply Rd.callP
  | with_reducible apply Rd.xsX
  | with_reducible apply Rd.dnewX
  | with_reducible apply Rd.tyZ)
/-! ### a list, bent -/
open Ty Ln
section
variable {P : Program} {w : World} {K : PySem.W.Frag} {mg : Str → Option Value} {base : Heap} {D : Str → Addr}
theorem cutMem {xs : List V} {a b : Option Int} : ∀ x ∈ cutV xs a b, x ∈ xs := fun x hx => List.mem_of_mem_drop (List.mem_of_mem_take hx)
theorem cutLen {xs : List V} {a : Int} (h : 0 ≤ a) : (cutV xs none (some a)).length + (cutV xs (some a) none).length ≤ xs.length := by
  obtain ⟨n, rfl⟩ : ∃ n : Nat, a = n := ⟨a.toNat, by omega⟩
  rw [cut_to, cut_from, List.length_take, List.length_drop]
  omega
theorem cutLen1 {xs : List V} {a : Int} (h : 0 ≤ a) : (cutV xs (some (a + 1)) none).length ≤ (cutV xs (some a) none).length := by
  obtain ⟨n, rfl⟩ : ∃ n : Nat, a = n := ⟨a.toNat, by omega⟩
  rw [show (n : Int) + 1 = ((n + 1 : Nat) : Int) by omega, cut_from, cut_from, List.length_drop, List.length_drop]
  omega
theorem insX {r : V → List V → Hp → VK → Prop} {x : V} {vs : List V} {H : Hp} {Q : VK} (h : r x vs H Q) : r x vs H Q := h
/-- _law_bent_list(store, items, spare) -/
def spBentList (K : PySem.W.Frag) : Sp := fun vs H Q _ => ∃ (st c a : Addr) (xs : List V) (v : V), vs = [.ref st, .ref a, v] ∧ StoreAt H st c ∧ a ≠ st ∧ SqL K H a xs ∧ xs.length ≤ 1000 ∧
  ∀ (l : Addr) (ys : List V) (H' : Hp), (∀ y ∈ ys, y ∈ xs ∨ y = v) → ys.length ≤ xs.length + 1 → H l = none → Go st c H H' → H' l = some (.lst ys) → Q (.ref l) H'
theorem ok__law_bent_list (F : Def K mg "_law_bent_list" s__law_bent_list P__law_bent_list) (m_list : mg "list" = none) (m_len : mg "len" = none) (m_reversed : mg "reversed" = none) (C__law_take : Cal P w K mg base 1 "_law_take" P__law_take spTake) : Cal P w K mg base 2 "_law_bent_list" P__law_bent_list (spBentList K) := by
  refine F.ok sc__law_bent_list (fun vs H Q E h => ?_) (fun f cdv A outer s H vs Q E hr h => ?_)
  · obtain ⟨st, c, a, xs, v, rfl, _⟩ := h
    rfl
  obtain ⟨st, c, a, xs, v, rfl, hs, ast, ha, lx, q⟩ := h
  refine ⟨_, (pss_cons (ps_set (i := 3) sc__law_bent_list.nd rfl (Or.inl rfl) (pe_callTy q_list (by rfl) m_list bb_list (pa_cons (pv 1 (hd := nd_items) (hcd := nc_items)) pa_nil) (hn := nn_list) (hdb := nd_list)))
  (pss_cons (ps_set (i := 4) sc__law_bent_list.nd rfl (Or.inl rfl) (pe_cal C__law_take hr (pa_cons (pv 0 (hd := nd_store) (hcd := nc_store)) (pa_cons pe_int pa_nil)) (hdb := nd__law_take)))
  (pss_cons (ps_set (i := 5) sc__law_bent_list.nd rfl (Or.inl rfl) (pe_cal C__law_take hr (pa_cons (pv 0 (hd := nd_store) (hcd := nc_store)) (pa_cons (pe_callB q_len (by rfl) m_len PySem.boot_len (pa_cons (pv 3 (hd := nd_row) (hcd := nc_row)) pa_nil) (hn := nn_len) (hdb := nd_len)) pa_nil)) (hdb := nd__law_take)))
  (pss_cons (ps_set (i := 6) sc__law_bent_list.nd rfl (Or.inl rfl) (pe_cal C__law_take hr (pa_cons (pv 0 (hd := nd_store) (hcd := nc_store)) (pa_cons (pe_callB q_len (by rfl) m_len PySem.boot_len (pa_cons (pv 3 (hd := nd_row) (hcd := nc_row)) pa_nil) (hn := nn_len) (hdb := nd_len)) pa_nil)) (hdb := nd__law_take)))
  (pss_cons (ps_if (pt_cmpR op_eq (pv 4 (hd := nd_style) (hcd := nc_style)) pe_int (nomark _)) (pss_one (ps_ret (pv 3 (hd := nd_row) (hcd := nc_row)))) pss_nil)
  (pss_cons (ps_if (PW.pt (pw_or (pt_cmpR op_eq (pv 4 (hd := nd_style) (hcd := nc_style)) pe_int (nomark _)) (pw_or1 (pt_cmpR op_eq (pe_callB q_len (by rfl) m_len PySem.boot_len (pa_cons (pv 3 (hd := nd_row) (hcd := nc_row)) pa_nil) (hn := nn_len) (hdb := nd_len)) pe_int (nomark _))))) (pss_cons (ps_expr (pe_bm PySem.F.plainAttrs_list PySem.F.slot_list_insert PySem.F.type_list_insert mt_insert (pv 3 (hd := nd_row) (hcd := nc_row)) (pa_cons (pe_cal C__law_take hr (pa_cons (pv 0 (hd := nd_store) (hcd := nc_store)) (pa_cons (pe_op op_add (pe_callB q_len (by rfl) m_len PySem.boot_len (pa_cons (pv 3 (hd := nd_row) (hcd := nc_row)) pa_nil) (hn := nn_len) (hdb := nd_len)) pe_int) pa_nil)) (hdb := nd__law_take)) (pa_cons (pv 2 (hd := nd_spare) (hcd := nc_spare)) pa_nil))))
  (pss_one (ps_ret (pv 3 (hd := nd_row) (hcd := nc_row))))) pss_nil)
  (pss_cons (ps_if (pt_cmpR op_eq (pv 4 (hd := nd_style) (hcd := nc_style)) pe_int (nomark _)) (pss_one (ps_ret (pe_op op_cat (pe_slice sl_list (pv 3 (hd := nd_row) (hcd := nc_row)) po_none (po_some (pv 5 (hd := nd_at) (hcd := nc_at)))) (pe_slice sl_list (pv 3 (hd := nd_row) (hcd := nc_row)) (po_some (pe_op op_add (pv 5 (hd := nd_at) (hcd := nc_at)) pe_int)) po_none)))) pss_nil)
  (pss_cons (ps_if (pt_cmpR op_eq (pv 4 (hd := nd_style) (hcd := nc_style)) pe_int (nomark _)) (pss_one (ps_ret (pe_op op_cat (pe_op op_cat (pe_slice sl_list (pv 3 (hd := nd_row) (hcd := nc_row)) po_none (po_some (pv 6 (hd := nd_to) (hcd := nc_to)))) (pe_lst (pa_cons (pe_ix ix_list (pv 3 (hd := nd_row) (hcd := nc_row)) (pv 5 (hd := nd_at) (hcd := nc_at)) (fun _ _ => rfl)) pa_nil))) (pe_slice sl_list (pv 3 (hd := nd_row) (hcd := nc_row)) (po_some (pv 6 (hd := nd_to) (hcd := nc_to))) po_none)))) pss_nil)
  (pss_cons (ps_if (pt_cmpR op_eq (pv 4 (hd := nd_style) (hcd := nc_style)) pe_int (nomark _)) (pss_cons (ps_set (i := 7) sc__law_bent_list.nd rfl (Or.inl rfl) (pe_ix ix_list (pv 3 (hd := nd_row) (hcd := nc_row)) (pv 5 (hd := nd_at) (hcd := nc_at)) (fun _ _ => rfl)))
  (pss_cons (ps_asg (pe_ix ix_list (pv 3 (hd := nd_row) (hcd := nc_row)) (pv 6 (hd := nd_to) (hcd := nc_to)) (fun _ _ => rfl)) (pg_sub (pv 3 (hd := nd_row) (hcd := nc_row)) (pv 5 (hd := nd_at) (hcd := nc_at)) set_list))
  (pss_cons (ps_asg (pv 7 (hd := nd_kept) (hcd := nc_kept)) (pg_sub (pv 3 (hd := nd_row) (hcd := nc_row)) (pv 6 (hd := nd_to) (hcd := nc_to)) set_list))
  (pss_one (ps_ret (pv 3 (hd := nd_row) (hcd := nc_row))))))) pss_nil)
  (pss_cons (ps_if (pt_cmpR op_eq (pv 4 (hd := nd_style) (hcd := nc_style)) pe_int (nomark _)) (pss_cons (ps_asg (pv 2 (hd := nd_spare) (hcd := nc_spare)) (pg_sub (pv 3 (hd := nd_row) (hcd := nc_row)) (pv 5 (hd := nd_at) (hcd := nc_at)) set_list))
  (pss_one (ps_ret (pv 3 (hd := nd_row) (hcd := nc_row))))) pss_nil)
  (pss_cons (ps_if (pt_cmpR op_eq (pv 4 (hd := nd_style) (hcd := nc_style)) pe_int (nomark _)) (pss_one (ps_ret (pe_lstRev (by rfl) (by rfl) m_list (by rfl) m_reversed (pv 3 (hd := nd_row) (hcd := nc_row))))) pss_nil)
  (pss_one (ps_ret (pe_lst pa_nil)))))))))))))), ?_⟩
  refine Rd.at0 (σ := [some (.ref st), some (.ref a), some v, none, none, none, none, none]) rfl ?_
  repeat' (walk_at "rd")
  rename_i l n G s e
  have off := hs.off n
  refine ⟨st, c, 8, rfl, hs.same s, by decide, fun y H1 y0 y1 g1 => ?_⟩
  have e1 := g1.keep _ _ off.1 e
  repeat' (walk_at "rd")
  refine ⟨st, c, _, rfl, g1.ok, by omega, fun at' H2 a0 a1 g2 => ?_⟩
  have e2 := g2.keep _ _ off.1 e1
  repeat' (walk_at "rd")
  refine ⟨st, c, _, rfl, g2.ok, by omega, fun to H3 t0 t1 g3 => ?_⟩
  have e3 := g3.keep _ _ off.1 e2
  have gg : Go st c H H3 := ((((Go.refl hs).same s).trans g1).trans g2).trans g3
  have ca := cutLen (xs := xs) a0
  have ca1 := cutLen1 (xs := xs) a0
  have ct := cutLen (xs := xs) t0
  have ins : ∀ (D2 : Ends) (G : Hp), True := fun _ _ => trivial
  repeat' (walk_at "rd")
  · exact q l xs H3 (fun _ h => .inl h) (by omega) n gg e3
  · refine ⟨st, c, _, rfl, g3.ok, by omega, fun r H4 r0 r1 g4 => ?_⟩
    have e4 := g4.keep _ _ off.1 e3
    repeat' (walk_at "rd")
    refine ⟨l, xs, r, v, rfl, rfl, e4, sz5' (by omega), r0, by omega, ?_⟩
    repeat' (walk_at "rd")
    refine q l _ _ (fun z hz => ?_) ?_ n ((gg.trans g4).write n off _) upd_same
    · rcases List.mem_append.mp hz with hz | hz
      · rcases List.mem_append.mp hz with hz | hz
        · exact .inl (List.mem_of_mem_take hz)
        · exact .inr (List.mem_singleton.mp hz)
      · exact .inl (List.mem_of_mem_drop hz)
    · simp only [List.length_append, List.length_take, List.length_drop, List.length_singleton]
      omega
  · refine ⟨st, c, _, rfl, g3.ok, by omega, fun r H4 r0 r1 g4 => ?_⟩
    have e4 := g4.keep _ _ off.1 e3
    repeat' (walk_at "rd")
    refine ⟨l, xs, r, v, rfl, rfl, e4, sz5' (by omega), r0, by omega, ?_⟩
    repeat' (walk_at "rd")
    refine q l _ _ (fun z hz => ?_) ?_ n ((gg.trans g4).write n off _) upd_same
    · rcases List.mem_append.mp hz with hz | hz
      · rcases List.mem_append.mp hz with hz | hz
        · exact .inl (List.mem_of_mem_take hz)
        · exact .inr (List.mem_singleton.mp hz)
      · exact .inl (List.mem_of_mem_drop hz)
    · simp only [List.length_append, List.length_take, List.length_drop, List.length_singleton]
      omega
  all_goals have atl : at' < (xs.length : Int) := by omega
  all_goals have tol : to < (xs.length : Int) := by omega
  · rename_i l1 n1 G1 s1 c1 l2 n2 G2 s2 c2
    refine Rd.cat (s2 _ _ c1) c2 (sz5 (by omega)) ?_
    repeat' (walk_at "rd")
    rename_i l3 n3 G3 s3 c3
    refine q l3 _ G3 (fun z hz => .inl ?_) ?_ (gg.free ((s1.trans s2).free n3)) (gg.same ((s1.trans s2).trans s3)) c3
    · exact (List.mem_append.mp hz).elim (cutMem z) (cutMem z)
    · rw [List.length_append]
      omega
  · rename_i l1 n1 G1 s1 c1
    refine ixN' (.inl (.inl (s1 _ _ e3))) a0 (List.getElem?_eq_getElem (by omega)) ?_
    repeat' (walk_at "rd")
    rename_i l2 n2 G2 s2 c2
    refine Rd.cat (s2 _ _ c1) c2 (sz5 (by show _ + 1 ≤ 100000; omega)) ?_
    repeat' (walk_at "rd")
    rename_i l3 n3 G3 s3 c3 l4 n4 G4 s4 c4
    refine Rd.cat (s4 _ _ c3) c4 (sz5 (by rw [List.length_append]; show _ + 1 + _ ≤ 100000; omega)) ?_
    repeat' (walk_at "rd")
    rename_i l5 n5 G5 s5 c5
    have t := ((s1.trans s2).trans s3).trans s4
    refine q l5 _ G5 (fun z hz => .inl ?_) ?_ (gg.free (t.free n5)) (gg.same (t.trans s5)) c5
    · rcases List.mem_append.mp hz with hz | hz
      · rcases List.mem_append.mp hz with hz | hz
        · exact cutMem z hz
        · rw [List.mem_singleton.mp hz]
          exact List.getElem_mem _
      · exact cutMem z hz
    · rw [List.length_append, List.length_append]
      show _ + 1 + _ ≤ _
      omega
  · have x1 : xs[at'.toNat]? = some xs[at'.toNat] := List.getElem?_eq_getElem (by omega)
    have x2 : xs[to.toNat]? = some xs[to.toNat] := List.getElem?_eq_getElem (by omega)
    refine ixN' (.inl (.inl e3)) a0 x1 ?_
    repeat' (walk_at "rd")
    refine ixN' (.inl (.inl e3)) t0 x2 ?_
    repeat' (walk_at "rd")
    refine setN' e3 a0 atl ?_
    repeat' (walk_at "rd")
    refine setN' upd_same t0 (by rw [List.length_set]; exact tol) ?_
    repeat' (walk_at "rd")
    rw [upd_upd]
    refine q l _ _ (fun z hz => .inl ((swap_perm x1 x2).mem_iff.mp hz)) (by rw [List.length_set, List.length_set]; omega) n (gg.write n off _) upd_same
  · refine setN' e3 a0 atl ?_
    repeat' (walk_at "rd")
    refine q l _ _ (fun z hz => (List.mem_or_eq_of_mem_set hz)) (by rw [List.length_set]; omega) n (gg.write n off _) upd_same
  · rename_i l1 n1 G1 s1 c1
    exact q l1 _ G1 (fun z hz => .inl (List.mem_reverse.mp hz)) (by rw [List.length_reverse]; omega) (gg.free n1) (gg.same s1) c1
  · rename_i l1 n1 G1 s1 c1
    exact q l1 [] G1 (fun _ h => nomatch h) (Nat.zero_le _) (gg.free n1) (gg.same s1) c1
end
end Kj
namespace Kj
open PySem PySem.Spec PyProof.Rows L2 Rd
/-! ### the stepper -/
local macro_rules | `(tactic| walk_at "hp") => `(tactic| first
  | assumption
  | exact upd_same
  | (refine Eq.trans (upd_ne (by first | assumption | (apply Ne.symm; assumption))) ?_; walk_at "hp"))
local macro_rules | `(tactic| walk_at "sq") => `(tactic| first
  | assumption
  | (refine Or.inl (Or.inl ?_); walk_at "hp"))
local macro_rules | `(tactic| walk_at "st") => `(tactic| first
  | assumption
  | (refine Or.inl (Or.inl ?_); walk_at "hp"))
local macro_rules | `(tactic| walk_at "ar") => `(tactic| first
  | assumption
  | omega
  | decide)
local macro_rules | `(tactic| walk_at "ci") => `(tactic| first
  | (refine (show CMul _ _ from Or.inr ⟨?_, ?_⟩) <;> omega)
  | (refine (show CMul _ _ from Or.inl ⟨?_, ?_⟩) <;> omega)
  | (show CPow _ _; exact ⟨by decide, by decide, by decide⟩)
  | (refine wide_div (b := 63) ?_ ?_ (by decide) (by decide) <;> omega)
  | (show (0 : Int) < _; omega))
local macro_rules | `(tactic| walk_at "ty") => `(tactic| first
  | exact dp_ty (by assumption)
  | exact TyX.base (TyOf.int _)
  | exact TyX.base (TyOf.str _)
  | exact TyX.base (TyOf.bl _)
  | exact TyX.base TyOf.non
  | exact tyL' (by walk_at "sq")
  | exact tyT' (by walk_at "st"))
local macro_rules | `(tactic| walk_at "isi") => `(tactic| first
  | ((with_reducible apply Rd.isiF); (walk_at "ty"); (decide))
  | ((with_reducible apply Rd.isiT); (walk_at "ty"); (decide)))
local macro_rules | `(tactic| walk_at "rd") => `(tactic| first
  | with_reducible apply Rd.seq
  | ((with_reducible apply Rd.var); rfl)
  | with_reducible apply Rd.con
  | with_reducible apply Rd.op
  | with_reducible apply Rd.asg
  | ((with_reducible apply Rd.gname); ((dsimp only [List.set, L2.wipe, Int.reduceToNat]) <;> rfl))
  | with_reducible apply Rd.nxt
  | with_reducible apply Rd.ifs
  | with_reducible apply Rd.test
  | with_reducible apply Rd.testB
  | with_reducible apply Rd.exbl
  | with_reducible apply Rd.ret
  | with_reducible apply Rd.drop
  | with_reducible apply Rd.retN
  | with_reducible apply Rd.nil
  | with_reducible apply Rd.cons
  | with_reducible apply Rd.call
  | with_reducible apply Rd.cb
  | with_reducible apply Rd.and
  | with_reducible apply Rd.or
  | with_reducible apply Rd.not
  | with_reducible apply Rd.andV
  | with_reducible apply Rd.orV
  | with_reducible apply Rd.notV
  | with_reducible apply Rd.ife
  | with_reducible apply Rd.tup
  | with_reducible apply Rd.lst
  | with_reducible apply Rd.un
  | with_reducible apply Rd.chain
  | with_reducible apply Rd.brk
  | with_reducible apply Rd.cnt
  | with_reducible apply Rd.I0
  | with_reducible apply Rd.U1
  | ((with_reducible apply Rd.eq); rfl)
  | ((with_reducible apply Rd.ne); rfl)
  | ((with_reducible apply Rd.I1); (walk_at "ci"))
  | with_reducible apply Rd.lc0
  | with_reducible apply Rd.ln0
  | with_reducible apply Rd.exN
  | ((with_reducible apply Rd.iteSf); (decide +kernel))
  | ((with_reducible apply Rd.iteSt); (decide +kernel))
  | ((with_reducible apply Rd.niQ); (exact Or.inl (by walk_at "sq")); (exact ⟨rfl, rfl⟩); (rfl))
  | ((with_reducible apply Rd.inQ); (exact Or.inl (by walk_at "sq")); (exact ⟨rfl, rfl⟩); (rfl))
  | with_reducible apply Rd.rn1
  | with_reducible apply Rd.in1
  | with_reducible apply Rd.sn1
  | with_reducible apply Rd.bn1
  | with_reducible apply Rd.nn1
  | with_reducible apply Rd.rn2
  | with_reducible apply Rd.in2
  | with_reducible apply Rd.sn2
  | with_reducible apply Rd.bn2
  | with_reducible apply Rd.nn2
  | with_reducible apply Rd.nt1
  | with_reducible apply Rd.nf1
  | (with_reducible refine Rd.iteI (fun _ => ?_) (fun _ => ?_))
  | (with_reducible refine Rd.iteNI (fun _ => ?_) (fun _ => ?_))
  | (with_reducible refine iteT ?_)
  | (with_reducible refine iteF ?_)
  | (with_reducible refine Rd.iteD (fun _ => ?_) (fun _ => ?_))
  | (with_reducible refine Rd.iteN (fun _ => ?_) (fun _ => ?_))
  | with_reducible apply Rd.intI
  | with_reducible apply Rd.intB
  | with_reducible apply Rd.maxQ
  | with_reducible apply Rd.minQ
  | with_reducible apply Rd.absQ
  | with_reducible apply Rd.isN
  | with_reducible apply Rd.noN
  | with_reducible apply Rd.ltZ
  | with_reducible apply Rd.bm
  | with_reducible apply Rd.bm0
  | with_reducible apply Rd.par
  | with_reducible apply Rd.expar
  | with_reducible apply Rd.exint
  | with_reducible apply Rd.ipi
  | with_reducible apply Rd.slice
  | with_reducible apply Rd.noPart
  | with_reducible apply Rd.part
  | with_reducible apply Rd.gcons
  | with_reducible apply Rd.gnil
  | with_reducible apply Rd.iseq
  | with_reducible apply Rd.irng1
  | walk_at "isi"
  | with_reducible apply Rd.forX
  | with_reducible apply Rd.lstRev
  | with_reducible apply Rd.lstRg
  | with_reducible apply Rd.rg1
  | with_reducible apply Rd.rg2
  | with_reducible apply Rd.exint2
  | ((with_reducible apply Rd.exrev); (walk_at "sq"))
  | with_reducible apply Rd.lcX
  | with_reducible apply Rd.yes
  | ((with_reducible apply Rd.exrng1); (constructor <;> omega))
  | ((with_reducible apply Rd.exrng2); (refine ⟨?_, ?_, ?_, ?_⟩ <;> omega))
  | with_reducible apply Rd.irng2
  | ((with_reducible apply Rd.aug); rfl)
  | ((with_reducible apply Rd.exlst); (walk_at "sq"))
  | ((with_reducible apply Rd.gtup); (walk_at "st"); (rfl))
  | ((with_reducible apply Rd.tyL); (walk_at "hp"))
  | ((with_reducible apply Rd.ixL); (walk_at "sq"); (rfl))
  | ((with_reducible apply Rd.ixI); (walk_at "sq"); (omega); (first | assumption | (simp only [List.length_map]; omega)); (intro _ _))
  | (with_reducible refine Rd.gsub ?_)
  | ((with_reducible apply Rd.setL); (walk_at "hp"); (rfl); ((dsimp only [List.set, L2.wipe, Int.reduceToNat]) <;> rfl))
  | ((with_reducible apply Rd.lenQ); (first | exact Or.inl (by walk_at "sq") | exact Or.inr (by walk_at "st")))
  | ((with_reducible apply Rd.listQ); (first | exact Or.inl (by walk_at "sq") | exact Or.inr (by walk_at "st")))
  | ((with_reducible apply Rd.tupQ); (walk_at "sq"))
  | ((with_reducible apply Rd.slL); (walk_at "sq"))
  | ((with_reducible apply Rd.ixT); (walk_at "st"); (rfl))
  | (with_reducible refine Rd.iteB (fun _ => ?_) (fun _ => ?_))
  | (with_reducible refine Rd.iteNB (fun _ => ?_) (fun _ => ?_))
  | (refine Rd.andI (Nat.le_of_ble_eq_true rfl) ?_)
  | dsimp only [List.set])
local macro_rules | `(tactic| walk_at "hp") => `(tactic| first
  | assumption
  | exact upd_same
  | (refine Eq.trans (upd_ne (by first | assumption | (apply Ne.symm; assumption))) ?_; walk_at "hp")
  | (refine hpS (by assumption) ?_; walk_at "hp"))
local macro_rules | `(tactic| walk_at "al") => `(tactic| (with_reducible intro l hl; generalize hG : upd _ l _ = G; have hs := newOne hl hG; clear hG; obtain ⟨hs, he⟩ := hs))
local macro_rules | `(tactic| walk_at "rd") => `(tactic| first
  | walk_at "al"
  | ((with_reducible apply Rd.cat); (walk_at "hp"); (walk_at "hp"); (exact Nat.le_of_ble_eq_true rfl)))
local macro_rules | `(tactic| walk_at "sm") => `(tactic| first
  | assumption
  | exact Same.refl _
  | (refine Same.trans ?_ (by assumption); walk_at "sm"))
local macro_rules | `(tactic| walk_at "fr") => `(tactic| first
  | assumption
  | (refine Same.free (by assumption) ?_; walk_at "fr"))
local macro_rules | `(tactic| walk_at "ty") => `(tactic| first
  | exact dv_ty (by assumption)
  | exact tyD' (by walk_at "hp"))
local macro_rules | `(tactic| walk_at "sz") => `(tactic| first
  | exact sz5 (by omega)
  | (simp only [add_len, one_len]; exact sz5 (by omega)))
local macro_rules | `(tactic| walk_at "rd") => `(tactic| first
  | with_reducible apply Rd.istr
  | with_reducible apply Rd.exstr
  | with_reducible apply Rd.leA
  | with_reducible apply Rd.leZz
  | with_reducible apply Rd.le0
  | with_reducible apply Rd.le9
  | with_reducible apply Rd.niZ
  | ((with_reducible apply Rd.lenZ); (walk_at "sz"))
  | ((with_reducible apply Rd.slZ); (walk_at "sz"))
  | ((with_reducible apply Rd.addZ); (walk_at "sz"))
  | with_reducible apply Rd.raiseX
  | with_reducible apply Rd.exone
  | with_reducible apply Rd.callS
  | with_reducible apply Rd.callP
  | with_reducible apply Rd.xsX
  | with_reducible apply Rd.dnewX
  | with_reducible apply Rd.tyZ)
/-! ### a drawn walk -/
open Ty Ln
section
variable {P : Program} {w : World} {K : PySem.W.Frag} {mg : Str → Option Value} {base : Heap} {D : Str → Addr}
/-- v is a tuple of three words -/
def TrAt (H : Hp) (v : V) : Prop := ∃ u : Str × Str × Str, WV H v (tr u)
theorem TrAt.same {H H' : Hp} {v : V} (h : TrAt H v) (s : Same H H') : TrAt H' v := by
  obtain ⟨u, h⟩ := h
  exact ⟨u, h.same s⟩
theorem wv_go {st c : Addr} {H H' : Hp} {v : V} {k : List Str} (h : WV H v k) (o : StoreAt H st c) (g : Go st c H H') : WV H' v k := by
  obtain ⟨ok, t, e, ht⟩ := h
  refine ⟨ok, t, e, g.keep _ _ (fun z => ?_) ht⟩
  obtain ⟨ns, p, d, s, t', h1, _⟩ := o
  rw [z, h1] at ht
  cases ht
theorem TrAt.go {st c : Addr} {H H' : Hp} {v : V} (h : TrAt H v) (o : StoreAt H st c) (g : Go st c H H') : TrAt H' v := by
  obtain ⟨u, h⟩ := h
  exact ⟨u, wv_go h o g⟩
theorem TrAt.put {H : Hp} {a : Addr} {xs ys : List V} {v : V} (e : H a = some (.lst xs)) (h : TrAt H v) : TrAt (upd H a (.lst ys)) v := by
  obtain ⟨u, ok, t, e', ht⟩ := h
  exact ⟨u, ok, t, e', (upd_ne (fun z => by rw [z, e] at ht; cases ht)).trans ht⟩
theorem TrAt.mk {H : Hp} {t : Addr} {x y z : Str} (e : H t = some (.tup [.str x, .str y, .str z])) (hx : PyData.strOk x = true) (hy : PyData.strOk y = true) (hz : PyData.strOk z = true) : TrAt H (.ref t) :=
  ⟨(x, y, z), fun n hn => by
    have hn : n = x ∨ n = y ∨ n = z := by simpa [tr] using hn
    rcases hn with rfl | rfl | rfl <;> assumption, t, rfl, e⟩
/-- its three words -/
theorem TrAt.of {H : Hp} {v : V} (h : TrAt H v) : ∃ (t : Addr) (x y z : Str), v = .ref t ∧ H t = some (.tup [.str x, .str y, .str z]) ∧ PyData.strOk x = true ∧ PyData.strOk y = true ∧ PyData.strOk z = true := by
  obtain ⟨⟨x, y, z⟩, ok, t, e, ht⟩ := h
  exact ⟨t, x, y, z, e, ht, ok _ (.head _), ok _ (.tail _ (.head _)), ok _ (.tail _ (.tail _ (.head _)))⟩
theorem wvs_tr {H : Hp} : ∀ {vs : List V}, (∀ v ∈ vs, TrAt H v) → ∃ us : List (Str × Str × Str), us.length = vs.length ∧ WVs H vs (us.map tr)
  | [], _ => ⟨[], rfl, trivial⟩
  | v :: vs, h => by
    obtain ⟨u, hu⟩ := h v (.head _)
    obtain ⟨us, l, k⟩ := wvs_tr fun x hx => h x (.tail _ hx)
    exact ⟨u :: us, by rw [List.length_cons, List.length_cons, l], hu, k⟩
theorem tr_of {H : Hp} {vs : List V} {us : List (Str × Str × Str)} (h : WVs H vs (us.map tr)) : ∀ v ∈ vs, TrAt H v := fun v hv => by
  obtain ⟨k, hk, e⟩ := h.mem hv
  obtain ⟨u, _, rfl⟩ := List.mem_map.mp hk
  exact ⟨u, e⟩
theorem go_kx {st c S : Addr} {H G G' : Hp} (g : Go st c H G) (n : H S = none) (off : S ≠ st ∧ S ≠ c) (k : ∀ b o, b ≠ S → G b = some o → G' b = some o) : Go st c H G' :=
  ⟨g.ok.kept fun b o hb => k b o (by rcases hb with rfl | rfl; exact off.1.symm; exact off.2.symm), fun b o hb e => k b o (fun z => by rw [z, n] at e; cases e) (g.keep b o hb e)⟩
/-- _law_walk(store, houses, lines, a, most) -/
def spWalk : Sp := fun vs H Q _ => ∃ (st c h l : Addr) (a : Str) (m : Int) (ts : List (Str × Str × Str)), vs = [.ref st, .ref h, .ref l, .str a, .int m] ∧ StoreAt H st c ∧ l ≠ st ∧ WL H l (ts.map tr) ∧ ts.length ≤ 1000 ∧ 0 ≤ m ∧ m ≤ 20 ∧
  ∀ (L W : Addr) (b : Str) (ws : List V) (H' : Hp), (ws.length : Int) ≤ m → H L = none → H W = none → Go st c H H' → H' L = some (.lst [.ref W, .str b]) → H' W = some (.lst ws) → (∀ v ∈ ws, TrAt H' v) → Q (.ref L) H'
theorem ok__law_walk (F : Def K mg "_law_walk" s__law_walk P__law_walk) (m_range : mg "range" = none) (C__law_take : Cal P w K mg base 1 "_law_take" P__law_take spTake) (C__law_pick : Cal P w K mg base 2 "_law_pick" P__law_pick (spPick K)) : Cal P w K mg base 3 "_law_walk" P__law_walk spWalk := by
  refine F.ok sc__law_walk (fun vs H Q E h => ?_) (fun f cdv A outer s H vs Q E hr h => ?_)
  · obtain ⟨st, c, h, l, a, m, ts, rfl, _⟩ := h
    rfl
  obtain ⟨st, c, h, l, a, m, ts, rfl, hs, lst, wl, lts, m0, m1, q⟩ := h
  refine ⟨_, (pss_cons (ps_set (i := 5) sc__law_walk.nd rfl (Or.inl rfl) (pe_lst pa_nil))
  (pss_cons (ps_set (i := 6) sc__law_walk.nd rfl (Or.inl rfl) (pe_lst (pa_cons (pv 3 (hd := nd_a) (hcd := nc_a)) pa_nil)))
  (pss_cons (ps_for PassesOwn.never rfl (pi_range1 (by rfl) m_range (pa_cons (pv 4 (hd := nd_most) (hcd := nc_most)) pa_nil)) (pg_name (i := 7) sc__law_walk.nd rfl (Or.inl rfl)) (pss_cons (ps_set (i := 8) sc__law_walk.nd rfl (Or.inl rfl) (pe_lst pa_nil))
  (pss_cons (ps_for PassesOwn.never rfl (pi_list (pv 2 (hd := nd_lines) (hcd := nc_lines))) (pg_name (i := 9) sc__law_walk.nd rfl (Or.inl rfl)) (C8.pss_cut (ps_if (PW.pt (pw_and (pt_cmpR op_eq (pe_ix ix_tup (pv 9 (hd := nd_line) (hcd := nc_line)) pe_int (fun _ _ => rfl)) (pe_ix ix_list (pv 6 (hd := nd_met) (hcd := nc_met)) (pe_un un_neg pe_int) (fun _ _ => rfl)) (nomark _)) (pw_and1 (pt_cmpR op_notIn_seq (pe_ix ix_tup (pv 9 (hd := nd_line) (hcd := nc_line)) pe_int (fun _ _ => rfl)) (pv 6 (hd := nd_met) (hcd := nc_met)) (by rfl))))) (pss_one (ps_expr (pe_bm PySem.F.plainAttrs_list PySem.F.slot_list_append PySem.F.type_list_append mt_append (pv 8 (hd := nd_steps) (hcd := nc_steps)) (pa_cons (pe_tup (pa_cons (pe_ix ix_tup (pv 9 (hd := nd_line) (hcd := nc_line)) pe_int (fun _ _ => rfl)) (pa_cons (pe_ix ix_tup (pv 9 (hd := nd_line) (hcd := nc_line)) pe_int (fun _ _ => rfl)) (pa_cons (pe_ix ix_tup (pv 9 (hd := nd_line) (hcd := nc_line)) pe_int (fun _ _ => rfl)) pa_nil)))) pa_nil)))) pss_nil)
  (pss_one (ps_if (PW.pt (pw_and (pt_cmpR op_eq (pe_ix ix_tup (pv 9 (hd := nd_line) (hcd := nc_line)) pe_int (fun _ _ => rfl)) (pe_ix ix_list (pv 6 (hd := nd_met) (hcd := nc_met)) (pe_un un_neg pe_int) (fun _ _ => rfl)) (nomark _)) (pw_and1 (pt_cmpR op_notIn_seq (pe_ix ix_tup (pv 9 (hd := nd_line) (hcd := nc_line)) pe_int (fun _ _ => rfl)) (pv 6 (hd := nd_met) (hcd := nc_met)) (by rfl))))) (pss_one (ps_expr (pe_bm PySem.F.plainAttrs_list PySem.F.slot_list_append PySem.F.type_list_append mt_append (pv 8 (hd := nd_steps) (hcd := nc_steps)) (pa_cons (pe_tup (pa_cons (pe_ix ix_tup (pv 9 (hd := nd_line) (hcd := nc_line)) pe_int (fun _ _ => rfl)) (pa_cons (pe_ix ix_tup (pv 9 (hd := nd_line) (hcd := nc_line)) pe_int (fun _ _ => rfl)) (pa_cons (pe_ix ix_tup (pv 9 (hd := nd_line) (hcd := nc_line)) pe_int (fun _ _ => rfl)) pa_nil)))) pa_nil)))) pss_nil))))
  (pss_cons (ps_set (i := 10) sc__law_walk.nd rfl (Or.inl rfl) (pe_cal C__law_pick hr (pa_cons (pv 0 (hd := nd_store) (hcd := nc_store)) (pa_cons (pv 8 (hd := nd_steps) (hcd := nc_steps)) pa_nil)) (hdb := nd__law_pick)))
  (pss_cons (ps_if (PW.pt (pw_or (pt_cmpR o_isN (pv 10 (hd := nd_step) (hcd := nc_step)) pe_non (nomark _)) (pw_or1 (pt_cmpR op_eq (pe_cal C__law_take hr (pa_cons (pv 0 (hd := nd_store) (hcd := nc_store)) (pa_cons pe_int pa_nil)) (hdb := nd__law_take)) pe_int (nomark _))))) (pss_one (ps_ret (pe_lst (pa_cons (pv 5 (hd := nd_way) (hcd := nc_way)) (pa_cons (pe_ix ix_list (pv 6 (hd := nd_met) (hcd := nc_met)) (pe_un un_neg pe_int) (fun _ _ => rfl)) pa_nil))))) pss_nil)
  (pss_cons (ps_expr (pe_bm PySem.F.plainAttrs_list PySem.F.slot_list_append PySem.F.type_list_append mt_append (pv 5 (hd := nd_way) (hcd := nc_way)) (pa_cons (pv 10 (hd := nd_step) (hcd := nc_step)) pa_nil)))
  (pss_one (ps_expr (pe_bm PySem.F.plainAttrs_list PySem.F.slot_list_append PySem.F.type_list_append mt_append (pv 6 (hd := nd_met) (hcd := nc_met)) (pa_cons (pe_ix ix_tup (pv 10 (hd := nd_step) (hcd := nc_step)) pe_int (fun _ _ => rfl)) pa_nil))))))))))
  (pss_one (ps_ret (pe_lst (pa_cons (pv 5 (hd := nd_way) (hcd := nc_way)) (pa_cons (pe_ix ix_list (pv 6 (hd := nd_met) (hcd := nc_met)) (pe_un un_neg pe_int) (fun _ _ => rfl)) pa_nil)))))))), ?_⟩
  refine Rd.at0 (σ := [some (.ref st), some (.ref h), some (.ref l), some (.str a), some (.int m), none, none, none, none, none, none]) rfl ?_
  repeat' (walk_at "rd")
  rename_i W nW G1 s1 eW M nM G2 s2 eM
  have oW := hs.off nW
  have oM := (hs.same s1).off nM
  have g2 : Go st c H G2 := (Go.refl hs).same (s1.trans s2)
  have nMH : H M = none := s1.free nM
  have neWM : W ≠ M := fun z => by rw [← z, eW] at nM; cases nM
  refine forR (fun i σ H' => ∃ (ws : List V) (met : List Str) (last : Str) (v7 v8 v9 v10 : Option V), σ = [some (.ref st), some (.ref h), some (.ref l), some (.str a), some (.int m), some (.ref W), some (.ref M), v7, v8, v9, v10] ∧ H' W = some (.lst ws) ∧ (∀ v ∈ ws, TrAt H' v) ∧ ws.length ≤ i ∧ H' M = some (.lst ((met ++ [last]).map V.str)) ∧ met.length ≤ i ∧ Go st c H H')
    ⟨[], [], a, none, none, none, none, rfl, s2 _ _ eW, (fun _ h => nomatch h), Nat.le_refl _, eM, Nat.le_refl _, g2⟩ ?_ ?_
  · rintro i σ H' hi ⟨ws, met, last, v7, v8, v9, v10, rfl, eW', hws, lws, eM', lmet, g⟩
    have hi : i < m.toNat := hi
    repeat' (walk_at "rd")
    rename_i S nS G3 s3 eS
    have g3 := g.same s3
    have nSH : H S = none := g.free nS
    have oS := hs.off nSH
    have neSM : M ≠ S := fun z => by rw [← z, eM'] at nS; cases nS
    have neSW : W ≠ S := fun z => by rw [← z, eW'] at nS; cases nS
    have eM3 := s3 _ _ eM'
    have eW3 := s3 _ _ eW'
    obtain ⟨ls, el, hls⟩ := (wl_go wl hs g lst).same s3
    have nelS : l ≠ S := fun z => by
      obtain ⟨ls', el', _⟩ := wl
      rw [z, nSH] at el'
      cases el'
    have lls : ls.length ≤ 1000 := by rw [hls.len, List.length_map]; exact lts
    have hws3 : ∀ v ∈ ws, TrAt G3 v := fun v hv => (hws v hv).same s3
    repeat' (walk_at "rd")
    generalize hk : V.int (0 + (i : Int)) = vk
    refine forL ls (fun j σ H'' => ∃ (us : List V) (v9 : Option V), σ = [some (.ref st), some (.ref h), some (.ref l), some (.str a), some (.int m), some (.ref W), some (.ref M), some vk, some (.ref S), v9, v10] ∧ H'' S = some (.lst us) ∧ (∀ v ∈ us, TrAt H'' v) ∧ us.length ≤ 2 * j ∧ (∀ b o, b ≠ S → G3 b = some o → H'' b = some o))
      ⟨[], v9, rfl, eS, (fun _ h => nomatch h), Nat.le_refl _, fun _ _ _ e => e⟩ (fun _ _ _ _ ⟨_, _, _, _, _, _, k⟩ => .inl (.inl (k _ _ nelS el))) ?_ ?_
    · rintro j x0 σ H'' hx ⟨us, v9, rfl, eS', hus, lus, k⟩
      obtain ⟨kk, hkk, okk, t0, rfl, et0⟩ := hls.at hx
      rw [List.getElem?_map] at hkk
      obtain ⟨⟨n, x, y⟩, ht, rfl⟩ := Option.map_eq_some_iff.mp hkk
      have jl := (List.getElem?_eq_some_iff.mp hx).1
      have okn : PyData.strOk n = true := okk _ (.head _)
      have okx : PyData.strOk x = true := okk _ (.tail _ (.head _))
      have oky : PyData.strOk y = true := okk _ (.tail _ (.tail _ (.head _)))
      have et : H'' t0 = some (.tup [.str n, .str x, .str y]) := k _ _ (fun z => by rw [z, eS] at et0; cases et0) et0
      have eM'' := k _ _ neSM eM3
      repeat' (walk_at "rd")
      refine Rd.cut (fun σ' H1 => ∃ us : List V, σ' = [some (.ref st), some (.ref h), some (.ref l), some (.str a), some (.int m), some (.ref W), some (.ref M), some vk, some (.ref S), some (.ref t0), v10] ∧ H1 S = some (.lst us) ∧ (∀ v ∈ us, TrAt H1 v) ∧ us.length ≤ 2 * j + 1 ∧ (∀ b o, b ≠ S → G3 b = some o → H1 b = some o) ∧ H1 t0 = some (.tup [.str n, .str x, .str y])) ?_ ?_
      · repeat' (walk_at "rd")
        refine Rd.ixL (v := .str last) (.inl (.inl eM'')) (by rw [List.map_append]; exact atI_last _ _) ?_
        repeat' (walk_at "rd")
        · refine ⟨M, _, rfl, .inl (.inl (.inl eM'')), rfl, flat_strs _, ?_⟩
          rw [if_pos rfl, inV_strs]
          by_cases mm : y ∈ met ++ [last]
          · rw [decide_eq_true mm]
            repeat' (walk_at "rd")
            exact ⟨us, rfl, eS', hus, by omega, k, et⟩
          · rw [decide_eq_false mm]
            repeat' (walk_at "rd")
            rename_i T nT G4 s4 eT
            refine append (s4 _ _ eS') (sz5' (by omega)) ?_
            repeat' (walk_at "rd")
            have neTS : S ≠ T := fun z => by rw [← z, eS'] at nT; cases nT
            refine ⟨us ++ [.ref T], rfl, upd_same, fun v hv => ?_, by rw [List.length_append]; show us.length + 1 ≤ _; omega, fun b o nb e => (upd_ne nb).trans (s4 _ _ (k b o nb e)), (upd_ne (fun z => by rw [z, eS'] at et; cases et)).trans (s4 _ _ et)⟩
            refine TrAt.put (s4 _ _ eS') ?_
            rcases List.mem_append.mp hv with hv | hv
            · exact (hus v hv).same s4
            · rw [List.mem_singleton.mp hv]
              exact .mk eT okn okx oky
        · exact ⟨us, rfl, eS', hus, by omega, k, et⟩
      rintro σ' H1 ⟨us, rfl, eS', hus, lus, k, et⟩
      have eM'' := k _ _ neSM eM3
      repeat' (walk_at "rd")
      refine Rd.ixL (v := .str last) (.inl (.inl eM'')) (by rw [List.map_append]; exact atI_last _ _) ?_
      repeat' (walk_at "rd")
      · refine ⟨M, _, rfl, .inl (.inl (.inl eM'')), rfl, flat_strs _, ?_⟩
        rw [if_pos rfl, inV_strs]
        by_cases mm : x ∈ met ++ [last]
        · rw [decide_eq_true mm]
          repeat' (walk_at "rd")
          exact ⟨us, _, rfl, eS', hus, by omega, k⟩
        · rw [decide_eq_false mm]
          repeat' (walk_at "rd")
          rename_i T nT G4 s4 eT
          refine append (s4 _ _ eS') (sz5' (by omega)) ?_
          repeat' (walk_at "rd")
          refine ⟨us ++ [.ref T], _, rfl, upd_same, fun v hv => ?_, by rw [List.length_append]; show us.length + 1 ≤ _; omega, fun b o nb e => (upd_ne nb).trans (s4 _ _ (k b o nb e))⟩
          refine TrAt.put (s4 _ _ eS') ?_
          rcases List.mem_append.mp hv with hv | hv
          · exact (hus v hv).same s4
          · rw [List.mem_singleton.mp hv]
            exact .mk eT okn oky okx
      · exact ⟨us, _, rfl, eS', hus, by omega, k⟩
    · rintro σ H'' ⟨us, v9, rfl, eS', hus, lus, k⟩
      have g4 := go_kx g3 nSH oS k
      have eM4 := k _ _ neSM eM3
      have eW4 := k _ _ neSW eW3
      have hws4 : ∀ v ∈ ws, TrAt H'' v := fun v hv => by
        obtain ⟨u, ok, t, e', ht⟩ := hws3 v hv
        exact ⟨u, ok, t, e', k _ _ (fun z => by rw [z, eS] at ht; cases ht) ht⟩
      repeat' (walk_at "rd")
      refine .inr ⟨st, c, S, us, rfl, g4.ok, oS.1, .inl (.inl eS'), by omega, fun _ => ?_, fun x H5 hx g5 => ?_⟩
      · repeat' (walk_at "rd")
        refine Rd.ixL (v := .str last) (.inl (.inl (by walk_at "hp"))) (by rw [List.map_append]; exact atI_last _ _) ?_
        repeat' (walk_at "rd")
        rename_i L9 n9 G9 s9 e9
        exact q L9 W last ws G9 (by omega) (g4.free n9) nW (g4.same s9) e9 (s9 _ _ eW4) (fun v hv => (hws4 v hv).same s9)
      · obtain ⟨t, n, x1, y1, rfl, et, okn, okx, oky⟩ := ((hus x hx).go g4.ok g5).of
        have eM5 := g5.keep _ _ oM.1 eM4
        have eW5 := g5.keep _ _ oW.1 eW4
        have hws5 : ∀ v ∈ ws, TrAt H5 v := fun v hv => (hws4 v hv).go g4.ok g5
        have g45 := g4.trans g5
        repeat' (walk_at "rd")
        refine ⟨st, c, 8, rfl, g5.ok, by decide, fun r H6 r0 r1 g6 => ?_⟩
        have eM6 := g6.keep _ _ oM.1 eM5
        have eW6 := g6.keep _ _ oW.1 eW5
        have et6 : H6 t = some (.tup [.str n, .str x1, .str y1]) := g6.keep _ _ (fun z => by
          obtain ⟨ns, p, d, s, t', h1, _⟩ := g5.ok
          rw [z, h1] at et
          cases et) et
        have hws6 : ∀ v ∈ ws, TrAt H6 v := fun v hv => (hws5 v hv).go g5.ok g6
        have g46 := g45.trans g6
        repeat' (walk_at "rd")
        · skip
          refine Rd.ixL (v := .str last) (.inl (.inl (by walk_at "hp"))) (by rw [List.map_append]; exact atI_last _ _) ?_
          repeat' (walk_at "rd")
          rename_i L9 n9 G9 s9 e9
          exact q L9 W last ws G9 (by omega) (g46.free n9) nW (g46.same s9) e9 (s9 _ _ eW6) (fun v hv => (hws6 v hv).same s9)
        refine append eW6 (sz5' (by omega)) ?_
        have eM7 : upd H6 W (.lst (ws ++ [.ref t])) M = _ := (upd_ne (Ne.symm neWM)).trans eM6
        have eW7 : upd H6 W (.lst (ws ++ [.ref t])) W = _ := upd_same
        have et7 : upd H6 W (.lst (ws ++ [.ref t])) t = some (.tup [.str n, .str x1, .str y1]) := (upd_ne (fun z => by rw [z, eW6] at et6; cases et6)).trans et6
        have g7 := g46.write nW oW (.lst (ws ++ [.ref t]))
        have hws7 : ∀ v ∈ ws ++ [.ref t], TrAt (upd H6 W (.lst (ws ++ [.ref t]))) v := fun v hv => by
          refine TrAt.put eW6 ?_
          rcases List.mem_append.mp hv with hv | hv
          · exact hws6 v hv
          · rw [List.mem_singleton.mp hv]
            exact .mk et6 okn okx oky
        generalize upd H6 W (.lst (ws ++ [.ref t])) = H7 at *
        repeat' (walk_at "rd")
        refine append eM7 (by rw [List.length_map, List.length_append]; exact sz5' (by show met.length + 1 ≤ 100000; omega)) ?_
        repeat' (walk_at "rd")
        refine ⟨ws ++ [.ref t], met ++ [last], y1, _, _, _, _, rfl, (upd_ne neWM).trans eW7, (fun v hv => TrAt.put eM7 (hws7 v hv)), by rw [List.length_append]; show ws.length + 1 ≤ _; omega, ?_, by rw [List.length_append]; show met.length + 1 ≤ _; omega, g7.write nMH (by exact oM) _⟩
        rw [List.map_append (l₁ := met ++ [last])]
        exact upd_same
  · rintro σ H' ⟨ws, met, last, v7, v8, v9, v10, rfl, eW', hws, lws, eM', lmet, g⟩
    have lws : ws.length ≤ m.toNat := lws
    repeat' (walk_at "rd")
    refine Rd.ixL (v := .str last) (.inl (.inl (by walk_at "hp"))) (by rw [List.map_append]; exact atI_last _ _) ?_
    repeat' (walk_at "rd")
    rename_i L9 n9 G9 s9 e9
    exact q L9 W last ws G9 (by omega) (g.free n9) nW (g.same s9) e9 (s9 _ _ eW') (fun v hv => (hws v hv).same s9)
end
end Kj
namespace Kj
open PySem PySem.Spec PyProof.Rows L2 Rd
/-! ### the stepper -/
local macro_rules | `(tactic| walk_at "hp") => `(tactic| first
  | assumption
  | exact upd_same
  | (refine Eq.trans (upd_ne (by first | assumption | (apply Ne.symm; assumption))) ?_; walk_at "hp"))
local macro_rules | `(tactic| walk_at "sq") => `(tactic| first
  | assumption
  | (refine Or.inl (Or.inl ?_); walk_at "hp"))
local macro_rules | `(tactic| walk_at "st") => `(tactic| first
  | assumption
  | (refine Or.inl (Or.inl ?_); walk_at "hp"))
local macro_rules | `(tactic| walk_at "ar") => `(tactic| first
  | assumption
  | omega
  | decide)
local macro_rules | `(tactic| walk_at "ci") => `(tactic| first
  | (refine (show CMul _ _ from Or.inr ⟨?_, ?_⟩) <;> omega)
  | (refine (show CMul _ _ from Or.inl ⟨?_, ?_⟩) <;> omega)
  | (show CPow _ _; exact ⟨by decide, by decide, by decide⟩)
  | (refine wide_div (b := 63) ?_ ?_ (by decide) (by decide) <;> omega)
  | (show (0 : Int) < _; omega))
local macro_rules | `(tactic| walk_at "ty") => `(tactic| first
  | exact dp_ty (by assumption)
  | exact TyX.base (TyOf.int _)
  | exact TyX.base (TyOf.str _)
  | exact TyX.base (TyOf.bl _)
  | exact TyX.base TyOf.non
  | exact tyL' (by walk_at "sq")
  | exact tyT' (by walk_at "st"))
local macro_rules | `(tactic| walk_at "isi") => `(tactic| first
  | ((with_reducible apply Rd.isiF); (walk_at "ty"); (decide))
  | ((with_reducible apply Rd.isiT); (walk_at "ty"); (decide)))
local macro_rules | `(tactic| walk_at "rd") => `(tactic| first
  | with_reducible apply Rd.seq
  | ((with_reducible apply Rd.var); rfl)
  | with_reducible apply Rd.con
  | with_reducible apply Rd.op
  | with_reducible apply Rd.asg
  | ((with_reducible apply Rd.gname); ((dsimp only [List.set, L2.wipe, Int.reduceToNat]) <;> rfl))
  | with_reducible apply Rd.nxt
  | with_reducible apply Rd.ifs
  | with_reducible apply Rd.test
  | with_reducible apply Rd.testB
  | with_reducible apply Rd.exbl
  | with_reducible apply Rd.ret
  | with_reducible apply Rd.drop
  | with_reducible apply Rd.retN
  | with_reducible apply Rd.nil
  | with_reducible apply Rd.cons
  | with_reducible apply Rd.call
  | with_reducible apply Rd.cb
  | with_reducible apply Rd.and
  | with_reducible apply Rd.or
  | with_reducible apply Rd.not
  | with_reducible apply Rd.andV
  | with_reducible apply Rd.orV
  | with_reducible apply Rd.notV
  | with_reducible apply Rd.ife
  | with_reducible apply Rd.tup
  | with_reducible apply Rd.lst
  | with_reducible apply Rd.un
  | with_reducible apply Rd.chain
  | with_reducible apply Rd.brk
  | with_reducible apply Rd.cnt
  | with_reducible apply Rd.I0
  | with_reducible apply Rd.U1
  | ((with_reducible apply Rd.eq); rfl)
  | ((with_reducible apply Rd.ne); rfl)
  | ((with_reducible apply Rd.I1); (walk_at "ci"))
  | with_reducible apply Rd.lc0
  | with_reducible apply Rd.ln0
  | with_reducible apply Rd.exN
  | ((with_reducible apply Rd.iteSf); (decide +kernel))
  | ((with_reducible apply Rd.iteSt); (decide +kernel))
  | ((with_reducible apply Rd.niQ); (exact Or.inl (by walk_at "sq")); (exact ⟨rfl, rfl⟩); (rfl))
  | ((with_reducible apply Rd.inQ); (exact Or.inl (by walk_at "sq")); (exact ⟨rfl, rfl⟩); (rfl))
  | with_reducible apply Rd.rn1
  | with_reducible apply Rd.in1
  | with_reducible apply Rd.sn1
  | with_reducible apply Rd.bn1
  | with_reducible apply Rd.nn1
  | with_reducible apply Rd.rn2
  | with_reducible apply Rd.in2
  | with_reducible apply Rd.sn2
  | with_reducible apply Rd.bn2
  | with_reducible apply Rd.nn2
  | with_reducible apply Rd.nt1
  | with_reducible apply Rd.nf1
  | (with_reducible refine Rd.iteI (fun _ => ?_) (fun _ => ?_))
  | (with_reducible refine Rd.iteNI (fun _ => ?_) (fun _ => ?_))
  | (with_reducible refine iteT ?_)
  | (with_reducible refine iteF ?_)
  | (with_reducible refine Rd.iteD (fun _ => ?_) (fun _ => ?_))
  | (with_reducible refine Rd.iteN (fun _ => ?_) (fun _ => ?_))
  | with_reducible apply Rd.intI
  | with_reducible apply Rd.intB
  | with_reducible apply Rd.maxQ
  | with_reducible apply Rd.minQ
  | with_reducible apply Rd.absQ
  | with_reducible apply Rd.isN
  | with_reducible apply Rd.noN
  | with_reducible apply Rd.ltZ
  | with_reducible apply Rd.bm
  | with_reducible apply Rd.bm0
  | with_reducible apply Rd.par
  | with_reducible apply Rd.expar
  | with_reducible apply Rd.exint
  | with_reducible apply Rd.ipi
  | with_reducible apply Rd.slice
  | with_reducible apply Rd.noPart
  | with_reducible apply Rd.part
  | with_reducible apply Rd.gcons
  | with_reducible apply Rd.gnil
  | with_reducible apply Rd.iseq
  | with_reducible apply Rd.irng1
  | walk_at "isi"
  | with_reducible apply Rd.forX
  | with_reducible apply Rd.lstRev
  | with_reducible apply Rd.lstRg
  | with_reducible apply Rd.rg1
  | with_reducible apply Rd.rg2
  | with_reducible apply Rd.exint2
  | ((with_reducible apply Rd.exrev); (walk_at "sq"))
  | with_reducible apply Rd.lcX
  | with_reducible apply Rd.yes
  | ((with_reducible apply Rd.exrng1); (constructor <;> omega))
  | ((with_reducible apply Rd.exrng2); (refine ⟨?_, ?_, ?_, ?_⟩ <;> omega))
  | with_reducible apply Rd.irng2
  | ((with_reducible apply Rd.aug); rfl)
  | ((with_reducible apply Rd.exlst); (walk_at "sq"))
  | ((with_reducible apply Rd.gtup); (walk_at "st"); (rfl))
  | ((with_reducible apply Rd.tyL); (walk_at "hp"))
  | ((with_reducible apply Rd.ixL); (walk_at "sq"); (rfl))
  | ((with_reducible apply Rd.ixI); (walk_at "sq"); (omega); (first | assumption | (simp only [List.length_map]; omega)); (intro _ _))
  | (with_reducible refine Rd.gsub ?_)
  | ((with_reducible apply Rd.setL); (walk_at "hp"); (rfl); ((dsimp only [List.set, L2.wipe, Int.reduceToNat]) <;> rfl))
  | ((with_reducible apply Rd.lenQ); (first | exact Or.inl (by walk_at "sq") | exact Or.inr (by walk_at "st")))
  | ((with_reducible apply Rd.listQ); (first | exact Or.inl (by walk_at "sq") | exact Or.inr (by walk_at "st")))
  | ((with_reducible apply Rd.tupQ); (walk_at "sq"))
  | ((with_reducible apply Rd.slL); (walk_at "sq"))
  | ((with_reducible apply Rd.ixT); (walk_at "st"); (rfl))
  | (with_reducible refine Rd.iteB (fun _ => ?_) (fun _ => ?_))
  | (with_reducible refine Rd.iteNB (fun _ => ?_) (fun _ => ?_))
  | (refine Rd.andI (Nat.le_of_ble_eq_true rfl) ?_)
  | dsimp only [List.set])
local macro_rules | `(tactic| walk_at "hp") => `(tactic| first
  | assumption
  | exact upd_same
  | (refine Eq.trans (upd_ne (by first | assumption | (apply Ne.symm; assumption))) ?_; walk_at "hp")
  | (refine hpS (by assumption) ?_; walk_at "hp"))
local macro_rules | `(tactic| walk_at "al") => `(tactic| (with_reducible intro l hl; generalize hG : upd _ l _ = G; have hs := newOne hl hG; clear hG; obtain ⟨hs, he⟩ := hs))
local macro_rules | `(tactic| walk_at "rd") => `(tactic| first
  | walk_at "al"
  | ((with_reducible apply Rd.cat); (walk_at "hp"); (walk_at "hp"); (exact Nat.le_of_ble_eq_true rfl)))
local macro_rules | `(tactic| walk_at "sm") => `(tactic| first
  | assumption
  | exact Same.refl _
  | (refine Same.trans ?_ (by assumption); walk_at "sm"))
local macro_rules | `(tactic| walk_at "fr") => `(tactic| first
  | assumption
  | (refine Same.free (by assumption) ?_; walk_at "fr"))
local macro_rules | `(tactic| walk_at "ty") => `(tactic| first
  | exact dv_ty (by assumption)
  | exact tyD' (by walk_at "hp"))
local macro_rules | `(tactic| walk_at "sz") => `(tactic| first
  | exact sz5 (by omega)
  | (simp only [add_len, one_len]; exact sz5 (by omega)))
local macro_rules | `(tactic| walk_at "rd") => `(tactic| first
  | with_reducible apply Rd.istr
  | with_reducible apply Rd.exstr
  | with_reducible apply Rd.leA
  | with_reducible apply Rd.leZz
  | with_reducible apply Rd.le0
  | with_reducible apply Rd.le9
  | with_reducible apply Rd.niZ
  | ((with_reducible apply Rd.lenZ); (walk_at "sz"))
  | ((with_reducible apply Rd.slZ); (walk_at "sz"))
  | ((with_reducible apply Rd.addZ); (walk_at "sz"))
  | with_reducible apply Rd.raiseX
  | with_reducible apply Rd.exone
  | with_reducible apply Rd.callS
  | with_reducible apply Rd.callP
  | with_reducible apply Rd.xsX
  | with_reducible apply Rd.dnewX
  | with_reducible apply Rd.tyZ)
/-! ### a way, bent -/
open Ty Ln
section
variable {P : Program} {w : World} {K : PySem.W.Frag} {mg : Str → Option Value} {base : Heap} {D : Str → Addr}
theorem slT {H : Hp} {Q : VK} {p : Addr} {xs : List V} {lo hi : Option Int} (h : SqT K H p xs) (n : ¬ (HT.sIx xs.length 0 lo = 0 ∧ HT.sIx xs.length xs.length hi = xs.length)) (g : ∀ l, H l = none → Q (.ref l) (upd H l (.tup (cutV xs lo hi)))) : rSlT K (.ref p) lo hi H Q := ⟨p, xs, rfl, h, n, g⟩
theorem shaped_ls {k : List Str} (h : OkW k) : SeqAt.shaped (.list (k.map PyData.str)) = true := by
  unfold SeqAt.shaped
  rw [PyData.canLay0, lay_strs _ h, PyData.depth, depth_strs]
  rfl
theorem eqLS {H : Hp} {Q : VK} {a b : Addr} {xs ys : List Str} (h : H a = some (.lst (xs.map V.str))) (g : H b = some (.lst (ys.map V.str))) (ox : OkW xs) (oy : OkW ys) (q : Q (.bl (decide (xs = ys))) H) : rEqD K (.ref a) (.ref b) H Q :=
  ⟨.list (xs.map PyData.str), .list (ys.map PyData.str), .lst (.inl (.inl h)) (dp_strs _), .lst (.inl (.inl g)) (dp_strs _), shaped_ls ox, shaped_ls oy, by rw [PyData.eqv, eqv_strs]; exact q⟩
/-- what stands while a way is bent -/
structure BW (st c w l Wd : Addr) (wv ls : List V) (ks : List Str) (ts : List (Str × Str × Str)) (H : Hp) : Prop where
  ok : StoreAt H st c
  nw : w ≠ st
  nl : l ≠ st
  nd : Wd ≠ st
  ew : H w = some (.lst wv)
  tw : ∀ v ∈ wv, TrAt H v
  el : H l = some (.lst ls)
  kl : WVs H ls (ts.map tr)
  ed : H Wd = some (.lst (ks.map V.str))
  kd : ∀ k ∈ ks, PyData.strOk k = true
theorem BW.go {st c w l Wd : Addr} {wv ls : List V} {ks : List Str} {ts : List (Str × Str × Str)} {H H' : Hp} (b : BW st c w l Wd wv ls ks ts H) (g : Go st c H H') : BW st c w l Wd wv ls ks ts H' :=
  ⟨g.ok, b.nw, b.nl, b.nd, g.keep _ _ b.nw b.ew, fun v hv => (b.tw v hv).go b.ok g, g.keep _ _ b.nl b.el, wvs_go b.kl b.ok g, g.keep _ _ b.nd b.ed, b.kd⟩
theorem BW.same {st c w l Wd : Addr} {wv ls : List V} {ks : List Str} {ts : List (Str × Str × Str)} {H H' : Hp} (b : BW st c w l Wd wv ls ks ts H) (s : Same H H') : BW st c w l Wd wv ls ks ts H' := b.go ((Go.refl b.ok).same s)
/-- a word is picked -/
theorem BW.pick {st c w l Wd : Addr} {wv ls : List V} {ks : List Str} {ts : List (Str × Str × Str)} {H : Hp} {Q : VK} {E : XK} (b : BW st c w l Wd wv ls ks ts H) (ne : ks ≠ []) (lk : ks.length ≤ 100000) (q : ∀ z G, PyData.strOk z = true → BW st c w l Wd wv ls ks ts G → Go st c H G → Q (.str z) G) : spPick K [.ref st, .ref Wd] H Q E :=
  .inr ⟨st, c, Wd, ks.map V.str, rfl, b.ok, b.nd, .inl (.inl b.ed), by rw [List.length_map]; exact lk, fun e => absurd (List.map_eq_nil_iff.mp e) ne, fun x G hx g => by
    obtain ⟨z, hz, rfl⟩ := List.mem_map.mp hx
    exact q z G (b.kd z hz) (b.go g) g⟩
theorem bend_mem {H : Hp} {wv mid : List V} {a b c d : Option Int} (tw : ∀ v ∈ wv, TrAt H v) (tm : ∀ v ∈ mid, TrAt H v) : ∀ v ∈ cutV wv a b ++ mid ++ cutV wv c d, TrAt H v := fun v hv => by
  rcases List.mem_append.mp hv with hv | hv
  · rcases List.mem_append.mp hv with hv | hv
    · exact tw v (cutMem v hv)
    · exact tm v hv
  · exact tw v (cutMem v hv)
/-- _law_bent_way(store, way, houses, lines) -/
def spBentWay : Sp := fun vs H Q _ => ∃ (st c w h l : Addr) (wv : List V) (zs : List Str) (ts : List (Str × Str × Str)), vs = [.ref st, .ref w, .ref h, .ref l] ∧ StoreAt H st c ∧ w ≠ st ∧ h ≠ st ∧ l ≠ st ∧ H w = some (.lst wv) ∧ (∀ v ∈ wv, TrAt H v) ∧ wv.length ≤ 20 ∧
  H h = some (.lst (zs.map V.str)) ∧ zs.length ≤ 1000 ∧ (∀ z ∈ zs, NmS z) ∧ WL H l (ts.map tr) ∧ ts.length ≤ 1000 ∧
  ∀ (L : Addr) (ys : List V) (H' : Hp), ys.length ≤ wv.length + 2 → H L = none → Go st c H H' → H' L = some (.lst ys) → (∀ v ∈ ys, TrAt H' v) → Q (.ref L) H'
theorem ok__law_bent_way (F : Def K mg "_law_bent_way" s__law_bent_way P__law_bent_way) (m_list : mg "list" = none) (m_len : mg "len" = none) (m_tuple : mg "tuple" = none) (m_sorted : mg "sorted" = none) (C__law_take : Cal P w K mg base 1 "_law_take" P__law_take spTake) (C__law_pick : Cal P w K mg base 2 "_law_pick" P__law_pick (spPick K)) (C__law_bent_list : Cal P w K mg base 2 "_law_bent_list" P__law_bent_list (spBentList K)) (C__law_name : Cal P w K mg base 3 "_law_name" P__law_name spName) (C__law_bad_word : Cal P w K mg base 4 "_law_bad_word" P__law_bad_word (spTextA 200)) : Cal P w K mg base 5 "_law_bent_way" P__law_bent_way spBentWay := by
  refine F.ok sc__law_bent_way (fun vs H Q E h => ?_) (fun f cdv A outer s H vs Q E hr h => ?_)
  · obtain ⟨st, c, w, h, l, wv, zs, ts, rfl, _⟩ := h
    rfl
  obtain ⟨st, c, w', h, l, wv, zs, ts, rfl, hs, wst, hst, lst, ew, hwv, lwv, eh, lz, nz, wl, lts, q⟩ := h
  refine ⟨_, (pss_cons (ps_set (i := 5) sc__law_bent_way.nd rfl (Or.inl rfl) (pe_op op_cat (pe_op op_cat (pe_callTy q_list (by rfl) m_list bb_list (pa_cons (pv 2 (hd := nd_houses) (hcd := nc_houses)) pa_nil) (hn := nn_list) (hdb := nd_list)) (pe_lc (own := [("line", 4)]) (by rfl) sc__law_bent_way.nd (pi_list (pv 3 (hd := nd_lines) (hcd := nc_lines))) (blkOk_by (N := N__law_bent_way) (sc := defScope s__law_bent_way) (by decide +kernel)) (fun _ _ _ _ _ => (pg_name (i := 4) sc__law_bent_way.nd rfl (Or.inl rfl))) (fun _ _ _ _ _ => pts_nil) (fun _ _ _ _ _ => (pe_ix (ix_tupK (K := K) rfl) (pv 4 (hd := nd_line) (hcd := nc_line)) pe_int (fun _ _ => rfl))))) (pe_lst (pa_cons (pe_cal C__law_name hr (pa_cons (pv 0 (hd := nd_store) (hcd := nc_store)) pa_nil) (hdb := nd__law_name)) (pa_cons (pe_cal C__law_bad_word hr (pa_cons (pv 0 (hd := nd_store) (hcd := nc_store)) pa_nil) (hdb := nd__law_bad_word)) pa_nil)))))
  (pss_cons (ps_set (i := 6) sc__law_bent_way.nd rfl (Or.inl rfl) (pe_tup (pa_cons (pe_cal C__law_pick hr (pa_cons (pv 0 (hd := nd_store) (hcd := nc_store)) (pa_cons (pv 5 (hd := nd_words) (hcd := nc_words)) pa_nil)) (hdb := nd__law_pick)) (pa_cons (pe_cal C__law_pick hr (pa_cons (pv 0 (hd := nd_store) (hcd := nc_store)) (pa_cons (pv 5 (hd := nd_words) (hcd := nc_words)) pa_nil)) (hdb := nd__law_pick)) (pa_cons (pe_cal C__law_pick hr (pa_cons (pv 0 (hd := nd_store) (hcd := nc_store)) (pa_cons (pv 5 (hd := nd_words) (hcd := nc_words)) pa_nil)) (hdb := nd__law_pick)) pa_nil)))))
  (C8.pss_cut (ps_set (i := 4) sc__law_bent_way.nd rfl (Or.inl rfl) (pe_cal C__law_pick hr (pa_cons (pv 0 (hd := nd_store) (hcd := nc_store)) (pa_cons (pv 3 (hd := nd_lines) (hcd := nc_lines)) pa_nil)) (hdb := nd__law_pick)))
  (C8.pss_cut (ps_if (PW.pt (pw_and (pt_cmpR o_noN (pv 4 (hd := nd_line) (hcd := nc_line)) pe_non (nomark _)) (pw_and1 (pt_cmpR op_eq (pe_cal C__law_take hr (pa_cons (pv 0 (hd := nd_store) (hcd := nc_store)) (pa_cons pe_int pa_nil)) (hdb := nd__law_take)) pe_int (nomark _))))) (pss_one (ps_set (i := 6) sc__law_bent_way.nd rfl (Or.inl rfl) (pe_tup (pa_cons (pe_ix ix_tup (pv 4 (hd := nd_line) (hcd := nc_line)) pe_int (fun _ _ => rfl)) (pa_cons (pe_ix ix_tup (pv 4 (hd := nd_line) (hcd := nc_line)) pe_int (fun _ _ => rfl)) (pa_cons (pe_ix ix_tup (pv 4 (hd := nd_line) (hcd := nc_line)) pe_int (fun _ _ => rfl)) pa_nil)))))) pss_nil)
  (pss_cons (ps_set (i := 7) sc__law_bent_way.nd rfl (Or.inl rfl) (pe_cal C__law_take hr (pa_cons (pv 0 (hd := nd_store) (hcd := nc_store)) (pa_cons pe_int pa_nil)) (hdb := nd__law_take)))
  (pss_cons (ps_if (PW.pt (pw_or (pt_cmpR op_lt (pv 7 (hd := nd_style) (hcd := nc_style)) pe_int (nomark _)) (pw_or1 (pt_cmpR op_eq (pe_callB q_len (by rfl) m_len PySem.boot_len (pa_cons (pv 1 (hd := nd_way) (hcd := nc_way)) pa_nil) (hn := nn_len) (hdb := nd_len)) pe_int (nomark _))))) (pss_one (ps_ret (pe_cal C__law_bent_list hr (pa_cons (pv 0 (hd := nd_store) (hcd := nc_store)) (pa_cons (pv 1 (hd := nd_way) (hcd := nc_way)) (pa_cons (pv 6 (hd := nd_spare) (hcd := nc_spare)) pa_nil))) (hdb := nd__law_bent_list)))) pss_nil)
  (pss_cons (ps_set (i := 8) sc__law_bent_way.nd rfl (Or.inl rfl) (pe_cal C__law_take hr (pa_cons (pv 0 (hd := nd_store) (hcd := nc_store)) (pa_cons (pe_callB q_len (by rfl) m_len PySem.boot_len (pa_cons (pv 1 (hd := nd_way) (hcd := nc_way)) pa_nil) (hn := nn_len) (hdb := nd_len)) pa_nil)) (hdb := nd__law_take)))
  (pss_cons (ps_set (i := 9) sc__law_bent_way.nd rfl (Or.inr rfl) (pe_ix ix_list (pv 1 (hd := nd_way) (hcd := nc_way)) (pv 8 (hd := nd_at) (hcd := nc_at)) (fun _ _ => rfl)))
  (pss_cons (ps_if (pt_cmpR op_eq (pv 7 (hd := nd_style) (hcd := nc_style)) pe_int (nomark _)) (pss_one (ps_ret (pe_op op_cat (pe_op op_cat (pe_slice sl_list (pv 1 (hd := nd_way) (hcd := nc_way)) po_none (po_some (pv 8 (hd := nd_at) (hcd := nc_at)))) (pe_lst (pa_cons (pe_tup (pa_cons (pe_ix ix_tup (pv 9 (hd := nd_step) (hcd := nc_step)) pe_int (fun _ _ => rfl)) (pa_cons (pe_ix ix_tup (pv 9 (hd := nd_step) (hcd := nc_step)) pe_int (fun _ _ => rfl)) (pa_cons (pe_ix ix_tup (pv 9 (hd := nd_step) (hcd := nc_step)) pe_int (fun _ _ => rfl)) pa_nil)))) pa_nil))) (pe_slice sl_list (pv 1 (hd := nd_way) (hcd := nc_way)) (po_some (pe_op op_add (pv 8 (hd := nd_at) (hcd := nc_at)) pe_int)) po_none)))) pss_nil)
  (pss_cons (ps_if (pt_cmpR op_eq (pv 7 (hd := nd_style) (hcd := nc_style)) pe_int (nomark _)) (pss_cons (ps_set (i := 10) sc__law_bent_way.nd rfl (Or.inl rfl) (pe_callTy q_list (by rfl) m_list bb_list (pa_cons (pv 9 (hd := nd_step) (hcd := nc_step)) pa_nil) (hn := nn_list) (hdb := nd_list)))
  (pss_cons (ps_asg (pe_cal C__law_pick hr (pa_cons (pv 0 (hd := nd_store) (hcd := nc_store)) (pa_cons (pv 5 (hd := nd_words) (hcd := nc_words)) pa_nil)) (hdb := nd__law_pick)) (pg_sub (pv 10 (hd := nd_row) (hcd := nc_row)) (pe_cal C__law_take hr (pa_cons (pv 0 (hd := nd_store) (hcd := nc_store)) (pa_cons pe_int pa_nil)) (hdb := nd__law_take)) set_list))
  (pss_one (ps_ret (pe_op op_cat (pe_op op_cat (pe_slice sl_list (pv 1 (hd := nd_way) (hcd := nc_way)) po_none (po_some (pv 8 (hd := nd_at) (hcd := nc_at)))) (pe_lst (pa_cons (pe_callTy q_tup (by rfl) m_tuple bb_tuple (pa_cons (pv 10 (hd := nd_row) (hcd := nc_row)) pa_nil) (hn := nn_tuple) (hdb := nd_tuple)) pa_nil))) (pe_slice sl_list (pv 1 (hd := nd_way) (hcd := nc_way)) (po_some (pe_op op_add (pv 8 (hd := nd_at) (hcd := nc_at)) pe_int)) po_none)))))) pss_nil)
  (pss_cons (ps_if (pt_cmpR op_eq (pv 7 (hd := nd_style) (hcd := nc_style)) pe_int (nomark _)) (pss_one (ps_ret (pe_op op_cat (pe_op op_cat (pe_slice sl_list (pv 1 (hd := nd_way) (hcd := nc_way)) po_none (po_some (pe_op op_add (pv 8 (hd := nd_at) (hcd := nc_at)) pe_int))) (pe_lst (pa_cons (pe_tup (pa_cons (pe_ix ix_tup (pv 9 (hd := nd_step) (hcd := nc_step)) pe_int (fun _ _ => rfl)) (pa_cons (pe_ix ix_tup (pv 9 (hd := nd_step) (hcd := nc_step)) pe_int (fun _ _ => rfl)) (pa_cons (pe_ix ix_tup (pv 9 (hd := nd_step) (hcd := nc_step)) pe_int (fun _ _ => rfl)) pa_nil)))) (pa_cons (pv 9 (hd := nd_step) (hcd := nc_step)) pa_nil)))) (pe_slice sl_list (pv 1 (hd := nd_way) (hcd := nc_way)) (po_some (pe_op op_add (pv 8 (hd := nd_at) (hcd := nc_at)) pe_int)) po_none)))) pss_nil)
  (pss_cons (ps_setLc (i := 11) (own := [("other", 13)]) (by rfl) sc__law_bent_way.nd rfl rfl (sw_true rfl rfl rfl (by decide +kernel)) (pi_list (pv 3 (hd := nd_lines) (hcd := nc_lines))) (blkOk_by (N := N__law_bent_way) (sc := defScope s__law_bent_way) (by decide +kernel)) (fun _ _ _ _ _ => (pg_name (i := 13) sc__law_bent_way.nd rfl (Or.inl rfl))) (fun _ _ _ _ _ => (pts_one (pt_cmpR (Ho.eqDK (K := K) rfl hr.units) (pe_lst (pa_cons (pe_ix (ix_tupK (K := K) rfl) (pv 13 (hd := nd_other) (hcd := nc_other)) pe_int (fun _ _ => rfl)) (pa_cons (pe_ix (ix_tupK (K := K) rfl) (pv 13 (hd := nd_other) (hcd := nc_other)) pe_int (fun _ _ => rfl)) pa_nil))) (pe_callB (q_sortedSTK (K := K) rfl) (by rfl) m_sorted bb_sorted (pa_cons (pe_slice (sl_tupK (K := K) rfl) (pv 9 (hd := nd_step) (hcd := nc_step)) (po_some pe_int) po_none) pa_nil) (hn := nn_sorted) (hdb := nd_sorted)) (nomark _)))) (fun _ _ _ _ _ => (pe_ix (ix_tupK (K := K) rfl) (pv 13 (hd := nd_other) (hcd := nc_other)) pe_int (fun _ _ => rfl))))
  (pss_cons (ps_set (i := 12) sc__law_bent_way.nd rfl (Or.inl rfl) (pe_cal C__law_pick hr (pa_cons (pv 0 (hd := nd_store) (hcd := nc_store)) (pa_cons (pe_op op_cat (pv 11 (hd := nd_same) (hcd := nc_same)) (pe_lst (pa_cons (pe_ix ix_tup (pv 9 (hd := nd_step) (hcd := nc_step)) pe_int (fun _ _ => rfl)) pa_nil))) pa_nil)) (hdb := nd__law_pick)))
  (pss_one (ps_ret (pe_op op_cat (pe_op op_cat (pe_slice sl_list (pv 1 (hd := nd_way) (hcd := nc_way)) po_none (po_some (pv 8 (hd := nd_at) (hcd := nc_at)))) (pe_lst (pa_cons (pe_tup (pa_cons (pv 12 (hd := nd_name) (hcd := nc_name)) (pa_cons (pe_ix ix_tup (pv 9 (hd := nd_step) (hcd := nc_step)) pe_int (fun _ _ => rfl)) (pa_cons (pe_ix ix_tup (pv 9 (hd := nd_step) (hcd := nc_step)) pe_int (fun _ _ => rfl)) pa_nil)))) pa_nil))) (pe_slice sl_list (pv 1 (hd := nd_way) (hcd := nc_way)) (po_some (pe_op op_add (pv 8 (hd := nd_at) (hcd := nc_at)) pe_int)) po_none))))))))))))))))), ?_⟩
  refine Rd.at0 (σ := [some (.ref st), some (.ref w'), some (.ref h), some (.ref l), none, none, none, none, none, none, none, none, none, none]) rfl ?_
  obtain ⟨ls, el, hls⟩ := wl
  have lls : ls.length = ts.length := by rw [hls.len, List.length_map]
  repeat' (walk_at "rd")
  rename_i l1 n1 G1 s1 e1
  refine lcF ls (fun i => (ts[i]?).map fun t => V.str t.1) (.inl (.inl (s1 _ _ el))) (by omega) (fun i v h' hv s => ?_) fun L4 G4 n4 s4 e4 => ?_
  · intro L5 Nx yes no
    obtain ⟨kk, hkk, okk, t0, rfl, et0⟩ := hls.at hv
    rw [List.getElem?_map] at hkk
    obtain ⟨⟨n, x, y⟩, ht, rfl⟩ := Option.map_eq_some_iff.mp hkk
    have et : h' t0 = some (.tup [.str n, .str x, .str y]) := s _ _ (s1 _ _ et0)
    have ei : (ts[i]?).map (fun t => V.str t.1) = some (.str n) := by rw [ht]; rfl
    refine turn1 ?_
    repeat' (walk_at "rd")
    refine ⟨rfl, ?_⟩
    repeat' (walk_at "rd")
    exact yes _ _ ei (.refl _)
  have ef : (List.range ls.length).filterMap (fun i => (ts[i]?).map fun t => V.str t.1) = (ts.map (·.1)).map V.str := by
    rw [lls, fm_at (f := fun t : Str × Str × Str => some (V.str t.1)) fun i h => by rw [List.getElem?_eq_getElem h]; rfl, List.map_map]
    exact congrFun (List.filterMap_eq_map (f := fun t : Str × Str × Str => V.str t.1)) ts
  rw [ef] at e4
  refine Rd.cat (s4 _ _ e1) e4 (sz5 (by simp only [List.length_map]; omega)) ?_
  repeat' (walk_at "rd")
  rename_i l5 n5 G5 s5 e5
  have g5 : Go st c H G5 := (Go.refl hs).same ((s1.trans s4).trans s5)
  have o5 : l5 ≠ st := (hs.off (s1.free (s4.free n5))).1
  refine ⟨st, c, rfl, g5.ok, fun nm H6 nnm lnm g6 => ?_⟩
  repeat' (walk_at "rd")
  refine ⟨st, c, rfl, g6.ok, fun bz H7 lbz abz g7 => ?_⟩
  repeat' (walk_at "rd")
  rename_i l8 n8 G8 s8 e8
  refine Rd.cat (s8 _ _ (g7.keep _ _ o5 (g6.keep _ _ o5 e5))) e8 (sz5 (by simp only [List.length_append, List.length_map, List.length_cons, List.length_nil]; omega)) ?_
  repeat' (walk_at "rd")
  rename_i Wd nd G9 s9 ed
  have gg : Go st c H G9 := (((g5.trans g6).trans g7).same s8).same s9
  obtain ⟨ks, eks, kok, kne, lks⟩ : ∃ ks : List Str, zs.map V.str ++ (ts.map (·.1)).map V.str ++ [V.str nm, .str bz] = ks.map V.str ∧ (∀ k ∈ ks, PyData.strOk k = true) ∧ ks ≠ [] ∧ ks.length ≤ 3000 := by
    refine ⟨zs ++ ts.map (·.1) ++ [nm, bz], by simp, fun k hk => ?_, by simp, by simp only [List.length_append, List.length_map, List.length_cons, List.length_nil]; omega⟩
    rcases List.mem_append.mp hk with hk | hk
    · rcases List.mem_append.mp hk with hk | hk
      · exact nm_ok (nz k hk)
      · obtain ⟨t, ht, rfl⟩ := List.mem_map.mp hk
        exact hls.ok _ (List.mem_map.mpr ⟨t, ht, rfl⟩) _ (.head _)
    · have hk : k = nm ∨ k = bz := by simpa using hk
      rcases hk with rfl | rfl
      · exact (As.nm nnm).ok
      · exact abz.ok
  rw [eks] at ed
  have b : BW st c w' l Wd wv ls ks ts G9 := ⟨gg.ok, wst, lst, (((((g5.trans g6).trans g7).same s8).ok).off nd).1, gg.keep _ _ wst ew, fun v hv => (hwv v hv).go hs gg, gg.keep _ _ lst el, wvs_go hls hs gg, ed, kok⟩
  clear e5 e8 e4 e1 s1 s4 s5 s8 s9 g5 g6 g7 eks
  repeat' (walk_at "rd")
  refine b.pick kne (by omega) fun x H1 okx b1 g1 => ?_
  repeat' (walk_at "rd")
  refine b1.pick kne (by omega) fun y H2 oky b2 g2 => ?_
  repeat' (walk_at "rd")
  refine b2.pick kne (by omega) fun z H3 okz b3 g3 => ?_
  repeat' (walk_at "rd")
  rename_i T nT G4 s4 eT
  have gg := (((gg.trans g1).trans g2).trans g3).same s4
  have b := b3.same s4
  have tT : TrAt G4 (.ref T) := .mk eT okx oky okz
  clear b1 b2 b3 g1 g2 g3 s4 eT
  refine Rd.cut (fun σ' H' => ∃ v : V, σ' = [some (.ref st), some (.ref w'), some (.ref h), some (.ref l), some v, some (.ref Wd), some (.ref T), none, none, none, none, none, none, none] ∧ (v = .non ∨ TrAt H' v) ∧ TrAt H' (.ref T) ∧ BW st c w' l Wd wv ls ks ts H' ∧ Go st c H H') ?_ ?_
  · repeat' (walk_at "rd")
    refine .inr ⟨st, c, l, ls, rfl, b.ok, lst, .inl (.inl b.el), by omega, fun _ => ?_, fun x H5 hx g5 => ?_⟩
    · repeat' (walk_at "rd")
      exact ⟨_, rfl, .inl rfl, tT, b, gg⟩
    · repeat' (walk_at "rd")
      exact ⟨_, rfl, .inr ((tr_of b.kl x hx).go b.ok g5), tT.go b.ok g5, b.go g5, gg.trans g5⟩
  clear b tT gg nT G4
  rintro σ' G4 ⟨v, rfl, hv, tT, b, gg⟩
  refine Rd.cut (fun σ' H' => ∃ T : Addr, σ' = [some (.ref st), some (.ref w'), some (.ref h), some (.ref l), some v, some (.ref Wd), some (.ref T), none, none, none, none, none, none, none] ∧ TrAt H' (.ref T) ∧ BW st c w' l Wd wv ls ks ts H' ∧ Go st c H H') ?_ ?_
  · rcases hv with rfl | hv
    · repeat' (walk_at "rd")
      exact ⟨_, rfl, tT, b, gg⟩
    · obtain ⟨t0, n0, x0, y0, rfl, et0, ok0, okx0, oky0⟩ := hv.of
      repeat' (walk_at "rd")
      refine ⟨st, c, 2, rfl, b.ok, by decide, fun r H5 r0 r1 g5 => ?_⟩
      have b5 := b.go g5
      obtain ⟨t1, n1, x1, y1, e1, et1, ok1, okx1, oky1⟩ := (hv.go b.ok g5).of
      cases e1
      repeat' (walk_at "rd")
      · rename_i T' nT' G6 s6 eT'
        exact ⟨_, rfl, .mk eT' ok1 okx1 oky1, b5.same s6, (gg.trans g5).same s6⟩
      · exact ⟨_, rfl, tT.go b.ok g5, b5, gg.trans g5⟩
  clear b tT gg hv G4
  rintro σ' G4 ⟨T, rfl, tT, b, gg⟩
  repeat' (walk_at "rd")
  refine ⟨st, c, 6, rfl, b.ok, by decide, fun y H5 y0 y1 g5 => ?_⟩
  have tT := tT.go b.ok g5
  have gg := gg.trans g5
  have b := b.go g5
  have ew5 := b.ew
  clear g5
  repeat' (walk_at "rd")
  · skip
    refine ⟨st, c, w', wv, .ref T, rfl, b.ok, b.nw, .inl (.inl b.ew), by omega, fun L ys H9 hy ly nL g9 eL => ?_⟩
    refine q L ys H9 (by omega) (gg.free nL) (gg.trans g9) eL fun v hv => ?_
    rcases hy v hv with h | rfl
    · exact (b.tw v h).go b.ok g9
    · exact tT.go b.ok g9
  · skip
    refine ⟨st, c, w', wv, .ref T, rfl, b.ok, b.nw, .inl (.inl b.ew), by omega, fun L ys H9 hy ly nL g9 eL => ?_⟩
    refine q L ys H9 (by omega) (gg.free nL) (gg.trans g9) eL fun v hv => ?_
    rcases hy v hv with h | rfl
    · exact (b.tw v h).go b.ok g9
    · exact tT.go b.ok g9
  refine ⟨st, c, _, rfl, b.ok, by omega, fun at' H6 a0 a1 g6 => ?_⟩
  have gg := gg.trans g6
  have b := b.go g6
  clear g6 ew5 tT
  have ew6 := b.ew
  have atl : at' < (wv.length : Int) := by omega
  have ca := cutLen (xs := wv) a0
  have ca1 := cutLen1 (xs := wv) a0
  have cb := cutLen (xs := wv) (show 0 ≤ at' + 1 by omega)
  have lcut := fun a b => cutV_length wv a b
  have lc1 := lcut none (some at')
  have lc2 := lcut (some (at' + 1)) none
  have lc3 := lcut none (some (at' + 1))
  repeat' (walk_at "rd")
  have mt : wv[at'.toNat] ∈ wv := List.getElem_mem (by omega)
  refine ixN' (.inl (.inl ew6)) a0 (List.getElem?_eq_getElem (by omega)) ?_
  generalize wv[at'.toNat] = sv at *
  have tsv := b.tw sv mt
  obtain ⟨t0, n0, x0, y0, rfl, et0, ok0, okx0, oky0⟩ := tsv.of
  have el6 := b.el
  have o6 := b.ok
  repeat' (walk_at "rd")
  · rename_i l1 n1 G1 s1 e1 l2 n2 G2 s2 e2 l3 n3 G3 s3 e3
    have s13 := (s1.trans s2).trans s3
    refine Rd.cat ((s2.trans s3) _ _ e1) e3 (sz5 (by show _ + 1 ≤ 100000; omega)) ?_
    repeat' (walk_at "rd")
    rename_i l4 n4 G4 s4 e4 l5 n5 G5 s5 e5
    refine Rd.cat (s5 _ _ e4) e5 (sz5 (by rw [List.length_append]; show _ + 1 + _ ≤ 100000; omega)) ?_
    repeat' (walk_at "rd")
    rename_i l7 n7 G7 s7 e7
    have t := (s13.trans s4).trans s5
    refine q l7 _ G7 (by rw [List.length_append, List.length_append]; show _ + 1 + _ ≤ _; omega) (gg.free (t.free n7)) (gg.same (t.trans s7)) e7 (bend_mem (fun v hv => (b.tw v hv).same (t.trans s7)) fun v hv => ?_)
    rw [List.mem_singleton.mp hv]
    exact .mk (s7 _ _ (s5 _ _ (s4 _ _ (s3 _ _ e2)))) ok0 oky0 okx0
  · rename_i l1 n1 G1 s1 e1
    have o1 := o6.off n1
    refine (b.same s1).pick kne (by omega) fun z H7 okz b7 g7 => ?_
    have e17 := g7.keep _ _ o1.1 e1
    repeat' (walk_at "rd")
    refine ⟨st, c, 3, rfl, b7.ok, by decide, fun r H8 r0 r1 g8 => ?_⟩
    have e18 := g8.keep _ _ o1.1 e17
    have g68 : Go st c H6 H8 := (((Go.refl o6).same s1).trans g7).trans g8
    refine setN' e18 r0 (by show r < 3; omega) ?_
    have g9 := g68.write n1 o1 (.lst ([V.str n0, .str x0, .str y0].set r.toNat (.str z)))
    have e19 : upd H8 l1 (.lst ([V.str n0, .str x0, .str y0].set r.toNat (.str z))) l1 = some (.lst ([V.str n0, .str x0, .str y0].set r.toNat (.str z))) := upd_same
    have eq8 : upd H8 l1 (.lst ([V.str n0, .str x0, .str y0].set r.toNat (.str z))) = upd H8 l1 (.lst ([V.str n0, .str x0, .str y0].set r.toNat (.str z))) := rfl
    generalize upd H8 l1 (.lst ([V.str n0, .str x0, .str y0].set r.toNat (.str z))) = H9 at *
    obtain ⟨x1, y1, z1, eset, ok1, ok2, ok3⟩ : ∃ x1 y1 z1 : Str, ([V.str n0, .str x0, .str y0].set r.toNat (.str z)) = [.str x1, .str y1, .str z1] ∧ PyData.strOk x1 = true ∧ PyData.strOk y1 = true ∧ PyData.strOk z1 = true := by
      obtain rfl | rfl | rfl : r = 0 ∨ r = 1 ∨ r = 2 := by omega
      · exact ⟨z, x0, y0, rfl, okz, okx0, oky0⟩
      · exact ⟨n0, z, y0, rfl, ok0, okz, oky0⟩
      · exact ⟨n0, x0, z, rfl, ok0, okx0, okz⟩
    rw [eset] at e19
    have b9 := b.go g9
    have gg9 := gg.trans g9
    have ew9 := b9.ew
    clear e18 e17 e1 eq8
    repeat' (walk_at "rd")
    rename_i l2 n2 G2 s2 e2 l3 n3 G3 s3 e3 l4 n4 G4 s4 e4
    have s24 := (s2.trans s3).trans s4
    refine Rd.cat ((s3.trans s4) _ _ e2) e4 (sz5 (by show _ + 1 ≤ 100000; omega)) ?_
    repeat' (walk_at "rd")
    rename_i l5 n5 G5 s5 e5 l6 n6 G6 s6 e6
    refine Rd.cat (s6 _ _ e5) e6 (sz5 (by rw [List.length_append]; show _ + 1 + _ ≤ 100000; omega)) ?_
    repeat' (walk_at "rd")
    rename_i l7 n7 G7 s7 e7
    have t := (s24.trans s5).trans s6
    refine q l7 _ G7 (by rw [List.length_append, List.length_append]; show _ + 1 + _ ≤ _; omega) (gg9.free (t.free n7)) (gg9.same (t.trans s7)) e7 (bend_mem (fun v hv => (b9.tw v hv).same (t.trans s7)) fun v hv => ?_)
    rw [List.mem_singleton.mp hv]
    exact .mk (s7 _ _ (s6 _ _ (s5 _ _ (s4 _ _ e3)))) ok1 ok2 ok3
  · rename_i l1 n1 G1 s1 e1 l2 n2 G2 s2 e2 l3 n3 G3 s3 e3
    have s13 := (s1.trans s2).trans s3
    refine Rd.cat ((s2.trans s3) _ _ e1) e3 (sz5 (by show _ + 2 ≤ 100000; omega)) ?_
    repeat' (walk_at "rd")
    rename_i l4 n4 G4 s4 e4 l5 n5 G5 s5 e5
    refine Rd.cat (s5 _ _ e4) e5 (sz5 (by rw [List.length_append]; show _ + 2 + _ ≤ 100000; omega)) ?_
    repeat' (walk_at "rd")
    rename_i l7 n7 G7 s7 e7
    have t := (s13.trans s4).trans s5
    refine q l7 _ G7 (by rw [List.length_append, List.length_append]; show _ + 2 + _ ≤ _; omega) (gg.free (t.free n7)) (gg.same (t.trans s7)) e7 (bend_mem (fun v hv => (b.tw v hv).same (t.trans s7)) fun v hv => ?_)
    rcases List.mem_cons.mp hv with rfl | hv
    · exact .mk (s7 _ _ (s5 _ _ (s4 _ _ (s3 _ _ e2)))) ok0 oky0 okx0
    · rw [List.mem_singleton.mp hv]
      exact tsv.same (t.trans s7)
  · have kl6 := b.kl
    refine lcF ls (fun i => (ts[i]?).bind fun u => if [u.2.1, u.2.2] = (if cl y0 < cl x0 then [y0, x0] else [x0, y0]) then some (V.str u.1) else none) (.inl (.inl el6)) (by omega) (fun i v h' hv s => ?_) fun L7 G7 n7 s7 e7 => ?_
    · intro L5 Nx yes no
      obtain ⟨kk, hkk, okk, t1, rfl, et1⟩ := kl6.at hv
      rw [List.getElem?_map] at hkk
      obtain ⟨⟨n, x, y⟩, ht, rfl⟩ := Option.map_eq_some_iff.mp hkk
      have et : h' t1 = some (.tup [.str n, .str x, .str y]) := s _ _ et1
      have et0' := s _ _ et0
      have ei : ((ts[i]?).bind fun u => if [u.2.1, u.2.2] = (if cl y0 < cl x0 then [y0, x0] else [x0, y0]) then some (V.str u.1) else none) = if [x, y] = (if cl y0 < cl x0 then [y0, x0] else [x0, y0]) then some (V.str n) else none := by rw [ht]; rfl
      have ec : cutV [V.str n0, .str x0, .str y0] (some 1) none = [.str x0, .str y0] := cut_from 1
      refine turn1 ?_
      repeat' (walk_at "rd")
      refine ⟨rfl, ?_⟩
      repeat' (walk_at "rd")
      rename_i l8 n8 G8 s8 e8
      refine slT (.inl (.inl (s8 _ _ et0'))) (by show ¬ (HT.sIx 3 0 (some 1) = 0 ∧ HT.sIx 3 3 none = 3); decide) ?_
      rw [ec]
      repeat' (walk_at "rd")
      rename_i l9 n9 G9 s9 e9
      refine sortT2 (.inl (.inl e9)) ?_
      repeat' (walk_at "rd")
      rename_i l10 n10 G10 s10 e10
      have s810 := (s8.trans s9).trans s10
      refine eqLS (xs := [x, y]) ((s9.trans s10) _ _ e8) e10 (fun z hz => okk z (.tail _ hz)) (fun z hz => ?_) ?_
      · have hz : z = x0 ∨ z = y0 := by
          split at hz
          · exact ((by simpa using hz : z = y0 ∨ z = x0)).symm
          · simpa using hz
        rcases hz with rfl | rfl <;> assumption
      · by_cases hc : [x, y] = (if cl y0 < cl x0 then [y0, x0] else [x0, y0])
        · rw [if_pos hc] at ei
          rw [decide_eq_true hc]
          repeat' (walk_at "rd")
          exact yes _ _ ei s810
        · rw [if_neg hc] at ei
          rw [decide_eq_false hc]
          repeat' (walk_at "rd")
          exact no _ ei s810
    obtain ⟨fm, efm, hfm, lfm⟩ : ∃ fm : List V, (List.range ls.length).filterMap (fun i => (ts[i]?).bind fun u => if [u.2.1, u.2.2] = (if cl y0 < cl x0 then [y0, x0] else [x0, y0]) then some (V.str u.1) else none) = fm ∧ (∀ v ∈ fm, ∃ z, v = V.str z ∧ PyData.strOk z = true) ∧ fm.length ≤ ls.length := by
      refine ⟨_, rfl, fun v hv => ?_, filterMap_le⟩
      obtain ⟨i, _, hi⟩ := List.mem_filterMap.mp hv
      cases hti : ts[i]? with
      | none =>
        rw [hti] at hi
        cases hi
      | some u =>
        rw [hti] at hi
        have hi : (if [u.2.1, u.2.2] = (if cl y0 < cl x0 then [y0, x0] else [x0, y0]) then some (V.str u.1) else none) = some v := hi
        by_cases hc : [u.2.1, u.2.2] = (if cl y0 < cl x0 then [y0, x0] else [x0, y0])
        · rw [if_pos hc] at hi
          cases hi
          exact ⟨u.1, rfl, kl6.ok _ (List.mem_map.mpr ⟨u, List.mem_of_getElem? hti, rfl⟩) _ (.head _)⟩
        · rw [if_neg hc] at hi
          cases hi
    rw [efm] at e7
    clear efm
    have b7 := b.same s7
    have et7 := s7 _ _ et0
    repeat' (walk_at "rd")
    rename_i l8 n8 G8 s8 e8
    refine Rd.cat (s8 _ _ e7) e8 (sz5 (by show _ + 1 ≤ 100000; omega)) ?_
    repeat' (walk_at "rd")
    rename_i l9 n9 G9 s9 e9
    have s79 := (s7.trans s8).trans s9
    have b9 := b.same s79
    refine .inr ⟨st, c, l9, _, rfl, b9.ok, ((b.same (s7.trans s8)).ok.off n9).1, .inl (.inl e9), by rw [List.length_append]; show _ + 1 ≤ 100000; omega, (fun e => by simp at e), fun v H10 hv g10 => ?_⟩
    obtain ⟨z, rfl, okz⟩ : ∃ z, v = V.str z ∧ PyData.strOk z = true := by
      rcases List.mem_append.mp hv with hv | hv
      · exact hfm v hv
      · rw [List.mem_singleton.mp hv]
        exact ⟨_, rfl, ok0⟩
    have b10 := b9.go g10
    have gg10 := (gg.same s79).trans g10
    have ew10 := b10.ew
    obtain ⟨t0', n0', x0', y0', e0', et10, ok0', okx0', oky0'⟩ := (b10.tw _ mt).of
    cases e0'
    clear e7 e8 e9 et7 et0 ew6 el6
    repeat' (walk_at "rd")
    rename_i l1 n1 G1 s1 e1 l2 n2 G2 s2 e2 l3 n3 G3 s3 e3
    have s13 := (s1.trans s2).trans s3
    refine Rd.cat ((s2.trans s3) _ _ e1) e3 (sz5 (by show _ + 1 ≤ 100000; omega)) ?_
    repeat' (walk_at "rd")
    rename_i l4 n4 G4 s4 e4 l5 n5 G5 s5 e5
    refine Rd.cat (s5 _ _ e4) e5 (sz5 (by rw [List.length_append]; show _ + 1 + _ ≤ 100000; omega)) ?_
    repeat' (walk_at "rd")
    rename_i l7 n7 G7 s7 e7
    have t := (s13.trans s4).trans s5
    refine q l7 _ G7 (by rw [List.length_append, List.length_append]; show _ + 1 + _ ≤ _; omega) (gg10.free (t.free n7)) (gg10.same (t.trans s7)) e7 (bend_mem (fun v hv => (b10.tw v hv).same (t.trans s7)) fun v hv => ?_)
    rw [List.mem_singleton.mp hv]
    exact .mk (s7 _ _ (s5 _ _ (s4 _ _ (s3 _ _ e2)))) okz okx0' oky0'
end
end Kj
namespace Kj
open PySem PySem.Spec PyProof.Rows L2 Rd
/-! ### the stepper -/
local macro_rules | `(tactic| walk_at "hp") => `(tactic| first
  | assumption
  | exact upd_same
  | (refine Eq.trans (upd_ne (by first | assumption | (apply Ne.symm; assumption))) ?_; walk_at "hp"))
local macro_rules | `(tactic| walk_at "sq") => `(tactic| first
  | assumption
  | (refine Or.inl (Or.inl ?_); walk_at "hp"))
local macro_rules | `(tactic| walk_at "st") => `(tactic| first
  | assumption
  | (refine Or.inl (Or.inl ?_); walk_at "hp"))
local macro_rules | `(tactic| walk_at "ar") => `(tactic| first
  | assumption
  | omega
  | decide)
local macro_rules | `(tactic| walk_at "ci") => `(tactic| first
  | (refine (show CMul _ _ from Or.inr ⟨?_, ?_⟩) <;> omega)
  | (refine (show CMul _ _ from Or.inl ⟨?_, ?_⟩) <;> omega)
  | (show CPow _ _; exact ⟨by decide, by decide, by decide⟩)
  | (refine wide_div (b := 63) ?_ ?_ (by decide) (by decide) <;> omega)
  | (show (0 : Int) < _; omega))
local macro_rules | `(tactic| walk_at "ty") => `(tactic| first
  | exact dp_ty (by assumption)
  | exact TyX.base (TyOf.int _)
  | exact TyX.base (TyOf.str _)
  | exact TyX.base (TyOf.bl _)
  | exact TyX.base TyOf.non
  | exact tyL' (by walk_at "sq")
  | exact tyT' (by walk_at "st"))
local macro_rules | `(tactic| walk_at "isi") => `(tactic| first
  | ((with_reducible apply Rd.isiF); (walk_at "ty"); (decide))
  | ((with_reducible apply Rd.isiT); (walk_at "ty"); (decide)))
local macro_rules | `(tactic| walk_at "rd") => `(tactic| first
  | with_reducible apply Rd.seq
  | ((with_reducible apply Rd.var); rfl)
  | with_reducible apply Rd.con
  | with_reducible apply Rd.op
  | with_reducible apply Rd.asg
  | ((with_reducible apply Rd.gname); ((dsimp only [List.set, L2.wipe, Int.reduceToNat]) <;> rfl))
  | with_reducible apply Rd.nxt
  | with_reducible apply Rd.ifs
  | with_reducible apply Rd.test
  | with_reducible apply Rd.testB
  | with_reducible apply Rd.exbl
  | with_reducible apply Rd.ret
  | with_reducible apply Rd.drop
  | with_reducible apply Rd.retN
  | with_reducible apply Rd.nil
  | with_reducible apply Rd.cons
  | with_reducible apply Rd.call
  | with_reducible apply Rd.cb
  | with_reducible apply Rd.and
  | with_reducible apply Rd.or
  | with_reducible apply Rd.not
  | with_reducible apply Rd.andV
  | with_reducible apply Rd.orV
  | with_reducible apply Rd.notV
  | with_reducible apply Rd.ife
  | with_reducible apply Rd.tup
  | with_reducible apply Rd.lst
  | with_reducible apply Rd.un
  | with_reducible apply Rd.chain
  | with_reducible apply Rd.brk
  | with_reducible apply Rd.cnt
  | with_reducible apply Rd.I0
  | with_reducible apply Rd.U1
  | ((with_reducible apply Rd.eq); rfl)
  | ((with_reducible apply Rd.ne); rfl)
  | ((with_reducible apply Rd.I1); (walk_at "ci"))
  | with_reducible apply Rd.lc0
  | with_reducible apply Rd.ln0
  | with_reducible apply Rd.exN
  | ((with_reducible apply Rd.iteSf); (decide +kernel))
  | ((with_reducible apply Rd.iteSt); (decide +kernel))
  | ((with_reducible apply Rd.niQ); (exact Or.inl (by walk_at "sq")); (exact ⟨rfl, rfl⟩); (rfl))
  | ((with_reducible apply Rd.inQ); (exact Or.inl (by walk_at "sq")); (exact ⟨rfl, rfl⟩); (rfl))
  | with_reducible apply Rd.rn1
  | with_reducible apply Rd.in1
  | with_reducible apply Rd.sn1
  | with_reducible apply Rd.bn1
  | with_reducible apply Rd.nn1
  | with_reducible apply Rd.rn2
  | with_reducible apply Rd.in2
  | with_reducible apply Rd.sn2
  | with_reducible apply Rd.bn2
  | with_reducible apply Rd.nn2
  | with_reducible apply Rd.nt1
  | with_reducible apply Rd.nf1
  | (with_reducible refine Rd.iteI (fun _ => ?_) (fun _ => ?_))
  | (with_reducible refine Rd.iteNI (fun _ => ?_) (fun _ => ?_))
  | (with_reducible refine iteT ?_)
  | (with_reducible refine iteF ?_)
  | (with_reducible refine Rd.iteD (fun _ => ?_) (fun _ => ?_))
  | (with_reducible refine Rd.iteN (fun _ => ?_) (fun _ => ?_))
  | with_reducible apply Rd.intI
  | with_reducible apply Rd.intB
  | with_reducible apply Rd.maxQ
  | with_reducible apply Rd.minQ
  | with_reducible apply Rd.absQ
  | with_reducible apply Rd.isN
  | with_reducible apply Rd.noN
  | with_reducible apply Rd.ltZ
  | with_reducible apply Rd.bm
  | with_reducible apply Rd.bm0
  | with_reducible apply Rd.par
  | with_reducible apply Rd.expar
  | with_reducible apply Rd.exint
  | with_reducible apply Rd.ipi
  | with_reducible apply Rd.slice
  | with_reducible apply Rd.noPart
  | with_reducible apply Rd.part
  | with_reducible apply Rd.gcons
  | with_reducible apply Rd.gnil
  | with_reducible apply Rd.iseq
  | with_reducible apply Rd.irng1
  | walk_at "isi"
  | with_reducible apply Rd.forX
  | with_reducible apply Rd.lstRev
  | with_reducible apply Rd.lstRg
  | with_reducible apply Rd.rg1
  | with_reducible apply Rd.rg2
  | with_reducible apply Rd.exint2
  | ((with_reducible apply Rd.exrev); (walk_at "sq"))
  | with_reducible apply Rd.lcX
  | with_reducible apply Rd.yes
  | ((with_reducible apply Rd.exrng1); (constructor <;> omega))
  | ((with_reducible apply Rd.exrng2); (refine ⟨?_, ?_, ?_, ?_⟩ <;> omega))
  | with_reducible apply Rd.irng2
  | ((with_reducible apply Rd.aug); rfl)
  | ((with_reducible apply Rd.exlst); (walk_at "sq"))
  | ((with_reducible apply Rd.gtup); (walk_at "st"); (rfl))
  | ((with_reducible apply Rd.tyL); (walk_at "hp"))
  | ((with_reducible apply Rd.ixL); (walk_at "sq"); (rfl))
  | ((with_reducible apply Rd.ixI); (walk_at "sq"); (omega); (first | assumption | (simp only [List.length_map]; omega)); (intro _ _))
  | (with_reducible refine Rd.gsub ?_)
  | ((with_reducible apply Rd.setL); (walk_at "hp"); (rfl); ((dsimp only [List.set, L2.wipe, Int.reduceToNat]) <;> rfl))
  | ((with_reducible apply Rd.lenQ); (first | exact Or.inl (by walk_at "sq") | exact Or.inr (by walk_at "st")))
  | ((with_reducible apply Rd.listQ); (first | exact Or.inl (by walk_at "sq") | exact Or.inr (by walk_at "st")))
  | ((with_reducible apply Rd.tupQ); (walk_at "sq"))
  | ((with_reducible apply Rd.slL); (walk_at "sq"))
  | ((with_reducible apply Rd.ixT); (walk_at "st"); (rfl))
  | (with_reducible refine Rd.iteB (fun _ => ?_) (fun _ => ?_))
  | (with_reducible refine Rd.iteNB (fun _ => ?_) (fun _ => ?_))
  | (refine Rd.andI (Nat.le_of_ble_eq_true rfl) ?_)
  | dsimp only [List.set])
local macro_rules | `(tactic| walk_at "hp") => `(tactic| first
  | assumption
  | exact upd_same
  | (refine Eq.trans (upd_ne (by first | assumption | (apply Ne.symm; assumption))) ?_; walk_at "hp")
  | (refine hpS (by assumption) ?_; walk_at "hp"))
local macro_rules | `(tactic| walk_at "al") => `(tactic| (with_reducible intro l hl; generalize hG : upd _ l _ = G; have hs := newOne hl hG; clear hG; obtain ⟨hs, he⟩ := hs))
local macro_rules | `(tactic| walk_at "rd") => `(tactic| first
  | walk_at "al"
  | ((with_reducible apply Rd.cat); (walk_at "hp"); (walk_at "hp"); (exact Nat.le_of_ble_eq_true rfl)))
local macro_rules | `(tactic| walk_at "sm") => `(tactic| first
  | assumption
  | exact Same.refl _
  | (refine Same.trans ?_ (by assumption); walk_at "sm"))
local macro_rules | `(tactic| walk_at "fr") => `(tactic| first
  | assumption
  | (refine Same.free (by assumption) ?_; walk_at "fr"))
local macro_rules | `(tactic| walk_at "ty") => `(tactic| first
  | exact dv_ty (by assumption)
  | exact tyD' (by walk_at "hp"))
local macro_rules | `(tactic| walk_at "sz") => `(tactic| first
  | exact sz5 (by omega)
  | (simp only [add_len, one_len]; exact sz5 (by omega)))
local macro_rules | `(tactic| walk_at "rd") => `(tactic| first
  | with_reducible apply Rd.istr
  | with_reducible apply Rd.exstr
  | with_reducible apply Rd.leA
  | with_reducible apply Rd.leZz
  | with_reducible apply Rd.le0
  | with_reducible apply Rd.le9
  | with_reducible apply Rd.niZ
  | ((with_reducible apply Rd.lenZ); (walk_at "sz"))
  | ((with_reducible apply Rd.slZ); (walk_at "sz"))
  | ((with_reducible apply Rd.addZ); (walk_at "sz"))
  | with_reducible apply Rd.raiseX
  | with_reducible apply Rd.exone
  | with_reducible apply Rd.callS
  | with_reducible apply Rd.callP
  | with_reducible apply Rd.xsX
  | with_reducible apply Rd.dnewX
  | with_reducible apply Rd.tyZ)
/-! ### what is asked -/
open Ty Ln
section
variable {P : Program} {w : World} {K : PySem.W.Frag} {mg : Str → Option Value} {base : Heap} {D : Str → Addr}
/-- v is a question: two words and a list of steps -/
def AskAt (H : Hp) (v : V) : Prop := ∃ (p w : Addr) (a b : Str) (ws : List V), v = .ref p ∧ H p = some (.lst [.str a, .str b, .ref w]) ∧ H w = some (.lst ws) ∧ (∀ u ∈ ws, TrAt H u) ∧ ws.length ≤ 30
theorem AskAt.same {H H' : Hp} {v : V} (h : AskAt H v) (s : Same H H') : AskAt H' v := by
  obtain ⟨p, w, a, b, ws, e, ep, ew, t, l⟩ := h
  exact ⟨p, w, a, b, ws, e, s _ _ ep, s _ _ ew, fun u hu => (t u hu).same s, l⟩
theorem lst_off {st c p : Addr} {H : Hp} {xs : List V} (o : StoreAt H st c) (e : H p = some (.lst xs)) (h : ∀ u ∈ xs, TrAt H u) : p ≠ st := fun z => by
  obtain ⟨ns, p', d, s, t, h1, _⟩ := o
  rw [z, h1] at e
  cases e
  obtain ⟨_, _, _, _, e, _⟩ := (h (.int p') (by simp)).of
  cases e
theorem ask_off {st c p w : Addr} {a b : Str} {H : Hp} (o : StoreAt H st c) (e : H p = some (.lst [.str a, .str b, .ref w])) : p ≠ st := fun z => by
  obtain ⟨ns, p', d, s, t, h1, _⟩ := o
  rw [z, h1] at e
  cases e
theorem AskAt.go {st c : Addr} {H H' : Hp} {v : V} (h : AskAt H v) (o : StoreAt H st c) (g : Go st c H H') : AskAt H' v := by
  obtain ⟨p, w, a, b, ws, e, ep, ew, t, l⟩ := h
  exact ⟨p, w, a, b, ws, e, g.keep _ _ (ask_off o ep) ep, g.keep _ _ (lst_off o ew t) ew, fun u hu => (t u hu).go o g, l⟩
/-- the list of questions itself is written -/
theorem AskAt.put {A : Addr} {H : Hp} {xs ys : List V} {v : V} (h : AskAt H v) (e : H A = some (.lst xs)) (ne : xs ≠ []) (k : ∀ u ∈ xs, AskAt H u) : AskAt (upd H A (.lst ys)) v := by
  obtain ⟨p, w, a, b, ws, e', ep, ew, t, l⟩ := h
  have np : p ≠ A := fun z => by
    rw [z, e] at ep
    cases ep
    obtain ⟨_, _, _, _, _, e, _⟩ := k (.str a) (by simp)
    cases e
  have nw : w ≠ A := fun z => by
    rw [z, e] at ew
    cases ew
    match xs, ne with
    | x :: xs, _ =>
      obtain ⟨_, _, _, _, _, e1, e2, _⟩ := k x (.head _)
      obtain ⟨_, _, _, _, e3, e4, _⟩ := (t x (.head _)).of
      rw [e1] at e3
      cases e3
      rw [e2] at e4
      cases e4
  exact ⟨p, w, a, b, ws, e', (upd_ne np).trans ep, (upd_ne nw).trans ew, fun u hu => TrAt.put e (t u hu), l⟩
theorem revX {K : PySem.W.Frag} {te : TE} {σ : L2.St} {H : Hp} {R : It → Hp → Prop} (h : te σ H fun v H1 => ∃ (a : Addr) (xs : List V), v = .ref a ∧ ((SqL K H1 a xs ∧ R (Itv K a xs.length) H1) ∨ (SqT K H1 a xs ∧ R (RT.ItvT K a xs.length) H1))) : RT.iRevA K te σ H R := h
/-- _law_asks(store, houses, lines) -/
def spAsks : Sp := fun vs H Q _ => ∃ (st c h l : Addr) (zs : List Str) (ts : List (Str × Str × Str)), vs = [.ref st, .ref h, .ref l] ∧ StoreAt H st c ∧ h ≠ st ∧ l ≠ st ∧ H h = some (.lst (zs.map V.str)) ∧ zs.length ≤ 1000 ∧ (∀ z ∈ zs, NmS z) ∧ WL H l (ts.map tr) ∧ ts.length ≤ 1000 ∧
  ∀ (A : Addr) (vs : List V) (H' : Hp), vs ≠ [] → vs.length ≤ 1000 → H A = none → Go st c H H' → H' A = some (.lst vs) → (∀ v ∈ vs, AskAt H' v) → Q (.ref A) H'
local macro_rules | `(tactic| walk_at "rd") => `(tactic| first
  | with_reducible apply Kj.revX)
theorem ok__law_asks (F : Def K mg "_law_asks" s__law_asks P__law_asks) (m_range : mg "range" = none) (m_min : mg "min" = none) (m_len : mg "len" = none) (m_reversed : mg "reversed" = none) (C__law_take : Cal P w K mg base 1 "_law_take" P__law_take spTake) (C__law_pick : Cal P w K mg base 2 "_law_pick" P__law_pick (spPick K)) (C__law_walk : Cal P w K mg base 3 "_law_walk" P__law_walk spWalk) (C__law_bent_way : Cal P w K mg base 5 "_law_bent_way" P__law_bent_way spBentWay) (C__law_word : Cal P w K mg base 3 "_law_word" P__law_word spWord) : Cal P w K mg base 6 "_law_asks" P__law_asks spAsks := by
  refine F.ok sc__law_asks (fun vs H Q E h => ?_) (fun f cdv A outer s H vs Q E hr h => ?_)
  · obtain ⟨st, c, h, l, zs, ts, rfl, _⟩ := h
    rfl
  obtain ⟨st, c, h, l, zs, ts, rfl, hs, hst, lst, eh, lz, nz, wl, lts, q⟩ := h
  refine ⟨_, (pss_cons (ps_set (i := 3) sc__law_asks.nd rfl (Or.inl rfl) (pe_cal C__law_word hr (pa_cons (pv 0 (hd := nd_store) (hcd := nc_store)) (pa_cons (pv 1 (hd := nd_houses) (hcd := nc_houses)) pa_nil)) (hdb := nd__law_word)))
  (pss_cons (ps_set (i := 4) sc__law_asks.nd rfl (Or.inl rfl) (pe_lst (pa_cons (pe_lst (pa_cons (pv 3 (hd := nd_word) (hcd := nc_word)) (pa_cons (pv 3 (hd := nd_word) (hcd := nc_word)) (pa_cons (pe_lst pa_nil) pa_nil)))) (pa_cons (pe_lst (pa_cons (pv 3 (hd := nd_word) (hcd := nc_word)) (pa_cons (pe_cal C__law_word hr (pa_cons (pv 0 (hd := nd_store) (hcd := nc_store)) (pa_cons (pv 1 (hd := nd_houses) (hcd := nc_houses)) pa_nil)) (hdb := nd__law_word)) (pa_cons (pe_lst pa_nil) pa_nil)))) pa_nil))))
  (pss_cons (ps_for PassesOwn.never rfl (pi_range1 (by rfl) m_range (pa_cons (pe_callB (q_min rfl) (by rfl) m_min bb_min (pa_cons (pe_op op_add pe_int (pe_cal C__law_take hr (pa_cons (pv 0 (hd := nd_store) (hcd := nc_store)) (pa_cons pe_int pa_nil)) (hdb := nd__law_take))) (pa_cons (pe_op op_mul pe_int (pe_callB q_len (by rfl) m_len PySem.boot_len (pa_cons (pv 1 (hd := nd_houses) (hcd := nc_houses)) pa_nil) (hn := nn_len) (hdb := nd_len))) pa_nil)) (hn := nn_min) (hdb := nd_min)) pa_nil)) (pg_name (i := 5) sc__law_asks.nd rfl (Or.inl rfl)) (pss_cons (ps_set (i := 6) sc__law_asks.nd rfl (Or.inl rfl) (pe_cal C__law_pick hr (pa_cons (pv 0 (hd := nd_store) (hcd := nc_store)) (pa_cons (pv 1 (hd := nd_houses) (hcd := nc_houses)) pa_nil)) (hdb := nd__law_pick)))
  (pss_cons (ps_set (i := 7) sc__law_asks.nd rfl (Or.inl rfl) (pe_cal C__law_walk hr (pa_cons (pv 0 (hd := nd_store) (hcd := nc_store)) (pa_cons (pv 1 (hd := nd_houses) (hcd := nc_houses)) (pa_cons (pv 2 (hd := nd_lines) (hcd := nc_lines)) (pa_cons (pv 6 (hd := nd_a) (hcd := nc_a)) (pa_cons (pe_op op_add pe_int (pe_cal C__law_take hr (pa_cons (pv 0 (hd := nd_store) (hcd := nc_store)) (pa_cons pe_int pa_nil)) (hdb := nd__law_take))) pa_nil))))) (hdb := nd__law_walk)))
  (pss_cons (ps_set (i := 8) sc__law_asks.nd rfl (Or.inl rfl) (pe_cal C__law_bent_way hr (pa_cons (pv 0 (hd := nd_store) (hcd := nc_store)) (pa_cons (pe_ix ix_list (pv 7 (hd := nd_walk) (hcd := nc_walk)) pe_int (fun _ _ => rfl)) (pa_cons (pv 1 (hd := nd_houses) (hcd := nc_houses)) (pa_cons (pv 2 (hd := nd_lines) (hcd := nc_lines)) pa_nil)))) (hdb := nd__law_bent_way)))
  (pss_cons (ps_set (i := 9) sc__law_asks.nd rfl (Or.inl rfl) (pe_cal C__law_word hr (pa_cons (pv 0 (hd := nd_store) (hcd := nc_store)) (pa_cons (pv 1 (hd := nd_houses) (hcd := nc_houses)) pa_nil)) (hdb := nd__law_word)))
  (pss_cons (ps_setLc (i := 10) (own := [("step", 11)]) (by rfl) sc__law_asks.nd rfl rfl (sw_true rfl rfl rfl (by decide +kernel)) (RT.pi_revA (by rfl) m_reversed (pe_ix ix_list (pv 7 (hd := nd_walk) (hcd := nc_walk)) pe_int (fun _ _ => rfl))) (blkOk_by (N := N__law_asks) (sc := defScope s__law_asks) (by decide +kernel)) (fun _ _ _ _ _ => (pg_name (i := 11) sc__law_asks.nd rfl (Or.inl rfl))) (fun _ _ _ _ _ => pts_nil) (fun _ _ _ _ _ => (pe_tup (pa_cons (pe_ix (ix_tupK (K := K) rfl) (pv 11 (hd := nd_step) (hcd := nc_step)) pe_int (fun _ _ => rfl)) (pa_cons (pe_ix (ix_tupK (K := K) rfl) (pv 11 (hd := nd_step) (hcd := nc_step)) pe_int (fun _ _ => rfl)) (pa_cons (pe_ix (ix_tupK (K := K) rfl) (pv 11 (hd := nd_step) (hcd := nc_step)) pe_int (fun _ _ => rfl)) pa_nil))))))
  (pss_cons (ps_set (i := 4) sc__law_asks.nd rfl (Or.inl rfl) (pe_op op_cat (pv 4 (hd := nd_asks) (hcd := nc_asks)) (pe_lst (pa_cons (pe_lst (pa_cons (pv 6 (hd := nd_a) (hcd := nc_a)) (pa_cons (pe_ix ix_list (pv 7 (hd := nd_walk) (hcd := nc_walk)) pe_int (fun _ _ => rfl)) (pa_cons (pe_ix ix_list (pv 7 (hd := nd_walk) (hcd := nc_walk)) pe_int (fun _ _ => rfl)) pa_nil)))) (pa_cons (pe_lst (pa_cons (pv 6 (hd := nd_a) (hcd := nc_a)) (pa_cons (pe_ix ix_list (pv 7 (hd := nd_walk) (hcd := nc_walk)) pe_int (fun _ _ => rfl)) (pa_cons (pv 8 (hd := nd_bent) (hcd := nc_bent)) pa_nil)))) (pa_cons (pe_lst (pa_cons (pe_ix ix_list (pv 7 (hd := nd_walk) (hcd := nc_walk)) pe_int (fun _ _ => rfl)) (pa_cons (pv 6 (hd := nd_a) (hcd := nc_a)) (pa_cons (pe_ix ix_list (pv 7 (hd := nd_walk) (hcd := nc_walk)) pe_int (fun _ _ => rfl)) pa_nil)))) (pa_cons (pe_lst (pa_cons (pv 6 (hd := nd_a) (hcd := nc_a)) (pa_cons (pv 9 (hd := nd_other) (hcd := nc_other)) (pa_cons (pe_ix ix_list (pv 7 (hd := nd_walk) (hcd := nc_walk)) pe_int (fun _ _ => rfl)) pa_nil)))) pa_nil)))))))
  (pss_cons (ps_expr (pe_bm PySem.F.plainAttrs_list PySem.F.slot_list_append PySem.F.type_list_append mt_append (pv 4 (hd := nd_asks) (hcd := nc_asks)) (pa_cons (pe_lst (pa_cons (pe_ix ix_list (pv 7 (hd := nd_walk) (hcd := nc_walk)) pe_int (fun _ _ => rfl)) (pa_cons (pv 6 (hd := nd_a) (hcd := nc_a)) (pa_cons (pv 10 (hd := nd_back) (hcd := nc_back)) pa_nil)))) pa_nil)))
  (pss_one (ps_if (pt_cmpR op_gt (pe_callB q_len (by rfl) m_len PySem.boot_len (pa_cons (pv 8 (hd := nd_bent) (hcd := nc_bent)) pa_nil) (hn := nn_len) (hdb := nd_len)) pe_int (nomark _)) (pss_one (ps_expr (pe_bm PySem.F.plainAttrs_list PySem.F.slot_list_append PySem.F.type_list_append mt_append (pv 4 (hd := nd_asks) (hcd := nc_asks)) (pa_cons (pe_lst (pa_cons (pe_ix ix_tup (pe_ix ix_list (pv 8 (hd := nd_bent) (hcd := nc_bent)) pe_int (fun _ _ => rfl)) pe_int (fun _ _ => rfl)) (pa_cons (pe_ix ix_tup (pe_ix ix_list (pv 8 (hd := nd_bent) (hcd := nc_bent)) (pe_un un_neg pe_int) (fun _ _ => rfl)) pe_int (fun _ _ => rfl)) (pa_cons (pv 8 (hd := nd_bent) (hcd := nc_bent)) pa_nil)))) pa_nil)))) pss_nil))))))))))
  (pss_one (ps_ret (pv 4 (hd := nd_asks) (hcd := nc_asks))))))), ?_⟩
  refine Rd.at0 (σ := [some (.ref st), some (.ref h), some (.ref l), none, none, none, none, none, none, none, none, none]) rfl ?_
  have lm : (zs.map V.str).length = zs.length := List.length_map ..
  repeat' (walk_at "rd")
  refine ⟨st, c, h, zs, rfl, hs, hst, eh, lz, nz, fun z1 H1 g1 => ?_⟩
  have eh1 := g1.keep _ _ hst eh
  repeat' (walk_at "rd")
  rename_i W1 nW1 G1 s1 eW1 P1 nP1 G2 s2 eP1
  have g2 := g1.same (s1.trans s2)
  refine ⟨st, c, h, zs, rfl, g2.ok, hst, (s1.trans s2) _ _ eh1, lz, nz, fun z2 H3 g3 => ?_⟩
  have a1 : AskAt G2 (.ref P1) := ⟨P1, W1, z1, z1, [], rfl, eP1, s2 _ _ eW1, (fun _ h => nomatch h), Nat.zero_le _⟩
  have a1 := a1.go g2.ok g3
  have g23 := g2.trans g3
  repeat' (walk_at "rd")
  rename_i W2 nW2 G4 s4 eW2 P2 nP2 G5 s5 eP2 A nA G6 s6 eA
  have g6 := g23.same ((s4.trans s5).trans s6)
  have a2 : AskAt G6 (.ref P2) := ⟨P2, W2, z1, z2, [], rfl, s6 _ _ eP2, s6 _ _ (s5 _ _ eW2), (fun _ h => nomatch h), Nat.zero_le _⟩
  have a1 := a1.same ((s4.trans s5).trans s6)
  have nAH : H A = none := (g23.same (s4.trans s5)).free nA
  refine ⟨st, c, 6, rfl, g6.ok, by decide, fun r H7 r0 r1 g7 => ?_⟩
  have g67 := g6.trans g7
  have eh7 := g67.keep _ _ hst eh
  have oA := hs.off nAH
  repeat' (walk_at "rd")
  have cnt : ∀ i : Nat, i < (if 7 * ((zs.map V.str).length : Int) < 2 + r then 7 * ((zs.map V.str).length : Int) else 2 + r).toNat → i < 7 ∧ zs ≠ [] := fun i hi => by
    split at hi
    · refine ⟨by omega, fun e => ?_⟩
      subst e
      simp at hi
    · refine ⟨by omega, fun e => ?_⟩
      subst e
      simp at *
      omega
  have inv0 : ∀ v ∈ [V.ref P1, .ref P2], AskAt H7 v := fun v hv => by
    have hv : v = .ref P1 ∨ v = .ref P2 := by simpa using hv
    rcases hv with rfl | rfl
    · exact a1.go g6.ok g7
    · exact a2.go g6.ok g7
  refine forR (fun i σ H' => ∃ (A : Addr) (vs : List V) (v5 v6 v7 v8 v9 v10 v11 : Option V), σ = [some (.ref st), some (.ref h), some (.ref l), some (.str z1), some (.ref A), v5, v6, v7, v8, v9, v10, v11] ∧ H A = none ∧ H' A = some (.lst vs) ∧ vs ≠ [] ∧ vs.length ≤ 2 + 6 * i ∧ (∀ v ∈ vs, AskAt H' v) ∧ Go st c H H')
    ⟨A, _, none, none, none, none, none, none, none, rfl, nAH, g7.keep _ _ oA.1 eA, (fun e => nomatch e), Nat.le_refl _, inv0, g67⟩ ?_ ?_
  · clear inv0 a1 a2 eA s6 eP2 s5 eW2 s4 g3 s2 eP1 s1 eW1 eh7 g67 g7 g6
    rintro i σ H' hi ⟨A, vs, v5, v6, v7, v8, v9, v10, v11, rfl, nA, eA, ne, lv, ask, g⟩
    obtain ⟨i7, zne⟩ := cnt i hi
    clear cnt hi
    have eh' := g.keep _ _ hst eh
    repeat' (walk_at "rd")
    refine .inr ⟨st, c, h, _, rfl, g.ok, hst, .inl (.inl eh'), by omega, fun e => absurd (List.map_eq_nil_iff.mp e) zne, fun x H2 hx g2 => ?_⟩
    obtain ⟨za, mza, rfl⟩ := List.mem_map.mp hx
    have g02 := g.trans g2
    repeat' (walk_at "rd")
    refine ⟨st, c, 9, rfl, g2.ok, by decide, fun r9 H3 r90 r91 g3 => ?_⟩
    have g03 := g02.trans g3
    repeat' (walk_at "rd")
    refine ⟨st, c, h, l, za, _, ts, rfl, g3.ok, lst, wl_go wl hs g03 lst, lts, by omega, by omega, fun Lw W b ws H4 lws nLw nW g4 eLw eW tW => ?_⟩
    have g04 := g03.trans g4
    have oLw := g03.ok.off nLw
    have oW := g03.ok.off nW
    have lws : ws.length ≤ 10 := by omega
    repeat' (walk_at "rd")
    refine ⟨st, c, W, h, l, ws, zs, ts, rfl, g4.ok, oW.1, hst, lst, eW, tW, by omega, g04.keep _ _ hst eh, lz, nz, wl_go wl hs g04 lst, lts, fun Lb ys H5 lys nLb g5 eLb tb => ?_⟩
    have g05 := g04.trans g5
    have oLb := g04.ok.off nLb
    have eLw5 := g5.keep _ _ oLw.1 eLw
    have eW5 := g5.keep _ _ oW.1 eW
    have tW5 : ∀ v ∈ ws, TrAt H5 v := fun v hv => (tW v hv).go g4.ok g5
    repeat' (walk_at "rd")
    refine ⟨st, c, h, zs, rfl, g5.ok, hst, g05.keep _ _ hst eh, lz, nz, fun zo H6 g6 => ?_⟩
    have g06 := g05.trans g6
    have eLw6 := g6.keep _ _ oLw.1 eLw5
    have eW6 := g6.keep _ _ oW.1 eW5
    have eLb6 := g6.keep _ _ oLb.1 eLb
    have tW6 : ∀ v ∈ ws, TrAt H6 v := fun v hv => (tW5 v hv).go g5.ok g6
    have tb6 : ∀ v ∈ ys, TrAt H6 v := fun v hv => (tb v hv).go g5.ok g6
    have g16 := ((((g2.trans g3).trans g4).trans g5).trans g6)
    have eA6 := g16.keep _ _ (hs.off nA).1 eA
    have ask6 : ∀ v ∈ vs, AskAt H6 v := fun v hv => (ask v hv).go g.ok g16
    clear ask eA g16 tW5 eW5 eLw5 tb eLb tW eW eLw g2 g3 g4 g5 g6 g02 g03 g04 g05 eh' g
    repeat' (walk_at "rd")
    refine ⟨W, ws, rfl, .inl ⟨.inl (.inl eW6), ?_⟩⟩
    refine lcWO L2.walk_rev (fun L1 i y G => ∃ (t : Addr) (x1 y1 z1 : Str), y = .ref t ∧ t ≠ L1 ∧ G t = some (.tup [.str x1, .str y1, .str z1]) ∧ PyData.strOk x1 = true ∧ PyData.strOk y1 = true ∧ PyData.strOk z1 = true) ?_ (by omega) (fun h s => s.seq (.inl (.inl eW6))) ?_ ?_
    · rintro L1 i y G G' ⟨t, x1, y1, z1, e, n, et, o1, o2, o3⟩ kx
      exact ⟨t, x1, y1, z1, e, n, kx _ _ n et, o1, o2, o3⟩
    · rintro L1 i x0 h0 h' nL1 hi0 sh ⟨oL, eoL⟩ ⟨rfl, ex⟩ Nx yes
      have mem : x0 ∈ ws := List.mem_of_getElem? ex
      obtain ⟨t, n1, x1, y1, rfl, et, ok1, ok2, ok3⟩ := ((tW6 x0 mem).same sh).of
      refine turn1 ?_
      repeat' (walk_at "rd")
      refine ⟨rfl, ?_⟩
      repeat' (walk_at "rd")
      rename_i T nT G s e
      exact yes G _ ⟨T, n1, y1, x1, rfl, (fun z => by rw [z, eoL] at nT; cases nT), e, ok1, ok3, ok2⟩ s
    · intro Lk G us nLk sG eLk lus hus
      have tk : ∀ v ∈ us, TrAt G v := fun v hv => by
        obtain ⟨j, hj⟩ := List.mem_iff_getElem?.mp hv
        obtain ⟨t, x1, y1, z1', rfl, _, et, o1, o2, o3⟩ := hus j v hj
        exact .mk et o1 o2 o3
      clear hus
      have eLwG := sG _ _ eLw6
      have eWG := sG _ _ eW6
      have eLbG := sG _ _ eLb6
      have eAG := sG _ _ eA6
      have tWG : ∀ v ∈ ws, TrAt G v := fun v hv => (tW6 v hv).same sG
      have tbG : ∀ v ∈ ys, TrAt G v := fun v hv => (tb6 v hv).same sG
      have askG : ∀ v ∈ vs, AskAt G v := fun v hv => (ask6 v hv).same sG
      have gG := g06.same sG
      clear eLw6 eW6 eLb6 eA6 tW6 tb6 ask6 sG g06
      repeat' (walk_at "rd")
      rename_i P1 n1 G1 s1 e1 P2 n2 G2 s2 e2 P3 n3 G3 s3 e3 P4 n4 G4 s4 e4 O nO GO sO eO
      have t4 := sO
      have t3 := s4.trans t4
      have t2 := s3.trans t3
      have t1 := s2.trans t2
      have t0 := s1.trans t1
      refine Rd.cat (t0 _ _ eAG) eO (sz5 (by simp only [List.length_cons, List.length_nil]; omega)) ?_
      repeat' (walk_at "rd")
      rename_i A2 nA2 GA sA eA2 P5 n5 G5 s5 e5
      have askA : ∀ v ∈ vs ++ [.ref P1, .ref P2, .ref P3, .ref P4], AskAt G5 v := fun v hv => by
        rcases List.mem_append.mp hv with hv | hv
        · exact (askG v hv).same ((t0.trans sA).trans s5)
        · have hv : v = .ref P1 ∨ v = .ref P2 ∨ v = .ref P3 ∨ v = .ref P4 := by simpa using hv
          have sA5 := sA.trans s5
          rcases hv with rfl | rfl | rfl | rfl
          · exact AskAt.same (H := G1) ⟨P1, W, za, b, ws, rfl, e1, s1 _ _ eWG, fun u hu => (tWG u hu).same s1, by omega⟩ (t1.trans sA5)
          · exact AskAt.same (H := G2) ⟨P2, Lb, za, b, ys, rfl, e2, (s1.trans s2) _ _ eLbG, fun u hu => (tbG u hu).same (s1.trans s2), by omega⟩ (t2.trans sA5)
          · exact AskAt.same (H := G3) ⟨P3, W, b, za, ws, rfl, e3, ((s1.trans s2).trans s3) _ _ eWG, fun u hu => (tWG u hu).same ((s1.trans s2).trans s3), by omega⟩ (t3.trans sA5)
          · exact AskAt.same (H := G4) ⟨P4, W, za, zo, ws, rfl, e4, (((s1.trans s2).trans s3).trans s4) _ _ eWG, fun u hu => (tWG u hu).same (((s1.trans s2).trans s3).trans s4), by omega⟩ (t4.trans sA5)
      have ne2 : vs ++ [V.ref P1, .ref P2, .ref P3, .ref P4] ≠ [] := fun e => by simp at e
      have l2 : (vs ++ [V.ref P1, .ref P2, .ref P3, .ref P4]).length ≤ 2 + 6 * i + 4 := by
        rw [List.length_append]
        show vs.length + 4 ≤ _
        omega
      have s05 := (t0.trans sA).trans s5
      have a5 : AskAt G5 (.ref P5) := ⟨P5, Lk, b, za, us, rfl, e5, s05 _ _ eLk, fun u hu => (tk u hu).same s05, by omega⟩
      have nA2H : H A2 = none := (gG.same t0).free nA2
      have oA2 := hs.off nA2H
      have eA25 := s5 _ _ eA2
      have eLb5 := s05 _ _ eLbG
      have tb5 : ∀ v ∈ ys, TrAt G5 v := fun v hv => (tbG v hv).same s05
      have g5 := gG.same s05
      generalize vs ++ [V.ref P1, .ref P2, .ref P3, .ref P4] = xs at *
      clear eLk tk eAG tWG tbG askG eWG eLwG e1 e2 e3 e4 e5 t0 t1 t2 t3 t4 s05
      refine append eA25 (sz5' (by omega)) ?_
      have askB : ∀ v ∈ xs ++ [.ref P5], AskAt (upd G5 A2 (.lst (xs ++ [.ref P5]))) v := fun v hv => by
        refine AskAt.put ?_ eA25 ne2 askA
        rcases List.mem_append.mp hv with hv | hv
        · exact askA v hv
        · rw [List.mem_singleton.mp hv]
          exact a5
      have neLb : Lb ≠ A2 := fun z => by
        rw [z, eA25] at eLb5
        have e : xs = ys := HO.lst.inj (Option.some.inj eLb5)
        obtain ⟨x, mx⟩ := List.exists_mem_of_ne_nil _ ne2
        obtain ⟨_, _, _, _, _, q1, q2, _⟩ := askA x mx
        obtain ⟨_, _, _, _, q3, q4, _⟩ := (tb5 x (e ▸ mx)).of
        rw [q1] at q3
        cases q3
        rw [q2] at q4
        cases q4
      have eLbB : upd G5 A2 (.lst (xs ++ [.ref P5])) Lb = some (.lst ys) := (upd_ne neLb).trans eLb5
      have tbB : ∀ v ∈ ys, TrAt (upd G5 A2 (.lst (xs ++ [.ref P5]))) v := fun v hv => TrAt.put eA25 (tb5 v hv)
      have eAB : upd G5 A2 (.lst (xs ++ [.ref P5])) A2 = some (.lst (xs ++ [.ref P5])) := upd_same
      have gB := g5.write nA2H oA2 (.lst (xs ++ [.ref P5]))
      have neB : xs ++ [V.ref P5] ≠ [] := fun e => by simp at e
      have lB : (xs ++ [V.ref P5]).length ≤ 2 + 6 * i + 5 := by
        rw [List.length_append]
        show xs.length + 1 ≤ _
        omega
      generalize upd G5 A2 (.lst (xs ++ [.ref P5])) = GB at *
      generalize xs ++ [V.ref P5] = xb at *
      clear eA25 askA tb5 eLb5 eA2
      repeat' (walk_at "rd")
      · have y1 : 0 < ys.length := by omega
        obtain ⟨y0, ey0⟩ : ∃ y0, ys[0]? = some y0 := ⟨_, List.getElem?_eq_getElem y1⟩
        have yne : ys ≠ [] := fun e => by rw [e] at y1; exact absurd y1 (by decide)
        obtain ⟨t0, n0, p0, q0, rfl, et0, _⟩ := (tbB y0 (List.mem_of_getElem? ey0)).of
        obtain ⟨t9, n9, p9, q9, e9, et9, _⟩ := (tbB _ (List.getLast_mem yne)).of
        have eyl : atI ys (-1) = some (.ref t9) := by
          have := atI_last ys.dropLast (ys.getLast yne)
          rw [List.dropLast_concat_getLast yne, e9] at this
          exact this
        refine Rd.ixL (.inl (.inl eLbB)) (atI_nat ey0) ?_
        repeat' (walk_at "rd")
        refine Rd.ixL (.inl (.inl eLbB)) eyl ?_
        repeat' (walk_at "rd")
        rename_i P6 n6 G6 s6 e6
        refine append (s6 _ _ eAB) (sz5' (by omega)) ?_
        repeat' (walk_at "rd")
        refine ⟨A2, xb ++ [.ref P6], _, _, _, _, _, _, _, rfl, nA2H, upd_same, (fun e => by simp at e), by rw [List.length_append]; show xb.length + 1 ≤ _; omega, fun v hv => ?_, (gB.same s6).write nA2H oA2 _⟩
        refine AskAt.put ?_ (s6 _ _ eAB) neB fun u hu => (askB u hu).same s6
        rcases List.mem_append.mp hv with hv | hv
        · exact (askB v hv).same s6
        · rw [List.mem_singleton.mp hv]
          exact ⟨P6, Lb, p0, q9, ys, rfl, e6, s6 _ _ eLbB, fun u hu => (tbB u hu).same s6, by omega⟩
      · exact ⟨A2, xb, _, _, _, _, _, _, _, rfl, nA2H, eAB, neB, by omega, askB, gB⟩
  · rintro σ H' ⟨A, vs, v5, v6, v7, v8, v9, v10, v11, rfl, nA, eA, ne, lv, ask, g⟩
    repeat' (walk_at "rd")
    refine q A vs H' ne ?_ nA g eA ask
    have : (if 7 * ((zs.map V.str).length : Int) < 2 + r then 7 * ((zs.map V.str).length : Int) else 2 + r).toNat ≤ 7 := by
      split <;> omega
    omega
end
end Kj
namespace Kj
open PySem PySem.Spec PyProof.Rows L2 Rd
/-! ### the stepper -/
local macro_rules | `(tactic| walk_at "hp") => `(tactic| first
  | assumption
  | exact upd_same
  | (refine Eq.trans (upd_ne (by first | assumption | (apply Ne.symm; assumption))) ?_; walk_at "hp"))
local macro_rules | `(tactic| walk_at "sq") => `(tactic| first
  | assumption
  | (refine Or.inl (Or.inl ?_); walk_at "hp"))
local macro_rules | `(tactic| walk_at "st") => `(tactic| first
  | assumption
  | (refine Or.inl (Or.inl ?_); walk_at "hp"))
local macro_rules | `(tactic| walk_at "ar") => `(tactic| first
  | assumption
  | omega
  | decide)
local macro_rules | `(tactic| walk_at "ci") => `(tactic| first
  | (refine (show CMul _ _ from Or.inr ⟨?_, ?_⟩) <;> omega)
  | (refine (show CMul _ _ from Or.inl ⟨?_, ?_⟩) <;> omega)
  | (show CPow _ _; exact ⟨by decide, by decide, by decide⟩)
  | (refine wide_div (b := 63) ?_ ?_ (by decide) (by decide) <;> omega)
  | (show (0 : Int) < _; omega))
local macro_rules | `(tactic| walk_at "ty") => `(tactic| first
  | exact dp_ty (by assumption)
  | exact TyX.base (TyOf.int _)
  | exact TyX.base (TyOf.str _)
  | exact TyX.base (TyOf.bl _)
  | exact TyX.base TyOf.non
  | exact tyL' (by walk_at "sq")
  | exact tyT' (by walk_at "st"))
local macro_rules | `(tactic| walk_at "isi") => `(tactic| first
  | ((with_reducible apply Rd.isiF); (walk_at "ty"); (decide))
  | ((with_reducible apply Rd.isiT); (walk_at "ty"); (decide)))
local macro_rules | `(tactic| walk_at "rd") => `(tactic| first
  | with_reducible apply Rd.seq
  | ((with_reducible apply Rd.var); rfl)
  | with_reducible apply Rd.con
  | with_reducible apply Rd.op
  | with_reducible apply Rd.asg
  | ((with_reducible apply Rd.gname); ((dsimp only [List.set, L2.wipe, Int.reduceToNat]) <;> rfl))
  | with_reducible apply Rd.nxt
  | with_reducible apply Rd.ifs
  | with_reducible apply Rd.test
  | with_reducible apply Rd.testB
  | with_reducible apply Rd.exbl
  | with_reducible apply Rd.ret
  | with_reducible apply Rd.drop
  | with_reducible apply Rd.retN
  | with_reducible apply Rd.nil
  | with_reducible apply Rd.cons
  | with_reducible apply Rd.call
  | with_reducible apply Rd.cb
  | with_reducible apply Rd.and
  | with_reducible apply Rd.or
  | with_reducible apply Rd.not
  | with_reducible apply Rd.andV
  | with_reducible apply Rd.orV
  | with_reducible apply Rd.notV
  | with_reducible apply Rd.ife
  | with_reducible apply Rd.tup
  | with_reducible apply Rd.lst
  | with_reducible apply Rd.un
  | with_reducible apply Rd.chain
  | with_reducible apply Rd.brk
  | with_reducible apply Rd.cnt
  | with_reducible apply Rd.I0
  | with_reducible apply Rd.U1
  | ((with_reducible apply Rd.eq); rfl)
  | ((with_reducible apply Rd.ne); rfl)
  | ((with_reducible apply Rd.I1); (walk_at "ci"))
  | with_reducible apply Rd.lc0
  | with_reducible apply Rd.ln0
  | with_reducible apply Rd.exN
  | ((with_reducible apply Rd.iteSf); (decide +kernel))
  | ((with_reducible apply Rd.iteSt); (decide +kernel))
  | ((with_reducible apply Rd.niQ); (exact Or.inl (by walk_at "sq")); (exact ⟨rfl, rfl⟩); (rfl))
  | ((with_reducible apply Rd.inQ); (exact Or.inl (by walk_at "sq")); (exact ⟨rfl, rfl⟩); (rfl))
  | with_reducible apply Rd.rn1
  | with_reducible apply Rd.in1
  | with_reducible apply Rd.sn1
  | with_reducible apply Rd.bn1
  | with_reducible apply Rd.nn1
  | with_reducible apply Rd.rn2
  | with_reducible apply Rd.in2
  | with_reducible apply Rd.sn2
  | with_reducible apply Rd.bn2
  | with_reducible apply Rd.nn2
  | with_reducible apply Rd.nt1
  | with_reducible apply Rd.nf1
  | (with_reducible refine Rd.iteI (fun _ => ?_) (fun _ => ?_))
  | (with_reducible refine Rd.iteNI (fun _ => ?_) (fun _ => ?_))
  | (with_reducible refine iteT ?_)
  | (with_reducible refine iteF ?_)
  | (with_reducible refine Rd.iteD (fun _ => ?_) (fun _ => ?_))
  | (with_reducible refine Rd.iteN (fun _ => ?_) (fun _ => ?_))
  | with_reducible apply Rd.intI
  | with_reducible apply Rd.intB
  | with_reducible apply Rd.maxQ
  | with_reducible apply Rd.minQ
  | with_reducible apply Rd.absQ
  | with_reducible apply Rd.isN
  | with_reducible apply Rd.noN
  | with_reducible apply Rd.ltZ
  | with_reducible apply Rd.bm
  | with_reducible apply Rd.bm0
  | with_reducible apply Rd.par
  | with_reducible apply Rd.expar
  | with_reducible apply Rd.exint
  | with_reducible apply Rd.ipi
  | with_reducible apply Rd.slice
  | with_reducible apply Rd.noPart
  | with_reducible apply Rd.part
  | with_reducible apply Rd.gcons
  | with_reducible apply Rd.gnil
  | with_reducible apply Rd.iseq
  | with_reducible apply Rd.irng1
  | walk_at "isi"
  | with_reducible apply Rd.forX
  | with_reducible apply Rd.lstRev
  | with_reducible apply Rd.lstRg
  | with_reducible apply Rd.rg1
  | with_reducible apply Rd.rg2
  | with_reducible apply Rd.exint2
  | ((with_reducible apply Rd.exrev); (walk_at "sq"))
  | with_reducible apply Rd.lcX
  | with_reducible apply Rd.yes
  | ((with_reducible apply Rd.exrng1); (constructor <;> omega))
  | ((with_reducible apply Rd.exrng2); (refine ⟨?_, ?_, ?_, ?_⟩ <;> omega))
  | with_reducible apply Rd.irng2
  | ((with_reducible apply Rd.aug); rfl)
  | ((with_reducible apply Rd.exlst); (walk_at "sq"))
  | ((with_reducible apply Rd.gtup); (walk_at "st"); (rfl))
  | ((with_reducible apply Rd.tyL); (walk_at "hp"))
  | ((with_reducible apply Rd.ixL); (walk_at "sq"); (rfl))
  | ((with_reducible apply Rd.ixI); (walk_at "sq"); (omega); (first | assumption | (simp only [List.length_map]; omega)); (intro _ _))
  | (with_reducible refine Rd.gsub ?_)
  | ((with_reducible apply Rd.setL); (walk_at "hp"); (rfl); ((dsimp only [List.set, L2.wipe, Int.reduceToNat]) <;> rfl))
  | ((with_reducible apply Rd.lenQ); (first | exact Or.inl (by walk_at "sq") | exact Or.inr (by walk_at "st")))
  | ((with_reducible apply Rd.listQ); (first | exact Or.inl (by walk_at "sq") | exact Or.inr (by walk_at "st")))
  | ((with_reducible apply Rd.tupQ); (walk_at "sq"))
  | ((with_reducible apply Rd.slL); (walk_at "sq"))
  | ((with_reducible apply Rd.ixT); (walk_at "st"); (rfl))
  | (with_reducible refine Rd.iteB (fun _ => ?_) (fun _ => ?_))
  | (with_reducible refine Rd.iteNB (fun _ => ?_) (fun _ => ?_))
  | (refine Rd.andI (Nat.le_of_ble_eq_true rfl) ?_)
  | dsimp only [List.set])
local macro_rules | `(tactic| walk_at "hp") => `(tactic| first
  | assumption
  | exact upd_same
  | (refine Eq.trans (upd_ne (by first | assumption | (apply Ne.symm; assumption))) ?_; walk_at "hp")
  | (refine hpS (by assumption) ?_; walk_at "hp"))
local macro_rules | `(tactic| walk_at "al") => `(tactic| (with_reducible intro l hl; generalize hG : upd _ l _ = G; have hs := newOne hl hG; clear hG; obtain ⟨hs, he⟩ := hs))
local macro_rules | `(tactic| walk_at "rd") => `(tactic| first
  | walk_at "al"
  | ((with_reducible apply Rd.cat); (walk_at "hp"); (walk_at "hp"); (exact Nat.le_of_ble_eq_true rfl)))
local macro_rules | `(tactic| walk_at "sm") => `(tactic| first
  | assumption
  | exact Same.refl _
  | (refine Same.trans ?_ (by assumption); walk_at "sm"))
local macro_rules | `(tactic| walk_at "fr") => `(tactic| first
  | assumption
  | (refine Same.free (by assumption) ?_; walk_at "fr"))
local macro_rules | `(tactic| walk_at "ty") => `(tactic| first
  | exact dv_ty (by assumption)
  | exact tyD' (by walk_at "hp"))
local macro_rules | `(tactic| walk_at "sz") => `(tactic| first
  | exact sz5 (by omega)
  | (simp only [add_len, one_len]; exact sz5 (by omega)))
local macro_rules | `(tactic| walk_at "rd") => `(tactic| first
  | with_reducible apply Rd.istr
  | with_reducible apply Rd.exstr
  | with_reducible apply Rd.leA
  | with_reducible apply Rd.leZz
  | with_reducible apply Rd.le0
  | with_reducible apply Rd.le9
  | with_reducible apply Rd.niZ
  | ((with_reducible apply Rd.lenZ); (walk_at "sz"))
  | ((with_reducible apply Rd.slZ); (walk_at "sz"))
  | ((with_reducible apply Rd.addZ); (walk_at "sz"))
  | with_reducible apply Rd.raiseX
  | with_reducible apply Rd.exone
  | with_reducible apply Rd.callS
  | with_reducible apply Rd.callP
  | with_reducible apply Rd.xsX
  | with_reducible apply Rd.dnewX
  | with_reducible apply Rd.tyZ)
/-! ### the law -/
open Ty Ln
section
variable {P : Program} {w : World} {K : PySem.W.Frag} {mg : Str → Option Value} {base : Heap} {D : Str → Addr}
theorem makeX {C : Addr} {sp : Sp} {dvs : List V} {E : XK} {t : TA} {σ : L2.St} {H : Hp} {Q : VK} (h : t σ H fun vs H1 => ∀ x dx, H1 x = none → H1 dx = none → dx ≠ x → sp (.ref x :: (vs ++ dvs)) (upd (upd H1 dx (.own x)) x (.ins C dx [])) (fun v H2 => v = .non ∧ Q (.ref x) H2) E) : tMake C sp dvs E t σ H Q := h
local macro_rules | `(tactic| walk_at "rd") => `(tactic| first
  | with_reducible apply Kj.makeX
  | with_reducible apply Kj.propX)
theorem LinesOk.sub {zs : List Str} {ts us : List (Str × Str × Str)} (h : LinesOk zs ts) (s : us.Sublist ts) : LinesOk zs us :=
  ⟨h.nd.sublist (s.map _), fun t m => h.nm t (s.subset m), fun t m => h.en t (s.subset m)⟩
/-- an object is new: what stood stands -/
theorem made_same {H : Hp} {x dx : Addr} {o1 o2 : HO} (hx : H x = none) (hd : H dx = none) : Same H (upd (upd H dx o1) x o2) := fun b o e => by
  rw [upd_ne (ne_of_none e hx), upd_ne (ne_of_none e hd)]
  exact e
theorem kx_same {H G G' : Hp} {x : Addr} (s : Same H G) (n : H x = none) (k : ∀ b o, b ≠ x → G b = some o → G' b = some o) : Same H G' := fun b o e => k b o (ne_of_none e n) (s b o e)
theorem WebAt.go {st c : Addr} {H H' : Hp} {C a : Addr} {zs : List Str} {ts : List (Str × Str × Str)} (h : WebAt H C a zs ts) (o : StoreAt H st c) (g : Go st c H H') : WebAt H' C a zs ts := by
  obtain ⟨dx, f, d, l, ys, ks, fk, ea, pm, sy, eg, ed, hw, pk, sk, us, el, wl⟩ := h
  obtain ⟨ns, p, d', s, t, h1, _⟩ := id o
  have n1 : a ≠ st := fun z => by rw [z, h1] at ea; cases ea
  have n2 : f ≠ st := fun z => by
    rw [z, h1] at eg
    have e := HO.lst.inj (Option.some.inj eg)
    match ys, e with
    | y :: ys, e => cases e
  have n3 : d ≠ st := fun z => by rw [z, h1] at ed; cases ed
  have n4 : l ≠ st := fun z => by
    rw [z, h1] at el
    have e := HO.lst.inj (Option.some.inj el)
    obtain ⟨k, _, _, t, e1, _⟩ := wl.mem (v := .int p) (by rw [← e]; simp)
    cases e1
  exact ⟨dx, f, d, l, ys, ks, fk, g.keep _ _ n1 ea, pm, sy, g.keep _ _ n2 eg, g.keep _ _ n3 ed, fun t ht => wv_go (hw t ht) o g, pk, sk, us, g.keep _ _ n4 el, wvs_go wl o g⟩
theorem srt_tr {ts : List (Str × Str × Str)} : ∀ k ∈ ts.map tr, k ≠ [] := fun k hk => by
  obtain ⟨t, _, rfl⟩ := List.mem_map.mp hk
  exact List.cons_ne_nil _ _
def spLaw (K : PySem.W.Frag) : Sp := fun vs H Q _ => ∃ (a : Addr) (ns : List Int), vs = [.ref a] ∧ SqL K H a (ns.map V.int) ∧ ns.length ≤ 63 ∧ ∀ H', Q (.bl true) H'
theorem ok_law {f0 : Addr} {fd0 : FuncData} (F : Fun K "law" "law" s_law f0 fd0) (m_len : mg "len" = none) (m_list : mg "list" = none) (m_sorted : mg "sorted" = none) (KW_Web : ClsF K mg D "Web" ["_houses", "_ends", "_lines"])  (C__law_store : Cal P w K mg base 1 "_law_store" P__law_store (spStore K)) (C__law_take : Cal P w K mg base 1 "_law_take" P__law_take spTake) (C__law_same : Cal P w K mg base 9 "_law_same" P__law_same (spSame K 8)) (C__law_web : Cal P w K mg base 6 "_law_web" P__law_web spWeb) (C__law_judged_right : Cal P w K mg base 10 "_law_judged_right" P__law_judged_right (spRight K (D "Web"))) (C__law_asks : Cal P w K mg base 6 "_law_asks" P__law_asks spAsks) (C_Web_init : CalR P w K mg base 7 (Mk K (D "Web")) P_Web_init (spWInit (D "Web"))) (C_Web_houses : CalR P w K mg base 2 (PropR K (D "Web") "houses") P_Web_houses (spWHouses (D "Web"))) (C_Web_lines : CalR P w K mg base 2 (PropR K (D "Web") "lines") P_Web_lines (spWLines (D "Web"))) : FnOk P w K mg base CX0 12 f0 fd0 ["script"] (spLaw K) := by
  refine F.ok sc_law (fun vs H Q E h => ?_) (fun cdv A outer s H vs Q E hr h => ?_)
  · obtain ⟨a, ns, rfl, _⟩ := h
    rfl
  obtain ⟨a, ns, rfl, hS', hlen, q⟩ := h
  refine ⟨_, (pss_cons (ps_set (i := 1) sc_law.nd rfl (Or.inl rfl) (pe_cal C__law_store hr (pa_cons (pv 0 (hd := nd_script) (hcd := nc_script)) pa_nil) (hdb := nd__law_store)))
  (pss_cons (ps_set (i := 2) sc_law.nd rfl (Or.inl rfl) (pe_cal C__law_web hr (pa_cons (pv 1 (hd := nd_store) (hcd := nc_store)) (pa_cons pe_int pa_nil)) (hdb := nd__law_web)))
  (pss_cons (ps_set (i := 3) sc_law.nd rfl (Or.inl rfl) (pe_cal C__law_take hr (pa_cons (pv 1 (hd := nd_store) (hcd := nc_store)) (pa_cons (pe_callB q_len (by rfl) m_len PySem.boot_len (pa_cons (pe_ix ix_list (pv 2 (hd := nd_first) (hcd := nc_first)) pe_int (fun _ _ => rfl)) pa_nil) (hn := nn_len) (hdb := nd_len)) pa_nil)) (hdb := nd__law_take)))
  (pss_cons (ps_set (i := 4) sc_law.nd rfl (Or.inl rfl) (pe_op op_cat (pe_slice sl_list (pe_ix ix_list (pv 2 (hd := nd_first) (hcd := nc_first)) pe_int (fun _ _ => rfl)) po_none (po_some (pv 3 (hd := nd_at) (hcd := nc_at)))) (pe_slice sl_list (pe_ix ix_list (pv 2 (hd := nd_first) (hcd := nc_first)) pe_int (fun _ _ => rfl)) (po_some (pe_op op_add (pv 3 (hd := nd_at) (hcd := nc_at)) pe_int)) po_none)))
  (pss_cons (ps_set (i := 5) sc_law.nd rfl (Or.inl rfl) (pe_makeR C_Web_init KW_Web.mg hr (pa_cons (pe_callTy q_list (by rfl) m_list bb_list (pa_cons (pe_ix ix_list (pv 2 (hd := nd_first) (hcd := nc_first)) pe_int (fun _ _ => rfl)) pa_nil) (hn := nn_list) (hdb := nd_list)) (pa_cons (pe_callTy q_list (by rfl) m_list bb_list (pa_cons (pe_ix ix_list (pv 2 (hd := nd_first) (hcd := nc_first)) pe_int (fun _ _ => rfl)) pa_nil) (hn := nn_list) (hdb := nd_list)) pa_nil))))
  (pss_cons (ps_set (i := 6) sc_law.nd rfl (Or.inl rfl) (pe_makeR C_Web_init KW_Web.mg hr (pa_cons (pe_callTy q_list (by rfl) m_list bb_list (pa_cons (pe_ix ix_list (pv 2 (hd := nd_first) (hcd := nc_first)) pe_int (fun _ _ => rfl)) pa_nil) (hn := nn_list) (hdb := nd_list)) (pa_cons (pe_callTy q_list (by rfl) m_list bb_list (pa_cons (pv 4 (hd := nd_less) (hcd := nc_less)) pa_nil) (hn := nn_list) (hdb := nd_list)) pa_nil))))
  (pss_cons (ps_set (i := 7) sc_law.nd rfl (Or.inl rfl) (pe_cal C__law_asks hr (pa_cons (pv 1 (hd := nd_store) (hcd := nc_store)) (pa_cons (pe_ix ix_list (pv 2 (hd := nd_first) (hcd := nc_first)) pe_int (fun _ _ => rfl)) (pa_cons (pe_ix ix_list (pv 2 (hd := nd_first) (hcd := nc_first)) pe_int (fun _ _ => rfl)) pa_nil))) (hdb := nd__law_asks)))
  (pss_cons (ps_for PassesOwn.never rfl (pi_list (pe_op op_cat (pv 7 (hd := nd_asks) (hcd := nc_asks)) (pe_lst (pa_cons (pe_ix ix_list (pv 7 (hd := nd_asks) (hcd := nc_asks)) pe_int (fun _ _ => rfl)) pa_nil)))) (pg_name (i := 8) sc_law.nd rfl (Or.inl rfl)) (pss_cons (ps_if (pt_not (pt_val (pe_cal C__law_judged_right hr (pa_cons (pv 5 (hd := nd_one) (hcd := nc_one)) (pa_cons (pe_ix ix_list (pv 2 (hd := nd_first) (hcd := nc_first)) pe_int (fun _ _ => rfl)) (pa_cons (pe_ix ix_list (pv 2 (hd := nd_first) (hcd := nc_first)) pe_int (fun _ _ => rfl)) (pa_cons (pe_ix ix_list (pv 8 (hd := nd_ask) (hcd := nc_ask)) pe_int (fun _ _ => rfl)) (pa_cons (pe_ix ix_list (pv 8 (hd := nd_ask) (hcd := nc_ask)) pe_int (fun _ _ => rfl)) (pa_cons (pe_callTy q_list (by rfl) m_list bb_list (pa_cons (pe_ix ix_list (pv 8 (hd := nd_ask) (hcd := nc_ask)) pe_int (fun _ _ => rfl)) pa_nil) (hn := nn_list) (hdb := nd_list)) pa_nil)))))) (hdb := nd__law_judged_right)))) (pss_one (ps_ret pe_bl)) pss_nil)
  (pss_cons (ps_if (pt_not (pt_val (pe_cal C__law_judged_right hr (pa_cons (pv 6 (hd := nd_two) (hcd := nc_two)) (pa_cons (pe_ix ix_list (pv 2 (hd := nd_first) (hcd := nc_first)) pe_int (fun _ _ => rfl)) (pa_cons (pv 4 (hd := nd_less) (hcd := nc_less)) (pa_cons (pe_ix ix_list (pv 8 (hd := nd_ask) (hcd := nc_ask)) pe_int (fun _ _ => rfl)) (pa_cons (pe_ix ix_list (pv 8 (hd := nd_ask) (hcd := nc_ask)) pe_int (fun _ _ => rfl)) (pa_cons (pe_callTy q_list (by rfl) m_list bb_list (pa_cons (pe_ix ix_list (pv 8 (hd := nd_ask) (hcd := nc_ask)) pe_int (fun _ _ => rfl)) pa_nil) (hn := nn_list) (hdb := nd_list)) pa_nil)))))) (hdb := nd__law_judged_right)))) (pss_one (ps_ret pe_bl)) pss_nil)
  (pss_one (ps_if (pt_not (pt_val (pe_cal C__law_judged_right hr (pa_cons (pv 5 (hd := nd_one) (hcd := nc_one)) (pa_cons (pe_ix ix_list (pv 2 (hd := nd_first) (hcd := nc_first)) pe_int (fun _ _ => rfl)) (pa_cons (pe_ix ix_list (pv 2 (hd := nd_first) (hcd := nc_first)) pe_int (fun _ _ => rfl)) (pa_cons (pe_ix ix_list (pv 8 (hd := nd_ask) (hcd := nc_ask)) pe_int (fun _ _ => rfl)) (pa_cons (pe_ix ix_list (pv 8 (hd := nd_ask) (hcd := nc_ask)) pe_int (fun _ _ => rfl)) (pa_cons (pe_callTy q_list (by rfl) m_list bb_list (pa_cons (pe_ix ix_list (pv 8 (hd := nd_ask) (hcd := nc_ask)) pe_int (fun _ _ => rfl)) pa_nil) (hn := nn_list) (hdb := nd_list)) pa_nil)))))) (hdb := nd__law_judged_right)))) (pss_one (ps_ret pe_bl)) pss_nil)))))
  (pss_one (ps_ret (pe_and (pe_cal C__law_same hr (pa_cons (pe_propR C_Web_houses (pv 5 (hd := nd_one) (hcd := nc_one)) KW_Web.cl hr) (pa_cons (pe_callB (q_sortedSK (K := K) rfl) (by rfl) m_sorted bb_sorted (pa_cons (pe_ix ix_list (pv 2 (hd := nd_first) (hcd := nc_first)) pe_int (fun _ _ => rfl)) pa_nil) (hn := nn_sorted) (hdb := nd_sorted)) pa_nil)) (hdb := nd__law_same)) (pe_one (pe_cal C__law_same hr (pa_cons (pe_propR C_Web_lines (pv 5 (hd := nd_one) (hcd := nc_one)) KW_Web.cl hr) (pa_cons (pe_callB (cr_sortedTSK (K := K) rfl) (by rfl) m_sorted bb_sorted (pa_cons (pe_ix ix_list (pv 2 (hd := nd_first) (hcd := nc_first)) pe_int (fun _ _ => rfl)) pa_nil) (hn := nn_sorted) (hdb := nd_sorted)) pa_nil)) (hdb := nd__law_same)))))))))))))), ?_⟩
  refine Rd.at0 (σ := [some (.ref a), none, none, none, none, none, none, none, none]) rfl ?_
  repeat' (walk_at "rd")
  refine ⟨a, ns, rfl, hS', by omega, fun st c H1 s1 f1 o1 => ?_⟩
  repeat' (walk_at "rd")
  refine ⟨st, c, 32, rfl, o1, by decide, by decide, fun Lf h l zs ts H2 lz ndz nz lt lo nLf nh nl g2 eLf eh wl => ?_⟩
  have o2 := g2.ok
  have hst := (o1.off nh).1
  have lst := (o1.off nl).1
  have fst := (o1.off nLf).1
  obtain ⟨ls, el, hls⟩ := wl
  have lls : ls.length = ts.length := by rw [hls.len, List.length_map]
  repeat' (walk_at "rd")
  refine ⟨st, c, _, rfl, o2, by omega, fun at' H3 a0 a1 g3 => ?_⟩
  have o3 := g3.ok
  have eLf3 := g3.keep _ _ fst eLf
  have eh3 := g3.keep _ _ hst eh
  have el3 := g3.keep _ _ lst el
  have hls3 := wvs_go hls o2 g3
  obtain ⟨k, rfl⟩ : ∃ k : Nat, at' = k := ⟨at'.toNat, by omega⟩
  clear eLf eh el hls g3 o2 g2 a1
  repeat' (walk_at "rd")
  rename_i l1 n1 G1 s1 e1 l2 n2 G2 s2 e2
  rw [cut_to] at e1
  rw [show (k : Int) + 1 = ((k + 1 : Nat) : Int) by omega, cut_from] at e2
  refine Rd.cat (s2 _ _ e1) e2 (sz5 (by rw [List.length_take, List.length_drop]; omega)) ?_
  repeat' (walk_at "rd")
  rename_i Ll n4 G4 s4 e4 l5 n5 G5 s5 e5 l6 n6 G6 s6 e6
  have s46 := s5.trans s6
  have s36 : Same H3 G6 := ((s1.trans s2).trans s4).trans s46
  intro x1 dx1 nx1 nd1 ne1
  have m1 := made_same (o1 := .own x1) (o2 := .ins (D "Web") dx1 []) nx1 nd1
  refine ⟨x1, dx1, l5, l6, zs, ts, rfl, upd_same, m1 _ _ (s6 _ _ e5), ndz, nz, by omega, ⟨ls, m1 _ _ e6, (hls3.same s36).same m1⟩, lo, lt, fun H7 w1 k7 => ⟨rfl, ?_⟩⟩
  have s67 : Same G6 H7 := kx_same m1 nx1 k7
  have s37 := s36.trans s67
  have eLf7 := s37 _ _ eLf3
  have eh7 := s37 _ _ eh3
  have el7 := s37 _ _ el3
  have hls7 := hls3.same s37
  have o7 := o3.same s37
  have eLl7 := s67 _ _ (s46 _ _ e4)
  have lst2 : Ll ≠ st := ((o3.same (s1.trans s2)).off n4).1
  clear eLf3 eh3 el3 hls3 o3 e1 e2 e4 e5 e6 m1 k7 s67 s37 s36 s46 s1 s2 s4 s5 s6
  repeat' (walk_at "rd")
  rename_i l8 n8 G8 s8 e8 l9 n9 G9 s9 e9
  have hle : WVs H7 (ls.take k ++ ls.drop (k + 1)) ((ts.take k ++ ts.drop (k + 1)).map tr) := by
    rw [List.map_append, List.map_take, List.map_drop]
    exact (hls7.cut k).1.app (hls7.cut (k + 1)).2
  have sub : (ts.take k ++ ts.drop (k + 1)).Sublist ts := by
    rw [← List.eraseIdx_eq_take_drop_succ]
    exact List.eraseIdx_sublist ..
  have lo2 := lo.sub sub
  have lt2 := sub.length_le
  generalize ls.take k ++ ls.drop (k + 1) = le at *
  generalize ts.take k ++ ts.drop (k + 1) = t2 at *
  have s79 := s8.trans s9
  intro x2 dx2 nx2 nd2 ne2
  have m2 := made_same (o1 := .own x2) (o2 := .ins (D "Web") dx2 []) nx2 nd2
  refine ⟨x2, dx2, l8, l9, zs, t2, rfl, upd_same, m2 _ _ (s9 _ _ e8), ndz, nz, by omega, ⟨le, m2 _ _ e9, (hle.same s79).same m2⟩, lo2, by omega, fun H10 w2 k10 => ⟨rfl, ?_⟩⟩
  have s710 : Same H7 H10 := s79.trans (kx_same m2 nx2 k10)
  have eLf10 := s710 _ _ eLf7
  have eh10 := s710 _ _ eh7
  have el10 := s710 _ _ el7
  have hls10 := hls7.same s710
  have hle10 := hle.same s710
  have o10 := o7.same s710
  have eLl10 := s710 _ _ eLl7
  have w110 := w1.same s710
  clear eLf7 eh7 el7 hls7 hle o7 eLl7 w1 s710 m2 k10 s79 s8 s9 e8 e9
  repeat' (walk_at "rd")
  refine ⟨st, c, h, l, zs, ts, rfl, o10, hst, lst, eh10, by omega, nz, ⟨ls, el10, hls10⟩, by omega, fun A vs H11 ne lv nA g11 eA ask => ?_⟩
  have eLf11 := g11.keep _ _ fst eLf10
  have eh11 := g11.keep _ _ hst eh10
  have el11 := g11.keep _ _ lst el10
  have eLl11 := g11.keep _ _ lst2 eLl10
  have hls11 := wvs_go hls10 o10 g11
  have hle11 := wvs_go hle10 o10 g11
  have w111 := w110.go o10 g11
  have w211 := w2.go o10 g11
  clear eLf10 eh10 el10 hls10 hle10 o10 eLl10 w110 w2 g11
  obtain ⟨v0, ev0⟩ : ∃ v0, vs[0]? = some v0 := ⟨_, List.getElem?_eq_getElem (List.length_pos_iff.mpr ne)⟩
  repeat' (walk_at "rd")
  refine Rd.ixL (.inl (.inl eA)) (atI_nat ev0) ?_
  repeat' (walk_at "rd")
  rename_i l12 n12 G12 s12 e12
  refine Rd.cat (s12 _ _ eA) e12 (sz5 (by show vs.length + 1 ≤ 100000; omega)) ?_
  repeat' (walk_at "rd")
  rename_i l13 n13 G13 s13 e13
  have sB := s12.trans s13
  have askB : ∀ v ∈ vs ++ [v0], AskAt G13 v := fun v hv => by
    rcases List.mem_append.mp hv with hv | hv
    · exact (ask v hv).same sB
    · rw [List.mem_singleton.mp hv]
      exact (ask v0 (List.mem_of_getElem? ev0)).same sB
  have eLf13 := sB _ _ eLf11
  have eh13 := sB _ _ eh11
  have el13 := sB _ _ el11
  have eLl13 := sB _ _ eLl11
  have hls13 := hls11.same sB
  have hle13 := hle11.same sB
  have w113 := w111.same sB
  have w213 := w211.same sB
  clear eLf11 eh11 el11 eLl11 hls11 hle11 w111 w211 eA ask e12 s12 s13 sB
  refine forL (vs ++ [v0]) (fun i σ H' => ∃ v8 : Option V, σ = [some (.ref a), some (.ref st), some (.ref Lf), some (.int k), some (.ref Ll), some (.ref x1), some (.ref x2), some (.ref A), v8] ∧ Same G13 H')
    ⟨none, rfl, .refl _⟩ (fun _ _ _ _ ⟨_, _, s⟩ => .inl (.inl (s _ _ e13))) ?_ ?_
  · rintro i v σ H' hv ⟨v8, rfl, s'⟩
    obtain ⟨p, w', z1, z2, ws, rfl, ep, ew, tw, lw⟩ := (askB v (List.mem_of_getElem? hv)).same s'
    obtain ⟨us, lus, hus⟩ := wvs_tr tw
    have eLf := s' _ _ eLf13
    have wl1 : WL H' l (ts.map tr) := ⟨ls, s' _ _ el13, hls13.same s'⟩
    have wl2 : WL H' Ll (t2.map tr) := ⟨le, s' _ _ eLl13, hle13.same s'⟩
    have web1 := w113.same s'
    have web2 := w213.same s'
    have ehh := s' _ _ eh13
    repeat' (walk_at "rd")
    rename_i l1 n1 G1 s1 e1
    refine ⟨x1, h, l, l1, z1, z2, zs, ts, us, rfl, web1.same s1, by omega, lo, by omega, s1 _ _ ehh, wl1.same s1, ⟨ws, e1, hus.same s1⟩, by omega, fun H2 s2 => ?_⟩
    have s02 := s1.trans s2
    clear e1
    repeat' (walk_at "rd")
    rename_i l3 n3 G3 s3 e3
    have s03 := s02.trans s3
    refine ⟨x2, h, Ll, l3, z1, z2, zs, t2, us, rfl, web2.same s03, by omega, lo2, by omega, s03 _ _ ehh, wl2.same s03, ⟨ws, e3, hus.same s03⟩, by omega, fun H4 s4 => ?_⟩
    have s04 := s03.trans s4
    clear e3
    repeat' (walk_at "rd")
    rename_i l5 n5 G5 s5 e5
    have s05 := s04.trans s5
    refine ⟨x1, h, l, l5, z1, z2, zs, ts, us, rfl, web1.same s05, by omega, lo, by omega, s05 _ _ ehh, wl1.same s05, ⟨ws, e5, hus.same s05⟩, by omega, fun H6 s6 => ?_⟩
    repeat' (walk_at "rd")
    exact ⟨_, rfl, (s'.trans s05).trans s6⟩
  · rintro σ H' ⟨v8, rfl, s'⟩
    have eLf := s' _ _ eLf13
    have web1 := w113.same s'
    have ehh := s' _ _ eh13
    have wl1 : WL H' l (ts.map tr) := ⟨ls, s' _ _ el13, hls13.same s'⟩
    obtain ⟨dw, f1, f2, f3, ex1⟩ := web1.ins
    repeat' (walk_at "rd")
    refine ⟨x1, dw, _, rfl, ex1, x1, zs, ts, rfl, web1, by omega, fun L ys H2 pm sy nL s2 eL => ?_⟩
    have ehh2 := s2 _ _ ehh
    repeat' (walk_at "rd")
    refine ⟨h, zs, rfl, .inl (.inl ehh2), by omega, fun ys2 p pm2 sy2 np => ?_⟩
    obtain rfl : ys = ys2 := sorted_one (pm.trans pm2.symm) sy sy2
    have s3 := same_upd (o := .lst (ys.map V.str)) np
    have e3 : upd H2 p (.lst (ys.map V.str)) p = some (.lst (ys.map V.str)) := upd_same
    generalize upd H2 p (.lst (ys.map V.str)) = H3 at *
    have ly := pm.length_eq
    refine ⟨_, _, .list (ys.map PyData.str), 7, rfl, rfl, .lst (.inl (.inl (s3 _ _ eL))) (dvStrs ys), .lst (.inl (.inl e3)) (dvStrs ys), .lst (by rw [List.length_map]; omega) fdStrs, fun H4 s4 => ?_⟩
    have s04 := (s2.trans s3).trans s4
    have ex4 := s04 _ _ ex1
    repeat' (walk_at "rd")
    refine ⟨x1, dw, _, rfl, ex4, x1, zs, ts, rfl, web1.same s04, fun L2 ks H5 pk sk nL2 s5 wl5 => ?_⟩
    have s05 := s04.trans s5
    have eLf5 := s05 _ _ eLf
    repeat' (walk_at "rd")
    refine sortW (wl1.same s05) srt_tr fun js p5 G6 pj sj np5 s6 wl6 => ?_
    obtain rfl : ks = js := srtw_one (pk.trans pj.symm) sk sj
    have lk := pk.length_eq
    rw [List.length_map] at lk
    refine ⟨_, _, .list (ks.map wdat), 7, rfl, rfl, wl_dv (wl5.same s6), wl_dv wl6, (Fd.lst (n := 1) (by rw [List.length_map]; omega) fun d hd => ?_).mono (by decide), fun H7 _ => ?_⟩
    · obtain ⟨k', hk', rfl⟩ := List.mem_map.mp hd
      obtain ⟨u, _, rfl⟩ := List.mem_map.mp (pk.mem_iff.mp hk')
      exact .tup (show 3 ≤ 100000 by decide) fdStrs
    exact q H7
end
end Kj
namespace Kj
open PySem PySem.Spec PyProof.Rows L2 Rd
/-! ### the classes of errors -/
def dOf (names : List Str) (as : List Addr) (x : Str) : Addr := as.getD (names.idxOf x) 0
theorem dOf_mem : ∀ {names : List Str} {as : List Addr} {x : Str}, x ∈ names → names.length = as.length → (x, dOf names as x) ∈ names.zip as
  | [], _, _, h, _ => nomatch h
  | _ :: _, [], _, _, l => nomatch l
  | n :: ns, a :: as, x, h, l => by
    by_cases e : n = x
    · subst e
      have : dOf (n :: ns) (a :: as) n = a := by
        unfold dOf
        rw [List.idxOf_cons, beq_self_eq_true]
        rfl
      rw [this]
      exact List.mem_cons_self
    · have h' : x ∈ ns := (List.mem_cons.mp h).resolve_left fun z => e z.symm
      have : dOf (n :: ns) (a :: as) x = dOf ns as x := by
        unfold dOf
        rw [List.idxOf_cons, beq_eq_false_iff_ne.mpr e]
        rfl
      rw [this]
      exact List.mem_cons_of_mem _ (dOf_mem h' (Nat.succ.inj l))
theorem dOf_at {names : List Str} {as : List Addr} {x : Str} {a : Addr} (j : Nat) (h : names.idxOf x = j) (e : as[j]? = some a) : dOf names as x = a := by
  unfold dOf
  rw [h, List.getD_eq_getElem?_getD, e]
  rfl
theorem all_nil {α : Type} {Φ : α → Prop} : ∀ q ∈ ([] : List α), Φ q := fun _ h => nomatch h
theorem all_cons {α : Type} {Φ : α → Prop} {p : α} {l : List α} (h : Φ p) (t : ∀ q ∈ l, Φ q) : ∀ q ∈ p :: l, Φ q := fun q hq => (List.mem_cons.mp hq).elim (fun e => e ▸ h) (t q)
theorem isB {K : PySem.W.Frag} {C a : Addr} {x code : Str} {b : Bool} (h : PySem.W.kitOne K (.ref C) (.ref a) = some b) (e : decide (x = code) = b) : PySem.W.kitOne K (.ref C) (.ref a) = some (decide (x = code)) := by rw [e]; exact h
def clsInit (s : Stmt) : Stmt := match s with
  | .ClassDef _ _ _ body _ _ _ _ _ _ _ => body.getD 0 (.Pass ⟨0, 0, 0, 0⟩)
  | _ => .Pass ⟨0, 0, 0, 0⟩
section
variable {P : Program} {w : World} {K : PySem.W.Frag} {mg : Str → Option Value} {base : Heap}
theorem ost {K : PySem.W.Frag} {f : Str} {to te : TE} {D : Ends} {σ : L2.St} {H : Hp} (h : te σ H fun y H1 => to σ H1 fun x H2 => ∃ a C : Addr, x = .ref a ∧ OexC K C ∧ PySem.W.findIn K (.ref C) f = some none ∧
    ((H2 a = some (exo a C none) ∧ ∀ dx, H2 dx = none → dx ≠ a → D.nx σ (upd (upd H2 dx (exd dx [(f, y)])) a (exo a C (some dx)))) ∨
      ∃ (dx : Addr) (fs : List (Str × V)), H2 a = some (exo a C (some dx)) ∧ H2 dx = some (exd dx fs) ∧ fs.length ≤ 900 ∧ D.nx σ (upd H2 dx (exd dx ((f, y) :: fs))))) : tOst K f to te D σ H := h
/-- what the written part says of the class at C -/
structure ClsK (K : PySem.W.Frag) (C : Addr) (f : Str) : Prop where
  ox : OexC K C
  xf : XfC K C
  xk : Ho.XkC K C
  no1 : PySem.W.findIn K (.ref C) "code" = some none
  no2 : PySem.W.findIn K (.ref C) f = some none
theorem clsK {C : Addr} {f : Str} {nm q : Str} {N B : Addr} {bs : List Value} {sn : List Str} {sub : List Value} {ab : Bool} {col : Option Bool} {dd : Option Addr} {m0 m1 m2 m3 m5 : Option Value}
    (xL : K.lookup C = some (excClassObj nm q C N bs [.ref B, .type "ValueError", .type "Exception", .type "BaseException", .type "object"] true sn sub ab col dd m0 m1 m2 m3 m5 "ValueError.__new__"))
    (sa : PySem.W.findIn K (.ref C) "__setattr__" = some (some (.builtin "object.__setattr__"))) (ga : PySem.W.findIn K (.ref C) "__getattribute__" = some (some (.builtin "BaseException.__getattribute__"))) (gg : PySem.W.findIn K (.ref C) "__getattr__" = some none)
    (n1 : PySem.W.findIn K (.ref C) "code" = some none) (n2 : PySem.W.findIn K (.ref C) f = some none) (kC : PySem.W.keepIn K (.ref C) = true) (eC : PySem.W.subIn K (.ref C) (.type "BaseException") = some true) (tC : PySem.W.typeIn K (.ref C) = some (.type "type")) (hC : PySem.W.hasDictIn K C = true)
    (cl : PySem.W.isClsIn K C = true) (ca : PySem.W.findIn K (.ref C) "__class__" = some (some (.builtin "object.__class__"))) (ob : PySem.W.mroIn K C (.type "object") = some true) : ClsK K C f :=
  ⟨⟨⟨nm, q, N, bs, _, sn, sub, ab, col, dd, m0, m1, m2, m3, m5, xL, rfl⟩, sa, eC, tC, kC⟩, ⟨ga, gg, eC, hC⟩, ⟨cl, ca, ob⟩, n1, n2⟩
abbrev i_BadName : Stmt := clsInit (topS 3)
theorem sci_BadName : FnScope ["self", "word"] ["self", "word"] (defScope i_BadName) := ⟨rfl, rfl, rfl, by decide +kernel, rfl, by decide +kernel, by decide +kernel⟩
theorem bdi_BadName : ∀ (kV doc pm : Value) (an : Option Addr) (cdv ct : Value) (us : List Value), us.length = (["self", "word"] : List Str).length → bindArgs (PySem.W.fnOf "__init__" "BadName.__init__" (defArgs i_BadName) (defBody i_BadName) (defScope i_BadName) .none kV doc pm an cdv ct) ⟨us, []⟩ = pure ((["self", "word"] : List Str).zip us) := fun _ _ _ _ _ _ us hl => match us, hl with | [_, _], _ => rfl
theorem ok_init_BadName {C fI : Addr} {fd : FuncData} (F : Fun K "__init__" "BadName.__init__" i_BadName fI fd) : FnOk P w K mg base CX0 1 fI fd ["self", "word"] (Ho.spInit K C "BadName" "word") := by
  refine F.ok sci_BadName (fun vs H Q E h => ?_) (fun cdv A outer s H vs Q E hr h => ?_)
  · obtain ⟨a, y, rfl, _⟩ := h
    rfl
  obtain ⟨a, y, rfl, hH, ox, n1, n2, q⟩ := h
  refine ⟨_, pss_cons (ps_ost (pv 0) pe_str) (pss_one (ps_ost (pv 0) (pv 1))), ?_⟩
  refine Rd.at0 (σ := [some (.ref a), some y]) rfl ?_
  refine Rd.seq (ost ?_)
  refine ⟨_, rfl, a, C, rfl, ox, n1, .inl ⟨hH, fun dx nd ne => ?_⟩⟩
  dsimp only
  refine ost ?_
  refine ⟨_, rfl, _, rfl, a, C, rfl, ox, n2, .inr ⟨dx, _, upd_same, (upd_ne ne).trans upd_same, by decide, q dx nd ne⟩⟩
theorem err_BadName {C fI : Addr} {oc : Value} {od an : Option Addr} {osl : Array (Option Value)} {kV doc pm cdv ct : Value} (gC : mg "BadName" = some (.ref C)) (k : ClsK K C "word") (iC : PySem.W.findIn K (.ref C) "__init__" = some (some (.ref fI))) (tI : PySem.W.typeIn K (.ref fI) = some (.type "function"))
    (l : K.lookup fI = some ⟨oc, od, .func (PySem.W.fnOf "__init__" "BadName.__init__" (defArgs i_BadName) (defBody i_BadName) (defScope i_BadName) .none kV doc pm an cdv ct), osl⟩) (c : PySem.W.codeIn K cdv "BadName.__init__" = true) (kI : PySem.W.keepIn K (.ref fI) = true) : ∀ base : Heap, Ho.ErrC P w K mg base "BadName" C "word" := fun base =>
  ⟨gC, k.ox, k.xf, k.no1, k.no2, fI, _, iC, tI, ok_init_BadName (fun_mk l c kI), (fun_mk l c kI).binds bdi_BadName⟩
abbrev i_NoHouse : Stmt := clsInit (topS 4)
theorem sci_NoHouse : FnScope ["self", "word"] ["self", "word"] (defScope i_NoHouse) := ⟨rfl, rfl, rfl, by decide +kernel, rfl, by decide +kernel, by decide +kernel⟩
theorem bdi_NoHouse : ∀ (kV doc pm : Value) (an : Option Addr) (cdv ct : Value) (us : List Value), us.length = (["self", "word"] : List Str).length → bindArgs (PySem.W.fnOf "__init__" "NoHouse.__init__" (defArgs i_NoHouse) (defBody i_NoHouse) (defScope i_NoHouse) .none kV doc pm an cdv ct) ⟨us, []⟩ = pure ((["self", "word"] : List Str).zip us) := fun _ _ _ _ _ _ us hl => match us, hl with | [_, _], _ => rfl
theorem ok_init_NoHouse {C fI : Addr} {fd : FuncData} (F : Fun K "__init__" "NoHouse.__init__" i_NoHouse fI fd) : FnOk P w K mg base CX0 1 fI fd ["self", "word"] (Ho.spInit K C "NoHouse" "word") := by
  refine F.ok sci_NoHouse (fun vs H Q E h => ?_) (fun cdv A outer s H vs Q E hr h => ?_)
  · obtain ⟨a, y, rfl, _⟩ := h
    rfl
  obtain ⟨a, y, rfl, hH, ox, n1, n2, q⟩ := h
  refine ⟨_, pss_cons (ps_ost (pv 0) pe_str) (pss_one (ps_ost (pv 0) (pv 1))), ?_⟩
  refine Rd.at0 (σ := [some (.ref a), some y]) rfl ?_
  refine Rd.seq (ost ?_)
  refine ⟨_, rfl, a, C, rfl, ox, n1, .inl ⟨hH, fun dx nd ne => ?_⟩⟩
  dsimp only
  refine ost ?_
  refine ⟨_, rfl, _, rfl, a, C, rfl, ox, n2, .inr ⟨dx, _, upd_same, (upd_ne ne).trans upd_same, by decide, q dx nd ne⟩⟩
theorem err_NoHouse {C fI : Addr} {oc : Value} {od an : Option Addr} {osl : Array (Option Value)} {kV doc pm cdv ct : Value} (gC : mg "NoHouse" = some (.ref C)) (k : ClsK K C "word") (iC : PySem.W.findIn K (.ref C) "__init__" = some (some (.ref fI))) (tI : PySem.W.typeIn K (.ref fI) = some (.type "function"))
    (l : K.lookup fI = some ⟨oc, od, .func (PySem.W.fnOf "__init__" "NoHouse.__init__" (defArgs i_NoHouse) (defBody i_NoHouse) (defScope i_NoHouse) .none kV doc pm an cdv ct), osl⟩) (c : PySem.W.codeIn K cdv "NoHouse.__init__" = true) (kI : PySem.W.keepIn K (.ref fI) = true) : ∀ base : Heap, Ho.ErrC P w K mg base "NoHouse" C "word" := fun base =>
  ⟨gC, k.ox, k.xf, k.no1, k.no2, fI, _, iC, tI, ok_init_NoHouse (fun_mk l c kI), (fun_mk l c kI).binds bdi_NoHouse⟩
abbrev i_NoLine : Stmt := clsInit (topS 5)
theorem sci_NoLine : FnScope ["self", "word"] ["self", "word"] (defScope i_NoLine) := ⟨rfl, rfl, rfl, by decide +kernel, rfl, by decide +kernel, by decide +kernel⟩
theorem bdi_NoLine : ∀ (kV doc pm : Value) (an : Option Addr) (cdv ct : Value) (us : List Value), us.length = (["self", "word"] : List Str).length → bindArgs (PySem.W.fnOf "__init__" "NoLine.__init__" (defArgs i_NoLine) (defBody i_NoLine) (defScope i_NoLine) .none kV doc pm an cdv ct) ⟨us, []⟩ = pure ((["self", "word"] : List Str).zip us) := fun _ _ _ _ _ _ us hl => match us, hl with | [_, _], _ => rfl
theorem ok_init_NoLine {C fI : Addr} {fd : FuncData} (F : Fun K "__init__" "NoLine.__init__" i_NoLine fI fd) : FnOk P w K mg base CX0 1 fI fd ["self", "word"] (Ho.spInit K C "NoLine" "word") := by
  refine F.ok sci_NoLine (fun vs H Q E h => ?_) (fun cdv A outer s H vs Q E hr h => ?_)
  · obtain ⟨a, y, rfl, _⟩ := h
    rfl
  obtain ⟨a, y, rfl, hH, ox, n1, n2, q⟩ := h
  refine ⟨_, pss_cons (ps_ost (pv 0) pe_str) (pss_one (ps_ost (pv 0) (pv 1))), ?_⟩
  refine Rd.at0 (σ := [some (.ref a), some y]) rfl ?_
  refine Rd.seq (ost ?_)
  refine ⟨_, rfl, a, C, rfl, ox, n1, .inl ⟨hH, fun dx nd ne => ?_⟩⟩
  dsimp only
  refine ost ?_
  refine ⟨_, rfl, _, rfl, a, C, rfl, ox, n2, .inr ⟨dx, _, upd_same, (upd_ne ne).trans upd_same, by decide, q dx nd ne⟩⟩
theorem err_NoLine {C fI : Addr} {oc : Value} {od an : Option Addr} {osl : Array (Option Value)} {kV doc pm cdv ct : Value} (gC : mg "NoLine" = some (.ref C)) (k : ClsK K C "word") (iC : PySem.W.findIn K (.ref C) "__init__" = some (some (.ref fI))) (tI : PySem.W.typeIn K (.ref fI) = some (.type "function"))
    (l : K.lookup fI = some ⟨oc, od, .func (PySem.W.fnOf "__init__" "NoLine.__init__" (defArgs i_NoLine) (defBody i_NoLine) (defScope i_NoLine) .none kV doc pm an cdv ct), osl⟩) (c : PySem.W.codeIn K cdv "NoLine.__init__" = true) (kI : PySem.W.keepIn K (.ref fI) = true) : ∀ base : Heap, Ho.ErrC P w K mg base "NoLine" C "word" := fun base =>
  ⟨gC, k.ox, k.xf, k.no1, k.no2, fI, _, iC, tI, ok_init_NoLine (fun_mk l c kI), (fun_mk l c kI).binds bdi_NoLine⟩
abbrev i_SelfLine : Stmt := clsInit (topS 6)
theorem sci_SelfLine : FnScope ["self", "word"] ["self", "word"] (defScope i_SelfLine) := ⟨rfl, rfl, rfl, by decide +kernel, rfl, by decide +kernel, by decide +kernel⟩
theorem bdi_SelfLine : ∀ (kV doc pm : Value) (an : Option Addr) (cdv ct : Value) (us : List Value), us.length = (["self", "word"] : List Str).length → bindArgs (PySem.W.fnOf "__init__" "SelfLine.__init__" (defArgs i_SelfLine) (defBody i_SelfLine) (defScope i_SelfLine) .none kV doc pm an cdv ct) ⟨us, []⟩ = pure ((["self", "word"] : List Str).zip us) := fun _ _ _ _ _ _ us hl => match us, hl with | [_, _], _ => rfl
theorem ok_init_SelfLine {C fI : Addr} {fd : FuncData} (F : Fun K "__init__" "SelfLine.__init__" i_SelfLine fI fd) : FnOk P w K mg base CX0 1 fI fd ["self", "word"] (Ho.spInit K C "SelfLine" "word") := by
  refine F.ok sci_SelfLine (fun vs H Q E h => ?_) (fun cdv A outer s H vs Q E hr h => ?_)
  · obtain ⟨a, y, rfl, _⟩ := h
    rfl
  obtain ⟨a, y, rfl, hH, ox, n1, n2, q⟩ := h
  refine ⟨_, pss_cons (ps_ost (pv 0) pe_str) (pss_one (ps_ost (pv 0) (pv 1))), ?_⟩
  refine Rd.at0 (σ := [some (.ref a), some y]) rfl ?_
  refine Rd.seq (ost ?_)
  refine ⟨_, rfl, a, C, rfl, ox, n1, .inl ⟨hH, fun dx nd ne => ?_⟩⟩
  dsimp only
  refine ost ?_
  refine ⟨_, rfl, _, rfl, a, C, rfl, ox, n2, .inr ⟨dx, _, upd_same, (upd_ne ne).trans upd_same, by decide, q dx nd ne⟩⟩
theorem err_SelfLine {C fI : Addr} {oc : Value} {od an : Option Addr} {osl : Array (Option Value)} {kV doc pm cdv ct : Value} (gC : mg "SelfLine" = some (.ref C)) (k : ClsK K C "word") (iC : PySem.W.findIn K (.ref C) "__init__" = some (some (.ref fI))) (tI : PySem.W.typeIn K (.ref fI) = some (.type "function"))
    (l : K.lookup fI = some ⟨oc, od, .func (PySem.W.fnOf "__init__" "SelfLine.__init__" (defArgs i_SelfLine) (defBody i_SelfLine) (defScope i_SelfLine) .none kV doc pm an cdv ct), osl⟩) (c : PySem.W.codeIn K cdv "SelfLine.__init__" = true) (kI : PySem.W.keepIn K (.ref fI) = true) : ∀ base : Heap, Ho.ErrC P w K mg base "SelfLine" C "word" := fun base =>
  ⟨gC, k.ox, k.xf, k.no1, k.no2, fI, _, iC, tI, ok_init_SelfLine (fun_mk l c kI), (fun_mk l c kI).binds bdi_SelfLine⟩
abbrev i_Taken : Stmt := clsInit (topS 7)
theorem sci_Taken : FnScope ["self", "word"] ["self", "word"] (defScope i_Taken) := ⟨rfl, rfl, rfl, by decide +kernel, rfl, by decide +kernel, by decide +kernel⟩
theorem bdi_Taken : ∀ (kV doc pm : Value) (an : Option Addr) (cdv ct : Value) (us : List Value), us.length = (["self", "word"] : List Str).length → bindArgs (PySem.W.fnOf "__init__" "Taken.__init__" (defArgs i_Taken) (defBody i_Taken) (defScope i_Taken) .none kV doc pm an cdv ct) ⟨us, []⟩ = pure ((["self", "word"] : List Str).zip us) := fun _ _ _ _ _ _ us hl => match us, hl with | [_, _], _ => rfl
theorem ok_init_Taken {C fI : Addr} {fd : FuncData} (F : Fun K "__init__" "Taken.__init__" i_Taken fI fd) : FnOk P w K mg base CX0 1 fI fd ["self", "word"] (Ho.spInit K C "Taken" "word") := by
  refine F.ok sci_Taken (fun vs H Q E h => ?_) (fun cdv A outer s H vs Q E hr h => ?_)
  · obtain ⟨a, y, rfl, _⟩ := h
    rfl
  obtain ⟨a, y, rfl, hH, ox, n1, n2, q⟩ := h
  refine ⟨_, pss_cons (ps_ost (pv 0) pe_str) (pss_one (ps_ost (pv 0) (pv 1))), ?_⟩
  refine Rd.at0 (σ := [some (.ref a), some y]) rfl ?_
  refine Rd.seq (ost ?_)
  refine ⟨_, rfl, a, C, rfl, ox, n1, .inl ⟨hH, fun dx nd ne => ?_⟩⟩
  dsimp only
  refine ost ?_
  refine ⟨_, rfl, _, rfl, a, C, rfl, ox, n2, .inr ⟨dx, _, upd_same, (upd_ne ne).trans upd_same, by decide, q dx nd ne⟩⟩
theorem err_Taken {C fI : Addr} {oc : Value} {od an : Option Addr} {osl : Array (Option Value)} {kV doc pm cdv ct : Value} (gC : mg "Taken" = some (.ref C)) (k : ClsK K C "word") (iC : PySem.W.findIn K (.ref C) "__init__" = some (some (.ref fI))) (tI : PySem.W.typeIn K (.ref fI) = some (.type "function"))
    (l : K.lookup fI = some ⟨oc, od, .func (PySem.W.fnOf "__init__" "Taken.__init__" (defArgs i_Taken) (defBody i_Taken) (defScope i_Taken) .none kV doc pm an cdv ct), osl⟩) (c : PySem.W.codeIn K cdv "Taken.__init__" = true) (kI : PySem.W.keepIn K (.ref fI) = true) : ∀ base : Heap, Ho.ErrC P w K mg base "Taken" C "word" := fun base =>
  ⟨gC, k.ox, k.xf, k.no1, k.no2, fI, _, iC, tI, ok_init_Taken (fun_mk l c kI), (fun_mk l c kI).binds bdi_Taken⟩
abbrev i_TooMany : Stmt := clsInit (topS 8)
theorem sci_TooMany : FnScope ["self", "bound"] ["self", "bound"] (defScope i_TooMany) := ⟨rfl, rfl, rfl, by decide +kernel, rfl, by decide +kernel, by decide +kernel⟩
theorem bdi_TooMany : ∀ (kV doc pm : Value) (an : Option Addr) (cdv ct : Value) (us : List Value), us.length = (["self", "bound"] : List Str).length → bindArgs (PySem.W.fnOf "__init__" "TooMany.__init__" (defArgs i_TooMany) (defBody i_TooMany) (defScope i_TooMany) .none kV doc pm an cdv ct) ⟨us, []⟩ = pure ((["self", "bound"] : List Str).zip us) := fun _ _ _ _ _ _ us hl => match us, hl with | [_, _], _ => rfl
theorem ok_init_TooMany {C fI : Addr} {fd : FuncData} (F : Fun K "__init__" "TooMany.__init__" i_TooMany fI fd) : FnOk P w K mg base CX0 1 fI fd ["self", "bound"] (Ho.spInit K C "TooMany" "bound") := by
  refine F.ok sci_TooMany (fun vs H Q E h => ?_) (fun cdv A outer s H vs Q E hr h => ?_)
  · obtain ⟨a, y, rfl, _⟩ := h
    rfl
  obtain ⟨a, y, rfl, hH, ox, n1, n2, q⟩ := h
  refine ⟨_, pss_cons (ps_ost (pv 0) pe_str) (pss_one (ps_ost (pv 0) (pv 1))), ?_⟩
  refine Rd.at0 (σ := [some (.ref a), some y]) rfl ?_
  refine Rd.seq (ost ?_)
  refine ⟨_, rfl, a, C, rfl, ox, n1, .inl ⟨hH, fun dx nd ne => ?_⟩⟩
  dsimp only
  refine ost ?_
  refine ⟨_, rfl, _, rfl, a, C, rfl, ox, n2, .inr ⟨dx, _, upd_same, (upd_ne ne).trans upd_same, by decide, q dx nd ne⟩⟩
theorem err_TooMany {C fI : Addr} {oc : Value} {od an : Option Addr} {osl : Array (Option Value)} {kV doc pm cdv ct : Value} (gC : mg "TooMany" = some (.ref C)) (k : ClsK K C "bound") (iC : PySem.W.findIn K (.ref C) "__init__" = some (some (.ref fI))) (tI : PySem.W.typeIn K (.ref fI) = some (.type "function"))
    (l : K.lookup fI = some ⟨oc, od, .func (PySem.W.fnOf "__init__" "TooMany.__init__" (defArgs i_TooMany) (defBody i_TooMany) (defScope i_TooMany) .none kV doc pm an cdv ct), osl⟩) (c : PySem.W.codeIn K cdv "TooMany.__init__" = true) (kI : PySem.W.keepIn K (.ref fI) = true) : ∀ base : Heap, Ho.ErrC P w K mg base "TooMany" C "bound" := fun base =>
  ⟨gC, k.ox, k.xf, k.no1, k.no2, fI, _, iC, tI, ok_init_TooMany (fun_mk l c kI), (fun_mk l c kI).binds bdi_TooMany⟩
end
/-! ### the top -/
theorem bd__wall : ∀ (kV doc pm : Value) (an : Option Addr) (cdv ct : Value) (us : List Value), us.length = P__wall.length → bindArgs (PySem.W.fnOf "_wall" "_wall" (defArgs s__wall) (defBody s__wall) (defScope s__wall) .none kV doc pm an cdv ct) ⟨us, []⟩ = pure (P__wall.zip us) := fun _ _ _ _ _ _ us hl => match us, hl with | [_], _ => rfl
theorem bd_is_name : ∀ (kV doc pm : Value) (an : Option Addr) (cdv ct : Value) (us : List Value), us.length = P_is_name.length → bindArgs (PySem.W.fnOf "is_name" "is_name" (defArgs s_is_name) (defBody s_is_name) (defScope s_is_name) .none kV doc pm an cdv ct) ⟨us, []⟩ = pure (P_is_name.zip us) := fun _ _ _ _ _ _ us hl => match us, hl with | [_], _ => rfl
theorem bd_check_name : ∀ (kV doc pm : Value) (an : Option Addr) (cdv ct : Value) (us : List Value), us.length = P_check_name.length → bindArgs (PySem.W.fnOf "check_name" "check_name" (defArgs s_check_name) (defBody s_check_name) (defScope s_check_name) .none kV doc pm an cdv ct) ⟨us, []⟩ = pure (P_check_name.zip us) := fun _ _ _ _ _ _ us hl => match us, hl with | [_], _ => rfl
theorem bd_check_houses : ∀ (kV doc pm : Value) (an : Option Addr) (cdv ct : Value) (us : List Value), us.length = P_check_houses.length → bindArgs (PySem.W.fnOf "check_houses" "check_houses" (defArgs s_check_houses) (defBody s_check_houses) (defScope s_check_houses) .none kV doc pm an cdv ct) ⟨us, []⟩ = pure (P_check_houses.zip us) := fun _ _ _ _ _ _ us hl => match us, hl with | [_], _ => rfl
theorem bd_ordered : ∀ (kV doc pm : Value) (an : Option Addr) (cdv ct : Value) (us : List Value), us.length = P_ordered.length → bindArgs (PySem.W.fnOf "ordered" "ordered" (defArgs s_ordered) (defBody s_ordered) (defScope s_ordered) .none kV doc pm an cdv ct) ⟨us, []⟩ = pure (P_ordered.zip us) := fun _ _ _ _ _ _ us hl => match us, hl with | [_, _], _ => rfl
theorem bd_check_names : ∀ (kV doc pm : Value) (an : Option Addr) (cdv ct : Value) (us : List Value), us.length = P_check_names.length → bindArgs (PySem.W.fnOf "check_names" "check_names" (defArgs s_check_names) (defBody s_check_names) (defScope s_check_names) .none kV doc pm an cdv ct) ⟨us, []⟩ = pure (P_check_names.zip us) := fun _ _ _ _ _ _ us hl => match us, hl with | [_], _ => rfl
theorem bd_check_stand : ∀ (kV doc pm : Value) (an : Option Addr) (cdv ct : Value) (us : List Value), us.length = P_check_stand.length → bindArgs (PySem.W.fnOf "check_stand" "check_stand" (defArgs s_check_stand) (defBody s_check_stand) (defScope s_check_stand) .none kV doc pm an cdv ct) ⟨us, []⟩ = pure (P_check_stand.zip us) := fun _ _ _ _ _ _ us hl => match us, hl with | [_, _], _ => rfl
theorem bd_check_line : ∀ (kV doc pm : Value) (an : Option Addr) (cdv ct : Value) (us : List Value), us.length = P_check_line.length → bindArgs (PySem.W.fnOf "check_line" "check_line" (defArgs s_check_line) (defBody s_check_line) (defScope s_check_line) .none kV doc pm an cdv ct) ⟨us, []⟩ = pure (P_check_line.zip us) := fun _ _ _ _ _ _ us hl => match us, hl with | [_, _, _, _], _ => rfl
theorem bd_check_new_line : ∀ (kV doc pm : Value) (an : Option Addr) (cdv ct : Value) (us : List Value), us.length = P_check_new_line.length → bindArgs (PySem.W.fnOf "check_new_line" "check_new_line" (defArgs s_check_new_line) (defBody s_check_new_line) (defScope s_check_new_line) .none kV doc pm an cdv ct) ⟨us, []⟩ = pure (P_check_new_line.zip us) := fun _ _ _ _ _ _ us hl => match us, hl with | [_, _, _, _, _], _ => rfl
theorem bd_check_line_stands : ∀ (kV doc pm : Value) (an : Option Addr) (cdv ct : Value) (us : List Value), us.length = P_check_line_stands.length → bindArgs (PySem.W.fnOf "check_line_stands" "check_line_stands" (defArgs s_check_line_stands) (defBody s_check_line_stands) (defScope s_check_line_stands) .none kV doc pm an cdv ct) ⟨us, []⟩ = pure (P_check_line_stands.zip us) := fun _ _ _ _ _ _ us hl => match us, hl with | [_, _], _ => rfl
theorem bd_is_way : ∀ (kV doc pm : Value) (an : Option Addr) (cdv ct : Value) (us : List Value), us.length = P_is_way.length → bindArgs (PySem.W.fnOf "is_way" "is_way" (defArgs s_is_way) (defBody s_is_way) (defScope s_is_way) .none kV doc pm an cdv ct) ⟨us, []⟩ = pure (P_is_way.zip us) := fun _ _ _ _ _ _ us hl => match us, hl with | [_, _, _, _], _ => rfl
theorem bd__law_store : ∀ (kV doc pm : Value) (an : Option Addr) (cdv ct : Value) (us : List Value), us.length = P__law_store.length → bindArgs (PySem.W.fnOf "_law_store" "_law_store" (defArgs s__law_store) (defBody s__law_store) (defScope s__law_store) .none kV doc pm an cdv ct) ⟨us, []⟩ = pure (P__law_store.zip us) := fun _ _ _ _ _ _ us hl => match us, hl with | [_], _ => rfl
theorem bd__law_take : ∀ (kV doc pm : Value) (an : Option Addr) (cdv ct : Value) (us : List Value), us.length = P__law_take.length → bindArgs (PySem.W.fnOf "_law_take" "_law_take" (defArgs s__law_take) (defBody s__law_take) (defScope s__law_take) .none kV doc pm an cdv ct) ⟨us, []⟩ = pure (P__law_take.zip us) := fun _ _ _ _ _ _ us hl => match us, hl with | [_, _], _ => rfl
theorem bd__law_between : ∀ (kV doc pm : Value) (an : Option Addr) (cdv ct : Value) (us : List Value), us.length = P__law_between.length → bindArgs (PySem.W.fnOf "_law_between" "_law_between" (defArgs s__law_between) (defBody s__law_between) (defScope s__law_between) .none kV doc pm an cdv ct) ⟨us, []⟩ = pure (P__law_between.zip us) := fun _ _ _ _ _ _ us hl => match us, hl with | [_, _, _], _ => rfl
theorem bd__law_pick : ∀ (kV doc pm : Value) (an : Option Addr) (cdv ct : Value) (us : List Value), us.length = P__law_pick.length → bindArgs (PySem.W.fnOf "_law_pick" "_law_pick" (defArgs s__law_pick) (defBody s__law_pick) (defScope s__law_pick) .none kV doc pm an cdv ct) ⟨us, []⟩ = pure (P__law_pick.zip us) := fun _ _ _ _ _ _ us hl => match us, hl with | [_, _], _ => rfl
theorem bd__law_shuffled : ∀ (kV doc pm : Value) (an : Option Addr) (cdv ct : Value) (us : List Value), us.length = P__law_shuffled.length → bindArgs (PySem.W.fnOf "_law_shuffled" "_law_shuffled" (defArgs s__law_shuffled) (defBody s__law_shuffled) (defScope s__law_shuffled) .none kV doc pm an cdv ct) ⟨us, []⟩ = pure (P__law_shuffled.zip us) := fun _ _ _ _ _ _ us hl => match us, hl with | [_, _], _ => rfl
theorem bd__law_bent_list : ∀ (kV doc pm : Value) (an : Option Addr) (cdv ct : Value) (us : List Value), us.length = P__law_bent_list.length → bindArgs (PySem.W.fnOf "_law_bent_list" "_law_bent_list" (defArgs s__law_bent_list) (defBody s__law_bent_list) (defScope s__law_bent_list) .none kV doc pm an cdv ct) ⟨us, []⟩ = pure (P__law_bent_list.zip us) := fun _ _ _ _ _ _ us hl => match us, hl with | [_, _, _], _ => rfl
theorem bd__law_is_integer : ∀ (kV doc pm : Value) (an : Option Addr) (cdv ct : Value) (us : List Value), us.length = P__law_is_integer.length → bindArgs (PySem.W.fnOf "_law_is_integer" "_law_is_integer" (defArgs s__law_is_integer) (defBody s__law_is_integer) (defScope s__law_is_integer) .none kV doc pm an cdv ct) ⟨us, []⟩ = pure (P__law_is_integer.zip us) := fun _ _ _ _ _ _ us hl => match us, hl with | [_], _ => rfl
theorem bd__law_same : ∀ (kV doc pm : Value) (an : Option Addr) (cdv ct : Value) (us : List Value), us.length = P__law_same.length → bindArgs (PySem.W.fnOf "_law_same" "_law_same" (defArgs s__law_same) (defBody s__law_same) (defScope s__law_same) .none kV doc pm an cdv ct) ⟨us, []⟩ = pure (P__law_same.zip us) := fun _ _ _ _ _ _ us hl => match us, hl with | [_, _], _ => rfl
theorem bd__law_frozen : ∀ (kV doc pm : Value) (an : Option Addr) (cdv ct : Value) (us : List Value), us.length = P__law_frozen.length → bindArgs (PySem.W.fnOf "_law_frozen" "_law_frozen" (defArgs s__law_frozen) (defBody s__law_frozen) (defScope s__law_frozen) .none kV doc pm an cdv ct) ⟨us, []⟩ = pure (P__law_frozen.zip us) := fun _ _ _ _ _ _ us hl => match us, hl with | [_], _ => rfl
theorem bd__law_name : ∀ (kV doc pm : Value) (an : Option Addr) (cdv ct : Value) (us : List Value), us.length = P__law_name.length → bindArgs (PySem.W.fnOf "_law_name" "_law_name" (defArgs s__law_name) (defBody s__law_name) (defScope s__law_name) .none kV doc pm an cdv ct) ⟨us, []⟩ = pure (P__law_name.zip us) := fun _ _ _ _ _ _ us hl => match us, hl with | [_], _ => rfl
theorem bd__law_names : ∀ (kV doc pm : Value) (an : Option Addr) (cdv ct : Value) (us : List Value), us.length = P__law_names.length → bindArgs (PySem.W.fnOf "_law_names" "_law_names" (defArgs s__law_names) (defBody s__law_names) (defScope s__law_names) .none kV doc pm an cdv ct) ⟨us, []⟩ = pure (P__law_names.zip us) := fun _ _ _ _ _ _ us hl => match us, hl with | [_, _], _ => rfl
theorem bd__law_bad_word : ∀ (kV doc pm : Value) (an : Option Addr) (cdv ct : Value) (us : List Value), us.length = P__law_bad_word.length → bindArgs (PySem.W.fnOf "_law_bad_word" "_law_bad_word" (defArgs s__law_bad_word) (defBody s__law_bad_word) (defScope s__law_bad_word) .none kV doc pm an cdv ct) ⟨us, []⟩ = pure (P__law_bad_word.zip us) := fun _ _ _ _ _ _ us hl => match us, hl with | [_], _ => rfl
theorem bd__law_houses : ∀ (kV doc pm : Value) (an : Option Addr) (cdv ct : Value) (us : List Value), us.length = P__law_houses.length → bindArgs (PySem.W.fnOf "_law_houses" "_law_houses" (defArgs s__law_houses) (defBody s__law_houses) (defScope s__law_houses) .none kV doc pm an cdv ct) ⟨us, []⟩ = pure (P__law_houses.zip us) := fun _ _ _ _ _ _ us hl => match us, hl with | [_, _], _ => rfl
theorem bd__law_pair : ∀ (kV doc pm : Value) (an : Option Addr) (cdv ct : Value) (us : List Value), us.length = P__law_pair.length → bindArgs (PySem.W.fnOf "_law_pair" "_law_pair" (defArgs s__law_pair) (defBody s__law_pair) (defScope s__law_pair) .none kV doc pm an cdv ct) ⟨us, []⟩ = pure (P__law_pair.zip us) := fun _ _ _ _ _ _ us hl => match us, hl with | [_, _, _, _], _ => rfl
theorem bd__law_line_names : ∀ (kV doc pm : Value) (an : Option Addr) (cdv ct : Value) (us : List Value), us.length = P__law_line_names.length → bindArgs (PySem.W.fnOf "_law_line_names" "_law_line_names" (defArgs s__law_line_names) (defBody s__law_line_names) (defScope s__law_line_names) .none kV doc pm an cdv ct) ⟨us, []⟩ = pure (P__law_line_names.zip us) := fun _ _ _ _ _ _ us hl => match us, hl with | [_, _, _], _ => rfl
theorem bd__law_lines : ∀ (kV doc pm : Value) (an : Option Addr) (cdv ct : Value) (us : List Value), us.length = P__law_lines.length → bindArgs (PySem.W.fnOf "_law_lines" "_law_lines" (defArgs s__law_lines) (defBody s__law_lines) (defScope s__law_lines) .none kV doc pm an cdv ct) ⟨us, []⟩ = pure (P__law_lines.zip us) := fun _ _ _ _ _ _ us hl => match us, hl with | [_, _, _], _ => rfl
theorem bd__law_web : ∀ (kV doc pm : Value) (an : Option Addr) (cdv ct : Value) (us : List Value), us.length = P__law_web.length → bindArgs (PySem.W.fnOf "_law_web" "_law_web" (defArgs s__law_web) (defBody s__law_web) (defScope s__law_web) .none kV doc pm an cdv ct) ⟨us, []⟩ = pure (P__law_web.zip us) := fun _ _ _ _ _ _ us hl => match us, hl with | [_, _], _ => rfl
theorem bd__law_is_way : ∀ (kV doc pm : Value) (an : Option Addr) (cdv ct : Value) (us : List Value), us.length = P__law_is_way.length → bindArgs (PySem.W.fnOf "_law_is_way" "_law_is_way" (defArgs s__law_is_way) (defBody s__law_is_way) (defScope s__law_is_way) .none kV doc pm an cdv ct) ⟨us, []⟩ = pure (P__law_is_way.zip us) := fun _ _ _ _ _ _ us hl => match us, hl with | [_, _, _, _, _], _ => rfl
theorem bd__law_is_words : ∀ (kV doc pm : Value) (an : Option Addr) (cdv ct : Value) (us : List Value), us.length = P__law_is_words.length → bindArgs (PySem.W.fnOf "_law_is_words" "_law_is_words" (defArgs s__law_is_words) (defBody s__law_is_words) (defScope s__law_is_words) .none kV doc pm an cdv ct) ⟨us, []⟩ = pure (P__law_is_words.zip us) := fun _ _ _ _ _ _ us hl => match us, hl with | [_], _ => rfl
theorem bd__law_is_steps : ∀ (kV doc pm : Value) (an : Option Addr) (cdv ct : Value) (us : List Value), us.length = P__law_is_steps.length → bindArgs (PySem.W.fnOf "_law_is_steps" "_law_is_steps" (defArgs s__law_is_steps) (defBody s__law_is_steps) (defScope s__law_is_steps) .none kV doc pm an cdv ct) ⟨us, []⟩ = pure (P__law_is_steps.zip us) := fun _ _ _ _ _ _ us hl => match us, hl with | [_], _ => rfl
theorem bd__law_walk : ∀ (kV doc pm : Value) (an : Option Addr) (cdv ct : Value) (us : List Value), us.length = P__law_walk.length → bindArgs (PySem.W.fnOf "_law_walk" "_law_walk" (defArgs s__law_walk) (defBody s__law_walk) (defScope s__law_walk) .none kV doc pm an cdv ct) ⟨us, []⟩ = pure (P__law_walk.zip us) := fun _ _ _ _ _ _ us hl => match us, hl with | [_, _, _, _, _], _ => rfl
theorem bd__law_bent_way : ∀ (kV doc pm : Value) (an : Option Addr) (cdv ct : Value) (us : List Value), us.length = P__law_bent_way.length → bindArgs (PySem.W.fnOf "_law_bent_way" "_law_bent_way" (defArgs s__law_bent_way) (defBody s__law_bent_way) (defScope s__law_bent_way) .none kV doc pm an cdv ct) ⟨us, []⟩ = pure (P__law_bent_way.zip us) := fun _ _ _ _ _ _ us hl => match us, hl with | [_, _, _, _], _ => rfl
theorem bd__law_judged_right : ∀ (kV doc pm : Value) (an : Option Addr) (cdv ct : Value) (us : List Value), us.length = P__law_judged_right.length → bindArgs (PySem.W.fnOf "_law_judged_right" "_law_judged_right" (defArgs s__law_judged_right) (defBody s__law_judged_right) (defScope s__law_judged_right) .none kV doc pm an cdv ct) ⟨us, []⟩ = pure (P__law_judged_right.zip us) := fun _ _ _ _ _ _ us hl => match us, hl with | [_, _, _, _, _, _], _ => rfl
theorem bd__law_word : ∀ (kV doc pm : Value) (an : Option Addr) (cdv ct : Value) (us : List Value), us.length = P__law_word.length → bindArgs (PySem.W.fnOf "_law_word" "_law_word" (defArgs s__law_word) (defBody s__law_word) (defScope s__law_word) .none kV doc pm an cdv ct) ⟨us, []⟩ = pure (P__law_word.zip us) := fun _ _ _ _ _ _ us hl => match us, hl with | [_, _], _ => rfl
theorem bd__law_asks : ∀ (kV doc pm : Value) (an : Option Addr) (cdv ct : Value) (us : List Value), us.length = P__law_asks.length → bindArgs (PySem.W.fnOf "_law_asks" "_law_asks" (defArgs s__law_asks) (defBody s__law_asks) (defScope s__law_asks) .none kV doc pm an cdv ct) ⟨us, []⟩ = pure (P__law_asks.zip us) := fun _ _ _ _ _ _ us hl => match us, hl with | [_, _, _], _ => rfl
theorem bd_law : ∀ (kV doc pm : Value) (an : Option Addr) (cdv ct : Value) (us : List Value), us.length = P_law.length → bindArgs (PySem.W.fnOf "law" "law" (defArgs s_law) (defBody s_law) (defScope s_law) .none kV doc pm an cdv ct) ⟨us, []⟩ = pure (P_law.zip us) := fun _ _ _ _ _ _ us hl => match us, hl with | [_], _ => rfl
theorem bd_Web_init : ∀ (T : Addr) (kV doc pm : Value) (an : Option Addr) (cdv ct : Value) (us its : List Value), us.length = P_Web_init.length → its.length = 2 → ∃ k, bindArgs (PySem.W.fnOf "__init__" "Web.__init__" (defArgs s_Web_init) (defBody s_Web_init) (defScope s_Web_init) (.ref T) kV doc pm an cdv ct) ⟨us, []⟩ = seqItems? (.ref T) >>= k ∧ k (some its.toArray) = pure (P_Web_init.zip us) := fun _ _ _ _ _ _ _ us its hl hi => match us, its, hl, hi with | [_, _, _], [_, _], _, _ => ⟨_, rfl, rfl⟩
theorem bd_Web_houses : ∀ (kV doc pm : Value) (an : Option Addr) (cdv ct : Value) (us : List Value), us.length = P_Web_houses.length → bindArgs (PySem.W.fnOf "houses" "Web.houses" (defArgs s_Web_houses) (defBody s_Web_houses) (defScope s_Web_houses) .none kV doc pm an cdv ct) ⟨us, []⟩ = pure (P_Web_houses.zip us) := fun _ _ _ _ _ _ us hl => match us, hl with | [_], _ => rfl
theorem bd_Web_lines : ∀ (kV doc pm : Value) (an : Option Addr) (cdv ct : Value) (us : List Value), us.length = P_Web_lines.length → bindArgs (PySem.W.fnOf "lines" "Web.lines" (defArgs s_Web_lines) (defBody s_Web_lines) (defScope s_Web_lines) .none kV doc pm an cdv ct) ⟨us, []⟩ = pure (P_Web_lines.zip us) := fun _ _ _ _ _ _ us hl => match us, hl with | [_], _ => rfl
theorem bd_Web_ends : ∀ (kV doc pm : Value) (an : Option Addr) (cdv ct : Value) (us : List Value), us.length = P_Web_ends.length → bindArgs (PySem.W.fnOf "ends" "Web.ends" (defArgs s_Web_ends) (defBody s_Web_ends) (defScope s_Web_ends) .none kV doc pm an cdv ct) ⟨us, []⟩ = pure (P_Web_ends.zip us) := fun _ _ _ _ _ _ us hl => match us, hl with | [_, _], _ => rfl
theorem bd_Web_eq : ∀ (kV doc pm : Value) (an : Option Addr) (cdv ct : Value) (us : List Value), us.length = P_Web_eq.length → bindArgs (PySem.W.fnOf "__eq__" "Web.__eq__" (defArgs s_Web_eq) (defBody s_Web_eq) (defScope s_Web_eq) .none kV doc pm an cdv ct) ⟨us, []⟩ = pure (P_Web_eq.zip us) := fun _ _ _ _ _ _ us hl => match us, hl with | [_, _], _ => rfl
theorem bd_Web_len : ∀ (kV doc pm : Value) (an : Option Addr) (cdv ct : Value) (us : List Value), us.length = P_Web_len.length → bindArgs (PySem.W.fnOf "__len__" "Web.__len__" (defArgs s_Web_len) (defBody s_Web_len) (defScope s_Web_len) .none kV doc pm an cdv ct) ⟨us, []⟩ = pure (P_Web_len.zip us) := fun _ _ _ _ _ _ us hl => match us, hl with | [_], _ => rfl
theorem bd_Web_contains : ∀ (kV doc pm : Value) (an : Option Addr) (cdv ct : Value) (us : List Value), us.length = P_Web_contains.length → bindArgs (PySem.W.fnOf "__contains__" "Web.__contains__" (defArgs s_Web_contains) (defBody s_Web_contains) (defScope s_Web_contains) .none kV doc pm an cdv ct) ⟨us, []⟩ = pure (P_Web_contains.zip us) := fun _ _ _ _ _ _ us hl => match us, hl with | [_, _], _ => rfl
theorem bd_Web_iter : ∀ (kV doc pm : Value) (an : Option Addr) (cdv ct : Value) (us : List Value), us.length = P_Web_iter.length → bindArgs (PySem.W.fnOf "__iter__" "Web.__iter__" (defArgs s_Web_iter) (defBody s_Web_iter) (defScope s_Web_iter) .none kV doc pm an cdv ct) ⟨us, []⟩ = pure (P_Web_iter.zip us) := fun _ _ _ _ _ _ us hl => match us, hl with | [_], _ => rfl
theorem all_mk {l : PySem.W.OpenLaw} {w : World} {K : PySem.W.Frag} {h : Heap} {mg : Str → Option Value} {fa f0 : Addr} (X : K.In h) (G : h.Ns mainGlobals mg) (hfa : mg "law" = some (.ref fa))
    (D__wall : Def K mg "_wall" s__wall P__wall) (D_is_name : Def K mg "is_name" s_is_name P_is_name) (D_check_name : Def K mg "check_name" s_check_name P_check_name) (D_check_houses : Def K mg "check_houses" s_check_houses P_check_houses) (D_ordered : Def K mg "ordered" s_ordered P_ordered) (D_check_names : Def K mg "check_names" s_check_names P_check_names) (D_check_stand : Def K mg "check_stand" s_check_stand P_check_stand) (D_check_line : Def K mg "check_line" s_check_line P_check_line) (D_check_new_line : Def K mg "check_new_line" s_check_new_line P_check_new_line) (D_check_line_stands : Def K mg "check_line_stands" s_check_line_stands P_check_line_stands) (D_is_way : Def K mg "is_way" s_is_way P_is_way) (D__law_store : Def K mg "_law_store" s__law_store P__law_store) (D__law_take : Def K mg "_law_take" s__law_take P__law_take) (D__law_between : Def K mg "_law_between" s__law_between P__law_between) (D__law_pick : Def K mg "_law_pick" s__law_pick P__law_pick) (D__law_shuffled : Def K mg "_law_shuffled" s__law_shuffled P__law_shuffled) (D__law_bent_list : Def K mg "_law_bent_list" s__law_bent_list P__law_bent_list) (D__law_is_integer : Def K mg "_law_is_integer" s__law_is_integer P__law_is_integer) (D__law_same : Def K mg "_law_same" s__law_same P__law_same) (D__law_frozen : Def K mg "_law_frozen" s__law_frozen P__law_frozen) (D__law_name : Def K mg "_law_name" s__law_name P__law_name) (D__law_names : Def K mg "_law_names" s__law_names P__law_names) (D__law_bad_word : Def K mg "_law_bad_word" s__law_bad_word P__law_bad_word) (D__law_houses : Def K mg "_law_houses" s__law_houses P__law_houses) (D__law_pair : Def K mg "_law_pair" s__law_pair P__law_pair) (D__law_line_names : Def K mg "_law_line_names" s__law_line_names P__law_line_names) (D__law_lines : Def K mg "_law_lines" s__law_lines P__law_lines) (D__law_web : Def K mg "_law_web" s__law_web P__law_web) (D__law_is_way : Def K mg "_law_is_way" s__law_is_way P__law_is_way) (D__law_is_words : Def K mg "_law_is_words" s__law_is_words P__law_is_words) (D__law_is_steps : Def K mg "_law_is_steps" s__law_is_steps P__law_is_steps) (D__law_walk : Def K mg "_law_walk" s__law_walk P__law_walk) (D__law_bent_way : Def K mg "_law_bent_way" s__law_bent_way P__law_bent_way) (D__law_judged_right : Def K mg "_law_judged_right" s__law_judged_right P__law_judged_right) (D__law_word : Def K mg "_law_word" s__law_word P__law_word) (D__law_asks : Def K mg "_law_asks" s__law_asks P__law_asks) (m_isinstance : mg "isinstance" = none) (m_str : mg "str" = none) (m_len : mg "len" = none) (m_all : mg "all" = none) (m_sorted : mg "sorted" = none) (m_list : mg "list" = none) (m_int : mg "int" = none) (m_reversed : mg "reversed" = none) (m_range : mg "range" = none) (m_bool : mg "bool" = none) (m_dict : mg "dict" = none) (m_tuple : mg "tuple" = none) (m_min : mg "min" = none) (m_max : mg "max" = none) (m_property : mg "property" = none) (c_LONGEST_NAME : ∃ t, mg "LONGEST_NAME" = some (.int 12 t)) (c_MOST_HOUSES : ∃ t, mg "MOST_HOUSES" = some (.int 32 t)) (c_MOST_LINES : ∃ t, mg "MOST_LINES" = some (.int 96 t))
    {k_BadName k_NoHouse k_NoLine k_SelfLine k_Taken k_TooMany k_Web : Addr} (e_BadName : ∀ base, Ho.ErrC l.prog w K mg base "BadName" k_BadName "word") (e_NoHouse : ∀ base, Ho.ErrC l.prog w K mg base "NoHouse" k_NoHouse "word") (e_NoLine : ∀ base, Ho.ErrC l.prog w K mg base "NoLine" k_NoLine "word") (e_SelfLine : ∀ base, Ho.ErrC l.prog w K mg base "SelfLine" k_SelfLine "word") (e_Taken : ∀ base, Ho.ErrC l.prog w K mg base "Taken" k_Taken "word") (e_TooMany : ∀ base, Ho.ErrC l.prog w K mg base "TooMany" k_TooMany "bound") (M_Web_init : DefR K (Mk K k_Web) "__init__" "Web.__init__" s_Web_init P_Web_init) (M_Web_houses : DefR K (PropR K k_Web "houses") "houses" "Web.houses" s_Web_houses P_Web_houses) (M_Web_lines : DefR K (PropR K k_Web "lines") "lines" "Web.lines" s_Web_lines P_Web_lines) (M_Web_ends : DefR K (Meth K k_Web "ends") "ends" "Web.ends" s_Web_ends P_Web_ends) (M_Web_contains : DefR K (InR K k_Web) "__contains__" "Web.__contains__" s_Web_contains P_Web_contains) (W_Web : ClsF K mg (fun _ => k_Web) "Web" ["_houses", "_ends", "_lines"])
    {od an : Option Addr} {sl : Array (Option Value)} {oc kV dc pm cd ct : Value} (aL : PySem.W.nsIn K mainGlobals "law" = some (some (.ref f0)))
    (lL : K.lookup f0 = some ⟨oc, od, .func (PySem.W.fnOf "law" "law" (defArgs s_law) (defBody s_law) (defScope s_law) .none kV dc pm an cd ct), sl⟩) (cL : PySem.W.codeIn K cd "law" = true) (kL : PySem.W.keepIn K (.ref f0) = true) :
    ∃ fd : FuncData, (∀ (s : Shared) (v : Value), BindsTo s fd ⟨[v], []⟩ [("script", v)]) ∧ ∀ base : Heap, K.In base → base.Ns mainGlobals mg → FnOk l.prog w K mg base CX0 12 fa fd ["script"] (spLaw K) := by
  have e := hfa.symm.trans (PySem.W.mg_of X G aL)
  cases e
  have FL := fun_mk (st := s_law) lL cL kL
  refine ⟨PySem.W.fnOf "law" "law" (defArgs s_law) (defBody s_law) (defScope s_law) .none kV dc pm an cd ct, fun s v => .of_eq rfl, fun base _ _ => ?_⟩
  obtain ⟨D, hD⟩ : ∃ D, D = dOf ["BadName", "NoHouse", "NoLine", "SelfLine", "Taken", "TooMany", "Web"] [k_BadName, k_NoHouse, k_NoLine, k_SelfLine, k_Taken, k_TooMany, k_Web] := ⟨_, rfl⟩
  have d_BadName : D "BadName" = k_BadName := by rw [hD]; exact dOf_at 0 (by decide +kernel) rfl
  have d_NoHouse : D "NoHouse" = k_NoHouse := by rw [hD]; exact dOf_at 1 (by decide +kernel) rfl
  have d_NoLine : D "NoLine" = k_NoLine := by rw [hD]; exact dOf_at 2 (by decide +kernel) rfl
  have d_SelfLine : D "SelfLine" = k_SelfLine := by rw [hD]; exact dOf_at 3 (by decide +kernel) rfl
  have d_Taken : D "Taken" = k_Taken := by rw [hD]; exact dOf_at 4 (by decide +kernel) rfl
  have d_TooMany : D "TooMany" = k_TooMany := by rw [hD]; exact dOf_at 5 (by decide +kernel) rfl
  have d_Web : D "Web" = k_Web := by rw [hD]; exact dOf_at 6 (by decide +kernel) rfl
  have T_BadName : Ho.ErrC l.prog w K mg base "BadName" (D "BadName") "word" := by rw [d_BadName]; exact e_BadName base
  have T_NoHouse : Ho.ErrC l.prog w K mg base "NoHouse" (D "NoHouse") "word" := by rw [d_NoHouse]; exact e_NoHouse base
  have T_NoLine : Ho.ErrC l.prog w K mg base "NoLine" (D "NoLine") "word" := by rw [d_NoLine]; exact e_NoLine base
  have T_SelfLine : Ho.ErrC l.prog w K mg base "SelfLine" (D "SelfLine") "word" := by rw [d_SelfLine]; exact e_SelfLine base
  have T_Taken : Ho.ErrC l.prog w K mg base "Taken" (D "Taken") "word" := by rw [d_Taken]; exact e_Taken base
  have T_TooMany : Ho.ErrC l.prog w K mg base "TooMany" (D "TooMany") "bound" := by rw [d_TooMany]; exact e_TooMany base
  have D_Web_init : DefR K (Mk K (D "Web")) "__init__" "Web.__init__" s_Web_init P_Web_init := by rw [d_Web]; exact M_Web_init
  have D_Web_houses : DefR K (PropR K (D "Web") "houses") "houses" "Web.houses" s_Web_houses P_Web_houses := by rw [d_Web]; exact M_Web_houses
  have D_Web_lines : DefR K (PropR K (D "Web") "lines") "lines" "Web.lines" s_Web_lines P_Web_lines := by rw [d_Web]; exact M_Web_lines
  have D_Web_ends : DefR K (Meth K (D "Web") "ends") "ends" "Web.ends" s_Web_ends P_Web_ends := by rw [d_Web]; exact M_Web_ends
  have D_Web_contains : DefR K (InR K (D "Web")) "__contains__" "Web.__contains__" s_Web_contains P_Web_contains := by rw [d_Web]; exact M_Web_contains
  have KW_Web : ClsF K mg D "Web" ["_houses", "_ends", "_lines"] := ⟨by rw [d_Web]; exact W_Web.cl, by rw [d_Web]; exact W_Web.na, by rw [d_Web]; exact W_Web.mg⟩
  have C__law_take := ok__law_take (P := l.prog) (w := w) (base := base) D__law_take m_int m_len
  have C__law_between := ok__law_between (P := l.prog) (w := w) (base := base) D__law_between C__law_take
  have C__law_store := ok__law_store (P := l.prog) (w := w) (base := base) D__law_store m_list m_len m_int
  have C__law_shuffled := ok__law_shuffled (P := l.prog) (w := w) (base := base) D__law_shuffled m_list m_reversed m_range m_len C__law_take
  have C__law_name := ok__law_name (P := l.prog) (w := w) (base := base) D__law_name m_range C__law_take C__law_between
  have C__law_pick := ok__law_pick (P := l.prog) (w := w) (base := base) D__law_pick m_len C__law_take
  have C__law_names := ok__law_names (P := l.prog) (w := w) (base := base) D__law_names m_range m_int C__law_take C__law_pick C__law_shuffled
  have C__law_bad_word := ok__law_bad_word (P := l.prog) (w := w) (base := base) D__law_bad_word m_len C__law_take C__law_between C__law_pick C__law_name
  have C__law_is_integer := ok__law_is_integer (P := l.prog) (w := w) (base := base) D__law_is_integer m_isinstance m_int m_bool
  have C__law_same := ok__law_same (P := l.prog) (w := w) (base := base) D__law_same m_isinstance m_bool m_int m_str m_dict m_len m_list m_tuple m_range C__law_is_integer 8
  have C__law_frozen := ok__law_frozen (P := l.prog) (w := w) (base := base) D__law_frozen m_isinstance m_list m_tuple m_dict m_str m_sorted 8
  have C_is_name := ok_is_name (P := l.prog) (w := w) (base := base) D_is_name m_isinstance m_str m_len m_all c_LONGEST_NAME
  have C_check_name := ok_check_name (P := l.prog) (w := w) (base := base) D_check_name T_BadName C_is_name
  have C_check_houses := ok_check_houses (P := l.prog) (w := w) (base := base) D_check_houses m_len m_sorted m_list c_MOST_HOUSES T_Taken T_TooMany C_check_name
  have C_ordered := ok_ordered (P := l.prog) (w := w) (base := base) D_ordered
  have C_check_names := ok_check_names (P := l.prog) (w := w) (base := base) D_check_names C_check_name
  have C_check_stand := ok_check_stand (P := l.prog) (w := w) (base := base) D_check_stand T_NoHouse
  have C_check_line := ok_check_line (P := l.prog) (w := w) (base := base) D_check_line T_SelfLine C_check_names C_check_stand
  have C_check_new_line := ok_check_new_line (P := l.prog) (w := w) (base := base) D_check_new_line m_len c_MOST_LINES T_Taken T_TooMany C_check_line
  have C_check_line_stands := ok_check_line_stands (P := l.prog) (w := w) (base := base) D_check_line_stands T_NoLine C_check_name
  have C_Web_init := ok_Web_init (P := l.prog) (w := w) (base := base) D_Web_init m_sorted KW_Web C_check_houses C_ordered C_check_new_line
  have C_Web_houses := ok_Web_houses (P := l.prog) (w := w) (base := base) D_Web_houses m_list m_property KW_Web
  have C_Web_lines := ok_Web_lines (P := l.prog) (w := w) (base := base) D_Web_lines m_list m_property KW_Web
  have C_Web_ends := ok_Web_ends (P := l.prog) (w := w) (base := base) D_Web_ends KW_Web C_check_line_stands
  have C_Web_contains := ok_Web_contains (P := l.prog) (w := w) (base := base) D_Web_contains m_isinstance m_str KW_Web
  have C_is_way := ok_is_way (P := l.prog) (w := w) (base := base) D_is_way KW_Web C_ordered C_Web_houses C_Web_contains C_Web_ends
  have C__law_line_names := ok__law_line_names (P := l.prog) (w := w) (base := base) D__law_line_names m_list C__law_take C__law_names
  have C__law_houses := ok__law_houses (P := l.prog) (w := w) (base := base) D__law_houses C__law_take C__law_between C__law_names
  have C__law_pair := ok__law_pair (P := l.prog) (w := w) (base := base) D__law_pair m_len m_int m_min m_max C__law_take
  have C__law_lines := ok__law_lines (P := l.prog) (w := w) (base := base) D__law_lines m_len m_range C__law_take C__law_between C__law_pair C__law_line_names
  have C__law_web := ok__law_web (P := l.prog) (w := w) (base := base) D__law_web m_min C__law_take C__law_houses C__law_lines
  have C__law_is_words := ok__law_is_words (P := l.prog) (w := w) (base := base) D__law_is_words m_isinstance m_list m_str
  have C__law_is_steps := ok__law_is_steps (P := l.prog) (w := w) (base := base) D__law_is_steps m_isinstance m_list m_tuple m_len C__law_is_words
  have C__law_is_way := ok__law_is_way (P := l.prog) (w := w) (base := base) D__law_is_way m_min m_max C__law_is_steps
  have C__law_bent_list := ok__law_bent_list (P := l.prog) (w := w) (base := base) D__law_bent_list m_list m_len m_reversed C__law_take
  have C__law_walk := ok__law_walk (P := l.prog) (w := w) (base := base) D__law_walk m_range C__law_take C__law_pick
  have C__law_bent_way := ok__law_bent_way (P := l.prog) (w := w) (base := base) D__law_bent_way m_list m_len m_tuple m_sorted C__law_take C__law_pick C__law_bent_list C__law_name C__law_bad_word
  have C__law_word := ok__law_word (P := l.prog) (w := w) (base := base) D__law_word m_len C__law_take C__law_pick
  have C__law_judged_right := ok__law_judged_right (P := l.prog) (w := w) (base := base) D__law_judged_right C_is_way C__law_same C__law_frozen C__law_is_way
  have C__law_asks := ok__law_asks (P := l.prog) (w := w) (base := base) D__law_asks m_range m_min m_len m_reversed C__law_take C__law_pick C__law_walk C__law_bent_way C__law_word
  exact ok_law FL m_len m_list m_sorted KW_Web C__law_store C__law_take C__law_same C__law_web C__law_judged_right C__law_asks C_Web_init C_Web_houses C_Web_lines
end Kj
open PySem PySem.W PyProof.Rows
set_option maxHeartbeats 0 in
theorem PySem.Challenge.cw_keptjoined_k10_is_way_holds : PySem.Challenge.rw_keptjoined_k10_is_way.Holds := by
  w_on; o_law; k_head; (case hw => w_witness2)
  k_fill
  refine L2.walk_of (l := PySem.Challenge.rw_keptjoined_k10_is_way) (n := 63) (k := 12) (x := "script") (CX := fun _ => L2.CX0) (sp := fun w => Kj.spLaw _) rfl (by decide) rfl ⟨rfl, by decide, by decide⟩ (fun w h Y => PySem.W.kIn_of Y) ?F (fun _ _ a ns hl _ hS => ⟨a, ns, rfl, hS, hl, fun _ => rfl⟩) (fun _ _ _ _ _ h => h)
  case F =>
    intro w mg fa h KX G hmg
    have hmg2 : mg "law" = some (.ref fa) := hmg
    clear hmg
    refine' Kj.all_mk KX G hmg2 (Rd.def_mk KX G ?a0 ?l0 ?c0 ?k0 Kj.bd__wall) (Rd.def_mk KX G ?a1 ?l1 ?c1 ?k1 Kj.bd_is_name) (Rd.def_mk KX G ?a2 ?l2 ?c2 ?k2 Kj.bd_check_name) (Rd.def_mk KX G ?a3 ?l3 ?c3 ?k3 Kj.bd_check_houses) (Rd.def_mk KX G ?a4 ?l4 ?c4 ?k4 Kj.bd_ordered) (Rd.def_mk KX G ?a5 ?l5 ?c5 ?k5 Kj.bd_check_names) (Rd.def_mk KX G ?a6 ?l6 ?c6 ?k6 Kj.bd_check_stand) (Rd.def_mk KX G ?a7 ?l7 ?c7 ?k7 Kj.bd_check_line) (Rd.def_mk KX G ?a8 ?l8 ?c8 ?k8 Kj.bd_check_new_line) (Rd.def_mk KX G ?a9 ?l9 ?c9 ?k9 Kj.bd_check_line_stands) (Rd.def_mk KX G ?a10 ?l10 ?c10 ?k10 Kj.bd_is_way) (Rd.def_mk KX G ?a11 ?l11 ?c11 ?k11 Kj.bd__law_store) (Rd.def_mk KX G ?a12 ?l12 ?c12 ?k12 Kj.bd__law_take) (Rd.def_mk KX G ?a13 ?l13 ?c13 ?k13 Kj.bd__law_between) (Rd.def_mk KX G ?a14 ?l14 ?c14 ?k14 Kj.bd__law_pick) (Rd.def_mk KX G ?a15 ?l15 ?c15 ?k15 Kj.bd__law_shuffled) (Rd.def_mk KX G ?a16 ?l16 ?c16 ?k16 Kj.bd__law_bent_list) (Rd.def_mk KX G ?a17 ?l17 ?c17 ?k17 Kj.bd__law_is_integer) (Rd.def_mk KX G ?a18 ?l18 ?c18 ?k18 Kj.bd__law_same) (Rd.def_mk KX G ?a19 ?l19 ?c19 ?k19 Kj.bd__law_frozen) (Rd.def_mk KX G ?a20 ?l20 ?c20 ?k20 Kj.bd__law_name) (Rd.def_mk KX G ?a21 ?l21 ?c21 ?k21 Kj.bd__law_names) (Rd.def_mk KX G ?a22 ?l22 ?c22 ?k22 Kj.bd__law_bad_word) (Rd.def_mk KX G ?a23 ?l23 ?c23 ?k23 Kj.bd__law_houses) (Rd.def_mk KX G ?a24 ?l24 ?c24 ?k24 Kj.bd__law_pair) (Rd.def_mk KX G ?a25 ?l25 ?c25 ?k25 Kj.bd__law_line_names) (Rd.def_mk KX G ?a26 ?l26 ?c26 ?k26 Kj.bd__law_lines) (Rd.def_mk KX G ?a27 ?l27 ?c27 ?k27 Kj.bd__law_web) (Rd.def_mk KX G ?a28 ?l28 ?c28 ?k28 Kj.bd__law_is_way) (Rd.def_mk KX G ?a29 ?l29 ?c29 ?k29 Kj.bd__law_is_words) (Rd.def_mk KX G ?a30 ?l30 ?c30 ?k30 Kj.bd__law_is_steps) (Rd.def_mk KX G ?a31 ?l31 ?c31 ?k31 Kj.bd__law_walk) (Rd.def_mk KX G ?a32 ?l32 ?c32 ?k32 Kj.bd__law_bent_way) (Rd.def_mk KX G ?a33 ?l33 ?c33 ?k33 Kj.bd__law_judged_right) (Rd.def_mk KX G ?a34 ?l34 ?c34 ?k34 Kj.bd__law_word) (Rd.def_mk KX G ?a35 ?l35 ?c35 ?k35 Kj.bd__law_asks) (PySem.W.mg_none_of KX G ?z0) (PySem.W.mg_none_of KX G ?z1) (PySem.W.mg_none_of KX G ?z2) (PySem.W.mg_none_of KX G ?z3) (PySem.W.mg_none_of KX G ?z4) (PySem.W.mg_none_of KX G ?z5) (PySem.W.mg_none_of KX G ?z6) (PySem.W.mg_none_of KX G ?z7) (PySem.W.mg_none_of KX G ?z8) (PySem.W.mg_none_of KX G ?z9) (PySem.W.mg_none_of KX G ?z10) (PySem.W.mg_none_of KX G ?z11) (PySem.W.mg_none_of KX G ?z12) (PySem.W.mg_none_of KX G ?z13) (PySem.W.mg_none_of KX G ?z14) ⟨_, PySem.W.mg_of KX G ?y0⟩ ⟨_, PySem.W.mg_of KX G ?y1⟩ ⟨_, PySem.W.mg_of KX G ?y2⟩ (Kj.err_BadName (PySem.W.mg_of KX G ?e0_w) (Kj.clsK ?e0_xL ?e0_sa ?e0_ga ?e0_gg ?e0_n1 ?e0_n2 ?e0_kC ?e0_eC ?e0_tC ?e0_hC ?e0_cl ?e0_ca ?e0_ob) ?e0_iC ?e0_tI ?e0_l ?e0_c ?e0_kI) (Kj.err_NoHouse (PySem.W.mg_of KX G ?e1_w) (Kj.clsK ?e1_xL ?e1_sa ?e1_ga ?e1_gg ?e1_n1 ?e1_n2 ?e1_kC ?e1_eC ?e1_tC ?e1_hC ?e1_cl ?e1_ca ?e1_ob) ?e1_iC ?e1_tI ?e1_l ?e1_c ?e1_kI) (Kj.err_NoLine (PySem.W.mg_of KX G ?e2_w) (Kj.clsK ?e2_xL ?e2_sa ?e2_ga ?e2_gg ?e2_n1 ?e2_n2 ?e2_kC ?e2_eC ?e2_tC ?e2_hC ?e2_cl ?e2_ca ?e2_ob) ?e2_iC ?e2_tI ?e2_l ?e2_c ?e2_kI) (Kj.err_SelfLine (PySem.W.mg_of KX G ?e3_w) (Kj.clsK ?e3_xL ?e3_sa ?e3_ga ?e3_gg ?e3_n1 ?e3_n2 ?e3_kC ?e3_eC ?e3_tC ?e3_hC ?e3_cl ?e3_ca ?e3_ob) ?e3_iC ?e3_tI ?e3_l ?e3_c ?e3_kI) (Kj.err_Taken (PySem.W.mg_of KX G ?e4_w) (Kj.clsK ?e4_xL ?e4_sa ?e4_ga ?e4_gg ?e4_n1 ?e4_n2 ?e4_kC ?e4_eC ?e4_tC ?e4_hC ?e4_cl ?e4_ca ?e4_ob) ?e4_iC ?e4_tI ?e4_l ?e4_c ?e4_kI) (Kj.err_TooMany (PySem.W.mg_of KX G ?e5_w) (Kj.clsK ?e5_xL ?e5_sa ?e5_ga ?e5_gg ?e5_n1 ?e5_n2 ?e5_kC ?e5_eC ?e5_tC ?e5_hC ?e5_cl ?e5_ca ?e5_ob) ?e5_iC ?e5_tI ?e5_l ?e5_c ?e5_kI) (Rd.defR_mk2 ⟨?m0_mk, ?m0_at, ?m0_fn, ?m0_kc⟩ ?m0_l ?m0_c ?m0_k ?m0_T Kj.bd_Web_init) (Rd.defR_mk (Rd.propR_mk ?m1_at ?m1_get ?m1_tak ?m1_rec) ?m1_l ?m1_c ?m1_k Kj.bd_Web_houses) (Rd.defR_mk (Rd.propR_mk ?m2_at ?m2_get ?m2_tak ?m2_rec) ?m2_l ?m2_c ?m2_k Kj.bd_Web_lines) (Rd.defR_mk ⟨?m3_at, ?m3_fn, ?m3_kp⟩ ?m3_l ?m3_c ?m3_k Kj.bd_Web_ends) (Rd.defR_mk ⟨?m4_at, ?m4_fn⟩ ?m4_l ?m4_c ?m4_k Kj.bd_Web_contains) ⟨⟨?w0_pg, ?w0_hd, ?w0_po, ?w0_sa⟩, (Kj.all_cons ?w0_n0 (Kj.all_cons ?w0_n1 (Kj.all_cons ?w0_n2 Kj.all_nil))), PySem.W.mg_of KX G ?w0_aC⟩ ?aL ?lL ?cL ?kL
    (case w0_aC => k_is); (case w0_pg => k_is); (case w0_hd => k_is); (case w0_po => k_is); (case w0_sa => k_is); (case w0_n0 => (unfold L2.NoAttr; k_is)); (case w0_n1 => (unfold L2.NoAttr; k_is)); (case w0_n2 => (unfold L2.NoAttr; k_is)); (case a0 => k_is); (case l0 => k_is); (case c0 => k_is); (case k0 => k_is); (case a1 => k_is); (case l1 => k_is); (case c1 => k_is); (case k1 => k_is); (case a2 => k_is); (case l2 => k_is); (case c2 => k_is); (case k2 => k_is); (case a3 => k_is); (case l3 => k_is); (case c3 => k_is); (case k3 => k_is)
    (case a4 => k_is); (case l4 => k_is); (case c4 => k_is); (case k4 => k_is); (case a5 => k_is); (case l5 => k_is); (case c5 => k_is); (case k5 => k_is); (case a6 => k_is); (case l6 => k_is); (case c6 => k_is); (case k6 => k_is); (case a7 => k_is); (case l7 => k_is); (case c7 => k_is); (case k7 => k_is); (case a8 => k_is); (case l8 => k_is); (case c8 => k_is); (case k8 => k_is); (case a9 => k_is); (case l9 => k_is); (case c9 => k_is); (case k9 => k_is); (case a10 => k_is); (case l10 => k_is); (case c10 => k_is); (case k10 => k_is); (case a11 => k_is); (case l11 => k_is); (case c11 => k_is); (case k11 => k_is); (case a12 => k_is); (case l12 => k_is); (case c12 => k_is); (case k12 => k_is); (case a13 => k_is); (case l13 => k_is); (case c13 => k_is); (case k13 => k_is); (case a14 => k_is); (case l14 => k_is); (case c14 => k_is); (case k14 => k_is); (case a15 => k_is); (case l15 => k_is); (case c15 => k_is); (case k15 => k_is)
    (case a16 => k_is); (case l16 => k_is); (case c16 => k_is); (case k16 => k_is); (case a17 => k_is); (case l17 => k_is); (case c17 => k_is); (case k17 => k_is); (case a18 => k_is); (case l18 => k_is); (case c18 => k_is); (case k18 => k_is); (case a19 => k_is); (case l19 => k_is); (case c19 => k_is); (case k19 => k_is); (case a20 => k_is); (case l20 => k_is); (case c20 => k_is); (case k20 => k_is); (case a21 => k_is); (case l21 => k_is); (case c21 => k_is); (case k21 => k_is); (case a22 => k_is); (case l22 => k_is); (case c22 => k_is); (case k22 => k_is); (case a23 => k_is); (case l23 => k_is); (case c23 => k_is); (case k23 => k_is); (case a24 => k_is); (case l24 => k_is); (case c24 => k_is); (case k24 => k_is); (case a25 => k_is); (case l25 => k_is); (case c25 => k_is); (case k25 => k_is); (case a26 => k_is); (case l26 => k_is); (case c26 => k_is); (case k26 => k_is); (case a27 => k_is); (case l27 => k_is); (case c27 => k_is); (case k27 => k_is)
    (case a28 => k_is); (case l28 => k_is); (case c28 => k_is); (case k28 => k_is); (case a29 => k_is); (case l29 => k_is); (case c29 => k_is); (case k29 => k_is); (case a30 => k_is); (case l30 => k_is); (case c30 => k_is); (case k30 => k_is); (case a31 => k_is); (case l31 => k_is); (case c31 => k_is); (case k31 => k_is); (case a32 => k_is); (case l32 => k_is); (case c32 => k_is); (case k32 => k_is); (case a33 => k_is); (case l33 => k_is); (case c33 => k_is); (case k33 => k_is); (case a34 => k_is); (case l34 => k_is); (case c34 => k_is); (case k34 => k_is); (case a35 => k_is); (case l35 => k_is); (case c35 => k_is); (case k35 => k_is); (case aL => k_is); (case lL => k_is); (case cL => k_is); (case kL => k_is); (case z0 => k_is); (case z1 => k_is); (case z2 => k_is)
    (case z3 => k_is); (case z4 => k_is); (case z5 => k_is); (case z6 => k_is); (case z7 => k_is); (case z8 => k_is); (case z9 => k_is); (case z10 => k_is); (case z11 => k_is); (case z12 => k_is); (case z13 => k_is); (case z14 => k_is)
    (case y0 => first | k_is | rfl | kernel_rfl); (case y1 => first | k_is | rfl | kernel_rfl); (case y2 => first | k_is | rfl | kernel_rfl); (case e0_w => k_is); (case e0_xL => k_is); (case e0_sa => k_is); (case e0_ga => k_is); (case e0_gg => k_is); (case e0_n1 => k_is); (case e0_n2 => k_is); (case e0_kC => k_is); (case e0_eC => k_is)
    (case e0_tC => k_is); (case e0_hC => k_is); (case e0_cl => k_is); (case e0_ca => k_is); (case e0_ob => k_is); (case e0_iC => k_is); (case e0_tI => k_is); (case e0_l => k_is); (case e0_c => k_is); (case e0_kI => k_is); (case e1_w => k_is); (case e1_xL => k_is)
    (case e1_sa => k_is); (case e1_ga => k_is); (case e1_gg => k_is); (case e1_n1 => k_is); (case e1_n2 => k_is); (case e1_kC => k_is); (case e1_eC => k_is); (case e1_tC => k_is); (case e1_hC => k_is); (case e1_cl => k_is); (case e1_ca => k_is); (case e1_ob => k_is)
    (case e1_iC => k_is); (case e1_tI => k_is); (case e1_l => k_is); (case e1_c => k_is); (case e1_kI => k_is); (case e2_w => k_is); (case e2_xL => k_is); (case e2_sa => k_is); (case e2_ga => k_is); (case e2_gg => k_is); (case e2_n1 => k_is); (case e2_n2 => k_is)
    (case e2_kC => k_is); (case e2_eC => k_is); (case e2_tC => k_is); (case e2_hC => k_is); (case e2_cl => k_is); (case e2_ca => k_is); (case e2_ob => k_is); (case e2_iC => k_is); (case e2_tI => k_is); (case e2_l => k_is); (case e2_c => k_is); (case e2_kI => k_is)
    (case e3_w => k_is); (case e3_xL => k_is); (case e3_sa => k_is); (case e3_ga => k_is); (case e3_gg => k_is); (case e3_n1 => k_is); (case e3_n2 => k_is); (case e3_kC => k_is); (case e3_eC => k_is); (case e3_tC => k_is); (case e3_hC => k_is); (case e3_cl => k_is)
    (case e3_ca => k_is); (case e3_ob => k_is); (case e3_iC => k_is); (case e3_tI => k_is); (case e3_l => k_is); (case e3_c => k_is); (case e3_kI => k_is); (case e4_w => k_is); (case e4_xL => k_is); (case e4_sa => k_is); (case e4_ga => k_is); (case e4_gg => k_is)
    (case e4_n1 => k_is); (case e4_n2 => k_is); (case e4_kC => k_is); (case e4_eC => k_is); (case e4_tC => k_is); (case e4_hC => k_is); (case e4_cl => k_is); (case e4_ca => k_is); (case e4_ob => k_is); (case e4_iC => k_is); (case e4_tI => k_is); (case e4_l => k_is)
    (case e4_c => k_is); (case e4_kI => k_is); (case e5_w => k_is); (case e5_xL => k_is); (case e5_sa => k_is); (case e5_ga => k_is); (case e5_gg => k_is); (case e5_n1 => k_is); (case e5_n2 => k_is); (case e5_kC => k_is); (case e5_eC => k_is); (case e5_tC => k_is)
    (case e5_hC => k_is); (case e5_cl => k_is); (case e5_ca => k_is); (case e5_ob => k_is); (case e5_iC => k_is); (case e5_tI => k_is); (case e5_l => k_is); (case e5_c => k_is); (case e5_kI => k_is); (case m0_at => k_is); (case m0_fn => k_is); (case m0_mk => k_is)
    (case m0_kc => k_is); (case m0_l => k_is); (case m0_c => k_is); (case m0_k => k_is); (case m0_T => k_is); (case m1_at => k_is); (case m1_get => k_is); (case m1_tak => k_is); (case m1_rec => k_is); (case m1_l => k_is); (case m1_c => k_is); (case m1_k => k_is)
    (case m2_at => k_is); (case m2_get => k_is); (case m2_tak => k_is); (case m2_rec => k_is); (case m2_l => k_is); (case m2_c => k_is); (case m2_k => k_is); (case m3_at => k_is); (case m3_fn => k_is); (case m3_kp => k_is); (case m3_l => k_is); (case m3_c => k_is)
    (case m3_k => k_is); (case m4_at => k_is); (case m4_fn => k_is); (case m4_l => k_is); (case m4_c => k_is); (case m4_k => k_is)
