import PyProof.Rows.All
import Wide.All
import OpenK.AllK
import Wide.FinOn
import HandS.ForMost
import HandS.Conv
import HandS.Rev
import HandS.RevTup
import HandS.Wide
import HandS.IsInst
import HandS.Codes
import HandS.Comp
import HandS.HotCalls
import HandS.ExcInit
import HandS.ExcInitHot
import HandS.ExcField
import HandS.SuiteRaise
import KE.KExcIs
import HandS.Walk
import HandS.Text
import PyProof.StrLawsJoin
import PyProof.StrBlock2
import PyProof.Rows.StrMul
import HandS.Style
import HandS.Small
import PyProof.DictUpdate
import HandS.SortRule
import KE.KSortTupAny
import PyProof.EqKinds
import PyProof.Rows.StrJoinRep
import HandS.Deep
import HandS.NoneIn
import HandS.DictComp
import HandS.WideBits
import HandS.SetKeys
import KE.RegKIsAll
import KE.RegKTryMore
import PySem.Challenge.RW_keptjoined_k26_parted_tours
set_option Elab.async false
set_option linter.all false
set_option maxRecDepth 100000
set_option maxHeartbeats 4000000
/-! list(reversed(xs)) of a list: a new list with the items from behind -/
namespace LRev
open PySem RT
section
variable {prog : Program} {w : World} {A : Around} {E : Value → Shared → Prop} {s : Shared} {it l S : Addr} {items : Array Value}
/-- what a filled list tells -/
abbrev Back (items : Array Value) : Nat → Value → Prop := fun i v => items[items.size - 1 - i]? = some v
abbrev After (s : Shared) (S it : Addr) (items : Array Value) (K : Heap → Nat → Array Value → Prop) : Prop :=
  ∀ (g : Heap) (tk : Nat) (out : Array Value) (cap : Nat), (∀ b o, b ≠ S → b ≠ it → s.heap.get? b = some o → g.get? b = some o) →
    g.get? S = some { cls := .type "list", dict := none, data := .seq out cap, slots := #[] } →
      ItemsOf (Back items) out items.size → K g tk out
abbrev OutOf (prog : Program) (w : World) (A : Around) (R : Result → Shared → Prop) : Fin → Shared → Prop := fun fin t =>
  match fin with
  | .done f => R (.ok f) t
  | .again k => k.quiet = true ∧ codeAny (model prog w) A k R t
theorem extend {R : Result → Shared → Prop} (hh : A.handled = none) (hit : s.heap.IsRevIter it l ((items.size : Int) - 1)) (hl : s.heap.IsList l items)
    (hne : l ≠ it) (hz : items.size ≤ sizeLine) (hSi : S ≠ it) (hSl : S ≠ l) (res : Value) (c0 : Nat)
    (hS : s.heap.get? S = some { cls := .type "list", data := .seq #[] c0 })
    (k : After s S it items fun g tk _ => R (.ok (.ret res)) { s with heap := g, toks := tk }) :
    wpAny (model prog w) A.in1 (Builtin.List.listExtendWith (.ref S) (.ref it) res) (OutOf prog w A R) (fun e t => R (.error e) t) s := by
  have W := (Walks.listRev (prog := prog) (w := w) (A := A.in1) hh it l hne items).toS
  have out : S ∉ [it, l] := by
    simp only [List.mem_cons, List.not_mem_nil, or_false, not_or]
    exact ⟨hSi, hSl⟩
  have ty : s.TypeIs (.ref it) "list_reverseiterator" := hit.typeIs
  have other : Builtin.List.listSameRef (.ref S) (.ref it) = false := by simp [Builtin.List.listSameRef, hSi]
  unfold Builtin.List.listExtendWith
  refine wpAny_bind (wpAny_typeOf ty ?_)
  rw [if_neg (by rw [other]; decide)]
  refine wpAny_bind (wpAny_pyIter_revIter hit ?_)
  refine wpAny_bind (wpAny_holding ?_)
  unfold Builtin.List.listLengthHint
  refine wpAny_bind (wpAny_specialOf ty nolen_lri ?_)
  show wpAny _ A.in1 (specialOf (Value.ref it) (Str.ofString "__length_hint__") >>= _) _ _ _
  refine wpAny_bind (wpAny_specialOf ty hint_lri ?_)
  generalize nm : ("list_reverseiterator.__length_hint__" : String) = at0
  wp_delta
  rw [show splitId at0 = some ("list_reverseiterator", "__length_hint__") from by subst nm; decide +kernel]
  subst nm
  refine wpAny_bind (wpAny_isInstance (b := true) ty (by rw [isSubtype_type]; kernel_rfl) ?_)
  refine wpAny_pure ?_
  rw [if_neg (by decide)]
  have at1 : ((items.size : Nat) : Int) - 1 - ((0 : Nat) : Int) = (items.size : Int) - 1 := by omega
  refine wpAny_pure ⟨plainId_quiet F.plain_extend_loop _, ?_⟩
  refine codeAny_extend_loopS W hz _ out _ items.size 0 _ _ _ rfl (Nat.zero_le _) ⟨Nat.zero_le _, by rw [at1]; exact hit, hl⟩ hS (ItemsOf.nil _) fun t got cap mv ht hi => ?_
  rw [Moved.eq_with mv]
  refine k t.heap t.toks got cap (fun b o n1 n2 e => mv.heap b o (fun hm => ?_) e) ht hi
  rcases List.mem_cons.mp hm with e1 | hm
  · exact n1 e1
  · exact n2 (List.mem_singleton.mp hm)
theorem init {R : Result → Shared → Prop} (hh : A.handled = none) (hit : s.heap.IsRevIter it l ((items.size : Int) - 1)) (hl : s.heap.IsList l items)
    (hne : l ≠ it) (hz : items.size ≤ sizeLine) (hSi : S ≠ it) (hSl : S ≠ l) (hS : s.heap.get? S = some { cls := .type "list", data := .seq #[] })
    (k : After s S it items fun g tk _ => R (.ok (.ret .none)) { s with heap := g, toks := tk }) :
    wpAny (model prog w) A.in1 (Builtin.«list.__init__» ⟨[.ref S, .ref it], []⟩) (OutOf prog w A R) (fun e t => R (.error e) t) s := by
  show wpAny _ _ (Builtin.List.listItems (.ref S) >>= fun old => Builtin.List.listUpdate (.ref S) (fun _ => #[]) >>= fun _ => letGo old.toList.reverse >>= fun _ => Builtin.List.listExtendWith (.ref S) (.ref it) .none) _ _ s
  refine wpAny_bind ?_
  unfold Builtin.List.listItems
  refine wpAny_bind (wpAny_seqItems hS rfl (wpAny_pure ?_))
  show wpAny _ _ (updateSeq S (fun _ => #[]) >>= fun _ => (letGo (#[] : Array Value).toList.reverse >>= fun _ => Builtin.List.listExtendWith (.ref S) (.ref it) .none)) _ _ s
  refine wpAny_bind (wpAny_updateSeq hS rfl ?_)
  have hS2 := Heap.get?_update_self (Obj.mapSeq fun _ => (#[] : Array Value)) hS rfl
  have oth : ∀ b o, b ≠ S → s.heap.get? b = some o → (s.heap.update S (Obj.mapSeq fun _ => (#[] : Array Value))).get? b = some o := fun b o n e =>
    (Heap.get?_update_other _ _ (Ne.symm n)).trans e
  refine wpAny_bind (wpAny_letGo ?_)
  obtain ⟨ol, hol, cl, dl⟩ := id hl
  refine extend hh (hit.at fun o e => oth it o (Ne.symm hSi) e) ⟨ol, oth l ol (Ne.symm hSl) hol, cl, dl⟩ hne hz hSi hSl .none _ hS2 fun g tk got cap hk ht hi => ?_
  exact k g tk got cap (fun b o n1 n2 e => hk b o n1 n2 (oth b o n1 e)) ht hi
theorem callRev {Q : Value → Shared → Prop} (hh : A.handled = none) (hit : s.heap.IsRevIter it l ((items.size : Int) - 1)) (hl : s.heap.IsList l items) (hne : l ≠ it) (hz : items.size ≤ sizeLine)
    (k : ∀ (g : Heap) (tk : Nat) (out : Array Value) (cap : Nat), (∀ b o, b ≠ it → s.heap.get? b = some o → g.get? b = some o) →
      g.get? s.heap.objs.size = some { cls := .type "list", dict := none, data := .seq out cap, slots := #[] } → ItemsOf (Back items) out items.size →
        Q (.ref s.heap.objs.size) { s with heap := g, toks := tk }) :
    wpAny (model prog w) A (call (.type "list") [.ref it]) Q E s := by
  refine callType_codes (Q₁ := fun u t => u = .ref s.heap.objs.size ∧ t = { s with heap := s.heap.push { cls := .type "list", data := .seq #[] } })
    F.called_list (F.typeCall_list_1 _) F.entry_list_init (code_list_new _ ⟨rfl, rfl⟩) fun u t hu => ?_
  obtain ⟨rfl, rfl⟩ := hu
  have hS : (s.heap.push { cls := .type "list", data := .seq #[] }).get? s.heap.objs.size = some { cls := .type "list", data := .seq #[] } := Heap.get?_push_size _ rfl
  obtain ⟨oi, hoi, _⟩ := id hit
  obtain ⟨ol, hol, _⟩ := id hl
  refine ⟨⟨_, hS, rfl⟩, F.args_list_init_2 _ _, init (A := A.in1) hh (hit.at fun o e => Heap.get?_push_of_some _ e) (hl.push _) hne hz (Nat.ne_of_gt (Heap.lt_size hoi)) (Nat.ne_of_gt (Heap.lt_size hol)) hS fun g tk out cap hk hg hi => ?_⟩
  exact ⟨rfl, k g tk out cap (fun b o n e => hk b o (Nat.ne_of_lt (Heap.lt_size e)) n (Heap.get?_push_of_some _ e)) hg hi⟩
end
end LRev
namespace L2
open PySem PySem.Spec PyProof.Rows
/-- list(reversed(x)), x a list -/
def tLstRev (K : PySem.W.Frag) (te : TE) : TE := fun σ H Q => te σ H fun v h => ∃ (a : Addr) (xs : List V), v = .ref a ∧ SqL K h a xs ∧
  ∀ q, h q = none → Q (.ref q) (upd h q (.lst xs.reverse))
theorem pe_lstRev {X : Cx} {e : Expr} {te : TE} {p p2 pos pos2 : Pos} (hc : X.calm = true) (hg : Gl X "list") (hm : X.mg "list" = none) (hg2 : Gl X "reversed") (hm2 : X.mg "reversed" = none) (he : PE X e te)
    (n1 : starEach [e] X.env = (false, eval e X.env) :: starEach [] X.env := by rfl)
    (n2 : starEach [.Call (.Name "reversed" p2) [e] [] pos2] X.env = (false, eval (.Call (.Name "reversed" p2) [e] [] pos2) X.env) :: starEach [] X.env := by rfl) :
    PE X (.Call (.Name "list" p) [.Call (.Name "reversed" p2) [e] [] pos2] [] pos) (tLstRev X.K te) := by
  refine ⟨fun pins s σ H Q I h => ?_⟩
  refine Call_ (ld_blt I hg hm boot_list (PyProof.Rows.callWith_type1 (args_cons (Call_ (ld_blt I hg2 hm2 PyProof.Rows.boot_reversed (PyProof.Rows.callWith_type1
    (args_cons (thn (he.run pins s σ H _ I h) fun u s1 ⟨v, H1, I1, r1, q1⟩ => args_nil ?_) n1) n1 rfl))) n2) n2 rfl))
  obtain ⟨a, xs, rfl, hq, q⟩ := q1
  obtain rfl : u = Value.ref a := r1
  obtain ⟨its, rv, pl, hz⟩ := I1.list hq
  refine call_reversed_list pl.isList (args_nil ?_)
  have k0 : ∀ b o, s1.heap.get? b = some o → (s1.heap.push (revObj a ((its.toArray.size : Int) - 1))).get? b = some o := fun b o z => Heap.get?_push_of_some _ z
  have I2 : Inv X pins σ H1 { s1 with heap := s1.heap.push (revObj a ((its.toArray.size : Int) - 1)) } := I1.kept (t' := s1.toks) k0
  obtain ⟨f0, f1, f2, f3, f4, f5⟩ := I1.fpOk (H' := H1) (b := s1.heap.objs.size) (Nat.le_refl _) (I1.hok.fresh (Nat.le_refl _))
  have hl := pl.isList
  obtain ⟨ol, hol, _⟩ := id hl
  have far : a ≠ s1.heap.objs.size := Nat.ne_of_lt (Heap.lt_size hol)
  have fits : its.toArray.size ≤ sizeLine := by
    rw [List.size_toArray, ← rv.length]
    exact hz
  refine LRev.callRev (s := { s1 with heap := s1.heap.push (revObj a ((its.toArray.size : Int) - 1)) }) (I1.ok.hd hc) ⟨_, Heap.get?_push_size _ rfl, rfl, rfl⟩ (hl.push _) far fits fun g tk out cap hk hg hi => ?_
  have sz : (s1.heap.push (revObj a ((its.toArray.size : Int) - 1))).objs.size = s1.heap.objs.size + 1 := Heap.size_push _ _
  generalize hS : (s1.heap.push (revObj a ((its.toArray.size : Int) - 1))).objs.size = S at hg
  have fr : H1 S = none := I1.hok.fresh (by rw [← hS, sz]; exact Nat.le_succ _)
  have J : Inv X pins σ (upd H1 S (.lst xs.reverse)) { s1 with heap := g, toks := tk } :=
    I1.laid (h' := g) (t' := tk) (fun b o z => hk b o (Nat.ne_of_lt (Heap.lt_size z)) (k0 b o z)) (by rw [← hS, sz]; exact Nat.le_succ _)
      ⟨by rw [List.length_reverse]; exact hz, out.toList, cap, RT.vals_rev rv hi, by rw [Array.toArray_toList]; exact hg⟩
  exact ⟨.ref S, _, J, rfl, q S fr⟩
end L2
/-! a stepper for readings -/
namespace Rd
open PySem PySem.Spec PyProof.Rows L2
section
variable {D : Ends} {σ σ' : L2.St} {H : Hp} {Q : VK} {t u : TS} {te ta tb tc : TE} {tt uu : TT} {g : TG} {i : Nat} {v x y z : V} {r r' : R2} {B : Bool → Prop} {ts tr : TA} {n b c : L2.St → Hp → Prop} {rr : VK}
theorem seq (h : t ⟨u ⟨n, rr, b, c⟩, rr, b, c⟩ σ H) : tSeq t u ⟨n, rr, b, c⟩ σ H := h
theorem at0 {N : List Str} {vs : List V} (e : start N vs = σ) (h : t D σ H) : t D (start N vs) H := by
  rw [e]
  exact h
theorem nxt (h : n σ H) : tNext ⟨n, rr, b, c⟩ σ H := h
theorem brk (h : b σ H) : tBreak ⟨n, rr, b, c⟩ σ H := h
theorem cnt (h : c σ H) : tCont ⟨n, rr, b, c⟩ σ H := h
theorem ret (h : te σ H rr) : tRet te ⟨n, rr, b, c⟩ σ H := h
theorem retN (h : rr .non H) : tRetN ⟨n, rr, b, c⟩ σ H := h
theorem drop (h : te σ H fun _ H1 => n σ H1) : tDrop te ⟨n, rr, b, c⟩ σ H := h
theorem ifs (h : tt σ H fun b H1 => if b = true then t D σ H1 else u D σ H1) : tIfS tt t u D σ H := h
theorem asg (h : te σ H fun x H1 => g x σ H1 n) : tAsg te g ⟨n, rr, b, c⟩ σ H := h
theorem gname {P : L2.St → Hp → Prop} (e : σ.set i (some v) = σ') (h : P σ' H) : gName i v σ H P := by
  subst e
  exact h
theorem var (e : σ[i]? = some (some v)) (h : Q v H) : tVar i σ H Q := ⟨v, e, h⟩
theorem con (h : Q v H) : tC v σ H Q := h
theorem op (h : ta σ H fun x H1 => tb σ H1 fun y H2 => r x y H2 Q) : tOp r ta tb σ H Q := h
theorem un {r : V → Hp → VK → Prop} (h : ta σ H fun x H1 => r x H1 Q) : tUn r ta σ H Q := h
theorem test {Q : Bool → Hp → Prop} (h : te σ H fun x H' => ∃ k, x = .bl k ∧ Q k H') : tTest te σ H Q := h
theorem testB {Q : Bool → Hp → Prop} (h : te σ H fun x H' => ∃ k, x = .bl k ∧ Q k H') : tB te σ H Q := h
theorem exbl {P : Bool → Prop} {b : Bool} (h : P b) : ∃ k, V.bl b = V.bl k ∧ P k := ⟨b, rfl, h⟩
theorem and {Q : Bool → Hp → Prop} (h : tt σ H fun c H1 => if c = true then uu σ H1 Q else Q false H1) : tAnd tt uu σ H Q := h
theorem or {Q : Bool → Hp → Prop} (h : tt σ H fun c H1 => if c = true then Q true H1 else uu σ H1 Q) : tOr tt uu σ H Q := h
theorem not {Q : Bool → Hp → Prop} (h : tt σ H fun c H1 => Q (!c) H1) : tNot tt σ H Q := h
theorem andV (h : ta σ H fun x H1 => ∃ c, x = .bl c ∧ if c = true then tb σ H1 Q else Q (.bl false) H1) : tAndV ta tb σ H Q := h
theorem orV (h : ta σ H fun x H1 => ∃ c, x = .bl c ∧ if c = true then Q (.bl true) H1 else tb σ H1 Q) : tOrV ta tb σ H Q := h
theorem notV (h : ta σ H fun x H1 => ∃ c, x = .bl c ∧ Q (.bl (!c)) H1) : tNotV ta σ H Q := h
theorem ife (h : tt σ H fun c H1 => if c = true then ta σ H1 Q else tb σ H1 Q) : tIf tt ta tb σ H Q := h
theorem nil {Q : List V → Hp → Prop} (h : Q [] H) : tNil σ H Q := h
theorem cons {Q : List V → Hp → Prop} (h : te σ H fun x H1 => tr σ H1 fun xs H2 => Q (x :: xs) H2) : tCons te tr σ H Q := h
theorem tup (h : ts σ H fun xs H1 => xs.length ≤ sizeLine ∧ ∀ p, H1 p = none → Q (.ref p) (upd H1 p (.tup xs))) : tTup ts σ H Q := h
theorem lst (h : ts σ H fun xs H1 => xs.length ≤ sizeLine ∧ ∀ p, H1 p = none → Q (.ref p) (upd H1 p (.lst xs))) : tLst ts σ H Q := h
theorem call {sp : Sp} {dvs : List V} {E : XK} (h : ts σ H fun vs H1 => sp (vs ++ dvs) H1 Q E) : tCall sp dvs E ts σ H Q := h
theorem cb {r : List V → Hp → VK → Prop} (h : ts σ H fun vs H1 => r vs H1 Q) : tCB r ts σ H Q := h
theorem chain (h : ta σ H fun x H1 => tb σ H1 fun y H2 => r x y H2 fun z H3 => ∃ k, z = .bl k ∧ (if k = true then tc σ H3 fun w' H4 => r' y w' H4 Q else Q (.bl false) H3)) : tChain r r' ta tb tc σ H Q := h
/-- ints -/
theorem I0 {g : Int → Int → V} {i j : Int} (h : Q (g i j) H) : rI0 g (.int i) (.int j) H Q := ⟨i, j, rfl, rfl, h⟩
theorem I1 {C : Int → Int → Prop} {g : Int → Int → V} {i j : Int} (c : C i j) (h : Q (g i j) H) : rI C g (.int i) (.int j) H Q := ⟨i, j, rfl, rfl, c, h⟩
theorem U1 {g : Int → V} {i : Int} (h : Q (g i) H) : rU g (.int i) H Q := ⟨i, rfl, h⟩
theorem eq (e : scal x y = true) (h : Q (.bl (decide (x = y))) H) : rEq x y H Q := ⟨e, h⟩
theorem ne (e : scal x y = true) (h : Q (.bl (!decide (x = y))) H) : rNe x y H Q := ⟨e, h⟩
/-- tests -/
theorem iteD {p A B : Prop} [Decidable p] (h1 : p → A) (h2 : ¬ p → B) : if decide p = true then A else B := by
  by_cases h : p
  · rw [if_pos (decide_eq_true h)]
    exact h1 h
  · rw [if_neg (by rw [decide_eq_false h]; exact Bool.false_ne_true)]
    exact h2 h
theorem iteN {p A B : Prop} [Decidable p] (h1 : ¬ p → A) (h2 : p → B) : if (!decide p) = true then A else B := by
  by_cases h : p
  · rw [if_neg (by rw [decide_eq_true h]; exact Bool.false_ne_true)]
    exact h2 h
  · rw [if_pos (by rw [decide_eq_false h]; rfl)]
    exact h1 h
theorem iteI {i j : Int} {A B : Prop} (h1 : i = j → A) (h2 : i ≠ j → B) : if decide (V.int i = V.int j) = true then A else B := iteD (fun e => h1 (V.int.inj e)) fun n => h2 fun e => n (by rw [e])
theorem iteNI {i j : Int} {A B : Prop} (h1 : i ≠ j → A) (h2 : i = j → B) : if (!decide (V.int i = V.int j)) = true then A else B := iteN (fun n => h1 fun e => n (by rw [e])) fun e => h2 (V.int.inj e)
theorem iteB {b : Bool} {A B : Prop} (h1 : b = true → A) (h2 : b = false → B) : if b = true then A else B := by
  cases b with
  | true => exact iteT (h1 rfl)
  | false => exact iteF (h2 rfl)
theorem iteNB {b : Bool} {A B : Prop} (h1 : b = false → A) (h2 : b = true → B) : if (!b) = true then A else B := by
  cases b with
  | true => exact iteF (h2 rfl)
  | false => exact iteT (h1 rfl)
theorem rn1 {a : Addr} {A B : Prop} (h : B) : if decide (V.ref a = V.non) = true then A else B := h
theorem in1 {i : Int} {A B : Prop} (h : B) : if decide (V.int i = V.non) = true then A else B := h
theorem sn1 {i : Str} {A B : Prop} (h : B) : if decide (V.str i = V.non) = true then A else B := h
theorem bn1 {i : Bool} {A B : Prop} (h : B) : if decide (V.bl i = V.non) = true then A else B := h
theorem nn1 {A B : Prop} (h : A) : if decide (V.non = V.non) = true then A else B := h
theorem rn2 {a : Addr} {A B : Prop} (h : A) : if (!decide (V.ref a = V.non)) = true then A else B := h
theorem in2 {i : Int} {A B : Prop} (h : A) : if (!decide (V.int i = V.non)) = true then A else B := h
theorem sn2 {i : Str} {A B : Prop} (h : A) : if (!decide (V.str i = V.non)) = true then A else B := h
theorem bn2 {i : Bool} {A B : Prop} (h : A) : if (!decide (V.bl i = V.non)) = true then A else B := h
theorem nn2 {A B : Prop} (h : B) : if (!decide (V.non = V.non)) = true then A else B := h
theorem nt1 {A B : Prop} (h : B) : if (!true) = true then A else B := h
theorem nf1 {A B : Prop} (h : A) : if (!false) = true then A else B := h
theorem pick {c A B : Prop} [Decidable c] (hc : c) (h : A) : if c then A else B := by
  rw [if_pos hc]
  exact h
theorem skip {c A B : Prop} [Decidable c] (hc : ¬ c) (h : B) : if c then A else B := by
  rw [if_neg hc]
  exact h
end
/-! ### calls: a def with all that a caller needs -/
section
variable {P : Program} {w : World} {K : PySem.W.Frag} {mg : Str → Option Value} {base : Heap}
/-- the def of this name stands as the text says -/
def Def (K : PySem.W.Frag) (mg : Str → Option Value) (x : Str) (st : Stmt) (ps : List Str) : Prop := ∃ f fd, Fun K x x st f fd ∧ mg x = some (.ref f) ∧ Binds K fd ps []
/-- the def of this name keeps this promise -/
def Cal (P : Program) (w : World) (K : PySem.W.Frag) (mg : Str → Option Value) (base : Heap) (k : Nat) (x : Str) (ps : List Str) (sp : Sp) : Prop :=
  ∃ f fd, FnOk P w K mg base CX0 k f fd ps sp ∧ mg x = some (.ref f) ∧ PySem.W.keepIn K (.ref f) = true ∧ Binds K fd ps []
theorem Def.ok {x : Str} {st : Stmt} {ps N : List Str} {k : Nat} {sp : Sp} (F : Def K mg x st ps) (S : FnScope N ps (defScope st)) (len : ∀ vs H Q E, sp vs H Q E → vs.length = ps.length)
    (hbody : ∀ (f : Addr) (cdv : Value) (A : Around) (outer : List Env) (s : Shared) (H : Hp) (vs : List V) (Q : VK) (E : XK), Room k (A.deeper (envOfC x (defScope st) s.heap.objs.size f cdv)) → sp vs H Q E →
      ∃ t, PSs (cxOf CX0 P w K mg base N x (defScope st) f cdv A outer s H E).nox (defBody st) t ∧ t { nx := fun _ H' => Q .non H', rt := Q } (start N vs) H) : Cal P w K mg base (k + 1) x ps sp := by
  obtain ⟨f, fd, F, m, b⟩ := F
  exact ⟨f, fd, F.ok S len (fun cdv A outer s H vs Q E hr h => hbody f cdv A outer s H vs Q E hr h), m, F.kp, b⟩
theorem Cal.mono {x : Str} {ps : List Str} {j k : Nat} {sp : Sp} (C : Cal P w K mg base j x ps sp) (h : j ≤ k) : Cal P w K mg base k x ps sp := by
  obtain ⟨f, fd, F, r⟩ := C
  exact ⟨f, fd, F.mono h, r⟩
theorem Cal.imp {x : Str} {ps : List Str} {k : Nat} {sp sp' : Sp} (C : Cal P w K mg base k x ps sp) (h : ∀ vs H Q E, sp' vs H Q E → sp vs H Q E) : Cal P w K mg base k x ps sp' := by
  obtain ⟨f, fd, F, r⟩ := C
  exact ⟨f, fd, F.imp h, r⟩
end
theorem pe_cal {X : Cx} {e : Expr} {es : List Expr} {t : TA} {p pos : Pos} {j k : Nat} {x : Str} {ps : List Str} {sp : Sp} (C : Cal X.prog X.w X.K X.mg X.base j x ps sp) (hr : Room k X.A) (ha : PA X (e :: es) t) (hk : j ≤ k := by decide) (hg : Gl X x := by rfl)
    (hdb : (x == ("__debug__" : Str)) = false := by decide) (he : starEach (e :: es) X.env = (false, eval e X.env) :: starEach es X.env := by rfl) (hpl : (backTo pos (starEach es X.env)).any (·.1) = false := by rfl) :
    PE X (.Call (.Name x p) (e :: es) [] pos) (tCall sp [] E0 t) := by
  obtain ⟨f, fd, F, m, kp, b⟩ := C
  exact pe_call F (hr.mono hk) hg m kp b .nil pass0 ha hdb he hpl
theorem pe_cal0 {X : Cx} {p pos : Pos} {j k : Nat} {x : Str} {sp : Sp} (C : Cal X.prog X.w X.K X.mg X.base j x [] sp) (hr : Room k X.A) (hk : j ≤ k := by decide) (hg : Gl X x := by rfl)
    (hdb : (x == ("__debug__" : Str)) = false := by decide) :
    PE X (.Call (.Name x p) [] [] pos) (tCall sp [] E0 tNil) := by
  obtain ⟨f, fd, F, m, kp, b⟩ := C
  exact pe_call0 F (hr.mono hk) hg m kp b .nil pass0 hdb
/-- nothing is promised of a call that is never made -/
theorem Def.none {P : Program} {w : World} {K : PySem.W.Frag} {mg : Str → Option Value} {base : Heap} {x : Str} {st : Stmt} {ps : List Str} (D : Def K mg x st ps) : Cal P w K mg base 0 x ps fun _ _ _ _ => False := by
  obtain ⟨f, fd, F, m, b⟩ := D
  exact ⟨f, fd, ⟨fun _ _ _ _ h => h.elim, fun _ _ _ _ _ _ _ _ _ _ _ _ _ h => h.elim⟩, m, F.kp, b⟩
/-- what the top has left of a def -/
theorem def_mk {K : PySem.W.Frag} {mg : Str → Option Value} {h : Heap} {x : Str} {st : Stmt} {ps : List Str} {f : Addr} {oc : Value} {od an : Option Addr} {osl : Array (Option Value)} {kV dc pm cdv ct : Value} (X : K.In h) (G : h.Ns mainGlobals mg)
    (a : PySem.W.nsIn K mainGlobals x = some (some (.ref f))) (l : K.lookup f = some ⟨oc, od, .func (PySem.W.fnOf x x (defArgs st) (defBody st) (defScope st) .none kV dc pm an cdv ct), osl⟩) (c : PySem.W.codeIn K cdv x = true) (k : PySem.W.keepIn K (.ref f) = true)
    (hb : ∀ (kV doc pm : Value) (an : Option Addr) (cdv ct : Value) (us : List Value), us.length = ps.length → bindArgs (PySem.W.fnOf x x (defArgs st) (defBody st) (defScope st) .none kV doc pm an cdv ct) ⟨us, []⟩ = pure (ps.zip us)) : Def K mg x st ps :=
  ⟨f, _, fun_mk l c k, PySem.W.mg_of X G a, (fun_mk l c k).binds hb⟩
end Rd
namespace Rd
open PySem PySem.Spec PyProof.Rows L2
/-! ### built-ins with a reading of their own name -/
def rIntI : List V → Hp → VK → Prop := fun xs H Q => ∃ i, xs = [.int i] ∧ Q (.int i) H
def rIntB : List V → Hp → VK → Prop := fun xs H Q => ∃ k, xs = [.bl k] ∧ Q (.int (if k then 1 else 0)) H
def rLenQ (K : PySem.W.Frag) : List V → Hp → VK → Prop := fun xs H Q => ∃ p ys, xs = [.ref p] ∧ (SqL K H p ys ∨ SqT K H p ys) ∧ Q (.int ys.length) H
def rLenZ : List V → Hp → VK → Prop := fun xs H Q => ∃ z, xs = [.str z] ∧ z.length ≤ sizeLine ∧ Q (.int z.length) H
def rListQ (K : PySem.W.Frag) : List V → Hp → VK → Prop := fun xs H Q => ∃ p ys, xs = [.ref p] ∧ (SqL K H p ys ∨ SqT K H p ys) ∧ ∀ l, H l = none → Q (.ref l) (upd H l (.lst ys))
def rTupQ (K : PySem.W.Frag) : List V → Hp → VK → Prop := fun xs H Q => ∃ p ys, xs = [.ref p] ∧ SqL K H p ys ∧ ∀ l, H l = none → Q (.ref l) (upd H l (.tup ys))
def rMaxQ : List V → Hp → VK → Prop := fun xs H Q => ∃ i j, xs = [.int i, .int j] ∧ Q (.int (if j > i then j else i)) H
def rMinQ : List V → Hp → VK → Prop := fun xs H Q => ∃ i j, xs = [.int i, .int j] ∧ Q (.int (if j < i then j else i)) H
def rAbsQ : List V → Hp → VK → Prop := fun xs H Q => ∃ i, xs = [.int i] ∧ Q (.int (if i < 0 then -i else i)) H
def rStrQ : List V → Hp → VK → Prop := fun xs H Q => ∃ i, xs = [.int i] ∧ i.natAbs.log2 < 1920 ∧ Q (.str (toString i)) H
def rAddZ : R2 := fun x y H Q => ∃ i j, x = .str i ∧ y = .str j ∧ i.length + j.length ≤ sizeLine ∧ Q (.str (i ++ j)) H
def rInZ : R2 := fun x y H Q => ∃ (c : Nat) (z : Str), x = .str ⟨#[c]⟩ ∧ y = .str z ∧ Q (.bl (decide (c ∈ z.cps.toList))) H
def rNiZ : R2 := fun x y H Q => ∃ (c : Nat) (z : Str), x = .str ⟨#[c]⟩ ∧ y = .str z ∧ Q (.bl (!decide (c ∈ z.cps.toList))) H
def rLtZ : R2 := fun x y H Q => ∃ i j, x = .str i ∧ y = .str j ∧ Q (.bl (decide (i.cps.toList < j.cps.toList))) H
def rIsN : R2 := fun x y H Q => y = .non ∧ Q (.bl (decide (x = .non))) H
def rNoN : R2 := fun x y H Q => y = .non ∧ Q (.bl (!decide (x = .non))) H
section
variable {X : Cx}
theorem q_intI : CallR X (.type "int") rIntI := fun pins s σ H xs us Q I r h => call_int1 pins s σ H xs us Q I r (.inl h)
theorem q_intB : CallR X (.type "int") rIntB := fun pins s σ H xs us Q I r h => call_int1 pins s σ H xs us Q I r (.inr h)
theorem q_len : CallR X (.builtin "len") (rLenQ X.K) := call_len_seq
theorem q_lenZ : CallR X (.builtin "len") rLenZ := call_len_str
theorem q_list : CallR X (.type "list") (rListQ X.K) := call_list_of
theorem q_tup : CallR X (.type "tuple") (rTupQ X.K) := fun pins s σ H xs us Q I r ⟨p, ys, e, h, q⟩ => call_tuple_of pins s σ H xs us Q I r ⟨p, ys, e, .inl ⟨h, q⟩⟩
theorem q_max (hc : X.calm = true) : CallR X (.builtin "max") rMaxQ := call_max2 hc
theorem q_min (hc : X.calm = true) : CallR X (.builtin "min") rMinQ := call_min2 hc
theorem q_abs : CallR X (.builtin "abs") rAbsQ := call_abs
theorem q_str : CallR X (.type "str") rStrQ := call_str_int
theorem o_addZ : OpR X (binaryOp .Add) rAddZ := op_add_str
theorem o_inZ : OpR X (compareOp .In) rInZ := op_in_sign
theorem o_niZ : OpR X (compareOp .NotIn) rNiZ := op_notIn_sign
theorem o_ltZ : OpR X (compareOp .Lt) rLtZ := op_lt_str
theorem o_isN : OpR X (compareOp .Is) rIsN := op_isN
theorem o_noN : OpR X (compareOp .IsNot) rNoN := op_notN
end
section
variable {K : PySem.W.Frag} {D : Ends} {σ σ' : L2.St} {H : Hp} {Q : VK} {to ti te tb : TE} {t : TSet} {v x y : V} {p q : Addr} {xs ys : List V} {i j k : Int} {a b' : Str} {n b c : L2.St → Hp → Prop} {rr : VK}
theorem intI (h : Q (.int i) H) : rIntI [.int i] H Q := ⟨i, rfl, h⟩
theorem intB {c : Bool} (h : Q (.int (if c then 1 else 0)) H) : rIntB [.bl c] H Q := ⟨c, rfl, h⟩
theorem lenQ (h : SqL K H p xs ∨ SqT K H p xs) (g : Q (.int xs.length) H) : rLenQ K [.ref p] H Q := ⟨p, xs, rfl, h, g⟩
theorem lenZ (h : a.length ≤ sizeLine) (g : Q (.int a.length) H) : rLenZ [.str a] H Q := ⟨a, rfl, h, g⟩
theorem listQ (h : SqL K H p xs ∨ SqT K H p xs) (g : ∀ l, H l = none → Q (.ref l) (upd H l (.lst xs))) : rListQ K [.ref p] H Q := ⟨p, xs, rfl, h, g⟩
theorem tupQ (h : SqL K H p xs) (g : ∀ l, H l = none → Q (.ref l) (upd H l (.tup xs))) : rTupQ K [.ref p] H Q := ⟨p, xs, rfl, h, g⟩
theorem maxQ (h : Q (.int (if j > i then j else i)) H) : rMaxQ [.int i, .int j] H Q := ⟨i, j, rfl, h⟩
theorem minQ (h : Q (.int (if j < i then j else i)) H) : rMinQ [.int i, .int j] H Q := ⟨i, j, rfl, h⟩
theorem absQ (h : Q (.int (if i < 0 then -i else i)) H) : rAbsQ [.int i] H Q := ⟨i, rfl, h⟩
theorem strQ (c : i.natAbs.log2 < 1920) (h : Q (.str (toString i)) H) : rStrQ [.int i] H Q := ⟨i, rfl, c, h⟩
theorem addZ (c : a.length + b'.length ≤ sizeLine) (h : Q (.str (a ++ b')) H) : rAddZ (.str a) (.str b') H Q := ⟨a, b', rfl, rfl, c, h⟩
theorem inZ {c : Nat} (h : Q (.bl (decide (c ∈ a.cps.toList))) H) : rInZ (.str ⟨#[c]⟩) (.str a) H Q := ⟨c, a, rfl, rfl, h⟩
theorem niZ {c : Nat} (h : Q (.bl (!decide (c ∈ a.cps.toList))) H) : rNiZ (.str ⟨#[c]⟩) (.str a) H Q := ⟨c, a, rfl, rfl, h⟩
theorem ltZ (h : Q (.bl (decide (a.cps.toList < b'.cps.toList))) H) : rLtZ (.str a) (.str b') H Q := ⟨a, b', rfl, rfl, h⟩
theorem isN (h : Q (.bl (decide (x = .non))) H) : rIsN x .non H Q := ⟨rfl, h⟩
theorem noN (h : Q (.bl (!decide (x = .non))) H) : rNoN x .non H Q := ⟨rfl, h⟩
theorem ixL (h : SqL K H p xs) (e : atI xs i = some v) (g : Q v H) : rIxL K (.ref p) (.int i) H Q := ⟨p, xs, i, v, rfl, rfl, h, e, g⟩
theorem ixI {ns : List Int} (h : SqL K H p (ns.map V.int)) (h0 : 0 ≤ i) (h1 : i < ((ns.map V.int).length : Int)) (g : ∀ z, z ∈ ns → Q (.int z) H) : rIxL K (.ref p) (.int i) H Q := by
  rw [List.length_map] at h1
  have hj : i.toNat < ns.length := by omega
  have e : atI (ns.map V.int) ((i.toNat : Nat) : Int) = some (.int ns[i.toNat]) := atI_nat (by rw [List.getElem?_map, List.getElem?_eq_getElem hj]; rfl)
  rw [show ((i.toNat : Nat) : Int) = i by omega] at e
  exact ⟨p, _, i, _, rfl, rfl, h, e, g _ (List.getElem_mem hj)⟩
theorem ixT (h : SqT K H p xs) (e : atI xs i = some v) (g : Q v H) : rIxT K (.ref p) (.int i) H Q := ⟨p, xs, i, v, rfl, rfl, h, e, g⟩
theorem ixZ {c : Nat} (h : a.length ≤ sizeLine) (e : atI a.cps.toList i = some c) (g : Q (.str ⟨#[c]⟩) H) : rIxS (.str a) (.int i) H Q := ⟨a, i, c, rfl, rfl, h, e, g⟩
theorem gsub {P : L2.St → Hp → Prop} (h : to σ H fun o H1 => ti σ H1 fun i H2 => t o i v H2 fun H3 => P σ H3) : gSub to ti t v σ H P := h
theorem setL {P : Hp → Prop} {j : Nat} (h : H p = some (.lst xs)) (e : ixN xs.length k = some j) (e2 : xs.set j v = ys) (g : P (upd H p (.lst ys))) : rSetL (.ref p) (.int k) v H P := by
  subst e2
  exact ⟨p, xs, k, j, rfl, rfl, h, e, g⟩
theorem append (h : H p = some (.lst xs)) (c : xs.length < sizeLine) (g : Q .non (upd H p (.lst (xs ++ [y])))) : rAppend (.ref p) [y] H Q := ⟨p, xs, y, rfl, rfl, h, c, g⟩
theorem pop (h : H p = some (.lst xs)) (e : xs[xs.length - 1]? = some y) (g : Q y (upd H p (.lst xs.dropLast))) : rPop (.ref p) [] H Q := ⟨p, xs, y, rfl, rfl, h, e, g⟩
theorem cat (h : H p = some (.lst xs)) (h' : H q = some (.lst ys)) (c : xs.length + ys.length ≤ sizeLine) (g : ∀ l, H l = none → Q (.ref l) (upd H l (.lst (xs ++ ys)))) : rCat (.ref p) (.ref q) H Q := ⟨p, q, xs, ys, rfl, rfl, h, h', c, g⟩
theorem bm {T : String} {r : V → List V → Hp → VK → Prop} {ts : TA} (h : to σ H fun x H1 => tyV K T x H1 ∧ ts σ H1 fun xs H2 => r x xs H2 Q) : tBM K T r to ts σ H Q := h
theorem bm0 {T : String} {r : V → List V → Hp → VK → Prop} (h : to σ H fun x H1 => tyV K T x H1 ∧ r x [] H1 Q) : tBM0 K T r to σ H Q := h
theorem tyL {B : Prop} (h : H p = some (.lst xs)) (g : B) : tyV K "list" (.ref p) H ∧ B := ⟨.inl ⟨rfl, _, .inl (.inl h)⟩, g⟩
theorem gtup {n : Nat} {t : TGs} {P : L2.St → Hp → Prop} (h : SqT K H p xs) (e : xs.length = n) (g : t xs σ H P) : gTup K n t (.ref p) σ H P := ⟨p, xs, rfl, h, e, g⟩
theorem gnil {P : L2.St → Hp → Prop} (h : P σ H) : gNil [] σ H P := ⟨rfl, h⟩
theorem gcons {t : TG} {u : TGs} {P : L2.St → Hp → Prop} (h : t v σ H fun σ' H' => u xs σ' H' P) : gCons t u (v :: xs) σ H P := ⟨v, xs, rfl, h⟩
theorem par {i j : Nat} {ta : TA} (h : ta σ H fun vs H1 => ∃ v w, vs = [v, w] ∧ n ((σ.set i (some v)).set j (some w)) H1) : tPar i j ta ⟨n, rr, b, c⟩ σ H := h
theorem expar {P' : V → V → Prop} (h : P' x y) : ∃ v w, [x, y] = [v, w] ∧ P' v w := ⟨x, y, rfl, h⟩
theorem aug {i : Nat} {ti : TIp} (e : σ[i]? = some (some x)) (h : te σ H fun y H1 => ti x y H1 fun z H2 => n (σ.set i (some z)) H2) : tAug i te ti ⟨n, rr, b, c⟩ σ H := ⟨x, e, h⟩
theorem ipi {f : Int → Int → Int} (h : Q (.int (f i j)) H) : ipI f (.int i) (.int j) H Q := ⟨i, j, rfl, rfl, h⟩
theorem slice {r : V → Option Int → Option Int → Hp → VK → Prop} {tl th : TO} (h : te σ H fun x H1 => tl σ H1 fun l H2 => th σ H2 fun u H3 => r x l u H3 Q) : tSl r te tl th σ H Q := h
theorem noPart {P : Option Int → Hp → Prop} (h : P none H) : tNoPart σ H P := h
theorem part {P : Option Int → Hp → Prop} (h : te σ H fun x H1 => ∃ i, x = .int i ∧ P (some i) H1) : tPart te σ H P := h
theorem slL {lo hi : Option Int} (h : SqL K H p xs) (g : ∀ l, H l = none → Q (.ref l) (upd H l (.lst (cutV xs lo hi)))) : rSlL K (.ref p) lo hi H Q := ⟨p, xs, rfl, h, g⟩
theorem slZ {lo hi : Option Int} (h : a.length ≤ sizeLine) (g : Q (.str (cutS a lo hi)) H) : rSlS (.str a) lo hi H Q := ⟨a, rfl, h, g⟩
theorem exint {P' : Int → Prop} (h : P' i) : ∃ j, V.int i = V.int j ∧ P' j := ⟨i, rfl, h⟩
/-- what a loop walks -/
theorem iseq {R : It → Hp → Prop} (h : te σ H fun x H1 => ∃ a, x = .ref a ∧ (∃ xs, SqL K H1 a xs) ∧ R (Itl K a) H1) : iList K te σ H R := h
theorem exlst {P' : Addr → Prop} (h : SqL K H p ys) (g : P' p) : ∃ a, V.ref p = V.ref a ∧ (∃ zs, SqL K H a zs) ∧ P' a := ⟨p, rfl, ⟨ys, h⟩, g⟩
theorem irng1 {ta : TA} {R : It → Hp → Prop} (h : ta σ H fun vs H1 => ∃ j : Int, vs = [.int j] ∧ -(2 ^ 62) ≤ j ∧ j < 2 ^ 62 ∧ R (Itr 0 j.toNat) H1) : iRng1 ta σ H R := h
theorem exrng1 {P' : Int → Prop} (c : -(2 ^ 62) ≤ i ∧ i < 2 ^ 62) (h : P' i) : ∃ j : Int, [V.int i] = [V.int j] ∧ -(2 ^ 62) ≤ j ∧ j < 2 ^ 62 ∧ P' j := ⟨i, rfl, c.1, c.2, h⟩
theorem irng2 {ta : TA} {R : It → Hp → Prop} (h : ta σ H fun vs H1 => ∃ i j : Int, vs = [.int i, .int j] ∧ (-(2 ^ 62) ≤ i ∧ i < 2 ^ 62 ∧ -(2 ^ 62) ≤ j ∧ j < 2 ^ 62) ∧ R (Itr i (j - i).toNat) H1) : iRng2 ta σ H R := h
theorem exrng2 {P' : Int → Int → Prop} (c : -(2 ^ 62) ≤ i ∧ i < 2 ^ 62 ∧ -(2 ^ 62) ≤ j ∧ j < 2 ^ 62) (h : P' i j) : ∃ a b : Int, [V.int i, V.int j] = [V.int a, V.int b] ∧ (-(2 ^ 62) ≤ a ∧ a < 2 ^ 62 ∧ -(2 ^ 62) ≤ b ∧ b < 2 ^ 62) ∧ P' a b := ⟨i, j, rfl, c, h⟩
end
end Rd
/-! ### loops and comprehensions, what is walked apart from what is done -/
namespace Rd
open PySem PySem.Spec PyProof.Rows L2
/-- a for over a walk that has begun; a comprehension over one -/
def ForB (J : It) (g : TG) (tb : TS) (D : Ends) (σ : L2.St) (H : Hp) : Prop := tFor (fun _ H1 R => R J H1) g tb D σ H
def LcB (J : It) (g : TG) (tt : TT) (te : TE) (vs : List Nat) (σ : L2.St) (H : Hp) (Q : VK) : Prop := tLc (fun _ H1 R => R J H1) g tt te vs σ H Q
section
variable {K : PySem.W.Frag} {wi : TI} {g : TG} {tb : TS} {D : Ends} {σ : L2.St} {H : Hp} {tt : TT} {te : TE} {vs : List Nat} {Q : VK} {a : Addr} {xs : List V} {n b c : L2.St → Hp → Prop} {rr : VK} {lo : Int} {m : Nat} {P : Prop}
theorem forX (h : wi σ H fun J H1 => ForB J g tb D σ H1) : tFor wi g tb D σ H := h
theorem lcX (h : wi σ H fun J H1 => LcB J g tt te vs σ H1 Q) : tLc wi g tt te vs σ H Q := h
theorem forL (xs : List V) (Pv : Nat → L2.St → Hp → Prop) (h0 : Pv 0 σ H) (hl : ∀ i σ H, i ≤ xs.length → Pv i σ H → SqL K H a xs)
    (hs : ∀ i x σ H, xs[i]? = some x → Pv i σ H → g x σ H fun σ2 H2 => tb ⟨Pv (i + 1), rr, n, Pv (i + 1)⟩ σ2 H2) (hd : ∀ σ H, Pv xs.length σ H → n σ H) : ForB (Itl K a) g tb ⟨n, rr, b, c⟩ σ H :=
  for_list (D := ⟨n, rr, b, c⟩) Pv h0 hl hs hd
theorem forR (Pv : Nat → L2.St → Hp → Prop) (h0 : Pv 0 σ H)
    (hs : ∀ i σ H, i < m → Pv i σ H → g (.int (lo + i)) σ H fun σ2 H2 => tb ⟨Pv (i + 1), rr, n, Pv (i + 1)⟩ σ2 H2) (hd : ∀ σ H, Pv m σ H → n σ H) : ForB (Itr lo m) g tb ⟨n, rr, b, c⟩ σ H :=
  for_range (D := ⟨n, rr, b, c⟩) Pv h0 hs hd
/-- what a comprehension's turn is to do, at the new list L -/
def Turn1 (g : TG) (tt : TT) (te : TE) (vs : List Nat) (σ : L2.St) (L : Addr) (x : V) (h : Hp) (Nx : Hp → Prop) : Prop :=
  g x (wipe σ vs) h fun σ2 h2 => wipe σ2 vs = wipe σ vs ∧
    tt σ2 h2 fun k h3 => if k = true then (te σ2 h3 fun y h4 => ∃ out, h4 L = some (.lst out) ∧ out.length < sizeLine ∧ Nx (upd h4 L (.lst (out ++ [y])))) else Nx h3
theorem lcL (xs : List V) (f : ∀ L, H L = none → ∃ Pv : Nat → Hp → Prop, Pv 0 (upd H L (.lst [])) ∧ (∀ i h, i ≤ xs.length → Pv i h → SqL K h a xs) ∧
    (∀ i x h, xs[i]? = some x → Pv i h → Turn1 g tt te vs σ L x h (Pv (i + 1))) ∧ ∀ h, Pv xs.length h → Q (.ref L) h) : LcB (Itl K a) g tt te vs σ H Q := fun L hL => by
  obtain ⟨Pv, h0, hl, hs, hd⟩ := f L hL
  exact lc_list (Qd := Q (.ref L)) Pv h0 hl hs hd
theorem lcR (f : ∀ L, H L = none → ∃ Pv : Nat → Hp → Prop, Pv 0 (upd H L (.lst [])) ∧
    (∀ i h, i < m → Pv i h → Turn1 g tt te vs σ L (.int (lo + i)) h (Pv (i + 1))) ∧ ∀ h, Pv m h → Q (.ref L) h) : LcB (Itr lo m) g tt te vs σ H Q := fun L hL => by
  obtain ⟨Pv, h0, hs, hd⟩ := f L hL
  exact lc_range (Qd := Q (.ref L)) Pv h0 hs hd
theorem turn1 {L : Addr} {x : V} {h : Hp} {Nx : Hp → Prop} (q : g x (wipe σ vs) h fun σ2 h2 => wipe σ2 vs = wipe σ vs ∧
    tt σ2 h2 fun k h3 => if k = true then (te σ2 h3 fun y h4 => ∃ out, h4 L = some (.lst out) ∧ out.length < sizeLine ∧ Nx (upd h4 L (.lst (out ++ [y])))) else Nx h3) : Turn1 g tt te vs σ L x h Nx := q
theorem andI {A B : Prop} (h1 : A) (h2 : B) : A ∧ B := ⟨h1, h2⟩
theorem yes {Q' : Bool → Hp → Prop} (h : Q' true H) : tYes σ H Q' := h
theorem irR {ta : TA} {R : It → Hp → Prop} (h : ta σ H fun vs H1 => ∃ j : Int, vs = [.int j] ∧ -(2 ^ 62) ≤ j ∧ j < 2 ^ 62 ∧ R (Itr 0 j.toNat) H1) : iRng1 ta σ H R := h
/-- an item of a list of ints -/
theorem int_at {ns : List Int} {i : Nat} {x : V} (h : (ns.map V.int)[i]? = some x) : ∃ z, ns[i]? = some z ∧ x = .int z := by
  rw [List.getElem?_map] at h
  cases e : ns[i]? with
  | none =>
    rw [e] at h
    cases h
  | some z =>
    rw [e] at h
    exact ⟨z, rfl, (Option.some.inj h).symm⟩
theorem same_upd {H : Hp} {p : Addr} {o : HO} (h : H p = none) : Same H (upd H p o) := fun b x e => by
  rw [upd_ne (ne_of_none e h)]
  exact e
/-- a new object stands beside what stood -/
theorem new_ne {H : Hp} {p q : Addr} {o : HO} (h : H p = some o) (h' : H q = none) : q ≠ p := fun e => by
  rw [e, h] at h'
  cases h'
theorem free_of {H H' : Hp} {p : Addr} (h : H' p = none) (k : ∀ b o, H b = some o → H' b = some o) : H p = none := by
  cases e : H p with
  | none => rfl
  | some o =>
    rw [k p o e] at h
    cases h
end
end Rd
namespace Rd
open PySem PySem.Spec PyProof.Rows L2
section
variable {K : PySem.W.Frag} {D : Ends} {σ : L2.St} {H : Hp} {te ta tb : TE} {Q : VK} {p : Addr} {xs : List V} {i j : Int}
theorem lstRev (h : te σ H fun v h => ∃ a zs, v = .ref a ∧ SqL K h a zs ∧ ∀ q, h q = none → Q (.ref q) (upd h q (.lst zs.reverse))) : tLstRev K te σ H Q := h
theorem exrev {P' : List V → Prop} (h : SqL K H p xs) (g : P' xs) : ∃ a zs, V.ref p = V.ref a ∧ SqL K H a zs ∧ P' zs := ⟨p, xs, rfl, h, g⟩
theorem lstRg {tr : L2.St → Hp → (Int → Int → Hp → Prop) → Prop} (h : tr σ H fun a b H1 => RgOk a b ∧ ∀ q, H1 q = none → Q (.ref q) (upd H1 q (.lst (rgV a b)))) : tLstRg tr σ H Q := h
theorem rg1 {P' : Int → Int → Hp → Prop} (h : ta σ H fun x H1 => ∃ m, x = .int m ∧ P' 0 m H1) : tRg1 ta σ H P' := h
theorem rg2 {P' : Int → Int → Hp → Prop} (h : ta σ H fun x H1 => tb σ H1 fun y H2 => ∃ a b, x = .int a ∧ y = .int b ∧ P' a b H2) : tRg2 ta tb σ H P' := h
theorem exint2 {P' : Int → Int → Prop} (h : P' i j) : ∃ a b, V.int i = V.int a ∧ V.int j = V.int b ∧ P' a b := ⟨i, j, rfl, rfl, h⟩
/-- an item at an open place -/
theorem ixN' {i : Int} {x : V} (h : SqL K H p xs) (h0 : 0 ≤ i) (h1 : xs[i.toNat]? = some x) (g : Q x H) : rIxL K (.ref p) (.int i) H Q := by
  have e : atI xs ((i.toNat : Nat) : Int) = some x := atI_nat h1
  rw [show ((i.toNat : Nat) : Int) = i by omega] at e
  exact ⟨p, xs, i, x, rfl, rfl, h, e, g⟩
theorem ixT' {i : Int} {x : V} (h : SqT K H p xs) (h0 : 0 ≤ i) (h1 : xs[i.toNat]? = some x) (g : Q x H) : rIxT K (.ref p) (.int i) H Q := by
  have e : atI xs ((i.toNat : Nat) : Int) = some x := atI_nat h1
  rw [show ((i.toNat : Nat) : Int) = i by omega] at e
  exact ⟨p, xs, i, x, rfl, rfl, h, e, g⟩
theorem setN' {P' : Hp → Prop} {k : Int} {v : V} (h : H p = some (.lst xs)) (h0 : 0 ≤ k) (h1 : k < (xs.length : Int)) (g : P' (upd H p (.lst (xs.set k.toNat v)))) : rSetL (.ref p) (.int k) v H P' := by
  refine ⟨p, xs, k, k.toNat, rfl, rfl, h, ?_, g⟩
  unfold ixN
  rw [if_pos h0, if_pos h1]
end
theorem swap_perm {α : Type} {l : List α} {i j : Nat} {x y : α} (hx : l[i]? = some x) (hy : l[j]? = some y) : ((l.set i y).set j x).Perm l := by
  obtain ⟨hi, e1⟩ := List.getElem?_eq_some_iff.mp hx
  obtain ⟨hj, e2⟩ := List.getElem?_eq_some_iff.mp hy
  rw [← e1, ← e2]
  exact List.set_set_perm hi hj
end Rd
/-! ### data, and what isinstance says of it -/
namespace Rd
open PySem PySem.Spec PyProof.Rows L2
def tys : List String := ["NoneType", "bool", "int", "str", "list", "tuple", "dict"]
def isT (t T : String) : Bool := t == T || (t == "bool" && T == "int")
theorem kit_all : ∀ t ∈ tys, ∀ T ∈ tys.tail, kitB t T = some (isT t T) := by decide +kernel
def tn : PyData → String
  | .none => "NoneType"
  | .bool _ => "bool"
  | .int _ => "int"
  | .str _ => "str"
  | .list _ => "list"
  | .tuple _ => "tuple"
  | .dict _ => "dict"
section
variable {K : PySem.W.Frag} {H : Hp} {x y : V} {d : PyData} {a : Addr} {xs : List V} {Q : VK}
theorem tyL' (h : SqL K H a xs) : TyX K H (.ref a) (.type "list") := by
  rcases h with (h | ⟨o, h⟩) | ⟨o, its, n, h, c, _⟩
  · exact .base (.lst h)
  · exact .base (.frz h)
  · exact .kList h c
theorem tyT' (h : SqT K H a xs) : TyX K H (.ref a) (.type "tuple") := by
  rcases h with (h | ⟨o, h⟩) | ⟨o, its, n, h, c, _⟩
  · exact .base (.tup h)
  · exact .fTuple h
  · exact .kTuple h c
theorem isi {t T : String} {b : Bool} (ty : TyX K H x (.type t)) (ht : t ∈ tys) (hT : T ∈ tys.tail) (e : isT t T = b) (q : Q (.bl b) H) : rIsi K [x, .ty T] H Q := by
  subst e
  exact ⟨x, .ty T, _, _, _, rfl, .ty T, ty, kit_ty (kit_all t ht T hT), q⟩
theorem isiT {t T : String} (ty : TyX K H x (.type t)) (e : (t ∈ tys ∧ T ∈ tys.tail) ∧ isT t T = true) (q : Q (.bl true) H) : rIsi K [x, .ty T] H Q := isi ty e.1.1 e.1.2 e.2 q
theorem isiF {t T : String} (ty : TyX K H x (.type t)) (e : (t ∈ tys ∧ T ∈ tys.tail) ∧ isT t T = false) (q : Q (.bl false) H) : rIsi K [x, .ty T] H Q := isi ty e.1.1 e.1.2 e.2 q
theorem dp_ty (h : Dp K H x d) : TyX K H x (.type (tn d)) := by
  cases h with
  | non => exact .base .non
  | bl b => exact .base (.bl b)
  | int i => exact .base (.int i)
  | str s => exact .base (.str s)
  | lst h _ => exact tyL' h
  | tup h _ => exact tyT' h
end
/-- data no deeper than n, with short lists -/
inductive Fit : Nat → PyData → Prop
  | non {n : Nat} : Fit n .none
  | bl {n : Nat} (b : Bool) : Fit n (.bool b)
  | int {n : Nat} (i : Int) : Fit n (.int i)
  | str {n : Nat} (s : Str) : Fit n (.str s)
  | lst {n : Nat} {ds : List PyData} : ds.length ≤ 100000 → (∀ d ∈ ds, Fit n d) → Fit (n + 1) (.list ds)
  | tup {n : Nat} {ds : List PyData} : ds.length ≤ 100000 → (∀ d ∈ ds, Fit n d) → Fit (n + 1) (.tuple ds)
theorem Fit.mono {n m : Nat} {d : PyData} (h : Fit n d) (k : n ≤ m) : Fit m d := by
  induction h generalizing m with
  | non => exact .non
  | bl b => exact .bl b
  | int i => exact .int i
  | str s => exact .str s
  | lst l _ ih =>
    cases m with
    | zero => omega
    | succ m => exact .lst l fun d hd => ih d hd (by omega)
  | tup l _ ih =>
    cases m with
    | zero => omega
    | succ m => exact .tup l fun d hd => ih d hd (by omega)
section
variable {K : PySem.W.Frag} {H H' : Hp}
theorem sqT_same {a : Addr} {xs : List V} (e : Same H H') (h : SqT K H a xs) : SqT K H' a xs := by
  rcases h with (h | ⟨o, h⟩) | h
  · exact .inl (.inl (e _ _ h))
  · exact .inl (.inr ⟨o, e _ _ h⟩)
  · exact .inr h
theorem all_len : ∀ {vs : List V} {ds : List PyData}, DpAll K H vs ds → vs.length = ds.length
  | _, _, .nil => rfl
  | _, _, .cons _ r => by rw [List.length_cons, List.length_cons, all_len r]
theorem all_at' : ∀ (vs : List V) (ds : List PyData) (i : Nat) (d : PyData), DpAll K H vs ds → ds[i]? = some d → ∃ v, vs[i]? = some v ∧ Dp K H v d
  | _, [], _, _, _, e => by simp at e
  | [], _ :: _, _, _, h, _ => by cases h
  | v :: _, _ :: _, 0, _, h, e => by
    cases h with
    | cons a _ =>
      cases e
      exact ⟨v, rfl, a⟩
  | _ :: vs, _ :: ds, i + 1, d, h, e => by
    cases h with
    | cons _ r =>
      obtain ⟨v, ev, dv⟩ := all_at' vs ds i d r (by simpa using e)
      exact ⟨v, by simpa using ev, dv⟩
theorem all_at {vs : List V} {ds : List PyData} {i : Nat} {d : PyData} (h : DpAll K H vs ds) (e : ds[i]? = some d) : ∃ v, vs[i]? = some v ∧ Dp K H v d := all_at' vs ds i d h e
theorem all_append' : ∀ (vs : List V) (ds : List PyData) {ws : List V} {es : List PyData}, DpAll K H vs ds → DpAll K H ws es → DpAll K H (vs ++ ws) (ds ++ es)
  | [], [], _, _, _, h => h
  | _ :: vs, _ :: ds, _, _, h, h' => by
    cases h with
    | cons a r => exact .cons a (all_append' vs ds r h')
  | [], _ :: _, _, _, h, _ => by cases h
  | _ :: _, [], _, _, h, _ => by cases h
theorem all_append {vs ws : List V} {ds es : List PyData} (h : DpAll K H vs ds) (h' : DpAll K H ws es) : DpAll K H (vs ++ ws) (ds ++ es) := all_append' vs ds h h'
theorem all_mid {vs ws : List V} {ds es : List PyData} {v : V} {d : PyData} (h : DpAll K H vs ds) (a : Dp K H v d) (h' : DpAll K H ws es) : DpAll K H (vs ++ [v] ++ ws) (ds ++ d :: es) := by
  rw [List.append_assoc]
  exact all_append h (.cons a h')
mutual
theorem dp_same (e : Same H H') : ∀ {v : V} {d : PyData}, Dp K H v d → Dp K H' v d
  | _, _, .non => .non
  | _, _, .bl b => .bl b
  | _, _, .int i => .int i
  | _, _, .str s => .str s
  | _, _, .lst h r => .lst (e.seq h) (all_same e r)
  | _, _, .tup h r => .tup (sqT_same e h) (all_same e r)
theorem all_same (e : Same H H') : ∀ {v : List V} {d : List PyData}, DpAll K H v d → DpAll K H' v d
  | _, _, .nil => .nil
  | _, _, .cons h r => .cons (dp_same e h) (all_same e r)
end
end
end Rd
/-! ### signs and names -/
namespace Rd
open PySem PySem.Spec PyProof.Rows L2
abbrev cl (z : Str) : List Nat := z.cps.toList
theorem cl_len (z : Str) : (cl z).length = z.length := by simp [cl, Str.length]
theorem cl_add (a b : Str) : cl (a ++ b) = cl a ++ cl b := by
  show (a.cps ++ b.cps).toList = _
  rw [Array.toList_append]
theorem add_len (a b : Str) : (a ++ b).length = a.length + b.length := by
  rw [← cl_len, cl_add, List.length_append, cl_len, cl_len]
theorem cl_one (c : Nat) : cl ⟨#[c]⟩ = [c] := rfl
theorem one_len (c : Nat) : (⟨#[c]⟩ : Str).length = 1 := rfl
theorem cl_inj {a b : Str} (h : cl a = cl b) : a = b := by
  obtain ⟨⟨a⟩⟩ := a
  obtain ⟨⟨b⟩⟩ := b
  have h : a = b := h
  rw [h]
def Low (c : Nat) : Prop := 97 ≤ c ∧ c ≤ 122
def Aln (c : Nat) : Prop := Low c ∨ (48 ≤ c ∧ c ≤ 57)
instance (c : Nat) : Decidable (Low c) := inferInstanceAs (Decidable (_ ∧ _))
instance (c : Nat) : Decidable (Aln c) := inferInstanceAs (Decidable (_ ∨ _))
/-- the signs of a name -/
def Nm (l : List Nat) : Prop := ∃ c r, l = c :: r ∧ Low c ∧ ∀ x ∈ r, Aln x
theorem Nm.all {l : List Nat} (h : Nm l) : ∀ x ∈ l, Aln x := by
  obtain ⟨c, r, rfl, hc, hr⟩ := h
  intro x hx
  rcases List.mem_cons.mp hx with rfl | hx
  · exact .inl hc
  · exact hr x hx
theorem Nm.snoc {l : List Nat} (h : Nm l) {x : Nat} (a : Aln x) : Nm (l ++ [x]) := by
  obtain ⟨c, r, rfl, hc, hr⟩ := h
  refine ⟨c, r ++ [x], rfl, hc, fun y hy => ?_⟩
  rcases List.mem_append.mp hy with hy | hy
  · exact hr y hy
  · rw [List.mem_singleton.mp hy]
    exact a
theorem Nm.head {l : List Nat} (h : Nm l) : ∃ c, l[0]? = some c ∧ Low c := by
  obtain ⟨c, r, rfl, hc, _⟩ := h
  exact ⟨c, rfl, hc⟩
theorem sz5 {n : Nat} (h : n ≤ 100000) : n ≤ sizeLine := Nat.le_trans h (by decide)
theorem sz5' {n : Nat} (h : n ≤ 100000) : n < sizeLine := Nat.lt_of_le_of_lt h (by decide)
section
variable {K : PySem.W.Frag} {H : Hp} {Q : VK} {i : Int} {z : Str}
/-- a sign of a text, at an open place -/
theorem sign (hl : z.length ≤ 100000) (h0 : 0 ≤ i) (h1 : i < (z.length : Int)) (g : ∀ c, (cl z)[i.toNat]? = some c → c ∈ cl z → Q (.str ⟨#[c]⟩) H) : rIxS (.str z) (.int i) H Q := by
  have hj : i.toNat < (cl z).length := by
    rw [cl_len]
    omega
  have e1 := List.getElem?_eq_getElem hj
  have e : atI (cl z) ((i.toNat : Nat) : Int) = some (cl z)[i.toNat] := atI_nat e1
  rw [show ((i.toNat : Nat) : Int) = i by omega] at e
  exact ⟨z, i, _, rfl, rfl, sz5 hl, e, g _ e1 (List.getElem_mem hj)⟩
end
end Rd
namespace Rd
open PySem PySem.Spec PyProof.Rows L2
section
variable {σ : L2.St} {H : Hp} {cc : TT} {tb : TS} {n b c : L2.St → Hp → Prop} {rr : VK}
/-- a while by an invariant with a number that falls -/
theorem whileX (W : Nat → L2.St → Hp → Prop) (m0 : Nat) (h0 : W m0 σ H)
    (hs : ∀ m σ H, W m σ H → cc σ H fun k H1 => if k = true then ∃ N : L2.St → Hp → Prop, (∀ σ' H', N σ' H' → ∃ j, j < m ∧ W j σ' H') ∧ tb ⟨N, rr, n, N⟩ σ H1 else n σ H1) : tWhile cc tb ⟨n, rr, b, c⟩ σ H :=
  ⟨W, ⟨m0, h0⟩, hs⟩
theorem exN {m : Nat} {W : Nat → L2.St → Hp → Prop} (h : tb ⟨fun σ' H' => ∃ j, j < m ∧ W j σ' H', rr, n, fun σ' H' => ∃ j, j < m ∧ W j σ' H'⟩ σ H) :
    ∃ N : L2.St → Hp → Prop, (∀ σ' H', N σ' H' → ∃ j, j < m ∧ W j σ' H') ∧ tb ⟨N, rr, n, N⟩ σ H := ⟨_, fun _ _ z => z, h⟩
theorem lc0 {x : V} {xs : List V} {A B : Prop} (h : B) : if decide (V.int (((x :: xs).length : Nat) : Int) = V.int 0) = true then A else B := by
  rw [if_neg]
  · exact h
  · intro e
    have e := V.int.inj (of_decide_eq_true e)
    rw [List.length_cons] at e
    omega
theorem ln0 {A B : Prop} (h : A) : if decide (V.int ((([] : List V).length : Nat) : Int) = V.int 0) = true then A else B := h
end
end Rd
namespace Rd
theorem log_small {n : Int} (h0 : 0 ≤ n) (h1 : n ≤ 1000000) : n.natAbs.log2 < 1920 :=
  Nat.lt_trans (PySem.Flt.log2_lt_of (k := 20) (by decide) (by omega)) (by decide)
end Rd
namespace Rd
open PySem PySem.Spec PyProof.Rows L2
/-- ways that meet -/
theorem cut {t u : TS} {n b c : L2.St → Hp → Prop} {rr : VK} {σ : L2.St} {H : Hp} (Mid : L2.St → Hp → Prop) (h : t ⟨Mid, rr, b, c⟩ σ H) (k : ∀ σ' H', Mid σ' H' → u ⟨n, rr, b, c⟩ σ' H') : C8.tCut t u ⟨n, rr, b, c⟩ σ H := ⟨Mid, h, k⟩
end Rd
/-! ### data without lists stays where only lists are written -/
namespace Rd
open PySem PySem.Spec PyProof.Rows L2
inductive Tp : PyData → Prop
  | non : Tp .none
  | bl (b : Bool) : Tp (.bool b)
  | int (i : Int) : Tp (.int i)
  | str (s : Str) : Tp (.str s)
  | tup {ds : List PyData} : (∀ d ∈ ds, Tp d) → Tp (.tuple ds)
def Tk (H H' : Hp) : Prop := ∀ b o, (∀ xs, o ≠ HO.lst xs) → H b = some o → H' b = some o
theorem Tk.trans {H H1 H2 : Hp} (a : Tk H H1) (b : Tk H1 H2) : Tk H H2 := fun c o n e => b c o n (a c o n e)
theorem Same.tk {H H' : Hp} (a : Same H H') : Tk H H' := fun c o _ e => a c o e
/-- two lists may be written -/
theorem tk_but {H H' : Hp} {p q : Addr} {xs ys : List V} (hp : H p = some (.lst xs)) (hq : H q = some (.lst ys)) (k : ∀ b o, b ≠ p → b ≠ q → H b = some o → H' b = some o) : Tk H H' := fun b o n e =>
  k b o (fun z => by rw [z, hp] at e; exact n xs (Option.some.inj e).symm) (fun z => by rw [z, hq] at e; exact n ys (Option.some.inj e).symm) e
section
variable {K : PySem.W.Frag} {H H' : Hp}
theorem sqT_tk {a : Addr} {xs : List V} (e : Tk H H') (h : SqT K H a xs) : SqT K H' a xs := by
  rcases h with (h | ⟨o, h⟩) | h
  · exact .inl (.inl (e _ _ (fun _ z => by cases z) h))
  · exact .inl (.inr ⟨o, e _ _ (fun _ z => by cases z) h⟩)
  · exact .inr h
mutual
theorem dp_tk (e : Tk H H') : ∀ {v : V} {d : PyData}, Dp K H v d → Tp d → Dp K H' v d
  | _, _, .non, _ => .non
  | _, _, .bl b, _ => .bl b
  | _, _, .int i, _ => .int i
  | _, _, .str s, _ => .str s
  | _, _, .lst _ _, t => nomatch t
  | _, _, .tup h r, .tup t => .tup (sqT_tk e h) (all_tk e r t)
theorem all_tk (e : Tk H H') : ∀ {v : List V} {d : List PyData}, DpAll K H v d → (∀ x ∈ d, Tp x) → DpAll K H' v d
  | _, _, .nil, _ => .nil
  | _, _, .cons h r, t => .cons (dp_tk e h (t _ List.mem_cons_self)) (all_tk e r fun x hx => t x (List.mem_cons_of_mem _ hx))
end
end
end Rd
namespace Rd
open PySem PySem.Spec PyProof.Rows L2
section
variable {K : PySem.W.Frag} {H : Hp} {Q : VK} {a b : Str} {A B : Prop} {p : Addr} {z x : V} {zs xs : List V}
theorem iteSt (e : a = b) (h : A) : if decide (V.str a = V.str b) = true then A else B := by
  subst e
  rw [if_pos (decide_eq_true rfl)]
  exact h
theorem iteSf (e : ¬ a = b) (h : B) : if decide (V.str a = V.str b) = true then A else B := by
  rw [if_neg]
  · exact h
  · intro z
    exact e (V.str.inj (of_decide_eq_true z))
theorem popR (h : H p = some (.lst (z :: zs).reverse)) (g : Q z (upd H p (.lst zs.reverse))) : rPop (.ref p) [] H Q := by
  rw [List.reverse_cons] at h
  refine ⟨p, _, z, rfl, rfl, h, ?_, ?_⟩
  · rw [List.length_append, List.length_singleton, Nat.add_sub_cancel, List.getElem?_append_right (Nat.le_refl _), Nat.sub_self]
    rfl
  · rw [List.dropLast_concat]
    exact g
theorem appR (h : H p = some (.lst zs.reverse)) (c : zs.length < 100000) (g : Q .non (upd H p (.lst (z :: zs).reverse))) : rAppend (.ref p) [z] H Q := by
  refine ⟨p, _, z, rfl, rfl, h, ?_, ?_⟩
  · rw [List.length_reverse]
    exact sz5' (by omega)
  · rw [← List.reverse_cons]
    exact g
theorem niQ (h : SqL K H p xs ∨ SqT K H p xs) (f : flatV x = true ∧ xs.all flatV = true) (e : inV x xs = true) (g : Q (.bl false) H) : rIn K true x (.ref p) H Q := by
  refine ⟨p, xs, rfl, h, f.1, f.2, ?_⟩
  rw [if_pos rfl, e]
  exact g
theorem inQ (h : SqL K H p xs ∨ SqT K H p xs) (f : flatV x = true ∧ xs.all flatV = true) (e : inV x xs = true) (g : Q (.bl true) H) : rIn K false x (.ref p) H Q := by
  refine ⟨p, xs, rfl, h, f.1, f.2, ?_⟩
  rw [if_neg Bool.false_ne_true, e]
  exact g
end
end Rd
namespace Rd
open PySem PySem.Spec PyProof.Rows L2
theorem same_put {H H' : Hp} {p : Addr} (s : Same H H') (f : H p = none) (o : HO) : Same H (upd H' p o) := fun b u e => (upd_ne (ne_of_none e f)).trans (s b u e)
theorem tk_put {H : Hp} {p : Addr} {xs : List V} (h : H p = some (.lst xs)) (o : HO) : Tk H (upd H p o) := fun b u n e => (upd_ne fun z => by
  rw [z, h] at e
  exact n xs (Option.some.inj e).symm).trans e
theorem tk_new {H : Hp} {p : Addr} (h : H p = none) (o : HO) : Tk H (upd H p o) := fun b u _ e => (upd_ne (ne_of_none e h)).trans e
theorem ne_tl {H : Hp} {p q : Addr} {xs ys : List V} (h : H p = some (.tup xs)) (h' : H q = some (.lst ys)) : p ≠ q := fun z => by
  rw [z, h'] at h
  cases h
end Rd
/-! ### texts whose signs are signs -/
namespace Rd
open PySem PySem.Spec PyProof.Rows L2
def TxOk (z : Str) : Prop := z.cps.all (fun c => decide (c < 0x110000)) = true
instance (z : Str) : Decidable (TxOk z) := inferInstanceAs (Decidable (_ = true))
theorem txOk_iff {z : Str} : TxOk z ↔ ∀ c ∈ cl z, c < 0x110000 := by
  unfold TxOk
  rw [← Array.all_toList, List.all_eq_true]
  exact ⟨fun h c hc => of_decide_eq_true (h c hc), fun h c hc => decide_eq_true (h c hc)⟩
theorem txOk_nm {z : Str} (h : Nm (cl z)) : TxOk z := txOk_iff.mpr fun c hc => by
  rcases h.all c hc with a | a
  · have := a.2
    omega
  · have := a.2
    omega
theorem txOk_num (n : Int) : TxOk (toString n) := txOk_iff.mpr fun c hc => by
  have e : cl (PySem.Str.ofString (toString n)) = (toString n).toList.map Char.toNat := signs_ofString _
  have hc : c ∈ cl (PySem.Str.ofString (toString n)) := hc
  rw [e] at hc
  obtain ⟨x, _, rfl⟩ := List.mem_map.mp hc
  have v := x.valid
  have : x.toNat < 0x110000 := by
    rcases v with v | v
    · have : x.toNat < 0xd800 := v
      omega
    · exact v.2
  exact this
theorem txOk_add {a b : Str} (h : TxOk a) (h' : TxOk b) : TxOk (a ++ b) := txOk_iff.mpr fun c hc => by
  rw [cl_add] at hc
  rcases List.mem_append.mp hc with hc | hc
  · exact txOk_iff.mp h c hc
  · exact txOk_iff.mp h' c hc
end Rd
/-! ### within a comprehension: the written part by its own name -/
namespace Rd
open PySem PySem.Spec PyProof.Rows L2
section
variable {X : Cx} {K : PySem.W.Frag}
theorem sl_listK (h : X.K = K) : SlR X (rSlL K) := h ▸ sl_list
theorem ix_listK (h : X.K = K) : IxR X (rIxL K) := h ▸ ix_list
theorem ix_tupK (h : X.K = K) : IxR X (rIxT K) := h ▸ ix_tup
theorem q_lenK (h : X.K = K) : CallR X (.builtin "len") (rLenQ K) := h ▸ q_len
theorem q_listK (h : X.K = K) : CallR X (.type "list") (rListQ K) := h ▸ q_list
theorem q_tupK (h : X.K = K) : CallR X (.type "tuple") (rTupQ K) := h ▸ q_tup
end
end Rd
/-! while an exception is handled: a list walked by a comprehension, isinstance and fields of that exception -/
namespace Ho
open PySem PySem.Spec PyProof.Rows L2 HotX L2H
section
variable {prog : Program} {w : World} {A : Around} {E : Value → Shared → Prop} {s : Shared}
/-- a list's iterator has come to its end -/
theorem list_end {it l x1 : Addr} {i : Nat} {its : Array Value} {Q : Option Value → Shared → Prop} (hot : HotAt A x1 s.heap) (st : s.heap.IsListIter it l i) (hl : s.heap.IsList l its) (out : its[i]? = none)
    (k : ∀ h', (∀ b o, b ≠ it → s.heap.get? b = some o → h'.get? b = some o) → Q none { s with heap := h' }) : wpAny (model prog w) A (pyNext (.ref it)) Q E s := by
  have ty := st.typeIs
  obtain ⟨oi, gi, ci, di⟩ := st
  obtain ⟨ol, gl, _, n, dl⟩ := hl
  obtain ⟨hh, o1, vs1, g1, d1, c1⟩ := hot
  have apart : x1 ≠ it := by
    rintro rfl
    rw [gi] at g1
    cases g1
    rw [di] at d1
    cases d1
    cases c1
  unfold pyNext
  refine wpAny_bind (wpAny_attempt (wpAny_callSpecial?_slot (name := Str.ofString "__next__") ty slot_listiter_next
    (wpAny_call_entry slot_listiter_next ty entry_listiter_next ?_ (args_listiter_next _))))
  show wpAny _ _ (field (.ref it) 0 >>= _) _ _ s
  refine wpAny_bind (wpAny_field gi di (x := .ref l) rfl ?_)
  have notN : ¬ (Value.ref l == Value.none) = true := Bool.false_ne_true
  show wpAny _ _ (if (Value.ref l == Value.none) = true then _ else _) _ _ s
  rw [if_neg notN]
  show wpAny _ _ (field (.ref it) 1 >>= _) _ _ s
  refine wpAny_bind (wpAny_field gi di (x := .int i 0) rfl ?_)
  show wpAny _ _ (seqItems? (.ref l) >>= _) _ _ s
  refine wpAny_bind (wpAny_seqItems gl dl ?_)
  simp only [Int.toNat_natCast, out]
  refine wpAny_bind (wpAny_rule (wpAny_bind (wpAny_setField gi di (by simp) ?_)))
  show wpAny _ _ (newExc (.type "StopIteration") [] >>= _) _ _ _
  refine wpAny_bind ?_
  simp only [newExc, newTuple]
  refine wpAny_bind (wpAny_newObj_type ?_ (by size_fits))
  refine wpAny_bind (m := firstArgMember _ _) (wpAny_of_eq (a := Value.none) (by first | rfl | (simp only [firstArgMember]; rfl)) ?_)
  refine wpAny_newObj_type ?_ (by size_fits)
  have g1' := (Heap.get?_update_other s.heap (Obj.mapFields (·.setIfInBounds 0 Value.none)) (Ne.symm apart)).trans g1
  refine raiseNew_hot (x1 := x1) ⟨hh, o1, vs1, ?_, d1, c1⟩ ?_ (Heap.get?_push_size _ rfl) rfl (by first | (simp; done) | (simp; omega) | (simp only [Array.size_append]; simp; omega)) ?_
  · first
    | exact Heap.get?_push_of_some _ (Heap.get?_push_of_some _ g1')
    | exact Heap.get?_push_of_some _ (Heap.get?_push_of_some _ ((Heap.get?_update_other _ _ (Ne.symm apart)).trans g1))
  · refine Nat.ne_of_lt (Heap.lt_size (o := o1) (Heap.get?_push_of_some _ ?_))
    exact (Heap.get?_update_other _ _ (Ne.symm apart)).trans g1
  refine wpAny_bind (wpAny_isInstance (T := "StopIteration") (b := true) ⟨_, Heap.get?_update_self _ (Heap.get?_push_size _ rfl) rfl, rfl⟩ isSubtype_stop ?_)
  refine wpAny_pure (k _ fun b o hb e => ?_)
  have e2 := (Heap.get?_update_other s.heap (Obj.mapFields (·.setIfInBounds 0 Value.none)) (Ne.symm hb)).trans e
  have e3 : ∀ f, (s.heap.update it f).get? b = some o := fun f => (Heap.get?_update_other _ f (Ne.symm hb)).trans e
  rw [Heap.get?_update_other _ _ (Nat.ne_of_gt (Heap.lt_size (o := o) (Heap.get?_push_of_some _ (e3 _))))]
  exact Heap.get?_push_of_some _ (Heap.get?_push_of_some _ (e3 _))
end
section
variable {X : Cx} {pins : List (Addr × Obj)} {σ : L2.St} {H : Hp} {s : Shared} {a it : Addr} {i : Nat} {E : Value → Shared → Prop} {tg : Expr}
/-- the next item of a list that is walked -/
theorem walk_item (I : Inv X pins σ H s) (f : FpOk X pins H it) (st : s.heap.IsListIter it a i) (g : ∃ xs x, SqL X.K H a xs ∧ xs[i]? = some x) :
    wpAny (model X.prog X.w) X.A (pyNext (.ref it)) (fun r s1 => ∃ u, r = some u ∧ wpAny (model X.prog X.w) X.A (letOwnedTupleGo tg (.ref it) u)
      (fun _ s2 => ∃ x, Inv X pins σ H s2 ∧ RelV x u ∧ (Itl X.K a).yld i H x H ∧ s2.heap.IsListIter it a (i + 1)) E s1) E s := by
  obtain ⟨xs, x, hq, hx⟩ := g
  obtain ⟨vs, rel, lay, _⟩ := I.list hq
  obtain ⟨u, hu, ru⟩ := rel.get hx
  obtain ⟨n0, n1, n2, n3, n4, n5⟩ := f
  refine wpAny_pyNext_list_item st lay.isList (x := u) (by simpa using hu) fun h1 st1 but => ?_
  have J : Inv X pins σ H { s with heap := h1 } := I.turned (t' := s.toks) (fun b o nb eb => (but.2 b nb).trans eb) n0 n1 n3 n4 n5
  have st2 := st1
  obtain ⟨o, eo, co, dO⟩ := st1
  refine ⟨u, rfl, go_of (s := { s with heap := h1 }) eo co dO (by decide) ⟨x, J, ru, ⟨rfl, fun ys hy => ?_⟩, st2⟩⟩
  rw [I.list_inj hy hq]
  exact hx
/-- no further item, an exception being handled -/
theorem walk_done {p : Addr × Obj} (hot : Hot1 X.A p) (hp : p ∈ X.pn ++ pins) (I : Inv X pins σ H s) (f : FpOk X pins H it) (st : s.heap.IsListIter it a i) (g : ∃ xs, SqL X.K H a xs ∧ xs.length ≤ i) :
    wpAny (model X.prog X.w) X.A (pyNext (.ref it)) (fun r s1 => r = none ∧ Inv X pins σ H s1) E s := by
  obtain ⟨xs, hq, hx⟩ := g
  obtain ⟨vs, rel, lay, _⟩ := I.list hq
  obtain ⟨n0, n1, n2, n3, n4, n5⟩ := f
  have len := rel.length
  obtain ⟨hh, fs, df, cf⟩ := hot
  exact list_end ⟨hh, p.2, fs, (I.pin p hp).1, df, cf⟩ st lay.isList (by simp; omega) fun h1 k => ⟨rfl, I.turned (t' := s.toks) (fun b o nb eb => k b o nb eb) n0 n1 n3 n4 n5⟩
end
section
variable {X : Cx}
/-- [elt for tg in iter if ..] over a list, an exception being handled -/
theorem pe_lcH {elt tg iter : Expr} {ifs : List Expr} {scope : Scope} {own : List (Str × Nat)} {pos : Pos} {tl : TE} {g : TG} {tt : TT} {te : TE} (hot : HotC X) (hN : X.N.Nodup) (hi : PE X iter tl) (ok : BlkOk X.N X.env.scope scope own)
    (hg : ∀ (s : Shared) (H : Hp) (C : Addr) (cl : List (Str × Addr)) (fp : List Addr), PG (X.blk s H scope (compEnvC scope cl C X.env) fp) tg g)
    (ht : ∀ (s : Shared) (H : Hp) (C : Addr) (cl : List (Str × Addr)) (fp : List Addr), PTs (X.blk s H scope (compEnvC scope cl C X.env) fp) ifs tt)
    (he : ∀ (s : Shared) (H : Hp) (C : Addr) (cl : List (Str × Addr)) (fp : List Addr), PE (X.blk s H scope (compEnvC scope cl C X.env) fp) elt te)
    (hs : ∀ x, foldedSetIterable iter X.env x = pure x := by intro _; rfl) :
    PE X (.ListComp elt [⟨tg, iter, ifs, 0⟩] scope pos) (tLc (iList X.K tl) g tt te (own.map (·.2))) := by
  refine ⟨fun pins s σ H Q I h => ?_⟩
  obtain ⟨p, hot1, hp⟩ := hot
  rw [eval_ListComp]
  have cells : ∀ y ∈ scope.names, y.2 = .free → ∃ c, X.env.cells.lookup y.1 = some c := by
    intro y hy ey
    cases ok.free y hy ey with
    | inl k => exact I.ok.has _ (.inl k)
    | inr k => exact I.ok.has _ (.inr k)
  refine wpAny_comprehension_free (use := none) rfl hs (closure_ok cells) ok.kind (fun y hy ey => by rw [ok.uniq y hy, ey])
    (thn (hi.run pins s σ H _ I h) fun v s1 h1 => ?_)
  obtain ⟨x, H1, I1, r1, a, ex, ⟨xs, hq⟩, q⟩ := h1
  subst ex
  cases r1
  obtain ⟨vs, rel, lay, _⟩ := I1.list hq
  refine wpAny_pyIter_list lay.isList ?_
  -- the iterator
  generalize hs2 : ({ s1 with heap := s1.heap.push { cls := .type "list_iterator", data := .fields #[.ref a, .int 0 0] } } : Shared) = s2
  generalize hit : s1.heap.objs.size = it
  have I2 : Inv X pins σ H1 s2 := by
    rw [← hs2]
    exact I1.kept (t' := s1.toks) fun b o eb => Heap.get?_push_of_some _ eb
  have st2 : s2.heap.IsListIter it a 0 := by
    rw [← hs2, ← hit]
    exact ⟨_, Heap.get?_push_size _ rfl, rfl, rfl⟩
  have f2 : FpOk X pins H1 it := I1.fpOk (Nat.le_of_eq hit) (I1.hok.fresh (Nat.le_of_eq hit))
  refine wpAny_newObj_type (newEnv_comp ?_) (by show 0 ≤ sizeLine; decide)
  generalize hD : s2.heap.objs.size = D
  have freeD : H1 D = none := I2.hok.fresh (Nat.le_of_eq hD)
  obtain ⟨W, ⟨m0, w0⟩, turn⟩ := q D freeD
  -- the new list
  generalize hs3 : ({ s2 with heap := s2.heap.push { cls := .type "list", data := .seq ([] : List Value).toArray } } : Shared) = s3
  have h3 : s3.heap = s2.heap.push { cls := .type "list", data := .seq ([] : List Value).toArray } := by rw [← hs3]
  have I3 : Inv X pins σ (upd H1 D (.lst [])) s3 := by
    rw [← hs3]
    refine I2.laid (t' := s2.toks) (fun b o eb => Heap.get?_push_of_some _ eb) (Nat.le_of_eq hD) ⟨Nat.zero_le _, [], 0, .nil, ?_⟩
    rw [← hD]
    exact Heap.get?_push_size _ rfl
  have itlt : it < s2.heap.objs.size := by
    obtain ⟨o, eo, _⟩ := st2
    exact Heap.lt_size eo
  have f3 : ∀ b ∈ [it], FpOk X pins (upd H1 D (.lst [])) b ∧ b < s3.heap.objs.size := by
    intro b hb
    cases List.mem_singleton.mp hb
    refine ⟨⟨?_, f2.2⟩, ?_⟩
    · rw [upd_ne (by rw [← hD]; exact Nat.ne_of_lt itlt)]
      exact f2.1
    · rw [h3, Heap.size_push]
      exact Nat.lt_succ_of_lt itlt
  have st3 : s3.heap.IsListIter it a 0 := by
    rw [h3]
    exact st2.at fun o eo => Heap.get?_push_of_some _ eo
  have I4 := block_start I3 ok hN f3
  have pg := hg s3 (upd H1 D (.lst [])) s3.heap.objs.size (cellsFrom (s3.heap.objs.size + 1) scope.names (cloFrom X.env.cells scope.names [])) [it]
  have pt := ht s3 (upd H1 D (.lst [])) s3.heap.objs.size (cellsFrom (s3.heap.objs.size + 1) scope.names (cloFrom X.env.cells scope.names [])) [it]
  have pe := he s3 (upd H1 D (.lst [])) s3.heap.objs.size (cellsFrom (s3.heap.objs.size + 1) scope.names (cloFrom X.env.cells scope.names [])) [it]
  show codeAny _ _ (.compStart (.ListComp elt [⟨tg, iter, ifs, 0⟩] scope pos) 0 (.ref it) (.ref D) (compEnvC scope (cellsFrom (s3.heap.objs.size + 1) scope.names (cloFrom X.env.cells scope.names [])) s3.heap.objs.size X.env))
    (compPost (model X.prog X.w) X.A X.xe none (EP X pins σ Q) (.ref D) s3.heap.objs.size) { s3 with heap := pushCells (s3.heap.push { cls := .type "dict", data := .dict #[] }) scope.names }
  have nit : (upd H1 D (.lst [])) it = none := (f3 it (List.mem_singleton.mpr rfl)).1.1
  have P3 := I3.pin p (List.mem_append_left _ hp)
  generalize hce : compEnvC scope (cellsFrom (s3.heap.objs.size + 1) scope.names (cloFrom X.env.cells scope.names [])) s3.heap.objs.size X.env = ce at I4 pg pt pe ⊢
  have cL : ce.locals = s3.heap.objs.size := by
    subst hce
    rfl
  generalize hH3 : upd H1 D (.lst []) = H3 at I3 I4 pg pt pe w0 nit f3 P3
  generalize hs4 : ({ s3 with heap := pushCells (s3.heap.push { cls := .type "dict", data := .dict #[] }) scope.names } : Shared) = s4 at I4 ⊢
  have up4 : ∀ b o, s3.heap.get? b = some o → s4.heap.get? b = some o := by
    intro b o eb
    rw [← hs4]
    exact pushCells_keeps _ _ _ _ (Heap.get?_push_of_some _ eb)
  have st4 : s4.heap.IsListIter it a 0 := st3.at fun o eo => up4 _ o eo
  -- the handled exception stays pinned within the block
  have pfs : p.1 ∉ (X.blk s3 H3 scope ce [it]).fs := by
    intro z
    rcases List.mem_cons.mp (I3.stkSub p.1 z) with z | z
    · exact P3.2.2.1 z
    · exact P3.2.2.2.1 z
  have I4 : Inv (X.blk s3 H3 scope ce [it]) [p] (wipe σ (own.map (·.2))) H3 s4 := I4.pins_of fun r hr => by
    have er : r = p := by simpa using (show r ∈ ([] : List (Addr × Obj)) ++ [p] from hr)
    subst er
    refine ⟨up4 _ _ P3.1, P3.2.1, ?_, pfs, P3.2.2.2.2⟩
    rw [cL]
    exact Nat.ne_of_lt (Heap.lt_size P3.1)
  have pit : p.1 ≠ it := f2.2.2.2.2.2 p (List.mem_append_left _ hp)
  have stat : ∀ {σ' : L2.St} {H' : Hp} {s' : Shared}, Inv (X.blk s3 H3 scope ce [it]) [p] σ' H' s' → H' it = none → FpOk (X.blk s3 H3 scope ce [it]) [p] H' it := fun {σ' H' s'} J n =>
    have mem : it ∈ [it] := List.mem_singleton.mpr rfl
    ⟨n, (J.ok.exf it mem).1, J.ok.exfs it mem, .inl mem, fun y c ey => (J.ok.exf it mem).2 y c ey, fun r hr => by
      have er : r = p := by simpa using (show r ∈ ([] : List (Addr × Obj)) ++ [p] from hr)
      rw [er]
      exact pit⟩
  have loop : codeAny (model X.prog X.w) X.A (.compLoop (.ListComp elt [⟨tg, iter, ifs, 0⟩] scope pos) 0 (.ref it) (.ref D) ce) (compPost (model X.prog X.w) X.A X.xe none (EP X pins σ Q) (.ref D) s3.heap.objs.size) s4 := by
    refine compLoop_any (fun n s' => ∃ i H', Inv (X.blk s3 H3 scope ce [it]) [p] (wipe σ (own.map (·.2))) H' s' ∧ s'.heap.IsListIter it a i ∧ H' it = none ∧ W i n H') ?_ m0 ⟨0, H3, I4, st4, nit, w0⟩
    rintro n s5 ⟨i, H5, I5, st5, n5, w5⟩
    rcases turn i n H5 w5 with ⟨stop, qq⟩ | ⟨go, Nx, hNx, step⟩
    · refine thnF (walk_done (X := X.blk s3 H3 scope ce [it]) (E := fun _ _ => False) hot1 (List.mem_append_right _ (List.mem_singleton.mpr rfl)) I5 (stat I5 n5) st5 stop) fun r s6 ⟨hr, I6⟩ => ?_
      subst hr
      have I7 : Inv X pins σ H5 s6 := I3.call' (ch := [it]) I6.os I6.base I6.hok I6.bare fun b hb =>
        have z := (f3 b hb).1
        ⟨z.2.2.2.1, z.2.1, z.2.2.2.2.1, z.2.2.2.2.2⟩
      have nC : H5 s3.heap.objs.size = none := by
        have z : H5 ce.locals = none := I6.free
        rw [cL] at z
        exact z
      obtain ⟨m, hn, _⟩ := I6.loc
      have hn : s6.heap.Ns ce.locals m := hn
      rw [cL] at hn
      obtain ⟨k0, k1, k2, k3, k4, k5⟩ := I3.fpOk (Nat.le_refl _) nC
      exact ⟨m, hn, fun h9 sb => ⟨.ref D, H5, I7.turned (t' := s6.toks) (fun b o nb eb => (sb.2 b nb).trans eb) k0 k1 k3 k4 k5, rfl, qq⟩⟩
    · refine thnF (walk_item (tg := tg) (X := X.blk s3 H3 scope ce [it]) (E := fun _ _ => False) I5 (stat I5 n5) st5 go) fun r s6 ⟨u, hr, h6⟩ => ?_
      subst hr
      refine thnF h6 fun _ s7 ⟨x, I7, r7, y7, st7⟩ => ?_
      have objs : ∀ b ∈ [it], ∃ o, s7.heap.get? b = some o ∧ ∀ v, o.data ≠ .cell v := by
        intro b hb
        cases List.mem_singleton.mp hb
        obtain ⟨o, eo, _, dO⟩ := st7
        exact ⟨o, eo, fun v z => by rw [dO] at z; cases z⟩
      have I7' := I7.pinned (fp := [it]) (fun b hb => by cases List.mem_singleton.mp hb; exact stat I7 n5) objs
      refine thnF (pg.run _ s7 _ H5 x u _ I7' r7 (step x H5 y7)) fun _ s8 ⟨σ8, H8, I8, hw8, q8⟩ => ?_
      refine thnF (pt.run _ s8 σ8 H8 _ I8 q8) fun b s9 ⟨H9, I9, q9⟩ => ?_
      have fin : ∀ {s' : Shared} {H' : Hp}, Inv (X.blk s3 H3 scope ce [it]) ([p] ++ pinsAt [it] s7.heap) σ8 H' s' → Nx H' →
          ∃ m, m < n ∧ ∃ i H', Inv (X.blk s3 H3 scope ce [it]) [p] (wipe σ (own.map (·.2))) H' s' ∧ s'.heap.IsListIter it a i ∧ H' it = none ∧ W i m H' := by
        intro s' H' J nx
        obtain ⟨m', hm, w'⟩ := hNx H' nx
        obtain ⟨o, eo, ho⟩ := id st7
        have z := J.pin (it, o) (List.mem_append_right _ (List.mem_append_right _ (mem_pinsAt (List.mem_singleton.mpr rfl) eo)))
        have hl : (wipe σ (own.map (·.2))).length = σ8.length := by rw [← hw8, wipe_length]
        refine ⟨m', hm, i + 1, H', (J.unpinned (pins := [p])).weak hl (fun j v ej => ?_), ⟨o, z.1, ho⟩, z.2.1, w'⟩
        rw [← hw8] at ej
        exact (wipe_some ej).1
      cases b with
      | false =>
        simp only [Bool.false_eq_true, if_false] at q9 ⊢
        exact fin I9 q9
      | true =>
        simp only [if_true] at q9 ⊢
        refine thnF (pe.run _ s9 σ8 H9 _ I9 q9) fun z s10 ⟨yv, H10, I10, r10, acc, hD10, hz10, nx⟩ => ?_
        exact app_ok (X := X.blk s3 H3 scope ce [it]) I10 hD10 hz10 r10 fun s11 I11 => fin I11 nx
  exact codeAny_compStart_list loop (wpAny_pyIter_listiter st4 loop)
end
/-! ### defs that may raise, defs called while an exception is handled -/
section
variable {P : Program} {w : World} {K : PySem.W.Frag} {mg : Str → Option Value} {base : Heap}
theorem okN {x qual : Str} {st : Stmt} {f : Addr} {fd : FuncData} {N ps : List Str} {k : Nat} {sp : Sp} (F : L2.Fun K x qual st f fd) (S : FnScope N ps (defScope st)) (len : ∀ vs H Q E, sp vs H Q E → vs.length = ps.length)
    (body : ∀ (cdv : Value) (A : Around) (outer : List Env) (s : Shared) (H : Hp) (vs : List V) (Q : VK) (E : XK), Room k (A.deeper (envOfC qual (defScope st) s.heap.objs.size f cdv)) → sp vs H Q E →
      ∃ t, PSs (cxOf (L2N.CX P w) P w K mg base N qual (defScope st) f cdv A outer s H E) (defBody st) t ∧ t ⟨fun _ H' => Q .non H', Q, fun _ _ => False, fun _ _ => False⟩ (L2.start N vs) H) :
    FnOk P w K mg base (L2N.CX P w) (k + 1) f fd ps sp := by
  obtain ⟨oc, od, kV, doc, pm, an, cdv, ct, osl, rfl, lk, hcd⟩ := F.ex
  exact fn_of lk hcd S len fun A outer s H vs Q E hr h => body cdv A outer s H vs Q E hr h
theorem okH {x qual : Str} {st : Stmt} {f : Addr} {fd : FuncData} {N ps : List Str} {k : Nat} {sp : Sp} (F : L2.Fun K x qual st f fd) (S : FnScope N ps (defScope st)) (len : ∀ vs H Q E, sp vs H Q E → vs.length = ps.length)
    (body : ∀ (cdv : Value) (A : Around) (outer : List Env) (s : Shared) (H : Hp) (vs : List V) (Q : VK) (E : XK) (p : Addr × Obj), Hot1 A p → RoomH k (A.deeper (envOfC qual (defScope st) s.heap.objs.size f cdv)) → sp vs H Q E →
      ∃ t, PSs (cxH CX0 P w K mg base N qual (defScope st) f cdv A outer s H E p) (defBody st) t ∧ t ⟨fun _ H' => Q .non H', Q, fun _ _ => False, fun _ _ => False⟩ (L2.start N vs) H) :
    FnH P w K mg base CX0 (k + 1) f fd ps sp := by
  obtain ⟨oc, od, kV, doc, pm, an, cdv, ct, osl, rfl, lk, hcd⟩ := F.ex
  exact fn_ofH lk hcd S len fun A outer s H vs Q E p hot hr h => body cdv A outer s H vs Q E p hot hr h
/-- the def of this name keeps this promise; it may raise -/
def CalN (P : Program) (w : World) (K : PySem.W.Frag) (mg : Str → Option Value) (base : Heap) (k : Nat) (x : Str) (ps : List Str) (sp : Sp) : Prop :=
  ∃ f fd, FnOk P w K mg base (L2N.CX P w) k f fd ps sp ∧ mg x = some (.ref f) ∧ PySem.W.keepIn K (.ref f) = true ∧ Binds K fd ps []
/-- the def of this name keeps this promise while an exception is handled -/
def CalH (P : Program) (w : World) (K : PySem.W.Frag) (mg : Str → Option Value) (base : Heap) (k : Nat) (x : Str) (ps : List Str) (sp : Sp) : Prop :=
  ∃ f fd, FnH P w K mg base CX0 k f fd ps sp ∧ mg x = some (.ref f) ∧ PySem.W.keepIn K (.ref f) = true ∧ Binds K fd ps []
theorem defN {x : Str} {st : Stmt} {ps N : List Str} {k : Nat} {sp : Sp} (F : Rd.Def K mg x st ps) (S : FnScope N ps (defScope st)) (len : ∀ vs H Q E, sp vs H Q E → vs.length = ps.length)
    (body : ∀ (f : Addr) (cdv : Value) (A : Around) (outer : List Env) (s : Shared) (H : Hp) (vs : List V) (Q : VK) (E : XK), Room k (A.deeper (envOfC x (defScope st) s.heap.objs.size f cdv)) → sp vs H Q E →
      ∃ t, PSs (cxOf (L2N.CX P w) P w K mg base N x (defScope st) f cdv A outer s H E) (defBody st) t ∧ t ⟨fun _ H' => Q .non H', Q, fun _ _ => False, fun _ _ => False⟩ (L2.start N vs) H) : CalN P w K mg base (k + 1) x ps sp := by
  obtain ⟨f, fd, F, m, b⟩ := F
  exact ⟨f, fd, okN F S len (fun cdv A outer s H vs Q E hr h => body f cdv A outer s H vs Q E hr h), m, F.kp, b⟩
theorem defH {x : Str} {st : Stmt} {ps N : List Str} {k : Nat} {sp : Sp} (F : Rd.Def K mg x st ps) (S : FnScope N ps (defScope st)) (len : ∀ vs H Q E, sp vs H Q E → vs.length = ps.length)
    (body : ∀ (f : Addr) (cdv : Value) (A : Around) (outer : List Env) (s : Shared) (H : Hp) (vs : List V) (Q : VK) (E : XK) (p : Addr × Obj), Hot1 A p → RoomH k (A.deeper (envOfC x (defScope st) s.heap.objs.size f cdv)) → sp vs H Q E →
      ∃ t, PSs (cxH CX0 P w K mg base N x (defScope st) f cdv A outer s H E p) (defBody st) t ∧ t ⟨fun _ H' => Q .non H', Q, fun _ _ => False, fun _ _ => False⟩ (L2.start N vs) H) : CalH P w K mg base (k + 1) x ps sp := by
  obtain ⟨f, fd, F, m, b⟩ := F
  exact ⟨f, fd, okH F S len (fun cdv A outer s H vs Q E p hot hr h => body f cdv A outer s H vs Q E p hot hr h), m, F.kp, b⟩
theorem CalN.mono {x : Str} {ps : List Str} {j k : Nat} {sp : Sp} (C : CalN P w K mg base j x ps sp) (h : j ≤ k) : CalN P w K mg base k x ps sp := by
  obtain ⟨f, fd, F, r⟩ := C
  exact ⟨f, fd, F.mono h, r⟩
end
theorem pe_calN {X : Cx} {W : WX} {e : Expr} {es : List Expr} {t : TA} {p pos : Pos} {j k : Nat} {x : Str} {ps : List Str} {sp : Sp} (C : CalN X.prog X.w X.K X.mg X.base j x ps sp) (tk : L2N.Takes X W) (hr : Room k X.A) (ha : PA X (e :: es) t) (hk : j ≤ k := by decide) (hg : Gl X x := by rfl)
    (hdb : (x == ("__debug__" : Str)) = false := by decide) (he : starEach (e :: es) X.env = (false, eval e X.env) :: starEach es X.env := by rfl) (hpl : (backTo pos (starEach es X.env)).any (·.1) = false := by rfl) :
    PE X (.Call (.Name x p) (e :: es) [] pos) (tCallS sp (WE W) t) := by
  obtain ⟨f, fd, F, m, kp, b⟩ := C
  exact pe_callS F (hr.mono hk) hg m kp b (fun σ => L2N.passAt tk σ) ha hdb he hpl
theorem pe_calH {X : Cx} {e : Expr} {es : List Expr} {t : TA} {p pos : Pos} {j k : Nat} {x : Str} {ps : List Str} {sp : Sp} (C : CalH X.prog X.w X.K X.mg X.base j x ps sp) (hot : HotC X) (hr : RoomH k X.A) (ha : PA X (e :: es) t) (hk : j ≤ k := by decide) (hg : Gl X x := by rfl)
    (hdb : (x == ("__debug__" : Str)) = false := by decide) (he : starEach (e :: es) X.env = (false, eval e X.env) :: starEach es X.env := by rfl) (hpl : (backTo pos (starEach es X.env)).any (·.1) = false := by rfl) :
    PE X (.Call (.Name x p) (e :: es) [] pos) (tCallS sp (fun _ => E0) t) := by
  obtain ⟨f, fd, F, m, kp, b⟩ := C
  exact pe_callH F (hr.mono hk) hot hg m kp b (fun σ _ _ _ _ _ _ h => h.elim) ha hdb he hpl
/-! ### the exception that is handled: its fields, its class -/
/-- a is a pinned exception of the class at C, its dict holds fs -/
def ExAt (pn : List (Addr × Obj)) (H : Hp) (a C : Addr) (fs : List (Str × V)) : Prop := ∃ (p : Addr × Obj) (dd : Addr), p ∈ pn ∧ p.1 = a ∧ p.2.cls = .ref C ∧ p.2.dict = some dd ∧ (∃ vs, p.2.data = .fields vs) ∧ H dd = some (.xd fs)
/-- e.f -/
def tXe (K : PySem.W.Frag) (pn : List (Addr × Obj)) (f : Str) (te : TE) : TE := fun σ H Q => te σ H fun x H1 => ∃ (a C : Addr) (fs : List (Str × V)) (v : V), x = .ref a ∧ ExAt pn H1 a C fs ∧ XfC K C ∧ PySem.W.findIn K (.ref C) f = some none ∧ fs.lookup f = some v ∧ Q v H1
section
variable {X : Cx} {pins : List (Addr × Obj)} {σ : L2.St} {H : Hp} {s : Shared}
theorem ExAt.inst {a C : Addr} {fs : List (Str × V)} (x : ExAt X.pn H a C fs) (I : Inv X pins σ H s) : ∃ (oe od : Obj) (dd : Addr) (mA : Str → Option Value), PySem.W.InstAt s.heap a oe C (some od) ∧ (∀ f, PySem.W.lookIn f od = some (mA f)) ∧ ∀ f, RelO (fs.lookup f) (mA f) := by
  obtain ⟨p, dd, hp, rfl, hc, hd, ⟨vs, hv⟩, hx⟩ := x
  obtain ⟨gp, _⟩ := I.pin p (List.mem_append_left _ hp)
  obtain ⟨mA, ns, rel⟩ := (show ObjOk X.prog X.w H s.heap dd (.xd fs) from I.hok dd _ hx)
  obtain ⟨od, ho, hl⟩ := lookIn_ns ns
  refine ⟨p.2, od, dd, mA, ⟨gp, hc, ?_, ?_⟩, fun f => hl f, rel⟩
  · unfold PySem.W.notCls
    rw [hv] <;> rfl
  · rw [hd]
    exact ho
theorem pe_xe {e : Expr} {te : TE} {pos : Pos} {n : Str} (he : PE X e te) (hb : attributeBase e n X.env (eval e X.env) = eval e X.env := by rfl) : PE X (.Attribute e n pos) (tXe X.K X.pn n te) := by
  refine ⟨fun pins s σ H Q I h => ?_⟩
  refine attr_of hb (thn (he.run pins s σ H _ I h) fun u s1 hh => ?_)
  obtain ⟨x, H1, I1, rx, a, C, fs, v, ex, at1, T, hno, l, q⟩ := hh
  subst ex
  obtain rfl : u = Value.ref a := rx
  obtain ⟨oe, od, dd, mA, J, hl, rel⟩ := at1.inst I1
  obtain ⟨u, hu, ru⟩ := RelO.some_of (v := v) (o := mA n) (by rw [← l]; exact rel n)
  exact HandSPX.exc_get I1.kIn J T.ga T.gg T.exC (PySem.W.findObj_own T.hdC hno rfl (by rw [hl, hu])) (handed_of ru) ⟨v, H1, I1.tok _, ru, q⟩
/-- what the written part says of a class of errors, for isinstance -/
structure XkC (K : PySem.W.Frag) (C : Addr) : Prop where
  cl : (PySem.W.clsIn K C).isSome = true
  ca : PySem.W.findIn K (.ref C) "__class__" = some (some (.builtin "object.__class__"))
  ob : PySem.W.mroIn K C (.type "object") = some true
structure XkO (K : PySem.W.Frag) : Prop where
  gt : PySem.W.specialIn K (.builtin "object.__class__") "__get__" = some (some (.builtin "getset_descriptor.__get__"))
  tk : PySem.W.takesIn K (.builtin "object.__class__") = some true
/-- isinstance(e, D) -/
def rIsE (K : PySem.W.Frag) (pn : List (Addr × Obj)) : List V → Hp → VK → Prop := fun xs H Q => ∃ (a C : Addr) (fs : List (Str × V)) (c : V) (u : Value) (b : Bool), xs = [.ref a, c] ∧ ExAt pn H a C fs ∧ XfC K C ∧ XkC K C ∧ XkO K ∧ ClsV c u ∧ PySem.W.kitOne K (.ref C) u = some b ∧ Q (.bl b) H
theorem q_isE : CallR X (.builtin "isinstance") (rIsE X.K X.pn) := by
  intro pins s σ H xs us Q I r h
  obtain ⟨a, C, fs, c, u, b, rfl, at1, T, T2, O, k, e, q⟩ := h
  obtain ⟨u1, u2, rfl, r1, r2⟩ := vals2 r
  have e2 := k.eq r2
  subst e2
  obtain rfl : u1 = Value.ref a := r1
  obtain ⟨oe, od, dd, mA, J, _, _⟩ := at1.inst I
  exact PySem.W.kia_one (PySem.W.kitx_exc T2.cl T.ga T.gg T.exC T2.ca O.gt O.tk T2.ob) I.kIn J e (fun z => nomatch z) fun tk => ⟨.bl b, H, I.tok tk, rfl, q⟩
end
/-! ### raise, where nothing is handled: an exception whose context is None -/
section
variable {X : Cx} {e : Expr} {es : List Expr} {ta : TA} {p pos : Pos}
/-- as HandS.ExcInit's rule, and the context of what is made is told -/
theorem pmk_init {CX : CXT} {x : Str} {C fI : Addr} {k : Nat} {fd : FuncData} {ps : List Str} {sp : Sp} (T : OexC X.K C) (iC : PySem.W.findIn X.K (.ref C) "__init__" = some (some (.ref fI))) (tI : PySem.W.typeIn X.K (.ref fI) = some (.type "function"))
    (Fi : FnOk X.prog X.w X.K X.mg X.base CX k fI fd ps sp) (hr : Room (k + 1) X.A) (hb : Binds X.K fd ps []) (hx : Passes CX X (fun _ _ _ => False)) (hg : Gl X x) (hm : X.mg x = some (.ref C)) (ha : PA X (e :: es) ta)
    (hdb : (x == ("__debug__" : Str)) = false := by decide) (he : starEach (e :: es) X.env = (false, eval e X.env) :: starEach es X.env := by rfl) (hpl : (backTo pos (starEach es X.env)).any (·.1) = false := by rfl) :
    L2N.PMk X (.Call (.Name x p) (e :: es) [] pos) (tMkO C sp [] ta) := by
  intro pins s σ H Q I h
  obtain ⟨nm, q, N, bs, bm, sn, sub, ab, col, dd, k0, k1, k2, k3, k5, hC, hbm⟩ := T.cls
  refine wpAny_Call_Name_kw (ld_glob I hg hm ?_ hdb)
  refine PySem.W.callWith_K (h₀ := X.base) I.ok.mod.kin T.kC (thn (ha.run pos pins s σ H _ I h) fun us s1 hh => ?_) he hpl
  obtain ⟨vs, H1, I1, r1, hz, q1⟩ := hh
  refine ⟨I1.kIn, ?_⟩
  show wpAny _ _ (call (.ref C) us) _ _ _
  obtain ⟨hp, g, dr, tk, os⟩ := s1
  generalize hD : hp.objs.size + 1 = D
  have hsz : hp.objs.size ≤ D := by
    rw [← hD]
    exact Nat.le_succ _
  have hq := q1 D (I1.hok.fresh hsz)
  rw [List.append_nil] at hq
  generalize hh2 : (hp.push (PySem.W.kdv_tup us)).push (PySem.HandSPX.excO C hp.objs.size) = h2
  have kk : ∀ b o, hp.get? b = some o → h2.get? b = some o := by
    intro b o eb
    rw [← hh2]
    exact Heap.get?_push_of_some _ (Heap.get?_push_of_some _ eb)
  have hget : h2.get? D = some (PySem.HandSPX.excO C hp.objs.size) := by
    rw [← hh2, ← hD]
    heap_get
  have I2 : Inv X pins σ (upd H1 D (exo D C none)) ⟨h2, g, dr, tk, os⟩ := I1.laid (t' := tk) (a := D) (o := exo D C none) (h' := h2) kk hsz (exo_ok hget)
  have r2 : Vals (V.ref D :: vs) (Value.ref D :: us) := .cons rfl r1
  have hl : (Value.ref D :: us).length = ps.length := by
    rw [← Fi.len _ _ _ _ hq]
    exact r2.length.symm
  have b2 := hb ⟨h2, g, dr, tk, os⟩ (Value.ref D :: us) I2.kIn (by rw [List.append_nil]; exact hl)
  rw [List.append_nil] at b2
  have hus : us.length ≤ sizeLine := by
    rw [← Paired.length r1, sizeLine_eq]
    omega
  subst hh2
  subst hD
  refine wpAny_call (PySem.HandSPX.call_own F.excBase_ValueError (fun Y => PySem.HandSPX.refsVE_contains Y bm hbm) (I1.kIn _ _ hC) (PySem.W.looks_findIn I1.kIn iC) (fun self => PySem.W.bind_fn I1.kIn self tI) hus ?_)
  refine codeAny_mono (Fi.run _ X.stack _ _ _ _ _ _ (fun _ _ _ => False) (hr.make C us []) (I2.env0.make C us []) b2 r2 hq) fun r s' hq' => ?_
  cases r with
  | error er => exact hx pins σ _ _ er s' I2 hq'
  | ok fl =>
    cases fl with
    | ret u =>
      obtain ⟨v, H2, os2, bare2, un2, hok2, rv, ev, d, fs, ea, ed, hd1, q2⟩ := hq'
      subst ev
      obtain ⟨h3, g3, d3, t3, os'⟩ := s'
      obtain ⟨t0, G, J, kG, ge, hoe, na⟩ := mk_end0 (d2 := d3) (t2 := t3) I1 hsz kk un2 hok2 os2 bare2 ea ed hd1
      exact ⟨rv, ⟨_, _, _, ⟨G, g3, d3, t3, os'⟩, _, .ref C, some d, rfl, J, kG, ge, hoe, ⟨rfl, rfl, fun vs hv => by cases hv; rfl⟩, rfl, rfl, na, rfl, bare2, raises_own T.exC T.tyC, q2⟩⟩
    | next => exact False.elim hq'
    | brk => exact False.elim hq'
    | cont => exact False.elim hq'
end
/-! ### defs that are told which exception is handled: at a, of the class cls, its dict d -/
structure FnP (P : Program) (w : World) (K : PySem.W.Frag) (mg : Str → Option Value) (base : Heap) (k : Nat) (f : Addr) (fd : FuncData) (ps : List Str) (sp : Addr → Value → Option Addr → Sp) : Prop where
  len : ∀ a c d vs H Q E, sp a c d vs H Q E → vs.length = ps.length
  run : ∀ (A : Around) (outer : List Env) (s : Shared) (H : Hp) (args : Args) (us : List Value) (vs : List V) (Q : VK) (E : XK) (p : Addr × Obj), RoomH k A → Hot1 A p → PinOk outer H s p → Env0 P w K mg base A outer s H →
    BindsTo s fd args (ps.zip us) → Vals vs us → sp p.1 p.2.cls p.2.dict vs H Q E → codeAny (model P w) A (.call (.ref f) args) (CR CX0 outer P w H s Q E) s
/-- the def of this name keeps this promise of the exception that is handled -/
def CalP (P : Program) (w : World) (K : PySem.W.Frag) (mg : Str → Option Value) (base : Heap) (k : Nat) (x : Str) (ps : List Str) (sp : Addr → Value → Option Addr → Sp) : Prop :=
  ∃ f fd, FnP P w K mg base k f fd ps sp ∧ mg x = some (.ref f) ∧ PySem.W.keepIn K (.ref f) = true ∧ Binds K fd ps []
section
variable {P : Program} {w : World} {K : PySem.W.Frag} {mg : Str → Option Value} {base : Heap}
theorem fnP_of {k : Nat} {f : Addr} {name qual : Str} {params : Arguments} {body : List Stmt} {scope : Scope} {dV kV doc pm cdv ct oc : Value} {an od : Option Addr} {osl : Array (Option Value)} {N ps : List Str} {sp : Addr → Value → Option Addr → Sp}
    (lk : K.lookup f = some ⟨oc, od, .func (PySem.W.fnOf name qual params body scope dV kV doc pm an cdv ct), osl⟩) (code : PySem.W.codeIn K cdv qual = true) (S : FnScope N ps scope) (len : ∀ a c d vs H Q E, sp a c d vs H Q E → vs.length = ps.length)
    (hb : ∀ (A : Around) (outer : List Env) (s : Shared) (H : Hp) (vs : List V) (Q : VK) (E : XK) (p : Addr × Obj), Hot1 A p → RoomH k (A.deeper (envOfC qual scope s.heap.objs.size f cdv)) → sp p.1 p.2.cls p.2.dict vs H Q E →
      ∃ t, PSs (cxH CX0 P w K mg base N qual scope f cdv A outer s H E p) body t ∧ t ⟨fun _ H' => Q .non H', Q, fun _ _ => False, fun _ _ => False⟩ (L2.start N vs) H) :
    FnP P w K mg base (k + 1) f (PySem.W.fnOf name qual params body scope dV kV doc pm an cdv ct) ps sp where
  len := len
  run := by
    intro A outer s H args us vs Q E p room hot pinned e0 binds rel h
    have hl := len _ _ _ _ _ _ _ h
    have kin : K.In s.heap := e0.mod.kin.keeps fun b o eb => (e0.bs b o eb).1
    have lim : s.heap.NoLimit := e0.mod.nolimit.keeps fun b o eb => (e0.bs b o eb).1
    refine codeAny_call_function room.depth (kin _ _ lk) rfl S.co S.gen rfl (PySem.W.codeRec_of kin code) (binds _ _ _ _ ?_)
    refine wpAny_newFunctionEnv_cells S.kind (fun y hy => ?_) fun env he s1 x => ?_
    · obtain ⟨n, v⟩ := y
      cases S.par n (List.of_mem_zip hy).1 with
      | inl q => exact .inl q
      | inr q => exact .inr ⟨q, PySem.W.cellsFrom_some _ _ _ (.inl q)⟩
    · subst he
      obtain ⟨t, ht, hq⟩ := hb A outer s H vs Q E p hot (room.deeper _) h
      refine ⟨lim.keeps x.toInCall.keep, codeAny_func ?_⟩
      refine wpAny_mono (ht.run [] s1 (L2.start N vs) H _ (inv_startH S pinned e0 hl rel x) hq) (fun fl s' hs => ?_) fun e s' hs => hs
      cases fl with
      | ret u =>
        obtain ⟨v, σ', H', J, rv, q⟩ := hs
        exact ⟨v, H', J.os, J.bare, J.base, J.hok, rv, q⟩
      | next =>
        obtain ⟨σ', H', J, q⟩ := hs
        exact ⟨.non, H', J.os, J.bare, J.base, J.hok, rfl, q⟩
      | brk =>
        obtain ⟨_, _, _, q⟩ := hs
        exact q.elim
      | cont =>
        obtain ⟨_, _, _, q⟩ := hs
        exact q.elim
theorem defP {x : Str} {st : Stmt} {ps N : List Str} {k : Nat} {sp : Addr → Value → Option Addr → Sp} (F : Rd.Def K mg x st ps) (S : FnScope N ps (defScope st)) (len : ∀ a c d vs H Q E, sp a c d vs H Q E → vs.length = ps.length)
    (body : ∀ (f : Addr) (cdv : Value) (A : Around) (outer : List Env) (s : Shared) (H : Hp) (vs : List V) (Q : VK) (E : XK) (p : Addr × Obj), Hot1 A p → RoomH k (A.deeper (envOfC x (defScope st) s.heap.objs.size f cdv)) → sp p.1 p.2.cls p.2.dict vs H Q E →
      ∃ t, PSs (cxH CX0 P w K mg base N x (defScope st) f cdv A outer s H E p) (defBody st) t ∧ t ⟨fun _ H' => Q .non H', Q, fun _ _ => False, fun _ _ => False⟩ (L2.start N vs) H) : CalP P w K mg base (k + 1) x ps sp := by
  obtain ⟨f, fd, F, m, b⟩ := F
  obtain ⟨oc, od, kV, doc, pm, an, cdv, ct, osl, rfl, lk, hcd⟩ := F.ex
  exact ⟨f, _, fnP_of lk hcd S len (fun A outer s H vs Q E p hot hr h => body f cdv A outer s H vs Q E p hot hr h), m, F.kp, b⟩
end
/-- such a call in an except suite -/
def tCallP (sp : Addr → Value → Option Addr → Sp) (a : Addr) (cls : Value) (d : Option Addr) (t : TA) : TE := fun σ H Q => t σ H fun vs H1 => sp a cls d vs H1 Q E0
theorem pe_calP {X : Cx} {a : Addr} {oe : Obj} {cls : Value} {d : Option Addr} {pn : List (Addr × Obj)} {e : Expr} {es : List Expr} {t : TA} {q pos : Pos} {j k : Nat} {x : Str} {ps : List Str} {sp : Addr → Value → Option Addr → Sp}
    (C : CalP X.prog X.w X.K X.mg X.base j x ps sp) (hz : L2N.Zn cls d oe) (hf : ∃ vs, oe.data = .fields vs) (hr : Room k X.A) (ha : PA (X.suite a ((a, oe) :: pn)) (e :: es) t) (hk : j ≤ k := by decide) (hg : Gl (X.suite a ((a, oe) :: pn)) x := by rfl)
    (hdb : (x == ("__debug__" : Str)) = false := by decide) (he : starEach (e :: es) X.env = (false, eval e X.env) :: starEach es X.env := by rfl) (hpl : (backTo pos (starEach es X.env)).any (·.1) = false := by rfl) :
    PE (X.suite a ((a, oe) :: pn)) (.Call (.Name x q) (e :: es) [] pos) (tCallP sp a cls d t) := by
  obtain ⟨f, fd, F, m, kp, b⟩ := C
  refine ⟨fun pins s σ H Q I h => ?_⟩
  refine wpAny_Call_Name_kw (ld_glob I hg m ?_ hdb)
  refine PySem.W.callWith_K (h₀ := X.base) I.ok.mod.kin kp (thn (ha.run pos pins s σ H _ I h) fun us s1 hh => ?_) he hpl
  obtain ⟨vs, H1, I1, r, h1⟩ := hh
  refine ⟨I1.kIn, ?_⟩
  have hl : us.length = ps.length := by
    rw [← F.len _ _ _ _ _ _ _ h1]
    exact r.length.symm
  have b2 := b s1 us I1.kIn (by rw [List.append_nil]; exact hl)
  rw [List.append_nil] at b2
  obtain ⟨fs, dat⟩ := hf
  obtain ⟨p1, p2, p3, p4, p5⟩ := I1.pin (a, oe) (List.mem_append_left _ List.mem_cons_self)
  have pinned : PinOk X.stack H1 s1 (a, oe) := by
    refine ⟨p1, p2, fun hm => ?_, p5⟩
    cases List.mem_cons.mp (I1.stkSub a hm) with
    | inl z => exact p3 z
    | inr z => exact p4 z
  have hot : Hot1 (X.suite a ((a, oe) :: pn)).A (a, oe) := ⟨rfl, fs, dat, hz.2.2 fs dat⟩
  have h2 : sp (a, oe).1 (a, oe).2.cls (a, oe).2.dict vs H1 Q E0 := by
    show sp a oe.cls oe.dict vs H1 Q E0
    rw [hz.1, hz.2.1]
    exact h1
  have hr2 : RoomH j (X.A.mark (some (.ref a))) := roomH_mark (hr.mono hk) _
  refine wpAny_call (codeAny_mono (F.run _ X.stack s1 H1 ⟨us, []⟩ us vs Q E0 (a, oe) hr2 hot pinned I1.env0 b2 r h2) fun r s' hq => ?_)
  cases r with
  | error e => exact hq.elim
  | ok fl =>
    cases fl with
    | ret u => exact I1.after hq
    | next => exact hq.elim
    | brk => exact hq.elim
    | cont => exact hq.elim
/-- e.f in an except suite: a the exception, cls its class, d its dict -/
def tXs (K : PySem.W.Frag) (a : Addr) (cls : Value) (d : Option Addr) (f : Str) (te : TE) : TE := fun σ H Q => te σ H fun x H1 => x = .ref a ∧ ∃ (C dd : Addr) (fs : List (Str × V)) (v : V), cls = .ref C ∧ XfC K C ∧ PySem.W.findIn K (.ref C) f = some none ∧ d = some dd ∧ H1 dd = some (.xd fs) ∧ fs.lookup f = some v ∧ Q v H1
theorem pe_xs {X : Cx} {K : PySem.W.Frag} (hK : X.K = K) {a : Addr} {oe : Obj} {cls : Value} {d : Option Addr} {pn : List (Addr × Obj)} {e : Expr} {te : TE} {pos : Pos} {n : Str} (hz : L2N.Zn cls d oe) (hf : ∃ vs, oe.data = .fields vs) (he : PE (X.suite a ((a, oe) :: pn)) e te)
    (hb : attributeBase e n X.env (eval e X.env) = eval e X.env := by rfl) : PE (X.suite a ((a, oe) :: pn)) (.Attribute e n pos) (tXs K a cls d n te) := by
  subst hK
  refine ⟨fun pins s σ H Q I h => ?_⟩
  refine attr_of hb (thn (he.run pins s σ H _ I h) fun u s1 hh => ?_)
  obtain ⟨x, H1, I1, rx, ex, C, dd, fs, v, ec, T, hno, ed, hd, l, q⟩ := hh
  subst ex
  obtain rfl : u = Value.ref a := rx
  have at1 : ExAt (X.suite a ((a, oe) :: pn)).pn H1 a C fs := ⟨(a, oe), dd, List.mem_cons_self, rfl, hz.1.trans ec, hz.2.1.trans ed, hf, hd⟩
  obtain ⟨oe', od, dd', mA, J, hl, rel⟩ := at1.inst I1
  obtain ⟨u, hu, ru⟩ := RelO.some_of (v := v) (o := mA n) (by rw [← l]; exact rel n)
  have found := PySem.W.findObj_own (od := od) T.hdC hno rfl (by rw [hl, hu])
  exact HandSPX.exc_get I1.kIn J T.ga T.gg T.exC found (handed_of ru) ⟨v, H1, I1.tok _, ru, q⟩
/-! ### an error class of the program with one field -/
section
variable {P : Program} {w : World} {K : PySem.W.Frag} {mg : Str → Option Value} {base : Heap}
/-- C.__init__(self, y): self.code = x; self.f = y -/
def spInit (K : PySem.W.Frag) (C : Addr) (x f : Str) : Sp := fun vs H Q _ => ∃ (a : Addr) (y : V), vs = [.ref a, y] ∧ H a = some (exo a C none) ∧ OexC K C ∧ PySem.W.findIn K (.ref C) "code" = some none ∧ PySem.W.findIn K (.ref C) f = some none ∧
  ∀ dx, H dx = none → dx ≠ a → Q .non (upd (upd (upd H dx (exd dx [("code", .str x)])) a (exo a C (some dx))) dx (exd dx [(f, y), ("code", .str x)]))
structure ErrC (P : Program) (w : World) (K : PySem.W.Frag) (mg : Str → Option Value) (base : Heap) (x : Str) (C : Addr) (f : Str) : Prop where
  gC : mg x = some (.ref C)
  ox : OexC K C
  xf : XfC K C
  no1 : PySem.W.findIn K (.ref C) "code" = some none
  no2 : PySem.W.findIn K (.ref C) f = some none
  ini : ∃ fI fd, PySem.W.findIn K (.ref C) "__init__" = some (some (.ref fI)) ∧ PySem.W.typeIn K (.ref fI) = some (.type "function") ∧ FnOk P w K mg base CX0 1 fI fd ["self", f] (spInit K C x f) ∧ Binds K fd ["self", f] []
end
def tErr (C : Addr) (x f : Str) (ta : TA) : L2.St → Hp → XK → Prop := fun σ H Q => ta σ H fun vs H1 => ∃ y, vs = [y] ∧ ∀ d, H1 d = none → Q (.ref C) (some d) (upd H1 d (.xd [(f, y), ("code", .str x)]))
def tRaise (C : Addr) (x f : Str) (W : WX) (ta : TA) : TS := fun _ σ H => tErr C x f ta σ H fun cls d H' => W cls d σ H'
theorem upd_del {H : Hp} {a d : Addr} {o1 o2 o3 o4 o : HO} (n : H a = none) : upd (del (upd (upd (upd (upd H a o1) d o2) a o3) d o4) a) d o = upd H d o := by
  funext b
  by_cases hd : b = d
  · rw [hd, upd_same, upd_same]
  · rw [upd_ne hd, upd_ne hd]
    by_cases ha : b = a
    · rw [ha, del_same, n]
    · rw [del_ne ha, upd_ne hd, upd_ne ha, upd_ne hd, upd_ne ha]
def Up (ta : TA) : Prop := ∀ (σ : L2.St) (H : Hp) (Q Q' : List V → Hp → Prop), (∀ vs H', Q vs H' → Q' vs H') → ta σ H Q → ta σ H Q'
theorem up_v {i : Nat} : Up (tCons (tVar i) tNil) := fun σ H Q Q' k h => by
  obtain ⟨v, e, q⟩ := h
  exact ⟨v, e, k _ _ q⟩
theorem up_c {v : V} : Up (tCons (tC v) tNil) := fun σ H Q Q' k h => k _ _ h
theorem mk_of_err {P : Program} {w : World} {K : PySem.W.Frag} {mg : Str → Option Value} {base : Heap} {x f : Str} {C : Addr} {ta : TA} {σ : L2.St} {H : Hp} {Q : XK} (T : ErrC P w K mg base x C f) (up : Up ta) (h : tErr C x f ta σ H Q) : tMkO C (spInit K C x f) [] ta σ H Q := by
  refine up σ H _ _ (fun vs H1 q => ?_) h
  obtain ⟨y, rfl, q⟩ := q
  refine ⟨by show 1 ≤ 1000; decide, fun a na => ⟨a, y, rfl, upd_same, T.ox, T.no1, T.no2, fun dx nd ne => ?_⟩⟩
  have nd1 : H1 dx = none := by
    rw [upd_ne ne] at nd
    exact nd
  refine ⟨rfl, dx, _, (upd_ne (Ne.symm ne)).trans upd_same, upd_same, nd1, ?_⟩
  rw [upd_del na]
  exact q dx nd1
section
variable {X : Cx} {W : WX} {e : Expr} {ta : TA} {x f : Str} {C : Addr} {p pos pos2 : Pos} {k : Nat}
theorem ps_err (hc : X.calm = true) (T : ErrC X.prog X.w X.K X.mg X.base x C f) (hr : Room k X.A) (tk : L2N.Takes X W) (ha : PA X [e] ta) (up : Up ta) (hk : 2 ≤ k := by decide) (hg : Gl X x := by rfl) (hdb : (x == ("__debug__" : Str)) = false := by decide)
    (he : starEach (e :: []) X.env = (false, eval e X.env) :: starEach [] X.env := by rfl) (hpl : (backTo pos (starEach [] X.env)).any (·.1) = false := by rfl) :
    PS X (.Raise (some (.Call (.Name x p) [e] [] pos)) none pos2) (tRaise C x f W ta) := by
  obtain ⟨fI, fd, iC, tI, F, b⟩ := T.ini
  have mk := pmk_init (X := X) (p := p) (pos := pos) T.ox iC tI F (hr.mono hk) b pass0 hg T.gC ha hdb he hpl
  exact L2N.ps_raise hc tk (t := tErr C x f ta) fun pins s σ H Q I h => mk pins s σ H Q I (mk_of_err T up h)
end
/-! ### small ones -/
theorem takes0 {X : Cx} : L2N.Takes X (fun _ _ _ _ => False) := fun _ _ x => by
  obtain ⟨_, _, _, _, _, _, _, _, _, _, _, _, _, _, _, _, z⟩ := x
  exact z.elim
theorem pe_const {X : Cx} {x : Str} {v : Int} {pos : Pos} (h : ∃ t, X.mg x = some (.int v t)) (hg : Gl X x) (hd : (x == ("__debug__" : Str)) = false := by decide) : PE X (.Name x pos) (tC (.int v)) := by
  obtain ⟨t, h⟩ := h
  exact pe_glob hg h ⟨t, rfl⟩ hd
section
variable {X : Cx} {K : PySem.W.Frag} {pn : List (Addr × Obj)}
theorem q_isEK (hK : X.K = K) (hp : X.pn = pn) : CallR X (.builtin "isinstance") (rIsE K pn) := by
  subst hK hp
  exact q_isE
theorem pe_xeK {e : Expr} {te : TE} {pos : Pos} {n : Str} (hK : X.K = K) (hp : X.pn = pn) (he : PE X e te) (hb : attributeBase e n X.env (eval e X.env) = eval e X.env := by rfl) : PE X (.Attribute e n pos) (tXe K pn n te) := by
  subst hK hp
  exact pe_xe he hb
theorem pe_lcHK {elt tg iter : Expr} {ifs : List Expr} {scope : Scope} {own : List (Str × Nat)} {pos : Pos} {tl : TE} {g : TG} {tt : TT} {te : TE} (hK : X.K = K) (hot : HotC X) (hN : X.N.Nodup) (hi : PE X iter tl) (ok : BlkOk X.N X.env.scope scope own)
    (hg : ∀ (s : Shared) (H : Hp) (C : Addr) (cl : List (Str × Addr)) (fp : List Addr), PG (X.blk s H scope (compEnvC scope cl C X.env) fp) tg g) (ht : ∀ (s : Shared) (H : Hp) (C : Addr) (cl : List (Str × Addr)) (fp : List Addr), PTs (X.blk s H scope (compEnvC scope cl C X.env) fp) ifs tt)
    (he : ∀ (s : Shared) (H : Hp) (C : Addr) (cl : List (Str × Addr)) (fp : List Addr), PE (X.blk s H scope (compEnvC scope cl C X.env) fp) elt te) (hs : ∀ x, foldedSetIterable iter X.env x = pure x := by intro _; rfl) :
    PE X (.ListComp elt [⟨tg, iter, ifs, 0⟩] scope pos) (tLc (iList K tl) g tt te (own.map (·.2))) := by
  subst hK
  exact pe_lcH hot hN hi ok hg ht he hs
theorem eqDK (hK : X.K = K) (hu : X.A.units + 64 < cLine) : OpR X (compareOp .Eq) (rEqD K) := by
  subst hK
  exact op_eqD hu
theorem neDK (hK : X.K = K) (hu : X.A.units + 64 < cLine) : OpR X (compareOp .NotEq) (rNeD K) := by
  subst hK
  exact op_neD hu
theorem unitsH {k : Nat} {A : Around} (r : RoomH k A) : A.units + 64 < cLine := by
  have := r.un
  omega
end
/-- what the written part says of the class of an error, so that isinstance and fields are known -/
structure Knd (K : PySem.W.Frag) (D : Str → Addr) (names : List Str) (C : Addr) (code f : Str) : Prop where
  xf : XfC K C
  xk : XkC K C
  xo : XkO K
  nf : PySem.W.findIn K (.ref C) f = some none
  nc : PySem.W.findIn K (.ref C) "code" = some none
  is : ∀ x ∈ names, PySem.W.kitOne K (.ref C) (.ref (D x)) = some (decide (x = code))
  ve : PySem.W.kitOne K (.ref C) (.type "ValueError") = some true
section
variable {K : PySem.W.Frag} {D : Str → Addr} {names : List Str} {C dd : Addr} {code f x : Str} {p : Addr × Obj} {fs : List (Str × V)} {H : Hp} {Q : VK} {b : Bool}
theorem isE (kn : Knd K D names C code f) (hc : p.2.cls = .ref C) (hd : p.2.dict = some dd) (hv : ∃ vs, p.2.data = .fields vs) (hx : H dd = some (.xd fs)) (m : x ∈ names) (e : decide (x = code) = b) (q : Q (.bl b) H) : rIsE K [p] [.ref p.1, .ref (D x)] H Q := by
  subst e
  exact ⟨p.1, C, fs, _, _, _, rfl, ⟨p, dd, List.mem_cons_self, rfl, hc, hd, hv, hx⟩, kn.xf, kn.xk, kn.xo, .own _, kn.is x m, q⟩
theorem isEf (kn : Knd K D names C code f) (hc : p.2.cls = .ref C) (hd : p.2.dict = some dd) (hv : ∃ vs, p.2.data = .fields vs) (hx : H dd = some (.xd fs)) (m : x ∈ names ∧ decide (x = code) = false) (q : Q (.bl false) H) : rIsE K [p] [.ref p.1, .ref (D x)] H Q := isE kn hc hd hv hx m.1 m.2 q
theorem isEt (kn : Knd K D names C code f) (hc : p.2.cls = .ref C) (hd : p.2.dict = some dd) (hv : ∃ vs, p.2.data = .fields vs) (hx : H dd = some (.xd fs)) (m : x ∈ names ∧ decide (x = code) = true) (q : Q (.bl true) H) : rIsE K [p] [.ref p.1, .ref (D x)] H Q := isE kn hc hd hv hx m.1 m.2 q
theorem isVE (kn : Knd K D names C code f) (hc : p.2.cls = .ref C) (hd : p.2.dict = some dd) (hv : ∃ vs, p.2.data = .fields vs) (hx : H dd = some (.xd fs)) (q : Q (.bl true) H) : rIsE K [p] [.ref p.1, .ty "ValueError"] H Q :=
  ⟨p.1, C, fs, _, _, _, rfl, ⟨p, dd, List.mem_cons_self, rfl, hc, hd, hv, hx⟩, kn.xf, kn.xk, kn.xo, .ty _, kn.ve, q⟩
theorem xeE {v : V} (kn : Knd K D names C code f) (hc : p.2.cls = .ref C) (hd : p.2.dict = some dd) (hv : ∃ vs, p.2.data = .fields vs) (hx : H dd = some (.xd fs)) (l : fs.lookup f = some v) (q : Q v H) :
    ∃ (a C : Addr) (fs : List (Str × V)) (v : V), V.ref p.1 = .ref a ∧ ExAt [p] H a C fs ∧ XfC K C ∧ PySem.W.findIn K (.ref C) f = some none ∧ fs.lookup f = some v ∧ Q v H :=
  ⟨p.1, C, fs, v, rfl, ⟨p, dd, List.mem_cons_self, rfl, hc, hd, hv, hx⟩, kn.xf, kn.nf, l, q⟩
end
theorem xe {K : PySem.W.Frag} {pn : List (Addr × Obj)} {f : Str} {te : TE} {σ : L2.St} {H : Hp} {Q : VK} (h : te σ H fun x H1 => ∃ (a C : Addr) (fs : List (Str × V)) (v : V), x = .ref a ∧ ExAt pn H1 a C fs ∧ XfC K C ∧ PySem.W.findIn K (.ref C) f = some none ∧ fs.lookup f = some v ∧ Q v H1) : tXe K pn f te σ H Q := h
/-- _law_refusal(e, e.code): a new tuple -/
def spRef (K : PySem.W.Frag) (D : Str → Addr) (names : List Str) (code f : Str) : Addr → Value → Option Addr → Sp := fun a cls d vs H Q _ => ∃ (C dd : Addr) (y : V), cls = .ref C ∧ d = some dd ∧ vs = [.ref a, .str code] ∧ Knd K D names C code f ∧ H dd = some (.xd [(f, y), ("code", .str code)]) ∧
  ∀ p H', H p = none → L2.Same H H' → H' p = some (.tup [.str "refused", .str code, y]) → Q (.ref p) H'
end Ho
namespace Rd
open PySem PySem.Spec PyProof.Rows L2
section
variable {K : PySem.W.Frag} {σ : L2.St} {H : Hp} {g : TG} {tt : TT} {te : TE} {vs : List Nat} {Q : VK} {a : Addr}
/-- a comprehension whose turns only make their item -/
theorem lcMap (xs : List V) (f : V → V) (ha : SqL K H a xs) (hz : xs.length ≤ 100000)
    (hs : ∀ (i : Nat) (x : V) (L : Addr) (G : Hp) (out : List V) (Nx : Hp → Prop), xs[i]? = some x → Same H G → G L = some (.lst out) → out.length < sizeLine → Nx (upd G L (.lst (out ++ [f x]))) → Turn1 g tt te vs σ L x G Nx)
    (hd : ∀ (L : Addr) (G : Hp), H L = none → Same H G → G L = some (.lst (xs.map f)) → Q (.ref L) G) : LcB (Itl K a) g tt te vs σ H Q := by
  refine lcL xs fun L hL => ⟨fun i h => i ≤ xs.length ∧ h = upd H L (.lst ((xs.take i).map f)), ⟨Nat.zero_le _, rfl⟩, ?_, ?_, ?_⟩
  · rintro i h _ ⟨_, rfl⟩
    exact (same_upd hL).seq ha
  · rintro i x h hx ⟨hi, rfl⟩
    have lt : i < xs.length := (List.getElem?_eq_some_iff.mp hx).1
    refine hs i x L _ _ _ hx (same_upd hL) upd_same ?_ ⟨lt, ?_⟩
    · rw [List.length_map, List.length_take]
      exact sz5' (by omega)
    · rw [upd_upd, List.take_add_one, hx, List.map_append]
      rfl
  · rintro h ⟨_, rfl⟩
    rw [List.take_length]
    exact hd L _ hL (same_upd hL) upd_same
theorem dp_bls : ∀ bs : List Bool, DpAll K H (bs.map V.bl) (bs.map PyData.bool)
  | [] => .nil
  | b :: bs => .cons (.bl b) (dp_bls bs)
/-- two lists of the same bools differ not -/
theorem neBl {p q : Addr} {xs ys : List V} (bs : List Bool) (h : H p = some (.lst xs)) (h' : H q = some (.lst ys)) (e : (xs = bs.map V.bl ∧ ys = bs.map V.bl) ∧ SeqAt.shaped (.list (bs.map PyData.bool)) = true ∧ PyData.eqv (.list (bs.map PyData.bool)) (.list (bs.map PyData.bool)) = true)
    (k : Q (.bl false) H) : rNeD K (.ref p) (.ref q) H Q := by
  obtain ⟨⟨rfl, rfl⟩, e1, e2⟩ := e
  refine ⟨_, _, .lst (.inl (.inl h)) (dp_bls bs), .lst (.inl (.inl h')) (dp_bls bs), e1, e1, ?_⟩
  rw [e2]
  exact k
theorem idx {p : Addr} {ys : List V} {y : V} (j : Nat) (h : H p = some (.lst ys)) (e : (flatV y && (ys.all flatV && ((ys[j]?.any fun z => eqV z y) && (ys.take j).all fun z => !eqV z y))) = true) (k : Q (.int (j : Nat)) H) : rIndex K (.ref p) [y] H Q := by
  obtain ⟨e1, e⟩ := Bool.and_eq_true_iff.mp e
  obtain ⟨e2, e⟩ := Bool.and_eq_true_iff.mp e
  obtain ⟨e3, e4⟩ := Bool.and_eq_true_iff.mp e
  cases hz : ys[j]? with
  | none =>
    rw [hz] at e3
    cases e3
  | some z =>
    rw [hz] at e3
    refine ⟨p, ys, y, j, z, rfl, rfl, .inl (.inl h), e1, e2, hz, e3, fun m z' hm hz' => ?_, k⟩
    have q := List.all_eq_true.mp e4 z' (List.mem_of_getElem? (i := m) (by rw [List.getElem?_take_of_lt hm]; exact hz'))
    simpa using q
theorem iteDt {p A B : Prop} [Decidable p] (h : p) (k : A) : if decide p = true then A else B := by
  rw [if_pos (decide_eq_true h)]
  exact k
theorem iteDf {p A B : Prop} [Decidable p] (h : ¬ p) (k : B) : if decide p = true then A else B := by
  rw [if_neg (by rw [decide_eq_false h]; exact Bool.false_ne_true)]
  exact k
end
end Rd
/-! ### data with dicts of at most one entry -/
namespace Rd
open PySem PySem.Spec PyProof.Rows L2
mutual
inductive Dv (K : PySem.W.Frag) (H : Hp) : V → PyData → Prop
  | non : Dv K H .non .none
  | bl (b : Bool) : Dv K H (.bl b) (.bool b)
  | int (i : Int) : Dv K H (.int i) (.int i)
  | str (x : Str) : Dv K H (.str x) (.str x)
  | lst {a : Addr} {xs : List V} {ds : List PyData} : SqL K H a xs → DvAll K H xs ds → Dv K H (.ref a) (.list ds)
  | tup {a : Addr} {xs : List V} {ds : List PyData} : SqT K H a xs → DvAll K H xs ds → Dv K H (.ref a) (.tuple ds)
  | dc0 {a : Addr} : H a = some (.dK []) → Dv K H (.ref a) (.dict [])
  | dc1 {a : Addr} {k : Str} {v : V} {d : PyData} : H a = some (.dK [(Sum.inr k, v)]) → Dv K H v d → Dv K H (.ref a) (.dict [(.str k, d)])
inductive DvAll (K : PySem.W.Frag) (H : Hp) : List V → List PyData → Prop
  | nil : DvAll K H [] []
  | cons {v : V} {vs : List V} {d : PyData} {ds : List PyData} : Dv K H v d → DvAll K H vs ds → DvAll K H (v :: vs) (d :: ds)
end
/-- data no deeper than n, with short lists -/
inductive Fd : Nat → PyData → Prop
  | non {n : Nat} : Fd n .none
  | bl {n : Nat} (b : Bool) : Fd n (.bool b)
  | int {n : Nat} (i : Int) : Fd n (.int i)
  | str {n : Nat} (s : Str) : Fd n (.str s)
  | lst {n : Nat} {ds : List PyData} : ds.length ≤ 100000 → (∀ d ∈ ds, Fd n d) → Fd (n + 1) (.list ds)
  | tup {n : Nat} {ds : List PyData} : ds.length ≤ 100000 → (∀ d ∈ ds, Fd n d) → Fd (n + 1) (.tuple ds)
  | dc0 {n : Nat} : Fd (n + 1) (.dict [])
  | dc1 {n : Nat} {k : Str} {d : PyData} : Fd n d → Fd (n + 1) (.dict [(.str k, d)])
theorem Fd.mono {n m : Nat} {d : PyData} (h : Fd n d) (k : n ≤ m) : Fd m d := by
  induction h generalizing m with
  | non => exact .non
  | bl b => exact .bl b
  | int i => exact .int i
  | str s => exact .str s
  | lst l _ ih =>
    cases m with
    | zero => omega
    | succ m => exact .lst l fun d hd => ih d hd (by omega)
  | tup l _ ih =>
    cases m with
    | zero => omega
    | succ m => exact .tup l fun d hd => ih d hd (by omega)
  | dc0 =>
    cases m with
    | zero => omega
    | succ m => exact .dc0
  | dc1 _ ih =>
    cases m with
    | zero => omega
    | succ m => exact .dc1 (ih (by omega))
section
variable {K : PySem.W.Frag} {H H' : Hp} {Q : VK}
theorem va_len : ∀ {vs : List V} {ds : List PyData}, DvAll K H vs ds → vs.length = ds.length
  | _, _, .nil => rfl
  | _, _, .cons _ r => by rw [List.length_cons, List.length_cons, va_len r]
theorem va_at : ∀ (vs : List V) (ds : List PyData) (i : Nat) (d : PyData), DvAll K H vs ds → ds[i]? = some d → ∃ v, vs[i]? = some v ∧ Dv K H v d
  | _, [], _, _, _, e => by simp at e
  | [], _ :: _, _, _, h, _ => by cases h
  | v :: _, _ :: _, 0, _, h, e => by
    cases h with
    | cons a _ =>
      cases e
      exact ⟨v, rfl, a⟩
  | _ :: vs, _ :: ds, i + 1, d, h, e => by
    cases h with
    | cons _ r =>
      obtain ⟨v, ev, dv⟩ := va_at vs ds i d r (by simpa using e)
      exact ⟨v, by simpa using ev, dv⟩
theorem va_append : ∀ (vs : List V) (ds : List PyData) {ws : List V} {es : List PyData}, DvAll K H vs ds → DvAll K H ws es → DvAll K H (vs ++ ws) (ds ++ es)
  | [], [], _, _, _, h => h
  | _ :: vs, _ :: ds, _, _, h, h' => by
    cases h with
    | cons a r => exact .cons a (va_append vs ds r h')
  | [], _ :: _, _, _, h, _ => by cases h
  | _ :: _, [], _, _, h, _ => by cases h
mutual
theorem dv_same (e : Same H H') : ∀ {v : V} {d : PyData}, Dv K H v d → Dv K H' v d
  | _, _, .non => .non
  | _, _, .bl b => .bl b
  | _, _, .int i => .int i
  | _, _, .str s => .str s
  | _, _, .lst h r => .lst (e.seq h) (va_same e r)
  | _, _, .tup h r => .tup (sqT_same e h) (va_same e r)
  | _, _, .dc0 h => .dc0 (e _ _ h)
  | _, _, .dc1 h r => .dc1 (e _ _ h) (dv_same e r)
theorem va_same (e : Same H H') : ∀ {v : List V} {d : List PyData}, DvAll K H v d → DvAll K H' v d
  | _, _, .nil => .nil
  | _, _, .cons h r => .cons (dv_same e h) (va_same e r)
end
def tnv : PyData → String
  | .none => "NoneType"
  | .bool _ => "bool"
  | .int _ => "int"
  | .str _ => "str"
  | .list _ => "list"
  | .tuple _ => "tuple"
  | .dict _ => "dict"
theorem dv_ty {x : V} {d : PyData} (h : Dv K H x d) : TyX K H x (.type (tnv d)) := by
  cases h with
  | non => exact .base .non
  | bl b => exact .base (.bl b)
  | int i => exact .base (.int i)
  | str s => exact .base (.str s)
  | lst h _ => exact tyL' h
  | tup h _ => exact tyT' h
  | dc0 h => exact .base (.dK h)
  | dc1 h _ => exact .base (.dK h)
theorem tyD' {a : Addr} {kvs : List (Key × V)} (h : H a = some (.dK kvs)) : TyX K H (.ref a) (.type "dict") := .base (.dK h)
/-- len of a list, a tuple, a dict -/
def rLenA (K : PySem.W.Frag) : List V → Hp → VK → Prop := fun xs H Q => ∃ (p : Addr) (n : Nat), xs = [.ref p] ∧ ((∃ ys, (SqL K H p ys ∨ SqT K H p ys) ∧ n = ys.length) ∨ ∃ kvs, H p = some (.dK kvs) ∧ n = kvs.length) ∧ Q (.int n) H
theorem q_lenA {X : Cx} : CallR X (.builtin "len") (rLenA X.K) := by
  intro pins s σ H xs us Q I r h
  obtain ⟨p, n, rfl, h | h, q⟩ := h
  · obtain ⟨ys, h, rfl⟩ := h
    exact q_len pins s σ H _ us Q I r ⟨p, ys, rfl, h, q⟩
  · obtain ⟨kvs, h, rfl⟩ := h
    exact call_lenD pins s σ H _ us Q I r ⟨p, kvs, rfl, h, q⟩
theorem lenAs {p : Addr} {ys : List V} (h : SqL K H p ys ∨ SqT K H p ys) (q : Q (.int ys.length) H) : rLenA K [.ref p] H Q := ⟨p, _, rfl, .inl ⟨ys, h, rfl⟩, q⟩
theorem lenAd {p : Addr} {kvs : List (Key × V)} (h : H p = some (.dK kvs)) (q : Q (.int kvs.length) H) : rLenA K [.ref p] H Q := ⟨p, _, rfl, .inr ⟨kvs, h, rfl⟩, q⟩
theorem din {td : TE} {σ : L2.St} {ty : TE} (h : ty σ H fun y H1 => td σ H1 fun x H2 => ∃ a o, x = .ref a ∧ DGet H2 a y o ∧ Q (.bl (!o.isSome)) H2) : tDNotIn ty td σ H Q := h
theorem dget {td ty : TE} {σ : L2.St} (h : td σ H fun x H1 => ty σ H1 fun y H2 => ∃ a v, x = .ref a ∧ DGet H2 a y (some v) ∧ Q v H2) : tDGet td ty σ H Q := h
def rListDk : List V → Hp → VK → Prop := fun xs H Q => ∃ (a : Addr) (kvs : List (Key × V)), xs = [.ref a] ∧ Rd H a (.dK kvs) ∧ ∀ p, H p = none → Q (.ref p) (upd H p (.lst (kvs.map fun kv => kV kv.1)))
theorem q_listDk {X : Cx} (hc : X.calm = true) : CallR X (.type "list") rListDk := call_listD hc
theorem listDk {a : Addr} {kvs : List (Key × V)} {zs : List V} (h : H a = some (.dK kvs)) (e : (kvs.map fun kv => kV kv.1) = zs) (q : ∀ p, H p = none → Q (.ref p) (upd H p (.lst zs))) : rListDk [.ref a] H Q := by
  subst e
  exact ⟨a, kvs, rfl, .inl h, q⟩
end
end Rd
namespace Rd
open PySem PySem.Spec PyProof.Rows L2
theorem q_lenAK {X : Cx} {K : PySem.W.Frag} (h : X.K = K) : CallR X (.builtin "len") (rLenA K) := h ▸ q_lenA
end Rd
namespace Rd
open PySem PySem.Spec PyProof.Rows L2
theorem bb_isinstance : bootBuiltins "isinstance" = some (.builtin "isinstance") := by decide +kernel
theorem bb_int : bootBuiltins "int" = some (.type "int") := by decide +kernel
theorem bb_bool : bootBuiltins "bool" = some (.type "bool") := by decide +kernel
theorem bb_str : bootBuiltins "str" = some (.type "str") := by decide +kernel
theorem bb_list : bootBuiltins "list" = some (.type "list") := by decide +kernel
theorem bb_tuple : bootBuiltins "tuple" = some (.type "tuple") := by decide +kernel
theorem bb_dict : bootBuiltins "dict" = some (.type "dict") := by decide +kernel
theorem bb_ValueError : bootBuiltins "ValueError" = some (.type "ValueError") := by decide +kernel
theorem bb_max : bootBuiltins "max" = some (.builtin "max") := by decide +kernel
theorem bb_min : bootBuiltins "min" = some (.builtin "min") := by decide +kernel
theorem bb_abs : bootBuiltins "abs" = some (.builtin "abs") := by decide +kernel
theorem bb_sorted : bootBuiltins "sorted" = some (.builtin "sorted") := by decide +kernel
theorem bb_all : bootBuiltins "all" = some (.builtin "all") := by decide +kernel
end Rd
namespace Rd
open PySem PySem.Spec PyProof.Rows L2
theorem q_sortedSK {X : Cx} {K : PySem.W.Frag} (h : X.K = K) : CallR X (.builtin "sorted") (rSortedS K) := h ▸ cr_sortedS
theorem sortS1 {K : PySem.W.Frag} {H : Hp} {Q : VK} {a : Addr} (z : List Str) (hz : z.length ≤ 1) (h : SqL K H a (z.map V.str)) (q : ∀ p, H p = none → Q (.ref p) (upd H p (.lst (z.map V.str)))) : rSortedS K [.ref a] H Q := by
  have lt : z.length < 64 := Nat.lt_of_le_of_lt hz (by decide)
  refine ⟨a, z, rfl, h, lt, fun ys p pm _ n => ?_⟩
  have e : ys = z := by
    rcases z with _ | ⟨x, _ | ⟨y, z⟩⟩
    · exact List.perm_nil.mp pm
    · exact List.perm_singleton.mp pm
    · exact absurd hz (by rw [List.length_cons, List.length_cons]; omega)
  subst e
  exact q p n
end Rd
namespace Rd
open PySem PySem.Spec PyProof.Rows L2
theorem dget_k {H : Hp} {a : Addr} {k : Str} {v : V} (h : H a = some (.dK [(Sum.inr k, v)])) : DGet H a (.str k) (some v) := by
  have e : valV [((Sum.inr k : Key), v)] (Sum.inr k) = some v := by simp [valV]
  exact .inl ⟨_, Sum.inr k, .inl h, rfl, e.symm⟩
theorem someF {v : V} {A B : Prop} (h : B) : if (!(some v).isSome) = true then A else B := h
theorem lcT {K : PySem.W.Frag} {g : TG} {tt : TT} {te : TE} {vs : List Nat} {σ : L2.St} {H : Hp} {Q : VK} {a : Addr} (xs : List V) (f : ∀ L, H L = none → ∃ Pv : Nat → Hp → Prop, Pv 0 (upd H L (.lst [])) ∧ (∀ i h, i ≤ xs.length → Pv i h → SqT K h a xs) ∧
    (∀ i x h, xs[i]? = some x → Pv i h → Turn1 g tt te vs σ L x h (Pv (i + 1))) ∧ ∀ h, Pv xs.length h → Q (.ref L) h) : LcB (Itt K a) g tt te vs σ H Q := fun L hL => by
  obtain ⟨Pv, h0, hl, hs, hd⟩ := f L hL
  exact lc_tup (Qd := Q (.ref L)) Pv h0 hl hs hd
/-! data without lists and dicts stays where lists are written -/
mutual
theorem dv_tk {K : PySem.W.Frag} {H H' : Hp} (e : Tk H H') : ∀ {v : V} {d : PyData}, Dv K H v d → Tp d → Dv K H' v d
  | _, _, .non, _ => .non
  | _, _, .bl b, _ => .bl b
  | _, _, .int i, _ => .int i
  | _, _, .str s, _ => .str s
  | _, _, .lst _ _, t => nomatch t
  | _, _, .tup h r, .tup t => .tup (sqT_tk e h) (va_tk e r t)
  | _, _, .dc0 _, t => nomatch t
  | _, _, .dc1 _ _, t => nomatch t
theorem va_tk {K : PySem.W.Frag} {H H' : Hp} (e : Tk H H') : ∀ {v : List V} {d : List PyData}, DvAll K H v d → (∀ x ∈ d, Tp x) → DvAll K H' v d
  | _, _, .nil, _ => .nil
  | _, _, .cons h r, t => .cons (dv_tk e h (t _ List.mem_cons_self)) (va_tk e r fun x hx => t x (List.mem_cons_of_mem _ hx))
end
theorem itup {K : PySem.W.Frag} {te : TE} {σ : L2.St} {H : Hp} {R : It → Hp → Prop} (h : te σ H fun x H1 => ∃ a, x = .ref a ∧ (∃ xs, SqT K H1 a xs) ∧ R (Itt K a) H1) : iTup K te σ H R := h
theorem extup {K : PySem.W.Frag} {H : Hp} {p : Addr} {ys : List V} {P' : Addr → Prop} (h : SqT K H p ys) (g : P' p) : ∃ a, V.ref p = V.ref a ∧ (∃ zs, SqT K H a zs) ∧ P' a := ⟨p, rfl, ⟨ys, h⟩, g⟩
end Rd
/-! ### texts -/
namespace Rd
open PySem PySem.Spec PyProof.Rows L2
/-- a text some times -/
def rRepZ : R2 := fun x y H Q => ∃ (z : Str) (n : Int), x = .str z ∧ y = .int n ∧ (z.length ≤ 1000 ∧ -1000 ≤ n ∧ n ≤ 1000) ∧ Q (.str (Txt.mul z n)) H
theorem mulOk {z : Str} {n : Int} (h : z.length ≤ 1000 ∧ -1000 ≤ n ∧ n ≤ 1000) : MulOk z n := by
  obtain ⟨h1, h2, h3⟩ := h
  refine ⟨?_, fun k _ => ?_, fun k _ => ?_⟩
  · rw [decide_eq_false (by omega), decide_eq_false (by omega)]
    rfl
  · have : (1000 : Int) ≤ (2 ^ 63 - 1) / n := Int.le_ediv_of_mul_le (by omega) (by omega)
    omega
  · have a : n.toNat ≤ 1000 := by omega
    have b : z.length * n.toNat ≤ 1000 * 1000 := Nat.mul_le_mul h1 a
    have c : (1000 * 1000 : Nat) ≤ sizeLine := by decide
    unfold Builtin.Str.tooLong
    exact decide_eq_false (by omega)
theorem op_rep_str {X : Cx} : OpR X (binaryOp .Mult) rRepZ := by
  intro pins s σ H x y v u Q I rx ry h
  obtain ⟨z, n, rfl, rfl, hz, q⟩ := h
  obtain ⟨t, rfl⟩ := rx
  obtain ⟨t', rfl⟩ := ry
  exact SB.mul (mulOk hz) fun t' k => ⟨.str _, H, I.tok _, ⟨_, rfl⟩, q⟩
def rLeZ : R2 := fun x y H Q => ∃ i j, x = .str i ∧ y = .str j ∧ Q (.bl (!decide (j.cps.toList < i.cps.toList))) H
def rGtZ : R2 := fun x y H Q => ∃ i j, x = .str i ∧ y = .str j ∧ Q (.bl (decide (j.cps.toList < i.cps.toList))) H
def rGeZ : R2 := fun x y H Q => ∃ i j, x = .str i ∧ y = .str j ∧ Q (.bl (!decide (i.cps.toList < j.cps.toList))) H
theorem o_leZ {X : Cx} : OpR X (compareOp .LtE) rLeZ := op_le_str
theorem o_gtZ {X : Cx} : OpR X (compareOp .Gt) rGtZ := op_gt_str
theorem o_geZ {X : Cx} : OpR X (compareOp .GtE) rGeZ := op_ge_str
section
variable {K : PySem.W.Frag} {σ σ' : L2.St} {H : Hp} {Q : VK} {a b' z : Str} {g : TG} {tb : TS} {tt : TT} {te : TE} {n b c : L2.St → Hp → Prop} {rr : VK} {vs : List Nat}
theorem repZ {n : Int} (h : z.length ≤ 1000 ∧ -1000 ≤ n ∧ n ≤ 1000) (q : Q (.str (Txt.mul z n)) H) : rRepZ (.str z) (.int n) H Q := ⟨z, n, rfl, rfl, h, q⟩
theorem leZ (h : Q (.bl (!decide (b'.cps.toList < a.cps.toList))) H) : rLeZ (.str a) (.str b') H Q := ⟨a, b', rfl, rfl, h⟩
theorem gtZ (h : Q (.bl (decide (b'.cps.toList < a.cps.toList))) H) : rGtZ (.str a) (.str b') H Q := ⟨a, b', rfl, rfl, h⟩
theorem geZ (h : Q (.bl (!decide (a.cps.toList < b'.cps.toList))) H) : rGeZ (.str a) (.str b') H Q := ⟨a, b', rfl, rfl, h⟩
theorem istr {R : It → Hp → Prop} (h : te σ H fun v H1 => ∃ x, v = .str x ∧ R (Its x) H1) : iStr te σ H R := h
theorem exstr {P : Str → Prop} (h : P z) : ∃ x, V.str z = V.str x ∧ P x := ⟨z, rfl, h⟩
theorem at_cl {i : Nat} {c : Nat} (h : z.cps[i]? = some c) : (cl z)[i]? = some c := by
  rw [Array.getElem?_toList]
  exact h
theorem forZ (Pv : Nat → L2.St → Hp → Prop) (h0 : Pv 0 σ H)
    (hs : ∀ i x σ H, (cl z)[i]? = some x → Pv i σ H → g (.str ⟨#[x]⟩) σ H fun σ2 H2 => tb ⟨Pv (i + 1), rr, n, Pv (i + 1)⟩ σ2 H2) (hd : ∀ σ H, Pv z.length σ H → n σ H) : ForB (Its z) g tb ⟨n, rr, b, c⟩ σ H := by
  refine L2.for_it (D := ⟨n, rr, b, c⟩) L2.walk_str Pv h0 (fun _ _ _ _ _ => trivial) (fun i x σ H H' hi p y => ?_) hd
  obtain ⟨rfl, c, hc, rfl⟩ := y
  exact hs i c σ H' (at_cl hc) p
theorem lcZ (f : ∀ L, H L = none → ∃ Pv : Nat → Hp → Prop, Pv 0 (upd H L (.lst [])) ∧ (∀ i x h, (cl z)[i]? = some x → Pv i h → Turn1 g tt te vs σ L (.str ⟨#[x]⟩) h (Pv (i + 1))) ∧ ∀ h, Pv z.length h → Q (.ref L) h) : LcB (Its z) g tt te vs σ H Q := fun L hL => by
  obtain ⟨Pv, h0, hs, hd⟩ := f L hL
  refine L2.lc_it (Qd := Q (.ref L)) L2.walk_str Pv h0 (fun _ _ _ _ => trivial) (fun i x h h' hi p y => ?_) hd
  obtain ⟨rfl, c, hc, rfl⟩ := y
  exact hs i c h' (at_cl hc) p
theorem allB {p : Addr} {bs : List Bool} (h : SqL K H p (bs.map V.bl)) (q : Q (.bl (bs.all id)) H) : rAll K [.ref p] H Q := ⟨p, bs, rfl, h, q⟩
end
theorem lt_one {a b : Nat} : ([a] < [b] : Prop) ↔ a < b := by
  simp [List.cons_lt_cons_iff]
theorem cutL (z : Str) (lo hi : Option Int) {n : Nat} (h : z.length ≤ n) : (cutS z lo hi).length ≤ n := Nat.le_trans (cutS_length z lo hi) h
theorem mulL {z : Str} {n : Int} {k m : Nat} (h : z.length ≤ k) (h2 : n ≤ m) : (Txt.mul z n).length ≤ k * m := by
  have e := len_mul z n
  have c : (((Txt.mul z n).length : Nat) : Int) ≤ (k : Int) * (m : Int) := by
    rw [e]
    split
    · rw [Int.mul_zero]
      exact Int.mul_nonneg (Int.natCast_nonneg _) (Int.natCast_nonneg _)
    · rename_i z0
      have z1 : ¬ n < 0 := fun y => z0 (decide_eq_true y)
      exact Int.mul_le_mul (by omega) h2 (by omega) (Int.natCast_nonneg _)
  rw [← Int.natCast_mul] at c
  exact Int.ofNat_le.mp c
/-! ### what is new -/
def nw (H H' : Hp) : Hp := fun b => match H b with
  | none => H' b
  | some _ => none
theorem nw_at {H H' : Hp} {b : Addr} {o : HO} (h : nw H H' b = some o) : H b = none ∧ H' b = some o := by
  unfold nw at h
  cases e : H b with
  | none =>
    rw [e] at h
    exact ⟨rfl, h⟩
  | some u =>
    rw [e] at h
    cases h
theorem nw_mk {H H' : Hp} {b : Addr} {o : HO} (n : H b = none) (h : H' b = some o) : nw H H' b = some o := by
  unfold nw
  rw [n]
  exact h
theorem nw_sub {H H' G : Hp} (k : ∀ b o, H b = none → H' b = some o → G b = some o) : Same (nw H H') G := fun b o e => k b o (nw_at e).1 (nw_at e).2
theorem nw_in {H H' : Hp} : Same (nw H H') H' := nw_sub fun _ _ _ e => e
theorem nw_mono {H H1 H2 H3 : Hp} (a : ∀ b, H1 b = none → H b = none) (c : ∀ b o, H1 b = none → H2 b = some o → H3 b = some o) : Same (nw H1 H2) (nw H H3) := nw_sub fun b o n e => nw_mk (a b n) (c b o n e)
theorem del_in {H : Hp} {a : Addr} : Same (del H a) H := fun b o e => by
  by_cases z : b = a
  · rw [z, del_same] at e
    cases e
  · rw [del_ne z] at e
    exact e
theorem del_at {H : Hp} {a b : Addr} {o : HO} (h : del H a b = some o) : b ≠ a ∧ H b = some o := by
  refine ⟨fun z => ?_, del_in b o h⟩
  rw [z, del_same] at h
  cases h
theorem del_mk {H : Hp} {a b : Addr} {o : HO} (n : b ≠ a) (h : H b = some o) : del H a b = some o := (del_ne n).trans h
theorem del_sub {H H' : Hp} {a : Addr} (k : ∀ b o, b ≠ a → H b = some o → H' b = some o) : Same (del H a) (del H' a) := fun b o e => del_mk (del_at e).1 (k b o (del_at e).1 (del_at e).2)
theorem del2_sub {H H' : Hp} {a c : Addr} (k : ∀ b o, b ≠ a → b ≠ c → H b = some o → H' b = some o) : Same (del (del H a) c) (del (del H' a) c) := fun b o e => by
  obtain ⟨n, e⟩ := del_at e
  obtain ⟨m, e⟩ := del_at e
  exact del_mk n (del_mk m (k b o m n e))
theorem nw_del2 {H H' G : Hp} {a c : Addr} (ha : H a ≠ none) (hc : H c ≠ none) (k : ∀ b o, H b = none → H' b = some o → G b = some o) : Same (nw H H') (del (del G a) c) := nw_sub fun b o n e =>
  del_mk (fun z => hc (z ▸ n)) (del_mk (fun z => ha (z ▸ n)) (k b o n e))
end Rd
namespace Rd
open PySem PySem.Spec PyProof.Rows L2
theorem cr_allK {X : Cx} {K : PySem.W.Frag} (h : X.K = K) (hc : X.calm = true) : CallR X (.builtin "all") (rAll K) := h ▸ cr_all hc
theorem ltA {c : Nat} : ((⟨#[c]⟩ : Str).cps.toList < ("a" : Str).cps.toList) ↔ c < 97 := by
  have e : ("a" : Str).cps.toList = [97] := by decide +kernel
  rw [e]
  exact lt_one
theorem gtZs {c : Nat} : (("z" : Str).cps.toList < (⟨#[c]⟩ : Str).cps.toList) ↔ 122 < c := by
  have e : ("z" : Str).cps.toList = [122] := by decide +kernel
  rw [e]
  exact lt_one
theorem lt0 {c : Nat} : ((⟨#[c]⟩ : Str).cps.toList < ("0" : Str).cps.toList) ↔ c < 48 := by
  have e : ("0" : Str).cps.toList = [48] := by decide +kernel
  rw [e]
  exact lt_one
theorem gt9 {c : Nat} : (("9" : Str).cps.toList < (⟨#[c]⟩ : Str).cps.toList) ↔ 57 < c := by
  have e : ("9" : Str).cps.toList = [57] := by decide +kernel
  rw [e]
  exact lt_one
/-- z is a name -/
def nmB (z : Str) : Bool := (decide (1 ≤ z.length) && decide (z.length ≤ 12)) && (((cl z)[0]?.any fun c => decide (Low c)) && (cl z).all fun c => decide (Aln c))
def nameD : PyData → Bool
  | .str z => nmB z
  | _ => false
theorem nmB_head {z : Str} {c : Nat} (h : (cl z)[0]? = some c) (n : ¬ Low c) : nmB z = false := by
  unfold nmB
  rw [h]
  show (_ && (decide (Low c) && _)) = false
  rw [decide_eq_false n, Bool.false_and, Bool.and_false]
theorem nmB_in {z : Str} {c : Nat} (h : c ∈ cl z) (n : ¬ Aln c) : nmB z = false := by
  unfold nmB
  have : ((cl z).all fun c => decide (Aln c)) = false := by
    rw [List.all_eq_false]
    exact ⟨c, h, by rw [decide_eq_false n]; exact Bool.false_ne_true⟩
  rw [this, Bool.and_false, Bool.and_false]
theorem nmB_big {z : Str} (h : z.length < 1 ∨ 12 < z.length) : nmB z = false := by
  unfold nmB
  rcases h with h | h
  · rw [decide_eq_false (show ¬ 1 ≤ z.length by omega), Bool.false_and, Bool.false_and]
  · rw [decide_eq_false (show ¬ z.length ≤ 12 by omega), Bool.and_false, Bool.false_and]
theorem nmB_all {z : Str} {c : Nat} (h1 : 1 ≤ z.length) (h2 : z.length ≤ 12) (h : (cl z)[0]? = some c) (l : Low c) : nmB z = (cl z).all fun c => decide (Aln c) := by
  unfold nmB
  rw [decide_eq_true h1, decide_eq_true h2, h]
  show (decide (Low c) && _) = _
  rw [decide_eq_true l, Bool.true_and]
theorem nm_head {z : Str} (h1 : 1 ≤ z.length) : ∃ c, (cl z)[0]? = some c := by
  have h : 0 < (cl z).length := by rw [cl_len]; omega
  exact ⟨_, List.getElem?_eq_getElem h⟩
end Rd
namespace Rd
open PySem PySem.Spec PyProof.Rows L2
theorem upL {z : Str} (h : ∀ c ∈ cl z, c < 128) : (Txt.upper z).length = z.length := by
  have e : z = SX.S (cl z) := cl_inj rfl
  have u := SX.upper_S (a := cl z) (by
    rw [List.all_eq_true]
    exact fun c hc => decide_eq_true (h c hc))
  rw [← e] at u
  rw [u]
  show ((cl z).map up1).toArray.size = _
  rw [List.size_toArray, List.length_map, cl_len]
theorem nm_128 {l : List Nat} (h : Nm l) : ∀ c ∈ l, c < 128 := fun c hc => by
  rcases h.all c hc with a | a
  · have := a.2
    omega
  · have := a.2
    omega
end Rd
namespace Rd
open PySem PySem.Spec PyProof.Rows L2
section
variable {H : Hp} {Q : VK} {c : Nat}
theorem dec_not {p q : Prop} [Decidable p] [Decidable q] (h : p ↔ ¬ q) : (!decide p) = decide q := by
  by_cases hp : p
  · rw [decide_eq_true hp, decide_eq_false (h.mp hp)]
    rfl
  · rw [decide_eq_false hp, decide_eq_true (Decidable.not_not.mp fun z => hp (h.mpr z))]
    rfl
theorem leA (h : Q (.bl (decide (97 ≤ c))) H) : rLeZ (.str "a") (.str ⟨#[c]⟩) H Q := by
  refine leZ ?_
  rw [dec_not (q := 97 ≤ c) (ltA.trans (by omega))]
  exact h
theorem leZz (h : Q (.bl (decide (c ≤ 122))) H) : rLeZ (.str ⟨#[c]⟩) (.str "z") H Q := by
  refine leZ ?_
  rw [dec_not (q := c ≤ 122) (gtZs.trans (by omega))]
  exact h
theorem le0 (h : Q (.bl (decide (48 ≤ c))) H) : rLeZ (.str "0") (.str ⟨#[c]⟩) H Q := by
  refine leZ ?_
  rw [dec_not (q := 48 ≤ c) (lt0.trans (by omega))]
  exact h
theorem le9 (h : Q (.bl (decide (c ≤ 57))) H) : rLeZ (.str ⟨#[c]⟩) (.str "9") H Q := by
  refine leZ ?_
  rw [dec_not (q := c ≤ 57) (gt9.trans (by omega))]
  exact h
end
end Rd
namespace Rd
open PySem PySem.Spec PyProof.Rows L2
theorem joinLen0 (y : Str) : ∀ parts : List Str, (Str.join y parts).length ≤ (parts.map (·.length)).sum + parts.length * y.length
  | [] => Nat.zero_le _
  | [p] => by
    show p.length ≤ (p.length + 0) + 1 * y.length
    omega
  | p :: q :: r => by
    have e : (Str.join y (p :: q :: r)).length = p.length + y.length + (Str.join y (q :: r)).length := by
      show (p ++ y ++ Str.join y (q :: r)).length = _
      rw [add_len, add_len]
    have ih := joinLen0 y (q :: r)
    rw [e, List.map_cons, List.sum_cons, List.length_cons, Nat.succ_mul]
    omega
theorem joinLen (y : Str) (parts : List Str) : (Txt.join y parts).length ≤ (parts.map (·.length)).sum + parts.length * y.length := by
  rw [TL.join_eq]
  exact joinLen0 y parts
theorem sum_le {xs : List Str} {k : Nat} (h : ∀ x ∈ xs, x.length ≤ k) : (xs.map (·.length)).sum ≤ xs.length * k := by
  induction xs with
  | nil => exact Nat.zero_le _
  | cons x xs ih =>
    have a := h x List.mem_cons_self
    have b := ih fun y hy => h y (List.mem_cons_of_mem _ hy)
    rw [List.map_cons, List.sum_cons, List.length_cons, Nat.succ_mul]
    omega
theorem split_one {z : Str} (h : 10 ∉ cl z) : Txt.split z "\n" = [z] := by
  have ey : TL.tl ("\n" : Str) = 10 :: [] := by decide +kernel
  have e := TL.split_join (parts := [z]) ey (by decide +kernel) (by intro c; cases c) (fun p hp => by rw [List.mem_singleton.mp hp]; exact h)
  rw [TL.join_eq] at e
  exact e
theorem nm_10 {l : List Nat} (h : Nm l) : 10 ∉ l := fun m => by
  rcases h.all 10 m with a | a
  · exact absurd a.1 (by decide)
  · exact absurd a.1 (by decide)
/-- a text is not too long -/
def Sz (d : PyData) : Prop := ∀ z, d = .str z → z.length ≤ 100000
theorem Sz.str {z : Str} (h : z.length ≤ 100000) : Sz (.str z) := fun _ e => by cases e; exact h
theorem raiseX {C : Addr} {x f : Str} {W : WX} {ta : TA} {D : Ends} {σ : L2.St} {H : Hp} (h : ta σ H fun vs H1 => ∃ y, vs = [y] ∧ ∀ d, H1 d = none → W (.ref C) (some d) σ (upd H1 d (.xd [(f, y), ("code", .str x)]))) : Ho.tRaise C x f W ta D σ H := h
theorem exone {y : V} {P' : V → Prop} (h : P' y) : ∃ z, [y] = [z] ∧ P' z := ⟨y, rfl, h⟩
theorem callS {sp : Sp} {E : L2.St → XK} {ts : TA} {σ : L2.St} {H : Hp} {Q : VK} (h : ts σ H fun vs H1 => sp vs H1 Q (E σ)) : tCallS sp E ts σ H Q := h
theorem callP {sp : Addr → Value → Option Addr → Sp} {a : Addr} {cls : Value} {d : Option Addr} {ts : TA} {σ : L2.St} {H : Hp} {Q : VK} (h : ts σ H fun vs H1 => sp a cls d vs H1 Q E0) : Ho.tCallP sp a cls d ts σ H Q := h
theorem xsX {K : PySem.W.Frag} {a : Addr} {cls : Value} {d : Option Addr} {f : Str} {te : TE} {σ : L2.St} {H : Hp} {Q : VK} (h : te σ H fun x H1 => x = .ref a ∧ ∃ (C dd : Addr) (fs : List (Str × V)) (v : V), cls = .ref C ∧ XfC K C ∧ PySem.W.findIn K (.ref C) f = some none ∧ d = some dd ∧ H1 dd = some (.xd fs) ∧ fs.lookup f = some v ∧ Q v H1) : Ho.tXs K a cls d f te σ H Q := h
theorem dnewX {σ : L2.St} {H : Hp} {Q : VK} (h : ∀ p, H p = none → Q (.ref p) (upd H p (.dK []))) : tDNewK σ H Q := h
theorem tyZ {K : PySem.W.Frag} {z : Str} {H : Hp} {B : Prop} (g : B) : tyV K "str" (.str z) H ∧ B := ⟨rfl, g⟩
def rNewZ (ys : List Str) : Hp → VK → Prop := fun H Q => ∀ p, H p = none → Q (.ref p) (upd H p (.lst (ys.map V.str)))
end Rd
/-! the order of texts; sorted lists of texts; dicts whose keys are texts -/
namespace Rd
open PySem PySem.Spec PyProof.Rows L2
theorem ltCps_iff : ∀ (a b : List Nat), ltCps a b = true ↔ a < b
  | [], [] => ⟨fun h => (nomatch h), fun h => absurd h (List.lt_irrefl _)⟩
  | [], _ :: _ => ⟨fun _ => List.nil_lt_cons _ _, fun _ => rfl⟩
  | _ :: _, [] => ⟨fun h => (nomatch h), fun h => absurd h (List.not_lt_nil _)⟩
  | a :: r, b :: t => by
    rw [List.cons_lt_cons_iff, ← ltCps_iff r t]
    show (decide (a < b) || (a == b && ltCps r t)) = true ↔ _
    simp
theorem ltCps_not {a b : List Nat} : ltCps a b = false ↔ ¬ a < b := by
  rw [← ltCps_iff]
  cases ltCps a b <;> simp
theorem not_lt_trans {a b c : List Nat} (h : ¬ b < a) (k : ¬ c < b) : ¬ c < a := List.le_trans (List.not_lt.mp h) (List.not_lt.mp k)
theorem rising_pw : ∀ (p : Str) (l : List Str), risingS p l = true → (p :: l).Pairwise (fun a b => ¬ cl b < cl a)
  | p, [], _ => List.pairwise_singleton _ _
  | p, x :: r, h => by
    have h : (!ltCps x.cps.toList p.cps.toList && risingS x r) = true := h
    obtain ⟨h1, h2⟩ := Bool.and_eq_true_iff.mp h
    have h1 : ltCps x.cps.toList p.cps.toList = false := by simpa using h1
    have ih := rising_pw x r h2
    refine List.pairwise_cons.mpr ⟨fun y hy => ?_, ih⟩
    rcases List.mem_cons.mp hy with rfl | hy
    · exact ltCps_not.mp h1
    · exact not_lt_trans (ltCps_not.mp h1) ((List.pairwise_cons.mp ih).1 y hy)
theorem sorted_pw : ∀ (l : List Str), sortedS l = true → l.Pairwise (fun a b => ¬ cl b < cl a)
  | [], _ => .nil
  | x :: r, h => rising_pw x r h
theorem le_antisymm' {a b : Str} (h : ¬ cl b < cl a) (k : ¬ cl a < cl b) : a = b := cl_inj (List.le_antisymm (List.not_lt.mp h) (List.not_lt.mp k))
/-- the sorted order is one -/
theorem sorted_one {ys zs : List Str} (p : ys.Perm zs) (h : sortedS ys = true) (k : sortedS zs = true) : ys = zs :=
  List.Perm.eq_of_pairwise (le := fun a b => ¬ cl b < cl a) (fun _ _ _ _ h k => le_antisymm' h k) (sorted_pw _ h) (sorted_pw _ k) p
theorem sorted_strict {ys : List Str} (h : sortedS ys = true) (n : ys.Nodup) : ys.Pairwise (fun a b => cl a < cl b) := by
  refine ((sorted_pw _ h).and n).imp fun {a b} hab => ?_
  rcases Decidable.em (cl a < cl b) with z | z
  · exact z
  · exact absurd (le_antisymm' hab.1 z) hab.2
section
variable {K : PySem.W.Frag} {H : Hp} {Q : VK} {a : Addr}
/-- sorted of texts whose order is known -/
theorem sortS {ks zs : List Str} (h : SqL K H a (ks.map V.str)) (hz : ks.length < 64) (p : ks.Perm zs) (s : sortedS zs = true) (q : ∀ p, H p = none → Q (.ref p) (upd H p (.lst (zs.map V.str)))) : rSortedS K [.ref a] H Q :=
  ⟨a, ks, rfl, h, hz, fun ys l pm sy n => by
    rw [sorted_one (pm.trans p) sy s]
    exact q l n⟩
end
/-! ### dicts: the keys ks, at each the value f -/
def kd (ks : List Str) (f : Str → V) : List (Key × V) := ks.map fun z => (Sum.inr z, f z)
theorem kd_len {ks : List Str} {f : Str → V} : (kd ks f).length = ks.length := List.length_map _
theorem kd_keys {ks : List Str} {f : Str → V} : ((kd ks f).map fun kv => kV kv.1) = ks.map V.str := by
  unfold kd
  rw [List.map_map]
  rfl
theorem kd_get : ∀ {ks : List Str} {f : Str → V} {z : Str}, z ∈ ks → valV (kd ks f) (Sum.inr z) = some (f z)
  | k :: ks, f, z, h => by
    unfold kd valV
    rw [List.map_cons, List.find?_cons]
    by_cases e : k = z
    · subst e
      rw [decide_eq_true rfl]
      rfl
    · rw [decide_eq_false (by intro z'; exact e (Sum.inr.inj z'))]
      exact kd_get (ks := ks) (f := f) ((List.mem_cons.mp h).resolve_left (fun w => e w.symm))
theorem kd_none : ∀ {ks : List Str} {f : Str → V} {z : Str}, z ∉ ks → valV (kd ks f) (Sum.inr z) = none
  | [], _, _, _ => rfl
  | k :: ks, f, z, h => by
    unfold kd valV
    rw [List.map_cons, List.find?_cons]
    rw [decide_eq_false (by intro z'; exact h (by rw [Sum.inr.inj z']; exact List.mem_cons_self))]
    exact kd_none (ks := ks) (f := f) (fun w => h (List.mem_cons_of_mem _ w))
theorem kd_any {ks : List Str} {f : Str → V} {z : Str} : ((kd ks f).any fun kv => decide (kv.1 = (Sum.inr z : Key))) = decide (z ∈ ks) := by
  rw [Bool.eq_iff_iff, List.any_eq_true, decide_eq_true_iff]
  unfold kd
  constructor
  · rintro ⟨x, hx, e⟩
    obtain ⟨y, hy, rfl⟩ := List.mem_map.mp hx
    rw [← Sum.inr.inj (of_decide_eq_true e)]
    exact hy
  · intro h
    exact ⟨_, List.mem_map.mpr ⟨z, h, rfl⟩, decide_eq_true rfl⟩
theorem kd_put {ks : List Str} {f : Str → V} {z : Str} {v : V} (h : z ∈ ks) : putK (kd ks f) (Sum.inr z) v = kd ks (fun y => if y = z then v else f y) := by
  unfold putK
  rw [kd_any, decide_eq_true h, if_pos rfl]
  unfold kd
  rw [List.map_map]
  refine List.map_congr_left fun y _ => ?_
  show (if (Sum.inr y : Key) = Sum.inr z then _ else _) = _
  by_cases e : y = z
  · subst e
    rw [if_pos rfl]
    show _ = ((Sum.inr y : Key), if y = y then v else f y)
    rw [if_pos rfl]
  · rw [if_neg (fun w => e (Sum.inr.inj w))]
    show _ = ((Sum.inr y : Key), if y = z then v else f y)
    rw [if_neg e]
theorem kd_congr {ks : List Str} {f g : Str → V} (h : ∀ z ∈ ks, f z = g z) : kd ks f = kd ks g := List.map_congr_left fun y hy => by rw [h y hy]
theorem kd_new {ks : List Str} {f : Str → V} {z : Str} {v : V} (h : z ∉ ks) : putK (kd ks f) (Sum.inr z) v = kd (ks ++ [z]) (fun y => if y = z then v else f y) := by
  unfold putK
  rw [kd_any, decide_eq_false h, if_neg Bool.false_ne_true]
  unfold kd
  rw [List.map_append]
  congr 1
  · refine List.map_congr_left fun y hy => ?_
    show _ = ((Sum.inr y : Key), if y = z then v else f y)
    rw [if_neg (fun e => h (by rw [← e]; exact hy))]
  · show _ = [((Sum.inr z : Key), if z = z then v else f z)]
    rw [if_pos rfl]
/-- pairs of texts and values, as a dict -/
def kp (ps : List (Str × V)) : List (Key × V) := ps.map fun p => (Sum.inr p.1, p.2)
theorem kp_kd {ks : List Str} {f : Str → V} : kp (ks.map fun z => (z, f z)) = kd ks f := by
  unfold kp kd
  rw [List.map_map]
  rfl
theorem merge_kd : ∀ {ls ks : List Str} {f : Str → V}, ls.Nodup → (∀ z ∈ ls, z ∉ ks) → mergeK (kd ks f) (kd ls f) = kd (ks ++ ls) f
  | [], ks, f, _, _ => by
    rw [List.append_nil]
    rfl
  | z :: ls, ks, f, n, d => by
    obtain ⟨n1, n2⟩ := List.nodup_cons.mp n
    show mergeK (putK (kd ks f) (Sum.inr z) (f z)) (kd ls f) = _
    rw [kd_new (d z List.mem_cons_self), kd_congr (g := f) (fun y _ => by
      split
      · rename_i e
        rw [e]
      · rfl)]
    rw [merge_kd n2 (fun y hy hz => ?_), List.append_assoc]
    · rfl
    · rcases List.mem_append.mp hz with h | h
      · exact d y (List.mem_cons_of_mem _ hy) h
      · rw [List.mem_singleton.mp h] at hy
        exact n1 hy
section
variable {K : PySem.W.Frag} {H : Hp} {Q : VK} {a b : Addr} {ks ls : List Str} {f g : Str → V} {z : Str} {v : V}
theorem dgetK (h : H a = some (.dK (kd ks f))) (m : z ∈ ks) (q : Q (f z) H) : ∃ a' v, V.ref a = .ref a' ∧ DGet H a' (.str z) (some v) ∧ Q v H := ⟨a, _, rfl, .inl ⟨_, Sum.inr z, .inl h, rfl, (kd_get m).symm⟩, q⟩
theorem dputK {P : Hp → Prop} (h : H a = some (.dK (kd ks f))) (m : z ∈ ks) (hz : ks.length ≤ 100000) (q : P (upd H a (.dK (kd ks fun y => if y = z then v else f y)))) : rSetD (.ref a) (.str z) v H P :=
  ⟨a, _, rfl, .inl ⟨_, Sum.inr z, h, rfl, by rw [kd_len]; exact sz5' hz, by rw [kd_put m]⟩, q⟩
theorem dnewK {P : Hp → Prop} (h : H a = some (.dK (kd ks f))) (m : z ∉ ks) (hz : ks.length ≤ 100000) (q : P (upd H a (.dK (kd (ks ++ [z]) fun y => if y = z then v else f y)))) : rSetD (.ref a) (.str z) v H P :=
  ⟨a, _, rfl, .inl ⟨_, Sum.inr z, h, rfl, by rw [kd_len]; exact sz5' hz, by rw [kd_new m]⟩, q⟩
def rDictD : List V → Hp → VK → Prop := fun xs H Q => ∃ (a : Addr) (kvs : List (Key × V)), xs = [.ref a] ∧ L2.Rd H a (.dK kvs) ∧ ∀ p, H p = none → Q (.ref p) (upd H p (.dK kvs))
theorem q_dictD {X : Cx} : CallR X (.type "dict") rDictD := call_dictD
theorem dictD {kvs : List (Key × V)} (h : H a = some (.dK kvs)) (q : ∀ p, H p = none → Q (.ref p) (upd H p (.dK kvs))) : rDictD [.ref a] H Q := ⟨a, kvs, rfl, .inl h, q⟩
theorem listDkd (h : H a = some (.dK (kd ks f))) (q : ∀ p, H p = none → Q (.ref p) (upd H p (.lst (ks.map V.str)))) : rListDk [.ref a] H Q := listDk h kd_keys q
end
theorem cr_anyK {X : Cx} {K : PySem.W.Frag} (h : X.K = K) (hc : X.calm = true) : CallR X (.builtin "any") (rAny K) := h ▸ cr_any hc
theorem q_maxLK {X : Cx} {K : PySem.W.Frag} (h : X.K = K) (hc : X.calm = true) : CallR X (.builtin "max") (rMax K) := h ▸ cr_max hc
theorem bb_any : bootBuiltins "any" = some (.builtin "any") := by decide +kernel
theorem un1 {k : Nat} {A : Around} (r : Room k A) : A.units + 1 < cLine := by
  have := r.units
  omega
/-! ### d.update(d2) -/
def rUpdD : V → List V → Hp → VK → Prop := fun x vs H Q => ∃ (a b : Addr) (kvs ks : List (Key × V)), x = .ref a ∧ vs = [.ref b] ∧ a ≠ b ∧ H a = some (.dK kvs) ∧ H b = some (.dK ks) ∧ kvs.length + ks.length ≤ 100000 ∧ Q .non (upd H a (.dK (mergeK kvs ks)))
theorem mt_dict_update {X : Cx} : MtR X "dict.update" rUpdD := by
  intro pins s σ H x vs v us Q I rx rv h
  obtain ⟨a, b, kvs, ks, rfl, rfl, ne, ha, hb, hl, q⟩ := h
  obtain rfl : v = Value.ref a := rx
  obtain ⟨u, rfl, ru⟩ := vals1 rv
  obtain rfl : u = Value.ref b := ru
  obtain ⟨z, hd, ws, rel, dd⟩ := dk_of I.hok ha
  obtain ⟨z2, hd2, ws2, rel2, dd2⟩ := dk_of I.hok hb
  have hz : ws.length + ws2.length ≤ sizeLine := by
    rw [← rel.length, ← rel2.length]
    exact sz5 hl
  refine call_meetsIn PySem.F.slot_dict_update dd.typeIs PySem.F.entry_dict_update (PySem.F.args_dict_update_2 _ _) (meets_dict_update _ a b ne hd2) ⟨ws, ws2, dd, dd2, hz, fun h' dd' _ hs => ?_⟩
  have he : ∃ q, h'.get? a = some q := let ⟨q, _, _, hq, _⟩ := dd'; ⟨q, hq⟩
  exact ⟨.non, _, d_write (t' := s.toks) I (by rw [ha]; exact True.intro) hs he (dk_new (Nat.le_trans (length_mergeK ks kvs) (sz5 hl)) hd (KV.merge rel2 rel) dd'), rfl, q⟩
section
variable {K : PySem.W.Frag} {H : Hp} {Q : VK} {a b : Addr} {ks ls : List Str} {f : Str → V}
theorem updD (ha : H a = some (.dK (kd ks f))) (hb : H b = some (.dK (kd ls f))) (ne : a ≠ b) (n : ls.Nodup) (d : ∀ z ∈ ls, z ∉ ks) (l : ks.length + ls.length ≤ 100000) (q : Q .non (upd H a (.dK (kd (ks ++ ls) f)))) : rUpdD (.ref a) [.ref b] H Q :=
  ⟨a, b, _, _, rfl, rfl, ne, ha, hb, by rw [kd_len, kd_len]; exact l, by rw [merge_kd n d]; exact q⟩
theorem lockE {t : TE} {σ : L2.St} {d : Addr} {kvs : List (Key × V)} (h : H d = some (.dK kvs)) (g : ∀ od, t σ (upd H d (.frz od (.dK kvs))) fun v H' => H' d = some (.frz od (.dK kvs)) ∧ Q v (upd H' d (.dK kvs))) : tLockE t σ H Q := ⟨d, _, h, True.intro, g⟩
end
/-- a comprehension over the values of a locked dict -/
theorem lcV {g : TG} {tt : TT} {te : TE} {vs : List Nat} {σ : L2.St} {H : Hp} {Q : VK} {d : Addr} {o : Obj} (kvs : List (Key × V)) (f : ∀ L, H L = none → ∃ Pv : Nat → Hp → Prop, Pv 0 (upd H L (.lst [])) ∧ (∀ i h, i ≤ kvs.length → Pv i h → h d = some (.frz o (.dK kvs))) ∧
    (∀ i k x h, kvs[i]? = some (k, x) → Pv i h → Turn1 g tt te vs σ L x h (Pv (i + 1))) ∧ ∀ h, Pv kvs.length h → Q (.ref L) h) : LcB (Itd d o kvs) g tt te vs σ H Q := fun L hL => by
  obtain ⟨Pv, h0, hl, hs, hd⟩ := f L hL
  refine ⟨fun i m h => m = kvs.length - i ∧ i ≤ kvs.length ∧ Pv i h, ⟨kvs.length, by simp, Nat.zero_le _, h0⟩, ?_⟩
  rintro i m h ⟨rfl, hi, p⟩
  have q := hl i h hi p
  by_cases hlt : i < kvs.length
  · refine .inr ⟨⟨q, hlt⟩, Pv (i + 1), fun H' p' => ⟨kvs.length - (i + 1), by omega, rfl, hlt, p'⟩, fun x H' y => ?_⟩
    obtain ⟨e, k, y⟩ := y
    subst e
    exact hs i k x _ y p
  · have : i = kvs.length := by omega
    subst this
    exact .inl ⟨⟨q, Nat.le_refl _⟩, hd h p⟩
theorem valsX {td : TE} {σ : L2.St} {H : Hp} {R : It → Hp → Prop} (h : td σ H fun x H1 => ∃ d o kvs, x = .ref d ∧ H1 d = some (.frz o (.dK kvs)) ∧ R (Itd d o kvs) H1) : iVals td σ H R := h
end Rd
/-! sorted of tuples of texts, any number of them, of any lengths from 1 on -/
namespace Rd
open PySem PySem.Spec PyProof.Rows L2 SrtO
/-- one tuple of texts before another -/
def lexS : List Str → List Str → Bool
  | [], [] => false
  | [], _ :: _ => true
  | _ :: _, [] => false
  | x :: xs, y :: ys => if x = y then lexS xs ys else decide (x.cps.toList < y.cps.toList)
theorem lexS_iff : ∀ {xs ys : List Str}, lexS xs ys = true ↔ xs.map cl < ys.map cl
  | [], [] => ⟨fun h => (nomatch h), fun h => absurd h (List.lt_irrefl _)⟩
  | [], _ :: _ => ⟨fun _ => List.nil_lt_cons _ _, fun _ => rfl⟩
  | _ :: _, [] => ⟨fun h => (nomatch h), fun h => absurd h (List.not_lt_nil _)⟩
  | x :: xs, y :: ys => by
    rw [List.map_cons, List.map_cons, List.cons_lt_cons_iff]
    unfold lexS
    by_cases e : x = y
    · subst e
      rw [if_pos rfl, lexS_iff]
      exact ⟨fun h => .inr ⟨rfl, h⟩, fun h => h.elim (fun h => absurd h (List.lt_irrefl _)) (·.2)⟩
    · rw [if_neg e, decide_eq_true_iff]
      exact ⟨.inl, fun h => h.elim id fun h => absurd (cl_inj h.1) e⟩
theorem lexS_no {xs ys : List Str} : lexS xs ys = false ↔ ¬ xs.map cl < ys.map cl := by
  rw [← lexS_iff]
  cases lexS xs ys <;> simp
theorem lexS_trans {xs ys zs : List Str} (h : lexS xs ys = false) (k : lexS ys zs = false) : lexS xs zs = false :=
  lexS_no.mpr (List.not_lt.mpr (List.le_trans (List.not_lt.mp (lexS_no.mp k)) (List.not_lt.mp (lexS_no.mp h))))
theorem map_cl_inj : ∀ {xs ys : List Str}, xs.map cl = ys.map cl → xs = ys
  | [], [], _ => rfl
  | [], _ :: _, h => nomatch h
  | _ :: _, [], h => nomatch h
  | x :: xs, y :: ys, h => by
    obtain ⟨a, b⟩ := List.cons.inj h
    rw [cl_inj a, map_cl_inj b]
theorem lexS_antisymm {xs ys : List Str} (h : lexS xs ys = false) (k : lexS ys xs = false) : xs = ys :=
  map_cl_inj (List.le_antisymm (List.not_lt.mp (lexS_no.mp k)) (List.not_lt.mp (lexS_no.mp h)))
theorem swo_lexS {α : Type} (k : α → List Str) : Swo fun v u => lexS (k v) (k u) :=
  ⟨fun x y h => lexS_no.mpr fun h' => List.lt_irrefl _ (List.lt_trans (lexS_iff.mp h) h'), fun x y z h1 h2 => lexS_trans h2 h1⟩
section
variable {prog : Program} {w : World} {A : Around} {E : Value → Shared → Prop} {s : Shared}
def IsTupS (h : Heap) (v : Value) (xs : List Str) : Prop := ∃ a o us n, v = .ref a ∧ h.get? a = some o ∧ o.cls = .type "tuple" ∧ o.data = .seq (List.toArray us) n ∧ Vals (xs.map V.str) us
theorem IsTupS.keeps {h h' : Heap} {v : Value} {xs : List Str} (p : IsTupS h v xs) (k : ∀ b o, h.get? b = some o → o.cls = .type "tuple" → h'.get? b = some o) : IsTupS h' v xs := by
  obtain ⟨a, o, us, n, e, ho, hc, hd, r⟩ := p
  exact ⟨a, o, us, n, e, k _ _ ho hc, hc, hd, r⟩
theorem lex_strs {b fin : Bool} {Q : Bool → Shared → Prop} : ∀ {xs ys : List Str} {us vs : List Value} (i : Nat), Vals (xs.map V.str) us → Vals (ys.map V.str) vs → fin = decide (us.length < vs.length) → Q (lexS xs ys) s → PySem.W.KatLex prog w A b fin Q (us.zip vs) i s
  | [], [], _, _, i, .nil, .nil, hf, h => by
    subst hf
    exact PySem.W.kat_nil h
  | [], _ :: _, _, _, i, .nil, .cons _ _, hf, h => by
    subst hf
    exact PySem.W.kat_nil (by rw [decide_eq_true (by simp)]; exact h)
  | _ :: _, [], _, _, i, .cons _ _, .nil, hf, h => by
    subst hf
    exact PySem.W.kat_nil (by rw [decide_eq_false (by simp)]; exact h)
  | x :: xs, y :: ys, _, _, i, .cons r1 t1, .cons r2 t2, hf, h => by
    obtain ⟨t, rfl⟩ := r1
    obtain ⟨u, rfl⟩ := r2
    refine PySem.W.kat_cons (SeqAt.EqAt.str_str x t y u prog w _ _ ?_)
    unfold lexS at h
    refine PySem.W.kat_go (fun e1 => ?_) (fun e1 => ?_)
    · have ex : x = y := by simpa using e1
      rw [if_pos ex] at h
      exact PySem.W.kat_yes (lex_strs (i + 1) t1 t2 (by rw [hf]; simp) h)
    · have ex : ¬ x = y := by simpa using e1
      rw [if_neg ex] at h
      exact PySem.W.kat_no (PyProof.Rows.oneLt_any_str h)
theorem tup_cmpS {vs : List Value} {k : Value → List Str} (hp : ∀ v ∈ vs, IsTupS s.heap v (k v)) : Cmp prog w A s (tuples' true) (fun p => p.1 ∈ vs) (lt2 fun v u => lexS (k v) (k u)) := by
  intro p q hm hm'
  have h1 := hp _ hm
  have h2 := hp _ hm'
  show wpAny (model prog w) A (keyLt' (tuples' true) p.1 q.1) (fun r s' => s' = s ∧ r = lexS (k p.1) (k q.1)) (fun _ _ => False) s
  obtain ⟨a, o, us, n, e, ho, hc, hd, r⟩ := h1
  obtain ⟨a', o', us', n', e', ho', hc', hd', r'⟩ := h2
  generalize k p.1 = xs at r ⊢
  generalize k q.1 = ys at r' ⊢
  rw [e, e']
  refine PySem.W.kat_lt ho hd ho' hd' ?_
  exact lex_strs 0 r r' (by simp) ⟨rfl, rfl⟩
theorem firsts_ofS {h : Heap} : ∀ {vs : List Value}, (∀ v ∈ vs, ∃ xs, xs ≠ [] ∧ IsTupS h v xs) → ∃ fs : List Value, PySem.W.KatTups h vs fs ∧ fs.length = vs.length ∧ ∀ f ∈ fs, ∃ x t, f = Value.str x t
  | [], _ => ⟨[], PySem.W.KatTups.nil, rfl, fun _ hm => by simp at hm⟩
  | v :: vs, hp => by
    obtain ⟨fs, h1, h2, h3⟩ := firsts_ofS (vs := vs) fun v' hm => hp v' (List.mem_cons_of_mem _ hm)
    obtain ⟨xs, hne, a, o, us, n, e, ho, hc, hd, r⟩ := hp v (List.mem_cons_self ..)
    subst e
    match xs, us, r with
    | [], _, _ => exact absurd rfl hne
    | x :: xs, _, .cons r1 t1 =>
      obtain ⟨t, rfl⟩ := r1
      refine ⟨.str x t :: fs, PySem.W.KatTups.cons ho hc hd rfl h1, by rw [List.length_cons, List.length_cons, h2], fun f hm => ?_⟩
      rcases List.mem_cons.mp hm with rfl | hm
      · exact ⟨x, t, rfl⟩
      · exact h3 f hm
theorem tups_sortable {a : Addr} {vs : List Value} {k : Value → List Str} (h0 : 0 < vs.length) (hp : ∀ v ∈ vs, k v ≠ [] ∧ IsTupS s.heap v (k v)) (ha : ∀ o, s.heap.get? a = some o → o.cls ≠ .type "tuple") : SortableO prog w A s a vs fun v u => lexS (k v) (k u) := by
  intro h' keep
  have hp' : ∀ v ∈ vs, IsTupS h' v (k v) := fun v hm => (hp v hm).2.keeps fun b o e c => keep b o (fun z => by subst z; exact ha o e c) e
  obtain ⟨fs, h1, h2, h3⟩ := firsts_ofS fun v hm => ⟨_, (hp v hm).1, hp' v hm⟩
  refine ⟨tuples' true, fun Q E hq => ?_, tup_cmpS hp'⟩
  refine PySem.W.kat_kind (T := .type "str") h1 (by omega) (fun f hm => ?_) (by rfl) ?_
  · obtain ⟨x, t, rfl⟩ := h3 f hm
    exact PySem.W.Looks.now
  · have e : (Value.type "str" != Value.type "tuple") = true := by first | decide +kernel | rfl | decide
    rw [e]
    exact hq
theorem sorted_tups {l : Addr} {vs : List Value} {k : Value → List Str} {Q : Value → Shared → Prop} (hl : s.heap.IsList l vs.toArray) (hz : vs.length ≤ sizeLine) (hp : ∀ v ∈ vs, k v ≠ [] ∧ IsTupS s.heap v (k v))
    (h : ∀ (h' : Heap) (d : Addr) (out : List Value), Srtd (fun v u => lexS (k v) (k u)) out → Stb (fun v u => lexS (k v) (k u)) out vs → (∀ b o, s.heap.get? b = some o → h'.get? b = some o) → s.heap.objs.size ≤ d → (∃ n, h'.get? d = some (seqObj "list" out.toArray n)) → Q (.ref d) { s with heap := h' }) :
    wpAny (model prog w) A (PySem.call (.builtin "sorted") [.ref l]) Q E s := by
  refine sorted_ord (swo_lexS k) hl hz (fun h2 h₁ a ha kk => ?_) fun out hs hb => ?_
  · refine tups_sortable (s := { s with heap := h₁ }) (by omega) (fun v hm => ⟨(hp v hm).1, (hp v hm).2.keeps fun b o e _ => (kk b o e).2⟩) fun o e => ?_
    have e' : some o = some (seqObj "list" vs.toArray 0) := e.symm.trans ha
    cases e'
    intro c
    exact absurd (Value.type.inj c) (by decide)
  · exact h _ _ out hs hb (fun b o e => sortedAll_old e) (Nat.le_succ _) (sortedAll_at s.heap vs out.toArray)
end
/-- sorted(xs), xs a list of tuples of texts (k says which) -/
def rSortedTS (K : PySem.W.Frag) : List V → Hp → VK → Prop := fun vs H Q => ∃ (a : Addr) (xs : List V) (k : V → List Str), vs = [V.ref a] ∧ SqL K H a xs ∧ (∀ x ∈ xs, ∃ t, x = V.ref t ∧ k x ≠ [] ∧ H t = some (.tup ((k x).map V.str))) ∧
  ∀ ys p, ys.Pairwise (fun x y => lexS (k y) (k x) = false) → ys.Perm xs → H p = none → Q (.ref p) (upd H p (.lst ys))
section
variable {X : Cx}
theorem cr_sortedTS : CallR X (.builtin "sorted") (rSortedTS X.K) := by
  intro pins s σ H vs us Q I r h
  obtain ⟨a, xs, k, rfl, hs, hx, q⟩ := h
  obtain ⟨its, rv, hl, hz⟩ := I.list hs
  obtain ⟨u, rfl, ru⟩ := vals1 r
  obtain rfl : u = Value.ref a := ru
  obtain ⟨e1, e2⟩ := refs_back rv fun x m => by
    obtain ⟨t, e, _⟩ := hx x m
    exact ⟨t, e⟩
  refine sorted_tups (k := fun u => k (backV u)) hl.isList (by rw [← rv.length]; exact hz) (fun v hv => ?_) fun h' d out h1 h2 kp hd hn => ?_
  · obtain ⟨t, rfl⟩ := e2 v hv
    have hm : V.ref t ∈ xs := by rw [e1]; exact List.mem_map.mpr ⟨_, hv, rfl⟩
    obtain ⟨t', e, ne, ht⟩ := hx _ hm
    cases e
    obtain ⟨_, its2, r2, o, ho, hc, n, hd⟩ := I.hok _ _ ht
    exact ⟨ne, t, o, its2, n, rfl, ho, hc, hd, r2⟩
  · have h3 : ∀ u ∈ out, ∃ a, u = Value.ref a := fun u hu => e2 u (h2.perm.mem_iff.mp hu)
    obtain ⟨n, hn⟩ := hn
    have hb : (out.map backV).Perm xs := by
      rw [e1]
      exact h2.perm.map backV
    refine ⟨.ref d, upd H d (.lst (out.map backV)), I.laid (t' := s.toks) kp hd ⟨?_, out, n, vals_back h3, hn⟩, rfl, q _ d (srtd_map h1) hb (I.hok.fresh hd)⟩
    rw [hb.length_eq]
    exact hz
end
end Rd
/-! a text in a list of any data -/
namespace PySem.SeqAt
open AutoSeq1 (wpAny_loadPart')
open MeetsSeq
theorem dict_eq_declines_str (l : Addr) (es : Array DictEntry) (n : Nat) (dd : Option Addr) (sl : Array (Option Value)) (b : Str) (u : Tok) :
    Meets (Builtin.«dict.__eq__» ⟨[.ref l, .str b u], []⟩) (fun _ R s => s.heap.get? l = some { cls := .type "dict", dict := dd, data := .dict es n, slots := sl } ∧ R (.ok (.ret .notImplemented)) s) :=
  .of_wp fun prog w A R s h => by obtain ⟨hp, g, d, tk, os⟩ := s; obtain ⟨hl, h⟩ := h; have f1 := F.sub_str_dict; wp_walk using wpAny_loadPart' hl; exact ⟨_, rfl, h⟩
theorem str_eq_declines_dict (b : Str) (u : Tok) (l : Addr) (c : Value) (es : Array DictEntry) (n : Nat) (dd : Option Addr) (sl : Array (Option Value)) :
    Meets (Builtin.«str.__eq__» ⟨[.str b u, .ref l], []⟩) (fun _ R s => s.heap.get? l = some { cls := c, dict := dd, data := .dict es n, slots := sl } ∧ R (.ok (.ret .notImplemented)) s) :=
  .of_wp fun prog w A R s h => by obtain ⟨hp, g, d, tk, os⟩ := s; obtain ⟨hl, h⟩ := h; wp_walk using wpAny_loadPart' hl, wpAny_load hl; exact ⟨_, rfl, h⟩
section
variable {A : Around} {s : Shared}
theorem RcAt.dict_str {l : Addr} {ob : Obj} {es : Array DictEntry} {n : Nat} (b : Str) (u : Tok) (hl : s.heap.get? l = some ob) (hc : ob.cls = .type "dict") (hd : ob.data = .dict es n) (hu : A.units < cLine) : RcAt A s (.ref l) (.str b u) false := fun prog w E Q h => by
  obtain ⟨cls, dd, data, sl⟩ := ob
  simp only at hc hd
  subst hc hd
  exact rc_eq_decline_or (k := false) ⟨_, hl, rfl⟩ (typeIs_str s b u) (by decide) F.sub_str_dict F.slot_dict_eq F.slot_str_eq_refl
    (fun _ hq => call_meets F.slot_dict_eq ⟨_, hl, rfl⟩ F.entry_dict_eq (F.args_dict_eq_2 _ _) (dict_eq_declines_str l es n dd sl b u) ⟨hl, hq⟩)
    (fun _ hq => call_meets F.slot_str_eq_refl (typeIs_str s b u) F.entry_str_eq (F.args_str_eq_2 _ _) (str_eq_declines_dict b u l (.type "dict") es n dd sl) ⟨hl, hq⟩)
    (fun _ hq => wpAny_of_eq (rfl : isSame (.ref l) (.str b u) = pure false) hq) (.inr hu) h
theorem EqAt.dict_str {l : Addr} {ob : Obj} {es : Array DictEntry} {n : Nat} (b : Str) (u : Tok) (hl : s.heap.get? l = some ob) (hc : ob.cls = .type "dict") (hd : ob.data = .dict es n) (hu : A.units < cLine) : EqAt A s (.ref l) (.str b u) false := fun prog w E Q h => by
  unfold eqBool
  refine wpAny_holding ?_
  refine wpAny_ite_split (fun hab => absurd (eq_of_beq hab) nofun) (fun _ => ?_)
  exact wpAny_bind (RcAt.dict_str b u hl hc hd hu prog w E _ (wpAny_truthy_bool h))
end
end PySem.SeqAt
namespace Rd
open PySem PySem.Spec PyProof.Rows L2
section
variable {X : Cx} {pins : List (Addr × Obj)} {σ : L2.St} {H : Hp} {s : Shared}
/-- == of any data and a text -/
theorem dv_eqAt {A : Around} {z : Str} {t : Tok} (hu : A.units < cLine) (I : Inv X pins σ H s) {x : V} {d : PyData} {u : Value} (h : Dv X.K H x d) (r : RelV x u) : SeqAt.EqAt A s u (.str z t) (eqU (.str z) u) := by
  cases h with
  | non =>
    cases r
    exact SeqAt.EqAt.none_str z t
  | bl b =>
    cases r
    exact SeqAt.EqAt.bool_str b z t
  | int i =>
    obtain ⟨t', rfl⟩ := r
    exact SeqAt.EqAt.int_str i t' z t
  | str y =>
    obtain ⟨t', rfl⟩ := r
    exact SeqAt.EqAt.str_str y t' z t
  | lst h _ =>
    cases r
    obtain ⟨its, _, pl, _⟩ := I.list h
    exact SeqAt.EqAt.list_str z t pl.isList hu
  | tup h _ =>
    cases r
    obtain ⟨its, _, pl, _⟩ := I.tuple h
    exact SeqAt.EqAt.tuple_str z t pl hu
  | dc0 h =>
    cases r
    obtain ⟨_, _, ws, _, o, es, ep, ho, hc, hd, _⟩ := dk_of I.hok h
    exact SeqAt.EqAt.dict_str z t ho hc.1 hd hu
  | dc1 h _ =>
    cases r
    obtain ⟨_, _, ws, _, o, es, ep, ho, hc, hd, _⟩ := dk_of I.hok h
    exact SeqAt.EqAt.dict_str z t ho hc.1 hd hu
theorem eqU_str {z : Str} {x : V} {d : PyData} {u : Value} {K : PySem.W.Frag} (h : Dv K H x d) (r : RelV x u) : eqU (.str z) u = eqV x (.str z) := by
  cases h with
  | non => cases r; rfl
  | bl b => cases r; rfl
  | int i =>
    obtain ⟨t', rfl⟩ := r
    rfl
  | str y =>
    obtain ⟨t', rfl⟩ := r
    rfl
  | _ => cases r; rfl
theorem any_eqS {z : Str} {K : PySem.W.Frag} : ∀ {xs : List V} {us : List Value}, Vals xs us → (∀ v ∈ xs, ∃ d, Dv K H v d) → us.any (eqU (.str z)) = inV (.str z) xs
  | _, _, .nil, _ => rfl
  | y :: xs, u :: us, .cons r t, f => by
    obtain ⟨d, dv⟩ := f y List.mem_cons_self
    unfold inV
    rw [List.any_cons, List.any_cons, eqU_str dv r, any_eqS t fun v hv => f v (List.mem_cons_of_mem _ hv)]
    rfl
theorem mem_eqS {A : Around} {z : Str} {t' : Tok} (hu : A.units < cLine) (I : Inv X pins σ H s) : ∀ {xs : List V} {us : List Value}, Vals xs us → (∀ v ∈ xs, ∃ d, Dv X.K H v d) → ∀ u ∈ us, SeqAt.EqAt A s u (.str z t') (eqU (.str z) u)
  | _, _, .nil, _ => fun u hu => by cases hu
  | y :: xs, u :: us, .cons r t, f => fun u' hm => by
    rcases List.mem_cons.mp hm with rfl | hm
    · obtain ⟨d, dv⟩ := f y List.mem_cons_self
      exact dv_eqAt hu I dv r
    · exact mem_eqS hu I t (fun v hv => f v (List.mem_cons_of_mem _ hv)) u' hm
end
/-- a text in a list of any data -/
def rInZX (K : PySem.W.Frag) (neg : Bool) : R2 := fun x y H Q => ∃ (z : Str) (p : Addr) (xs : List V), x = .str z ∧ y = .ref p ∧ SqL K H p xs ∧ (∀ v ∈ xs, ∃ d, Dv K H v d) ∧ Q (.bl (if neg then !inV (.str z) xs else inV (.str z) xs)) H
section
variable {X : Cx} {K : PySem.W.Frag}
theorem op_inZX {k : Nat} (hr : Room k X.A) (hK : X.K = K) : OpR X (compareOp .In) (rInZX K false) := by
  subst hK
  intro pins s σ H x y v u Q I rx ry h
  obtain ⟨z, p, xs, rfl, rfl, hq, f, q⟩ := h
  cases ry
  obtain ⟨t, rfl⟩ := rx
  obtain ⟨its, r, pl, hz⟩ := I.list hq
  have hu := hr.units
  refine SeqAt.in_listAt (eqU (.str z)) pl.isList (fun w hw => mem_eqS (by show X.A.units + 1 < cLine; omega) I r f w (by simpa using hw)) ⟨.bl _, H, I, rfl, ?_⟩
  rw [show its.toArray.any (eqU (.str z)) = its.any (eqU (.str z)) by simp, any_eqS r f]
  exact q
theorem op_niZX {k : Nat} (hr : Room k X.A) (hK : X.K = K) : OpR X (compareOp .NotIn) (rInZX K true) := by
  subst hK
  intro pins s σ H x y v u Q I rx ry h
  obtain ⟨z, p, xs, rfl, rfl, hq, f, q⟩ := h
  cases ry
  obtain ⟨t, rfl⟩ := rx
  obtain ⟨its, r, pl, hz⟩ := I.list hq
  have hu := hr.units
  refine SeqAt.notIn_listAt (eqU (.str z)) pl.isList (fun w hw => mem_eqS (by show X.A.units + 1 < cLine; omega) I r f w (by simpa using hw)) ⟨.bl _, H, I, rfl, ?_⟩
  rw [show its.toArray.any (eqU (.str z)) = its.any (eqU (.str z)) by simp, any_eqS r f]
  exact q
end
end Rd
/-! any data in a list of texts -/
namespace PySem.SeqAt
open AutoSeq1 (wpAny_loadPart')
open MeetsSeq
section
variable {A : Around} {s : Shared}
theorem RcAt.str_dict {l : Addr} {ob : Obj} {es : Array DictEntry} {n : Nat} (b : Str) (u : Tok) (hl : s.heap.get? l = some ob) (hc : ob.cls = .type "dict") (hd : ob.data = .dict es n) (hu : A.units < cLine) : RcAt A s (.str b u) (.ref l) false := fun prog w E Q h => by
  obtain ⟨cls, dd, data, sl⟩ := ob
  simp only at hc hd
  subst hc hd
  exact rc_eq_decline_or (k := false) (typeIs_str s b u) ⟨_, hl, rfl⟩ (by decide) F.sub_dict_str F.slot_str_eq F.slot_dict_eq_refl
    (fun _ hq => call_meets F.slot_str_eq (typeIs_str s b u) F.entry_str_eq (F.args_str_eq_2 _ _) (str_eq_declines_dict b u l (.type "dict") es n dd sl) ⟨hl, hq⟩)
    (fun _ hq => call_meets F.slot_dict_eq_refl ⟨_, hl, rfl⟩ F.entry_dict_eq (F.args_dict_eq_2 _ _) (dict_eq_declines_str l es n dd sl b u) ⟨hl, hq⟩)
    (fun _ hq => wpAny_of_eq (rfl : isSame (.str b u) (.ref l) = pure false) hq) (.inr hu) h
theorem EqAt.str_dict {l : Addr} {ob : Obj} {es : Array DictEntry} {n : Nat} (b : Str) (u : Tok) (hl : s.heap.get? l = some ob) (hc : ob.cls = .type "dict") (hd : ob.data = .dict es n) (hu : A.units < cLine) : EqAt A s (.str b u) (.ref l) false := fun prog w E Q h => by
  unfold eqBool
  refine wpAny_holding ?_
  refine wpAny_ite_split (fun hab => absurd (eq_of_beq hab) nofun) (fun _ => ?_)
  exact wpAny_bind (RcAt.str_dict b u hl hc hd hu prog w E _ (wpAny_truthy_bool h))
end
end PySem.SeqAt
namespace Rd
open PySem PySem.Spec PyProof.Rows L2
def isTx (z : Str) : PyData → Bool
  | .str y => z == y
  | _ => false
section
variable {X : Cx} {pins : List (Addr × Obj)} {σ : L2.St} {H : Hp} {s : Shared}
/-- == of a text and any data -/
theorem tx_eqAt {A : Around} {z : Str} {t : Tok} (hu : A.units < cLine) (I : Inv X pins σ H s) {x : V} {d : PyData} {u : Value} (h : Dv X.K H x d) (r : RelV x u) : SeqAt.EqAt A s (.str z t) u (isTx z d) := by
  cases h with
  | non =>
    cases r
    exact SeqAt.EqAt.str_none z t
  | bl b =>
    cases r
    exact SeqAt.EqAt.str_bool z t b
  | int i =>
    obtain ⟨t', rfl⟩ := r
    exact SeqAt.EqAt.str_int z t i t'
  | str y =>
    obtain ⟨t', rfl⟩ := r
    exact SeqAt.EqAt.str_str z t y t'
  | lst h _ =>
    cases r
    obtain ⟨its, _, pl, _⟩ := I.list h
    exact SeqAt.EqAt.str_list z t pl.isList hu
  | tup h _ =>
    cases r
    obtain ⟨its, _, pl, _⟩ := I.tuple h
    exact SeqAt.EqAt.str_tuple z t pl hu
  | dc0 h =>
    cases r
    obtain ⟨_, _, ws, _, o, es, ep, ho, hc, hd, _⟩ := dk_of I.hok h
    exact SeqAt.EqAt.str_dict z t ho hc.1 hd hu
  | dc1 h _ =>
    cases r
    obtain ⟨_, _, ws, _, o, es, ep, ho, hc, hd, _⟩ := dk_of I.hok h
    exact SeqAt.EqAt.str_dict z t ho hc.1 hd hu
/-- what a text says of the data d: by the item -/
def eqW (d : PyData) : Value → Bool
  | .str z _ => isTx z d
  | _ => false
theorem any_eqW {d : PyData} : ∀ {zs : List Str} {us : List Value}, Vals (zs.map V.str) us → us.any (eqW d) = zs.any fun z => isTx z d
  | [], _, .nil => rfl
  | z :: zs, u :: us, .cons r t => by
    obtain ⟨t', rfl⟩ := r
    rw [List.any_cons, List.any_cons, any_eqW t]
    rfl
theorem mem_eqW {A : Around} (hu : A.units < cLine) (I : Inv X pins σ H s) {x : V} {d : PyData} {u : Value} (h : Dv X.K H x d) (r : RelV x u) : ∀ {zs : List Str} {us : List Value}, Vals (zs.map V.str) us → ∀ y ∈ us, SeqAt.EqAt A s y u (eqW d y)
  | [], _, .nil => fun _ hm => by cases hm
  | z :: zs, y :: us, .cons r' t => fun y' hm => by
    rcases List.mem_cons.mp hm with rfl | hm
    · obtain ⟨t', rfl⟩ := r'
      exact tx_eqAt hu I h r
    · exact mem_eqW hu I h r t y' hm
end
/-- any data in a list of texts -/
def rInDS (K : PySem.W.Frag) (neg : Bool) : R2 := fun x y H Q => ∃ (d : PyData) (p : Addr) (zs : List Str), Dv K H x d ∧ y = .ref p ∧ SqL K H p (zs.map V.str) ∧ Q (.bl (if neg then !(zs.any fun z => isTx z d) else zs.any fun z => isTx z d)) H
section
variable {X : Cx} {K : PySem.W.Frag}
theorem op_inDS {k : Nat} (hr : Room k X.A) (hK : X.K = K) : OpR X (compareOp .In) (rInDS K false) := by
  subst hK
  intro pins s σ H x y v u Q I rx ry h
  obtain ⟨d, p, zs, hx, rfl, hq, q⟩ := h
  cases ry
  obtain ⟨its, r, pl, hz⟩ := I.list hq
  have hu := hr.units
  refine SeqAt.in_listAt (eqW d) pl.isList (fun w hw => mem_eqW (by show X.A.units + 1 < cLine; omega) I hx rx r w (by simpa using hw)) ⟨.bl _, H, I, rfl, ?_⟩
  rw [show its.toArray.any (eqW d) = its.any (eqW d) by simp, any_eqW r]
  exact q
theorem op_niDS {k : Nat} (hr : Room k X.A) (hK : X.K = K) : OpR X (compareOp .NotIn) (rInDS K true) := by
  subst hK
  intro pins s σ H x y v u Q I rx ry h
  obtain ⟨d, p, zs, hx, rfl, hq, q⟩ := h
  cases ry
  obtain ⟨its, r, pl, hz⟩ := I.list hq
  have hu := hr.units
  refine SeqAt.notIn_listAt (eqW d) pl.isList (fun w hw => mem_eqW (by show X.A.units + 1 < cLine; omega) I hx rx r w (by simpa using hw)) ⟨.bl _, H, I, rfl, ?_⟩
  rw [show its.toArray.any (eqW d) = its.any (eqW d) by simp, any_eqW r]
  exact q
end
end Rd
/-! drawn names: what is needed of their signs -/
namespace Rd
open PySem PySem.Spec PyProof.Rows L2
theorem mul_one_cl (c : Nat) (n : Int) : cl (Txt.mul ⟨#[c]⟩ n) = List.replicate n.toNat c := by
  unfold Txt.mul
  by_cases h : n < 1
  · rw [if_pos h, show n.toNat = 0 by omega]
    rfl
  · rw [if_neg h]
    by_cases h1 : n = 1
    · subst h1
      rfl
    · rw [if_neg (by simp [h1]; show ¬ (1 : Nat) = 0; decide)]
      have e : ∀ (k : Nat) (a : Array Nat), ((List.replicate k (#[c] : Array Nat)).foldl (· ++ ·) a).toList = a.toList ++ List.replicate k c := by
        intro k
        induction k with
        | zero => intro a; simp
        | succ k ih =>
          intro a
          rw [List.replicate_succ, List.foldl_cons, ih, Array.toList_append, List.append_assoc, List.replicate_succ]
          rfl
      exact (e n.toNat #[]).trans (by simp)
theorem mul_one_len (c : Nat) (n : Int) : (Txt.mul ⟨#[c]⟩ n).length = n.toNat := by
  rw [← cl_len, mul_one_cl, List.length_replicate]
/-- a name of at most 12 signs -/
def NmS (z : Str) : Prop := Nm (cl z) ∧ z.length ≤ 12
theorem Nm.app {l r : List Nat} (h : Nm l) (k : ∀ x ∈ r, Aln x) : Nm (l ++ r) := by
  obtain ⟨c, s, rfl, hc, hs⟩ := h
  refine ⟨c, s ++ r, rfl, hc, fun x hx => ?_⟩
  rcases List.mem_append.mp hx with hx | hx
  · exact hs x hx
  · exact k x hx
theorem Nm.one {c : Nat} (h : Low c) : Nm (cl ⟨#[c]⟩) := ⟨c, [], rfl, h, fun _ h => nomatch h⟩
theorem nodup_rel {α : Type} {R : Nat → α → Prop} : ∀ {zs : List α} {n : Nat}, zs.length ≤ n → (∀ i z, zs[i]? = some z → R i z) → (∀ i j z, i < n → j < n → R i z → R j z → i = j) → zs.Nodup := by
  intro zs n hl hr inj
  refine List.pairwise_iff_getElem.mpr fun i j hi hj hij e => ?_
  have e1 := List.getElem?_eq_getElem hi
  have e2 := List.getElem?_eq_getElem hj
  rw [← e] at e2
  have := inj i j _ (by omega) (by omega) (hr i _ e1) (hr j _ e2)
  omega
theorem a26_len : ("abcdefghijklmnopqrstuvwxyz" : Str).length = 26 := by decide +kernel
theorem a36_len : ("0123456789abcdefghijklmnopqrstuvwxyz" : Str).length = 36 := by decide +kernel
theorem a26_nd : (cl ("abcdefghijklmnopqrstuvwxyz" : Str)).Nodup := by decide +kernel
theorem a36_nd : (cl ("0123456789abcdefghijklmnopqrstuvwxyz" : Str)).Nodup := by decide +kernel
theorem a36_cat : ("0123456789" : Str) ++ ("abcdefghijklmnopqrstuvwxyz" : Str) = "0123456789abcdefghijklmnopqrstuvwxyz" := by decide +kernel
theorem at_one {l : List Nat} (n : l.Nodup) {i j x : Nat} (h : l[i]? = some x) (k : l[j]? = some x) : i = j := by
  obtain ⟨hi, ei⟩ := List.getElem?_eq_some_iff.mp h
  obtain ⟨hj, ej⟩ := List.getElem?_eq_some_iff.mp k
  exact (List.getElem_inj n).mp (ei.trans ej.symm)
/-- steps that share no factor with 1296 -/
theorem step_one {s t i j : Int} (h : t = 1 ∨ t = 5 ∨ t = 7 ∨ t = 37 ∨ t = 1295) (i0 : 0 ≤ i) (i1 : i < 1296) (j0 : 0 ≤ j) (j1 : j < 1296) (e : (s + i * t) % 1296 = (s + j * t) % 1296) : i = j := by
  rcases h with rfl | rfl | rfl | rfl | rfl <;> omega
end Rd
/-! tours: keys of houses and of arcs -/
namespace Ty
open PySem Rd
inductive Ky
  | h (x : Str)
  | a (l x y : Str)
deriving DecidableEq
def Ky.start : Ky → Str
  | .h x => x
  | .a _ x _ => x
def Ky.stop : Ky → Str
  | .h x => x
  | .a _ _ y => y
def Ky.words : Ky → List Str
  | .h x => [x]
  | .a l x y => [l, x, y]
def hsOf (ks : List Ky) : List Str := ks.filterMap fun k => match k with | .h x => some x | _ => none
def asOf (ks : List Ky) : List (Str × Str × Str) := ks.filterMap fun k => match k with | .a l x y => some (l, x, y) | _ => none
theorem hs_mem {ks : List Ky} {x : Str} : x ∈ hsOf ks ↔ .h x ∈ ks := by
  unfold hsOf
  rw [List.mem_filterMap]
  constructor
  · rintro ⟨k, hk, e⟩
    cases k with
    | h y =>
      cases e
      exact hk
    | a l u v => cases e
  · exact fun h => ⟨_, h, rfl⟩
theorem as_mem {ks : List Ky} {l x y : Str} : (l, x, y) ∈ asOf ks ↔ .a l x y ∈ ks := by
  unfold asOf
  rw [List.mem_filterMap]
  constructor
  · rintro ⟨k, hk, e⟩
    cases k with
    | h y => cases e
    | a l u v =>
      cases e
      exact hk
  · exact fun h => ⟨_, h, rfl⟩
theorem hs_app {xs ys : List Ky} : hsOf (xs ++ ys) = hsOf xs ++ hsOf ys := List.filterMap_append
theorem as_app {xs ys : List Ky} : asOf (xs ++ ys) = asOf xs ++ asOf ys := List.filterMap_append
theorem hs_as_len : ∀ ks : List Ky, (hsOf ks).length + (asOf ks).length = ks.length
  | [] => rfl
  | .h x :: ks => by
    have := hs_as_len ks
    show (hsOf ks).length + 1 + (asOf ks).length = ks.length + 1
    omega
  | .a l x y :: ks => by
    have := hs_as_len ks
    show (hsOf ks).length + ((asOf ks).length + 1) = ks.length + 1
    omega
/-- a walk from s to t -/
def Ch : Str → List Ky → Str → Prop
  | s, [], t => s = t
  | s, k :: ks, t => k.start = s ∧ Ch k.stop ks t
theorem ch_app : ∀ {xs ys : List Ky} {s t : Str}, Ch s (xs ++ ys) t ↔ ∃ m, Ch s xs m ∧ Ch m ys t
  | [], ys, s, t => ⟨fun h => ⟨s, rfl, h⟩, fun ⟨m, e, h⟩ => by cases e; exact h⟩
  | k :: xs, ys, s, t => by
    show (k.start = s ∧ Ch k.stop (xs ++ ys) t) ↔ _
    rw [ch_app]
    exact ⟨fun ⟨e, m, a, b⟩ => ⟨m, ⟨e, a⟩, b⟩, fun ⟨m, ⟨e, a⟩, b⟩ => ⟨e, m, a, b⟩⟩
structure T (ks : List Ky) : Prop where
  nm : ∀ k ∈ ks, ∀ n ∈ k.words, NmS n
  nd : ks.Nodup
  ne : ∀ l x y, .a l x y ∈ ks → x ≠ y
  rev : ∀ l x y, .a l x y ∈ ks → .a l y x ∈ ks
  one : ∀ l x y u v, .a l x y ∈ ks → .a l u v ∈ ks → (u = x ∧ v = y) ∨ (u = y ∧ v = x)
  hs : ∀ l x y, .a l x y ∈ ks → .h x ∈ ks
  cyc : ∃ s, Ch s ks s
  cnt : (hsOf ks).length * 2 = (asOf ks).length + 2
theorem T.single {x : Str} (h : NmS x) : T [.h x] :=
  ⟨fun k hk n hn => by
    rw [List.mem_singleton.mp hk] at hn
    rw [List.mem_singleton.mp hn]
    exact h, List.nodup_cons.mpr ⟨List.not_mem_nil, .nil⟩, fun l u v h => (nomatch List.mem_singleton.mp h), fun l u v h => (nomatch List.mem_singleton.mp h), fun l _ _ _ _ h => (nomatch List.mem_singleton.mp h),
    fun l u v h => (nomatch List.mem_singleton.mp h), ⟨x, rfl, rfl⟩, rfl⟩
theorem T.pos {ks : List Ky} (h : T ks) : 0 < ks.length := by
  have a := h.cnt
  have b := hs_as_len ks
  omega
theorem T.rot {xs ys : List Ky} (h : T (xs ++ ys)) : T (ys ++ xs) := by
  have m : ∀ k, k ∈ ys ++ xs ↔ k ∈ xs ++ ys := fun k => by
    rw [List.mem_append, List.mem_append]
    exact Or.comm
  refine ⟨fun k hk => h.nm k ((m k).mp hk), (List.perm_append_comm.nodup_iff).mp h.nd, fun l x y k => h.ne l x y ((m _).mp k), fun l x y k => (m _).mpr (h.rev l x y ((m _).mp k)), fun l x y u v a b => h.one l x y u v ((m _).mp a) ((m _).mp b),
    fun l x y k => (m _).mpr (h.hs l x y ((m _).mp k)), ?_, ?_⟩
  · obtain ⟨s, hs⟩ := h.cyc
    obtain ⟨t, a, b⟩ := ch_app.mp hs
    exact ⟨t, ch_app.mpr ⟨s, b, a⟩⟩
  · have := h.cnt
    rw [hs_app, as_app, List.length_append, List.length_append] at this ⊢
    omega
/-- two tours tied by a line -/
theorem T.link {a b l : Str} {xs ys : List Ky} (ha : T (.h a :: xs)) (hb : T (.h b :: ys)) (hl : NmS l) (n1 : ∀ x y, .a l x y ∉ .h a :: xs) (n2 : ∀ x y, .a l x y ∉ .h b :: ys)
    (dh : ∀ x, .h x ∈ .h a :: xs → .h x ∉ .h b :: ys) (dl : ∀ m x y u v, .a m x y ∈ .h a :: xs → .a m u v ∉ .h b :: ys) : T ((.h a :: xs) ++ [.a l a b] ++ (.h b :: ys) ++ [.a l b a]) := by
  have ab : a ≠ b := fun e => dh a List.mem_cons_self (e ▸ List.mem_cons_self)
  have ha' : Ch a (.h a :: xs) a := by
    obtain ⟨s, hs⟩ := ha.cyc
    obtain rfl : a = s := hs.1
    exact hs
  have hb' : Ch b (.h b :: ys) b := by
    obtain ⟨s, hs⟩ := hb.cyc
    obtain rfl : b = s := hs.1
    exact hs
  have an := ha.nm _ List.mem_cons_self a List.mem_cons_self
  have bn := hb.nm _ List.mem_cons_self b List.mem_cons_self
  have am : Ky.h a ∈ .h a :: xs := List.mem_cons_self
  have bm : Ky.h b ∈ .h b :: ys := List.mem_cons_self
  generalize hA : Ky.h a :: xs = A at *
  generalize hB : Ky.h b :: ys = B at *
  have mem : ∀ k, k ∈ A ++ [.a l a b] ++ B ++ [.a l b a] ↔ k ∈ A ∨ k = .a l a b ∨ k ∈ B ∨ k = .a l b a := fun k => by
    simp only [List.mem_append, List.mem_singleton, or_assoc]
  refine ⟨fun k hk => ?_, ?_, fun m x y k => ?_, fun m x y k => ?_, fun m x y u v h1 h2 => ?_, fun m x y k => ?_, ⟨a, ?_⟩, ?_⟩
  · rcases (mem k).mp hk with h | rfl | h | rfl
    · exact ha.nm k h
    · intro n hn
      rcases List.mem_cons.mp hn with rfl | hn
      · exact hl
      rcases List.mem_cons.mp hn with rfl | hn
      · exact an
      · rw [List.mem_singleton.mp hn]
        exact bn
    · exact hb.nm k h
    · intro n hn
      rcases List.mem_cons.mp hn with rfl | hn
      · exact hl
      rcases List.mem_cons.mp hn with rfl | hn
      · exact bn
      · rw [List.mem_singleton.mp hn]
        exact an
  · have d : ∀ k ∈ A, k ∉ B := fun k hk hk' => by
      cases k with
      | h x => exact dh x hk hk'
      | a m x y => exact dl m x y x y hk hk'
    rw [List.append_assoc, List.append_assoc]
    refine List.nodup_append.mpr ⟨ha.nd, List.nodup_append.mpr ⟨List.nodup_cons.mpr ⟨List.not_mem_nil, .nil⟩, List.nodup_append.mpr ⟨hb.nd, List.nodup_cons.mpr ⟨List.not_mem_nil, .nil⟩, fun x hx y hy e => ?_⟩, fun x hx y hy e => ?_⟩, fun x hx y hy e => ?_⟩
    · rw [List.mem_singleton.mp hy] at e
      exact n2 b a (e ▸ hx)
    · rw [List.mem_singleton.mp hx] at e
      rcases List.mem_append.mp hy with hy | hy
      · exact n2 a b (e ▸ hy)
      · rw [List.mem_singleton.mp hy] at e
        injection e with _ e _
        exact ab e
    · rcases List.mem_append.mp hy with hy | hy
      · rw [List.mem_singleton.mp hy] at e
        exact n1 a b (e ▸ hx)
      · rcases List.mem_append.mp hy with hy | hy
        · exact d x hx (e ▸ hy)
        · rw [List.mem_singleton.mp hy] at e
          exact n1 b a (e ▸ hx)
  · rcases (mem _).mp k with h | h | h | h
    · exact ha.ne m x y h
    · injection h with _ e1 e2
      rw [e1, e2]
      exact ab
    · exact hb.ne m x y h
    · injection h with _ e1 e2
      rw [e1, e2]
      exact ab.symm
  · rcases (mem _).mp k with h | h | h | h
    · exact (mem _).mpr (.inl (ha.rev m x y h))
    · injection h with e0 e1 e2
      subst e0 e1 e2
      exact (mem _).mpr (.inr (.inr (.inr rfl)))
    · exact (mem _).mpr (.inr (.inr (.inl (hb.rev m x y h))))
    · injection h with e0 e1 e2
      subst e0 e1 e2
      exact (mem _).mpr (.inr (.inl rfl))
  · rcases (mem _).mp h1 with k1 | k1 | k1 | k1 <;> rcases (mem _).mp h2 with k2 | k2 | k2 | k2
    · exact ha.one m x y u v k1 k2
    · injection k2 with e0 e1 e2
      subst e0
      exact absurd k1 (n1 _ _)
    · exact absurd k2 (dl _ _ _ _ _ k1)
    · injection k2 with e0 e1 e2
      subst e0
      exact absurd k1 (n1 _ _)
    · injection k1 with e0 e1 e2
      subst e0
      exact absurd k2 (n1 _ _)
    · injection k1 with e0 e1 e2
      injection k2 with f0 f1 f2
      exact .inl ⟨f1.trans e1.symm, f2.trans e2.symm⟩
    · injection k1 with e0 e1 e2
      subst e0
      exact absurd k2 (n2 _ _)
    · injection k1 with e0 e1 e2
      injection k2 with f0 f1 f2
      exact .inr ⟨f1.trans e2.symm, f2.trans e1.symm⟩
    · exact absurd k1 (dl _ _ _ _ _ k2)
    · injection k2 with e0 e1 e2
      subst e0
      exact absurd k1 (n2 _ _)
    · exact hb.one m x y u v k1 k2
    · injection k2 with e0 e1 e2
      subst e0
      exact absurd k1 (n2 _ _)
    · injection k1 with e0 e1 e2
      subst e0
      exact absurd k2 (n1 _ _)
    · injection k1 with e0 e1 e2
      injection k2 with f0 f1 f2
      exact .inr ⟨f1.trans e2.symm, f2.trans e1.symm⟩
    · injection k1 with e0 e1 e2
      subst e0
      exact absurd k2 (n2 _ _)
    · injection k1 with e0 e1 e2
      injection k2 with f0 f1 f2
      exact .inl ⟨f1.trans e1.symm, f2.trans e2.symm⟩
  · rcases (mem _).mp k with h | h | h | h
    · exact (mem _).mpr (.inl (ha.hs m x y h))
    · injection h with e0 e1 e2
      subst e1
      exact (mem _).mpr (.inl am)
    · exact (mem _).mpr (.inr (.inr (.inl (hb.hs m x y h))))
    · injection h with e0 e1 e2
      subst e1
      exact (mem _).mpr (.inr (.inr (.inl bm)))
  · exact ch_app.mpr ⟨b, ch_app.mpr ⟨b, ch_app.mpr ⟨a, ha', rfl, rfl⟩, hb'⟩, rfl, rfl⟩
  · have c1 := ha.cnt
    have c2 := hb.cnt
    simp only [hs_app, as_app, List.length_append]
    show ((hsOf A).length + 0 + (hsOf B).length + 0) * 2 = (asOf A).length + 1 + (asOf B).length + 1 + 2
    omega
/-- each key starts where the one before stops, the first one where the last one stops -/
theorem ch_at : ∀ {ks : List Ky} {s t : Str} {i : Nat} {k k' : Ky}, Ch s ks t → ks[i]? = some k → ks[i + 1]? = some k' → k.stop = k'.start
  | [], _, _, _, _, _, _, h, _ => by simp at h
  | x :: [], _, _, i, _, _, _, _, h => by simp at h
  | x :: y :: ks, s, t, 0, k, k', hc, h1, h2 => by
    cases h1
    cases h2
    exact hc.2.1.symm
  | x :: y :: ks, s, t, i + 1, k, k', hc, h1, h2 => ch_at (ks := y :: ks) (i := i) hc.2 (by simpa using h1) (by simpa using h2)
theorem ch_last : ∀ {ks : List Ky} {s t : Str} {k : Ky}, Ch s ks t → ks[ks.length - 1]? = some k → k.stop = t
  | [], _, _, _, _, h => by simp at h
  | x :: [], _, _, k, hc, h => by
    cases h
    exact hc.2
  | x :: y :: ks, s, t, k, hc, h => ch_last (ks := y :: ks) hc.2 (by simpa using h)
theorem ch_first {ks : List Ky} {s t : Str} {k : Ky} (hc : Ch s ks t) (h : ks[0]? = some k) : k.start = s := by
  cases ks with
  | nil => simp at h
  | cons x ks =>
    cases h
    exact hc.1
/-- the arcs of one line, in their order -/
def pairsOf (ks : List Ky) (l : Str) : List (Str × Str) := (asOf ks).filterMap fun p => if p.1 = l then some p.2 else none
theorem pairs_mem {ks : List Ky} {l x y : Str} : (x, y) ∈ pairsOf ks l ↔ .a l x y ∈ ks := by
  unfold pairsOf
  rw [List.mem_filterMap, ← as_mem]
  constructor
  · rintro ⟨⟨m, u, v⟩, h, e⟩
    by_cases z : m = l
    · subst z
      rw [if_pos rfl] at e
      cases e
      exact h
    · rw [if_neg z] at e
      cases e
  · exact fun h => ⟨_, h, if_pos rfl⟩
theorem as_nodup {ks : List Ky} (h : ks.Nodup) : (asOf ks).Nodup := by
  unfold asOf
  refine List.Pairwise.filterMap _ (fun k k' hne b hb b' hb' e => ?_) h
  subst e
  cases k with
  | h x => cases hb
  | a l x y =>
    cases k' with
    | h x => cases hb'
    | a l' x' y' =>
      cases hb
      cases hb'
      exact hne rfl
theorem hs_nodup {ks : List Ky} (h : ks.Nodup) : (hsOf ks).Nodup := by
  unfold hsOf
  refine List.Pairwise.filterMap _ (fun k k' hne b hb b' hb' e => ?_) h
  subst e
  cases k with
  | a l x y => cases hb
  | h x =>
    cases k' with
    | a l x y => cases hb'
    | h x' =>
      cases hb
      cases hb'
      exact hne rfl
theorem pairs_nodup {ks : List Ky} {l : Str} (h : ks.Nodup) : (pairsOf ks l).Nodup := by
  unfold pairsOf
  refine List.Pairwise.filterMap _ (fun k k' hne b hb b' hb' e => ?_) (as_nodup h)
  subst e
  by_cases z : k.1 = l
  · rw [if_pos z] at hb
    by_cases z' : k'.1 = l
    · rw [if_pos z'] at hb'
      exact hne (Prod.ext (z.trans z'.symm) ((Option.some.inj hb).trans (Option.some.inj hb').symm))
    · rw [if_neg z'] at hb'
      cases hb'
  · rw [if_neg z] at hb
    cases hb
/-- of a tour's line: two arcs, the one the reverse of the other -/
theorem T.pairs {ks : List Ky} (h : T ks) {l x y : Str} (m : .a l x y ∈ ks) : ∃ u v, pairsOf ks l = [(u, v), (v, u)] ∧ .a l u v ∈ ks := by
  have p : (pairsOf ks l).Perm [(x, y), (y, x)] := by
    refine (List.perm_ext_iff_of_nodup (pairs_nodup h.nd) ?_).mpr fun ⟨u, v⟩ => ?_
    · refine List.nodup_cons.mpr ⟨fun z => ?_, List.nodup_cons.mpr ⟨List.not_mem_nil, .nil⟩⟩
      exact h.ne l x y m (Prod.mk.inj (List.mem_singleton.mp z)).1
    · rw [pairs_mem]
      constructor
      · intro k
        rcases h.one l x y u v m k with ⟨rfl, rfl⟩ | ⟨rfl, rfl⟩
        · exact List.mem_cons_self
        · exact List.mem_cons_of_mem _ List.mem_cons_self
      · intro k
        rcases List.mem_cons.mp k with e | k
        · cases e
          exact m
        · cases List.mem_singleton.mp k
          exact h.rev l x y m
  have e : pairsOf ks l = [(x, y), (y, x)] ∨ pairsOf ks l = [(y, x), (x, y)] := by
    have l2 := p.length_eq
    match hq : pairsOf ks l, l2 with
    | [q1, q2], _ =>
      rw [hq] at p
      have h1 := p.mem_iff.mp (List.mem_cons_self (a := q1) (l := [q2]))
      have nd := p.nodup_iff.mpr (by
        refine List.nodup_cons.mpr ⟨fun z => ?_, List.nodup_cons.mpr ⟨List.not_mem_nil, .nil⟩⟩
        exact h.ne l x y m (Prod.mk.inj (List.mem_singleton.mp z)).1)
      have h2 := p.mem_iff.mp (List.mem_cons_of_mem q1 (List.mem_cons_self (a := q2) (l := [])))
      have d : q1 ≠ q2 := fun e => (List.nodup_cons.mp nd).1 (e ▸ List.mem_cons_self)
      simp only [List.mem_cons, List.not_mem_nil, or_false] at h1 h2
      rcases h1 with rfl | rfl <;> rcases h2 with rfl | rfl
      · exact absurd rfl d
      · exact .inl rfl
      · exact .inr rfl
      · exact absurd rfl d
  rcases e with e | e
  · exact ⟨x, y, e, m⟩
  · exact ⟨y, x, e, h.rev l x y m⟩
end Ty
/-! lists of keys on the heap -/
namespace Ty
open PySem PySem.Spec PyProof.Rows L2 Rd
section
variable {X : Cx} {K : PySem.W.Frag}
theorem inDK (hK : X.K = K) (hu : X.A.units + 65 < cLine) : OpR X (compareOp .In) (rInD K) := by
  subst hK
  exact op_inD hu
theorem niDK (hK : X.K = K) (hu : X.A.units + 65 < cLine) : OpR X (compareOp .NotIn) (rNotInD K) := by
  subst hK
  exact op_notInD hu
theorem idxDK (hK : X.K = K) (hu : X.A.units + 65 < cLine) : MtR X "list.index" (rIndexD K) := by
  subst hK
  exact mt_indexD hu
theorem un65 {k : Nat} {A : Around} (r : Room k A) : A.units + 65 < cLine := by
  have := r.un
  omega
end
/-- a key's items -/
def kv : Ky → List Str
  | .h x => ["house", x]
  | .a l x y => ["arc", l, x, y]
def kdat (k : Ky) : PyData := .tuple ((kv k).map PyData.str)
theorem house_arc : ("house" : Str) ≠ "arc" := by decide +kernel
theorem kv_inj : ∀ {k j : Ky}, kv k = kv j → k = j
  | .h x, .h y, e => by
    cases e
    rfl
  | .a l x y, .a m u v, e => by
    cases e
    rfl
  | .h x, .a _ _ _, e => absurd (List.cons.inj e).1 house_arc
  | .a _ _ _, .h x, e => absurd (List.cons.inj e).1.symm house_arc
theorem eqv_strs : ∀ xs ys : List Str, PyData.eqvAll (xs.map PyData.str) (ys.map PyData.str) = decide (xs = ys)
  | [], [] => by simp [PyData.eqvAll]
  | [], _ :: _ => by simp [PyData.eqvAll]
  | _ :: _, [] => by simp [PyData.eqvAll]
  | x :: xs, y :: ys => by
    rw [List.map_cons, List.map_cons, PyData.eqvAll, eqv_strs xs ys]
    by_cases e : x = y
    · subst e
      simp [PyData.eqv]
    · simp [PyData.eqv, e]
theorem eqv_key (k j : Ky) : PyData.eqv (kdat k) (kdat j) = decide (k = j) := by
  unfold kdat
  rw [PyData.eqv, eqv_strs]
  by_cases e : k = j
  · subst e
    simp
  · rw [decide_eq_false e, decide_eq_false fun h => e (kv_inj h)]
/-- words that a program can hold -/
def OkK (k : Ky) : Prop := ∀ n ∈ k.words, PyData.strOk n = true
theorem nm_ok {z : Str} (h : NmS z) : PyData.strOk z = true := by
  unfold PyData.strOk
  obtain ⟨c, s, e, hc, hs⟩ := h.1
  rw [Array.all_eq_true_iff_forall_mem]
  intro x hx
  have hx : x ∈ cl z := Array.mem_toList_iff.mpr hx
  rw [e] at hx
  have hl : Low c → c < 0x110000 := fun h => by
    have := h.2
    omega
  have ha : ∀ x, Aln x → x < 0x110000 := fun x h => by
    rcases h with h | h <;> · have := h.2; omega
  rcases List.mem_cons.mp hx with rfl | hx
  · exact decide_eq_true (hl hc)
  · exact decide_eq_true (ha x (hs x hx))
theorem OkK.all {k : Ky} (h : OkK k) : ∀ n ∈ kv k, PyData.strOk n = true := by
  have e1 : PyData.strOk "house" = true := by decide +kernel
  have e2 : PyData.strOk "arc" = true := by decide +kernel
  intro n hn
  cases k with
  | h x =>
    rcases List.mem_cons.mp hn with rfl | hn
    · exact e1
    · exact h n hn
  | a l x y =>
    rcases List.mem_cons.mp hn with rfl | hn
    · exact e2
    · exact h n hn
theorem lay_strs : ∀ xs : List Str, (∀ n ∈ xs, PyData.strOk n = true) → PyData.canLayAll0 (xs.map PyData.str) = true
  | [], _ => rfl
  | x :: xs, h => by
    rw [List.map_cons, PyData.canLayAll0, lay_strs xs fun n m => h n (List.mem_cons_of_mem _ m), PyData.canLay0, h x List.mem_cons_self]
    rfl
theorem depth_strs : ∀ xs : List Str, PyData.depthAll (xs.map PyData.str) = 0
  | [] => rfl
  | x :: xs => by
    rw [List.map_cons, PyData.depthAll, depth_strs xs]
    rfl
theorem shaped_key {k : Ky} (h : OkK k) : SeqAt.shaped (kdat k) = true := by
  unfold SeqAt.shaped kdat
  rw [PyData.canLay0, lay_strs _ h.all, PyData.depth, depth_strs]
  rfl
theorem lay_keys : ∀ ks : List Ky, (∀ k ∈ ks, OkK k) → PyData.canLayAll0 (ks.map kdat) = true
  | [], _ => rfl
  | k :: ks, h => by
    rw [List.map_cons, PyData.canLayAll0, lay_keys ks fun j m => h j (List.mem_cons_of_mem _ m)]
    have := SeqAt.canLay_of_shaped (shaped_key (h k List.mem_cons_self))
    rw [this]
    rfl
theorem depth_keys : ∀ ks : List Ky, PyData.depthAll (ks.map kdat) ≤ 1
  | [] => Nat.zero_le _
  | k :: ks => by
    rw [List.map_cons, PyData.depthAll]
    have : (kdat k).depth ≤ 1 := by
      unfold kdat
      rw [PyData.depth, depth_strs]
      decide
    have := depth_keys ks
    omega
theorem shaped_keys {ks : List Ky} (h : ∀ k ∈ ks, OkK k) : SeqAt.shaped (.list (ks.map kdat)) = true := by
  unfold SeqAt.shaped
  rw [PyData.canLay0, lay_keys ks h, PyData.depth]
  have := depth_keys ks
  rw [decide_eq_true (by omega)]
  rfl
theorem any_key (ks : List Ky) (k : Ky) : ((ks.map kdat).any fun z => PyData.eqv z (kdat k)) = decide (k ∈ ks) := by
  rw [List.any_map]
  have : ((fun z => PyData.eqv z (kdat k)) ∘ kdat) = fun j => decide (j = k) := funext fun j => eqv_key j k
  rw [this]
  by_cases m : k ∈ ks
  · rw [decide_eq_true m, List.any_eq_true]
    exact ⟨k, m, decide_eq_true rfl⟩
  · rw [decide_eq_false m, List.any_eq_false]
    intro j hj
    simp only [decide_eq_true_eq]
    exact fun e => m (e ▸ hj)
/-- v is the key k -/
def KV (H : Hp) (v : V) (k : Ky) : Prop := OkK k ∧ ∃ t, v = .ref t ∧ H t = some (.tup ((kv k).map V.str))
def KVs (H : Hp) : List V → List Ky → Prop
  | [], [] => True
  | v :: vs, k :: ks => KV H v k ∧ KVs H vs ks
  | _, _ => False
theorem KV.same {H H' : Hp} {v : V} {k : Ky} (h : KV H v k) (s : Same H H') : KV H' v k := by
  obtain ⟨o, t, e, h⟩ := h
  exact ⟨o, t, e, s _ _ h⟩
theorem KVs.all {H H' : Hp} : ∀ {vs : List V} {ks : List Ky}, KVs H vs ks → (∀ v k, v ∈ vs → KV H v k → KV H' v k) → KVs H' vs ks
  | [], [], _, _ => trivial
  | v :: vs, k :: ks, h, s => ⟨s _ _ List.mem_cons_self h.1, KVs.all h.2 fun u j m => s u j (List.mem_cons_of_mem _ m)⟩
  | [], _ :: _, h, _ => h.elim
  | _ :: _, [], h, _ => h.elim
theorem KVs.same {H H' : Hp} {vs : List V} {ks : List Ky} (h : KVs H vs ks) (s : Same H H') : KVs H' vs ks := h.all fun _ _ _ k => k.same s
theorem KVs.len {H : Hp} : ∀ {vs : List V} {ks : List Ky}, KVs H vs ks → vs.length = ks.length
  | [], [], _ => rfl
  | v :: vs, k :: ks, h => by rw [List.length_cons, List.length_cons, KVs.len h.2]
  | [], _ :: _, h => h.elim
  | _ :: _, [], h => h.elim
theorem KVs.app {H : Hp} : ∀ {vs ws : List V} {ks js : List Ky}, KVs H vs ks → KVs H ws js → KVs H (vs ++ ws) (ks ++ js)
  | [], _, [], _, _, h => h
  | v :: vs, _, k :: ks, _, h, g => ⟨h.1, KVs.app h.2 g⟩
  | [], _, _ :: _, _, h, _ => h.elim
  | _ :: _, _, [], _, h, _ => h.elim
theorem KVs.cut {H : Hp} : ∀ {vs : List V} {ks : List Ky} (n : Nat), KVs H vs ks → KVs H (vs.take n) (ks.take n) ∧ KVs H (vs.drop n) (ks.drop n)
  | vs, ks, 0, h => ⟨trivial, h⟩
  | [], [], _ + 1, h => ⟨trivial, trivial⟩
  | v :: vs, k :: ks, n + 1, h => ⟨⟨h.1, (KVs.cut n h.2).1⟩, (KVs.cut n h.2).2⟩
  | [], _ :: _, _ + 1, h => h.elim
  | _ :: _, [], _ + 1, h => h.elim
theorem KVs.at {H : Hp} : ∀ {vs : List V} {ks : List Ky} {n : Nat} {v : V}, KVs H vs ks → vs[n]? = some v → ∃ k, ks[n]? = some k ∧ KV H v k
  | v :: vs, k :: ks, 0, _, h, e => by
    cases e
    exact ⟨k, rfl, h.1⟩
  | v :: vs, k :: ks, n + 1, _, h, e => KVs.at (n := n) h.2 e
  | [], [], _, _, _, e => nomatch e
  | [], _ :: _, _, _, h, _ => h.elim
  | _ :: _, [], _, _, h, _ => h.elim
theorem KVs.mem {H : Hp} {vs : List V} {ks : List Ky} {v : V} (h : KVs H vs ks) (m : v ∈ vs) : ∃ k ∈ ks, KV H v k := by
  obtain ⟨n, hn⟩ := List.mem_iff_getElem?.mp m
  obtain ⟨k, hk, e⟩ := h.at hn
  exact ⟨k, List.mem_of_getElem? hk, e⟩
variable {K : PySem.W.Frag}
theorem dp_strs {H : Hp} : ∀ xs : List Str, DpAll K H (xs.map V.str) (xs.map PyData.str)
  | [] => .nil
  | x :: xs => .cons (.str x) (dp_strs xs)
theorem KV.dp {H : Hp} {v : V} {k : Ky} (h : KV H v k) : Dp K H v (kdat k) := by
  obtain ⟨_, t, rfl, h⟩ := h
  exact .tup (.inl (.inl h)) (dp_strs _)
theorem KVs.dp {H : Hp} : ∀ {vs : List V} {ks : List Ky}, KVs H vs ks → DpAll K H vs (ks.map kdat)
  | [], [], _ => .nil
  | v :: vs, k :: ks, h => .cons h.1.dp (KVs.dp h.2)
  | [], _ :: _, h => h.elim
  | _ :: _, [], h => h.elim
theorem KVs.ok {H : Hp} : ∀ {vs : List V} {ks : List Ky}, KVs H vs ks → ∀ k ∈ ks, OkK k
  | [], [], _ => fun _ m => nomatch m
  | v :: vs, k :: ks, h => fun j m => (List.mem_cons.mp m).elim (fun e => e ▸ h.1.1) (KVs.ok h.2 j)
  | [], _ :: _, h => h.elim
  | _ :: _, [], h => h.elim
/-- at a a list of the keys ks -/
def KL (H : Hp) (a : Addr) (ks : List Ky) : Prop := ∃ vs, H a = some (.lst vs) ∧ KVs H vs ks
theorem KL.same {H H' : Hp} {a : Addr} {ks : List Ky} (h : KL H a ks) (s : Same H H') : KL H' a ks := by
  obtain ⟨vs, e, k⟩ := h
  exact ⟨vs, s _ _ e, k.same s⟩
theorem KL.ok {H : Hp} {a : Addr} {ks : List Ky} (h : KL H a ks) : ∀ k ∈ ks, OkK k := by
  obtain ⟨vs, _, k⟩ := h
  exact k.ok
theorem KL.dp {H : Hp} {a : Addr} {ks : List Ky} (h : KL H a ks) : Dp K H (.ref a) (.list (ks.map kdat)) := by
  obtain ⟨vs, e, k⟩ := h
  exact .lst (.inl (.inl e)) k.dp
theorem niK {H : Hp} {Q : VK} {a : Addr} {ks : List Ky} {v : V} {k : Ky} (h : KL H a ks) (hv : KV H v k) (q : Q (.bl (!decide (k ∈ ks))) H) : rNotInD K v (.ref a) H Q :=
  ⟨kdat k, ks.map kdat, hv.dp, h.dp, shaped_key hv.1, shaped_keys h.ok, by rw [any_key]; exact q⟩
theorem inK {H : Hp} {Q : VK} {a : Addr} {ks : List Ky} {v : V} {k : Ky} (h : KL H a ks) (hv : KV H v k) (q : Q (.bl (decide (k ∈ ks))) H) : rInD K v (.ref a) H Q :=
  ⟨kdat k, ks.map kdat, hv.dp, h.dp, shaped_key hv.1, shaped_keys h.ok, by rw [any_key]; exact q⟩
theorem idxK {H : Hp} {Q : VK} {a : Addr} {xs ys : List Ky} {v : V} {k : Ky} (h : KL H a (xs ++ k :: ys)) (n : k ∉ xs) (hv : KV H v k) (q : Q (.int (xs.length : Nat)) H) : rIndexD K (.ref a) [v] H Q := by
  refine ⟨a, v, kdat k, (xs ++ k :: ys).map kdat, xs.length, kdat k, rfl, rfl, h.dp, hv.dp, shaped_keys h.ok, shaped_key hv.1, ?_, ?_, fun m z l e => ?_, q⟩
  · rw [List.getElem?_map, List.getElem?_append_right (Nat.le_refl _), Nat.sub_self]
    rfl
  · rw [eqv_key]
    exact decide_eq_true rfl
  · rw [List.getElem?_map, List.getElem?_append_left l] at e
    obtain ⟨j, hj, rfl⟩ := Option.map_eq_some_iff.mp e
    rw [eqv_key]
    exact decide_eq_false fun z => n (z ▸ List.mem_of_getElem? hj)
theorem eqK {H : Hp} {Q : VK} {v u : V} {k j : Ky} (h : KV H v k) (g : KV H u j) (q : Q (.bl (decide (k = j))) H) : rEqD K v u H Q :=
  ⟨kdat k, kdat j, h.dp, g.dp, shaped_key h.1, shaped_key g.1, by rw [eqv_key]; exact q⟩
theorem cut_from {xs : List V} (n : Nat) : cutV xs (some (n : Int)) none = xs.drop n := by
  unfold cutV
  rw [HT.sIx_nat, HT.sIx_none]
  by_cases l : n ≤ xs.length
  · rw [Nat.min_eq_left l, List.take_of_length_le (by rw [List.length_drop]; exact Nat.le_refl _)]
  · rw [Nat.min_eq_right (by omega), List.drop_of_length_le (Nat.le_refl _), List.drop_of_length_le (by omega), List.take_nil]
theorem cut_to {xs : List V} (n : Nat) : cutV xs none (some (n : Int)) = xs.take n := by
  unfold cutV
  rw [HT.sIx_nat, HT.sIx_none, List.drop_zero, Nat.sub_zero]
  by_cases l : n ≤ xs.length
  · rw [Nat.min_eq_left l]
  · rw [Nat.min_eq_right (by omega), List.take_of_length_le (Nat.le_refl _), List.take_of_length_le (by omega)]
end Ty
/-! comprehensions with tests, whose turns may make new objects -/
namespace Rd
open PySem PySem.Spec PyProof.Rows L2
theorem filterMap_succ {fs : Nat → Option V} {i : Nat} : (List.range (i + 1)).filterMap fs = (List.range i).filterMap fs ++ (fs i).toList := by
  rw [List.range_succ, List.filterMap_append]
  cases h : fs i <;> simp [h]
theorem filterMap_le {fs : Nat → Option V} {i : Nat} : ((List.range i).filterMap fs).length ≤ i := by
  have := List.length_filterMap_le fs (List.range i)
  rwa [List.length_range] at this
/-- one turn: what is told of it -/
def TurnW (g : TG) (tt : TT) (te : TE) (vs : List Nat) (σ : L2.St) (y0 : Option V) (x : V) (h h' : Hp) : Prop :=
  ∀ (L : Addr) (Nx : Hp → Prop), (∀ G y, y0 = some y → Same h G → ∃ out, G L = some (.lst out) ∧ out.length < sizeLine ∧ Nx (upd G L (.lst (out ++ [y])))) → (∀ G, y0 = none → Same h G → Nx G) → Turn1 g tt te vs σ L x h' Nx
theorem lcW {J : It} {n : Nat} {Gd : Hp → Prop} {Y : Nat → Hp → V → Hp → Prop} (w : L2.Walk J n Gd Y) {g : TG} {tt : TT} {te : TE} {vs : List Nat} {σ : L2.St} {H : Hp} {Q : VK} (fs : Nat → Option V) (hz : n ≤ 100000) (hG : ∀ h, Same H h → Gd h)
    (hs : ∀ i x h h', i < n → Same H h → Y i h x h' → TurnW g tt te vs σ (fs i) x h h')
    (hd : ∀ L G, H L = none → Same H G → G L = some (.lst ((List.range n).filterMap fs)) → Q (.ref L) G) : LcB J g tt te vs σ H Q := fun L hL => by
  have st : ∀ {G : Hp} {o : HO}, Same H G → Same H (upd G L o) := fun s b o e => (upd_ne (ne_of_none e hL)).trans (s b o e)
  refine L2.lc_it (Qd := Q (.ref L)) w (fun i h => Same H h ∧ h L = some (.lst ((List.range i).filterMap fs))) ⟨st (.refl H), upd_same⟩ (fun i h _ p => hG h p.1) (fun i x h h' hi p y => ?_) fun h p => hd L h hL p.1 p.2
  refine hs i x h h' hi p.1 y L _ (fun G y e s => ?_) fun G e s => ?_
  · refine ⟨_, s _ _ p.2, ?_, st (p.1.trans s), ?_⟩
    · have := filterMap_le (fs := fs) (i := i)
      have := sz5 (Nat.le_refl 100000)
      omega
    · rw [filterMap_succ, e]
      exact upd_same
  · refine ⟨p.1.trans s, ?_⟩
    rw [filterMap_succ, e]
    exact (s _ _ p.2).trans (by simp)
/-- over a list -/
theorem lcF {K : PySem.W.Frag} {a : Addr} {g : TG} {tt : TT} {te : TE} {vs : List Nat} {σ : L2.St} {H : Hp} {Q : VK} (xs : List V) (fs : Nat → Option V) (ha : SqL K H a xs) (hz : xs.length ≤ 100000)
    (hs : ∀ i x h, xs[i]? = some x → Same H h → TurnW g tt te vs σ (fs i) x h h)
    (hd : ∀ L G, H L = none → Same H G → G L = some (.lst ((List.range xs.length).filterMap fs)) → Q (.ref L) G) : LcB (Itl K a) g tt te vs σ H Q :=
  lcW walk_list fs hz (fun h s => s.seq ha) (fun i x h h' _ s y => by
    obtain ⟨rfl, e⟩ := y
    exact hs i x h' e s) hd
/-- over a list with its places -/
theorem lcE {K : PySem.W.Frag} {a : Addr} {g : TG} {tt : TT} {te : TE} {vs : List Nat} {σ : L2.St} {H : Hp} {Q : VK} (xs : List V) (fs : Nat → Option V) (ha : SqL K H a xs) (hz : xs.length ≤ 100000)
    (hs : ∀ i x h T, xs[i]? = some x → Same H h → h T = none → TurnW g tt te vs σ (fs i) (.ref T) h (upd h T (.tup [.int (i : Nat), x])))
    (hd : ∀ L G, H L = none → Same H G → G L = some (.lst ((List.range xs.length).filterMap fs)) → Q (.ref L) G) : LcB (Ite K a) g tt te vs σ H Q :=
  lcW walk_enum fs hz (fun h s => s.seq ha) (fun i x h h' _ s y => by
    obtain ⟨T, u, v, rfl, n, rfl, e, e'⟩ := y
    cases e
    exact hs i v h T e' s n) hd
/-- over a range -/
theorem lcG {lo : Int} {n : Nat} {g : TG} {tt : TT} {te : TE} {vs : List Nat} {σ : L2.St} {H : Hp} {Q : VK} (fs : Nat → Option V) (hz : n ≤ 100000)
    (hs : ∀ i h, i < n → Same H h → TurnW g tt te vs σ (fs i) (.int (lo + i)) h h)
    (hd : ∀ L G, H L = none → Same H G → G L = some (.lst ((List.range n).filterMap fs)) → Q (.ref L) G) : LcB (Itr lo n) g tt te vs σ H Q :=
  lcW walk_range fs hz (fun _ _ => trivial) (fun i x h h' hi s y => by
    obtain ⟨rfl, rfl⟩ := y
    exact hs i h' hi s) hd
theorem pg_tupK {X : Cx} {K : PySem.W.Frag} {pos : Pos} {es : List Expr} {k : Nat} {t : TGs} {n : Nat} (hK : X.K = K) (hc : X.calm = true) (h : PGs X es t) (hn : (assignEach es X.env).length = n := by rfl)
    (hst : (assignEach es X.env).findIdx? (·.1) = none := by rfl) : PG X (.Tuple es k pos) (gTup K n t) := by
  subst hK
  exact pg_tup hc h hn hst
theorem gunl {K : PySem.W.Frag} {n : Nat} {t : TGs} {p : Addr} {xs : List V} {σ : L2.St} {H : Hp} {P : L2.St → Hp → Prop} (h : SqL K H p xs) (e : xs.length = n) (g : t xs σ H P) : gUnl K n t (.ref p) σ H P := ⟨p, xs, rfl, h, e, g⟩
theorem ienum {K : PySem.W.Frag} {ta : TA} {σ : L2.St} {H : Hp} {R : It → Hp → Prop} (h : ta σ H fun vs H1 => ∃ a xs, vs = [.ref a] ∧ SqL K H1 a xs ∧ R (Ite K a) H1) : iEnum K ta σ H R := h
theorem op_notIn_seqK {X : Cx} {K : PySem.W.Frag} (hK : X.K = K) : OpR X (compareOp .NotIn) (rIn K true) := by
  subst hK
  exact op_notIn_seq
theorem op_in_seqK {X : Cx} {K : PySem.W.Frag} (hK : X.K = K) : OpR X (compareOp .In) (rIn K false) := by
  subst hK
  exact op_in_seq
theorem pi_listK {X : Cx} {K : PySem.W.Frag} (hK : X.K = K) {tg l : Expr} {tl : TE} (h : PE X l tl) : PI X tg l (iList K tl) := hK ▸ pi_list h
theorem pi_tupK {X : Cx} {K : PySem.W.Frag} (hK : X.K = K) {tg l : Expr} {tl : TE} (h : PE X l tl) : PI X tg l (iTup K tl) := hK ▸ pi_tup h
/-- what a filtered list of the items is -/
theorem fm_at {α β : Type} {f : α → Option β} : ∀ {xs : List α} {fs : Nat → Option β}, (∀ (i : Nat) (h : i < xs.length), fs i = f xs[i]) → (List.range xs.length).filterMap fs = xs.filterMap f
  | [], _, _ => rfl
  | x :: xs, fs, h => by
    have e := h 0 (Nat.zero_lt_succ _)
    have ih := fm_at (xs := xs) (fs := fun i => fs (i + 1)) fun i hi => h (i + 1) (Nat.succ_lt_succ hi)
    rw [List.length_cons, List.range_succ_eq_map, List.filterMap_cons, List.filterMap_map, List.filterMap_cons]
    have ih : (List.range xs.length).filterMap (fs ∘ Nat.succ) = xs.filterMap f := ih
    rw [ih, e]
    rfl
/-! dicts made from a list: text keys, each once, one value -/
theorem filterMap_succ' {α : Type} {fs : Nat → Option α} {i : Nat} : (List.range (i + 1)).filterMap fs = (List.range i).filterMap fs ++ (fs i).toList := by
  rw [List.range_succ, List.filterMap_append]
  cases h : fs i <;> simp [h]
def DcB (J : It) (g : TG) (tt : TT) (tk tv : TE) (vs : List Nat) (σ : L2.St) (H : Hp) (Q : VK) : Prop := tDc (fun _ H1 R => R J H1) g tt tk tv vs σ H Q
theorem dcX {wi : TI} {g : TG} {tt : TT} {tk tv : TE} {vs : List Nat} {σ : L2.St} {H : Hp} {Q : VK} (h : wi σ H fun J H1 => DcB J g tt tk tv vs σ H1 Q) : tDc wi g tt tk tv vs σ H Q := h
def TurnD (g : TG) (tt : TT) (tk tv : TE) (vs : List Nat) (σ : L2.St) (c : V) (y0 : Option Str) (x : V) (h : Hp) : Prop :=
  ∀ (L : Addr) (Nx : Hp → Prop), (∀ G z, y0 = some z → Same h G → ∃ (kvs : List (Key × V)) (k : Key), V.str z = kV k ∧ G L = some (.dK kvs) ∧ kvs.length < sizeLine ∧ Nx (upd G L (.dK (putK kvs k c)))) → (∀ G, y0 = none → Same h G → Nx G) →
    g x (wipe σ vs) h fun σ2 h2 => wipe σ2 vs = wipe σ vs ∧ tt σ2 h2 fun k h3 => if k = true then tk σ2 h3 fun y h4 => tv σ2 h4 fun z h5 => ∃ (kvs : List (Key × V)) (k : Key), y = kV k ∧ h5 L = some (.dK kvs) ∧ kvs.length < sizeLine ∧ Nx (upd h5 L (.dK (putK kvs k z))) else Nx h3
theorem dcF {K : PySem.W.Frag} {a : Addr} {g : TG} {tt : TT} {tk tv : TE} {vs : List Nat} {σ : L2.St} {H : Hp} {Q : VK} (xs : List V) (fs : Nat → Option Str) (c : V) (ha : SqL K H a xs) (hz : xs.length ≤ 100000) (nd : ((List.range xs.length).filterMap fs).Nodup)
    (hs : ∀ i x h, xs[i]? = some x → Same H h → TurnD g tt tk tv vs σ c (fs i) x h)
    (hd : ∀ L G, H L = none → Same H G → G L = some (.dK (kd ((List.range xs.length).filterMap fs) fun _ => c)) → Q (.ref L) G) : DcB (Itl K a) g tt tk tv vs σ H Q := fun L hL => by
  have st : ∀ {G : Hp} {o : HO}, Same H G → Same H (upd G L o) := fun s b o e => (upd_ne (ne_of_none e hL)).trans (s b o e)
  have big := sz5 (Nat.le_refl 100000)
  have w := walk_list (K := K) (a := a) (xs := xs)
  refine ⟨fun i m h => m = xs.length - i ∧ i ≤ xs.length ∧ Same H h ∧ h L = some (.dK (kd ((List.range i).filterMap fs) fun _ => c)), ⟨xs.length, by simp, Nat.zero_le _, st (.refl H), upd_same⟩, ?_⟩
  rintro i m h ⟨rfl, hi, p⟩
  by_cases il : i < xs.length
  · refine .inr ⟨w.goes i h il (p.1.seq ha), fun h => Same H h ∧ h L = some (.dK (kd ((List.range (i + 1)).filterMap fs) fun _ => c)), fun H' p' => ⟨xs.length - (i + 1), by omega, rfl, il, p'⟩, fun x H' y => ?_⟩
    obtain ⟨rfl, hx⟩ := w.yields i h x H' il (p.1.seq ha) y
    refine hs i x _ hx p.1 L _ (fun G z e s => ?_) fun G e s => ?_
    · refine ⟨_, Sum.inr z, rfl, s _ _ p.2, ?_, st (p.1.trans s), ?_⟩
      · rw [kd_len]
        have := List.length_filterMap_le fs (List.range i)
        rw [List.length_range] at this
        omega
      · have nz : z ∉ (List.range i).filterMap fs := fun m => by
          have sub : ((List.range (i + 1)).filterMap fs).Sublist ((List.range xs.length).filterMap fs) := by
            refine List.Sublist.filterMap _ ?_
            obtain ⟨d, hd'⟩ : ∃ d, xs.length = (i + 1) + d := ⟨xs.length - (i + 1), by omega⟩
            have er : List.range xs.length = List.range (i + 1) ++ (List.range d).map ((i + 1) + ·) := by
              rw [hd']
              exact List.range_add ..
            rw [er]
            exact List.sublist_append_left _ _
          have n2 := nd.sublist sub
          rw [filterMap_succ', e] at n2
          exact (List.nodup_append.mp n2).2.2 z m z (List.mem_singleton.mpr rfl) rfl
        rw [upd_same, kd_new nz, filterMap_succ', e, kd_congr (g := fun _ => c) fun y _ => by split <;> rfl]
        rfl
    · refine ⟨p.1.trans s, ?_⟩
      rw [filterMap_succ', e]
      exact (s _ _ p.2).trans (by simp)
  · have e : i = xs.length := by omega
    subst e
    exact .inl ⟨w.stops h (p.1.seq ha), hd L h hL p.1 p.2⟩
end Rd
namespace Kj
open PySem PySem.Spec PyProof.Rows L2 Rd
def topS (i : Nat) : Stmt := PySem.Challenge.pw_keptjoined_k26_parted_tours.main.body.getD i (.Pass ⟨0, 0, 0, 0⟩)
/-! ### heaps by their names -/
theorem hpS {H G : Hp} {a : Addr} {o : HO} (s : Same H G) (h : H a = some o) : G a = some o := s _ _ h
theorem newOne {H G : Hp} {l : Addr} {o : HO} (n : H l = none) (e : upd H l o = G) : Same H G ∧ G l = some o := by
  subst e
  exact ⟨same_upd n, upd_same⟩
theorem nd_word : (("word" : Str) == ("__debug__" : Str)) = false := by decide +kernel
theorem nc_word : (("word" : Str) == ("__classdict__" : Str)) = false := by decide +kernel
theorem nn_word : ("word" : Str) ≠ "__name__" := by decide +kernel
theorem nd_c : (("c" : Str) == ("__debug__" : Str)) = false := by decide +kernel
theorem nc_c : (("c" : Str) == ("__classdict__" : Str)) = false := by decide +kernel
theorem nn_c : ("c" : Str) ≠ "__name__" := by decide +kernel
theorem nd_isinstance : (("isinstance" : Str) == ("__debug__" : Str)) = false := by decide +kernel
theorem nc_isinstance : (("isinstance" : Str) == ("__classdict__" : Str)) = false := by decide +kernel
theorem nn_isinstance : ("isinstance" : Str) ≠ "__name__" := by decide +kernel
theorem nd_str : (("str" : Str) == ("__debug__" : Str)) = false := by decide +kernel
theorem nc_str : (("str" : Str) == ("__classdict__" : Str)) = false := by decide +kernel
theorem nn_str : ("str" : Str) ≠ "__name__" := by decide +kernel
theorem nd_len : (("len" : Str) == ("__debug__" : Str)) = false := by decide +kernel
theorem nc_len : (("len" : Str) == ("__classdict__" : Str)) = false := by decide +kernel
theorem nn_len : ("len" : Str) ≠ "__name__" := by decide +kernel
theorem nd_all : (("all" : Str) == ("__debug__" : Str)) = false := by decide +kernel
theorem nc_all : (("all" : Str) == ("__classdict__" : Str)) = false := by decide +kernel
theorem nn_all : ("all" : Str) ≠ "__name__" := by decide +kernel
theorem nd_is_name : (("is_name" : Str) == ("__debug__" : Str)) = false := by decide +kernel
theorem nc_is_name : (("is_name" : Str) == ("__classdict__" : Str)) = false := by decide +kernel
theorem nn_is_name : ("is_name" : Str) ≠ "__name__" := by decide +kernel
theorem nd_check_name : (("check_name" : Str) == ("__debug__" : Str)) = false := by decide +kernel
theorem nc_check_name : (("check_name" : Str) == ("__classdict__" : Str)) = false := by decide +kernel
theorem nn_check_name : ("check_name" : Str) ≠ "__name__" := by decide +kernel
theorem nd_key : (("key" : Str) == ("__debug__" : Str)) = false := by decide +kernel
theorem nc_key : (("key" : Str) == ("__classdict__" : Str)) = false := by decide +kernel
theorem nn_key : ("key" : Str) ≠ "__name__" := by decide +kernel
theorem nd_starts_at : (("starts_at" : Str) == ("__debug__" : Str)) = false := by decide +kernel
theorem nc_starts_at : (("starts_at" : Str) == ("__classdict__" : Str)) = false := by decide +kernel
theorem nn_starts_at : ("starts_at" : Str) ≠ "__name__" := by decide +kernel
theorem nd_stops_at : (("stops_at" : Str) == ("__debug__" : Str)) = false := by decide +kernel
theorem nc_stops_at : (("stops_at" : Str) == ("__classdict__" : Str)) = false := by decide +kernel
theorem nn_stops_at : ("stops_at" : Str) ≠ "__name__" := by decide +kernel
theorem nd_keys : (("keys" : Str) == ("__debug__" : Str)) = false := by decide +kernel
theorem nc_keys : (("keys" : Str) == ("__classdict__" : Str)) = false := by decide +kernel
theorem nn_keys : ("keys" : Str) ≠ "__name__" := by decide +kernel
theorem nd_arcs : (("arcs" : Str) == ("__debug__" : Str)) = false := by decide +kernel
theorem nc_arcs : (("arcs" : Str) == ("__classdict__" : Str)) = false := by decide +kernel
theorem nn_arcs : ("arcs" : Str) ≠ "__name__" := by decide +kernel
theorem nd_houses : (("houses" : Str) == ("__debug__" : Str)) = false := by decide +kernel
theorem nc_houses : (("houses" : Str) == ("__classdict__" : Str)) = false := by decide +kernel
theorem nn_houses : ("houses" : Str) ≠ "__name__" := by decide +kernel
theorem nd_is_tour : (("is_tour" : Str) == ("__debug__" : Str)) = false := by decide +kernel
theorem nc_is_tour : (("is_tour" : Str) == ("__classdict__" : Str)) = false := by decide +kernel
theorem nn_is_tour : ("is_tour" : Str) ≠ "__name__" := by decide +kernel
theorem nd_is_house_key : (("is_house_key" : Str) == ("__debug__" : Str)) = false := by decide +kernel
theorem nc_is_house_key : (("is_house_key" : Str) == ("__classdict__" : Str)) = false := by decide +kernel
theorem nn_is_house_key : ("is_house_key" : Str) ≠ "__name__" := by decide +kernel
theorem nd_is_arc_key : (("is_arc_key" : Str) == ("__debug__" : Str)) = false := by decide +kernel
theorem nc_is_arc_key : (("is_arc_key" : Str) == ("__classdict__" : Str)) = false := by decide +kernel
theorem nn_is_arc_key : ("is_arc_key" : Str) ≠ "__name__" := by decide +kernel
theorem nd_is_paired : (("is_paired" : Str) == ("__debug__" : Str)) = false := by decide +kernel
theorem nc_is_paired : (("is_paired" : Str) == ("__classdict__" : Str)) = false := by decide +kernel
theorem nn_is_paired : ("is_paired" : Str) ≠ "__name__" := by decide +kernel
theorem nd_is_round : (("is_round" : Str) == ("__debug__" : Str)) = false := by decide +kernel
theorem nc_is_round : (("is_round" : Str) == ("__classdict__" : Str)) = false := by decide +kernel
theorem nn_is_round : ("is_round" : Str) ≠ "__name__" := by decide +kernel
theorem nd_ways : (("ways" : Str) == ("__debug__" : Str)) = false := by decide +kernel
theorem nc_ways : (("ways" : Str) == ("__classdict__" : Str)) = false := by decide +kernel
theorem nn_ways : ("ways" : Str) ≠ "__name__" := by decide +kernel
theorem nd__ : (("_" : Str) == ("__debug__" : Str)) = false := by decide +kernel
theorem nc__ : (("_" : Str) == ("__classdict__" : Str)) = false := by decide +kernel
theorem nn__ : ("_" : Str) ≠ "__name__" := by decide +kernel
theorem nd_line : (("line" : Str) == ("__debug__" : Str)) = false := by decide +kernel
theorem nc_line : (("line" : Str) == ("__classdict__" : Str)) = false := by decide +kernel
theorem nn_line : ("line" : Str) ≠ "__name__" := by decide +kernel
theorem nd_start : (("start" : Str) == ("__debug__" : Str)) = false := by decide +kernel
theorem nc_start : (("start" : Str) == ("__classdict__" : Str)) = false := by decide +kernel
theorem nn_start : ("start" : Str) ≠ "__name__" := by decide +kernel
theorem nd_stop : (("stop" : Str) == ("__debug__" : Str)) = false := by decide +kernel
theorem nc_stop : (("stop" : Str) == ("__classdict__" : Str)) = false := by decide +kernel
theorem nn_stop : ("stop" : Str) ≠ "__name__" := by decide +kernel
theorem nd_pair : (("pair" : Str) == ("__debug__" : Str)) = false := by decide +kernel
theorem nc_pair : (("pair" : Str) == ("__classdict__" : Str)) = false := by decide +kernel
theorem nn_pair : ("pair" : Str) ≠ "__name__" := by decide +kernel
theorem nd_at : (("at" : Str) == ("__debug__" : Str)) = false := by decide +kernel
theorem nc_at : (("at" : Str) == ("__classdict__" : Str)) = false := by decide +kernel
theorem nn_at : ("at" : Str) ≠ "__name__" := by decide +kernel
theorem nd_enumerate : (("enumerate" : Str) == ("__debug__" : Str)) = false := by decide +kernel
theorem nc_enumerate : (("enumerate" : Str) == ("__classdict__" : Str)) = false := by decide +kernel
theorem nn_enumerate : ("enumerate" : Str) ≠ "__name__" := by decide +kernel
theorem nd_places : (("places" : Str) == ("__debug__" : Str)) = false := by decide +kernel
theorem nc_places : (("places" : Str) == ("__classdict__" : Str)) = false := by decide +kernel
theorem nn_places : ("places" : Str) ≠ "__name__" := by decide +kernel
theorem nd_first : (("first" : Str) == ("__debug__" : Str)) = false := by decide +kernel
theorem nc_first : (("first" : Str) == ("__classdict__" : Str)) = false := by decide +kernel
theorem nn_first : ("first" : Str) ≠ "__name__" := by decide +kernel
theorem nd_second : (("second" : Str) == ("__debug__" : Str)) = false := by decide +kernel
theorem nc_second : (("second" : Str) == ("__classdict__" : Str)) = false := by decide +kernel
theorem nn_second : ("second" : Str) ≠ "__name__" := by decide +kernel
theorem nd_list : (("list" : Str) == ("__debug__" : Str)) = false := by decide +kernel
theorem nc_list : (("list" : Str) == ("__classdict__" : Str)) = false := by decide +kernel
theorem nn_list : ("list" : Str) ≠ "__name__" := by decide +kernel
theorem nd_parted : (("parted" : Str) == ("__debug__" : Str)) = false := by decide +kernel
theorem nc_parted : (("parted" : Str) == ("__classdict__" : Str)) = false := by decide +kernel
theorem nn_parted : ("parted" : Str) ≠ "__name__" := by decide +kernel
theorem nd_sorted : (("sorted" : Str) == ("__debug__" : Str)) = false := by decide +kernel
theorem nc_sorted : (("sorted" : Str) == ("__classdict__" : Str)) = false := by decide +kernel
theorem nn_sorted : ("sorted" : Str) ≠ "__name__" := by decide +kernel
theorem nd_tour_houses : (("tour_houses" : Str) == ("__debug__" : Str)) = false := by decide +kernel
theorem nc_tour_houses : (("tour_houses" : Str) == ("__classdict__" : Str)) = false := by decide +kernel
theorem nn_tour_houses : ("tour_houses" : Str) ≠ "__name__" := by decide +kernel
theorem nd_tour_lines : (("tour_lines" : Str) == ("__debug__" : Str)) = false := by decide +kernel
theorem nc_tour_lines : (("tour_lines" : Str) == ("__classdict__" : Str)) = false := by decide +kernel
theorem nn_tour_lines : ("tour_lines" : Str) ≠ "__name__" := by decide +kernel
theorem nd_script : (("script" : Str) == ("__debug__" : Str)) = false := by decide +kernel
theorem nc_script : (("script" : Str) == ("__classdict__" : Str)) = false := by decide +kernel
theorem nn_script : ("script" : Str) ≠ "__name__" := by decide +kernel
theorem nd_cells : (("cells" : Str) == ("__debug__" : Str)) = false := by decide +kernel
theorem nc_cells : (("cells" : Str) == ("__classdict__" : Str)) = false := by decide +kernel
theorem nn_cells : ("cells" : Str) ≠ "__name__" := by decide +kernel
theorem nd_state : (("state" : Str) == ("__debug__" : Str)) = false := by decide +kernel
theorem nc_state : (("state" : Str) == ("__classdict__" : Str)) = false := by decide +kernel
theorem nn_state : ("state" : Str) ≠ "__name__" := by decide +kernel
theorem nd_cell : (("cell" : Str) == ("__debug__" : Str)) = false := by decide +kernel
theorem nc_cell : (("cell" : Str) == ("__classdict__" : Str)) = false := by decide +kernel
theorem nn_cell : ("cell" : Str) ≠ "__name__" := by decide +kernel
theorem nd_int : (("int" : Str) == ("__debug__" : Str)) = false := by decide +kernel
theorem nc_int : (("int" : Str) == ("__classdict__" : Str)) = false := by decide +kernel
theorem nn_int : ("int" : Str) ≠ "__name__" := by decide +kernel
theorem nd__law_store : (("_law_store" : Str) == ("__debug__" : Str)) = false := by decide +kernel
theorem nc__law_store : (("_law_store" : Str) == ("__classdict__" : Str)) = false := by decide +kernel
theorem nn__law_store : ("_law_store" : Str) ≠ "__name__" := by decide +kernel
theorem nd_store : (("store" : Str) == ("__debug__" : Str)) = false := by decide +kernel
theorem nc_store : (("store" : Str) == ("__classdict__" : Str)) = false := by decide +kernel
theorem nn_store : ("store" : Str) ≠ "__name__" := by decide +kernel
theorem nd_many : (("many" : Str) == ("__debug__" : Str)) = false := by decide +kernel
theorem nc_many : (("many" : Str) == ("__classdict__" : Str)) = false := by decide +kernel
theorem nn_many : ("many" : Str) ≠ "__name__" := by decide +kernel
theorem nd_digits : (("digits" : Str) == ("__debug__" : Str)) = false := by decide +kernel
theorem nc_digits : (("digits" : Str) == ("__classdict__" : Str)) = false := by decide +kernel
theorem nn_digits : ("digits" : Str) ≠ "__name__" := by decide +kernel
theorem nd_tick : (("tick" : Str) == ("__debug__" : Str)) = false := by decide +kernel
theorem nc_tick : (("tick" : Str) == ("__classdict__" : Str)) = false := by decide +kernel
theorem nn_tick : ("tick" : Str) ≠ "__name__" := by decide +kernel
theorem nd_place : (("place" : Str) == ("__debug__" : Str)) = false := by decide +kernel
theorem nc_place : (("place" : Str) == ("__classdict__" : Str)) = false := by decide +kernel
theorem nn_place : ("place" : Str) ≠ "__name__" := by decide +kernel
theorem nd_mixed : (("mixed" : Str) == ("__debug__" : Str)) = false := by decide +kernel
theorem nc_mixed : (("mixed" : Str) == ("__classdict__" : Str)) = false := by decide +kernel
theorem nn_mixed : ("mixed" : Str) ≠ "__name__" := by decide +kernel
theorem nd__law_take : (("_law_take" : Str) == ("__debug__" : Str)) = false := by decide +kernel
theorem nc__law_take : (("_law_take" : Str) == ("__classdict__" : Str)) = false := by decide +kernel
theorem nn__law_take : ("_law_take" : Str) ≠ "__name__" := by decide +kernel
theorem nd_least : (("least" : Str) == ("__debug__" : Str)) = false := by decide +kernel
theorem nc_least : (("least" : Str) == ("__classdict__" : Str)) = false := by decide +kernel
theorem nn_least : ("least" : Str) ≠ "__name__" := by decide +kernel
theorem nd_most : (("most" : Str) == ("__debug__" : Str)) = false := by decide +kernel
theorem nc_most : (("most" : Str) == ("__classdict__" : Str)) = false := by decide +kernel
theorem nn_most : ("most" : Str) ≠ "__name__" := by decide +kernel
theorem nd_edge : (("edge" : Str) == ("__debug__" : Str)) = false := by decide +kernel
theorem nc_edge : (("edge" : Str) == ("__classdict__" : Str)) = false := by decide +kernel
theorem nn_edge : ("edge" : Str) ≠ "__name__" := by decide +kernel
theorem nd__law_between : (("_law_between" : Str) == ("__debug__" : Str)) = false := by decide +kernel
theorem nc__law_between : (("_law_between" : Str) == ("__classdict__" : Str)) = false := by decide +kernel
theorem nn__law_between : ("_law_between" : Str) ≠ "__name__" := by decide +kernel
theorem nd_items : (("items" : Str) == ("__debug__" : Str)) = false := by decide +kernel
theorem nc_items : (("items" : Str) == ("__classdict__" : Str)) = false := by decide +kernel
theorem nn_items : ("items" : Str) ≠ "__name__" := by decide +kernel
theorem nd__law_pick : (("_law_pick" : Str) == ("__debug__" : Str)) = false := by decide +kernel
theorem nc__law_pick : (("_law_pick" : Str) == ("__classdict__" : Str)) = false := by decide +kernel
theorem nn__law_pick : ("_law_pick" : Str) ≠ "__name__" := by decide +kernel
theorem nd_row : (("row" : Str) == ("__debug__" : Str)) = false := by decide +kernel
theorem nc_row : (("row" : Str) == ("__classdict__" : Str)) = false := by decide +kernel
theorem nn_row : ("row" : Str) ≠ "__name__" := by decide +kernel
theorem nd_style : (("style" : Str) == ("__debug__" : Str)) = false := by decide +kernel
theorem nc_style : (("style" : Str) == ("__classdict__" : Str)) = false := by decide +kernel
theorem nn_style : ("style" : Str) ≠ "__name__" := by decide +kernel
theorem nd_k : (("k" : Str) == ("__debug__" : Str)) = false := by decide +kernel
theorem nc_k : (("k" : Str) == ("__classdict__" : Str)) = false := by decide +kernel
theorem nn_k : ("k" : Str) ≠ "__name__" := by decide +kernel
theorem nd_kept : (("kept" : Str) == ("__debug__" : Str)) = false := by decide +kernel
theorem nc_kept : (("kept" : Str) == ("__classdict__" : Str)) = false := by decide +kernel
theorem nn_kept : ("kept" : Str) ≠ "__name__" := by decide +kernel
theorem nd_reversed : (("reversed" : Str) == ("__debug__" : Str)) = false := by decide +kernel
theorem nc_reversed : (("reversed" : Str) == ("__classdict__" : Str)) = false := by decide +kernel
theorem nn_reversed : ("reversed" : Str) ≠ "__name__" := by decide +kernel
theorem nd_range : (("range" : Str) == ("__debug__" : Str)) = false := by decide +kernel
theorem nc_range : (("range" : Str) == ("__classdict__" : Str)) = false := by decide +kernel
theorem nn_range : ("range" : Str) ≠ "__name__" := by decide +kernel
theorem nd__law_shuffled : (("_law_shuffled" : Str) == ("__debug__" : Str)) = false := by decide +kernel
theorem nc__law_shuffled : (("_law_shuffled" : Str) == ("__classdict__" : Str)) = false := by decide +kernel
theorem nn__law_shuffled : ("_law_shuffled" : Str) ≠ "__name__" := by decide +kernel
theorem nd_value : (("value" : Str) == ("__debug__" : Str)) = false := by decide +kernel
theorem nc_value : (("value" : Str) == ("__classdict__" : Str)) = false := by decide +kernel
theorem nn_value : ("value" : Str) ≠ "__name__" := by decide +kernel
theorem nd_bool : (("bool" : Str) == ("__debug__" : Str)) = false := by decide +kernel
theorem nc_bool : (("bool" : Str) == ("__classdict__" : Str)) = false := by decide +kernel
theorem nn_bool : ("bool" : Str) ≠ "__name__" := by decide +kernel
theorem nd__law_is_integer : (("_law_is_integer" : Str) == ("__debug__" : Str)) = false := by decide +kernel
theorem nc__law_is_integer : (("_law_is_integer" : Str) == ("__classdict__" : Str)) = false := by decide +kernel
theorem nn__law_is_integer : ("_law_is_integer" : Str) ≠ "__name__" := by decide +kernel
theorem nd_one : (("one" : Str) == ("__debug__" : Str)) = false := by decide +kernel
theorem nc_one : (("one" : Str) == ("__classdict__" : Str)) = false := by decide +kernel
theorem nn_one : ("one" : Str) ≠ "__name__" := by decide +kernel
theorem nd_two : (("two" : Str) == ("__debug__" : Str)) = false := by decide +kernel
theorem nc_two : (("two" : Str) == ("__classdict__" : Str)) = false := by decide +kernel
theorem nn_two : ("two" : Str) ≠ "__name__" := by decide +kernel
theorem nd_lists : (("lists" : Str) == ("__debug__" : Str)) = false := by decide +kernel
theorem nc_lists : (("lists" : Str) == ("__classdict__" : Str)) = false := by decide +kernel
theorem nn_lists : ("lists" : Str) ≠ "__name__" := by decide +kernel
theorem nd_dict : (("dict" : Str) == ("__debug__" : Str)) = false := by decide +kernel
theorem nc_dict : (("dict" : Str) == ("__classdict__" : Str)) = false := by decide +kernel
theorem nn_dict : ("dict" : Str) ≠ "__name__" := by decide +kernel
theorem nd_tuple : (("tuple" : Str) == ("__debug__" : Str)) = false := by decide +kernel
theorem nc_tuple : (("tuple" : Str) == ("__classdict__" : Str)) = false := by decide +kernel
theorem nn_tuple : ("tuple" : Str) ≠ "__name__" := by decide +kernel
theorem nd__law_same : (("_law_same" : Str) == ("__debug__" : Str)) = false := by decide +kernel
theorem nc__law_same : (("_law_same" : Str) == ("__classdict__" : Str)) = false := by decide +kernel
theorem nn__law_same : ("_law_same" : Str) ≠ "__name__" := by decide +kernel
theorem nd_sign : (("sign" : Str) == ("__debug__" : Str)) = false := by decide +kernel
theorem nc_sign : (("sign" : Str) == ("__classdict__" : Str)) = false := by decide +kernel
theorem nn_sign : ("sign" : Str) ≠ "__name__" := by decide +kernel
theorem nd__law_is_name : (("_law_is_name" : Str) == ("__debug__" : Str)) = false := by decide +kernel
theorem nc__law_is_name : (("_law_is_name" : Str) == ("__classdict__" : Str)) = false := by decide +kernel
theorem nn__law_is_name : ("_law_is_name" : Str) ≠ "__name__" := by decide +kernel
theorem nd_size : (("size" : Str) == ("__debug__" : Str)) = false := by decide +kernel
theorem nc_size : (("size" : Str) == ("__classdict__" : Str)) = false := by decide +kernel
theorem nn_size : ("size" : Str) ≠ "__name__" := by decide +kernel
theorem nd_alike : (("alike" : Str) == ("__debug__" : Str)) = false := by decide +kernel
theorem nc_alike : (("alike" : Str) == ("__classdict__" : Str)) = false := by decide +kernel
theorem nn_alike : ("alike" : Str) ≠ "__name__" := by decide +kernel
theorem nd__law_name : (("_law_name" : Str) == ("__debug__" : Str)) = false := by decide +kernel
theorem nc__law_name : (("_law_name" : Str) == ("__classdict__" : Str)) = false := by decide +kernel
theorem nn__law_name : ("_law_name" : Str) ≠ "__name__" := by decide +kernel
theorem nd_letters : (("letters" : Str) == ("__debug__" : Str)) = false := by decide +kernel
theorem nc_letters : (("letters" : Str) == ("__classdict__" : Str)) = false := by decide +kernel
theorem nn_letters : ("letters" : Str) ≠ "__name__" := by decide +kernel
theorem nd_signs : (("signs" : Str) == ("__debug__" : Str)) = false := by decide +kernel
theorem nc_signs : (("signs" : Str) == ("__classdict__" : Str)) = false := by decide +kernel
theorem nn_signs : ("signs" : Str) ≠ "__name__" := by decide +kernel
theorem nd_names : (("names" : Str) == ("__debug__" : Str)) = false := by decide +kernel
theorem nc_names : (("names" : Str) == ("__classdict__" : Str)) = false := by decide +kernel
theorem nn_names : ("names" : Str) ≠ "__name__" := by decide +kernel
theorem nd_ahead : (("ahead" : Str) == ("__debug__" : Str)) = false := by decide +kernel
theorem nc_ahead : (("ahead" : Str) == ("__classdict__" : Str)) = false := by decide +kernel
theorem nn_ahead : ("ahead" : Str) ≠ "__name__" := by decide +kernel
theorem nd_tail : (("tail" : Str) == ("__debug__" : Str)) = false := by decide +kernel
theorem nc_tail : (("tail" : Str) == ("__classdict__" : Str)) = false := by decide +kernel
theorem nn_tail : ("tail" : Str) ≠ "__name__" := by decide +kernel
theorem nd_step : (("step" : Str) == ("__debug__" : Str)) = false := by decide +kernel
theorem nc_step : (("step" : Str) == ("__classdict__" : Str)) = false := by decide +kernel
theorem nn_step : ("step" : Str) ≠ "__name__" := by decide +kernel
theorem nd_code : (("code" : Str) == ("__debug__" : Str)) = false := by decide +kernel
theorem nc_code : (("code" : Str) == ("__classdict__" : Str)) = false := by decide +kernel
theorem nn_code : ("code" : Str) ≠ "__name__" := by decide +kernel
theorem nd__law_names : (("_law_names" : Str) == ("__debug__" : Str)) = false := by decide +kernel
theorem nc__law_names : (("_law_names" : Str) == ("__classdict__" : Str)) = false := by decide +kernel
theorem nn__law_names : ("_law_names" : Str) ≠ "__name__" := by decide +kernel
theorem nd_odd : (("odd" : Str) == ("__debug__" : Str)) = false := by decide +kernel
theorem nc_odd : (("odd" : Str) == ("__classdict__" : Str)) = false := by decide +kernel
theorem nn_odd : ("odd" : Str) ≠ "__name__" := by decide +kernel
theorem nd__law_bad_word : (("_law_bad_word" : Str) == ("__debug__" : Str)) = false := by decide +kernel
theorem nc__law_bad_word : (("_law_bad_word" : Str) == ("__classdict__" : Str)) = false := by decide +kernel
theorem nn__law_bad_word : ("_law_bad_word" : Str) ≠ "__name__" := by decide +kernel
theorem nd__law_not_name : (("_law_not_name" : Str) == ("__debug__" : Str)) = false := by decide +kernel
theorem nc__law_not_name : (("_law_not_name" : Str) == ("__classdict__" : Str)) = false := by decide +kernel
theorem nn__law_not_name : ("_law_not_name" : Str) ≠ "__name__" := by decide +kernel
theorem nd_name : (("name" : Str) == ("__debug__" : Str)) = false := by decide +kernel
theorem nc_name : (("name" : Str) == ("__classdict__" : Str)) = false := by decide +kernel
theorem nn_name : ("name" : Str) ≠ "__name__" := by decide +kernel
theorem nd__law_line_names : (("_law_line_names" : Str) == ("__debug__" : Str)) = false := by decide +kernel
theorem nc__law_line_names : (("_law_line_names" : Str) == ("__classdict__" : Str)) = false := by decide +kernel
theorem nn__law_line_names : ("_law_line_names" : Str) ≠ "__name__" := by decide +kernel
theorem nd_house : (("house" : Str) == ("__debug__" : Str)) = false := by decide +kernel
theorem nc_house : (("house" : Str) == ("__classdict__" : Str)) = false := by decide +kernel
theorem nn_house : ("house" : Str) ≠ "__name__" := by decide +kernel
theorem nd__law_turned : (("_law_turned" : Str) == ("__debug__" : Str)) = false := by decide +kernel
theorem nc__law_turned : (("_law_turned" : Str) == ("__classdict__" : Str)) = false := by decide +kernel
theorem nn__law_turned : ("_law_turned" : Str) ≠ "__name__" := by decide +kernel
theorem nd_a : (("a" : Str) == ("__debug__" : Str)) = false := by decide +kernel
theorem nc_a : (("a" : Str) == ("__classdict__" : Str)) = false := by decide +kernel
theorem nn_a : ("a" : Str) ≠ "__name__" := by decide +kernel
theorem nd_b : (("b" : Str) == ("__debug__" : Str)) = false := by decide +kernel
theorem nc_b : (("b" : Str) == ("__classdict__" : Str)) = false := by decide +kernel
theorem nn_b : ("b" : Str) ≠ "__name__" := by decide +kernel
theorem nd_there : (("there" : Str) == ("__debug__" : Str)) = false := by decide +kernel
theorem nc_there : (("there" : Str) == ("__classdict__" : Str)) = false := by decide +kernel
theorem nn_there : ("there" : Str) ≠ "__name__" := by decide +kernel
theorem nd__law_linked : (("_law_linked" : Str) == ("__debug__" : Str)) = false := by decide +kernel
theorem nc__law_linked : (("_law_linked" : Str) == ("__classdict__" : Str)) = false := by decide +kernel
theorem nn__law_linked : ("_law_linked" : Str) ≠ "__name__" := by decide +kernel
theorem nd_other : (("other" : Str) == ("__debug__" : Str)) = false := by decide +kernel
theorem nc_other : (("other" : Str) == ("__classdict__" : Str)) = false := by decide +kernel
theorem nn_other : ("other" : Str) ≠ "__name__" := by decide +kernel
theorem nd_single : (("single" : Str) == ("__debug__" : Str)) = false := by decide +kernel
theorem nc_single : (("single" : Str) == ("__classdict__" : Str)) = false := by decide +kernel
theorem nn_single : ("single" : Str) ≠ "__name__" := by decide +kernel
theorem nd__law_tour : (("_law_tour" : Str) == ("__debug__" : Str)) = false := by decide +kernel
theorem nc__law_tour : (("_law_tour" : Str) == ("__classdict__" : Str)) = false := by decide +kernel
theorem nn__law_tour : ("_law_tour" : Str) ≠ "__name__" := by decide +kernel
theorem nd__law_tour_houses : (("_law_tour_houses" : Str) == ("__debug__" : Str)) = false := by decide +kernel
theorem nc__law_tour_houses : (("_law_tour_houses" : Str) == ("__classdict__" : Str)) = false := by decide +kernel
theorem nn__law_tour_houses : ("_law_tour_houses" : Str) ≠ "__name__" := by decide +kernel
theorem nd__law_tour_lines : (("_law_tour_lines" : Str) == ("__debug__" : Str)) = false := by decide +kernel
theorem nc__law_tour_lines : (("_law_tour_lines" : Str) == ("__classdict__" : Str)) = false := by decide +kernel
theorem nn__law_tour_lines : ("_law_tour_lines" : Str) ≠ "__name__" := by decide +kernel
theorem nd__law_is_tour : (("_law_is_tour" : Str) == ("__debug__" : Str)) = false := by decide +kernel
theorem nc__law_is_tour : (("_law_is_tour" : Str) == ("__classdict__" : Str)) = false := by decide +kernel
theorem nn__law_is_tour : ("_law_is_tour" : Str) ≠ "__name__" := by decide +kernel
theorem nd_error : (("error" : Str) == ("__debug__" : Str)) = false := by decide +kernel
theorem nc_error : (("error" : Str) == ("__classdict__" : Str)) = false := by decide +kernel
theorem nn_error : ("error" : Str) ≠ "__name__" := by decide +kernel
theorem nd_kinds : (("kinds" : Str) == ("__debug__" : Str)) = false := by decide +kernel
theorem nc_kinds : (("kinds" : Str) == ("__classdict__" : Str)) = false := by decide +kernel
theorem nn_kinds : ("kinds" : Str) ≠ "__name__" := by decide +kernel
theorem nd_ValueError : (("ValueError" : Str) == ("__debug__" : Str)) = false := by decide +kernel
theorem nc_ValueError : (("ValueError" : Str) == ("__classdict__" : Str)) = false := by decide +kernel
theorem nn_ValueError : ("ValueError" : Str) ≠ "__name__" := by decide +kernel
theorem nd__law_refused_as : (("_law_refused_as" : Str) == ("__debug__" : Str)) = false := by decide +kernel
theorem nc__law_refused_as : (("_law_refused_as" : Str) == ("__classdict__" : Str)) = false := by decide +kernel
theorem nn__law_refused_as : ("_law_refused_as" : Str) ≠ "__name__" := by decide +kernel
theorem nd_outer : (("outer" : Str) == ("__debug__" : Str)) = false := by decide +kernel
theorem nc_outer : (("outer" : Str) == ("__classdict__" : Str)) = false := by decide +kernel
theorem nn_outer : ("outer" : Str) ≠ "__name__" := by decide +kernel
theorem nd_inner : (("inner" : Str) == ("__debug__" : Str)) = false := by decide +kernel
theorem nc_inner : (("inner" : Str) == ("__classdict__" : Str)) = false := by decide +kernel
theorem nn_inner : ("inner" : Str) ≠ "__name__" := by decide +kernel
theorem nd_met : (("met" : Str) == ("__debug__" : Str)) = false := by decide +kernel
theorem nc_met : (("met" : Str) == ("__classdict__" : Str)) = false := by decide +kernel
theorem nn_met : ("met" : Str) ≠ "__name__" := by decide +kernel
theorem nd__law_both : (("_law_both" : Str) == ("__debug__" : Str)) = false := by decide +kernel
theorem nc__law_both : (("_law_both" : Str) == ("__classdict__" : Str)) = false := by decide +kernel
theorem nn__law_both : ("_law_both" : Str) ≠ "__name__" := by decide +kernel
theorem nd_e : (("e" : Str) == ("__debug__" : Str)) = false := by decide +kernel
theorem nc_e : (("e" : Str) == ("__classdict__" : Str)) = false := by decide +kernel
theorem nn_e : ("e" : Str) ≠ "__name__" := by decide +kernel
theorem nd__law_part_told : (("_law_part_told" : Str) == ("__debug__" : Str)) = false := by decide +kernel
theorem nc__law_part_told : (("_law_part_told" : Str) == ("__classdict__" : Str)) = false := by decide +kernel
theorem nn__law_part_told : ("_law_part_told" : Str) ≠ "__name__" := by decide +kernel
theorem nd_max : (("max" : Str) == ("__debug__" : Str)) = false := by decide +kernel
theorem nc_max : (("max" : Str) == ("__classdict__" : Str)) = false := by decide +kernel
theorem nn_max : ("max" : Str) ≠ "__name__" := by decide +kernel
theorem nd__law_wrong_line : (("_law_wrong_line" : Str) == ("__debug__" : Str)) = false := by decide +kernel
theorem nc__law_wrong_line : (("_law_wrong_line" : Str) == ("__classdict__" : Str)) = false := by decide +kernel
theorem nn__law_wrong_line : ("_law_wrong_line" : Str) ≠ "__name__" := by decide +kernel
theorem nd_handed : (("handed" : Str) == ("__debug__" : Str)) = false := by decide +kernel
theorem nc_handed : (("handed" : Str) == ("__classdict__" : Str)) = false := by decide +kernel
theorem nn_handed : ("handed" : Str) ≠ "__name__" := by decide +kernel
theorem nd_told : (("told" : Str) == ("__debug__" : Str)) = false := by decide +kernel
theorem nc_told : (("told" : Str) == ("__classdict__" : Str)) = false := by decide +kernel
theorem nn_told : ("told" : Str) ≠ "__name__" := by decide +kernel
theorem nd__law_refused : (("_law_refused" : Str) == ("__debug__" : Str)) = false := by decide +kernel
theorem nc__law_refused : (("_law_refused" : Str) == ("__classdict__" : Str)) = false := by decide +kernel
theorem nn__law_refused : ("_law_refused" : Str) ≠ "__name__" := by decide +kernel
theorem nd_ends : (("ends" : Str) == ("__debug__" : Str)) = false := by decide +kernel
theorem nc_ends : (("ends" : Str) == ("__classdict__" : Str)) = false := by decide +kernel
theorem nn_ends : ("ends" : Str) ≠ "__name__" := by decide +kernel
theorem nd_sides : (("sides" : Str) == ("__debug__" : Str)) = false := by decide +kernel
theorem nc_sides : (("sides" : Str) == ("__classdict__" : Str)) = false := by decide +kernel
theorem nn_sides : ("sides" : Str) ≠ "__name__" := by decide +kernel
theorem nd_end : (("end" : Str) == ("__debug__" : Str)) = false := by decide +kernel
theorem nc_end : (("end" : Str) == ("__classdict__" : Str)) = false := by decide +kernel
theorem nn_end : ("end" : Str) ≠ "__name__" := by decide +kernel
theorem nd__law_walked : (("_law_walked" : Str) == ("__debug__" : Str)) = false := by decide +kernel
theorem nc__law_walked : (("_law_walked" : Str) == ("__classdict__" : Str)) = false := by decide +kernel
theorem nn__law_walked : ("_law_walked" : Str) ≠ "__name__" := by decide +kernel
theorem nd_due : (("due" : Str) == ("__debug__" : Str)) = false := by decide +kernel
theorem nc_due : (("due" : Str) == ("__classdict__" : Str)) = false := by decide +kernel
theorem nn_due : ("due" : Str) ≠ "__name__" := by decide +kernel
theorem nd__law_parts_in_two : (("_law_parts_in_two" : Str) == ("__debug__" : Str)) = false := by decide +kernel
theorem nc__law_parts_in_two : (("_law_parts_in_two" : Str) == ("__classdict__" : Str)) = false := by decide +kernel
theorem nn__law_parts_in_two : ("_law_parts_in_two" : Str) ≠ "__name__" := by decide +kernel
theorem nd_tours : (("tours" : Str) == ("__debug__" : Str)) = false := by decide +kernel
theorem nc_tours : (("tours" : Str) == ("__classdict__" : Str)) = false := by decide +kernel
theorem nn_tours : ("tours" : Str) ≠ "__name__" := by decide +kernel
theorem nd_others : (("others" : Str) == ("__debug__" : Str)) = false := by decide +kernel
theorem nc_others : (("others" : Str) == ("__classdict__" : Str)) = false := by decide +kernel
theorem nn_others : ("others" : Str) ≠ "__name__" := by decide +kernel
theorem nd_law : (("law" : Str) == ("__debug__" : Str)) = false := by decide +kernel
theorem nc_law : (("law" : Str) == ("__classdict__" : Str)) = false := by decide +kernel
theorem nn_law : ("law" : Str) ≠ "__name__" := by decide +kernel
abbrev s_is_name : Stmt := topS 13
abbrev N_is_name : List Str := ["word", "c"]
abbrev P_is_name : List Str := ["word"]
theorem sc_is_name : FnScope N_is_name P_is_name (defScope s_is_name) := ⟨rfl, rfl, rfl, by decide +kernel, rfl, by decide +kernel, by decide +kernel⟩
abbrev s_check_name : Stmt := topS 14
abbrev N_check_name : List Str := ["word"]
abbrev P_check_name : List Str := ["word"]
theorem sc_check_name : FnScope N_check_name P_check_name (defScope s_check_name) := ⟨rfl, rfl, rfl, by decide +kernel, rfl, by decide +kernel, by decide +kernel⟩
abbrev s_starts_at : Stmt := topS 16
abbrev N_starts_at : List Str := ["key"]
abbrev P_starts_at : List Str := ["key"]
theorem sc_starts_at : FnScope N_starts_at P_starts_at (defScope s_starts_at) := ⟨rfl, rfl, rfl, by decide +kernel, rfl, by decide +kernel, by decide +kernel⟩
abbrev s_stops_at : Stmt := topS 17
abbrev N_stops_at : List Str := ["key"]
abbrev P_stops_at : List Str := ["key"]
theorem sc_stops_at : FnScope N_stops_at P_stops_at (defScope s_stops_at) := ⟨rfl, rfl, rfl, by decide +kernel, rfl, by decide +kernel, by decide +kernel⟩
abbrev s_is_tour : Stmt := topS 18
abbrev N_is_tour : List Str := ["keys", "arcs", "houses", "key"]
abbrev P_is_tour : List Str := ["keys"]
theorem sc_is_tour : FnScope N_is_tour P_is_tour (defScope s_is_tour) := ⟨rfl, rfl, rfl, by decide +kernel, rfl, by decide +kernel, by decide +kernel⟩
abbrev s_is_house_key : Stmt := topS 19
abbrev N_is_house_key : List Str := ["key"]
abbrev P_is_house_key : List Str := ["key"]
theorem sc_is_house_key : FnScope N_is_house_key P_is_house_key (defScope s_is_house_key) := ⟨rfl, rfl, rfl, by decide +kernel, rfl, by decide +kernel, by decide +kernel⟩
abbrev s_is_arc_key : Stmt := topS 20
abbrev N_is_arc_key : List Str := ["key"]
abbrev P_is_arc_key : List Str := ["key"]
theorem sc_is_arc_key : FnScope N_is_arc_key P_is_arc_key (defScope s_is_arc_key) := ⟨rfl, rfl, rfl, by decide +kernel, rfl, by decide +kernel, by decide +kernel⟩
abbrev s_is_paired : Stmt := topS 21
abbrev N_is_paired : List Str := ["arcs", "ways", "_", "line", "start", "stop", "pair"]
abbrev P_is_paired : List Str := ["arcs"]
theorem sc_is_paired : FnScope N_is_paired P_is_paired (defScope s_is_paired) := ⟨rfl, rfl, rfl, by decide +kernel, rfl, by decide +kernel, by decide +kernel⟩
abbrev s_is_round : Stmt := topS 22
abbrev N_is_round : List Str := ["keys", "at", "key"]
abbrev P_is_round : List Str := ["keys"]
theorem sc_is_round : FnScope N_is_round P_is_round (defScope s_is_round) := ⟨rfl, rfl, rfl, by decide +kernel, rfl, by decide +kernel, by decide +kernel⟩
abbrev s_parted : Stmt := topS 23
abbrev N_parted : List Str := ["keys", "line", "places", "first", "second", "at", "key"]
abbrev P_parted : List Str := ["keys", "line"]
theorem sc_parted : FnScope N_parted P_parted (defScope s_parted) := ⟨rfl, rfl, rfl, by decide +kernel, rfl, by decide +kernel, by decide +kernel⟩
abbrev s_tour_houses : Stmt := topS 24
abbrev N_tour_houses : List Str := ["keys", "key"]
abbrev P_tour_houses : List Str := ["keys"]
theorem sc_tour_houses : FnScope N_tour_houses P_tour_houses (defScope s_tour_houses) := ⟨rfl, rfl, rfl, by decide +kernel, rfl, by decide +kernel, by decide +kernel⟩
abbrev s_tour_lines : Stmt := topS 25
abbrev N_tour_lines : List Str := ["keys", "key"]
abbrev P_tour_lines : List Str := ["keys"]
theorem sc_tour_lines : FnScope N_tour_lines P_tour_lines (defScope s_tour_lines) := ⟨rfl, rfl, rfl, by decide +kernel, rfl, by decide +kernel, by decide +kernel⟩
abbrev s__law_store : Stmt := topS 27
abbrev N__law_store : List Str := ["script", "cells", "state", "cell"]
abbrev P__law_store : List Str := ["script"]
theorem sc__law_store : FnScope N__law_store P__law_store (defScope s__law_store) := ⟨rfl, rfl, rfl, by decide +kernel, rfl, by decide +kernel, by decide +kernel⟩
abbrev s__law_take : Stmt := topS 28
abbrev N__law_take : List Str := ["store", "many", "digits", "tick", "cells", "place", "cell", "mixed"]
abbrev P__law_take : List Str := ["store", "many"]
theorem sc__law_take : FnScope N__law_take P__law_take (defScope s__law_take) := ⟨rfl, rfl, rfl, by decide +kernel, rfl, by decide +kernel, by decide +kernel⟩
abbrev s__law_between : Stmt := topS 29
abbrev N__law_between : List Str := ["store", "least", "most", "edge"]
abbrev P__law_between : List Str := ["store", "least", "most"]
theorem sc__law_between : FnScope N__law_between P__law_between (defScope s__law_between) := ⟨rfl, rfl, rfl, by decide +kernel, rfl, by decide +kernel, by decide +kernel⟩
abbrev s__law_pick : Stmt := topS 30
abbrev N__law_pick : List Str := ["store", "items"]
abbrev P__law_pick : List Str := ["store", "items"]
theorem sc__law_pick : FnScope N__law_pick P__law_pick (defScope s__law_pick) := ⟨rfl, rfl, rfl, by decide +kernel, rfl, by decide +kernel, by decide +kernel⟩
abbrev s__law_shuffled : Stmt := topS 31
abbrev N__law_shuffled : List Str := ["store", "items", "row", "style", "k", "at", "kept"]
abbrev P__law_shuffled : List Str := ["store", "items"]
theorem sc__law_shuffled : FnScope N__law_shuffled P__law_shuffled (defScope s__law_shuffled) := ⟨rfl, rfl, rfl, by decide +kernel, rfl, by decide +kernel, by decide +kernel⟩
abbrev s__law_is_integer : Stmt := topS 32
abbrev N__law_is_integer : List Str := ["value"]
abbrev P__law_is_integer : List Str := ["value"]
theorem sc__law_is_integer : FnScope N__law_is_integer P__law_is_integer (defScope s__law_is_integer) := ⟨rfl, rfl, rfl, by decide +kernel, rfl, by decide +kernel, by decide +kernel⟩
abbrev s__law_same : Stmt := topS 33
abbrev N__law_same : List Str := ["one", "two", "key", "lists", "k"]
abbrev P__law_same : List Str := ["one", "two"]
theorem sc__law_same : FnScope N__law_same P__law_same (defScope s__law_same) := ⟨rfl, rfl, rfl, by decide +kernel, rfl, by decide +kernel, by decide +kernel⟩
abbrev s__law_is_name : Stmt := topS 34
abbrev N__law_is_name : List Str := ["word", "sign"]
abbrev P__law_is_name : List Str := ["word"]
theorem sc__law_is_name : FnScope N__law_is_name P__law_is_name (defScope s__law_is_name) := ⟨rfl, rfl, rfl, by decide +kernel, rfl, by decide +kernel, by decide +kernel⟩
abbrev s__law_name : Stmt := topS 35
abbrev N__law_name : List Str := ["store", "size", "word", "alike", "k"]
abbrev P__law_name : List Str := ["store"]
theorem sc__law_name : FnScope N__law_name P__law_name (defScope s__law_name) := ⟨rfl, rfl, rfl, by decide +kernel, rfl, by decide +kernel, by decide +kernel⟩
abbrev s__law_names : Stmt := topS 36
abbrev N__law_names : List Str := ["store", "many", "letters", "signs", "style", "first", "names", "sign", "k", "start", "ahead", "tail", "step", "code"]
abbrev P__law_names : List Str := ["store", "many"]
theorem sc__law_names : FnScope N__law_names P__law_names (defScope s__law_names) := ⟨rfl, rfl, rfl, by decide +kernel, rfl, by decide +kernel, by decide +kernel⟩
abbrev s__law_bad_word : Stmt := topS 37
abbrev N__law_bad_word : List Str := ["store", "word", "odd", "style", "at"]
abbrev P__law_bad_word : List Str := ["store"]
theorem sc__law_bad_word : FnScope N__law_bad_word P__law_bad_word (defScope s__law_bad_word) := ⟨rfl, rfl, rfl, by decide +kernel, rfl, by decide +kernel, by decide +kernel⟩
abbrev s__law_not_name : Stmt := topS 38
abbrev N__law_not_name : List Str := ["store", "word", "odd", "at"]
abbrev P__law_not_name : List Str := ["store"]
theorem sc__law_not_name : FnScope N__law_not_name P__law_not_name (defScope s__law_not_name) := ⟨rfl, rfl, rfl, by decide +kernel, rfl, by decide +kernel, by decide +kernel⟩
abbrev s__law_line_names : Stmt := topS 39
abbrev N__law_line_names : List Str := ["store", "houses", "many", "names", "name"]
abbrev P__law_line_names : List Str := ["store", "houses", "many"]
theorem sc__law_line_names : FnScope N__law_line_names P__law_line_names (defScope s__law_line_names) := ⟨rfl, rfl, rfl, by decide +kernel, rfl, by decide +kernel, by decide +kernel⟩
abbrev s__law_turned : Stmt := topS 40
abbrev N__law_turned : List Str := ["keys", "house", "at"]
abbrev P__law_turned : List Str := ["keys", "house"]
theorem sc__law_turned : FnScope N__law_turned P__law_turned (defScope s__law_turned) := ⟨rfl, rfl, rfl, by decide +kernel, rfl, by decide +kernel, by decide +kernel⟩
abbrev s__law_linked : Stmt := topS 41
abbrev N__law_linked : List Str := ["first", "second", "line", "a", "b", "there"]
abbrev P__law_linked : List Str := ["first", "second", "line", "a", "b"]
theorem sc__law_linked : FnScope N__law_linked P__law_linked (defScope s__law_linked) := ⟨rfl, rfl, rfl, by decide +kernel, rfl, by decide +kernel, by decide +kernel⟩
abbrev s__law_tour : Stmt := topS 42
abbrev N__law_tour : List Str := ["store", "houses", "names", "keys", "k", "other", "single", "at"]
abbrev P__law_tour : List Str := ["store", "houses", "names"]
theorem sc__law_tour : FnScope N__law_tour P__law_tour (defScope s__law_tour) := ⟨rfl, rfl, rfl, by decide +kernel, rfl, by decide +kernel, by decide +kernel⟩
abbrev s__law_tour_houses : Stmt := topS 43
abbrev N__law_tour_houses : List Str := ["keys", "key"]
abbrev P__law_tour_houses : List Str := ["keys"]
theorem sc__law_tour_houses : FnScope N__law_tour_houses P__law_tour_houses (defScope s__law_tour_houses) := ⟨rfl, rfl, rfl, by decide +kernel, rfl, by decide +kernel, by decide +kernel⟩
abbrev s__law_tour_lines : Stmt := topS 44
abbrev N__law_tour_lines : List Str := ["keys", "names", "key"]
abbrev P__law_tour_lines : List Str := ["keys"]
theorem sc__law_tour_lines : FnScope N__law_tour_lines P__law_tour_lines (defScope s__law_tour_lines) := ⟨rfl, rfl, rfl, by decide +kernel, rfl, by decide +kernel, by decide +kernel⟩
abbrev s__law_is_tour : Stmt := topS 45
abbrev N__law_is_tour : List Str := ["keys", "houses", "arcs", "k", "key", "row", "line", "word"]
abbrev P__law_is_tour : List Str := ["keys"]
theorem sc__law_is_tour : FnScope N__law_is_tour P__law_is_tour (defScope s__law_is_tour) := ⟨rfl, rfl, rfl, by decide +kernel, rfl, by decide +kernel, by decide +kernel⟩
abbrev s__law_refused_as : Stmt := topS 46
abbrev N__law_refused_as : List Str := ["error", "code", "kinds", "names", "name"]
abbrev P__law_refused_as : List Str := ["error", "code"]
theorem sc__law_refused_as : FnScope N__law_refused_as P__law_refused_as (defScope s__law_refused_as) := ⟨rfl, rfl, rfl, by decide +kernel, rfl, by decide +kernel, by decide +kernel⟩
abbrev s__law_both : Stmt := topS 47
abbrev N__law_both : List Str := ["keys", "line", "outer", "inner", "met", "key"]
abbrev P__law_both : List Str := ["keys", "line"]
theorem sc__law_both : FnScope N__law_both P__law_both (defScope s__law_both) := ⟨rfl, rfl, rfl, by decide +kernel, rfl, by decide +kernel, by decide +kernel⟩
abbrev s__law_part_told : Stmt := topS 48
abbrev N__law_part_told : List Str := ["keys", "line", "e"]
abbrev P__law_part_told : List Str := ["keys", "line"]
theorem sc__law_part_told : FnScope N__law_part_told P__law_part_told (defScope s__law_part_told) := ⟨rfl, rfl, rfl, by decide +kernel, rfl, by decide +kernel, by decide +kernel⟩
abbrev s__law_wrong_line : Stmt := topS 49
abbrev N__law_wrong_line : List Str := ["store", "keys", "names", "word", "style"]
abbrev P__law_wrong_line : List Str := ["store", "keys"]
theorem sc__law_wrong_line : FnScope N__law_wrong_line P__law_wrong_line (defScope s__law_wrong_line) := ⟨rfl, rfl, rfl, by decide +kernel, rfl, by decide +kernel, by decide +kernel⟩
abbrev s__law_refused : Stmt := topS 50
abbrev N__law_refused : List Str := ["keys", "word", "code", "handed", "told"]
abbrev P__law_refused : List Str := ["keys", "word"]
theorem sc__law_refused : FnScope N__law_refused P__law_refused (defScope s__law_refused) := ⟨rfl, rfl, rfl, by decide +kernel, rfl, by decide +kernel, by decide +kernel⟩
abbrev s__law_walked : Stmt := topS 51
abbrev N__law_walked : List Str := ["told", "keys", "line", "ends", "key", "row", "sides", "end"]
abbrev P__law_walked : List Str := ["told", "keys", "line"]
theorem sc__law_walked : FnScope N__law_walked P__law_walked (defScope s__law_walked) := ⟨rfl, rfl, rfl, by decide +kernel, rfl, by decide +kernel, by decide +kernel⟩
abbrev s__law_parts_in_two : Stmt := topS 52
abbrev N__law_parts_in_two : List Str := ["keys", "line", "due", "handed", "told"]
abbrev P__law_parts_in_two : List Str := ["keys", "line"]
theorem sc__law_parts_in_two : FnScope N__law_parts_in_two P__law_parts_in_two (defScope s__law_parts_in_two) := ⟨rfl, rfl, rfl, by decide +kernel, rfl, by decide +kernel, by decide +kernel⟩
abbrev s_law : Stmt := topS 53
abbrev N_law : List Str := ["script", "store", "many", "houses", "names", "keys", "tours", "line", "others", "row", "word", "told"]
abbrev P_law : List Str := ["script"]
theorem sc_law : FnScope N_law P_law (defScope s_law) := ⟨rfl, rfl, rfl, by decide +kernel, rfl, by decide +kernel, by decide +kernel⟩
/-! ### the stepper -/
local macro_rules | `(tactic| walk_at "hp") => `(tactic| first
  | assumption
  | exact upd_same
  | (refine Eq.trans (upd_ne (by first | assumption | (apply Ne.symm; assumption))) ?_; walk_at "hp"))
local macro_rules | `(tactic| walk_at "sq") => `(tactic| first
  | assumption
  | (refine Or.inl (Or.inl ?_); walk_at "hp"))
local macro_rules | `(tactic| walk_at "st") => `(tactic| first
  | assumption
  | (refine Or.inl (Or.inl ?_); walk_at "hp"))
local macro_rules | `(tactic| walk_at "ar") => `(tactic| first
  | assumption
  | omega
  | decide)
local macro_rules | `(tactic| walk_at "ci") => `(tactic| first
  | (refine (show CMul _ _ from Or.inr ⟨?_, ?_⟩) <;> omega)
  | (refine (show CMul _ _ from Or.inl ⟨?_, ?_⟩) <;> omega)
  | (show CPow _ _; exact ⟨by decide, by decide, by decide⟩)
  | (refine wide_div (b := 63) ?_ ?_ (by decide) (by decide) <;> omega)
  | (show (0 : Int) < _; omega))
local macro_rules | `(tactic| walk_at "ty") => `(tactic| first
  | exact dp_ty (by assumption)
  | exact TyX.base (TyOf.int _)
  | exact TyX.base (TyOf.str _)
  | exact TyX.base (TyOf.bl _)
  | exact TyX.base TyOf.non
  | exact tyL' (by walk_at "sq")
  | exact tyT' (by walk_at "st"))
local macro_rules | `(tactic| walk_at "isi") => `(tactic| first
  | ((with_reducible apply Rd.isiF); (walk_at "ty"); (decide))
  | ((with_reducible apply Rd.isiT); (walk_at "ty"); (decide)))
local macro_rules | `(tactic| walk_at "rd") => `(tactic| first
  | with_reducible apply Rd.seq
  | ((with_reducible apply Rd.var); rfl)
  | with_reducible apply Rd.con
  | with_reducible apply Rd.op
  | with_reducible apply Rd.asg
  | ((with_reducible apply Rd.gname); ((dsimp only [List.set, L2.wipe, Int.reduceToNat]) <;> rfl))
  | with_reducible apply Rd.nxt
  | with_reducible apply Rd.ifs
  | with_reducible apply Rd.test
  | with_reducible apply Rd.testB
  | with_reducible apply Rd.exbl
  | with_reducible apply Rd.ret
  | with_reducible apply Rd.drop
  | with_reducible apply Rd.retN
  | with_reducible apply Rd.nil
  | with_reducible apply Rd.cons
  | with_reducible apply Rd.call
  | with_reducible apply Rd.cb
  | with_reducible apply Rd.and
  | with_reducible apply Rd.or
  | with_reducible apply Rd.not
  | with_reducible apply Rd.andV
  | with_reducible apply Rd.orV
  | with_reducible apply Rd.notV
  | with_reducible apply Rd.ife
  | with_reducible apply Rd.tup
  | with_reducible apply Rd.lst
  | with_reducible apply Rd.un
  | with_reducible apply Rd.chain
  | with_reducible apply Rd.brk
  | with_reducible apply Rd.cnt
  | with_reducible apply Rd.I0
  | with_reducible apply Rd.U1
  | ((with_reducible apply Rd.eq); rfl)
  | ((with_reducible apply Rd.ne); rfl)
  | ((with_reducible apply Rd.I1); (walk_at "ci"))
  | with_reducible apply Rd.lc0
  | with_reducible apply Rd.ln0
  | with_reducible apply Rd.exN
  | ((with_reducible apply Rd.iteSf); (decide +kernel))
  | ((with_reducible apply Rd.iteSt); (decide +kernel))
  | ((with_reducible apply Rd.niQ); (exact Or.inl (by walk_at "sq")); (exact ⟨rfl, rfl⟩); (rfl))
  | ((with_reducible apply Rd.inQ); (exact Or.inl (by walk_at "sq")); (exact ⟨rfl, rfl⟩); (rfl))
  | with_reducible apply Rd.rn1
  | with_reducible apply Rd.in1
  | with_reducible apply Rd.sn1
  | with_reducible apply Rd.bn1
  | with_reducible apply Rd.nn1
  | with_reducible apply Rd.rn2
  | with_reducible apply Rd.in2
  | with_reducible apply Rd.sn2
  | with_reducible apply Rd.bn2
  | with_reducible apply Rd.nn2
  | with_reducible apply Rd.nt1
  | with_reducible apply Rd.nf1
  | (with_reducible refine Rd.iteI (fun _ => ?_) (fun _ => ?_))
  | (with_reducible refine Rd.iteNI (fun _ => ?_) (fun _ => ?_))
  | (with_reducible refine iteT ?_)
  | (with_reducible refine iteF ?_)
  | (with_reducible refine Rd.iteD (fun _ => ?_) (fun _ => ?_))
  | (with_reducible refine Rd.iteN (fun _ => ?_) (fun _ => ?_))
  | with_reducible apply Rd.intI
  | with_reducible apply Rd.intB
  | with_reducible apply Rd.maxQ
  | with_reducible apply Rd.minQ
  | with_reducible apply Rd.absQ
  | with_reducible apply Rd.isN
  | with_reducible apply Rd.noN
  | with_reducible apply Rd.ltZ
  | with_reducible apply Rd.bm
  | with_reducible apply Rd.bm0
  | with_reducible apply Rd.par
  | with_reducible apply Rd.expar
  | with_reducible apply Rd.exint
  | with_reducible apply Rd.ipi
  | with_reducible apply Rd.slice
  | with_reducible apply Rd.noPart
  | with_reducible apply Rd.part
  | with_reducible apply Rd.gcons
  | with_reducible apply Rd.gnil
  | with_reducible apply Rd.iseq
  | with_reducible apply Rd.irng1
  | walk_at "isi"
  | with_reducible apply Rd.forX
  | with_reducible apply Rd.lstRev
  | with_reducible apply Rd.lstRg
  | with_reducible apply Rd.rg1
  | with_reducible apply Rd.rg2
  | with_reducible apply Rd.exint2
  | ((with_reducible apply Rd.exrev); (walk_at "sq"))
  | with_reducible apply Rd.lcX
  | with_reducible apply Rd.yes
  | ((with_reducible apply Rd.exrng1); (constructor <;> omega))
  | ((with_reducible apply Rd.exrng2); (refine ⟨?_, ?_, ?_, ?_⟩ <;> omega))
  | with_reducible apply Rd.irng2
  | ((with_reducible apply Rd.aug); rfl)
  | ((with_reducible apply Rd.exlst); (walk_at "sq"))
  | ((with_reducible apply Rd.gtup); (walk_at "st"); (rfl))
  | ((with_reducible apply Rd.tyL); (walk_at "hp"))
  | ((with_reducible apply Rd.ixL); (walk_at "sq"); (rfl))
  | ((with_reducible apply Rd.ixI); (walk_at "sq"); (omega); (first | assumption | (simp only [List.length_map]; omega)); (intro _ _))
  | (with_reducible refine Rd.gsub ?_)
  | ((with_reducible apply Rd.setL); (walk_at "hp"); (rfl); ((dsimp only [List.set, L2.wipe, Int.reduceToNat]) <;> rfl))
  | ((with_reducible apply Rd.lenQ); (first | exact Or.inl (by walk_at "sq") | exact Or.inr (by walk_at "st")))
  | ((with_reducible apply Rd.listQ); (first | exact Or.inl (by walk_at "sq") | exact Or.inr (by walk_at "st")))
  | ((with_reducible apply Rd.tupQ); (walk_at "sq"))
  | ((with_reducible apply Rd.slL); (walk_at "sq"))
  | ((with_reducible apply Rd.ixT); (walk_at "st"); (rfl))
  | (with_reducible refine Rd.iteB (fun _ => ?_) (fun _ => ?_))
  | (with_reducible refine Rd.iteNB (fun _ => ?_) (fun _ => ?_))
  | (refine Rd.andI (Nat.le_of_ble_eq_true rfl) ?_)
  | dsimp only [List.set])
/-! ### the law's store of draws -/
/-- at st a store, its cells at c: a place and digits that are no less than 0 -/
def StoreAt (H : Hp) (st c : Addr) : Prop := ∃ (ns : List Int) (p d s t : Int), H st = some (.lst [.ref c, .int p, .int d, .int s, .int t]) ∧ H c = some (.lst (ns.map V.int)) ∧ c ≠ st ∧ 0 ≤ p ∧ 0 ≤ d
theorem StoreAt.kept {H H' : Hp} {st c : Addr} (h : StoreAt H st c) (k : ∀ b o, (b = st ∨ b = c) → H b = some o → H' b = some o) : StoreAt H' st c := by
  obtain ⟨ns, p, d, s, t, h1, h2, r⟩ := h
  exact ⟨ns, p, d, s, t, k _ _ (.inl rfl) h1, k _ _ (.inr rfl) h2, r⟩
theorem StoreAt.same {H H' : Hp} {st c : Addr} (h : StoreAt H st c) (k : Same H H') : StoreAt H' st c := h.kept fun b o _ => k b o
theorem StoreAt.has {H : Hp} {st c : Addr} (h : StoreAt H st c) : (∃ o, H st = some o) ∧ ∃ o, H c = some o := by
  obtain ⟨ns, p, d, s, t, h1, h2, r⟩ := h
  exact ⟨⟨_, h1⟩, ⟨_, h2⟩⟩
/-- what is new is no part of the store -/
theorem StoreAt.off {H : Hp} {st c p : Addr} (h : StoreAt H st c) (n : H p = none) : p ≠ st ∧ p ≠ c := by
  obtain ⟨⟨o, e⟩, ⟨o', e'⟩⟩ := h.has
  exact ⟨(ne_of_none e n).symm, (ne_of_none e' n).symm⟩
theorem StoreAt.put {H : Hp} {st c p : Addr} (h : StoreAt H st c) (n : p ≠ st ∧ p ≠ c) (o : HO) : StoreAt (upd H p o) st c := h.kept fun b u e z => by
  rw [upd_ne]
  · exact z
  · rcases e with rfl | rfl
    · exact n.1.symm
    · exact n.2.symm
/-- draws were taken: all else stands -/
structure Go (st c : Addr) (H H' : Hp) : Prop where
  ok : StoreAt H' st c
  keep : ∀ b o, b ≠ st → H b = some o → H' b = some o
theorem Go.refl {st c : Addr} {H : Hp} (h : StoreAt H st c) : Go st c H H := ⟨h, fun _ _ _ e => e⟩
theorem Go.trans {st c : Addr} {H H1 H2 : Hp} (a : Go st c H H1) (b : Go st c H1 H2) : Go st c H H2 := ⟨b.ok, fun d o n e => b.keep d o n (a.keep d o n e)⟩
/-- what is new behind was new ahead -/
theorem Go.free {st c p : Addr} {H H' : Hp} (g : Go st c H H') (n : H' p = none) : H p = none := by
  cases e : H p with
  | none => rfl
  | some o =>
    rw [g.keep p o (g.ok.off n).1 e] at n
    cases n
/-- a new object beside -/
theorem Go.new {st c p : Addr} {H H' : Hp} (g : Go st c H H') (n : H' p = none) (o : HO) : Go st c H (upd H' p o) :=
  ⟨g.ok.put (g.ok.off n) o, fun b u hb e => (upd_ne (ne_of_none (g.keep b u hb e) n)).trans (g.keep b u hb e)⟩
/-- an object that is newer than H is written -/
theorem Go.write {st c p : Addr} {H H' : Hp} (g : Go st c H H') (n : H p = none) (h : p ≠ st ∧ p ≠ c) (o : HO) : Go st c H (upd H' p o) :=
  ⟨g.ok.put h o, fun b u hb e => (upd_ne (ne_of_none e n)).trans (g.keep b u hb e)⟩
theorem Go.same {st c : Addr} {H H1 H2 : Hp} (g : Go st c H H1) (k : Same H1 H2) : Go st c H H2 := ⟨g.ok.same k, fun b u hb e => k b u (g.keep b u hb e)⟩
theorem go_upd {st c : Addr} {H : Hp} {ns : List Int} {p d s t p' d' s' t' : Int} (h : H st = some (.lst [.ref c, .int p, .int d, .int s, .int t])) (hc : H c = some (.lst (ns.map V.int))) (n : c ≠ st) (hp : 0 ≤ p') (hd : 0 ≤ d') :
    Go st c H (upd H st (.lst [.ref c, .int p', .int d', .int s', .int t'])) :=
  ⟨⟨ns, p', d', s', t', upd_same, (upd_ne n).trans hc, n, hp, hd⟩, fun b o hb e => (upd_ne hb).trans e⟩
/-- _law_take(store, many): 0, or a number below many -/
def spTake : Sp := fun vs H Q _ => ∃ (st c : Addr) (many : Int), vs = [.ref st, .int many] ∧ StoreAt H st c ∧ many < 4611686018427387904 ∧ ∀ (r : Int) (H' : Hp), 0 ≤ r → (r < many ∨ r = 0) → Go st c H H' → Q (.int r) H'
section
variable {P : Program} {w : World} {K : PySem.W.Frag} {mg : Str → Option Value} {base : Heap}
theorem ok__law_take (F : Def K mg "_law_take" s__law_take P__law_take) (m_int : mg "int" = none) (m_len : mg "len" = none) : Cal P w K mg base 1 "_law_take" P__law_take spTake := by
  refine F.ok sc__law_take (fun vs H Q E h => ?_) (fun f cdv A outer s H vs Q E hr h => ?_)
  · obtain ⟨st, c, many, rfl, _⟩ := h
    rfl
  obtain ⟨st, c, many, rfl, ⟨ns, p, d, z, t, hst, hc, hne, hp, hd⟩, hm, q⟩ := h
  refine ⟨_, (pss_cons (ps_if (pt_cmpR op_lt (pv 1 (hd := nd_many) (hcd := nc_many)) pe_int (nomark _)) (pss_one (ps_ret pe_int)) pss_nil)
  (pss_cons (ps_set (i := 2) sc__law_take.nd rfl (Or.inl rfl) (pe_callTy q_intI (by rfl) m_int bb_int (pa_cons (pe_ix ix_list (pv 0 (hd := nd_store) (hcd := nc_store)) pe_int (fun _ _ => rfl)) pa_nil) (hn := nn_int) (hdb := nd_int)))
  (pss_cons (ps_if (pt_cmpR op_gt (pv 2 (hd := nd_digits) (hcd := nc_digits)) pe_int (nomark _)) (pss_cons (ps_asg (pe_op op_fdivW (pv 2 (hd := nd_digits) (hcd := nc_digits)) (pv 1 (hd := nd_many) (hcd := nc_many))) (pg_sub (pv 0 (hd := nd_store) (hcd := nc_store)) pe_int set_list))
  (pss_one (ps_ret (pe_op op_mod (pv 2 (hd := nd_digits) (hcd := nc_digits)) (pv 1 (hd := nd_many) (hcd := nc_many)))))) pss_nil)
  (pss_cons (ps_asg (pe_op op_add (pe_callTy q_intI (by rfl) m_int bb_int (pa_cons (pe_ix ix_list (pv 0 (hd := nd_store) (hcd := nc_store)) pe_int (fun _ _ => rfl)) pa_nil) (hn := nn_int) (hdb := nd_int)) pe_int) (pg_sub (pv 0 (hd := nd_store) (hcd := nc_store)) pe_int set_list))
  (pss_cons (ps_set (i := 3) sc__law_take.nd rfl (Or.inl rfl) (pe_callTy q_intI (by rfl) m_int bb_int (pa_cons (pe_ix ix_list (pv 0 (hd := nd_store) (hcd := nc_store)) pe_int (fun _ _ => rfl)) pa_nil) (hn := nn_int) (hdb := nd_int)))
  (pss_cons (ps_set (i := 4) sc__law_take.nd rfl (Or.inl rfl) (pe_ix ix_list (pv 0 (hd := nd_store) (hcd := nc_store)) pe_int (fun _ _ => rfl)))
  (pss_cons (ps_set (i := 5) sc__law_take.nd rfl (Or.inl rfl) (pe_callTy q_intI (by rfl) m_int bb_int (pa_cons (pe_ix ix_list (pv 0 (hd := nd_store) (hcd := nc_store)) pe_int (fun _ _ => rfl)) pa_nil) (hn := nn_int) (hdb := nd_int)))
  (pss_cons (ps_if (pt_cmpR op_lt (pv 5 (hd := nd_place) (hcd := nc_place)) (pe_callB q_len (by rfl) m_len PySem.boot_len (pa_cons (pv 4 (hd := nd_cells) (hcd := nc_cells)) pa_nil) (hn := nn_len) (hdb := nd_len)) (nomark _)) (pss_cons (ps_set (i := 6) sc__law_take.nd rfl (Or.inl rfl) (pe_callTy q_intI (by rfl) m_int bb_int (pa_cons (pe_ix ix_list (pv 4 (hd := nd_cells) (hcd := nc_cells)) (pv 5 (hd := nd_place) (hcd := nc_place)) (fun _ _ => rfl)) pa_nil) (hn := nn_int) (hdb := nd_int)))
  (pss_cons (ps_asg (pe_op op_add (pv 5 (hd := nd_place) (hcd := nc_place)) pe_int) (pg_sub (pv 0 (hd := nd_store) (hcd := nc_store)) pe_int set_list))
  (pss_cons (ps_if (pt_cmpR op_ge (pv 6 (hd := nd_cell) (hcd := nc_cell)) (pe_op op_pow pe_int pe_int) (nomark _)) (pss_cons (ps_asg (pe_op op_fdivW (pv 6 (hd := nd_cell) (hcd := nc_cell)) (pv 1 (hd := nd_many) (hcd := nc_many))) (pg_sub (pv 0 (hd := nd_store) (hcd := nc_store)) pe_int set_list))
  (pss_one (ps_ret (pe_op op_mod (pv 6 (hd := nd_cell) (hcd := nc_cell)) (pv 1 (hd := nd_many) (hcd := nc_many)))))) pss_nil)
  (pss_one (ps_set (i := 7) sc__law_take.nd rfl (Or.inl rfl) (pe_op op_mod (pe_op op_add (pe_op op_add (pe_op op_mul (pv 6 (hd := nd_cell) (hcd := nc_cell)) pe_int) (pe_op op_mul (pv 3 (hd := nd_tick) (hcd := nc_tick)) pe_int)) pe_int) pe_int)))))) (pss_cons (ps_set (i := 7) sc__law_take.nd rfl (Or.inl rfl) (pe_op op_mod (pe_op op_add (pe_op op_add (pe_op op_mul (pe_callTy q_intI (by rfl) m_int bb_int (pa_cons (pe_ix ix_list (pv 0 (hd := nd_store) (hcd := nc_store)) pe_int (fun _ _ => rfl)) pa_nil) (hn := nn_int) (hdb := nd_int)) pe_int) (pe_op op_mul (pv 3 (hd := nd_tick) (hcd := nc_tick)) pe_int)) pe_int) pe_int))
  (pss_one (ps_asg (pv 7 (hd := nd_mixed) (hcd := nc_mixed)) (pg_sub (pv 0 (hd := nd_store) (hcd := nc_store)) pe_int set_list)))))
  (pss_one (ps_ret (pe_op op_mod (pe_op op_mod (pe_op op_add (pe_op op_mul (pv 7 (hd := nd_mixed) (hcd := nc_mixed)) (pv 7 (hd := nd_mixed) (hcd := nc_mixed))) (pe_op op_fdivW (pv 7 (hd := nd_mixed) (hcd := nc_mixed)) pe_int)) pe_int) (pv 1 (hd := nd_many) (hcd := nc_many))))))))))))), ?_⟩
  refine Rd.at0 (σ := [some (.ref st), some (.int many), none, none, none, none, none, none]) rfl ?_
  repeat' (walk_at "rd")
  · exact q 0 _ (Int.le_refl 0) (.inr rfl) (Go.refl ⟨ns, p, d, z, t, hst, hc, hne, hp, hd⟩)
  · exact q _ _ (Int.emod_nonneg _ (by omega)) (.inl (Int.emod_lt_of_pos _ (by omega))) (go_upd hst hc hne hp (Int.ediv_nonneg hd (by omega)))
  · rename_i v hv hv2
    have h0 : (0 : Int) ≤ v := Int.le_trans (by decide) hv2
    rw [upd_upd, upd_upd]
    exact q _ _ (Int.emod_nonneg _ (by omega)) (.inl (Int.emod_lt_of_pos _ (by omega))) (go_upd hst hc hne (by omega) (Int.ediv_nonneg h0 (by omega)))
  · rw [upd_upd]
    exact q _ _ (Int.emod_nonneg _ (by omega)) (.inl (Int.emod_lt_of_pos _ (by omega))) (go_upd hst hc hne (by omega) hd)
  · rw [upd_upd]
    exact q _ _ (Int.emod_nonneg _ (by omega)) (.inl (Int.emod_lt_of_pos _ (by omega))) (go_upd hst hc hne hp hd)
/-- _law_between(store, least, most): a number from least to most; least if most is less -/
def spBetween : Sp := fun vs H Q _ => ∃ (st c : Addr) (lo hi : Int), vs = [.ref st, .int lo, .int hi] ∧ StoreAt H st c ∧ hi - lo < 4611686018427387900 ∧ ∀ (r : Int) (H' : Hp), lo ≤ r → (r ≤ hi ∨ r = lo) → Go st c H H' → Q (.int r) H'
theorem ok__law_between (F : Def K mg "_law_between" s__law_between P__law_between) (C__law_take : Cal P w K mg base 1 "_law_take" P__law_take spTake) : Cal P w K mg base 2 "_law_between" P__law_between spBetween := by
  refine F.ok sc__law_between (fun vs H Q E h => ?_) (fun f cdv A outer s H vs Q E hr h => ?_)
  · obtain ⟨st, c, lo, hi, rfl, _⟩ := h
    rfl
  obtain ⟨st, c, lo, hi, rfl, hs, hm, q⟩ := h
  refine ⟨_, (pss_cons (ps_if (pt_cmpR op_le (pv 2 (hd := nd_most) (hcd := nc_most)) (pv 1 (hd := nd_least) (hcd := nc_least)) (nomark _)) (pss_one (ps_ret (pv 1 (hd := nd_least) (hcd := nc_least)))) pss_nil)
  (pss_cons (ps_set (i := 3) sc__law_between.nd rfl (Or.inl rfl) (pe_cal C__law_take hr (pa_cons (pv 0 (hd := nd_store) (hcd := nc_store)) (pa_cons pe_int pa_nil)) (hdb := nd__law_take)))
  (pss_cons (ps_if (pt_cmpR op_eq (pv 3 (hd := nd_edge) (hcd := nc_edge)) pe_int (nomark _)) (pss_one (ps_ret (pv 1 (hd := nd_least) (hcd := nc_least)))) pss_nil)
  (pss_cons (ps_if (pt_cmpR op_eq (pv 3 (hd := nd_edge) (hcd := nc_edge)) pe_int (nomark _)) (pss_one (ps_ret (pv 2 (hd := nd_most) (hcd := nc_most)))) pss_nil)
  (pss_cons (ps_if (pt_cmpR op_eq (pv 3 (hd := nd_edge) (hcd := nc_edge)) pe_int (nomark _)) (pss_one (ps_ret (pe_op op_add (pv 1 (hd := nd_least) (hcd := nc_least)) pe_int))) pss_nil)
  (pss_one (ps_ret (pe_op op_add (pv 1 (hd := nd_least) (hcd := nc_least)) (pe_cal C__law_take hr (pa_cons (pv 0 (hd := nd_store) (hcd := nc_store)) (pa_cons (pe_op op_add (pe_op op_sub (pv 2 (hd := nd_most) (hcd := nc_most)) (pv 1 (hd := nd_least) (hcd := nc_least))) pe_int) pa_nil)) (hdb := nd__law_take)))))))))), ?_⟩
  refine Rd.at0 (σ := [some (.ref st), some (.int lo), some (.int hi), none]) rfl ?_
  repeat' (walk_at "rd")
  · exact q lo _ (Int.le_refl _) (.inr rfl) (Go.refl hs)
  refine ⟨st, c, 9, rfl, hs, by decide, fun e H1 h0 h9 g1 => ?_⟩
  repeat' (walk_at "rd")
  · exact q lo _ (Int.le_refl _) (.inr rfl) g1
  · exact q hi _ (by omega) (.inl (Int.le_refl _)) g1
  · exact q (lo + 1) _ (by omega) (.inl (by omega)) g1
  refine ⟨st, c, hi - lo + 1, rfl, g1.ok, by omega, fun r H2 k0 k1 g2 => ?_⟩
  repeat' (walk_at "rd")
  exact q (lo + r) _ (by omega) (.inl (by omega)) (g1.trans g2)
/-- _law_store(script): a new store -/
def spStore (K : PySem.W.Frag) : Sp := fun vs H Q _ => ∃ (a : Addr) (ns : List Int), vs = [.ref a] ∧ SqL K H a (ns.map V.int) ∧ ns.length ≤ 1000 ∧ ∀ (st c : Addr) (H' : Hp), Same H H' → H st = none → StoreAt H' st c → Q (.ref st) H'
theorem ok__law_store (F : Def K mg "_law_store" s__law_store P__law_store) (m_list : mg "list" = none) (m_len : mg "len" = none) (m_int : mg "int" = none) : Cal P w K mg base 1 "_law_store" P__law_store (spStore K) := by
  refine F.ok sc__law_store (fun vs H Q E h => ?_) (fun f cdv A outer s H vs Q E hr h => ?_)
  · obtain ⟨a, ns, rfl, _⟩ := h
    rfl
  obtain ⟨a, ns, rfl, hS, hl, q⟩ := h
  refine ⟨_, (pss_cons (ps_set (i := 1) sc__law_store.nd rfl (Or.inl rfl) (pe_callTy q_list (by rfl) m_list bb_list (pa_cons (pv 0 (hd := nd_script) (hcd := nc_script)) pa_nil) (hn := nn_list) (hdb := nd_list)))
  (pss_cons (ps_set (i := 2) sc__law_store.nd rfl (Or.inl rfl) (pe_op op_add pe_int (pe_callB q_len (by rfl) m_len PySem.boot_len (pa_cons (pv 1 (hd := nd_cells) (hcd := nc_cells)) pa_nil) (hn := nn_len) (hdb := nd_len))))
  (pss_cons (ps_for PassesOwn.never rfl (pi_list (pv 1 (hd := nd_cells) (hcd := nc_cells))) (pg_name (i := 3) sc__law_store.nd rfl (Or.inl rfl)) (pss_one (ps_set (i := 2) sc__law_store.nd rfl (Or.inl rfl) (pe_op op_mod (pe_op op_add (pe_op op_add (pe_op op_mul (pv 2 (hd := nd_state) (hcd := nc_state)) pe_int) (pe_op op_mod (pe_callTy q_intI (by rfl) m_int bb_int (pa_cons (pv 3 (hd := nd_cell) (hcd := nc_cell)) pa_nil) (hn := nn_int) (hdb := nd_int)) pe_int)) pe_int) pe_int))))
  (pss_one (ps_ret (pe_lst (pa_cons (pv 1 (hd := nd_cells) (hcd := nc_cells)) (pa_cons pe_int (pa_cons pe_int (pa_cons (pv 2 (hd := nd_state) (hcd := nc_state)) (pa_cons pe_int pa_nil))))))))))), ?_⟩
  refine Rd.at0 (σ := [some (.ref a), none, none, none]) rfl ?_
  repeat' (walk_at "rd")
  intro c hc
  repeat' (walk_at "rd")
  refine forL (ns.map V.int) (fun i σ H' => ∃ (s : Int) (v3 : Option V), σ = [some (.ref a), some (.ref c), some (.int s), v3] ∧ H' = upd H c (.lst (ns.map V.int))) ⟨_, none, rfl, rfl⟩ (fun i σ H' _ ⟨_, _, _, e⟩ => by rw [e]; exact .inl (.inl upd_same)) ?_ ?_
  · rintro i x σ H' hx ⟨z, v3, rfl, rfl⟩
    obtain ⟨y, hy, rfl⟩ := int_at hx
    repeat' (walk_at "rd")
    exact ⟨_, _, rfl, rfl⟩
  · rintro σ H' ⟨z, v3, rfl, rfl⟩
    repeat' (walk_at "rd")
    intro st hst
    have n1 : c ≠ st := (new_ne upd_same hst).symm
    exact q st c _ ((same_upd hc).trans (same_upd hst)) (free_of hst (same_upd hc)) ⟨ns, 0, 0, z, 0, upd_same, (upd_ne n1).trans upd_same, n1, Int.le_refl _, Int.le_refl _⟩
end
/-! ### a drawn order -/
/-- _law_shuffled(store, items): a new list of the same items in some order -/
def spShuffled (K : PySem.W.Frag) : Sp := fun vs H Q _ => ∃ (st c a : Addr) (xs : List V), vs = [.ref st, .ref a] ∧ StoreAt H st c ∧ SqL K H a xs ∧ xs.length ≤ 100000 ∧
  ∀ (l : Addr) (ys : List V) (H' : Hp), ys.Perm xs → H l = none → Go st c H H' → H' l = some (.lst ys) → Q (.ref l) H'
section
variable {P : Program} {w : World} {K : PySem.W.Frag} {mg : Str → Option Value} {base : Heap}
theorem ok__law_shuffled (F : Def K mg "_law_shuffled" s__law_shuffled P__law_shuffled) (m_list : mg "list" = none) (m_reversed : mg "reversed" = none) (m_range : mg "range" = none) (m_len : mg "len" = none) (C__law_take : Cal P w K mg base 1 "_law_take" P__law_take spTake) : Cal P w K mg base 2 "_law_shuffled" P__law_shuffled (spShuffled K) := by
  refine F.ok sc__law_shuffled (fun vs H Q E h => ?_) (fun f cdv A outer s H vs Q E hr h => ?_)
  · obtain ⟨st, c, a, xs, rfl, _⟩ := h
    rfl
  obtain ⟨st, c, a, xs, rfl, hs, ha, hl, q⟩ := h
  refine ⟨_, (pss_cons (ps_set (i := 2) sc__law_shuffled.nd rfl (Or.inl rfl) (pe_callTy q_list (by rfl) m_list bb_list (pa_cons (pv 1 (hd := nd_items) (hcd := nc_items)) pa_nil) (hn := nn_list) (hdb := nd_list)))
  (pss_cons (ps_set (i := 3) sc__law_shuffled.nd rfl (Or.inl rfl) (pe_cal C__law_take hr (pa_cons (pv 0 (hd := nd_store) (hcd := nc_store)) (pa_cons pe_int pa_nil)) (hdb := nd__law_take)))
  (pss_cons (ps_if (pt_cmpR op_eq (pv 3 (hd := nd_style) (hcd := nc_style)) pe_int (nomark _)) (pss_one (ps_ret (pv 2 (hd := nd_row) (hcd := nc_row)))) pss_nil)
  (pss_cons (ps_if (pt_cmpR op_eq (pv 3 (hd := nd_style) (hcd := nc_style)) pe_int (nomark _)) (pss_one (ps_ret (pe_lstRev (by rfl) (by rfl) m_list (by rfl) m_reversed (pv 2 (hd := nd_row) (hcd := nc_row))))) pss_nil)
  (pss_cons (ps_for PassesOwn.never rfl (pi_range1 (by rfl) m_range (pa_cons (pe_op op_sub (pe_callB q_len (by rfl) m_len PySem.boot_len (pa_cons (pv 2 (hd := nd_row) (hcd := nc_row)) pa_nil) (hn := nn_len) (hdb := nd_len)) pe_int) pa_nil)) (pg_name (i := 4) sc__law_shuffled.nd rfl (Or.inl rfl)) (pss_cons (ps_set (i := 5) sc__law_shuffled.nd rfl (Or.inl rfl) (pe_op op_add (pv 4 (hd := nd_k) (hcd := nc_k)) (pe_cal C__law_take hr (pa_cons (pv 0 (hd := nd_store) (hcd := nc_store)) (pa_cons (pe_op op_sub (pe_callB q_len (by rfl) m_len PySem.boot_len (pa_cons (pv 2 (hd := nd_row) (hcd := nc_row)) pa_nil) (hn := nn_len) (hdb := nd_len)) (pv 4 (hd := nd_k) (hcd := nc_k))) pa_nil)) (hdb := nd__law_take))))
  (pss_cons (ps_set (i := 6) sc__law_shuffled.nd rfl (Or.inl rfl) (pe_ix ix_list (pv 2 (hd := nd_row) (hcd := nc_row)) (pv 4 (hd := nd_k) (hcd := nc_k)) (fun _ _ => rfl)))
  (pss_cons (ps_asg (pe_ix ix_list (pv 2 (hd := nd_row) (hcd := nc_row)) (pv 5 (hd := nd_at) (hcd := nc_at)) (fun _ _ => rfl)) (pg_sub (pv 2 (hd := nd_row) (hcd := nc_row)) (pv 4 (hd := nd_k) (hcd := nc_k)) set_list))
  (pss_one (ps_asg (pv 6 (hd := nd_kept) (hcd := nc_kept)) (pg_sub (pv 2 (hd := nd_row) (hcd := nc_row)) (pv 5 (hd := nd_at) (hcd := nc_at)) set_list)))))))
  (pss_one (ps_ret (pv 2 (hd := nd_row) (hcd := nc_row))))))))), ?_⟩
  refine Rd.at0 (σ := [some (.ref st), some (.ref a), none, none, none, none, none]) rfl ?_
  repeat' (walk_at "rd")
  intro p hp
  have pst := hs.off hp
  have g0 : Go st c H (upd H p (.lst xs)) := (Go.refl hs).new hp _
  repeat' (walk_at "rd")
  refine ⟨st, c, 6, rfl, g0.ok, by decide, fun e H1 e0 e6 g1 => ?_⟩
  have hp1 : H1 p = some (.lst xs) := g1.keep p _ pst.1 upd_same
  have g01 := g0.trans g1
  repeat' (walk_at "rd")
  · exact q p xs H1 (.refl _) hp g01 hp1
  · intro r hr1
    exact q r xs.reverse _ (List.reverse_perm xs) (g01.free hr1) (g01.new hr1 _) upd_same
  refine forR (fun i σ H' => ∃ (ys : List V) (v4 v5 v6 : Option V), σ = [some (.ref st), some (.ref a), some (.ref p), some (.int e), v4, v5, v6] ∧ ys.Perm xs ∧ H' p = some (.lst ys) ∧ Go st c H H')
    ⟨xs, none, none, none, rfl, .refl _, hp1, g01⟩ ?_ ?_
  · rintro i σ H' hi ⟨ys, v4, v5, v6, rfl, pm, hp', g⟩
    have hy : ys.length = xs.length := pm.length_eq
    have hi2 : i + 1 < ys.length := by omega
    repeat' (walk_at "rd")
    refine ⟨st, c, _, rfl, g.ok, by omega, fun r H2 r0 r1 g2 => ?_⟩
    have hp2 : H2 p = some (.lst ys) := g2.keep p _ pst.1 hp'
    have hr2 : 0 + (i : Int) + r < (ys.length : Int) := by omega
    have x1 : ys[(0 + (i : Int)).toNat]? = some ys[i] := by
      rw [show (0 + (i : Int)).toNat = i by omega]
      exact List.getElem?_eq_getElem (by omega)
    have j2 : (0 + (i : Int) + r).toNat < ys.length := by omega
    have x2 : ys[(0 + (i : Int) + r).toNat]? = some ys[(0 + (i : Int) + r).toNat] := List.getElem?_eq_getElem j2
    repeat' (walk_at "rd")
    refine ixN' (.inl (.inl hp2)) (by omega) x1 ?_
    repeat' (walk_at "rd")
    refine ixN' (.inl (.inl hp2)) (by omega) x2 ?_
    repeat' (walk_at "rd")
    refine setN' hp2 (by omega) (by omega) ?_
    repeat' (walk_at "rd")
    refine setN' upd_same (by omega) (by rw [List.length_set]; omega) ?_
    repeat' (walk_at "rd")
    rw [upd_upd]
    exact ⟨_, _, _, _, rfl, (swap_perm x1 x2).trans pm, upd_same, (g.trans g2).write hp pst _⟩
  · rintro σ H' ⟨ys, v4, v5, v6, rfl, pm, hp', g⟩
    repeat' (walk_at "rd")
    exact q p ys H' pm hp g hp'
end
end Kj
namespace Kj
open PySem PySem.Spec PyProof.Rows L2 Rd
/-! ### the stepper -/
local macro_rules | `(tactic| walk_at "hp") => `(tactic| first
  | assumption
  | exact upd_same
  | (refine Eq.trans (upd_ne (by first | assumption | (apply Ne.symm; assumption))) ?_; walk_at "hp"))
local macro_rules | `(tactic| walk_at "sq") => `(tactic| first
  | assumption
  | (refine Or.inl (Or.inl ?_); walk_at "hp"))
local macro_rules | `(tactic| walk_at "st") => `(tactic| first
  | assumption
  | (refine Or.inl (Or.inl ?_); walk_at "hp"))
local macro_rules | `(tactic| walk_at "ar") => `(tactic| first
  | assumption
  | omega
  | decide)
local macro_rules | `(tactic| walk_at "ci") => `(tactic| first
  | (refine (show CMul _ _ from Or.inr ⟨?_, ?_⟩) <;> omega)
  | (refine (show CMul _ _ from Or.inl ⟨?_, ?_⟩) <;> omega)
  | (show CPow _ _; exact ⟨by decide, by decide, by decide⟩)
  | (refine wide_div (b := 63) ?_ ?_ (by decide) (by decide) <;> omega)
  | (show (0 : Int) < _; omega))
local macro_rules | `(tactic| walk_at "ty") => `(tactic| first
  | exact dp_ty (by assumption)
  | exact TyX.base (TyOf.int _)
  | exact TyX.base (TyOf.str _)
  | exact TyX.base (TyOf.bl _)
  | exact TyX.base TyOf.non
  | exact tyL' (by walk_at "sq")
  | exact tyT' (by walk_at "st"))
local macro_rules | `(tactic| walk_at "isi") => `(tactic| first
  | ((with_reducible apply Rd.isiF); (walk_at "ty"); (decide))
  | ((with_reducible apply Rd.isiT); (walk_at "ty"); (decide)))
local macro_rules | `(tactic| walk_at "rd") => `(tactic| first
  | with_reducible apply Rd.seq
  | ((with_reducible apply Rd.var); rfl)
  | with_reducible apply Rd.con
  | with_reducible apply Rd.op
  | with_reducible apply Rd.asg
  | ((with_reducible apply Rd.gname); ((dsimp only [List.set, L2.wipe, Int.reduceToNat]) <;> rfl))
  | with_reducible apply Rd.nxt
  | with_reducible apply Rd.ifs
  | with_reducible apply Rd.test
  | with_reducible apply Rd.testB
  | with_reducible apply Rd.exbl
  | with_reducible apply Rd.ret
  | with_reducible apply Rd.drop
  | with_reducible apply Rd.retN
  | with_reducible apply Rd.nil
  | with_reducible apply Rd.cons
  | with_reducible apply Rd.call
  | with_reducible apply Rd.cb
  | with_reducible apply Rd.and
  | with_reducible apply Rd.or
  | with_reducible apply Rd.not
  | with_reducible apply Rd.andV
  | with_reducible apply Rd.orV
  | with_reducible apply Rd.notV
  | with_reducible apply Rd.ife
  | with_reducible apply Rd.tup
  | with_reducible apply Rd.lst
  | with_reducible apply Rd.un
  | with_reducible apply Rd.chain
  | with_reducible apply Rd.brk
  | with_reducible apply Rd.cnt
  | with_reducible apply Rd.I0
  | with_reducible apply Rd.U1
  | ((with_reducible apply Rd.eq); rfl)
  | ((with_reducible apply Rd.ne); rfl)
  | ((with_reducible apply Rd.I1); (walk_at "ci"))
  | with_reducible apply Rd.lc0
  | with_reducible apply Rd.ln0
  | with_reducible apply Rd.exN
  | ((with_reducible apply Rd.iteSf); (decide +kernel))
  | ((with_reducible apply Rd.iteSt); (decide +kernel))
  | ((with_reducible apply Rd.niQ); (exact Or.inl (by walk_at "sq")); (exact ⟨rfl, rfl⟩); (rfl))
  | ((with_reducible apply Rd.inQ); (exact Or.inl (by walk_at "sq")); (exact ⟨rfl, rfl⟩); (rfl))
  | with_reducible apply Rd.rn1
  | with_reducible apply Rd.in1
  | with_reducible apply Rd.sn1
  | with_reducible apply Rd.bn1
  | with_reducible apply Rd.nn1
  | with_reducible apply Rd.rn2
  | with_reducible apply Rd.in2
  | with_reducible apply Rd.sn2
  | with_reducible apply Rd.bn2
  | with_reducible apply Rd.nn2
  | with_reducible apply Rd.nt1
  | with_reducible apply Rd.nf1
  | (with_reducible refine Rd.iteI (fun _ => ?_) (fun _ => ?_))
  | (with_reducible refine Rd.iteNI (fun _ => ?_) (fun _ => ?_))
  | (with_reducible refine iteT ?_)
  | (with_reducible refine iteF ?_)
  | (with_reducible refine Rd.iteD (fun _ => ?_) (fun _ => ?_))
  | (with_reducible refine Rd.iteN (fun _ => ?_) (fun _ => ?_))
  | with_reducible apply Rd.intI
  | with_reducible apply Rd.intB
  | with_reducible apply Rd.maxQ
  | with_reducible apply Rd.minQ
  | with_reducible apply Rd.absQ
  | with_reducible apply Rd.isN
  | with_reducible apply Rd.noN
  | with_reducible apply Rd.ltZ
  | with_reducible apply Rd.bm
  | with_reducible apply Rd.bm0
  | with_reducible apply Rd.par
  | with_reducible apply Rd.expar
  | with_reducible apply Rd.exint
  | with_reducible apply Rd.ipi
  | with_reducible apply Rd.slice
  | with_reducible apply Rd.noPart
  | with_reducible apply Rd.part
  | with_reducible apply Rd.gcons
  | with_reducible apply Rd.gnil
  | with_reducible apply Rd.iseq
  | with_reducible apply Rd.irng1
  | walk_at "isi"
  | with_reducible apply Rd.forX
  | with_reducible apply Rd.lstRev
  | with_reducible apply Rd.lstRg
  | with_reducible apply Rd.rg1
  | with_reducible apply Rd.rg2
  | with_reducible apply Rd.exint2
  | ((with_reducible apply Rd.exrev); (walk_at "sq"))
  | with_reducible apply Rd.lcX
  | with_reducible apply Rd.yes
  | ((with_reducible apply Rd.exrng1); (constructor <;> omega))
  | ((with_reducible apply Rd.exrng2); (refine ⟨?_, ?_, ?_, ?_⟩ <;> omega))
  | with_reducible apply Rd.irng2
  | ((with_reducible apply Rd.aug); rfl)
  | ((with_reducible apply Rd.exlst); (walk_at "sq"))
  | ((with_reducible apply Rd.gtup); (walk_at "st"); (rfl))
  | ((with_reducible apply Rd.tyL); (walk_at "hp"))
  | ((with_reducible apply Rd.ixL); (walk_at "sq"); (rfl))
  | ((with_reducible apply Rd.ixI); (walk_at "sq"); (omega); (first | assumption | (simp only [List.length_map]; omega)); (intro _ _))
  | (with_reducible refine Rd.gsub ?_)
  | ((with_reducible apply Rd.setL); (walk_at "hp"); (rfl); ((dsimp only [List.set, L2.wipe, Int.reduceToNat]) <;> rfl))
  | ((with_reducible apply Rd.lenQ); (first | exact Or.inl (by walk_at "sq") | exact Or.inr (by walk_at "st")))
  | ((with_reducible apply Rd.listQ); (first | exact Or.inl (by walk_at "sq") | exact Or.inr (by walk_at "st")))
  | ((with_reducible apply Rd.tupQ); (walk_at "sq"))
  | ((with_reducible apply Rd.slL); (walk_at "sq"))
  | ((with_reducible apply Rd.ixT); (walk_at "st"); (rfl))
  | (with_reducible refine Rd.iteB (fun _ => ?_) (fun _ => ?_))
  | (with_reducible refine Rd.iteNB (fun _ => ?_) (fun _ => ?_))
  | (refine Rd.andI (Nat.le_of_ble_eq_true rfl) ?_)
  | dsimp only [List.set])
/-! ### drawn names -/
section
variable {P : Program} {w : World} {K : PySem.W.Frag} {mg : Str → Option Value} {base : Heap}
abbrev A26 : Str := "abcdefghijklmnopqrstuvwxyz"
abbrev A36 : Str := "0123456789abcdefghijklmnopqrstuvwxyz"
theorem a26 : A26.length = 26 ∧ ∀ c ∈ cl A26, Low c := by decide +kernel
theorem a36 : A36.length = 36 ∧ ∀ c ∈ cl A36, Aln c := by decide +kernel
/-- _law_name(store): a name of 1 to 12 signs -/
def spName : Sp := fun vs H Q _ => ∃ (st c : Addr), vs = [.ref st] ∧ StoreAt H st c ∧ ∀ (z : Str) (H' : Hp), Nm (cl z) → z.length ≤ 12 → Go st c H H' → Q (.str z) H'
theorem ok__law_name (F : Def K mg "_law_name" s__law_name P__law_name) (m_range : mg "range" = none) (C__law_take : Cal P w K mg base 1 "_law_take" P__law_take spTake) (C__law_between : Cal P w K mg base 2 "_law_between" P__law_between spBetween) : Cal P w K mg base 3 "_law_name" P__law_name spName := by
  refine F.ok sc__law_name (fun vs H Q E h => ?_) (fun f cdv A outer s H vs Q E hr h => ?_)
  · obtain ⟨st, c, rfl, _⟩ := h
    rfl
  obtain ⟨st, c, rfl, hs, q⟩ := h
  refine ⟨_, (pss_cons (ps_set (i := 1) sc__law_name.nd rfl (Or.inl rfl) (pe_cal C__law_between hr (pa_cons (pv 0 (hd := nd_store) (hcd := nc_store)) (pa_cons pe_int (pa_cons pe_int pa_nil))) (hdb := nd__law_between)))
  (pss_cons (ps_set (i := 2) sc__law_name.nd rfl (Or.inl rfl) (pe_ix ix_str pe_str (pe_cal C__law_take hr (pa_cons (pv 0 (hd := nd_store) (hcd := nc_store)) (pa_cons pe_int pa_nil)) (hdb := nd__law_take)) (fun _ _ => rfl)))
  (pss_cons (ps_set (i := 3) sc__law_name.nd rfl (Or.inl rfl) (pe_cmpR op_eq (pe_cal C__law_take hr (pa_cons (pv 0 (hd := nd_store) (hcd := nc_store)) (pa_cons pe_int pa_nil)) (hdb := nd__law_take)) pe_int (nomark _)))
  (pss_cons (ps_for PassesOwn.never rfl (pi_range1 (by rfl) m_range (pa_cons (pe_op op_sub (pv 1 (hd := nd_size) (hcd := nc_size)) pe_int) pa_nil)) (pg_name (i := 4) sc__law_name.nd rfl (Or.inl rfl)) (pss_one (ps_if (pt_val (pv 3 (hd := nd_alike) (hcd := nc_alike))) (pss_one (ps_set (i := 2) sc__law_name.nd rfl (Or.inl rfl) (pe_op o_addZ (pv 2 (hd := nd_word) (hcd := nc_word)) (pe_ix ix_str (pv 2 (hd := nd_word) (hcd := nc_word)) pe_int (fun _ _ => rfl))))) (pss_one (ps_set (i := 2) sc__law_name.nd rfl (Or.inl rfl) (pe_op o_addZ (pv 2 (hd := nd_word) (hcd := nc_word)) (pe_ix ix_str pe_str (pe_cal C__law_take hr (pa_cons (pv 0 (hd := nd_store) (hcd := nc_store)) (pa_cons pe_int pa_nil)) (hdb := nd__law_take)) (fun _ _ => rfl))))))))
  (pss_one (ps_ret (pv 2 (hd := nd_word) (hcd := nc_word)))))))), ?_⟩
  refine Rd.at0 (σ := [some (.ref st), none, none, none, none]) rfl ?_
  repeat' (walk_at "rd")
  refine ⟨st, c, 1, 12, rfl, hs, by decide, fun size H1 s1 s2 g1 => ?_⟩
  repeat' (walk_at "rd")
  refine ⟨st, c, 26, rfl, g1.ok, by decide, fun r H2 r0 r1 g2 => ?_⟩
  refine sign (z := A26) (by rw [a26.1]; decide) (by omega) (by rw [a26.1]; omega) fun x _ hx => ?_
  have hx := a26.2 x hx
  repeat' (walk_at "rd")
  refine ⟨st, c, 3, rfl, g2.ok, by decide, fun t H3 t0 t1 g3 => ?_⟩
  repeat' (walk_at "rd")
  generalize decide (V.int t = V.int 0) = al
  refine forR (fun i σ H' => ∃ (z : Str) (v4 : Option V), σ = [some (.ref st), some (.int size), some (.str z), some (.bl al), v4] ∧ Nm (cl z) ∧ z.length = i + 1 ∧ Go st c H H')
    ⟨⟨#[x]⟩, none, rfl, ⟨x, [], rfl, hx, fun _ h => by cases h⟩, rfl, (g1.trans g2).trans g3⟩ ?_ ?_
  · rintro i σ H' hi ⟨z, v4, rfl, nz, lz, g⟩
    repeat' (walk_at "rd")
    · obtain ⟨x, ex, lx⟩ := nz.head
      refine sign (z := z) (by omega) (by decide) (by omega) fun y ey _ => ?_
      obtain rfl : x = y := Option.some.inj (ex.symm.trans ey)
      repeat' (walk_at "rd")
      refine addZ (by rw [one_len]; exact sz5 (by omega)) ?_
      repeat' (walk_at "rd")
      refine ⟨_, _, rfl, ?_, ?_, g⟩
      · rw [cl_add, cl_one]
        exact nz.snoc (.inl lx)
      · rw [add_len, one_len, lz]
    · refine ⟨st, c, 36, rfl, g.ok, by decide, fun r H4 r0 r1 g4 => ?_⟩
      refine sign (z := A36) (by rw [a36.1]; decide) (by omega) (by rw [a36.1]; omega) fun x _ hx => ?_
      have hx := a36.2 x hx
      repeat' (walk_at "rd")
      refine addZ (by rw [one_len]; exact sz5 (by omega)) ?_
      repeat' (walk_at "rd")
      refine ⟨_, _, rfl, ?_, ?_, g.trans g4⟩
      · rw [cl_add, cl_one]
        exact nz.snoc hx
      · rw [add_len, one_len, lz]
  · rintro σ H' ⟨z, v4, rfl, nz, lz, g⟩
    repeat' (walk_at "rd")
    exact q z H' nz (by omega) g
end
/-! ### one of a text's signs, one of a list's items; drawn names -/
section
variable {P : Program} {w : World} {K : PySem.W.Frag} {mg : Str → Option Value} {base : Heap}
theorem Go.seq {st c a : Addr} {H H' : Hp} {xs : List V} (g : Go st c H H') (n : a ≠ st) (h : SqL K H a xs) : SqL K H' a xs := by
  rcases h with (h | ⟨o, h⟩) | h
  · exact .inl (.inl (g.keep _ _ n h))
  · exact .inl (.inr ⟨o, g.keep _ _ n h⟩)
  · exact .inr h
/-- _law_pick(store, z) of a text: one of its signs -/
def spPickZ : Sp := fun vs H Q _ => ∃ (st c : Addr) (z : Str), vs = [.ref st, .str z] ∧ StoreAt H st c ∧ 1 ≤ z.length ∧ z.length ≤ 1000 ∧ ∀ (x : Nat) (H' : Hp), x ∈ cl z → Go st c H H' → Q (.str ⟨#[x]⟩) H'
/-- _law_pick(store, items) of a list: one of its items, None if there is none -/
def spPickL (K : PySem.W.Frag) : Sp := fun vs H Q _ => ∃ (st c a : Addr) (xs : List V), vs = [.ref st, .ref a] ∧ StoreAt H st c ∧ a ≠ st ∧ SqL K H a xs ∧ xs.length ≤ 100000 ∧ (xs = [] → Q .non H) ∧ ∀ (x : V) (H' : Hp), x ∈ xs → Go st c H H' → Q x H'
def spPick (K : PySem.W.Frag) : Sp := fun vs H Q E => spPickZ vs H Q E ∨ spPickL K vs H Q E
theorem ok__law_pick (F : Def K mg "_law_pick" s__law_pick P__law_pick) (m_len : mg "len" = none) (C__law_take : Cal P w K mg base 1 "_law_take" P__law_take spTake) : Cal P w K mg base 2 "_law_pick" P__law_pick (spPick K) := by
  refine F.ok sc__law_pick (fun vs H Q E h => ?_) (fun f cdv A outer s H vs Q E hr h => ?_)
  · rcases h with ⟨st, c, z, rfl, _⟩ | ⟨st, c, a, xs, rfl, _⟩ <;> rfl
  rcases h with ⟨st, c, z, rfl, hs, l1, l2, q⟩ | ⟨st, c, a, xs, rfl, hs, na, ha, l2, qn, q⟩
  · refine ⟨_, (pss_cons (ps_if (pt_cmpR op_eq (pe_callB q_lenZ (by rfl) m_len PySem.boot_len (pa_cons (pv 1 (hd := nd_items) (hcd := nc_items)) pa_nil) (hn := nn_len) (hdb := nd_len)) pe_int (nomark _)) (pss_one (ps_ret pe_non)) pss_nil)
  (pss_one (ps_ret (pe_ix ix_str (pv 1 (hd := nd_items) (hcd := nc_items)) (pe_cal C__law_take hr (pa_cons (pv 0 (hd := nd_store) (hcd := nc_store)) (pa_cons (pe_callB q_lenZ (by rfl) m_len PySem.boot_len (pa_cons (pv 1 (hd := nd_items) (hcd := nc_items)) pa_nil) (hn := nn_len) (hdb := nd_len)) pa_nil)) (hdb := nd__law_take)) (fun _ _ => rfl))))), ?_⟩
    refine Rd.at0 (σ := [some (.ref st), some (.str z)]) rfl ?_
    have lz : z.length ≤ sizeLine := sz5 (by omega)
    repeat' (walk_at "rd")
    refine lenZ lz ?_
    repeat' (walk_at "rd")
    · exfalso
      omega
    refine lenZ lz ?_
    refine ⟨st, c, _, rfl, hs, by omega, fun r H1 r0 r1 g => ?_⟩
    exact sign (by omega) r0 (by omega) fun x _ hx => q x H1 hx g
  · refine ⟨_, (pss_cons (ps_if (pt_cmpR op_eq (pe_callB q_len (by rfl) m_len PySem.boot_len (pa_cons (pv 1 (hd := nd_items) (hcd := nc_items)) pa_nil) (hn := nn_len) (hdb := nd_len)) pe_int (nomark _)) (pss_one (ps_ret pe_non)) pss_nil)
  (pss_one (ps_ret (pe_ix ix_list (pv 1 (hd := nd_items) (hcd := nc_items)) (pe_cal C__law_take hr (pa_cons (pv 0 (hd := nd_store) (hcd := nc_store)) (pa_cons (pe_callB q_len (by rfl) m_len PySem.boot_len (pa_cons (pv 1 (hd := nd_items) (hcd := nc_items)) pa_nil) (hn := nn_len) (hdb := nd_len)) pa_nil)) (hdb := nd__law_take)) (fun _ _ => rfl))))), ?_⟩
    refine Rd.at0 (σ := [some (.ref st), some (.ref a)]) rfl ?_
    by_cases e : xs = []
    · subst e
      repeat' (walk_at "rd")
      exact qn rfl
    have l1 := List.length_pos_iff.mpr e
    repeat' (walk_at "rd")
    · exfalso
      omega
    refine ⟨st, c, _, rfl, hs, by omega, fun r H1 r0 r1 g => ?_⟩
    have lt : r.toNat < xs.length := by omega
    exact ixN' (g.seq na ha) r0 (List.getElem?_eq_getElem lt) (q _ H1 (List.getElem_mem lt) g)
/-- _law_names(store, many): new names, all different -/
def spNames : Sp := fun vs H Q _ => ∃ (st c : Addr) (m : Int), vs = [.ref st, .int m] ∧ StoreAt H st c ∧ 0 ≤ m ∧ m ≤ 1000 ∧ ∀ (L : Addr) (zs : List Str) (H' : Hp), (zs.length : Int) = m → (∀ z ∈ zs, NmS z) → zs.Nodup → H L = none → Go st c H H' → H' L = some (.lst (zs.map V.str)) → Q (.ref L) H'
/-- two texts of which the first one has n signs -/
theorem two_at {a t : List Nat} {x y : Nat} : (a ++ ([x, y] ++ t))[a.length]? = some x ∧ (a ++ ([x, y] ++ t))[a.length + 1]? = some y := by
  constructor
  · rw [List.getElem?_append_right (Nat.le_refl _), Nat.sub_self]
    rfl
  · rw [List.getElem?_append_right (Nat.le_add_right a.length 1), Nat.add_sub_cancel_left]
    rfl
theorem snoc_at {α : Type} {zs : List α} {z y : α} {j : Nat} (h : (zs ++ [z])[j]? = some y) : (j < zs.length ∧ zs[j]? = some y) ∨ (j = zs.length ∧ y = z) := by
  by_cases l : j < zs.length
  · rw [List.getElem?_append_left l] at h
    exact .inl ⟨l, h⟩
  · rw [List.getElem?_append_right (by omega)] at h
    by_cases e : j - zs.length = 0
    · rw [e] at h
      exact .inr ⟨by omega, (Option.some.inj h).symm⟩
    · obtain ⟨k, hk⟩ : ∃ k, j - zs.length = k + 1 := ⟨j - zs.length - 1, by omega⟩
      rw [hk] at h
      cases h
theorem cl_str {l : List Nat} : cl ⟨l.toArray⟩ = l := by simp [cl]
theorem permS {ys : List V} {zs : List Str} (p : ys.Perm (zs.map V.str)) : ∃ ks : List Str, ys = ks.map V.str ∧ ks.Perm zs := by
  refine ⟨ys.map fun v => match v with | .str z => z | _ => "", ?_, ?_⟩
  · rw [List.map_map]
    conv => lhs; rw [← List.map_id ys]
    refine List.map_congr_left fun y hy => ?_
    obtain ⟨z, _, rfl⟩ := List.mem_map.mp (p.mem_iff.mp hy)
    rfl
  · have := p.map fun v => match v with | .str z => z | _ => ""
    rw [List.map_map] at this
    simpa [Function.comp_def] using this
local macro_rules | `(tactic| walk_at "sz") => `(tactic| first
  | exact sz5 (by omega)
  | (simp only [add_len, one_len]; exact sz5 (by omega)))
local macro_rules | `(tactic| walk_at "rd") => `(tactic| first
  | ((with_reducible apply Rd.lenZ); (walk_at "sz"))
  | ((with_reducible apply Rd.addZ); (walk_at "sz")))
theorem ok__law_names (F : Def K mg "_law_names" s__law_names P__law_names) (m_range : mg "range" = none) (m_int : mg "int" = none) (C__law_take : Cal P w K mg base 1 "_law_take" P__law_take spTake) (C__law_pick : Cal P w K mg base 2 "_law_pick" P__law_pick (spPick K)) (C__law_shuffled : Cal P w K mg base 2 "_law_shuffled" P__law_shuffled (spShuffled K)) : Cal P w K mg base 3 "_law_names" P__law_names spNames := by
  refine F.ok sc__law_names (fun vs H Q E h => ?_) (fun f cdv A outer s H vs Q E hr h => ?_)
  · obtain ⟨st, c, m, rfl, _⟩ := h
    rfl
  obtain ⟨st, c, m, rfl, hs, m0, m1, q⟩ := h
  refine ⟨_, (pss_cons (ps_set (i := 2) sc__law_names.nd rfl (Or.inl rfl) pe_str)
  (pss_cons (ps_set (i := 3) sc__law_names.nd rfl (Or.inl rfl) (pe_op o_addZ pe_str (pv 2 (hd := nd_letters) (hcd := nc_letters))))
  (pss_cons (ps_set (i := 4) sc__law_names.nd rfl (Or.inl rfl) (pe_cal C__law_take hr (pa_cons (pv 0 (hd := nd_store) (hcd := nc_store)) (pa_cons pe_int pa_nil)) (hdb := nd__law_take)))
  (pss_cons (ps_set (i := 5) sc__law_names.nd rfl (Or.inl rfl) (pe_cal C__law_pick hr (pa_cons (pv 0 (hd := nd_store) (hcd := nc_store)) (pa_cons (pv 2 (hd := nd_letters) (hcd := nc_letters)) pa_nil)) (hdb := nd__law_pick)))
  (pss_cons (ps_set (i := 6) sc__law_names.nd rfl (Or.inl rfl) (pe_lst pa_nil))
  (C8.pss_cut (ps_if (PW.pt (pw_and (pt_cmpR op_eq (pv 4 (hd := nd_style) (hcd := nc_style)) pe_int (nomark _)) (pw_and1 (pt_cmpR op_le (pv 1 (hd := nd_many) (hcd := nc_many)) pe_int (nomark _))))) (pss_cons (ps_set (i := 7) sc__law_names.nd rfl (Or.inl rfl) (pe_cal C__law_pick hr (pa_cons (pv 0 (hd := nd_store) (hcd := nc_store)) (pa_cons (pv 3 (hd := nd_signs) (hcd := nc_signs)) pa_nil)) (hdb := nd__law_pick)))
  (pss_cons (ps_for PassesOwn.never rfl (pi_range1 (by rfl) m_range (pa_cons (pv 1 (hd := nd_many) (hcd := nc_many)) pa_nil)) (pg_name (i := 8) sc__law_names.nd rfl (Or.inl rfl)) (pss_one (ps_expr (pe_bm PySem.F.plainAttrs_list PySem.F.slot_list_append PySem.F.type_list_append mt_append (pv 6 (hd := nd_names) (hcd := nc_names)) (pa_cons (pe_op o_addZ (pv 5 (hd := nd_first) (hcd := nc_first)) (pe_op op_rep_str (pv 7 (hd := nd_sign) (hcd := nc_sign)) (pv 8 (hd := nd_k) (hcd := nc_k)))) pa_nil)))))
  (pss_one (ps_ret (pe_cal C__law_shuffled hr (pa_cons (pv 0 (hd := nd_store) (hcd := nc_store)) (pa_cons (pv 6 (hd := nd_names) (hcd := nc_names)) pa_nil)) (hdb := nd__law_shuffled)))))) pss_nil)
  (C8.pss_cut (ps_if (PW.pt (pw_and (pt_cmpR op_lt (pv 4 (hd := nd_style) (hcd := nc_style)) pe_int (nomark _)) (pw_and1 (pt_cmpR op_le (pv 1 (hd := nd_many) (hcd := nc_many)) pe_int (nomark _))))) (pss_cons (ps_set (i := 9) sc__law_names.nd rfl (Or.inl rfl) (pe_cal C__law_take hr (pa_cons (pv 0 (hd := nd_store) (hcd := nc_store)) (pa_cons pe_int pa_nil)) (hdb := nd__law_take)))
  (pss_cons (ps_for PassesOwn.never rfl (pi_range1 (by rfl) m_range (pa_cons (pv 1 (hd := nd_many) (hcd := nc_many)) pa_nil)) (pg_name (i := 8) sc__law_names.nd rfl (Or.inl rfl)) (pss_one (ps_expr (pe_bm PySem.F.plainAttrs_list PySem.F.slot_list_append PySem.F.type_list_append mt_append (pv 6 (hd := nd_names) (hcd := nc_names)) (pa_cons (pe_ix ix_str (pv 2 (hd := nd_letters) (hcd := nc_letters)) (pe_op op_mod (pe_callTy q_intI (by rfl) m_int bb_int (pa_cons (pe_op op_add (pv 9 (hd := nd_start) (hcd := nc_start)) (pv 8 (hd := nd_k) (hcd := nc_k))) pa_nil) (hn := nn_int) (hdb := nd_int)) pe_int) (fun _ _ => rfl)) pa_nil)))))
  (pss_one (ps_ret (pe_cal C__law_shuffled hr (pa_cons (pv 0 (hd := nd_store) (hcd := nc_store)) (pa_cons (pv 6 (hd := nd_names) (hcd := nc_names)) pa_nil)) (hdb := nd__law_shuffled)))))) pss_nil)
  (pss_cons (ps_set (i := 10) sc__law_names.nd rfl (Or.inl rfl) (pv 5 (hd := nd_first) (hcd := nc_first)))
  (pss_cons (ps_for PassesOwn.never rfl (pi_range1 (by rfl) m_range (pa_cons (pe_cal C__law_take hr (pa_cons (pv 0 (hd := nd_store) (hcd := nc_store)) (pa_cons pe_int pa_nil)) (hdb := nd__law_take)) pa_nil)) (pg_name (i := 8) sc__law_names.nd rfl (Or.inl rfl)) (pss_one (ps_set (i := 10) sc__law_names.nd rfl (Or.inl rfl) (pe_op o_addZ (pv 10 (hd := nd_ahead) (hcd := nc_ahead)) (pe_cal C__law_pick hr (pa_cons (pv 0 (hd := nd_store) (hcd := nc_store)) (pa_cons (pv 3 (hd := nd_signs) (hcd := nc_signs)) pa_nil)) (hdb := nd__law_pick))))))
  (pss_cons (ps_set (i := 11) sc__law_names.nd rfl (Or.inl rfl) (pe_op op_rep_str (pe_cal C__law_pick hr (pa_cons (pv 0 (hd := nd_store) (hcd := nc_store)) (pa_cons (pv 3 (hd := nd_signs) (hcd := nc_signs)) pa_nil)) (hdb := nd__law_pick)) (pe_cal C__law_take hr (pa_cons (pv 0 (hd := nd_store) (hcd := nc_store)) (pa_cons pe_int pa_nil)) (hdb := nd__law_take))))
  (pss_cons (ps_set (i := 9) sc__law_names.nd rfl (Or.inl rfl) (pe_cal C__law_take hr (pa_cons (pv 0 (hd := nd_store) (hcd := nc_store)) (pa_cons pe_int pa_nil)) (hdb := nd__law_take)))
  (pss_cons (ps_set (i := 12) sc__law_names.nd rfl (Or.inl rfl) (pe_ix ix_list (pe_lst (pa_cons pe_int (pa_cons pe_int (pa_cons pe_int (pa_cons (pe_op op_add pe_int pe_int) (pa_cons (pe_op op_sub pe_int pe_int) pa_nil)))))) (pe_cal C__law_take hr (pa_cons (pv 0 (hd := nd_store) (hcd := nc_store)) (pa_cons pe_int pa_nil)) (hdb := nd__law_take)) (fun _ _ => rfl)))
  (pss_cons (ps_for PassesOwn.never rfl (pi_range1 (by rfl) m_range (pa_cons (pv 1 (hd := nd_many) (hcd := nc_many)) pa_nil)) (pg_name (i := 8) sc__law_names.nd rfl (Or.inl rfl)) (pss_cons (ps_set (i := 13) sc__law_names.nd rfl (Or.inl rfl) (pe_op op_mod (pe_callTy q_intI (by rfl) m_int bb_int (pa_cons (pe_op op_add (pv 9 (hd := nd_start) (hcd := nc_start)) (pe_op op_mul (pv 8 (hd := nd_k) (hcd := nc_k)) (pv 12 (hd := nd_step) (hcd := nc_step)))) pa_nil) (hn := nn_int) (hdb := nd_int)) pe_int))
  (pss_cons (ps_if (pt_cmpR op_eq (pv 4 (hd := nd_style) (hcd := nc_style)) pe_int (nomark _)) (pss_one (ps_set (i := 11) sc__law_names.nd rfl (Or.inl rfl) (pe_op op_rep_str (pe_cal C__law_pick hr (pa_cons (pv 0 (hd := nd_store) (hcd := nc_store)) (pa_cons (pv 3 (hd := nd_signs) (hcd := nc_signs)) pa_nil)) (hdb := nd__law_pick)) (pe_cal C__law_take hr (pa_cons (pv 0 (hd := nd_store) (hcd := nc_store)) (pa_cons pe_int pa_nil)) (hdb := nd__law_take))))) pss_nil)
  (pss_one (ps_expr (pe_bm PySem.F.plainAttrs_list PySem.F.slot_list_append PySem.F.type_list_append mt_append (pv 6 (hd := nd_names) (hcd := nc_names)) (pa_cons (pe_op o_addZ (pe_op o_addZ (pe_op o_addZ (pv 10 (hd := nd_ahead) (hcd := nc_ahead)) (pe_ix ix_str (pv 3 (hd := nd_signs) (hcd := nc_signs)) (pe_op op_fdivW (pv 13 (hd := nd_code) (hcd := nc_code)) pe_int) (fun _ _ => rfl))) (pe_ix ix_str (pv 3 (hd := nd_signs) (hcd := nc_signs)) (pe_op op_mod (pe_callTy q_intI (by rfl) m_int bb_int (pa_cons (pv 13 (hd := nd_code) (hcd := nc_code)) pa_nil) (hn := nn_int) (hdb := nd_int)) pe_int) (fun _ _ => rfl))) (pv 11 (hd := nd_tail) (hcd := nc_tail))) pa_nil)))))))
  (pss_one (ps_ret (pe_cal C__law_shuffled hr (pa_cons (pv 0 (hd := nd_store) (hcd := nc_store)) (pa_cons (pv 6 (hd := nd_names) (hcd := nc_names)) pa_nil)) (hdb := nd__law_shuffled))))))))))))))))), ?_⟩
  refine Rd.at0 (σ := [some (.ref st), some (.int m), none, none, none, none, none, none, none, none, none, none, none, none]) rfl ?_
  have e10 : ("0123456789" : Str).length = 10 := by decide +kernel
  have e26 : A26.length = 26 := a26_len
  have e26x := a26_len
  have e36x := a36_len
  have e36 : A36.length = 36 := a36_len
  have e26c : (cl A26).length = 26 := by rw [cl_len, e26]
  repeat' (walk_at "rd")
  rw [a36_cat]
  repeat' (walk_at "rd")
  refine ⟨st, c, 6, rfl, hs, by decide, fun sy H1 s0 s1 g1 => ?_⟩
  repeat' (walk_at "rd")
  refine .inl ⟨st, c, A26, rfl, g1.ok, by omega, by omega, fun fx H2 hfx g2 => ?_⟩
  have hfx := a26.2 fx hfx
  have g12 := g1.trans g2
  repeat' (walk_at "rd")
  intro L hL
  have oL := g12.ok.off hL
  have fL := g12.free hL
  have g3 := g12.new hL (.lst [])
  have eL : (upd H2 L (.lst [])) L = some (.lst ((([] : List Str)).map V.str)) := upd_same
  generalize upd H2 L (.lst []) = H3 at *
  repeat' (walk_at "rd")
  have nL : L ≠ st := oL.1
  have fin : ∀ (zs : List Str) (h : Hp) (EE : XK), (zs.length : Int) = m → (∀ z ∈ zs, NmS z) → zs.Nodup → h L = some (.lst (zs.map V.str)) → Go st c H h → spShuffled K [.ref st, .ref L] h Q EE := fun zs h EE hl hn nd hL g =>
    ⟨st, c, L, zs.map V.str, rfl, g.ok, .inl (.inl hL), by rw [List.length_map]; omega, fun l ys H' pm fl g' el => by
      obtain ⟨ks, rfl, pk⟩ := permS pm
      exact q l ks H' (by rw [pk.length_eq]; exact hl) (fun z hz => hn z (pk.mem_iff.mp hz)) (pk.nodup_iff.mpr nd) (g.free fl) (g.trans g') el⟩
  refine Rd.cut (fun σ' H' => σ' = [some (.ref st), some (.int m), some (.str A26), some (.str A36), some (.int sy), some (.str ⟨#[fx]⟩), some (.ref L), none, none, none, none, none, none, none] ∧ H' = H3) ?_ ?_
  · repeat' (walk_at "rd")
    · refine .inl ⟨st, c, A36, rfl, g3.ok, by omega, by omega, fun sx H4 hsx g4 => ?_⟩
      have hsx := a36.2 sx hsx
      have g34 := g3.trans g4
      repeat' (walk_at "rd")
      refine forR (fun i σ H' => ∃ (zs : List Str) (v8 : Option V), σ = [some (.ref st), some (.int m), some (.str A26), some (.str A36), some (.int sy), some (.str ⟨#[fx]⟩), some (.ref L), some (.str ⟨#[sx]⟩), v8, none, none, none, none, none] ∧ zs.length = i ∧
        (∀ (j : Nat) (z : Str), zs[j]? = some z → z = ⟨#[fx]⟩ ++ Txt.mul ⟨#[sx]⟩ ((j : Nat) : Int)) ∧ H' L = some (.lst (zs.map V.str)) ∧ Go st c H H') ⟨[], none, rfl, rfl, fun j z h => absurd h (by simp), g4.keep _ _ nL eL, g34⟩ ?_ ?_
      · rintro i σ H' hi ⟨zs, v8, rfl, lz, hz, eL', g'⟩
        have e0 : (0 : Int) + (i : Int) = (i : Int) := by omega
        repeat' (walk_at "rd")
        rw [e0]
        refine repZ ⟨by rw [one_len]; decide, by omega, by omega⟩ ?_
        have lm := mul_one_len sx i
        repeat' (walk_at "rd")
        refine append eL' (by rw [List.length_map, lz]; exact sz5' (by omega)) ?_
        repeat' (walk_at "rd")
        refine ⟨zs ++ [⟨#[fx]⟩ ++ Txt.mul ⟨#[sx]⟩ (i : Int)], _, rfl, by rw [List.length_append, lz]; rfl, fun j z h => ?_, by rw [List.map_append]; exact upd_same, g'.write fL oL _⟩
        rcases snoc_at h with ⟨_, h⟩ | ⟨e, h⟩
        · exact hz j z h
        · rw [h, e, lz]
      · rintro σ H' ⟨zs, v8, rfl, lz, hz, eL', g'⟩
        have lz : zs.length = m.toNat := lz
        repeat' (walk_at "rd")
        refine fin zs H' _ (by omega) (fun z hm => ?_) (nodup_rel (R := fun j z => z = ⟨#[fx]⟩ ++ Txt.mul ⟨#[sx]⟩ ((j : Nat) : Int)) (Nat.le_refl _) hz fun i j z _ _ h1 h2 => ?_) eL' g'
        · obtain ⟨j, hj, e⟩ := List.getElem_of_mem hm
          have h := hz j z (by rw [List.getElem?_eq_getElem hj, e])
          subst h
          refine ⟨?_, ?_⟩
          · rw [cl_add, mul_one_cl]
            exact (Nm.one hfx).app fun x hx => by rw [List.eq_of_mem_replicate hx]; exact hsx
          · rw [add_len, one_len, mul_one_len]
            omega
        · have : (⟨#[fx]⟩ ++ Txt.mul ⟨#[sx]⟩ ((i : Nat) : Int) : Str).length = (⟨#[fx]⟩ ++ Txt.mul ⟨#[sx]⟩ ((j : Nat) : Int) : Str).length := by rw [← h1, ← h2]
          rw [add_len, add_len, mul_one_len, mul_one_len] at this
          omega
    · exact ⟨rfl, rfl⟩
    · exact ⟨rfl, rfl⟩
  rintro σ' H' ⟨rfl, eH⟩
  rw [eH]
  clear eH H'
  repeat' (walk_at "rd")
  refine Rd.cut (fun σ' H' => σ' = [some (.ref st), some (.int m), some (.str A26), some (.str A36), some (.int sy), some (.str ⟨#[fx]⟩), some (.ref L), none, none, none, none, none, none, none] ∧ H' = H3) ?_ ?_
  · repeat' (walk_at "rd")
    · refine ⟨st, c, 26, rfl, g3.ok, by decide, fun r H4 r0 r1 g4 => ?_⟩
      have g34 := g3.trans g4
      repeat' (walk_at "rd")
      refine forR (fun i σ H' => ∃ (zs : List Str) (v8 : Option V), σ = [some (.ref st), some (.int m), some (.str A26), some (.str A36), some (.int sy), some (.str ⟨#[fx]⟩), some (.ref L), none, v8, some (.int r), none, none, none, none] ∧ zs.length = i ∧
        (∀ (j : Nat) (z : Str), zs[j]? = some z → ∃ x, z = ⟨#[x]⟩ ∧ (cl A26)[((r + ((j : Nat) : Int)) % 26).toNat]? = some x) ∧ H' L = some (.lst (zs.map V.str)) ∧ Go st c H H') ⟨[], none, rfl, rfl, fun j z h => absurd h (by simp), g4.keep _ _ nL eL, g34⟩ ?_ ?_
      · rintro i σ H' hi ⟨zs, v8, rfl, lz, hz, eL', g'⟩
        have e0 : (0 : Int) + (i : Int) = (i : Int) := by omega
        repeat' (walk_at "rd")
        rw [e0]
        refine sign (z := A26) (by omega) (by omega) (by omega) fun x hx _ => ?_
        repeat' (walk_at "rd")
        refine append eL' (by rw [List.length_map, lz]; exact sz5' (by omega)) ?_
        repeat' (walk_at "rd")
        refine ⟨zs ++ [⟨#[x]⟩], _, rfl, by rw [List.length_append, lz]; rfl, fun j z h => ?_, by rw [List.map_append]; exact upd_same, g'.write fL oL _⟩
        rcases snoc_at h with ⟨_, h⟩ | ⟨e, h⟩
        · exact hz j z h
        · rw [h, e, lz]
          exact ⟨x, rfl, hx⟩
      · rintro σ H' ⟨zs, v8, rfl, lz, hz, eL', g'⟩
        have lz : zs.length = m.toNat := lz
        repeat' (walk_at "rd")
        refine fin zs H' _ (by omega) (fun z hm => ?_) (nodup_rel (Nat.le_refl _) hz fun i j z hi hj ⟨x, h1, h2⟩ ⟨y, h3, h4⟩ => ?_) eL' g'
        · obtain ⟨j, hj, e⟩ := List.getElem_of_mem hm
          obtain ⟨x, rfl, hx⟩ := hz j z (by rw [List.getElem?_eq_getElem hj, e])
          exact ⟨Nm.one (a26.2 x (List.mem_of_getElem? hx)), by rw [one_len]; decide⟩
        · have exy : x = y := by
            have := h1.symm.trans h3
            have := congrArg cl this
            rw [cl_one, cl_one] at this
            exact List.head_eq_of_cons_eq this
          subst exy
          have := at_one a26_nd h2 h4
          omega
    · exact ⟨rfl, rfl⟩
    · exact ⟨rfl, rfl⟩
  rintro σ' H' ⟨rfl, eH⟩
  rw [eH]
  clear eH H'
  repeat' (walk_at "rd")
  refine ⟨st, c, 6, rfl, g3.ok, by decide, fun ka H4 ka0 ka1 g4 => ?_⟩
  repeat' (walk_at "rd")
  refine forR (fun i σ H' => ∃ (ah : Str) (v8 : Option V), σ = [some (.ref st), some (.int m), some (.str A26), some (.str A36), some (.int sy), some (.str ⟨#[fx]⟩), some (.ref L), none, v8, none, some (.str ah), none, none, none] ∧ Nm (cl ah) ∧ ah.length = 1 + i ∧
    H' L = some (.lst ((([] : List Str)).map V.str)) ∧ Go st c H H') ⟨⟨#[fx]⟩, none, rfl, Nm.one hfx, rfl, g4.keep _ _ nL eL, g3.trans g4⟩ ?_ ?_
  · rintro i σ H' hi ⟨ah, v8, rfl, na, la, eL', g'⟩
    repeat' (walk_at "rd")
    refine .inl ⟨st, c, A36, rfl, g'.ok, by omega, by omega, fun x H5 hx g5 => ?_⟩
    have hx := a36.2 x hx
    repeat' (walk_at "rd")
    refine ⟨_, _, rfl, ?_, ?_, g5.keep _ _ nL eL', g'.trans g5⟩
    · rw [cl_add, cl_one]
      exact na.snoc hx
    · rw [add_len, one_len]
      omega
  rintro σ H' ⟨ah, v8, rfl, na, la, eL', g'⟩
  have la : ah.length = 1 + ka.toNat := la
  repeat' (walk_at "rd")
  refine .inl ⟨st, c, A36, rfl, g'.ok, by omega, by omega, fun tx H5 htx g5 => ?_⟩
  have htx := a36.2 tx htx
  repeat' (walk_at "rd")
  refine ⟨st, c, 5, rfl, g5.ok, by decide, fun tn H6 tn0 tn1 g6 => ?_⟩
  refine repZ ⟨by rw [one_len]; decide, by omega, by omega⟩ ?_
  repeat' (walk_at "rd")
  refine ⟨st, c, 1296, rfl, g6.ok, by decide, fun s0 H7 s00 s01 g7 => ?_⟩
  repeat' (walk_at "rd")
  intro l hl
  have o7 := (g7.ok.put (g7.ok.off hl) (.lst [.int 1, .int 5, .int 7, .int (36 + 1), .int (1296 - 1)]))
  have el : (upd H7 l (.lst [.int 1, .int 5, .int 7, .int (36 + 1), .int (1296 - 1)])) l = some (.lst [.int 1, .int 5, .int 7, .int (36 + 1), .int (1296 - 1)]) := upd_same
  have g8 := ((g'.trans g5).trans g6).trans g7
  have g9 := g8.new hl (.lst [.int 1, .int 5, .int 7, .int (36 + 1), .int (1296 - 1)])
  have eL9 := same_upd (o := .lst [.int 1, .int 5, .int 7, .int (36 + 1), .int (1296 - 1)]) hl _ _ (g7.keep _ _ nL (g6.keep _ _ nL (g5.keep _ _ nL eL')))
  have nl := (g7.ok.off hl).1
  generalize upd H7 l (.lst [.int 1, .int 5, .int 7, .int (36 + 1), .int (1296 - 1)]) = H8 at *
  repeat' (walk_at "rd")
  refine ⟨st, c, 5, rfl, o7, by decide, fun r H9 r0 r1 g10 => ?_⟩
  obtain ⟨t, ht, et⟩ : ∃ t : Int, (t = 1 ∨ t = 5 ∨ t = 7 ∨ t = 37 ∨ t = 1295) ∧ [V.int 1, .int 5, .int 7, .int (36 + 1), .int (1296 - 1)][r.toNat]? = some (.int t) := by
    obtain rfl | rfl | rfl | rfl | rfl : r = 0 ∨ r = 1 ∨ r = 2 ∨ r = 3 ∨ r = 4 := by omega
    · exact ⟨1, .inl rfl, rfl⟩
    · exact ⟨5, .inr (.inl rfl), rfl⟩
    · exact ⟨7, .inr (.inr (.inl rfl)), rfl⟩
    · exact ⟨37, .inr (.inr (.inr (.inl rfl))), rfl⟩
    · exact ⟨1295, .inr (.inr (.inr (.inr rfl))), rfl⟩
  refine ixN' (.inl (.inl (g10.keep _ _ nl el))) r0 et ?_
  repeat' (walk_at "rd")
  refine forR (fun i σ H' => ∃ (zs : List Str) (tl : Str) (v8 v13 : Option V), σ = [some (.ref st), some (.int m), some (.str A26), some (.str A36), some (.int sy), some (.str ⟨#[fx]⟩), some (.ref L), none, v8, some (.int s0), some (.str ah), some (.str tl), some (.int t), v13] ∧ zs.length = i ∧ (∀ x ∈ cl tl, Aln x) ∧ tl.length ≤ 4 ∧
    (∀ (j : Nat) (z : Str), zs[j]? = some z → ∃ x y tl', z = ah ++ ⟨#[x]⟩ ++ ⟨#[y]⟩ ++ tl' ∧ (∀ x ∈ cl tl', Aln x) ∧ tl'.length ≤ 4 ∧ (cl A36)[(((s0 + ((j : Nat) : Int) * t) % 1296) / 36).toNat]? = some x ∧ (cl A36)[(((s0 + ((j : Nat) : Int) * t) % 1296) % 36).toNat]? = some y) ∧
    H' L = some (.lst (zs.map V.str)) ∧ Go st c H H') ⟨[], _, v8, none, rfl, rfl, (fun x hx => by
      rw [mul_one_cl] at hx
      rw [List.eq_of_mem_replicate hx]
      exact htx), by rw [mul_one_len]; omega, fun j z h => absurd h (by simp), g10.keep _ _ nL eL9, g9.trans g10⟩ ?_ ?_
  · rintro i σ H' hi ⟨zs, tl, v8, v13, rfl, lz, ht4, lt4, hz, eL', g'⟩
    have e0 : (0 : Int) + (i : Int) = (i : Int) := by omega
    have step : ∀ (tl : Str) (G : Hp) (v8 v13 : Option V) (x y : Nat), (∀ x ∈ cl tl, Aln x) → tl.length ≤ 4 → (cl A36)[(((s0 + ((i : Nat) : Int) * t) % 1296) / 36).toNat]? = some x → (cl A36)[(((s0 + ((i : Nat) : Int) * t) % 1296) % 36).toNat]? = some y → G L = some (.lst (zs.map V.str)) → Go st c H G →
        ∃ (zs' : List Str) (tl' : Str) (w8 w13 : Option V), [some (V.ref st), some (.int m), some (.str A26), some (.str A36), some (.int sy), some (.str ⟨#[fx]⟩), some (.ref L), none, v8, some (.int s0), some (.str ah), some (.str tl), some (.int t), v13] = [some (.ref st), some (.int m), some (.str A26), some (.str A36), some (.int sy), some (.str ⟨#[fx]⟩), some (.ref L), none, w8, some (.int s0), some (.str ah), some (.str tl'), some (.int t), w13] ∧ zs'.length = i + 1 ∧ (∀ x ∈ cl tl', Aln x) ∧ tl'.length ≤ 4 ∧
        (∀ (j : Nat) (z : Str), zs'[j]? = some z → ∃ x y tl', z = ah ++ ⟨#[x]⟩ ++ ⟨#[y]⟩ ++ tl' ∧ (∀ x ∈ cl tl', Aln x) ∧ tl'.length ≤ 4 ∧ (cl A36)[(((s0 + ((j : Nat) : Int) * t) % 1296) / 36).toNat]? = some x ∧ (cl A36)[(((s0 + ((j : Nat) : Int) * t) % 1296) % 36).toNat]? = some y) ∧
        (upd G L (.lst (zs.map V.str ++ [V.str (ah ++ ⟨#[x]⟩ ++ ⟨#[y]⟩ ++ tl)]))) L = some (.lst (zs'.map V.str)) ∧ Go st c H (upd G L (.lst (zs.map V.str ++ [V.str (ah ++ ⟨#[x]⟩ ++ ⟨#[y]⟩ ++ tl)]))) := fun tl G v8 v13 x y h1 h2 hx hy eG gG =>
      ⟨zs ++ [ah ++ ⟨#[x]⟩ ++ ⟨#[y]⟩ ++ tl], tl, v8, v13, rfl, by rw [List.length_append, lz]; rfl, h1, h2, fun j z h => by
        rcases snoc_at h with ⟨_, h⟩ | ⟨e, h⟩
        · exact hz j z h
        · rw [h, e, lz]
          exact ⟨x, y, tl, rfl, h1, h2, hx, hy⟩, by rw [List.map_append]; exact upd_same, gG.write fL oL _⟩
    repeat' (walk_at "rd")
    · refine .inl ⟨st, c, A36, rfl, g'.ok, by omega, by omega, fun tx H5 htx g5 => ?_⟩
      have htx := a36.2 tx htx
      repeat' (walk_at "rd")
      refine ⟨st, c, 5, rfl, g5.ok, by decide, fun tn H6 tn0 tn1 g6 => ?_⟩
      refine repZ ⟨by rw [one_len]; decide, by omega, by omega⟩ ?_
      have lm := mul_one_len tx tn
      have eL6 := g6.keep _ _ nL (g5.keep _ _ nL eL')
      repeat' (walk_at "rd")
      rw [e0]
      refine sign (z := A36) (by omega) (by omega) (by omega) fun x hx _ => ?_
      repeat' (walk_at "rd")
      refine sign (z := A36) (by omega) (by omega) (by omega) fun y hy _ => ?_
      repeat' (walk_at "rd")
      refine append (g6.keep _ _ nL (g5.keep _ _ nL eL')) (by rw [List.length_map, lz]; exact sz5' (by omega)) ?_
      repeat' (walk_at "rd")
      refine step _ _ _ _ x y (fun x hx => ?_) (by omega) hx hy (g6.keep _ _ nL (g5.keep _ _ nL eL')) ((g'.trans g5).trans g6)
      rw [mul_one_cl] at hx
      rw [List.eq_of_mem_replicate hx]
      exact htx
    · rw [e0]
      refine sign (z := A36) (by omega) (by omega) (by omega) fun x hx _ => ?_
      repeat' (walk_at "rd")
      refine sign (z := A36) (by omega) (by omega) (by omega) fun y hy _ => ?_
      repeat' (walk_at "rd")
      refine append eL' (by rw [List.length_map, lz]; exact sz5' (by omega)) ?_
      repeat' (walk_at "rd")
      exact step _ _ _ _ x y ht4 lt4 hx hy eL' g'
  · rintro σ H' ⟨zs, tl, v8, v13, rfl, lz, ht4, lt4, hz, eL', g'⟩
    have lz : zs.length = m.toNat := lz
    repeat' (walk_at "rd")
    refine fin zs H' _ (by omega) (fun z hm => ?_) (nodup_rel (Nat.le_refl _) hz fun i j z hi hj ⟨x, y, t1, h1, _, _, h2, h3⟩ ⟨x', y', t2, k1, _, _, k2, k3⟩ => ?_) eL' g'
    · obtain ⟨j, hj, e⟩ := List.getElem_of_mem hm
      obtain ⟨x, y, t1, rfl, h1, h2, h3, h4⟩ := hz j z (by rw [List.getElem?_eq_getElem hj, e])
      have hx := a36.2 x (List.mem_of_getElem? h3)
      have hy := a36.2 y (List.mem_of_getElem? h4)
      refine ⟨?_, ?_⟩
      · rw [cl_add, cl_add, cl_add, cl_one, cl_one]
        exact ((na.snoc hx).snoc hy).app h1
      · rw [add_len, add_len, add_len, one_len, one_len]
        omega
    · have e := congrArg cl (h1.symm.trans k1)
      rw [cl_add, cl_add, cl_add, cl_one, cl_one, cl_add, cl_add, cl_add, cl_one, cl_one, List.append_assoc, List.append_assoc, List.append_assoc, List.append_assoc] at e
      have e := List.append_cancel_left e
      have ex := (List.cons.inj e).1
      have e := (List.cons.inj e).2
      have ey := (List.cons.inj e).1
      have a := at_one a36_nd h2 (by rw [ex]; exact k2)
      have b := at_one a36_nd h3 (by rw [ey]; exact k3)
      have := step_one (s := s0) (t := t) (i := i) (j := j) ht (by omega) (by omega) (by omega) (by omega) (by omega)
      omega
end
end Kj
namespace Kj
open PySem PySem.Spec PyProof.Rows L2 Rd
/-! ### the stepper -/
local macro_rules | `(tactic| walk_at "hp") => `(tactic| first
  | assumption
  | exact upd_same
  | (refine Eq.trans (upd_ne (by first | assumption | (apply Ne.symm; assumption))) ?_; walk_at "hp"))
local macro_rules | `(tactic| walk_at "sq") => `(tactic| first
  | assumption
  | (refine Or.inl (Or.inl ?_); walk_at "hp"))
local macro_rules | `(tactic| walk_at "st") => `(tactic| first
  | assumption
  | (refine Or.inl (Or.inl ?_); walk_at "hp"))
local macro_rules | `(tactic| walk_at "ar") => `(tactic| first
  | assumption
  | omega
  | decide)
local macro_rules | `(tactic| walk_at "ci") => `(tactic| first
  | (refine (show CMul _ _ from Or.inr ⟨?_, ?_⟩) <;> omega)
  | (refine (show CMul _ _ from Or.inl ⟨?_, ?_⟩) <;> omega)
  | (show CPow _ _; exact ⟨by decide, by decide, by decide⟩)
  | (refine wide_div (b := 63) ?_ ?_ (by decide) (by decide) <;> omega)
  | (show (0 : Int) < _; omega))
local macro_rules | `(tactic| walk_at "ty") => `(tactic| first
  | exact dp_ty (by assumption)
  | exact TyX.base (TyOf.int _)
  | exact TyX.base (TyOf.str _)
  | exact TyX.base (TyOf.bl _)
  | exact TyX.base TyOf.non
  | exact tyL' (by walk_at "sq")
  | exact tyT' (by walk_at "st"))
local macro_rules | `(tactic| walk_at "isi") => `(tactic| first
  | ((with_reducible apply Rd.isiF); (walk_at "ty"); (decide))
  | ((with_reducible apply Rd.isiT); (walk_at "ty"); (decide)))
local macro_rules | `(tactic| walk_at "rd") => `(tactic| first
  | with_reducible apply Rd.seq
  | ((with_reducible apply Rd.var); rfl)
  | with_reducible apply Rd.con
  | with_reducible apply Rd.op
  | with_reducible apply Rd.asg
  | ((with_reducible apply Rd.gname); ((dsimp only [List.set, L2.wipe, Int.reduceToNat]) <;> rfl))
  | with_reducible apply Rd.nxt
  | with_reducible apply Rd.ifs
  | with_reducible apply Rd.test
  | with_reducible apply Rd.testB
  | with_reducible apply Rd.exbl
  | with_reducible apply Rd.ret
  | with_reducible apply Rd.drop
  | with_reducible apply Rd.retN
  | with_reducible apply Rd.nil
  | with_reducible apply Rd.cons
  | with_reducible apply Rd.call
  | with_reducible apply Rd.cb
  | with_reducible apply Rd.and
  | with_reducible apply Rd.or
  | with_reducible apply Rd.not
  | with_reducible apply Rd.andV
  | with_reducible apply Rd.orV
  | with_reducible apply Rd.notV
  | with_reducible apply Rd.ife
  | with_reducible apply Rd.tup
  | with_reducible apply Rd.lst
  | with_reducible apply Rd.un
  | with_reducible apply Rd.chain
  | with_reducible apply Rd.brk
  | with_reducible apply Rd.cnt
  | with_reducible apply Rd.I0
  | with_reducible apply Rd.U1
  | ((with_reducible apply Rd.eq); rfl)
  | ((with_reducible apply Rd.ne); rfl)
  | ((with_reducible apply Rd.I1); (walk_at "ci"))
  | with_reducible apply Rd.lc0
  | with_reducible apply Rd.ln0
  | with_reducible apply Rd.exN
  | ((with_reducible apply Rd.iteSf); (decide +kernel))
  | ((with_reducible apply Rd.iteSt); (decide +kernel))
  | ((with_reducible apply Rd.niQ); (exact Or.inl (by walk_at "sq")); (exact ⟨rfl, rfl⟩); (rfl))
  | ((with_reducible apply Rd.inQ); (exact Or.inl (by walk_at "sq")); (exact ⟨rfl, rfl⟩); (rfl))
  | with_reducible apply Rd.rn1
  | with_reducible apply Rd.in1
  | with_reducible apply Rd.sn1
  | with_reducible apply Rd.bn1
  | with_reducible apply Rd.nn1
  | with_reducible apply Rd.rn2
  | with_reducible apply Rd.in2
  | with_reducible apply Rd.sn2
  | with_reducible apply Rd.bn2
  | with_reducible apply Rd.nn2
  | with_reducible apply Rd.nt1
  | with_reducible apply Rd.nf1
  | (with_reducible refine Rd.iteI (fun _ => ?_) (fun _ => ?_))
  | (with_reducible refine Rd.iteNI (fun _ => ?_) (fun _ => ?_))
  | (with_reducible refine iteT ?_)
  | (with_reducible refine iteF ?_)
  | (with_reducible refine Rd.iteD (fun _ => ?_) (fun _ => ?_))
  | (with_reducible refine Rd.iteN (fun _ => ?_) (fun _ => ?_))
  | with_reducible apply Rd.intI
  | with_reducible apply Rd.intB
  | with_reducible apply Rd.maxQ
  | with_reducible apply Rd.minQ
  | with_reducible apply Rd.absQ
  | with_reducible apply Rd.isN
  | with_reducible apply Rd.noN
  | with_reducible apply Rd.ltZ
  | with_reducible apply Rd.bm
  | with_reducible apply Rd.bm0
  | with_reducible apply Rd.par
  | with_reducible apply Rd.expar
  | with_reducible apply Rd.exint
  | with_reducible apply Rd.ipi
  | with_reducible apply Rd.slice
  | with_reducible apply Rd.noPart
  | with_reducible apply Rd.part
  | with_reducible apply Rd.gcons
  | with_reducible apply Rd.gnil
  | with_reducible apply Rd.iseq
  | with_reducible apply Rd.irng1
  | walk_at "isi"
  | with_reducible apply Rd.forX
  | with_reducible apply Rd.lstRev
  | with_reducible apply Rd.lstRg
  | with_reducible apply Rd.rg1
  | with_reducible apply Rd.rg2
  | with_reducible apply Rd.exint2
  | ((with_reducible apply Rd.exrev); (walk_at "sq"))
  | with_reducible apply Rd.lcX
  | with_reducible apply Rd.yes
  | ((with_reducible apply Rd.exrng1); (constructor <;> omega))
  | ((with_reducible apply Rd.exrng2); (refine ⟨?_, ?_, ?_, ?_⟩ <;> omega))
  | with_reducible apply Rd.irng2
  | ((with_reducible apply Rd.aug); rfl)
  | ((with_reducible apply Rd.exlst); (walk_at "sq"))
  | ((with_reducible apply Rd.gtup); (walk_at "st"); (rfl))
  | ((with_reducible apply Rd.tyL); (walk_at "hp"))
  | ((with_reducible apply Rd.ixL); (walk_at "sq"); (rfl))
  | ((with_reducible apply Rd.ixI); (walk_at "sq"); (omega); (first | assumption | (simp only [List.length_map]; omega)); (intro _ _))
  | (with_reducible refine Rd.gsub ?_)
  | ((with_reducible apply Rd.setL); (walk_at "hp"); (rfl); ((dsimp only [List.set, L2.wipe, Int.reduceToNat]) <;> rfl))
  | ((with_reducible apply Rd.lenQ); (first | exact Or.inl (by walk_at "sq") | exact Or.inr (by walk_at "st")))
  | ((with_reducible apply Rd.listQ); (first | exact Or.inl (by walk_at "sq") | exact Or.inr (by walk_at "st")))
  | ((with_reducible apply Rd.tupQ); (walk_at "sq"))
  | ((with_reducible apply Rd.slL); (walk_at "sq"))
  | ((with_reducible apply Rd.ixT); (walk_at "st"); (rfl))
  | (with_reducible refine Rd.iteB (fun _ => ?_) (fun _ => ?_))
  | (with_reducible refine Rd.iteNB (fun _ => ?_) (fun _ => ?_))
  | (refine Rd.andI (Nat.le_of_ble_eq_true rfl) ?_)
  | dsimp only [List.set])
local macro_rules | `(tactic| walk_at "hp") => `(tactic| first
  | assumption
  | exact upd_same
  | (refine Eq.trans (upd_ne (by first | assumption | (apply Ne.symm; assumption))) ?_; walk_at "hp")
  | (refine hpS (by assumption) ?_; walk_at "hp"))
local macro_rules | `(tactic| walk_at "al") => `(tactic| (with_reducible intro l hl; generalize hG : upd _ l _ = G; have hs := newOne hl hG; clear hG; obtain ⟨hs, he⟩ := hs))
local macro_rules | `(tactic| walk_at "rd") => `(tactic| first
  | walk_at "al"
  | ((with_reducible apply Rd.cat); (walk_at "hp"); (walk_at "hp"); (exact Nat.le_of_ble_eq_true rfl)))
local macro_rules | `(tactic| walk_at "sm") => `(tactic| first
  | assumption
  | exact Same.refl _
  | (refine Same.trans ?_ (by assumption); walk_at "sm"))
local macro_rules | `(tactic| walk_at "fr") => `(tactic| first
  | assumption
  | (refine Same.free (by assumption) ?_; walk_at "fr"))
local macro_rules | `(tactic| walk_at "ty") => `(tactic| first
  | exact dv_ty (by assumption)
  | exact tyD' (by walk_at "hp"))
/-! ### names judged -/
section
variable {P : Program} {w : World} {K : PySem.W.Frag} {mg : Str → Option Value} {base : Heap} {D : Str → Addr}
/-- a value is judged: is it a name -/
def spNamed (K : PySem.W.Frag) : Sp := fun vs H Q _ => ∃ (x : V) (d : PyData), vs = [x] ∧ Dv K H x d ∧ Sz d ∧ ∀ H', Same H H' → Q (.bl (nameD d)) H'
theorem str_cases (d : PyData) : (∃ z, d = .str z) ∨ (nameD d = false ∧ ∀ z, d ≠ .str z) := by
  cases d <;> first | exact .inl ⟨_, rfl⟩ | exact .inr ⟨rfl, fun _ e => by cases e⟩
theorem a26_in {c : Nat} : c ∈ ("abcdefghijklmnopqrstuvwxyz" : Str).cps.toList ↔ Low c := by
  refine ⟨fun h => a26.2 c h, fun h => ?_⟩
  have k : ∀ c, c < 123 → 97 ≤ c → c ∈ ("abcdefghijklmnopqrstuvwxyz" : Str).cps.toList := by decide +kernel
  exact k c (by have := h.2; omega) h.1
theorem a36_in {c : Nat} : c ∈ ("abcdefghijklmnopqrstuvwxyz0123456789" : Str).cps.toList ↔ Aln c := by
  have e : ∀ c ∈ ("abcdefghijklmnopqrstuvwxyz0123456789" : Str).cps.toList, Aln c := by decide +kernel
  refine ⟨fun h => e c h, fun h => ?_⟩
  have k : ∀ c, c < 123 → Aln c → c ∈ ("abcdefghijklmnopqrstuvwxyz0123456789" : Str).cps.toList := by decide +kernel
  refine k c ?_ h
  rcases h with h | h
  · have := h.2
    omega
  · have := h.2
    omega
local macro_rules | `(tactic| walk_at "rd") => `(tactic| first
  | with_reducible apply Rd.istr
  | with_reducible apply Rd.exstr
  | with_reducible apply Rd.leA
  | with_reducible apply Rd.leZz
  | with_reducible apply Rd.le0
  | with_reducible apply Rd.le9
  | with_reducible apply Rd.niZ)
local macro_rules | `(tactic| walk_at "sz") => `(tactic| exact sz5 (by omega))
local macro_rules | `(tactic| walk_at "rd") => `(tactic| ((with_reducible apply Rd.lenZ); (walk_at "sz")))
theorem ok__law_is_name (F : Def K mg "_law_is_name" s__law_is_name P__law_is_name) (m_isinstance : mg "isinstance" = none) (m_str : mg "str" = none) (m_len : mg "len" = none) : Cal P w K mg base 1 "_law_is_name" P__law_is_name (spNamed K) := by
  refine F.ok sc__law_is_name (fun vs H Q E h => ?_) (fun f cdv A outer s H vs Q E hr h => ?_)
  · obtain ⟨x, d, rfl, _⟩ := h
    rfl
  obtain ⟨x, d, rfl, hx, hz, q⟩ := h
  have q0 := q H (.refl H)
  refine ⟨_, (pss_cons (ps_if (PW.pt (pw_or (pt_not (pt_val (pe_callB call_isi (by rfl) m_isinstance bb_isinstance (pa_cons (pv 0 (hd := nd_word) (hcd := nc_word)) (pa_cons (pe_bltn (v := .ty "str") (u := .type "str") (by rfl) m_str bb_str rfl (hn := nn_str) (hd := nd_str)) pa_nil)) (hn := nn_isinstance) (hdb := nd_isinstance)))) (pw_or (pt_cmpR op_lt (pe_callB q_lenZ (by rfl) m_len PySem.boot_len (pa_cons (pv 0 (hd := nd_word) (hcd := nc_word)) pa_nil) (hn := nn_len) (hdb := nd_len)) pe_int (nomark _)) (pw_or1 (pt_cmpR op_gt (pe_callB q_lenZ (by rfl) m_len PySem.boot_len (pa_cons (pv 0 (hd := nd_word) (hcd := nc_word)) pa_nil) (hn := nn_len) (hdb := nd_len)) pe_int (nomark _)))))) (pss_one (ps_ret pe_bl)) pss_nil)
  (pss_cons (ps_if (pt_cmpR o_niZ (pe_ix ix_str (pv 0 (hd := nd_word) (hcd := nc_word)) pe_int (fun _ _ => rfl)) pe_str rfl) (pss_one (ps_ret pe_bl)) pss_nil)
  (pss_cons (ps_for PassesOwn.never rfl (pi_str (pv 0 (hd := nd_word) (hcd := nc_word))) (pg_name (i := 1) sc__law_is_name.nd rfl (Or.inl rfl)) (pss_one (ps_if (pt_cmpR o_niZ (pv 1 (hd := nd_sign) (hcd := nc_sign)) pe_str rfl) (pss_one (ps_ret pe_bl)) pss_nil)))
  (pss_one (ps_ret pe_bl))))), ?_⟩
  refine Rd.at0 (σ := [some x, none]) rfl ?_
  rcases str_cases d with ⟨z, rfl⟩ | ⟨e, ne⟩
  · cases hx
    have lz := hz z rfl
    change Q (.bl (nmB z)) H at q0
    repeat' (walk_at "rd")
    · rw [nmB_big (by omega)] at q0
      exact q0
    · rw [nmB_big (by omega)] at q0
      exact q0
    have l1 : 1 ≤ z.length := by omega
    have l2 : z.length ≤ 12 := by omega
    obtain ⟨c, hc⟩ := nm_head l1
    refine sign (by omega) (by decide) (by omega) fun c' hc' _ => ?_
    obtain rfl : c = c' := Option.some.inj (hc.symm.trans hc')
    repeat' (walk_at "rd")
    · rename_i nc
      rw [nmB_head hc (fun l => nc (a26_in.mpr l))] at q0
      exact q0
    rename_i yc
    have ea := nmB_all l1 l2 hc (a26_in.mp yc)
    refine forZ (fun i σ H' => ∃ v1 : Option V, σ = [some (.str z), v1] ∧ H' = H ∧ ∀ j x, j < i → (cl z)[j]? = some x → Aln x) ⟨none, rfl, rfl, fun _ _ h => absurd h (Nat.not_lt_zero _)⟩ ?_ ?_
    · rintro i x σ H' hx ⟨v1, rfl, rfl, al⟩
      repeat' (walk_at "rd")
      · rename_i nx
        rw [nmB_in (List.mem_of_getElem? hx) (fun l => nx (a36_in.mpr l))] at q0
        exact q0
      · rename_i yx
        refine ⟨_, rfl, rfl, fun j y hj hy => ?_⟩
        rcases Nat.lt_succ_iff_lt_or_eq.mp hj with h | h
        · exact al j y h hy
        · rw [h, hx] at hy
          cases hy
          exact a36_in.mp yx
    · rintro σ H' ⟨v1, rfl, rfl, al⟩
      repeat' (walk_at "rd")
      have : ((cl z).all fun c => decide (Aln c)) = true := List.all_eq_true.mpr fun x hx => by
        obtain ⟨j, hj, e⟩ := List.getElem_of_mem hx
        exact decide_eq_true (al j x (by rw [← cl_len]; exact hj) (by rw [List.getElem?_eq_getElem hj, e]))
      rw [ea, this] at q0
      exact q0
  · rw [e] at q0
    cases hx
    case str z => exact absurd rfl (ne z)
    all_goals
      repeat' (walk_at "rd")
      exact q0
theorem ok_is_name (F : Def K mg "is_name" s_is_name P_is_name) (m_isinstance : mg "isinstance" = none) (m_str : mg "str" = none) (m_len : mg "len" = none) (m_all : mg "all" = none) (c_LONGEST_NAME : ∃ t, mg "LONGEST_NAME" = some (.int 12 t)) : Cal P w K mg base 1 "is_name" P_is_name (spNamed K) := by
  refine F.ok sc_is_name (fun vs H Q E h => ?_) (fun f cdv A outer s H vs Q E hr h => ?_)
  · obtain ⟨x, d, rfl, _⟩ := h
    rfl
  obtain ⟨x, d, rfl, hx, hz, q⟩ := h
  have q0 := q H (.refl H)
  refine ⟨_, (pss_cons (ps_if (PW.pt (pw_or (pt_not (pt_val (pe_callB call_isi (by rfl) m_isinstance bb_isinstance (pa_cons (pv 0 (hd := nd_word) (hcd := nc_word)) (pa_cons (pe_bltn (v := .ty "str") (u := .type "str") (by rfl) m_str bb_str rfl (hn := nn_str) (hd := nd_str)) pa_nil)) (hn := nn_isinstance) (hdb := nd_isinstance)))) (pw_or1 (pt_not (pt_chain op_le op_le pe_int (pe_callB q_lenZ (by rfl) m_len PySem.boot_len (pa_cons (pv 0 (hd := nd_word) (hcd := nc_word)) pa_nil) (hn := nn_len) (hdb := nd_len)) (Ho.pe_const (v := 12) c_LONGEST_NAME (by rfl))))))) (pss_one (ps_ret pe_bl)) pss_nil)
  (pss_one (ps_ret (pe_and (pe_chain o_leZ o_leZ pe_str (pe_ix ix_str (pv 0 (hd := nd_word) (hcd := nc_word)) pe_int (fun _ _ => rfl)) pe_str) (pe_one (pe_callB (cr_allK (K := K) rfl rfl) (by rfl) m_all bb_all (pa_cons (pe_lc (own := [("c", 1)]) (by rfl) sc_is_name.nd (pi_str (pv 0 (hd := nd_word) (hcd := nc_word))) (blkOk_by (N := N_is_name) (sc := defScope s_is_name) (by decide +kernel)) (fun _ _ _ _ _ => (pg_name (i := 1) sc_is_name.nd rfl (Or.inl rfl))) (fun _ _ _ _ _ => pts_nil) (fun _ _ _ _ _ => (pe_or (pe_chain o_leZ o_leZ pe_str (pv 1 (hd := nd_c) (hcd := nc_c)) pe_str) (pe_one (pe_chain o_leZ o_leZ pe_str (pv 1 (hd := nd_c) (hcd := nc_c)) pe_str))))) pa_nil) (hn := nn_all) (hdb := nd_all))))))), ?_⟩
  refine Rd.at0 (σ := [some x, none]) rfl ?_
  rcases str_cases d with ⟨z, rfl⟩ | ⟨e, ne⟩
  · cases hx
    have lz := hz z rfl
    change ∀ H', Same H H' → Q (.bl (nmB z)) H' at q
    change Q (.bl (nmB z)) H at q0
    repeat' (walk_at "rd")
    · rw [nmB_big (by omega)] at q0
      exact q0
    · have l1 : 1 ≤ z.length := by omega
      have l2 : z.length ≤ 12 := by omega
      obtain ⟨c, hc⟩ := nm_head l1
      refine sign (by omega) (by decide) (by omega) fun c' hc' _ => ?_
      obtain rfl : c = c' := Option.some.inj (hc.symm.trans hc')
      repeat' (walk_at "rd")
      · have lo : Low c := ⟨by omega, by omega⟩
        have ea := nmB_all l1 l2 hc lo
        refine lcZ fun L nL => ⟨fun i h => i ≤ z.length ∧ h = upd H L (.lst (((cl z).take i).map fun c => V.bl (decide (Aln c)))), ⟨Nat.zero_le _, rfl⟩, ?_, ?_⟩
        · rintro i x h hx ⟨hi, rfl⟩
          have lt : i + 1 ≤ z.length := by
            rw [← cl_len]
            exact (List.getElem?_eq_some_iff.mp hx).1
          have key : ∀ b, b = decide (Aln x) → upd H L (.lst (((cl z).take i).map (fun c => V.bl (decide (Aln c))) ++ [V.bl b])) = upd H L (.lst (((cl z).take (i + 1)).map fun c => V.bl (decide (Aln c)))) := by
            intro b hb
            rw [List.take_add_one, hx, List.map_append, hb]
            rfl
          have sz : (((cl z).take i).map (fun c => V.bl (decide (Aln c)))).length < sizeLine := by
            rw [List.length_map, List.length_take]
            exact sz5' (by omega)
          refine turn1 ?_
          repeat' (walk_at "rd")
          refine ⟨rfl, ?_⟩
          repeat' (walk_at "rd")
          all_goals
            refine ⟨_, upd_same, sz, lt, ?_⟩
            rw [upd_upd]
            refine key _ ?_
            first
            | exact (decide_eq_true (show Aln x from by unfold Aln Low; omega)).symm
            | exact (decide_eq_false (show ¬ Aln x from by unfold Aln Low; omega)).symm
            | (by_cases y : x ≤ 57
               · rw [decide_eq_true y, decide_eq_true (show Aln x from by unfold Aln Low; omega)]
               · rw [decide_eq_false y, decide_eq_false (show ¬ Aln x from by unfold Aln Low; omega)])
        · rintro h ⟨_, rfl⟩
          rw [List.take_of_length_le (by rw [cl_len]; exact Nat.le_refl _)]
          repeat' (walk_at "rd")
          refine allB (bs := (cl z).map fun c => decide (Aln c)) (.inl (.inl ?_)) ?_
          · rw [List.map_map]
            exact upd_same
          · rw [List.all_map, show ((cl z).all (id ∘ fun c => decide (Aln c))) = nmB z from ea.symm]
            exact q _ (same_upd nL)
      · rw [nmB_head hc (fun l => by have := l.2; omega)] at q0
        exact q0
      · rw [nmB_head hc (fun l => by have := l.1; omega)] at q0
        exact q0
    · rw [nmB_big (by omega)] at q0
      exact q0
  · rw [e] at q0
    cases hx
    case str z => exact absurd rfl (ne z)
    all_goals
      repeat' (walk_at "rd")
      exact q0
end
end Kj
namespace Kj
open PySem PySem.Spec PyProof.Rows L2 Rd
/-! ### the stepper -/
local macro_rules | `(tactic| walk_at "hp") => `(tactic| first
  | assumption
  | exact upd_same
  | (refine Eq.trans (upd_ne (by first | assumption | (apply Ne.symm; assumption))) ?_; walk_at "hp"))
local macro_rules | `(tactic| walk_at "sq") => `(tactic| first
  | assumption
  | (refine Or.inl (Or.inl ?_); walk_at "hp"))
local macro_rules | `(tactic| walk_at "st") => `(tactic| first
  | assumption
  | (refine Or.inl (Or.inl ?_); walk_at "hp"))
local macro_rules | `(tactic| walk_at "ar") => `(tactic| first
  | assumption
  | omega
  | decide)
local macro_rules | `(tactic| walk_at "ci") => `(tactic| first
  | (refine (show CMul _ _ from Or.inr ⟨?_, ?_⟩) <;> omega)
  | (refine (show CMul _ _ from Or.inl ⟨?_, ?_⟩) <;> omega)
  | (show CPow _ _; exact ⟨by decide, by decide, by decide⟩)
  | (refine wide_div (b := 63) ?_ ?_ (by decide) (by decide) <;> omega)
  | (show (0 : Int) < _; omega))
local macro_rules | `(tactic| walk_at "ty") => `(tactic| first
  | exact dp_ty (by assumption)
  | exact TyX.base (TyOf.int _)
  | exact TyX.base (TyOf.str _)
  | exact TyX.base (TyOf.bl _)
  | exact TyX.base TyOf.non
  | exact tyL' (by walk_at "sq")
  | exact tyT' (by walk_at "st"))
local macro_rules | `(tactic| walk_at "isi") => `(tactic| first
  | ((with_reducible apply Rd.isiF); (walk_at "ty"); (decide))
  | ((with_reducible apply Rd.isiT); (walk_at "ty"); (decide)))
local macro_rules | `(tactic| walk_at "rd") => `(tactic| first
  | with_reducible apply Rd.seq
  | ((with_reducible apply Rd.var); rfl)
  | with_reducible apply Rd.con
  | with_reducible apply Rd.op
  | with_reducible apply Rd.asg
  | ((with_reducible apply Rd.gname); ((dsimp only [List.set, L2.wipe, Int.reduceToNat]) <;> rfl))
  | with_reducible apply Rd.nxt
  | with_reducible apply Rd.ifs
  | with_reducible apply Rd.test
  | with_reducible apply Rd.testB
  | with_reducible apply Rd.exbl
  | with_reducible apply Rd.ret
  | with_reducible apply Rd.drop
  | with_reducible apply Rd.retN
  | with_reducible apply Rd.nil
  | with_reducible apply Rd.cons
  | with_reducible apply Rd.call
  | with_reducible apply Rd.cb
  | with_reducible apply Rd.and
  | with_reducible apply Rd.or
  | with_reducible apply Rd.not
  | with_reducible apply Rd.andV
  | with_reducible apply Rd.orV
  | with_reducible apply Rd.notV
  | with_reducible apply Rd.ife
  | with_reducible apply Rd.tup
  | with_reducible apply Rd.lst
  | with_reducible apply Rd.un
  | with_reducible apply Rd.chain
  | with_reducible apply Rd.brk
  | with_reducible apply Rd.cnt
  | with_reducible apply Rd.I0
  | with_reducible apply Rd.U1
  | ((with_reducible apply Rd.eq); rfl)
  | ((with_reducible apply Rd.ne); rfl)
  | ((with_reducible apply Rd.I1); (walk_at "ci"))
  | with_reducible apply Rd.lc0
  | with_reducible apply Rd.ln0
  | with_reducible apply Rd.exN
  | ((with_reducible apply Rd.iteSf); (decide +kernel))
  | ((with_reducible apply Rd.iteSt); (decide +kernel))
  | ((with_reducible apply Rd.niQ); (exact Or.inl (by walk_at "sq")); (exact ⟨rfl, rfl⟩); (rfl))
  | ((with_reducible apply Rd.inQ); (exact Or.inl (by walk_at "sq")); (exact ⟨rfl, rfl⟩); (rfl))
  | with_reducible apply Rd.rn1
  | with_reducible apply Rd.in1
  | with_reducible apply Rd.sn1
  | with_reducible apply Rd.bn1
  | with_reducible apply Rd.nn1
  | with_reducible apply Rd.rn2
  | with_reducible apply Rd.in2
  | with_reducible apply Rd.sn2
  | with_reducible apply Rd.bn2
  | with_reducible apply Rd.nn2
  | with_reducible apply Rd.nt1
  | with_reducible apply Rd.nf1
  | (with_reducible refine Rd.iteI (fun _ => ?_) (fun _ => ?_))
  | (with_reducible refine Rd.iteNI (fun _ => ?_) (fun _ => ?_))
  | (with_reducible refine iteT ?_)
  | (with_reducible refine iteF ?_)
  | (with_reducible refine Rd.iteD (fun _ => ?_) (fun _ => ?_))
  | (with_reducible refine Rd.iteN (fun _ => ?_) (fun _ => ?_))
  | with_reducible apply Rd.intI
  | with_reducible apply Rd.intB
  | with_reducible apply Rd.maxQ
  | with_reducible apply Rd.minQ
  | with_reducible apply Rd.absQ
  | with_reducible apply Rd.isN
  | with_reducible apply Rd.noN
  | with_reducible apply Rd.ltZ
  | with_reducible apply Rd.bm
  | with_reducible apply Rd.bm0
  | with_reducible apply Rd.par
  | with_reducible apply Rd.expar
  | with_reducible apply Rd.exint
  | with_reducible apply Rd.ipi
  | with_reducible apply Rd.slice
  | with_reducible apply Rd.noPart
  | with_reducible apply Rd.part
  | with_reducible apply Rd.gcons
  | with_reducible apply Rd.gnil
  | with_reducible apply Rd.iseq
  | with_reducible apply Rd.irng1
  | walk_at "isi"
  | with_reducible apply Rd.forX
  | with_reducible apply Rd.lstRev
  | with_reducible apply Rd.lstRg
  | with_reducible apply Rd.rg1
  | with_reducible apply Rd.rg2
  | with_reducible apply Rd.exint2
  | ((with_reducible apply Rd.exrev); (walk_at "sq"))
  | with_reducible apply Rd.lcX
  | with_reducible apply Rd.yes
  | ((with_reducible apply Rd.exrng1); (constructor <;> omega))
  | ((with_reducible apply Rd.exrng2); (refine ⟨?_, ?_, ?_, ?_⟩ <;> omega))
  | with_reducible apply Rd.irng2
  | ((with_reducible apply Rd.aug); rfl)
  | ((with_reducible apply Rd.exlst); (walk_at "sq"))
  | ((with_reducible apply Rd.gtup); (walk_at "st"); (rfl))
  | ((with_reducible apply Rd.tyL); (walk_at "hp"))
  | ((with_reducible apply Rd.ixL); (walk_at "sq"); (rfl))
  | ((with_reducible apply Rd.ixI); (walk_at "sq"); (omega); (first | assumption | (simp only [List.length_map]; omega)); (intro _ _))
  | (with_reducible refine Rd.gsub ?_)
  | ((with_reducible apply Rd.setL); (walk_at "hp"); (rfl); ((dsimp only [List.set, L2.wipe, Int.reduceToNat]) <;> rfl))
  | ((with_reducible apply Rd.lenQ); (first | exact Or.inl (by walk_at "sq") | exact Or.inr (by walk_at "st")))
  | ((with_reducible apply Rd.listQ); (first | exact Or.inl (by walk_at "sq") | exact Or.inr (by walk_at "st")))
  | ((with_reducible apply Rd.tupQ); (walk_at "sq"))
  | ((with_reducible apply Rd.slL); (walk_at "sq"))
  | ((with_reducible apply Rd.ixT); (walk_at "st"); (rfl))
  | (with_reducible refine Rd.iteB (fun _ => ?_) (fun _ => ?_))
  | (with_reducible refine Rd.iteNB (fun _ => ?_) (fun _ => ?_))
  | (refine Rd.andI (Nat.le_of_ble_eq_true rfl) ?_)
  | dsimp only [List.set])
local macro_rules | `(tactic| walk_at "hp") => `(tactic| first
  | assumption
  | exact upd_same
  | (refine Eq.trans (upd_ne (by first | assumption | (apply Ne.symm; assumption))) ?_; walk_at "hp")
  | (refine hpS (by assumption) ?_; walk_at "hp"))
local macro_rules | `(tactic| walk_at "al") => `(tactic| (with_reducible intro l hl; generalize hG : upd _ l _ = G; have hs := newOne hl hG; clear hG; obtain ⟨hs, he⟩ := hs))
local macro_rules | `(tactic| walk_at "rd") => `(tactic| first
  | walk_at "al"
  | ((with_reducible apply Rd.cat); (walk_at "hp"); (walk_at "hp"); (exact Nat.le_of_ble_eq_true rfl)))
local macro_rules | `(tactic| walk_at "sm") => `(tactic| first
  | assumption
  | exact Same.refl _
  | (refine Same.trans ?_ (by assumption); walk_at "sm"))
local macro_rules | `(tactic| walk_at "fr") => `(tactic| first
  | assumption
  | (refine Same.free (by assumption) ?_; walk_at "fr"))
local macro_rules | `(tactic| walk_at "ty") => `(tactic| first
  | exact dv_ty (by assumption)
  | exact tyD' (by walk_at "hp"))
local macro_rules | `(tactic| walk_at "sz") => `(tactic| first
  | exact sz5 (by omega)
  | (simp only [add_len, one_len]; exact sz5 (by omega)))
local macro_rules | `(tactic| walk_at "rd") => `(tactic| first
  | with_reducible apply Rd.istr
  | with_reducible apply Rd.exstr
  | with_reducible apply Rd.leA
  | with_reducible apply Rd.leZz
  | with_reducible apply Rd.le0
  | with_reducible apply Rd.le9
  | with_reducible apply Rd.niZ
  | ((with_reducible apply Rd.lenZ); (walk_at "sz"))
  | ((with_reducible apply Rd.slZ); (walk_at "sz"))
  | ((with_reducible apply Rd.addZ); (walk_at "sz"))
  | with_reducible apply Rd.raiseX
  | with_reducible apply Rd.exone
  | with_reducible apply Rd.callS
  | with_reducible apply Rd.callP
  | with_reducible apply Rd.xsX
  | with_reducible apply Rd.dnewX
  | with_reducible apply Rd.tyZ)
section
variable {P : Program} {w : World} {K : PySem.W.Frag} {mg : Str → Option Value} {base : Heap}
/-- _law_is_integer(v) of a value of plain data -/
def isI : PyData → Bool
  | .int _ => true
  | _ => false
def spIsInt (K : PySem.W.Frag) : Sp := fun vs H Q _ => ∃ (x : V) (d : PyData), vs = [x] ∧ Dv K H x d ∧ Q (.bl (isI d)) H
theorem ok__law_is_integer (F : Def K mg "_law_is_integer" s__law_is_integer P__law_is_integer) (m_isinstance : mg "isinstance" = none) (m_int : mg "int" = none) (m_bool : mg "bool" = none) : Cal P w K mg base 1 "_law_is_integer" P__law_is_integer (spIsInt K) := by
  refine F.ok sc__law_is_integer (fun vs H Q E h => ?_) (fun f cdv A outer s H vs Q E hr h => ?_)
  · obtain ⟨x, d, rfl, _⟩ := h
    rfl
  obtain ⟨x, d, rfl, hx, q⟩ := h
  refine ⟨_, (pss_one (ps_ret (pe_and (pe_callB call_isi (by rfl) m_isinstance bb_isinstance (pa_cons (pv 0 (hd := nd_value) (hcd := nc_value)) (pa_cons (pe_bltn (v := .ty "int") (u := .type "int") (by rfl) m_int bb_int rfl (hn := nn_int) (hd := nd_int)) pa_nil)) (hn := nn_isinstance) (hdb := nd_isinstance)) (pe_one (pe_not (pe_callB call_isi (by rfl) m_isinstance bb_isinstance (pa_cons (pv 0 (hd := nd_value) (hcd := nc_value)) (pa_cons (pe_bltn (v := .ty "bool") (u := .type "bool") (by rfl) m_bool bb_bool rfl (hn := nn_bool) (hd := nd_bool)) pa_nil)) (hn := nn_isinstance) (hdb := nd_isinstance))))))), ?_⟩
  refine Rd.at0 (σ := [some x]) rfl ?_
  cases hx
  all_goals
    repeat' (walk_at "rd")
    exact q
end
/-! ### the law's own sameness, dicts of at most one entry within -/
section
variable {P : Program} {w : World} {K : PySem.W.Frag} {mg : Str → Option Value} {base : Heap}
/-- _law_same(one, two) of two values that hold the same data: True -/
def spSame (K : PySem.W.Frag) (n : Nat) : Sp := fun vs H Q _ => ∃ (x y : V) (d : PyData) (m : Nat), n = m + 1 ∧ vs = [x, y] ∧ Dv K H x d ∧ Dv K H y d ∧ Fd m d ∧ ∀ H', Same H H' → Q (.bl true) H'
theorem same_turn {K : PySem.W.Frag} {n : Nat} {H : Hp} {xs ys : List V} {ds : List PyData} {i : Nat} (h1 : DvAll K H xs ds) (h2 : DvAll K H ys ds) (hf : ∀ d ∈ ds, Fd n d) (hi : i < xs.length) :
    ∃ (x y : V) (d : PyData), xs[(0 + (i : Int)).toNat]? = some x ∧ ys[(0 + (i : Int)).toNat]? = some y ∧ Dv K H x d ∧ Dv K H y d ∧ Fd n d := by
  rw [show (0 + (i : Int)).toNat = i by omega]
  have hl : i < ds.length := by rw [← va_len h1]; exact hi
  have e := List.getElem?_eq_getElem hl
  obtain ⟨x, ex, dx⟩ := va_at _ _ _ _ h1 e
  obtain ⟨y, ey, dy⟩ := va_at _ _ _ _ h2 e
  exact ⟨x, y, _, ex, ey, dx, dy, hf _ (List.getElem_mem hl)⟩
local macro_rules | `(tactic| walk_at "rd") => `(tactic| first
  | ((with_reducible apply Rd.lenAs); (first | exact Or.inl (by walk_at "sq") | exact Or.inr (by walk_at "st")))
  | ((with_reducible apply Rd.lenAd); (walk_at "hp"))
  | ((with_reducible apply Rd.listDk); (walk_at "hp"); (rfl))
  | with_reducible apply Rd.din
  | with_reducible apply Rd.dget
  | with_reducible apply Rd.someF)
set_option maxHeartbeats 4000000 in
theorem ok_same1 {n : Nat} (F : Def K mg "_law_same" s__law_same P__law_same) (m_isinstance : mg "isinstance" = none) (m_bool : mg "bool" = none) (m_int : mg "int" = none) (m_str : mg "str" = none) (m_dict : mg "dict" = none) (m_len : mg "len" = none) (m_list : mg "list" = none) (m_tuple : mg "tuple" = none) (m_range : mg "range" = none) (C__law_is_integer : Cal P w K mg base 1 "_law_is_integer" P__law_is_integer (spIsInt K)) (C__law_same : Cal P w K mg base (n + 1) "_law_same" P__law_same (spSame K n)) : Cal P w K mg base (n + 2) "_law_same" P__law_same (spSame K (n + 1)) := by
  refine F.ok sc__law_same (fun vs H Q E h => ?_) (fun f cdv A outer s H vs Q E hr h => ?_)
  · obtain ⟨x, y, d, m, _, rfl, _⟩ := h
    rfl
  obtain ⟨x, y, d, m, hn, rfl, hx, hy, hf, q⟩ := h
  obtain rfl : n = m := by omega
  have q0 := q H (.refl H)
  refine ⟨_, (pss_cons (ps_if (PW.pt (pw_or (pt_cmpR o_isN (pv 0 (hd := nd_one) (hcd := nc_one)) pe_non (nomark _)) (pw_or1 (pt_cmpR o_isN (pv 1 (hd := nd_two) (hcd := nc_two)) pe_non (nomark _))))) (pss_one (ps_ret (pe_and (pe_cmpR o_isN (pv 0 (hd := nd_one) (hcd := nc_one)) pe_non (nomark _)) (pe_one (pe_cmpR o_isN (pv 1 (hd := nd_two) (hcd := nc_two)) pe_non (nomark _)))))) pss_nil)
  (pss_cons (ps_if (PW.pt (pw_or (pt_val (pe_callB call_isi (by rfl) m_isinstance bb_isinstance (pa_cons (pv 0 (hd := nd_one) (hcd := nc_one)) (pa_cons (pe_bltn (v := .ty "bool") (u := .type "bool") (by rfl) m_bool bb_bool rfl (hn := nn_bool) (hd := nd_bool)) pa_nil)) (hn := nn_isinstance) (hdb := nd_isinstance))) (pw_or1 (pt_val (pe_callB call_isi (by rfl) m_isinstance bb_isinstance (pa_cons (pv 1 (hd := nd_two) (hcd := nc_two)) (pa_cons (pe_bltn (v := .ty "bool") (u := .type "bool") (by rfl) m_bool bb_bool rfl (hn := nn_bool) (hd := nd_bool)) pa_nil)) (hn := nn_isinstance) (hdb := nd_isinstance)))))) (pss_one (ps_ret (pe_and (pe_callB call_isi (by rfl) m_isinstance bb_isinstance (pa_cons (pv 0 (hd := nd_one) (hcd := nc_one)) (pa_cons (pe_bltn (v := .ty "bool") (u := .type "bool") (by rfl) m_bool bb_bool rfl (hn := nn_bool) (hd := nd_bool)) pa_nil)) (hn := nn_isinstance) (hdb := nd_isinstance)) (pe_and (pe_callB call_isi (by rfl) m_isinstance bb_isinstance (pa_cons (pv 1 (hd := nd_two) (hcd := nc_two)) (pa_cons (pe_bltn (v := .ty "bool") (u := .type "bool") (by rfl) m_bool bb_bool rfl (hn := nn_bool) (hd := nd_bool)) pa_nil)) (hn := nn_isinstance) (hdb := nd_isinstance)) (pe_one (pe_cmpR op_eq (pv 0) (pv 1) (nomark _))))))) pss_nil)
  (pss_cons (ps_if (PW.pt (pw_or (pt_val (pe_callB call_isi (by rfl) m_isinstance bb_isinstance (pa_cons (pv 0 (hd := nd_one) (hcd := nc_one)) (pa_cons (pe_bltn (v := .ty "int") (u := .type "int") (by rfl) m_int bb_int rfl (hn := nn_int) (hd := nd_int)) pa_nil)) (hn := nn_isinstance) (hdb := nd_isinstance))) (pw_or1 (pt_val (pe_callB call_isi (by rfl) m_isinstance bb_isinstance (pa_cons (pv 1 (hd := nd_two) (hcd := nc_two)) (pa_cons (pe_bltn (v := .ty "int") (u := .type "int") (by rfl) m_int bb_int rfl (hn := nn_int) (hd := nd_int)) pa_nil)) (hn := nn_isinstance) (hdb := nd_isinstance)))))) (pss_one (ps_ret (pe_and (pe_callB call_isi (by rfl) m_isinstance bb_isinstance (pa_cons (pv 0 (hd := nd_one) (hcd := nc_one)) (pa_cons (pe_bltn (v := .ty "int") (u := .type "int") (by rfl) m_int bb_int rfl (hn := nn_int) (hd := nd_int)) pa_nil)) (hn := nn_isinstance) (hdb := nd_isinstance)) (pe_and (pe_callB call_isi (by rfl) m_isinstance bb_isinstance (pa_cons (pv 1 (hd := nd_two) (hcd := nc_two)) (pa_cons (pe_bltn (v := .ty "int") (u := .type "int") (by rfl) m_int bb_int rfl (hn := nn_int) (hd := nd_int)) pa_nil)) (hn := nn_isinstance) (hdb := nd_isinstance)) (pe_one (pe_cmpR op_eq (pv 0) (pv 1) (nomark _))))))) pss_nil)
  (pss_cons (ps_if (PW.pt (pw_or (pt_val (pe_callB call_isi (by rfl) m_isinstance bb_isinstance (pa_cons (pv 0 (hd := nd_one) (hcd := nc_one)) (pa_cons (pe_bltn (v := .ty "str") (u := .type "str") (by rfl) m_str bb_str rfl (hn := nn_str) (hd := nd_str)) pa_nil)) (hn := nn_isinstance) (hdb := nd_isinstance))) (pw_or1 (pt_val (pe_callB call_isi (by rfl) m_isinstance bb_isinstance (pa_cons (pv 1 (hd := nd_two) (hcd := nc_two)) (pa_cons (pe_bltn (v := .ty "str") (u := .type "str") (by rfl) m_str bb_str rfl (hn := nn_str) (hd := nd_str)) pa_nil)) (hn := nn_isinstance) (hdb := nd_isinstance)))))) (pss_one (ps_ret (pe_and (pe_callB call_isi (by rfl) m_isinstance bb_isinstance (pa_cons (pv 0 (hd := nd_one) (hcd := nc_one)) (pa_cons (pe_bltn (v := .ty "str") (u := .type "str") (by rfl) m_str bb_str rfl (hn := nn_str) (hd := nd_str)) pa_nil)) (hn := nn_isinstance) (hdb := nd_isinstance)) (pe_and (pe_callB call_isi (by rfl) m_isinstance bb_isinstance (pa_cons (pv 1 (hd := nd_two) (hcd := nc_two)) (pa_cons (pe_bltn (v := .ty "str") (u := .type "str") (by rfl) m_str bb_str rfl (hn := nn_str) (hd := nd_str)) pa_nil)) (hn := nn_isinstance) (hdb := nd_isinstance)) (pe_one (pe_cmpR op_eq (pv 0) (pv 1) (nomark _))))))) pss_nil)
  (pss_cons (ps_if (PW.pt (pw_or (pt_val (pe_callB call_isi (by rfl) m_isinstance bb_isinstance (pa_cons (pv 0 (hd := nd_one) (hcd := nc_one)) (pa_cons (pe_bltn (v := .ty "dict") (u := .type "dict") (by rfl) m_dict bb_dict rfl (hn := nn_dict) (hd := nd_dict)) pa_nil)) (hn := nn_isinstance) (hdb := nd_isinstance))) (pw_or1 (pt_val (pe_callB call_isi (by rfl) m_isinstance bb_isinstance (pa_cons (pv 1 (hd := nd_two) (hcd := nc_two)) (pa_cons (pe_bltn (v := .ty "dict") (u := .type "dict") (by rfl) m_dict bb_dict rfl (hn := nn_dict) (hd := nd_dict)) pa_nil)) (hn := nn_isinstance) (hdb := nd_isinstance)))))) (pss_cons (ps_if (PW.pt (pw_or (pt_not (pt_val (pe_callB call_isi (by rfl) m_isinstance bb_isinstance (pa_cons (pv 0 (hd := nd_one) (hcd := nc_one)) (pa_cons (pe_bltn (v := .ty "dict") (u := .type "dict") (by rfl) m_dict bb_dict rfl (hn := nn_dict) (hd := nd_dict)) pa_nil)) (hn := nn_isinstance) (hdb := nd_isinstance)))) (pw_or (pt_not (pt_val (pe_callB call_isi (by rfl) m_isinstance bb_isinstance (pa_cons (pv 1 (hd := nd_two) (hcd := nc_two)) (pa_cons (pe_bltn (v := .ty "dict") (u := .type "dict") (by rfl) m_dict bb_dict rfl (hn := nn_dict) (hd := nd_dict)) pa_nil)) (hn := nn_isinstance) (hdb := nd_isinstance)))) (pw_or1 (pt_cmpR op_ne (pe_callB (q_lenAK (K := K) rfl) (by rfl) m_len PySem.boot_len (pa_cons (pv 0) pa_nil)) (pe_callB (q_lenAK (K := K) rfl) (by rfl) m_len PySem.boot_len (pa_cons (pv 1) pa_nil)) (nomark _)))))) (pss_one (ps_ret pe_bl)) pss_nil)
  (pss_cons (ps_for PassesOwn.never rfl (pi_list (pe_callTy (q_listDk rfl) (by rfl) m_list bb_list (pa_cons (pv 0) pa_nil))) (pg_name (i := 2) sc__law_same.nd rfl (Or.inl rfl)) (pss_cons (ps_if (PW.pt (pw_or (pt_not (PW.pt (pw_or (pt_val (pe_callB call_isi (by rfl) m_isinstance bb_isinstance (pa_cons (pv 2 (hd := nd_key) (hcd := nc_key)) (pa_cons (pe_bltn (v := .ty "str") (u := .type "str") (by rfl) m_str bb_str rfl (hn := nn_str) (hd := nd_str)) pa_nil)) (hn := nn_isinstance) (hdb := nd_isinstance))) (pw_or1 (pt_val (pe_cal C__law_is_integer hr (pa_cons (pv 2) pa_nil) (by omega))))))) (pw_or1 (pt_cmp (pc_dnotin (hu_of hr) (pv 2) (pv 1)))))) (pss_one (ps_ret pe_bl)) pss_nil)
  (pss_one (ps_if (pt_not (pt_val (pe_cal C__law_same hr (pa_cons (pe_dget (hu_of hr) (pv 0) (pv 2) (fun _ _ => rfl)) (pa_cons (pe_dget (hu_of hr) (pv 1) (pv 2) (fun _ _ => rfl)) pa_nil)) (Nat.le_refl _)))) (pss_one (ps_ret pe_bl)) pss_nil))))
  (pss_cons (ps_for PassesOwn.never rfl (pi_list (pe_callTy (q_listDk rfl) (by rfl) m_list bb_list (pa_cons (pv 1) pa_nil))) (pg_name (i := 2) sc__law_same.nd rfl (Or.inl rfl)) (pss_one (ps_if (pt_not (PW.pt (pw_or (pt_val (pe_callB call_isi (by rfl) m_isinstance bb_isinstance (pa_cons (pv 2 (hd := nd_key) (hcd := nc_key)) (pa_cons (pe_bltn (v := .ty "str") (u := .type "str") (by rfl) m_str bb_str rfl (hn := nn_str) (hd := nd_str)) pa_nil)) (hn := nn_isinstance) (hdb := nd_isinstance))) (pw_or1 (pt_val (pe_cal C__law_is_integer hr (pa_cons (pv 2) pa_nil) (by omega))))))) (pss_one (ps_ret pe_bl)) pss_nil)))
  (pss_one (ps_ret pe_bl))))) pss_nil)
  (pss_cons (ps_set (i := 3) sc__law_same.nd rfl (Or.inl rfl) (pe_and (pe_callB call_isi (by rfl) m_isinstance bb_isinstance (pa_cons (pv 0 (hd := nd_one) (hcd := nc_one)) (pa_cons (pe_bltn (v := .ty "list") (u := .type "list") (by rfl) m_list bb_list rfl (hn := nn_list) (hd := nd_list)) pa_nil)) (hn := nn_isinstance) (hdb := nd_isinstance)) (pe_one (pe_callB call_isi (by rfl) m_isinstance bb_isinstance (pa_cons (pv 1 (hd := nd_two) (hcd := nc_two)) (pa_cons (pe_bltn (v := .ty "list") (u := .type "list") (by rfl) m_list bb_list rfl (hn := nn_list) (hd := nd_list)) pa_nil)) (hn := nn_isinstance) (hdb := nd_isinstance)))))
  (pss_cons (ps_if (PW.pt (pw_and (pt_not (pt_val (pv 3 (hd := nd_lists) (hcd := nc_lists)))) (pw_and1 (pt_not (PW.pt (pw_and (pt_val (pe_callB call_isi (by rfl) m_isinstance bb_isinstance (pa_cons (pv 0 (hd := nd_one) (hcd := nc_one)) (pa_cons (pe_bltn (v := .ty "tuple") (u := .type "tuple") (by rfl) m_tuple bb_tuple rfl (hn := nn_tuple) (hd := nd_tuple)) pa_nil)) (hn := nn_isinstance) (hdb := nd_isinstance))) (pw_and1 (pt_val (pe_callB call_isi (by rfl) m_isinstance bb_isinstance (pa_cons (pv 1 (hd := nd_two) (hcd := nc_two)) (pa_cons (pe_bltn (v := .ty "tuple") (u := .type "tuple") (by rfl) m_tuple bb_tuple rfl (hn := nn_tuple) (hd := nd_tuple)) pa_nil)) (hn := nn_isinstance) (hdb := nd_isinstance)))))))))) (pss_one (ps_ret pe_bl)) pss_nil)
  (pss_cons (ps_if (pt_cmpR op_ne (pe_callB (q_lenAK (K := K) rfl) (by rfl) m_len PySem.boot_len (pa_cons (pv 0) pa_nil)) (pe_callB (q_lenAK (K := K) rfl) (by rfl) m_len PySem.boot_len (pa_cons (pv 1) pa_nil)) (nomark _)) (pss_one (ps_ret pe_bl)) pss_nil)
  (pss_cons (ps_for PassesOwn.never rfl (pi_range1 (by rfl) m_range (pa_cons (pe_callB (q_lenAK (K := K) rfl) (by rfl) m_len PySem.boot_len (pa_cons (pv 0) pa_nil)) pa_nil)) (pg_name (i := 4) sc__law_same.nd rfl (Or.inl rfl)) (pss_one (ps_if (pt_not (pt_val (pe_cal C__law_same hr (pa_cons (pe_ix ix_seq (pv 0) (pv 4) (fun _ _ => rfl)) (pa_cons (pe_ix ix_seq (pv 1) (pv 4) (fun _ _ => rfl)) pa_nil)) (Nat.le_refl _)))) (pss_one (ps_ret pe_bl)) pss_nil)))
  (pss_one (ps_ret pe_bl))))))))))), ?_⟩
  refine Rd.at0 (σ := [some x, some y, none, none, none]) rfl ?_
  have eqv : ∀ v : V, decide (v = v) = true := fun v => decide_eq_true rfl
  cases hx with
  | non =>
    cases hy
    repeat' (walk_at "rd")
    rw [eqv]
    exact q0
  | bl b =>
    cases hy
    repeat' (walk_at "rd")
    rw [eqv]
    exact q0
  | int i =>
    cases hy
    repeat' (walk_at "rd")
    rw [eqv]
    exact q0
  | str z =>
    cases hy
    repeat' (walk_at "rd")
    rw [eqv]
    exact q0
  | lst h1 r1 =>
    cases hy with
    | lst h2 r2 =>
      rename_i a xs ds b ys
      cases hf with
      | lst hd hf =>
        rename_i n
        have l1 := va_len r1
        have l2 := va_len r2
        repeat' (walk_at "rd")
        · omega
        refine forR (fun i σ H' => ∃ v4 : Option V, σ = [some (.ref a), some (.ref b), none, some (.bl true), v4] ∧ Same H H') ⟨none, rfl, .refl _⟩ ?_ ?_
        · rintro i σ H' hi ⟨v4, rfl, sm⟩
          obtain ⟨x, y, d, ex, ey, dx, dy, fd⟩ := same_turn r1 r2 hf (show i < xs.length by omega)
          repeat' (walk_at "rd")
          refine .inl (ixN' (sm.seq h1) (by omega) ex ?_)
          repeat' (walk_at "rd")
          refine .inl (ixN' (sm.seq h2) (by omega) ey ?_)
          repeat' (walk_at "rd")
          refine ⟨x, y, d, n, rfl, rfl, dv_same sm dx, dv_same sm dy, fd, fun H2 s2 => ?_⟩
          repeat' (walk_at "rd")
          exact ⟨_, rfl, sm.trans s2⟩
        · rintro σ H' ⟨v4, rfl, sm⟩
          repeat' (walk_at "rd")
          exact q H' sm
  | tup h1 r1 =>
    cases hy with
    | tup h2 r2 =>
      rename_i a xs ds b ys
      cases hf with
      | tup hd hf =>
        rename_i n
        have l1 := va_len r1
        have l2 := va_len r2
        repeat' (walk_at "rd")
        · omega
        refine forR (fun i σ H' => ∃ v4 : Option V, σ = [some (.ref a), some (.ref b), none, some (.bl false), v4] ∧ Same H H') ⟨none, rfl, .refl _⟩ ?_ ?_
        · rintro i σ H' hi ⟨v4, rfl, sm⟩
          obtain ⟨x, y, d, ex, ey, dx, dy, fd⟩ := same_turn r1 r2 hf (show i < xs.length by omega)
          repeat' (walk_at "rd")
          refine .inr (.inl (ixT' (sqT_same sm h1) (by omega) ex ?_))
          repeat' (walk_at "rd")
          refine .inr (.inl (ixT' (sqT_same sm h2) (by omega) ey ?_))
          repeat' (walk_at "rd")
          refine ⟨x, y, d, n, rfl, rfl, dv_same sm dx, dv_same sm dy, fd, fun H2 s2 => ?_⟩
          repeat' (walk_at "rd")
          exact ⟨_, rfl, sm.trans s2⟩
        · rintro σ H' ⟨v4, rfl, sm⟩
          repeat' (walk_at "rd")
          exact q H' sm
  | @dc0 a h1 =>
    cases hy with
    | @dc0 b h2 =>
      repeat' (walk_at "rd")
      · rename_i z
        exact absurd rfl z
      rename_i l hl G hs he
      refine forL [] (fun i σ H' => H' = G ∧ σ = [some (.ref a), some (.ref b), none, none, none]) ⟨rfl, rfl⟩ (fun _ _ _ _ h => by rw [h.1]; exact .inl (.inl he)) (fun i x σ H' hx => by cases hx) ?_
      rintro σ H' ⟨rfl, rfl⟩
      repeat' (walk_at "rd")
      rename_i l2 hl2 G2 hs2 he2
      refine forL [] (fun i σ H' => H' = G2 ∧ σ = [some (.ref a), some (.ref b), none, none, none]) ⟨rfl, rfl⟩ (fun _ _ _ _ h => by rw [h.1]; exact .inl (.inl he2)) (fun i x σ H' hx => by cases hx) ?_
      rintro σ H' ⟨rfl, rfl⟩
      repeat' (walk_at "rd")
      exact q _ (hs.trans hs2)
  | @dc1 a k v d h1 d1 =>
    cases hy with
    | @dc1 b _ v' _ h2 d2 =>
      cases hf with
      | dc1 hf =>
        rename_i n
        have one : ∀ {i : Nat} {x : V}, [V.str k][i]? = some x → V.str k = x := fun {i x} hx => by
          match i, hx with
          | 0, hx => exact Option.some.inj hx
        repeat' (walk_at "rd")
        · rename_i z
          exact absurd rfl z
        rename_i l hl G hs he
        refine forL [V.str k] (fun i σ H' => ∃ v2, σ = [some (.ref a), some (.ref b), v2, none, none] ∧ Same G H') ⟨none, rfl, .refl _⟩ (fun _ _ _ _ ⟨_, _, s⟩ => s.seq (.inl (.inl he))) ?_ ?_
        · rintro i x σ H' hx ⟨v2, rfl, sm⟩
          obtain rfl := one hx
          have sm' := hs.trans sm
          have h1' := sm' _ _ h1
          have h2' := sm' _ _ h2
          repeat' (walk_at "rd")
          refine ⟨b, some v', rfl, dget_k h2', ?_⟩
          repeat' (walk_at "rd")
          refine ⟨a, v, rfl, dget_k h1', ?_⟩
          repeat' (walk_at "rd")
          refine ⟨b, v', rfl, dget_k h2', ?_⟩
          repeat' (walk_at "rd")
          refine ⟨v, v', d, n, rfl, rfl, dv_same sm' d1, dv_same sm' d2, hf, fun H2 s2 => ?_⟩
          repeat' (walk_at "rd")
          exact ⟨_, rfl, sm.trans s2⟩
        · rintro σ H' ⟨v2, rfl, sm⟩
          repeat' (walk_at "rd")
          rename_i l2 hl2 G2 hs2 he2
          refine forL [V.str k] (fun i σ H' => ∃ v2, σ = [some (.ref a), some (.ref b), v2, none, none] ∧ H' = G2) ⟨v2, rfl, rfl⟩ (fun _ _ _ _ ⟨_, _, e⟩ => by rw [e]; exact .inl (.inl he2)) ?_ ?_
          · rintro i x σ H' hx ⟨v2, rfl, rfl⟩
            obtain rfl := one hx
            repeat' (walk_at "rd")
            exact ⟨_, rfl, rfl⟩
          · rintro σ H' ⟨v2, rfl, rfl⟩
            repeat' (walk_at "rd")
            exact q _ ((hs.trans sm).trans hs2)
theorem ok__law_same (F : Def K mg "_law_same" s__law_same P__law_same) (m_isinstance : mg "isinstance" = none) (m_bool : mg "bool" = none) (m_int : mg "int" = none) (m_str : mg "str" = none) (m_dict : mg "dict" = none) (m_len : mg "len" = none) (m_list : mg "list" = none) (m_tuple : mg "tuple" = none) (m_range : mg "range" = none) (C__law_is_integer : Cal P w K mg base 1 "_law_is_integer" P__law_is_integer (spIsInt K)) : ∀ n : Nat, Cal P w K mg base (n + 1) "_law_same" P__law_same (spSame K n)
  | 0 => ((Def.none F).imp fun _ _ _ _ ⟨_, _, _, _, z, _⟩ => by omega).mono (Nat.zero_le _)
  | n + 1 => ok_same1 F m_isinstance m_bool m_int m_str m_dict m_len m_list m_tuple m_range C__law_is_integer (ok__law_same F m_isinstance m_bool m_int m_str m_dict m_len m_list m_tuple m_range C__law_is_integer n)
end
end Kj
namespace Kj
open PySem PySem.Spec PyProof.Rows L2 Rd
/-! ### the stepper -/
local macro_rules | `(tactic| walk_at "hp") => `(tactic| first
  | assumption
  | exact upd_same
  | (refine Eq.trans (upd_ne (by first | assumption | (apply Ne.symm; assumption))) ?_; walk_at "hp"))
local macro_rules | `(tactic| walk_at "sq") => `(tactic| first
  | assumption
  | (refine Or.inl (Or.inl ?_); walk_at "hp"))
local macro_rules | `(tactic| walk_at "st") => `(tactic| first
  | assumption
  | (refine Or.inl (Or.inl ?_); walk_at "hp"))
local macro_rules | `(tactic| walk_at "ar") => `(tactic| first
  | assumption
  | omega
  | decide)
local macro_rules | `(tactic| walk_at "ci") => `(tactic| first
  | (refine (show CMul _ _ from Or.inr ⟨?_, ?_⟩) <;> omega)
  | (refine (show CMul _ _ from Or.inl ⟨?_, ?_⟩) <;> omega)
  | (show CPow _ _; exact ⟨by decide, by decide, by decide⟩)
  | (refine wide_div (b := 63) ?_ ?_ (by decide) (by decide) <;> omega)
  | (show (0 : Int) < _; omega))
local macro_rules | `(tactic| walk_at "ty") => `(tactic| first
  | exact dp_ty (by assumption)
  | exact TyX.base (TyOf.int _)
  | exact TyX.base (TyOf.str _)
  | exact TyX.base (TyOf.bl _)
  | exact TyX.base TyOf.non
  | exact tyL' (by walk_at "sq")
  | exact tyT' (by walk_at "st"))
local macro_rules | `(tactic| walk_at "isi") => `(tactic| first
  | ((with_reducible apply Rd.isiF); (walk_at "ty"); (decide))
  | ((with_reducible apply Rd.isiT); (walk_at "ty"); (decide)))
local macro_rules | `(tactic| walk_at "rd") => `(tactic| first
  | with_reducible apply Rd.seq
  | ((with_reducible apply Rd.var); rfl)
  | with_reducible apply Rd.con
  | with_reducible apply Rd.op
  | with_reducible apply Rd.asg
  | ((with_reducible apply Rd.gname); ((dsimp only [List.set, L2.wipe, Int.reduceToNat]) <;> rfl))
  | with_reducible apply Rd.nxt
  | with_reducible apply Rd.ifs
  | with_reducible apply Rd.test
  | with_reducible apply Rd.testB
  | with_reducible apply Rd.exbl
  | with_reducible apply Rd.ret
  | with_reducible apply Rd.drop
  | with_reducible apply Rd.retN
  | with_reducible apply Rd.nil
  | with_reducible apply Rd.cons
  | with_reducible apply Rd.call
  | with_reducible apply Rd.cb
  | with_reducible apply Rd.and
  | with_reducible apply Rd.or
  | with_reducible apply Rd.not
  | with_reducible apply Rd.andV
  | with_reducible apply Rd.orV
  | with_reducible apply Rd.notV
  | with_reducible apply Rd.ife
  | with_reducible apply Rd.tup
  | with_reducible apply Rd.lst
  | with_reducible apply Rd.un
  | with_reducible apply Rd.chain
  | with_reducible apply Rd.brk
  | with_reducible apply Rd.cnt
  | with_reducible apply Rd.I0
  | with_reducible apply Rd.U1
  | ((with_reducible apply Rd.eq); rfl)
  | ((with_reducible apply Rd.ne); rfl)
  | ((with_reducible apply Rd.I1); (walk_at "ci"))
  | with_reducible apply Rd.lc0
  | with_reducible apply Rd.ln0
  | with_reducible apply Rd.exN
  | ((with_reducible apply Rd.iteSf); (decide +kernel))
  | ((with_reducible apply Rd.iteSt); (decide +kernel))
  | ((with_reducible apply Rd.niQ); (exact Or.inl (by walk_at "sq")); (exact ⟨rfl, rfl⟩); (rfl))
  | ((with_reducible apply Rd.inQ); (exact Or.inl (by walk_at "sq")); (exact ⟨rfl, rfl⟩); (rfl))
  | with_reducible apply Rd.rn1
  | with_reducible apply Rd.in1
  | with_reducible apply Rd.sn1
  | with_reducible apply Rd.bn1
  | with_reducible apply Rd.nn1
  | with_reducible apply Rd.rn2
  | with_reducible apply Rd.in2
  | with_reducible apply Rd.sn2
  | with_reducible apply Rd.bn2
  | with_reducible apply Rd.nn2
  | with_reducible apply Rd.nt1
  | with_reducible apply Rd.nf1
  | (with_reducible refine Rd.iteI (fun _ => ?_) (fun _ => ?_))
  | (with_reducible refine Rd.iteNI (fun _ => ?_) (fun _ => ?_))
  | (with_reducible refine iteT ?_)
  | (with_reducible refine iteF ?_)
  | (with_reducible refine Rd.iteD (fun _ => ?_) (fun _ => ?_))
  | (with_reducible refine Rd.iteN (fun _ => ?_) (fun _ => ?_))
  | with_reducible apply Rd.intI
  | with_reducible apply Rd.intB
  | with_reducible apply Rd.maxQ
  | with_reducible apply Rd.minQ
  | with_reducible apply Rd.absQ
  | with_reducible apply Rd.isN
  | with_reducible apply Rd.noN
  | with_reducible apply Rd.ltZ
  | with_reducible apply Rd.bm
  | with_reducible apply Rd.bm0
  | with_reducible apply Rd.par
  | with_reducible apply Rd.expar
  | with_reducible apply Rd.exint
  | with_reducible apply Rd.ipi
  | with_reducible apply Rd.slice
  | with_reducible apply Rd.noPart
  | with_reducible apply Rd.part
  | with_reducible apply Rd.gcons
  | with_reducible apply Rd.gnil
  | with_reducible apply Rd.iseq
  | with_reducible apply Rd.irng1
  | walk_at "isi"
  | with_reducible apply Rd.forX
  | with_reducible apply Rd.lstRev
  | with_reducible apply Rd.lstRg
  | with_reducible apply Rd.rg1
  | with_reducible apply Rd.rg2
  | with_reducible apply Rd.exint2
  | ((with_reducible apply Rd.exrev); (walk_at "sq"))
  | with_reducible apply Rd.lcX
  | with_reducible apply Rd.yes
  | ((with_reducible apply Rd.exrng1); (constructor <;> omega))
  | ((with_reducible apply Rd.exrng2); (refine ⟨?_, ?_, ?_, ?_⟩ <;> omega))
  | with_reducible apply Rd.irng2
  | ((with_reducible apply Rd.aug); rfl)
  | ((with_reducible apply Rd.exlst); (walk_at "sq"))
  | ((with_reducible apply Rd.gtup); (walk_at "st"); (rfl))
  | ((with_reducible apply Rd.tyL); (walk_at "hp"))
  | ((with_reducible apply Rd.ixL); (walk_at "sq"); (rfl))
  | ((with_reducible apply Rd.ixI); (walk_at "sq"); (omega); (first | assumption | (simp only [List.length_map]; omega)); (intro _ _))
  | (with_reducible refine Rd.gsub ?_)
  | ((with_reducible apply Rd.setL); (walk_at "hp"); (rfl); ((dsimp only [List.set, L2.wipe, Int.reduceToNat]) <;> rfl))
  | ((with_reducible apply Rd.lenQ); (first | exact Or.inl (by walk_at "sq") | exact Or.inr (by walk_at "st")))
  | ((with_reducible apply Rd.listQ); (first | exact Or.inl (by walk_at "sq") | exact Or.inr (by walk_at "st")))
  | ((with_reducible apply Rd.tupQ); (walk_at "sq"))
  | ((with_reducible apply Rd.slL); (walk_at "sq"))
  | ((with_reducible apply Rd.ixT); (walk_at "st"); (rfl))
  | (with_reducible refine Rd.iteB (fun _ => ?_) (fun _ => ?_))
  | (with_reducible refine Rd.iteNB (fun _ => ?_) (fun _ => ?_))
  | (refine Rd.andI (Nat.le_of_ble_eq_true rfl) ?_)
  | dsimp only [List.set])
local macro_rules | `(tactic| walk_at "hp") => `(tactic| first
  | assumption
  | exact upd_same
  | (refine Eq.trans (upd_ne (by first | assumption | (apply Ne.symm; assumption))) ?_; walk_at "hp")
  | (refine hpS (by assumption) ?_; walk_at "hp"))
local macro_rules | `(tactic| walk_at "al") => `(tactic| (with_reducible intro l hl; generalize hG : upd _ l _ = G; have hs := newOne hl hG; clear hG; obtain ⟨hs, he⟩ := hs))
local macro_rules | `(tactic| walk_at "rd") => `(tactic| first
  | walk_at "al"
  | ((with_reducible apply Rd.cat); (walk_at "hp"); (walk_at "hp"); (exact Nat.le_of_ble_eq_true rfl)))
local macro_rules | `(tactic| walk_at "sm") => `(tactic| first
  | assumption
  | exact Same.refl _
  | (refine Same.trans ?_ (by assumption); walk_at "sm"))
local macro_rules | `(tactic| walk_at "fr") => `(tactic| first
  | assumption
  | (refine Same.free (by assumption) ?_; walk_at "fr"))
local macro_rules | `(tactic| walk_at "ty") => `(tactic| first
  | exact dv_ty (by assumption)
  | exact tyD' (by walk_at "hp"))
local macro_rules | `(tactic| walk_at "sz") => `(tactic| first
  | exact sz5 (by omega)
  | (simp only [add_len, one_len]; exact sz5 (by omega)))
local macro_rules | `(tactic| walk_at "rd") => `(tactic| first
  | with_reducible apply Rd.istr
  | with_reducible apply Rd.exstr
  | with_reducible apply Rd.leA
  | with_reducible apply Rd.leZz
  | with_reducible apply Rd.le0
  | with_reducible apply Rd.le9
  | with_reducible apply Rd.niZ
  | ((with_reducible apply Rd.lenZ); (walk_at "sz"))
  | ((with_reducible apply Rd.slZ); (walk_at "sz"))
  | ((with_reducible apply Rd.addZ); (walk_at "sz"))
  | with_reducible apply Rd.raiseX
  | with_reducible apply Rd.exone
  | with_reducible apply Rd.callS
  | with_reducible apply Rd.callP
  | with_reducible apply Rd.xsX
  | with_reducible apply Rd.dnewX
  | with_reducible apply Rd.tyZ)
/-! ### keys; tours turned and linked -/
open Ty
section
variable {P : Program} {w : World} {K : PySem.W.Frag} {mg : Str → Option Value} {base : Heap} {D : Str → Addr}
def spHouseKey : Sp := fun vs H Q _ => ∃ x : Str, vs = [.str x] ∧ ∀ (t : Addr) (H' : Hp), H t = none → Same H H' → H' t = some (.tup [.str "house", .str x]) → Q (.ref t) H'
def spArcKey : Sp := fun vs H Q _ => ∃ l x y : Str, vs = [.str l, .str x, .str y] ∧ ∀ (t : Addr) (H' : Hp), H t = none → Same H H' → H' t = some (.tup [.str "arc", .str l, .str x, .str y]) → Q (.ref t) H'
def spStarts : Sp := fun vs H Q _ => ∃ (v : V) (k : Ky), vs = [v] ∧ KV H v k ∧ Q (.str k.start) H
theorem ok_starts_at (F : Def K mg "starts_at" s_starts_at P_starts_at) (m_len : mg "len" = none) : Cal P w K mg base 1 "starts_at" P_starts_at spStarts := by
  refine F.ok sc_starts_at (fun vs H Q E h => ?_) (fun f cdv A outer s H vs Q E hr h => ?_)
  · obtain ⟨v, k, rfl, _⟩ := h
    rfl
  obtain ⟨v, k, rfl, ⟨_, t, rfl, ht⟩, q⟩ := h
  refine ⟨_, (pss_one (ps_ret (pe_ifExp (pt_cmpR op_eq (pe_callB q_len (by rfl) m_len PySem.boot_len (pa_cons (pv 0 (hd := nd_key) (hcd := nc_key)) pa_nil) (hn := nn_len) (hdb := nd_len)) pe_int (nomark _)) (pe_ix ix_tup (pv 0 (hd := nd_key) (hcd := nc_key)) pe_int (fun _ _ => rfl)) (pe_ix ix_tup (pv 0 (hd := nd_key) (hcd := nc_key)) pe_int (fun _ _ => rfl))))), ?_⟩
  refine Rd.at0 (σ := [some (.ref t)]) rfl ?_
  cases k with
  | h x =>
    have ht : H t = some (.tup [.str "house", .str x]) := ht
    repeat' (walk_at "rd")
    all_goals first | exact q | (rename_i c; exact absurd rfl c) | (rename_i c; exact absurd (show (4 : Int) = 2 from c) (by decide))
  | a l x y =>
    have ht : H t = some (.tup [.str "arc", .str l, .str x, .str y]) := ht
    repeat' (walk_at "rd")
    all_goals first | exact q | (rename_i c; exact absurd rfl c) | (rename_i c; exact absurd (show (4 : Int) = 2 from c) (by decide))
def spStops : Sp := fun vs H Q _ => ∃ (v : V) (k : Ky), vs = [v] ∧ KV H v k ∧ Q (.str k.stop) H
theorem ok_stops_at (F : Def K mg "stops_at" s_stops_at P_stops_at) (m_len : mg "len" = none) : Cal P w K mg base 1 "stops_at" P_stops_at spStops := by
  refine F.ok sc_stops_at (fun vs H Q E h => ?_) (fun f cdv A outer s H vs Q E hr h => ?_)
  · obtain ⟨v, k, rfl, _⟩ := h
    rfl
  obtain ⟨v, k, rfl, ⟨_, t, rfl, ht⟩, q⟩ := h
  refine ⟨_, (pss_one (ps_ret (pe_ifExp (pt_cmpR op_eq (pe_callB q_len (by rfl) m_len PySem.boot_len (pa_cons (pv 0 (hd := nd_key) (hcd := nc_key)) pa_nil) (hn := nn_len) (hdb := nd_len)) pe_int (nomark _)) (pe_ix ix_tup (pv 0 (hd := nd_key) (hcd := nc_key)) pe_int (fun _ _ => rfl)) (pe_ix ix_tup (pv 0 (hd := nd_key) (hcd := nc_key)) pe_int (fun _ _ => rfl))))), ?_⟩
  refine Rd.at0 (σ := [some (.ref t)]) rfl ?_
  cases k with
  | h x =>
    have ht : H t = some (.tup [.str "house", .str x]) := ht
    repeat' (walk_at "rd")
    all_goals first | exact q | (rename_i c; exact absurd rfl c) | (rename_i c; exact absurd (show (4 : Int) = 2 from c) (by decide))
  | a l x y =>
    have ht : H t = some (.tup [.str "arc", .str l, .str x, .str y]) := ht
    repeat' (walk_at "rd")
    all_goals first | exact q | (rename_i c; exact absurd rfl c) | (rename_i c; exact absurd (show (4 : Int) = 2 from c) (by decide))
end
end Kj
namespace Kj
open PySem PySem.Spec PyProof.Rows L2 Rd
/-! ### the stepper -/
local macro_rules | `(tactic| walk_at "hp") => `(tactic| first
  | assumption
  | exact upd_same
  | (refine Eq.trans (upd_ne (by first | assumption | (apply Ne.symm; assumption))) ?_; walk_at "hp"))
local macro_rules | `(tactic| walk_at "sq") => `(tactic| first
  | assumption
  | (refine Or.inl (Or.inl ?_); walk_at "hp"))
local macro_rules | `(tactic| walk_at "st") => `(tactic| first
  | assumption
  | (refine Or.inl (Or.inl ?_); walk_at "hp"))
local macro_rules | `(tactic| walk_at "ar") => `(tactic| first
  | assumption
  | omega
  | decide)
local macro_rules | `(tactic| walk_at "ci") => `(tactic| first
  | (refine (show CMul _ _ from Or.inr ⟨?_, ?_⟩) <;> omega)
  | (refine (show CMul _ _ from Or.inl ⟨?_, ?_⟩) <;> omega)
  | (show CPow _ _; exact ⟨by decide, by decide, by decide⟩)
  | (refine wide_div (b := 63) ?_ ?_ (by decide) (by decide) <;> omega)
  | (show (0 : Int) < _; omega))
local macro_rules | `(tactic| walk_at "ty") => `(tactic| first
  | exact dp_ty (by assumption)
  | exact TyX.base (TyOf.int _)
  | exact TyX.base (TyOf.str _)
  | exact TyX.base (TyOf.bl _)
  | exact TyX.base TyOf.non
  | exact tyL' (by walk_at "sq")
  | exact tyT' (by walk_at "st"))
local macro_rules | `(tactic| walk_at "isi") => `(tactic| first
  | ((with_reducible apply Rd.isiF); (walk_at "ty"); (decide))
  | ((with_reducible apply Rd.isiT); (walk_at "ty"); (decide)))
local macro_rules | `(tactic| walk_at "rd") => `(tactic| first
  | with_reducible apply Rd.seq
  | ((with_reducible apply Rd.var); rfl)
  | with_reducible apply Rd.con
  | with_reducible apply Rd.op
  | with_reducible apply Rd.asg
  | ((with_reducible apply Rd.gname); ((dsimp only [List.set, L2.wipe, Int.reduceToNat]) <;> rfl))
  | with_reducible apply Rd.nxt
  | with_reducible apply Rd.ifs
  | with_reducible apply Rd.test
  | with_reducible apply Rd.testB
  | with_reducible apply Rd.exbl
  | with_reducible apply Rd.ret
  | with_reducible apply Rd.drop
  | with_reducible apply Rd.retN
  | with_reducible apply Rd.nil
  | with_reducible apply Rd.cons
  | with_reducible apply Rd.call
  | with_reducible apply Rd.cb
  | with_reducible apply Rd.and
  | with_reducible apply Rd.or
  | with_reducible apply Rd.not
  | with_reducible apply Rd.andV
  | with_reducible apply Rd.orV
  | with_reducible apply Rd.notV
  | with_reducible apply Rd.ife
  | with_reducible apply Rd.tup
  | with_reducible apply Rd.lst
  | with_reducible apply Rd.un
  | with_reducible apply Rd.chain
  | with_reducible apply Rd.brk
  | with_reducible apply Rd.cnt
  | with_reducible apply Rd.I0
  | with_reducible apply Rd.U1
  | ((with_reducible apply Rd.eq); rfl)
  | ((with_reducible apply Rd.ne); rfl)
  | ((with_reducible apply Rd.I1); (walk_at "ci"))
  | with_reducible apply Rd.lc0
  | with_reducible apply Rd.ln0
  | with_reducible apply Rd.exN
  | ((with_reducible apply Rd.iteSf); (decide +kernel))
  | ((with_reducible apply Rd.iteSt); (decide +kernel))
  | ((with_reducible apply Rd.niQ); (exact Or.inl (by walk_at "sq")); (exact ⟨rfl, rfl⟩); (rfl))
  | ((with_reducible apply Rd.inQ); (exact Or.inl (by walk_at "sq")); (exact ⟨rfl, rfl⟩); (rfl))
  | with_reducible apply Rd.rn1
  | with_reducible apply Rd.in1
  | with_reducible apply Rd.sn1
  | with_reducible apply Rd.bn1
  | with_reducible apply Rd.nn1
  | with_reducible apply Rd.rn2
  | with_reducible apply Rd.in2
  | with_reducible apply Rd.sn2
  | with_reducible apply Rd.bn2
  | with_reducible apply Rd.nn2
  | with_reducible apply Rd.nt1
  | with_reducible apply Rd.nf1
  | (with_reducible refine Rd.iteI (fun _ => ?_) (fun _ => ?_))
  | (with_reducible refine Rd.iteNI (fun _ => ?_) (fun _ => ?_))
  | (with_reducible refine iteT ?_)
  | (with_reducible refine iteF ?_)
  | (with_reducible refine Rd.iteD (fun _ => ?_) (fun _ => ?_))
  | (with_reducible refine Rd.iteN (fun _ => ?_) (fun _ => ?_))
  | with_reducible apply Rd.intI
  | with_reducible apply Rd.intB
  | with_reducible apply Rd.maxQ
  | with_reducible apply Rd.minQ
  | with_reducible apply Rd.absQ
  | with_reducible apply Rd.isN
  | with_reducible apply Rd.noN
  | with_reducible apply Rd.ltZ
  | with_reducible apply Rd.bm
  | with_reducible apply Rd.bm0
  | with_reducible apply Rd.par
  | with_reducible apply Rd.expar
  | with_reducible apply Rd.exint
  | with_reducible apply Rd.ipi
  | with_reducible apply Rd.slice
  | with_reducible apply Rd.noPart
  | with_reducible apply Rd.part
  | with_reducible apply Rd.gcons
  | with_reducible apply Rd.gnil
  | with_reducible apply Rd.iseq
  | with_reducible apply Rd.irng1
  | walk_at "isi"
  | with_reducible apply Rd.forX
  | with_reducible apply Rd.lstRev
  | with_reducible apply Rd.lstRg
  | with_reducible apply Rd.rg1
  | with_reducible apply Rd.rg2
  | with_reducible apply Rd.exint2
  | ((with_reducible apply Rd.exrev); (walk_at "sq"))
  | with_reducible apply Rd.lcX
  | with_reducible apply Rd.yes
  | ((with_reducible apply Rd.exrng1); (constructor <;> omega))
  | ((with_reducible apply Rd.exrng2); (refine ⟨?_, ?_, ?_, ?_⟩ <;> omega))
  | with_reducible apply Rd.irng2
  | ((with_reducible apply Rd.aug); rfl)
  | ((with_reducible apply Rd.exlst); (walk_at "sq"))
  | ((with_reducible apply Rd.gtup); (walk_at "st"); (rfl))
  | ((with_reducible apply Rd.tyL); (walk_at "hp"))
  | ((with_reducible apply Rd.ixL); (walk_at "sq"); (rfl))
  | ((with_reducible apply Rd.ixI); (walk_at "sq"); (omega); (first | assumption | (simp only [List.length_map]; omega)); (intro _ _))
  | (with_reducible refine Rd.gsub ?_)
  | ((with_reducible apply Rd.setL); (walk_at "hp"); (rfl); ((dsimp only [List.set, L2.wipe, Int.reduceToNat]) <;> rfl))
  | ((with_reducible apply Rd.lenQ); (first | exact Or.inl (by walk_at "sq") | exact Or.inr (by walk_at "st")))
  | ((with_reducible apply Rd.listQ); (first | exact Or.inl (by walk_at "sq") | exact Or.inr (by walk_at "st")))
  | ((with_reducible apply Rd.tupQ); (walk_at "sq"))
  | ((with_reducible apply Rd.slL); (walk_at "sq"))
  | ((with_reducible apply Rd.ixT); (walk_at "st"); (rfl))
  | (with_reducible refine Rd.iteB (fun _ => ?_) (fun _ => ?_))
  | (with_reducible refine Rd.iteNB (fun _ => ?_) (fun _ => ?_))
  | (refine Rd.andI (Nat.le_of_ble_eq_true rfl) ?_)
  | dsimp only [List.set])
local macro_rules | `(tactic| walk_at "hp") => `(tactic| first
  | assumption
  | exact upd_same
  | (refine Eq.trans (upd_ne (by first | assumption | (apply Ne.symm; assumption))) ?_; walk_at "hp")
  | (refine hpS (by assumption) ?_; walk_at "hp"))
local macro_rules | `(tactic| walk_at "al") => `(tactic| (with_reducible intro l hl; generalize hG : upd _ l _ = G; have hs := newOne hl hG; clear hG; obtain ⟨hs, he⟩ := hs))
local macro_rules | `(tactic| walk_at "rd") => `(tactic| first
  | walk_at "al"
  | ((with_reducible apply Rd.cat); (walk_at "hp"); (walk_at "hp"); (exact Nat.le_of_ble_eq_true rfl)))
local macro_rules | `(tactic| walk_at "sm") => `(tactic| first
  | assumption
  | exact Same.refl _
  | (refine Same.trans ?_ (by assumption); walk_at "sm"))
local macro_rules | `(tactic| walk_at "fr") => `(tactic| first
  | assumption
  | (refine Same.free (by assumption) ?_; walk_at "fr"))
local macro_rules | `(tactic| walk_at "ty") => `(tactic| first
  | exact dv_ty (by assumption)
  | exact tyD' (by walk_at "hp"))
local macro_rules | `(tactic| walk_at "sz") => `(tactic| first
  | exact sz5 (by omega)
  | (simp only [add_len, one_len]; exact sz5 (by omega)))
local macro_rules | `(tactic| walk_at "rd") => `(tactic| first
  | with_reducible apply Rd.istr
  | with_reducible apply Rd.exstr
  | with_reducible apply Rd.leA
  | with_reducible apply Rd.leZz
  | with_reducible apply Rd.le0
  | with_reducible apply Rd.le9
  | with_reducible apply Rd.niZ
  | ((with_reducible apply Rd.lenZ); (walk_at "sz"))
  | ((with_reducible apply Rd.slZ); (walk_at "sz"))
  | ((with_reducible apply Rd.addZ); (walk_at "sz"))
  | with_reducible apply Rd.raiseX
  | with_reducible apply Rd.exone
  | with_reducible apply Rd.callS
  | with_reducible apply Rd.callP
  | with_reducible apply Rd.xsX
  | with_reducible apply Rd.dnewX
  | with_reducible apply Rd.tyZ)
/-! ### check_name, ordered -/
section
variable {P : Program} {w : World} {K : PySem.W.Frag} {mg : Str → Option Value} {base : Heap} {D : Str → Addr}
def spCheckN (K : PySem.W.Frag) (D : Str → Addr) : Sp := fun vs H Q E => ∃ (v : V) (d : PyData), vs = [v] ∧ Dv K H v d ∧ Sz d ∧ (nameD d = true → ∀ H', Same H H' → Q v H') ∧
  (nameD d = false → ∀ dd H', H dd = none → Same H H' → H' dd = some (.xd [("word", v), ("code", .str "BadName")]) → E (.ref (D "BadName")) (some dd) H')
theorem ok_check_name (F : Def K mg "check_name" s_check_name P_check_name) (T_BadName : Ho.ErrC P w K mg base "BadName" (D "BadName") "word") (C_is_name : Cal P w K mg base 1 "is_name" P_is_name (spNamed K)) : Ho.CalN P w K mg base 3 "check_name" P_check_name (spCheckN K D) := by
  refine Ho.defN F sc_check_name (fun vs H Q E h => ?_) (fun f cdv A outer s H vs Q E hr h => ?_)
  · obtain ⟨v, d, rfl, _⟩ := h
    rfl
  obtain ⟨v, d, rfl, hv, sz, qy, qn⟩ := h
  refine ⟨_, (pss_cons (ps_if (pt_not (pt_val (pe_cal C_is_name hr (pa_cons (pv 0 (hd := nd_word) (hcd := nc_word)) pa_nil) (hdb := nd_is_name)))) (pss_one (Ho.ps_err rfl T_BadName hr (L2N.takes_of rfl rfl rfl rfl) (pa_cons (pv 0 (hd := nd_word) (hcd := nc_word)) pa_nil) (by first | exact Ho.up_v | exact Ho.up_c))) pss_nil)
  (pss_one (ps_ret (pv 0 (hd := nd_word) (hcd := nc_word))))), ?_⟩
  refine Rd.at0 (σ := [some v]) rfl ?_
  repeat' (walk_at "rd")
  refine ⟨v, d, rfl, hv, sz, fun H1 s1 => ?_⟩
  repeat' (walk_at "rd")
  · rename_i e l n G s2 e2
    exact qn (by simpa using e) l G (Same.free s1 n) (s1.trans s2) e2
  · rename_i e
    exact qy (by simpa using e) H1 s1
end
/-! ### turned, linked -/
open Ty
section
variable {P : Program} {w : World} {K : PySem.W.Frag} {mg : Str → Option Value} {base : Heap} {D : Str → Addr}
theorem nm_b {z : Str} (h : NmS z) : nmB z = true := by
  obtain ⟨⟨c, s, e, hc, hs⟩, l⟩ := h
  have l1 : 1 ≤ z.length := by
    rw [← cl_len, e]
    exact Nat.succ_le_succ (Nat.zero_le _)
  rw [nmB_all l1 l (c := c) (by rw [e]; rfl) hc, List.all_eq_true]
  intro x hx
  rw [e] at hx
  rcases List.mem_cons.mp hx with rfl | hx
  · exact decide_eq_true (.inl hc)
  · exact decide_eq_true (hs x hx)
theorem nm_sz {z : Str} (h : NmS z) : Sz (.str z) := fun _ e => by
  cases e
  have := h.2
  omega
theorem hk_ok {x : Str} (h : NmS x) : OkK (.h x) := fun n m => by
  rw [List.mem_singleton.mp m]
  exact nm_ok h
theorem ak_ok {l x y : Str} (h : NmS l) (hx : NmS x) (hy : NmS y) : OkK (.a l x y) := fun n m => by
  rcases List.mem_cons.mp m with rfl | m
  · exact nm_ok h
  rcases List.mem_cons.mp m with rfl | m
  · exact nm_ok hx
  · rw [List.mem_singleton.mp m]
    exact nm_ok hy
theorem kvH {H : Hp} {t : Addr} {x : Str} (h : NmS x) (e : H t = some (.tup [.str "house", .str x])) : KV H (.ref t) (.h x) := ⟨hk_ok h, t, rfl, e⟩
theorem kvA {H : Hp} {t : Addr} {l x y : Str} (h : NmS l) (hx : NmS x) (hy : NmS y) (e : H t = some (.tup [.str "arc", .str l, .str x, .str y])) : KV H (.ref t) (.a l x y) := ⟨ak_ok h hx hy, t, rfl, e⟩
theorem kl_len {H : Hp} {a : Addr} {ks : List Ky} (h : KL H a ks) : ∃ vs, H a = some (.lst vs) ∧ KVs H vs ks ∧ vs.length = ks.length := by
  obtain ⟨vs, e, k⟩ := h
  exact ⟨vs, e, k, k.len⟩
/-- two slices of a list of keys -/
theorem kvs_from {H : Hp} {vs : List V} {xs ys : List Ky} (h : KVs H vs (xs ++ ys)) : KVs H (cutV vs (some (xs.length : Int)) none) ys := by
  rw [cut_from]
  have := (h.cut xs.length).2
  rwa [List.drop_append, List.drop_length, Nat.sub_self, List.drop_zero, List.nil_append] at this
theorem kvs_to {H : Hp} {vs : List V} {xs ys : List Ky} (h : KVs H vs (xs ++ ys)) : KVs H (cutV vs none (some (xs.length : Int))) xs := by
  rw [cut_to]
  have := (h.cut xs.length).1
  rwa [List.take_append, List.take_length, Nat.sub_self, List.take_zero, List.append_nil] at this
theorem catK {H : Hp} {Q : VK} {p q : Addr} {xs ys : List Ky} (h : KL H p xs) (g : KL H q ys) (l : xs.length + ys.length ≤ 100000) (f : ∀ L G, H L = none → Same H G → KL G L (xs ++ ys) → Q (.ref L) G) : rCat (.ref p) (.ref q) H Q := by
  obtain ⟨vs, e, k, m⟩ := kl_len h
  obtain ⟨us, e', k', m'⟩ := kl_len g
  refine cat e e' (sz5 (by omega)) fun L n => ?_
  exact f L _ n (same_upd n) ⟨_, upd_same, (k.app k').same (same_upd n)⟩
theorem kl_one {H : Hp} {a : Addr} {v : V} {k : Ky} (e : H a = some (.lst [v])) (h : KV H v k) : KL H a [k] := ⟨_, e, h, trivial⟩
theorem List.append_of_mem_first {α : Type} [DecidableEq α] {x : α} : ∀ {ks : List α}, x ∈ ks → ∃ xs ys, ks = xs ++ x :: ys ∧ x ∉ xs
  | k :: ks, m => by
    by_cases e : k = x
    · exact ⟨[], ks, by rw [e]; rfl, List.not_mem_nil⟩
    · obtain ⟨xs, ys, h, n⟩ := List.append_of_mem_first (ks := ks) ((List.mem_cons.mp m).resolve_left fun z => e z.symm)
      exact ⟨k :: xs, ys, by rw [h]; rfl, fun z => (List.mem_cons.mp z).elim (fun z => e z.symm) n⟩
theorem split_first {α : Type} {x : α} : ∀ {xs ys as bs : List α}, xs ++ x :: ys = as ++ x :: bs → x ∉ xs → x ∉ as → xs = as ∧ ys = bs
  | [], ys, [], bs, h, _, _ => ⟨rfl, (List.cons.inj h).2⟩
  | [], ys, a :: as, bs, h, _, n => absurd ((List.cons.inj h).1 ▸ List.mem_cons_self) n
  | k :: xs, ys, [], bs, h, n, _ => absurd ((List.cons.inj h).1.symm ▸ List.mem_cons_self) n
  | k :: xs, ys, a :: as, bs, h, n, m => by
    obtain ⟨e1, e2⟩ := List.cons.inj h
    obtain ⟨r1, r2⟩ := split_first e2 (fun z => n (List.mem_cons_of_mem _ z)) fun z => m (List.mem_cons_of_mem _ z)
    exact ⟨by rw [e1, r1], r2⟩
theorem nm_iff {x : Str} (h : nameD (.str x) = true) : NmS x := by
  have h : nmB x = true := h
  unfold nmB at h
  simp only [Bool.and_eq_true, decide_eq_true_eq, List.all_eq_true] at h
  obtain ⟨⟨l1, l2⟩, h1, h2⟩ := h
  cases e : cl x with
  | nil =>
    rw [e] at h1
    cases h1
  | cons c r =>
    rw [e] at h1 h2
    exact ⟨⟨c, r, e, by simpa using h1, fun y m => h2 y (List.mem_cons_of_mem _ m)⟩, l2⟩
/-- turned(keys, house), of a list that has the house's key once -/
def spTurned : Sp := fun vs H Q _ => ∃ (a : Addr) (x : Str) (xs ys : List Ky), vs = [.ref a, .str x] ∧ NmS x ∧ KL H a (xs ++ .h x :: ys) ∧ .h x ∉ xs ∧ (xs ++ .h x :: ys).length ≤ 1000 ∧ ∀ L H', H L = none → Same H H' → KL H' L (.h x :: ys ++ xs) → Q (.ref L) H'
/-- turned(keys, house), whatever is asked -/
def spTurnedD (K : PySem.W.Frag) (D : Str → Addr) : Sp := fun vs H Q E => ∃ (a : Addr) (v : V) (d : PyData) (ks : List Ky), vs = [.ref a, v] ∧ Dv K H v d ∧ Sz d ∧ KL H a ks ∧ ks.length ≤ 1000 ∧
  (nameD d = false → ∀ dd H', H dd = none → Same H H' → H' dd = some (.xd [("word", v), ("code", .str "BadName")]) → E (.ref (D "BadName")) (some dd) H') ∧
  (∀ x, v = .str x → NmS x → Ky.h x ∉ ks → ∀ dd H', H dd = none → Same H H' → H' dd = some (.xd [("word", .str x), ("code", .str "NoHouse")]) → E (.ref (D "NoHouse")) (some dd) H') ∧
  (∀ x xs ys, v = .str x → NmS x → ks = xs ++ .h x :: ys → Ky.h x ∉ xs → ∀ L H', H L = none → Same H H' → KL H' L (.h x :: ys ++ xs) → Q (.ref L) H')
/-- _law_turned(keys, house) -/
def spTurnedL : Sp := spTurned
theorem ok__law_turned (F : Def K mg "_law_turned" s__law_turned P__law_turned) : Cal P w K mg base 1 "_law_turned" P__law_turned spTurnedL := by
  refine F.ok sc__law_turned (fun vs H Q E h => ?_) (fun f cdv A outer s H vs Q E hr h => ?_)
  · obtain ⟨a, x, xs, ys, rfl, _⟩ := h
    rfl
  obtain ⟨a, x, xs, ys, rfl, nx, hk, hn, hl, q⟩ := h
  refine ⟨_, (pss_cons (ps_set (i := 2) sc__law_turned.nd rfl (Or.inl rfl) (pe_bm PySem.F.plainAttrs_list PySem.F.slot_list_index PySem.F.type_list_index (Ty.idxDK (K := K) rfl (Ty.un65 hr)) (pv 0 (hd := nd_keys) (hcd := nc_keys)) (pa_cons (pe_tup (pa_cons pe_str (pa_cons (pv 1 (hd := nd_house) (hcd := nc_house)) pa_nil))) pa_nil)))
  (pss_one (ps_ret (pe_op op_cat (pe_slice sl_list (pv 0 (hd := nd_keys) (hcd := nc_keys)) (po_some (pv 2 (hd := nd_at) (hcd := nc_at))) po_none) (pe_slice sl_list (pv 0 (hd := nd_keys) (hcd := nc_keys)) po_none (po_some (pv 2 (hd := nd_at) (hcd := nc_at)))))))), ?_⟩
  refine Rd.at0 (σ := [some (.ref a), some (.str x), none]) rfl ?_
  obtain ⟨vs, ea, kvs, lv⟩ := kl_len hk
  have l5 := lv ▸ hl
  repeat' (walk_at "rd")
  rename_i t n1 G1 t1 g1
  refine idxK (hk.same t1) hn (kvH nx g1) ?_
  repeat' (walk_at "rd")
  rename_i l2 n2 G2 t2 g2 l3 n3 G3 t3 g3
  have c1 := cutV_length vs (some (xs.length : Int)) none
  have c2 := cutV_length vs none (some (xs.length : Int))
  refine cat (t3 _ _ g2) g3 (sz5 (by omega)) ?_
  repeat' (walk_at "rd")
  rename_i L n4 G4 t4 g4
  have tt := (t1.trans t2).trans t3
  have kk := kvs.same (tt.trans t4)
  exact q L G4 (tt.free n4) (tt.trans t4) ⟨_, g4, (kvs_from kk).app (kvs_to kk)⟩
/-- two lists of keys tied by a line -/
def spLinked : Sp := fun vs H Q _ => ∃ (p r : Addr) (l a b : Str) (xs ys us ws : List Ky), vs = [.ref p, .ref r, .str l, .str a, .str b] ∧ NmS l ∧ NmS a ∧ NmS b ∧ KL H p (xs ++ .h a :: ys) ∧ .h a ∉ xs ∧ (xs ++ .h a :: ys).length ≤ 400 ∧
  KL H r (us ++ .h b :: ws) ∧ .h b ∉ us ∧ (us ++ .h b :: ws).length ≤ 400 ∧ ∀ L H', H L = none → Same H H' → KL H' L ((.h a :: ys ++ xs) ++ [.a l a b] ++ (.h b :: ws ++ us) ++ [.a l b a]) → Q (.ref L) H'
/-- _law_linked(first, second, line, a, b) -/
def spLinkedL : Sp := spLinked
theorem ok__law_linked (F : Def K mg "_law_linked" s__law_linked P__law_linked) (C__law_turned : Cal P w K mg base 1 "_law_turned" P__law_turned spTurnedL) : Cal P w K mg base 2 "_law_linked" P__law_linked spLinkedL := by
  refine F.ok sc__law_linked (fun vs H Q E h => ?_) (fun f cdv A outer s H vs Q E hr h => ?_)
  · obtain ⟨p, r, l, a, b, xs, ys, us, ws, rfl, _⟩ := h
    rfl
  obtain ⟨p, r, l, a, b, xs, ys, us, ws, rfl, nl, na, nb, hp, hxs, lp, hr', hus, lr, q⟩ := h
  refine ⟨_, (pss_cons (ps_set (i := 5) sc__law_linked.nd rfl (Or.inl rfl) (pe_op op_cat (pe_cal C__law_turned hr (pa_cons (pv 0 (hd := nd_first) (hcd := nc_first)) (pa_cons (pv 3 (hd := nd_a) (hcd := nc_a)) pa_nil)) (hdb := nd__law_turned)) (pe_lst (pa_cons (pe_tup (pa_cons pe_str (pa_cons (pv 2 (hd := nd_line) (hcd := nc_line)) (pa_cons (pv 3 (hd := nd_a) (hcd := nc_a)) (pa_cons (pv 4 (hd := nd_b) (hcd := nc_b)) pa_nil))))) pa_nil))))
  (pss_one (ps_ret (pe_op op_cat (pe_op op_cat (pv 5 (hd := nd_there) (hcd := nc_there)) (pe_cal C__law_turned hr (pa_cons (pv 1 (hd := nd_second) (hcd := nc_second)) (pa_cons (pv 4 (hd := nd_b) (hcd := nc_b)) pa_nil)) (hdb := nd__law_turned))) (pe_lst (pa_cons (pe_tup (pa_cons pe_str (pa_cons (pv 2 (hd := nd_line) (hcd := nc_line)) (pa_cons (pv 4 (hd := nd_b) (hcd := nc_b)) (pa_cons (pv 3 (hd := nd_a) (hcd := nc_a)) pa_nil))))) pa_nil)))))), ?_⟩
  refine Rd.at0 (σ := [some (.ref p), some (.ref r), some (.str l), some (.str a), some (.str b), none]) rfl ?_
  repeat' (walk_at "rd")
  refine ⟨p, a, xs, ys, rfl, na, hp, hxs, by omega, fun L1 H1 n1 s1 k1 => ?_⟩
  repeat' (walk_at "rd")
  rename_i t2 n2 G2 s2 e2 l3 n3 G3 s3 e3
  have s12 := s2.trans s3
  simp only [List.length_append, List.length_cons] at lp lr
  refine catK (k1.same s12) (kl_one e3 ((kvA nl na nb e2).same s3)) (by simp only [List.length_append, List.length_cons, List.length_nil]; omega) fun L4 G4 n4 s4 k4 => ?_
  have s14 := (s1.trans s12).trans s4
  repeat' (walk_at "rd")
  refine ⟨r, b, us, ws, rfl, nb, hr'.same s14, hus, by simp only [List.length_append, List.length_cons]; omega, fun L5 G5 n5 s5 k5 => ?_⟩
  refine catK (k4.same s5) k5 (by simp only [List.length_append, List.length_cons, List.length_nil]; omega) fun L6 G6 n6 s6 k6 => ?_
  repeat' (walk_at "rd")
  rename_i t7 n7 G7 s7 e7 l8 n8 G8 s8 e8
  refine catK (k6.same (s7.trans s8)) (kl_one e8 ((kvA nl nb na e7).same s8)) (by simp only [List.length_append, List.length_cons, List.length_nil]; omega) fun L9 G9 n9 s9 k9 => ?_
  have t := ((s14.trans s5).trans s6).trans (s7.trans s8)
  exact q L9 G9 (t.free n9) (t.trans s9) k9
end
end Kj
namespace Kj
open PySem PySem.Spec PyProof.Rows L2 Rd
/-! ### the stepper -/
local macro_rules | `(tactic| walk_at "hp") => `(tactic| first
  | assumption
  | exact upd_same
  | (refine Eq.trans (upd_ne (by first | assumption | (apply Ne.symm; assumption))) ?_; walk_at "hp"))
local macro_rules | `(tactic| walk_at "sq") => `(tactic| first
  | assumption
  | (refine Or.inl (Or.inl ?_); walk_at "hp"))
local macro_rules | `(tactic| walk_at "st") => `(tactic| first
  | assumption
  | (refine Or.inl (Or.inl ?_); walk_at "hp"))
local macro_rules | `(tactic| walk_at "ar") => `(tactic| first
  | assumption
  | omega
  | decide)
local macro_rules | `(tactic| walk_at "ci") => `(tactic| first
  | (refine (show CMul _ _ from Or.inr ⟨?_, ?_⟩) <;> omega)
  | (refine (show CMul _ _ from Or.inl ⟨?_, ?_⟩) <;> omega)
  | (show CPow _ _; exact ⟨by decide, by decide, by decide⟩)
  | (refine wide_div (b := 63) ?_ ?_ (by decide) (by decide) <;> omega)
  | (show (0 : Int) < _; omega))
local macro_rules | `(tactic| walk_at "ty") => `(tactic| first
  | exact dp_ty (by assumption)
  | exact TyX.base (TyOf.int _)
  | exact TyX.base (TyOf.str _)
  | exact TyX.base (TyOf.bl _)
  | exact TyX.base TyOf.non
  | exact tyL' (by walk_at "sq")
  | exact tyT' (by walk_at "st"))
local macro_rules | `(tactic| walk_at "isi") => `(tactic| first
  | ((with_reducible apply Rd.isiF); (walk_at "ty"); (decide))
  | ((with_reducible apply Rd.isiT); (walk_at "ty"); (decide)))
local macro_rules | `(tactic| walk_at "rd") => `(tactic| first
  | with_reducible apply Rd.seq
  | ((with_reducible apply Rd.var); rfl)
  | with_reducible apply Rd.con
  | with_reducible apply Rd.op
  | with_reducible apply Rd.asg
  | ((with_reducible apply Rd.gname); ((dsimp only [List.set, L2.wipe, Int.reduceToNat]) <;> rfl))
  | with_reducible apply Rd.nxt
  | with_reducible apply Rd.ifs
  | with_reducible apply Rd.test
  | with_reducible apply Rd.testB
  | with_reducible apply Rd.exbl
  | with_reducible apply Rd.ret
  | with_reducible apply Rd.drop
  | with_reducible apply Rd.retN
  | with_reducible apply Rd.nil
  | with_reducible apply Rd.cons
  | with_reducible apply Rd.call
  | with_reducible apply Rd.cb
  | with_reducible apply Rd.and
  | with_reducible apply Rd.or
  | with_reducible apply Rd.not
  | with_reducible apply Rd.andV
  | with_reducible apply Rd.orV
  | with_reducible apply Rd.notV
  | with_reducible apply Rd.ife
  | with_reducible apply Rd.tup
  | with_reducible apply Rd.lst
  | with_reducible apply Rd.un
  | with_reducible apply Rd.chain
  | with_reducible apply Rd.brk
  | with_reducible apply Rd.cnt
  | with_reducible apply Rd.I0
  | with_reducible apply Rd.U1
  | ((with_reducible apply Rd.eq); rfl)
  | ((with_reducible apply Rd.ne); rfl)
  | ((with_reducible apply Rd.I1); (walk_at "ci"))
  | with_reducible apply Rd.lc0
  | with_reducible apply Rd.ln0
  | with_reducible apply Rd.exN
  | ((with_reducible apply Rd.iteSf); (decide +kernel))
  | ((with_reducible apply Rd.iteSt); (decide +kernel))
  | ((with_reducible apply Rd.niQ); (exact Or.inl (by walk_at "sq")); (exact ⟨rfl, rfl⟩); (rfl))
  | ((with_reducible apply Rd.inQ); (exact Or.inl (by walk_at "sq")); (exact ⟨rfl, rfl⟩); (rfl))
  | with_reducible apply Rd.rn1
  | with_reducible apply Rd.in1
  | with_reducible apply Rd.sn1
  | with_reducible apply Rd.bn1
  | with_reducible apply Rd.nn1
  | with_reducible apply Rd.rn2
  | with_reducible apply Rd.in2
  | with_reducible apply Rd.sn2
  | with_reducible apply Rd.bn2
  | with_reducible apply Rd.nn2
  | with_reducible apply Rd.nt1
  | with_reducible apply Rd.nf1
  | (with_reducible refine Rd.iteI (fun _ => ?_) (fun _ => ?_))
  | (with_reducible refine Rd.iteNI (fun _ => ?_) (fun _ => ?_))
  | (with_reducible refine iteT ?_)
  | (with_reducible refine iteF ?_)
  | (with_reducible refine Rd.iteD (fun _ => ?_) (fun _ => ?_))
  | (with_reducible refine Rd.iteN (fun _ => ?_) (fun _ => ?_))
  | with_reducible apply Rd.intI
  | with_reducible apply Rd.intB
  | with_reducible apply Rd.maxQ
  | with_reducible apply Rd.minQ
  | with_reducible apply Rd.absQ
  | with_reducible apply Rd.isN
  | with_reducible apply Rd.noN
  | with_reducible apply Rd.ltZ
  | with_reducible apply Rd.bm
  | with_reducible apply Rd.bm0
  | with_reducible apply Rd.par
  | with_reducible apply Rd.expar
  | with_reducible apply Rd.exint
  | with_reducible apply Rd.ipi
  | with_reducible apply Rd.slice
  | with_reducible apply Rd.noPart
  | with_reducible apply Rd.part
  | with_reducible apply Rd.gcons
  | with_reducible apply Rd.gnil
  | with_reducible apply Rd.iseq
  | with_reducible apply Rd.irng1
  | walk_at "isi"
  | with_reducible apply Rd.forX
  | with_reducible apply Rd.lstRev
  | with_reducible apply Rd.lstRg
  | with_reducible apply Rd.rg1
  | with_reducible apply Rd.rg2
  | with_reducible apply Rd.exint2
  | ((with_reducible apply Rd.exrev); (walk_at "sq"))
  | with_reducible apply Rd.lcX
  | with_reducible apply Rd.yes
  | ((with_reducible apply Rd.exrng1); (constructor <;> omega))
  | ((with_reducible apply Rd.exrng2); (refine ⟨?_, ?_, ?_, ?_⟩ <;> omega))
  | with_reducible apply Rd.irng2
  | ((with_reducible apply Rd.aug); rfl)
  | ((with_reducible apply Rd.exlst); (walk_at "sq"))
  | ((with_reducible apply Rd.gtup); (walk_at "st"); (rfl))
  | ((with_reducible apply Rd.tyL); (walk_at "hp"))
  | ((with_reducible apply Rd.ixL); (walk_at "sq"); (rfl))
  | ((with_reducible apply Rd.ixI); (walk_at "sq"); (omega); (first | assumption | (simp only [List.length_map]; omega)); (intro _ _))
  | (with_reducible refine Rd.gsub ?_)
  | ((with_reducible apply Rd.setL); (walk_at "hp"); (rfl); ((dsimp only [List.set, L2.wipe, Int.reduceToNat]) <;> rfl))
  | ((with_reducible apply Rd.lenQ); (first | exact Or.inl (by walk_at "sq") | exact Or.inr (by walk_at "st")))
  | ((with_reducible apply Rd.listQ); (first | exact Or.inl (by walk_at "sq") | exact Or.inr (by walk_at "st")))
  | ((with_reducible apply Rd.tupQ); (walk_at "sq"))
  | ((with_reducible apply Rd.slL); (walk_at "sq"))
  | ((with_reducible apply Rd.ixT); (walk_at "st"); (rfl))
  | (with_reducible refine Rd.iteB (fun _ => ?_) (fun _ => ?_))
  | (with_reducible refine Rd.iteNB (fun _ => ?_) (fun _ => ?_))
  | (refine Rd.andI (Nat.le_of_ble_eq_true rfl) ?_)
  | dsimp only [List.set])
local macro_rules | `(tactic| walk_at "hp") => `(tactic| first
  | assumption
  | exact upd_same
  | (refine Eq.trans (upd_ne (by first | assumption | (apply Ne.symm; assumption))) ?_; walk_at "hp")
  | (refine hpS (by assumption) ?_; walk_at "hp"))
local macro_rules | `(tactic| walk_at "al") => `(tactic| (with_reducible intro l hl; generalize hG : upd _ l _ = G; have hs := newOne hl hG; clear hG; obtain ⟨hs, he⟩ := hs))
local macro_rules | `(tactic| walk_at "rd") => `(tactic| first
  | walk_at "al"
  | ((with_reducible apply Rd.cat); (walk_at "hp"); (walk_at "hp"); (exact Nat.le_of_ble_eq_true rfl)))
local macro_rules | `(tactic| walk_at "sm") => `(tactic| first
  | assumption
  | exact Same.refl _
  | (refine Same.trans ?_ (by assumption); walk_at "sm"))
local macro_rules | `(tactic| walk_at "fr") => `(tactic| first
  | assumption
  | (refine Same.free (by assumption) ?_; walk_at "fr"))
local macro_rules | `(tactic| walk_at "ty") => `(tactic| first
  | exact dv_ty (by assumption)
  | exact tyD' (by walk_at "hp"))
/-! ### a drawn tour -/
open Ty
/-- a tour of the houses P by the lines R -/
def TT (ks : List Ky) (P R : Str → Prop) : Prop := T ks ∧ (∀ x, .h x ∈ ks ↔ P x) ∧ ∀ l, (∃ x y, .a l x y ∈ ks) ↔ R l
theorem TT.rot {xs ys : List Ky} {P R : Str → Prop} (h : TT (xs ++ ys) P R) : TT (ys ++ xs) P R := by
  obtain ⟨a, b, c⟩ := h
  refine ⟨a.rot, fun x => ?_, fun l => ?_⟩
  · rw [← b x, List.mem_append, List.mem_append]
    exact Or.comm
  · rw [← c l]
    simp only [List.mem_append]
    exact ⟨fun ⟨x, y, m⟩ => ⟨x, y, m.symm⟩, fun ⟨x, y, m⟩ => ⟨x, y, m.symm⟩⟩
theorem TT.iff {ks : List Ky} {P R P' R' : Str → Prop} (h : TT ks P R) (p : ∀ x, P x ↔ P' x) (r : ∀ x, R x ↔ R' x) : TT ks P' R' :=
  ⟨h.1, fun x => (h.2.1 x).trans (p x), fun x => (h.2.2 x).trans (r x)⟩
theorem TT.single {x : Str} (h : NmS x) : TT [.h x] (· = x) fun _ => False :=
  ⟨T.single h, fun y => by simp, fun l => by simp⟩
theorem TT.link {a b l : Str} {A B : List Ky} {P R P' R' : Str → Prop} (h : TT (.h a :: A) P R) (g : TT (.h b :: B) P' R') (nl : NmS l) (n1 : ¬ R l) (n2 : ¬ R' l) (dp : ∀ x, P x → ¬ P' x) (dr : ∀ x, R x → ¬ R' x) :
    TT ((.h a :: A) ++ [.a l a b] ++ (.h b :: B) ++ [.a l b a]) (fun x => P x ∨ P' x) fun m => R m ∨ R' m ∨ m = l := by
  obtain ⟨h1, h2, h3⟩ := h
  obtain ⟨g1, g2, g3⟩ := g
  refine ⟨T.link h1 g1 nl (fun x y m => n1 ((h3 l).mp ⟨x, y, m⟩)) (fun x y m => n2 ((g3 l).mp ⟨x, y, m⟩)) (fun x m k => dp x ((h2 x).mp m) ((g2 x).mp k)) (fun m x y u v p q => dr m ((h3 m).mp ⟨x, y, p⟩) ((g3 m).mp ⟨u, v, q⟩)), fun x => ?_, fun m => ?_⟩
  · show _ ↔ P x ∨ P' x
    rw [← h2 x, ← g2 x]
    simp only [List.mem_append, List.mem_singleton, or_false, reduceCtorEq]
  · show _ ↔ R m ∨ R' m ∨ m = l
    rw [← h3 m, ← g3 m]
    generalize Ky.h a :: A = A
    generalize Ky.h b :: B = B
    simp only [List.mem_append, List.mem_singleton]
    constructor
    · rintro ⟨x, y, ((m | e) | m) | e⟩
      · exact .inl ⟨x, y, m⟩
      · cases e
        exact .inr (.inr rfl)
      · exact .inr (.inl ⟨x, y, m⟩)
      · cases e
        exact .inr (.inr rfl)
    · rintro (⟨x, y, m⟩ | ⟨x, y, m⟩ | rfl)
      · exact ⟨x, y, .inl (.inl (.inl m))⟩
      · exact ⟨x, y, .inl (.inr m)⟩
      · exact ⟨a, b, .inl (.inl (.inr rfl))⟩
/-- the tour from a house on -/
theorem TT.from {ks : List Ky} {P R : Str → Prop} {x : Str} (h : TT ks P R) (m : P x) : ∃ xs ys, ks = xs ++ .h x :: ys ∧ .h x ∉ xs ∧ TT (.h x :: ys ++ xs) P R ∧ NmS x := by
  have m' := (h.2.1 x).mpr m
  obtain ⟨xs, ys, e⟩ := List.append_of_mem m'
  have nd := h.1.nd
  rw [e] at nd
  refine ⟨xs, ys, e, fun k => (List.nodup_append.mp nd).2.2 _ k _ List.mem_cons_self rfl, TT.rot (e ▸ h), h.1.nm _ m' x List.mem_cons_self⟩
section
variable {P : Program} {w : World} {K : PySem.W.Frag} {mg : Str → Option Value} {base : Heap} {D : Str → Addr}
theorem kvs_go {st c : Addr} {H H' : Hp} {vs : List V} {ks : List Ky} (h : KVs H vs ks) (o : StoreAt H st c) (g : Go st c H H') : KVs H' vs ks := h.all fun v k _ kv => by
  obtain ⟨ok, t, e, ht⟩ := kv
  refine ⟨ok, t, e, g.keep _ _ (fun z => ?_) ht⟩
  obtain ⟨ns, p, d, s, t', h1, _⟩ := o
  rw [z, h1] at ht
  cases ht
theorem kl_go {st c a : Addr} {H H' : Hp} {ks : List Ky} (h : KL H a ks) (o : StoreAt H st c) (g : Go st c H H') (n : a ≠ st) : KL H' a ks := by
  obtain ⟨vs, e, k⟩ := h
  exact ⟨vs, g.keep _ _ n e, kvs_go k o g⟩
/-- _law_tour(store, houses, names) -/
def spTour : Sp := fun vs H Q _ => ∃ (st c h n : Addr) (zs ns : List Str), vs = [.ref st, .ref h, .ref n] ∧ StoreAt H st c ∧ h ≠ st ∧ n ≠ st ∧ H h = some (.lst (zs.map V.str)) ∧ H n = some (.lst (ns.map V.str)) ∧
  zs.length ≤ 100 ∧ 0 < zs.length ∧ zs.length ≤ ns.length + 1 ∧ zs.Nodup ∧ ns.Nodup ∧ (∀ z ∈ zs, NmS z) ∧ (∀ z ∈ ns, NmS z) ∧
  ∀ (L : Addr) (ks : List Ky) (H' : Hp), TT ks (· ∈ zs) (· ∈ ns.take (zs.length - 1)) → ks.length + 2 = 3 * zs.length → H L = none → Go st c H H' → KL H' L ks → Q (.ref L) H'
theorem at_str {xs : List Str} {i : Nat} {x : Str} (h : xs[i]? = some x) : (xs.map V.str)[i]? = some (V.str x) := by rw [List.getElem?_map, h]; rfl
theorem mem_take_at {xs : List Str} {x : Str} {k : Nat} (nd : xs.Nodup) (h : xs[k]? = some x) : x ∉ xs.take k := fun m => by
  obtain ⟨j, hj, e⟩ := List.mem_take_iff_getElem.mp m
  obtain ⟨hk, e'⟩ := List.getElem?_eq_some_iff.mp h
  have := (List.getElem_inj nd).mp (e.trans e'.symm)
  omega
theorem take_more {xs : List Str} {x z : Str} {k : Nat} (h : xs[k]? = some x) : z ∈ xs.take (k + 1) ↔ z ∈ xs.take k ∨ z = x := by
  rw [List.take_add_one, h, List.mem_append]
  simp
theorem ok__law_tour (F : Def K mg "_law_tour" s__law_tour P__law_tour) (m_range : mg "range" = none) (m_len : mg "len" = none) (C__law_take : Cal P w K mg base 1 "_law_take" P__law_take spTake) (C__law_linked : Cal P w K mg base 2 "_law_linked" P__law_linked spLinkedL) : Cal P w K mg base 4 "_law_tour" P__law_tour spTour := by
  refine F.ok sc__law_tour (fun vs H Q E h => ?_) (fun f cdv A outer s H vs Q E hr h => ?_)
  · obtain ⟨st, c, h, n, zs, ns, rfl, _⟩ := h
    rfl
  obtain ⟨st, c, h, n, zs, ns, rfl, hs, hst, nst, eh, en, l1, l0, l2, nz, nn, mz, mn, q⟩ := h
  refine ⟨_, (pss_cons (ps_set (i := 3) sc__law_tour.nd rfl (Or.inl rfl) (pe_lst (pa_cons (pe_tup (pa_cons pe_str (pa_cons (pe_ix ix_list (pv 1 (hd := nd_houses) (hcd := nc_houses)) pe_int (fun _ _ => rfl)) pa_nil))) pa_nil)))
  (pss_cons (ps_for PassesOwn.never rfl (pi_range2 (by rfl) m_range (pa_cons pe_int (pa_cons (pe_callB q_len (by rfl) m_len PySem.boot_len (pa_cons (pv 1 (hd := nd_houses) (hcd := nc_houses)) pa_nil) (hn := nn_len) (hdb := nd_len)) pa_nil))) (pg_name (i := 4) sc__law_tour.nd rfl (Or.inl rfl)) (pss_cons (ps_set (i := 5) sc__law_tour.nd rfl (Or.inl rfl) (pe_ix ix_list (pv 1 (hd := nd_houses) (hcd := nc_houses)) (pe_cal C__law_take hr (pa_cons (pv 0 (hd := nd_store) (hcd := nc_store)) (pa_cons (pv 4 (hd := nd_k) (hcd := nc_k)) pa_nil)) (hdb := nd__law_take)) (fun _ _ => rfl)))
  (pss_cons (ps_set (i := 6) sc__law_tour.nd rfl (Or.inl rfl) (pe_lst (pa_cons (pe_tup (pa_cons pe_str (pa_cons (pe_ix ix_list (pv 1 (hd := nd_houses) (hcd := nc_houses)) (pv 4 (hd := nd_k) (hcd := nc_k)) (fun _ _ => rfl)) pa_nil))) pa_nil)))
  (pss_one (ps_if (pt_cmpR op_eq (pe_cal C__law_take hr (pa_cons (pv 0 (hd := nd_store) (hcd := nc_store)) (pa_cons pe_int pa_nil)) (hdb := nd__law_take)) pe_int (nomark _)) (pss_one (ps_set (i := 3) sc__law_tour.nd rfl (Or.inl rfl) (pe_cal C__law_linked hr (pa_cons (pv 3 (hd := nd_keys) (hcd := nc_keys)) (pa_cons (pv 6 (hd := nd_single) (hcd := nc_single)) (pa_cons (pe_ix ix_list (pv 2 (hd := nd_names) (hcd := nc_names)) (pe_op op_sub (pv 4 (hd := nd_k) (hcd := nc_k)) pe_int) (fun _ _ => rfl)) (pa_cons (pv 5 (hd := nd_other) (hcd := nc_other)) (pa_cons (pe_ix ix_list (pv 1 (hd := nd_houses) (hcd := nc_houses)) (pv 4 (hd := nd_k) (hcd := nc_k)) (fun _ _ => rfl)) pa_nil))))) (hdb := nd__law_linked)))) (pss_one (ps_set (i := 3) sc__law_tour.nd rfl (Or.inl rfl) (pe_cal C__law_linked hr (pa_cons (pv 6 (hd := nd_single) (hcd := nc_single)) (pa_cons (pv 3 (hd := nd_keys) (hcd := nc_keys)) (pa_cons (pe_ix ix_list (pv 2 (hd := nd_names) (hcd := nc_names)) (pe_op op_sub (pv 4 (hd := nd_k) (hcd := nc_k)) pe_int) (fun _ _ => rfl)) (pa_cons (pe_ix ix_list (pv 1 (hd := nd_houses) (hcd := nc_houses)) (pv 4 (hd := nd_k) (hcd := nc_k)) (fun _ _ => rfl)) (pa_cons (pv 5 (hd := nd_other) (hcd := nc_other)) pa_nil))))) (hdb := nd__law_linked)))))))))
  (pss_cons (ps_set (i := 7) sc__law_tour.nd rfl (Or.inl rfl) (pe_cal C__law_take hr (pa_cons (pv 0 (hd := nd_store) (hcd := nc_store)) (pa_cons (pe_callB q_len (by rfl) m_len PySem.boot_len (pa_cons (pv 3 (hd := nd_keys) (hcd := nc_keys)) pa_nil) (hn := nn_len) (hdb := nd_len)) pa_nil)) (hdb := nd__law_take)))
  (pss_one (ps_ret (pe_op op_cat (pe_slice sl_list (pv 3 (hd := nd_keys) (hcd := nc_keys)) (po_some (pv 7 (hd := nd_at) (hcd := nc_at))) po_none) (pe_slice sl_list (pv 3 (hd := nd_keys) (hcd := nc_keys)) po_none (po_some (pv 7 (hd := nd_at) (hcd := nc_at)))))))))), ?_⟩
  refine Rd.at0 (σ := [some (.ref st), some (.ref h), some (.ref n), none, none, none, none, none]) rfl ?_
  have lzm : (zs.map V.str).length = zs.length := List.length_map ..
  have lnm : (ns.map V.str).length = ns.length := List.length_map ..
  obtain ⟨z0, ez0⟩ : ∃ z, zs[0]? = some z := ⟨_, List.getElem?_eq_getElem l0⟩
  repeat' (walk_at "rd")
  refine ixN' (.inl (.inl eh)) (by decide) (at_str ez0) ?_
  repeat' (walk_at "rd")
  rename_i t1 p1 G1 s1 e1 L1 p2 G2 s2 e2
  have s02 := s1.trans s2
  have mz0 := mz z0 (List.mem_of_getElem? ez0)
  refine forR (fun i σ H' => ∃ (L : Addr) (ks : List Ky) (v4 v5 v6 : Option V), σ = [some (.ref st), some (.ref h), some (.ref n), some (.ref L), v4, v5, v6, none] ∧ TT ks (· ∈ zs.take (i + 1)) (· ∈ ns.take i) ∧ ks.length + 2 = 3 * (i + 1) ∧ H L = none ∧ Go st c H H' ∧ KL H' L ks)
    ⟨L1, [.h z0], none, none, none, rfl, (TT.single mz0).iff (fun x => ?_) (fun l => ?_), rfl, s1.free p2, (Go.refl hs).same s02, kl_one e2 ((kvH mz0 e1).same s2)⟩ ?_ ?_
  · rw [List.take_add_one, ez0]
    simp
  · simp
  · rintro i σ H' hi ⟨L, ks, v4, v5, v6, rfl, tt, lk, fL, g, kl⟩
    have hi : i + 1 < zs.length := by omega
    repeat' (walk_at "rd")
    refine ⟨st, c, _, rfl, g.ok, by omega, fun r H1 r0 r1 g1 => ?_⟩
    obtain ⟨o, eo⟩ : ∃ z, zs[r.toNat]? = some z := ⟨_, List.getElem?_eq_getElem (by omega)⟩
    obtain ⟨z, ez⟩ : ∃ z, zs[i + 1]? = some z := ⟨_, List.getElem?_eq_getElem hi⟩
    obtain ⟨l, el⟩ : ∃ z, ns[i]? = some z := ⟨_, List.getElem?_eq_getElem (by omega)⟩
    have mo : o ∈ zs.take (i + 1) := by
      obtain ⟨hh, e⟩ := List.getElem?_eq_some_iff.mp eo
      exact List.mem_take_iff_getElem.mpr ⟨r.toNat, by omega, e⟩
    have mz' := mz z (List.mem_of_getElem? ez)
    have ml := mn l (List.mem_of_getElem? el)
    have zo := mem_take_at nz ez
    have lo := mem_take_at nn el
    obtain ⟨xs, ys, rfl, hxs, tf, no⟩ := tt.from mo
    simp only [List.length_append, List.length_cons] at lk
    have g01 := g.trans g1
    have eh1 := g01.keep h _ hst eh
    refine ixN' (.inl (.inl eh1)) r0 (at_str eo) ?_
    repeat' (walk_at "rd")
    have ez1 : (zs.map V.str)[(1 + (i : Int)).toNat]? = some (V.str z) := by
      rw [show (1 + (i : Int)).toNat = i + 1 by omega]
      exact at_str ez
    refine ixN' (.inl (.inl eh1)) (by omega) ez1 ?_
    repeat' (walk_at "rd")
    rename_i t2 p2 G2 s2 e2 L3 p3 G3 s3 e3
    have g03 := g01.same (s2.trans s3)
    refine ⟨st, c, 2, rfl, g03.ok, by decide, fun r' H4 r0' r1' g4 => ?_⟩
    have g04 := g03.trans g4
    have eh4 := g04.keep h _ hst eh
    have en4 := g04.keep n _ nst en
    have k4 : KL H4 L (xs ++ .h o :: ys) := kl_go kl g.ok ((g1.same (s2.trans s3)).trans g4) (hs.off fL).1
    have kz : KL H4 L3 [.h z] := kl_go (kl_one e3 ((kvH mz' e2).same s3)) g03.ok g4 (g01.ok.off (s2.free p3)).1
    have el1 : (ns.map V.str)[((1 + (i : Int)) - 1).toNat]? = some (V.str l) := by
      rw [show ((1 + (i : Int)) - 1).toNat = i by omega]
      exact at_str el
    repeat' (walk_at "rd")
    · refine ixN' (.inl (.inl en4)) (by omega) el1 ?_
      repeat' (walk_at "rd")
      refine ixN' (.inl (.inl eh4)) (by omega) ez1 ?_
      repeat' (walk_at "rd")
      refine ⟨L, L3, l, o, z, xs, ys, [], [], rfl, ml, no, mz', k4, hxs, by simp only [List.length_append, List.length_cons]; omega, kz, List.not_mem_nil, Nat.le_of_ble_eq_true rfl, fun L5 H5 n5 s5 k5 => ?_⟩
      repeat' (walk_at "rd")
      have tl : TT ((.h o :: ys ++ xs) ++ [.a l o z] ++ (.h z :: [] ++ []) ++ [.a l z o]) _ _ := TT.link (A := ys ++ xs) (B := []) tf (TT.single mz') ml lo (fun h => h) (fun x m e => zo (e ▸ m)) fun _ _ h => h
      refine ⟨L5, _, _, _, _, rfl, tl.iff (fun x => (take_more ez).symm) (fun m => ?_), ?_, g04.free n5, g04.same s5, k5⟩
      · rw [take_more el]
        simp
      · simp only [List.length_append, List.length_cons, List.length_nil]
        omega
    · refine ixN' (.inl (.inl en4)) (by omega) el1 ?_
      repeat' (walk_at "rd")
      refine ixN' (.inl (.inl eh4)) (by omega) ez1 ?_
      repeat' (walk_at "rd")
      refine ⟨L3, L, l, z, o, [], [], xs, ys, rfl, ml, mz', no, kz, List.not_mem_nil, Nat.le_of_ble_eq_true rfl, k4, hxs, by simp only [List.length_append, List.length_cons]; omega, fun L5 H5 n5 s5 k5 => ?_⟩
      repeat' (walk_at "rd")
      have tl : TT ((.h z :: [] ++ []) ++ [.a l z o] ++ (.h o :: ys ++ xs) ++ [.a l o z]) _ _ := TT.link (A := []) (B := ys ++ xs) (TT.single mz') tf ml (fun h => h) lo (fun x e m => zo (e ▸ m)) fun _ h => h.elim
      refine ⟨L5, _, _, _, _, rfl, tl.iff (fun x => Or.comm.trans (take_more ez).symm) (fun m => ?_), ?_, g04.free n5, g04.same s5, k5⟩
      · rw [take_more el]
        simp
      · simp only [List.length_append, List.length_cons, List.length_nil]
        omega
  · rintro σ H' ⟨L, ks, v4, v5, v6, rfl, tt, lk, fL, g, kl⟩
    obtain ⟨vs, ev, kv', lv⟩ := kl_len kl
    have nL := (hs.off fL).1
    repeat' (walk_at "rd")
    refine ⟨st, c, _, rfl, g.ok, by omega, fun r H1 r0 r1 g1 => ?_⟩
    have ev1 := g1.keep L _ nL ev
    have k1 := kvs_go kv' g.ok g1
    obtain ⟨j, rfl⟩ : ∃ j : Nat, r = j := ⟨r.toNat, by omega⟩
    have jl : j ≤ ks.length := by omega
    have ej : (ks.take j).length = j := by rw [List.length_take]; omega
    rw [← List.take_append_drop j ks] at k1 tt
    repeat' (walk_at "rd")
    rename_i l2 p2 G2 s2 e2 l3 p3 G3 s3 e3
    have c1 := cutV_length vs (some (j : Int)) none
    have c2 := cutV_length vs none (some (j : Int))
    refine cat (s3 _ _ e2) e3 (sz5 (by omega)) ?_
    repeat' (walk_at "rd")
    rename_i L4 p4 G4 s4 e4
    have t := (s2.trans s3).trans s4
    have gg := (g.trans g1).same t
    have f1 := kvs_from (k1.same t)
    have f2 := kvs_to (k1.same t)
    rw [ej] at f1 f2
    refine q L4 (ks.drop j ++ ks.take j) G4 (tt.rot.iff (fun x => ?_) fun l => ?_) ?_ (((g.trans g1).same (s2.trans s3)).free p4) gg ⟨_, e4, f1.app f2⟩
    · rw [show ((zs.map V.str).length - 1 : Int).toNat + 1 = zs.length by omega, List.take_length]
    · rw [show ((zs.map V.str).length - 1 : Int).toNat = zs.length - 1 by omega]
    · rw [List.length_append, List.length_drop, List.length_take]
      omega
end
end Kj
namespace Kj
open PySem PySem.Spec PyProof.Rows L2 Rd
/-! ### the stepper -/
local macro_rules | `(tactic| walk_at "hp") => `(tactic| first
  | assumption
  | exact upd_same
  | (refine Eq.trans (upd_ne (by first | assumption | (apply Ne.symm; assumption))) ?_; walk_at "hp"))
local macro_rules | `(tactic| walk_at "sq") => `(tactic| first
  | assumption
  | (refine Or.inl (Or.inl ?_); walk_at "hp"))
local macro_rules | `(tactic| walk_at "st") => `(tactic| first
  | assumption
  | (refine Or.inl (Or.inl ?_); walk_at "hp"))
local macro_rules | `(tactic| walk_at "ar") => `(tactic| first
  | assumption
  | omega
  | decide)
local macro_rules | `(tactic| walk_at "ci") => `(tactic| first
  | (refine (show CMul _ _ from Or.inr ⟨?_, ?_⟩) <;> omega)
  | (refine (show CMul _ _ from Or.inl ⟨?_, ?_⟩) <;> omega)
  | (show CPow _ _; exact ⟨by decide, by decide, by decide⟩)
  | (refine wide_div (b := 63) ?_ ?_ (by decide) (by decide) <;> omega)
  | (show (0 : Int) < _; omega))
local macro_rules | `(tactic| walk_at "ty") => `(tactic| first
  | exact dp_ty (by assumption)
  | exact TyX.base (TyOf.int _)
  | exact TyX.base (TyOf.str _)
  | exact TyX.base (TyOf.bl _)
  | exact TyX.base TyOf.non
  | exact tyL' (by walk_at "sq")
  | exact tyT' (by walk_at "st"))
local macro_rules | `(tactic| walk_at "isi") => `(tactic| first
  | ((with_reducible apply Rd.isiF); (walk_at "ty"); (decide))
  | ((with_reducible apply Rd.isiT); (walk_at "ty"); (decide)))
local macro_rules | `(tactic| walk_at "rd") => `(tactic| first
  | with_reducible apply Rd.seq
  | ((with_reducible apply Rd.var); rfl)
  | with_reducible apply Rd.con
  | with_reducible apply Rd.op
  | with_reducible apply Rd.asg
  | ((with_reducible apply Rd.gname); ((dsimp only [List.set, L2.wipe, Int.reduceToNat]) <;> rfl))
  | with_reducible apply Rd.nxt
  | with_reducible apply Rd.ifs
  | with_reducible apply Rd.test
  | with_reducible apply Rd.testB
  | with_reducible apply Rd.exbl
  | with_reducible apply Rd.ret
  | with_reducible apply Rd.drop
  | with_reducible apply Rd.retN
  | with_reducible apply Rd.nil
  | with_reducible apply Rd.cons
  | with_reducible apply Rd.call
  | with_reducible apply Rd.cb
  | with_reducible apply Rd.and
  | with_reducible apply Rd.or
  | with_reducible apply Rd.not
  | with_reducible apply Rd.andV
  | with_reducible apply Rd.orV
  | with_reducible apply Rd.notV
  | with_reducible apply Rd.ife
  | with_reducible apply Rd.tup
  | with_reducible apply Rd.lst
  | with_reducible apply Rd.un
  | with_reducible apply Rd.chain
  | with_reducible apply Rd.brk
  | with_reducible apply Rd.cnt
  | with_reducible apply Rd.I0
  | with_reducible apply Rd.U1
  | ((with_reducible apply Rd.eq); rfl)
  | ((with_reducible apply Rd.ne); rfl)
  | ((with_reducible apply Rd.I1); (walk_at "ci"))
  | with_reducible apply Rd.lc0
  | with_reducible apply Rd.ln0
  | with_reducible apply Rd.exN
  | ((with_reducible apply Rd.iteSf); (decide +kernel))
  | ((with_reducible apply Rd.iteSt); (decide +kernel))
  | ((with_reducible apply Rd.niQ); (exact Or.inl (by walk_at "sq")); (exact ⟨rfl, rfl⟩); (rfl))
  | ((with_reducible apply Rd.inQ); (exact Or.inl (by walk_at "sq")); (exact ⟨rfl, rfl⟩); (rfl))
  | with_reducible apply Rd.rn1
  | with_reducible apply Rd.in1
  | with_reducible apply Rd.sn1
  | with_reducible apply Rd.bn1
  | with_reducible apply Rd.nn1
  | with_reducible apply Rd.rn2
  | with_reducible apply Rd.in2
  | with_reducible apply Rd.sn2
  | with_reducible apply Rd.bn2
  | with_reducible apply Rd.nn2
  | with_reducible apply Rd.nt1
  | with_reducible apply Rd.nf1
  | (with_reducible refine Rd.iteI (fun _ => ?_) (fun _ => ?_))
  | (with_reducible refine Rd.iteNI (fun _ => ?_) (fun _ => ?_))
  | (with_reducible refine iteT ?_)
  | (with_reducible refine iteF ?_)
  | (with_reducible refine Rd.iteD (fun _ => ?_) (fun _ => ?_))
  | (with_reducible refine Rd.iteN (fun _ => ?_) (fun _ => ?_))
  | with_reducible apply Rd.intI
  | with_reducible apply Rd.intB
  | with_reducible apply Rd.maxQ
  | with_reducible apply Rd.minQ
  | with_reducible apply Rd.absQ
  | with_reducible apply Rd.isN
  | with_reducible apply Rd.noN
  | with_reducible apply Rd.ltZ
  | with_reducible apply Rd.bm
  | with_reducible apply Rd.bm0
  | with_reducible apply Rd.par
  | with_reducible apply Rd.expar
  | with_reducible apply Rd.exint
  | with_reducible apply Rd.ipi
  | with_reducible apply Rd.slice
  | with_reducible apply Rd.noPart
  | with_reducible apply Rd.part
  | with_reducible apply Rd.gcons
  | with_reducible apply Rd.gnil
  | with_reducible apply Rd.iseq
  | with_reducible apply Rd.irng1
  | walk_at "isi"
  | with_reducible apply Rd.forX
  | with_reducible apply Rd.lstRev
  | with_reducible apply Rd.lstRg
  | with_reducible apply Rd.rg1
  | with_reducible apply Rd.rg2
  | with_reducible apply Rd.exint2
  | ((with_reducible apply Rd.exrev); (walk_at "sq"))
  | with_reducible apply Rd.lcX
  | with_reducible apply Rd.yes
  | ((with_reducible apply Rd.exrng1); (constructor <;> omega))
  | ((with_reducible apply Rd.exrng2); (refine ⟨?_, ?_, ?_, ?_⟩ <;> omega))
  | with_reducible apply Rd.irng2
  | ((with_reducible apply Rd.aug); rfl)
  | ((with_reducible apply Rd.exlst); (walk_at "sq"))
  | ((with_reducible apply Rd.gtup); (walk_at "st"); (rfl))
  | ((with_reducible apply Rd.tyL); (walk_at "hp"))
  | ((with_reducible apply Rd.ixL); (walk_at "sq"); (rfl))
  | ((with_reducible apply Rd.ixI); (walk_at "sq"); (omega); (first | assumption | (simp only [List.length_map]; omega)); (intro _ _))
  | (with_reducible refine Rd.gsub ?_)
  | ((with_reducible apply Rd.setL); (walk_at "hp"); (rfl); ((dsimp only [List.set, L2.wipe, Int.reduceToNat]) <;> rfl))
  | ((with_reducible apply Rd.lenQ); (first | exact Or.inl (by walk_at "sq") | exact Or.inr (by walk_at "st")))
  | ((with_reducible apply Rd.listQ); (first | exact Or.inl (by walk_at "sq") | exact Or.inr (by walk_at "st")))
  | ((with_reducible apply Rd.tupQ); (walk_at "sq"))
  | ((with_reducible apply Rd.slL); (walk_at "sq"))
  | ((with_reducible apply Rd.ixT); (walk_at "st"); (rfl))
  | (with_reducible refine Rd.iteB (fun _ => ?_) (fun _ => ?_))
  | (with_reducible refine Rd.iteNB (fun _ => ?_) (fun _ => ?_))
  | (refine Rd.andI (Nat.le_of_ble_eq_true rfl) ?_)
  | dsimp only [List.set])
local macro_rules | `(tactic| walk_at "hp") => `(tactic| first
  | assumption
  | exact upd_same
  | (refine Eq.trans (upd_ne (by first | assumption | (apply Ne.symm; assumption))) ?_; walk_at "hp")
  | (refine hpS (by assumption) ?_; walk_at "hp"))
local macro_rules | `(tactic| walk_at "al") => `(tactic| (with_reducible intro l hl; generalize hG : upd _ l _ = G; have hs := newOne hl hG; clear hG; obtain ⟨hs, he⟩ := hs))
local macro_rules | `(tactic| walk_at "rd") => `(tactic| first
  | walk_at "al"
  | ((with_reducible apply Rd.cat); (walk_at "hp"); (walk_at "hp"); (exact Nat.le_of_ble_eq_true rfl)))
local macro_rules | `(tactic| walk_at "sm") => `(tactic| first
  | assumption
  | exact Same.refl _
  | (refine Same.trans ?_ (by assumption); walk_at "sm"))
local macro_rules | `(tactic| walk_at "fr") => `(tactic| first
  | assumption
  | (refine Same.free (by assumption) ?_; walk_at "fr"))
local macro_rules | `(tactic| walk_at "ty") => `(tactic| first
  | exact dv_ty (by assumption)
  | exact tyD' (by walk_at "hp"))
/-! ### keys judged -/
open Ty
section
variable {P : Program} {w : World} {K : PySem.W.Frag} {mg : Str → Option Value} {base : Heap} {D : Str → Addr}
def isH : Ky → Bool
  | .h x => nmB x
  | _ => false
def isA : Ky → Bool
  | .a l x y => if x = y then false else nmB l && nmB x && nmB y
  | _ => false
def SzK (k : Ky) : Prop := ∀ n ∈ k.words, Sz (.str n)
def spIsHK : Sp := fun vs H Q _ => ∃ (v : V) (k : Ky), vs = [v] ∧ KV H v k ∧ SzK k ∧ ∀ H', Same H H' → Q (.bl (isH k)) H'
theorem ok_is_house_key (F : Def K mg "is_house_key" s_is_house_key P_is_house_key) (m_len : mg "len" = none) (C_is_name : Cal P w K mg base 1 "is_name" P_is_name (spNamed K)) : Cal P w K mg base 2 "is_house_key" P_is_house_key spIsHK := by
  refine F.ok sc_is_house_key (fun vs H Q E h => ?_) (fun f cdv A outer s H vs Q E hr h => ?_)
  · obtain ⟨v, k, rfl, _⟩ := h
    rfl
  obtain ⟨v, k, rfl, ⟨_, t, rfl, ht⟩, sz, q⟩ := h
  refine ⟨_, (pss_one (ps_ret (pe_and (pe_cmpR op_eq (pe_callB q_len (by rfl) m_len PySem.boot_len (pa_cons (pv 0 (hd := nd_key) (hcd := nc_key)) pa_nil) (hn := nn_len) (hdb := nd_len)) pe_int (nomark _)) (pe_and (pe_cmpR op_eq (pe_ix ix_tup (pv 0 (hd := nd_key) (hcd := nc_key)) pe_int (fun _ _ => rfl)) pe_str (nomark _)) (pe_one (pe_cal C_is_name hr (pa_cons (pe_ix ix_tup (pv 0 (hd := nd_key) (hcd := nc_key)) pe_int (fun _ _ => rfl)) pa_nil) (hdb := nd_is_name))))))), ?_⟩
  refine Rd.at0 (σ := [some (.ref t)]) rfl ?_
  cases k with
  | h x =>
    have ht : H t = some (.tup [.str "house", .str x]) := ht
    repeat' (walk_at "rd")
    · refine ⟨_, .str x, rfl, .str x, sz x List.mem_cons_self, fun H1 s1 => ?_⟩
      repeat' (walk_at "rd")
      exact q H1 s1
    · rename_i c
      exact absurd rfl c
  | a l x y =>
    have ht : H t = some (.tup [.str "arc", .str l, .str x, .str y]) := ht
    repeat' (walk_at "rd")
    all_goals exact q H (.refl H)
def spIsAK : Sp := fun vs H Q _ => ∃ (v : V) (k : Ky), vs = [v] ∧ KV H v k ∧ SzK k ∧ ∀ H', Same H H' → Q (.bl (isA k)) H'
theorem ok_is_arc_key (F : Def K mg "is_arc_key" s_is_arc_key P_is_arc_key) (m_len : mg "len" = none) (C_is_name : Cal P w K mg base 1 "is_name" P_is_name (spNamed K)) : Cal P w K mg base 2 "is_arc_key" P_is_arc_key spIsAK := by
  refine F.ok sc_is_arc_key (fun vs H Q E h => ?_) (fun f cdv A outer s H vs Q E hr h => ?_)
  · obtain ⟨v, k, rfl, _⟩ := h
    rfl
  obtain ⟨v, k, rfl, ⟨_, t, rfl, ht⟩, sz, q⟩ := h
  refine ⟨_, (pss_cons (ps_if (PW.pt (pw_or (pt_cmpR op_ne (pe_callB q_len (by rfl) m_len PySem.boot_len (pa_cons (pv 0 (hd := nd_key) (hcd := nc_key)) pa_nil) (hn := nn_len) (hdb := nd_len)) pe_int (nomark _)) (pw_or (pt_cmpR op_ne (pe_ix ix_tup (pv 0 (hd := nd_key) (hcd := nc_key)) pe_int (fun _ _ => rfl)) pe_str (nomark _)) (pw_or1 (pt_cmpR op_eq (pe_ix ix_tup (pv 0 (hd := nd_key) (hcd := nc_key)) pe_int (fun _ _ => rfl)) (pe_ix ix_tup (pv 0 (hd := nd_key) (hcd := nc_key)) pe_int (fun _ _ => rfl)) (nomark _)))))) (pss_one (ps_ret pe_bl)) pss_nil)
  (pss_one (ps_ret (pe_and (pe_cal C_is_name hr (pa_cons (pe_ix ix_tup (pv 0 (hd := nd_key) (hcd := nc_key)) pe_int (fun _ _ => rfl)) pa_nil) (hdb := nd_is_name)) (pe_and (pe_cal C_is_name hr (pa_cons (pe_ix ix_tup (pv 0 (hd := nd_key) (hcd := nc_key)) pe_int (fun _ _ => rfl)) pa_nil) (hdb := nd_is_name)) (pe_one (pe_cal C_is_name hr (pa_cons (pe_ix ix_tup (pv 0 (hd := nd_key) (hcd := nc_key)) pe_int (fun _ _ => rfl)) pa_nil) (hdb := nd_is_name)))))))), ?_⟩
  refine Rd.at0 (σ := [some (.ref t)]) rfl ?_
  cases k with
  | h x =>
    have ht : H t = some (.tup [.str "house", .str x]) := ht
    repeat' (walk_at "rd")
    all_goals first | exact q H (.refl H) | (rename_i c; exact absurd (V.str.inj c) house_arc)
  | a l x y =>
    have ht : H t = some (.tup [.str "arc", .str l, .str x, .str y]) := ht
    have e : isA (.a l x y) = if x = y then false else nmB l && nmB x && nmB y := rfl
    rw [e] at q
    repeat' (walk_at "rd")
    · rename_i c
      exact absurd rfl c
    · rename_i c
      exact absurd rfl c
    · rename_i c
      rw [if_pos (V.str.inj c)] at q
      exact q H (.refl H)
    rename_i c
    rw [if_neg fun z => c (congrArg V.str z)] at q
    refine ⟨_, .str l, rfl, .str l, sz l (.head _), fun H1 s1 => ?_⟩
    change ∀ H', Same H H' → Q (.bl (nmB l && nmB x && nmB y)) H' at q
    refine exbl ?_
    refine iteB (fun hl => ?_) (fun hl => ?_)
    · rw [show nmB l = true from hl, Bool.true_and] at q
      repeat' (walk_at "rd")
      refine ⟨_, .str x, rfl, .str x, sz x (.tail _ (.head _)), fun H2 s2 => ?_⟩
      refine exbl ?_
      refine iteB (fun hx => ?_) (fun hx => ?_)
      · rw [show nmB x = true from hx, Bool.true_and] at q
        repeat' (walk_at "rd")
        refine ⟨_, .str y, rfl, .str y, sz y (.tail _ (.tail _ (.head _))), fun H3 s3 => ?_⟩
        repeat' (walk_at "rd")
        exact q H3 ((s1.trans s2).trans s3)
      · rw [show nmB x = false from hx, Bool.false_and] at q
        repeat' (walk_at "rd")
        exact q H2 (s1.trans s2)
    · rw [show nmB l = false from hl, Bool.false_and, Bool.false_and] at q
      repeat' (walk_at "rd")
      exact q H1 s1
end
end Kj
namespace Kj
open PySem PySem.Spec PyProof.Rows L2 Rd
/-! ### the stepper -/
local macro_rules | `(tactic| walk_at "hp") => `(tactic| first
  | assumption
  | exact upd_same
  | (refine Eq.trans (upd_ne (by first | assumption | (apply Ne.symm; assumption))) ?_; walk_at "hp"))
local macro_rules | `(tactic| walk_at "sq") => `(tactic| first
  | assumption
  | (refine Or.inl (Or.inl ?_); walk_at "hp"))
local macro_rules | `(tactic| walk_at "st") => `(tactic| first
  | assumption
  | (refine Or.inl (Or.inl ?_); walk_at "hp"))
local macro_rules | `(tactic| walk_at "ar") => `(tactic| first
  | assumption
  | omega
  | decide)
local macro_rules | `(tactic| walk_at "ci") => `(tactic| first
  | (refine (show CMul _ _ from Or.inr ⟨?_, ?_⟩) <;> omega)
  | (refine (show CMul _ _ from Or.inl ⟨?_, ?_⟩) <;> omega)
  | (show CPow _ _; exact ⟨by decide, by decide, by decide⟩)
  | (refine wide_div (b := 63) ?_ ?_ (by decide) (by decide) <;> omega)
  | (show (0 : Int) < _; omega))
local macro_rules | `(tactic| walk_at "ty") => `(tactic| first
  | exact dp_ty (by assumption)
  | exact TyX.base (TyOf.int _)
  | exact TyX.base (TyOf.str _)
  | exact TyX.base (TyOf.bl _)
  | exact TyX.base TyOf.non
  | exact tyL' (by walk_at "sq")
  | exact tyT' (by walk_at "st"))
local macro_rules | `(tactic| walk_at "isi") => `(tactic| first
  | ((with_reducible apply Rd.isiF); (walk_at "ty"); (decide))
  | ((with_reducible apply Rd.isiT); (walk_at "ty"); (decide)))
local macro_rules | `(tactic| walk_at "rd") => `(tactic| first
  | with_reducible apply Rd.seq
  | ((with_reducible apply Rd.var); rfl)
  | with_reducible apply Rd.con
  | with_reducible apply Rd.op
  | with_reducible apply Rd.asg
  | ((with_reducible apply Rd.gname); ((dsimp only [List.set, L2.wipe, Int.reduceToNat]) <;> rfl))
  | with_reducible apply Rd.nxt
  | with_reducible apply Rd.ifs
  | with_reducible apply Rd.test
  | with_reducible apply Rd.testB
  | with_reducible apply Rd.exbl
  | with_reducible apply Rd.ret
  | with_reducible apply Rd.drop
  | with_reducible apply Rd.retN
  | with_reducible apply Rd.nil
  | with_reducible apply Rd.cons
  | with_reducible apply Rd.call
  | with_reducible apply Rd.cb
  | with_reducible apply Rd.and
  | with_reducible apply Rd.or
  | with_reducible apply Rd.not
  | with_reducible apply Rd.andV
  | with_reducible apply Rd.orV
  | with_reducible apply Rd.notV
  | with_reducible apply Rd.ife
  | with_reducible apply Rd.tup
  | with_reducible apply Rd.lst
  | with_reducible apply Rd.un
  | with_reducible apply Rd.chain
  | with_reducible apply Rd.brk
  | with_reducible apply Rd.cnt
  | with_reducible apply Rd.I0
  | with_reducible apply Rd.U1
  | ((with_reducible apply Rd.eq); rfl)
  | ((with_reducible apply Rd.ne); rfl)
  | ((with_reducible apply Rd.I1); (walk_at "ci"))
  | with_reducible apply Rd.lc0
  | with_reducible apply Rd.ln0
  | with_reducible apply Rd.exN
  | ((with_reducible apply Rd.iteSf); (decide +kernel))
  | ((with_reducible apply Rd.iteSt); (decide +kernel))
  | ((with_reducible apply Rd.niQ); (exact Or.inl (by walk_at "sq")); (exact ⟨rfl, rfl⟩); (rfl))
  | ((with_reducible apply Rd.inQ); (exact Or.inl (by walk_at "sq")); (exact ⟨rfl, rfl⟩); (rfl))
  | with_reducible apply Rd.rn1
  | with_reducible apply Rd.in1
  | with_reducible apply Rd.sn1
  | with_reducible apply Rd.bn1
  | with_reducible apply Rd.nn1
  | with_reducible apply Rd.rn2
  | with_reducible apply Rd.in2
  | with_reducible apply Rd.sn2
  | with_reducible apply Rd.bn2
  | with_reducible apply Rd.nn2
  | with_reducible apply Rd.nt1
  | with_reducible apply Rd.nf1
  | (with_reducible refine Rd.iteI (fun _ => ?_) (fun _ => ?_))
  | (with_reducible refine Rd.iteNI (fun _ => ?_) (fun _ => ?_))
  | (with_reducible refine iteT ?_)
  | (with_reducible refine iteF ?_)
  | (with_reducible refine Rd.iteD (fun _ => ?_) (fun _ => ?_))
  | (with_reducible refine Rd.iteN (fun _ => ?_) (fun _ => ?_))
  | with_reducible apply Rd.intI
  | with_reducible apply Rd.intB
  | with_reducible apply Rd.maxQ
  | with_reducible apply Rd.minQ
  | with_reducible apply Rd.absQ
  | with_reducible apply Rd.isN
  | with_reducible apply Rd.noN
  | with_reducible apply Rd.ltZ
  | with_reducible apply Rd.bm
  | with_reducible apply Rd.bm0
  | with_reducible apply Rd.par
  | with_reducible apply Rd.expar
  | with_reducible apply Rd.exint
  | with_reducible apply Rd.ipi
  | with_reducible apply Rd.slice
  | with_reducible apply Rd.noPart
  | with_reducible apply Rd.part
  | with_reducible apply Rd.gcons
  | with_reducible apply Rd.gnil
  | with_reducible apply Rd.iseq
  | with_reducible apply Rd.irng1
  | walk_at "isi"
  | with_reducible apply Rd.forX
  | with_reducible apply Rd.lstRev
  | with_reducible apply Rd.lstRg
  | with_reducible apply Rd.rg1
  | with_reducible apply Rd.rg2
  | with_reducible apply Rd.exint2
  | ((with_reducible apply Rd.exrev); (walk_at "sq"))
  | with_reducible apply Rd.lcX
  | with_reducible apply Rd.yes
  | ((with_reducible apply Rd.exrng1); (constructor <;> omega))
  | ((with_reducible apply Rd.exrng2); (refine ⟨?_, ?_, ?_, ?_⟩ <;> omega))
  | with_reducible apply Rd.irng2
  | ((with_reducible apply Rd.aug); rfl)
  | ((with_reducible apply Rd.exlst); (walk_at "sq"))
  | ((with_reducible apply Rd.gtup); (walk_at "st"); (rfl))
  | ((with_reducible apply Rd.tyL); (walk_at "hp"))
  | ((with_reducible apply Rd.ixL); (walk_at "sq"); (rfl))
  | ((with_reducible apply Rd.ixI); (walk_at "sq"); (omega); (first | assumption | (simp only [List.length_map]; omega)); (intro _ _))
  | (with_reducible refine Rd.gsub ?_)
  | ((with_reducible apply Rd.setL); (walk_at "hp"); (rfl); ((dsimp only [List.set, L2.wipe, Int.reduceToNat]) <;> rfl))
  | ((with_reducible apply Rd.lenQ); (first | exact Or.inl (by walk_at "sq") | exact Or.inr (by walk_at "st")))
  | ((with_reducible apply Rd.listQ); (first | exact Or.inl (by walk_at "sq") | exact Or.inr (by walk_at "st")))
  | ((with_reducible apply Rd.tupQ); (walk_at "sq"))
  | ((with_reducible apply Rd.slL); (walk_at "sq"))
  | ((with_reducible apply Rd.ixT); (walk_at "st"); (rfl))
  | (with_reducible refine Rd.iteB (fun _ => ?_) (fun _ => ?_))
  | (with_reducible refine Rd.iteNB (fun _ => ?_) (fun _ => ?_))
  | (refine Rd.andI (Nat.le_of_ble_eq_true rfl) ?_)
  | dsimp only [List.set])
local macro_rules | `(tactic| walk_at "hp") => `(tactic| first
  | assumption
  | exact upd_same
  | (refine Eq.trans (upd_ne (by first | assumption | (apply Ne.symm; assumption))) ?_; walk_at "hp")
  | (refine hpS (by assumption) ?_; walk_at "hp"))
local macro_rules | `(tactic| walk_at "al") => `(tactic| (with_reducible intro l hl; generalize hG : upd _ l _ = G; have hs := newOne hl hG; clear hG; obtain ⟨hs, he⟩ := hs))
local macro_rules | `(tactic| walk_at "rd") => `(tactic| first
  | walk_at "al"
  | ((with_reducible apply Rd.cat); (walk_at "hp"); (walk_at "hp"); (exact Nat.le_of_ble_eq_true rfl)))
local macro_rules | `(tactic| walk_at "sm") => `(tactic| first
  | assumption
  | exact Same.refl _
  | (refine Same.trans ?_ (by assumption); walk_at "sm"))
local macro_rules | `(tactic| walk_at "fr") => `(tactic| first
  | assumption
  | (refine Same.free (by assumption) ?_; walk_at "fr"))
local macro_rules | `(tactic| walk_at "ty") => `(tactic| first
  | exact dv_ty (by assumption)
  | exact tyD' (by walk_at "hp"))
local macro_rules | `(tactic| walk_at "sz") => `(tactic| first
  | exact sz5 (by omega)
  | (simp only [add_len, one_len]; exact sz5 (by omega)))
local macro_rules | `(tactic| walk_at "rd") => `(tactic| first
  | with_reducible apply Rd.istr
  | with_reducible apply Rd.exstr
  | with_reducible apply Rd.leA
  | with_reducible apply Rd.leZz
  | with_reducible apply Rd.le0
  | with_reducible apply Rd.le9
  | with_reducible apply Rd.niZ
  | ((with_reducible apply Rd.lenZ); (walk_at "sz"))
  | ((with_reducible apply Rd.slZ); (walk_at "sz"))
  | ((with_reducible apply Rd.addZ); (walk_at "sz"))
  | with_reducible apply Rd.raiseX
  | with_reducible apply Rd.exone
  | with_reducible apply Rd.callS
  | with_reducible apply Rd.callP
  | with_reducible apply Rd.xsX
  | with_reducible apply Rd.dnewX
  | with_reducible apply Rd.tyZ)
/-! ### a tour's houses and lines -/
open Ty
section
variable {P : Program} {w : World} {K : PySem.W.Frag} {mg : Str → Option Value} {base : Heap} {D : Str → Addr}
def hS : Ky → Option Str := fun k => match k with | .h x => some x | _ => none
def lS : Ky → Option Str := fun k => match k with | .a l x y => if x.cps.toList < y.cps.toList then some l else none | _ => none
theorem fm_keys {f : Ky → Option Str} {ks : List Ky} {n : Nat} (e : n = ks.length) : (List.range n).filterMap (fun i => (ks[i]?.bind f).map V.str) = (ks.filterMap f).map V.str := by
  subst e
  rw [List.map_filterMap]
  exact fm_at fun i h => by rw [List.getElem?_eq_getElem h]; rfl
/-- tour_houses(keys) -/
def spTourHouses : Sp := fun vs H Q _ => ∃ (a : Addr) (ks : List Ky), vs = [.ref a] ∧ KL H a ks ∧ ks.length ≤ 1000 ∧ (ks.filterMap hS).length < 64 ∧ ∀ (L : Addr) (ys : List Str) (H' : Hp), ys.Perm (ks.filterMap hS) → sortedS ys = true → H L = none → Same H H' → H' L = some (.lst (ys.map V.str)) → Q (.ref L) H'
theorem ok_tour_houses (F : Def K mg "tour_houses" s_tour_houses P_tour_houses) (m_sorted : mg "sorted" = none) (m_len : mg "len" = none) : Cal P w K mg base 2 "tour_houses" P_tour_houses spTourHouses := by
  refine F.ok sc_tour_houses (fun vs H Q E h => ?_) (fun f cdv A outer s H vs Q E hr h => ?_)
  · obtain ⟨a, ks, rfl, _⟩ := h
    rfl
  obtain ⟨a, ks, rfl, hk, hl, h64, q⟩ := h
  refine ⟨_, (pss_one (ps_ret (pe_callB (q_sortedSK (K := K) rfl) (by rfl) m_sorted bb_sorted (pa_cons (pe_lc (own := [("key", 1)]) (by rfl) sc_tour_houses.nd (pi_list (pv 0 (hd := nd_keys) (hcd := nc_keys))) (blkOk_by (N := N_tour_houses) (sc := defScope s_tour_houses) (by decide +kernel)) (fun _ _ _ _ _ => (pg_name (i := 1) sc_tour_houses.nd rfl (Or.inl rfl))) (fun _ _ _ _ _ => (pts_one (pt_cmpR op_eq (pe_callB (q_lenK (K := K) rfl) (by rfl) m_len PySem.boot_len (pa_cons (pv 1 (hd := nd_key) (hcd := nc_key)) pa_nil) (hn := nn_len) (hdb := nd_len)) pe_int (nomark _)))) (fun _ _ _ _ _ => (pe_ix (ix_tupK (K := K) rfl) (pv 1 (hd := nd_key) (hcd := nc_key)) pe_int (fun _ _ => rfl)))) pa_nil) (hn := nn_sorted) (hdb := nd_sorted)))), ?_⟩
  refine Rd.at0 (σ := [some (.ref a), none]) rfl ?_
  obtain ⟨vs, ea, kvs, lv⟩ := kl_len hk
  repeat' (walk_at "rd")
  refine lcF vs (fun i => (ks[i]?.bind hS).map V.str) (.inl (.inl ea)) (by omega) (fun i v h hv s => ?_) fun L G n s e => ?_
  · intro L Nx yes no
    obtain ⟨k, hk, ok, t, rfl, ht⟩ := kvs.at hv
    have ht' := s _ _ ht
    refine turn1 ?_
    cases k with
    | h x =>
      have ht' : h t = some (.tup [.str "house", .str x]) := ht'
      have ei : (ks[i]?.bind hS).map V.str = some (.str x) := by rw [hk]; rfl
      repeat' (walk_at "rd")
      refine ⟨rfl, ?_⟩
      repeat' (walk_at "rd")
      · exact yes _ _ ei (.refl _)
      · rename_i c
        exact absurd rfl c
    | a l x y =>
      have ht' : h t = some (.tup [.str "arc", .str l, .str x, .str y]) := ht'
      have ei : (ks[i]?.bind hS).map V.str = none := by rw [hk]; rfl
      repeat' (walk_at "rd")
      refine ⟨rfl, ?_⟩
      repeat' (walk_at "rd")
      · rename_i c
        exact absurd (show (4 : Int) = 2 from c) (by decide)
      · exact no _ ei (.refl _)
  · rw [fm_keys lv] at e
    repeat' (walk_at "rd")
    exact ⟨L, _, rfl, .inl (.inl e), h64, fun ys p pm sy np => q p ys _ pm sy (s.free np) (s.trans (same_upd np)) upd_same⟩
/-- tour_lines(keys) -/
def spTourLines : Sp := fun vs H Q _ => ∃ (a : Addr) (ks : List Ky), vs = [.ref a] ∧ KL H a ks ∧ ks.length ≤ 1000 ∧ (ks.filterMap lS).length < 64 ∧ ∀ (L : Addr) (ys : List Str) (H' : Hp), ys.Perm (ks.filterMap lS) → sortedS ys = true → H L = none → Same H H' → H' L = some (.lst (ys.map V.str)) → Q (.ref L) H'
theorem ok_tour_lines (F : Def K mg "tour_lines" s_tour_lines P_tour_lines) (m_sorted : mg "sorted" = none) (m_len : mg "len" = none) : Cal P w K mg base 2 "tour_lines" P_tour_lines spTourLines := by
  refine F.ok sc_tour_lines (fun vs H Q E h => ?_) (fun f cdv A outer s H vs Q E hr h => ?_)
  · obtain ⟨a, ks, rfl, _⟩ := h
    rfl
  obtain ⟨a, ks, rfl, hk, hl, h64, q⟩ := h
  refine ⟨_, (pss_one (ps_ret (pe_callB (q_sortedSK (K := K) rfl) (by rfl) m_sorted bb_sorted (pa_cons (pe_lc (own := [("key", 1)]) (by rfl) sc_tour_lines.nd (pi_list (pv 0 (hd := nd_keys) (hcd := nc_keys))) (blkOk_by (N := N_tour_lines) (sc := defScope s_tour_lines) (by decide +kernel)) (fun _ _ _ _ _ => (pg_name (i := 1) sc_tour_lines.nd rfl (Or.inl rfl))) (fun _ _ _ _ _ => (pts_one (PW.pt (pw_and (pt_cmpR op_eq (pe_callB (q_lenK (K := K) rfl) (by rfl) m_len PySem.boot_len (pa_cons (pv 1 (hd := nd_key) (hcd := nc_key)) pa_nil) (hn := nn_len) (hdb := nd_len)) pe_int (nomark _)) (pw_and1 (pt_cmpR o_ltZ (pe_ix (ix_tupK (K := K) rfl) (pv 1 (hd := nd_key) (hcd := nc_key)) pe_int (fun _ _ => rfl)) (pe_ix (ix_tupK (K := K) rfl) (pv 1 (hd := nd_key) (hcd := nc_key)) pe_int (fun _ _ => rfl)) (nomark _))))))) (fun _ _ _ _ _ => (pe_ix (ix_tupK (K := K) rfl) (pv 1 (hd := nd_key) (hcd := nc_key)) pe_int (fun _ _ => rfl)))) pa_nil) (hn := nn_sorted) (hdb := nd_sorted)))), ?_⟩
  refine Rd.at0 (σ := [some (.ref a), none]) rfl ?_
  obtain ⟨vs, ea, kvs, lv⟩ := kl_len hk
  repeat' (walk_at "rd")
  refine lcF vs (fun i => (ks[i]?.bind lS).map V.str) (.inl (.inl ea)) (by omega) (fun i v h hv s => ?_) fun L G n s e => ?_
  · intro L Nx yes no
    obtain ⟨k, hk, ok, t, rfl, ht⟩ := kvs.at hv
    have ht' := s _ _ ht
    refine turn1 ?_
    cases k with
    | h x =>
      have ht' : h t = some (.tup [.str "house", .str x]) := ht'
      have ei : (ks[i]?.bind lS).map V.str = none := by rw [hk]; rfl
      repeat' (walk_at "rd")
      refine ⟨rfl, ?_⟩
      repeat' (walk_at "rd")
      all_goals first | exact no _ ei (.refl _) | (exfalso; rename_i c; exact absurd (show (2 : Int) = 4 from c) (by decide)) | skip
    | a l x y =>
      have ht' : h t = some (.tup [.str "arc", .str l, .str x, .str y]) := ht'
      have ei : (ks[i]?.bind lS).map V.str = (if x.cps.toList < y.cps.toList then some l else none).map V.str := by rw [hk]; rfl
      repeat' (walk_at "rd")
      refine ⟨rfl, ?_⟩
      repeat' (walk_at "rd")
      · rename_i c
        exact yes _ _ (ei.trans (by rw [if_pos c]; rfl)) (.refl _)
      · rename_i c
        exact no _ (ei.trans (by rw [if_neg c]; rfl)) (.refl _)
      · rename_i c
        exact absurd rfl c
  · rw [fm_keys lv] at e
    repeat' (walk_at "rd")
    exact ⟨L, _, rfl, .inl (.inl e), h64, fun ys p pm sy np => q p ys _ pm sy (s.free np) (s.trans (same_upd np)) upd_same⟩
theorem fm_two {fs : Nat → Option V} {p q : Nat} {u v : V} (hpq : p < q) (hp : fs p = some u) (hq : fs q = some v) (no : ∀ i, i ≠ p → i ≠ q → fs i = none) : ∀ n, (List.range n).filterMap fs = (if p < n then [u] else []) ++ (if q < n then [v] else [])
  | 0 => rfl
  | n + 1 => by
    rw [filterMap_succ, fm_two hpq hp hq no n]
    by_cases e : n = p
    · subst e
      rw [hp, if_neg (Nat.lt_irrefl _), if_neg (by omega), if_pos (Nat.lt_succ_self _), if_neg (by omega)]
      rfl
    · by_cases e' : n = q
      · subst e'
        rw [hq, if_pos hpq, if_neg (Nat.lt_irrefl _), if_pos (by omega), if_pos (Nat.lt_succ_self _)]
        rfl
      · rw [no n e e']
        have a1 : (p < n + 1) = (p < n) := by
          apply propext
          omega
        have a2 : (q < n + 1) = (q < n) := by
          apply propext
          omega
        simp only [a1, a2, Option.toList_none, List.append_nil]
/-- the keys of a line -/
def isL (l : Str) : Ky → Bool
  | .a m _ _ => decide (m = l)
  | _ => false
def pS (l : Str) (ks : List Ky) (i : Nat) : Option V := ks[i]?.bind fun k => if isL l k = true then some (.int (i : Nat)) else none
theorem cut_mid {xs : List V} {m n : Nat} (h : m ≤ n) (l : n ≤ xs.length) : cutV xs (some (m : Int)) (some (n : Int)) = (xs.drop m).take (n - m) := by
  unfold cutV
  rw [HT.sIx_nat, HT.sIx_nat, Nat.min_eq_left l, Nat.min_eq_left (by omega)]
/-- parted(keys, line), whatever is asked -/
def spPartedD (K : PySem.W.Frag) (D : Str → Addr) : Sp := fun vs H Q E => ∃ (a : Addr) (v : V) (d : PyData) (ks : List Ky), vs = [.ref a, v] ∧ Dv K H v d ∧ Sz d ∧ KL H a ks ∧ ks.length ≤ 1000 ∧
  (nameD d = false → ∀ dd H', H dd = none → Same H H' → H' dd = some (.xd [("word", v), ("code", .str "BadName")]) → E (.ref (D "BadName")) (some dd) H') ∧
  (∀ l, v = .str l → NmS l → (∀ k ∈ ks, isL l k = false) → ∀ dd H', H dd = none → Same H H' → H' dd = some (.xd [("word", .str l), ("code", .str "NoLine")]) → E (.ref (D "NoLine")) (some dd) H') ∧
  (∀ l, v = .str l → NmS l → (∃ k ∈ ks, isL l k = true) → ∃ x y u w xs ys zs, ks = xs ++ .a l x y :: (ys ++ .a l u w :: zs) ∧ (∀ k ∈ xs, isL l k = false) ∧ (∀ k ∈ ys, isL l k = false) ∧ (∀ k ∈ zs, isL l k = false) ∧
    ∀ t p r H', H t = none → H p = none → H r = none → p ≠ r → Same H H' → H' t = some (.tup [.ref p, .ref r]) → KL H' p (xs ++ zs) → KL H' r ys → Q (.ref t) H')
theorem pS_no {l : Str} {ks : List Ky} (h : ∀ k ∈ ks, isL l k = false) : ∀ n, (List.range n).filterMap (pS l ks) = []
  | 0 => rfl
  | n + 1 => by
    rw [filterMap_succ, pS_no h n]
    have : pS l ks n = none := by
      unfold pS
      cases e : ks[n]? with
      | none => rfl
      | some k =>
        show (if isL l k = true then some (V.int (n : Nat)) else none) = none
        rw [h k (List.mem_of_getElem? e)]
        rfl
    rw [this]
    rfl
theorem ok_parted (F : Def K mg "parted" s_parted P_parted) (m_enumerate : mg "enumerate" = none) (m_list : mg "list" = none) (m_len : mg "len" = none) (T_NoLine : Ho.ErrC P w K mg base "NoLine" (D "NoLine") "word") (C_check_name : Ho.CalN P w K mg base 3 "check_name" P_check_name (spCheckN K D)) : Ho.CalN P w K mg base 4 "parted" P_parted (spPartedD K D) := by
  refine Ho.defN F sc_parted (fun vs H Q E h => ?_) (fun f cdv A outer s H vs Q E hr h => ?_)
  · obtain ⟨a, v, d, ks, rfl, _⟩ := h
    rfl
  obtain ⟨a, v, d, ks, rfl, hv, sz, hk, hl, qb, qn, qs⟩ := h
  refine ⟨_, (pss_cons (ps_expr (Ho.pe_calN C_check_name (L2N.takes_of rfl rfl rfl rfl) hr (pa_cons (pv 1 (hd := nd_line) (hcd := nc_line)) pa_nil)))
  (pss_cons (ps_setLc (i := 2) (own := [("at", 5), ("key", 6)]) (by rfl) sc_parted.nd rfl rfl (sw_true rfl rfl rfl (by decide +kernel)) (pi_enum (by rfl) m_enumerate (pa_cons (pv 0 (hd := nd_keys) (hcd := nc_keys)) pa_nil)) (blkOk_by (N := N_parted) (sc := defScope s_parted) (by decide +kernel)) (fun _ _ _ _ _ => (Rd.pg_tupK (K := K) (n := 2) rfl (by rfl) (pgs_cons (pg_name (i := 5) sc_parted.nd rfl (Or.inl rfl)) (pgs_cons (pg_name (i := 6) sc_parted.nd rfl (Or.inl rfl)) pgs_nil)))) (fun _ _ _ _ _ => (pts_one (PW.pt (pw_and (pt_cmpR op_eq (pe_callB (q_lenK (K := K) rfl) (by rfl) m_len PySem.boot_len (pa_cons (pv 6 (hd := nd_key) (hcd := nc_key)) pa_nil) (hn := nn_len) (hdb := nd_len)) pe_int (nomark _)) (pw_and1 (pt_cmpR op_eq (pe_ix (ix_tupK (K := K) rfl) (pv 6 (hd := nd_key) (hcd := nc_key)) pe_int (fun _ _ => rfl)) (pv 1 (hd := nd_line) (hcd := nc_line)) (nomark _))))))) (fun _ _ _ _ _ => (pv 5 (hd := nd_at) (hcd := nc_at))))
  (pss_cons (ps_if (pt_cmpR (Ho.eqDK (K := K) rfl hr.units) (pv 2 (hd := nd_places) (hcd := nc_places)) (pe_lst pa_nil) (nomark _)) (pss_one (Ho.ps_err rfl T_NoLine hr (L2N.takes_of rfl rfl rfl rfl) (pa_cons (pv 1 (hd := nd_line) (hcd := nc_line)) pa_nil) (by first | exact Ho.up_v | exact Ho.up_c))) pss_nil)
  (pss_cons (ps_asg (pv 2 (hd := nd_places) (hcd := nc_places)) (pg_unl (n := 2) (by rfl) (pgs_cons (pg_name (i := 3) sc_parted.nd rfl (Or.inl rfl)) (pgs_cons (pg_name (i := 4) sc_parted.nd rfl (Or.inl rfl)) pgs_nil))))
  (pss_one (ps_ret (pe_tup (pa_cons (pe_op op_cat (pe_callTy q_list (by rfl) m_list bb_list (pa_cons (pe_slice sl_list (pv 0 (hd := nd_keys) (hcd := nc_keys)) po_none (po_some (pv 3 (hd := nd_first) (hcd := nc_first)))) pa_nil) (hn := nn_list) (hdb := nd_list)) (pe_callTy q_list (by rfl) m_list bb_list (pa_cons (pe_slice sl_list (pv 0 (hd := nd_keys) (hcd := nc_keys)) (po_some (pe_op op_add (pv 4 (hd := nd_second) (hcd := nc_second)) pe_int)) po_none) pa_nil) (hn := nn_list) (hdb := nd_list))) (pa_cons (pe_callTy q_list (by rfl) m_list bb_list (pa_cons (pe_slice sl_list (pv 0 (hd := nd_keys) (hcd := nc_keys)) (po_some (pe_op op_add (pv 3 (hd := nd_first) (hcd := nc_first)) pe_int)) (po_some (pv 4 (hd := nd_second) (hcd := nc_second)))) pa_nil) (hn := nn_list) (hdb := nd_list)) pa_nil))))))))), ?_⟩
  refine Rd.at0 (σ := [some (.ref a), some v, none, none, none, none, none]) rfl ?_
  obtain ⟨vs, ea, kvs, lv⟩ := kl_len hk
  have l5 := lv ▸ hl
  repeat' (walk_at "rd")
  refine ⟨v, d, rfl, hv, sz, fun hn H1 s1 => ?_, fun hn dd H1 n1 s1 e1 => qb hn dd H1 n1 s1 e1⟩
  obtain ⟨l, rfl⟩ : ∃ x, d = .str x := by
    rcases str_cases d with h | ⟨h, _⟩
    · exact h
    · rw [hn] at h
      cases h
  cases hv
  have nl : NmS l := nm_iff hn
  have ea1 := s1 _ _ ea
  repeat' (walk_at "rd")
  refine Rd.ienum ?_
  repeat' (walk_at "rd")
  refine ⟨a, vs, rfl, .inl (.inl ea1), ?_⟩
  refine lcE vs (pS l ks) (.inl (.inl ea1)) (by omega) (fun i v h T hv s fT => ?_) fun L G n s e => ?_
  · intro L Nx yes no
    obtain ⟨k, hk', ok, t, rfl, ht⟩ := kvs.at hv
    have sT := same_upd (o := .tup [V.int (i : Nat), V.ref t]) fT
    have ht' := sT _ _ ((s1.trans s) _ _ ht)
    have eT : upd h T (.tup [.int (i : Nat), .ref t]) T = some _ := upd_same
    have ei : pS l ks i = if isL l k = true then some (.int (i : Nat)) else none := by
      unfold pS
      rw [hk']
      rfl
    generalize upd h T _ = G at *
    refine turn1 ?_
    cases k with
    | h z =>
      have ht' : G t = some (.tup [.str "house", .str z]) := ht'
      repeat' (walk_at "rd")
      refine ⟨rfl, ?_⟩
      repeat' (walk_at "rd")
      all_goals first | exact no _ ei sT | (exfalso; rename_i c _; exact absurd (show (2 : Int) = 4 from c) (by decide)) | skip
    | a m z1 z2 =>
      have ht' : G t = some (.tup [.str "arc", .str m, .str z1, .str z2]) := ht'
      repeat' (walk_at "rd")
      refine ⟨rfl, ?_⟩
      repeat' (walk_at "rd")
      · rename_i c
        exact yes _ _ (ei.trans (if_pos (show decide (m = l) = true from decide_eq_true (V.str.inj c)))) sT
      · rename_i c
        exact no _ (ei.trans (if_neg (show ¬ decide (m = l) = true from fun z => c (congrArg V.str (of_decide_eq_true z))))) sT
      · rename_i c
        exact absurd rfl c
  by_cases there : ∃ k ∈ ks, isL l k = true
  · obtain ⟨x, y, u, w', xs, ys, zs, rfl, nx, ny, nz, q⟩ := qs l rfl nl there
    have e1 : pS l (xs ++ .a l x y :: (ys ++ .a l u w' :: zs)) xs.length = some (.int (xs.length : Nat)) := by
      unfold pS
      rw [List.getElem?_append_right (Nat.le_refl _), Nat.sub_self]
      exact if_pos (decide_eq_true rfl)
    have e2 : pS l (xs ++ .a l x y :: (ys ++ .a l u w' :: zs)) (xs.length + 1 + ys.length) = some (.int ((xs.length + 1 + ys.length : Nat) : Int)) := by
      unfold pS
      rw [List.getElem?_append_right (by omega), show xs.length + 1 + ys.length - xs.length = ys.length + 1 by omega, List.getElem?_cons_succ, List.getElem?_append_right (Nat.le_refl _), Nat.sub_self]
      exact if_pos (decide_eq_true rfl)
    have e3 : ∀ i, i ≠ xs.length → i ≠ xs.length + 1 + ys.length → pS l (xs ++ .a l x y :: (ys ++ .a l u w' :: zs)) i = none := fun i n1 n2 => by
      unfold pS
      have no : ∀ {k : Ky} {j : Nat} {ks : List Ky}, (∀ k ∈ ks, isL l k = false) → ks[j]? = some k → isL l k = false := fun h e => h _ (List.mem_of_getElem? e)
      cases eq : (xs ++ .a l x y :: (ys ++ .a l u w' :: zs))[i]? with
      | none => rfl
      | some k =>
        have : isL l k = false := by
          by_cases l1 : i < xs.length
          · rw [List.getElem?_append_left l1] at eq
            exact no nx eq
          · obtain ⟨j, rfl⟩ : ∃ j, i = xs.length + 1 + j := ⟨i - (xs.length + 1), by omega⟩
            rw [List.getElem?_append_right (by omega), show xs.length + 1 + j - xs.length = j + 1 by omega, List.getElem?_cons_succ] at eq
            by_cases l2 : j < ys.length
            · rw [List.getElem?_append_left l2] at eq
              exact no ny eq
            · obtain ⟨m, rfl⟩ : ∃ m, j = ys.length + 1 + m := ⟨j - (ys.length + 1), by omega⟩
              rw [List.getElem?_append_right (by omega), show ys.length + 1 + m - ys.length = m + 1 by omega, List.getElem?_cons_succ] at eq
              exact no nz eq
        show (if isL l k = true then some (V.int (i : Nat)) else none) = none
        rw [this]
        rfl
    have ln : vs.length = xs.length + 1 + ys.length + 1 + zs.length := by
      rw [lv, List.length_append, List.length_cons, List.length_append, List.length_cons]
      omega
    rw [fm_two (by omega) e1 e2 e3, if_pos (by omega), if_pos (by omega)] at e
    have e : G L = some (.lst [.int (xs.length : Nat), .int ((xs.length + 1 + ys.length : Nat) : Int)]) := e
    repeat' (walk_at "rd")
    rename_i l6 n6 G6 s6 g6
    refine ⟨.list [.int (xs.length : Nat), .int ((xs.length + 1 + ys.length : Nat) : Int)], .list [], .lst (.inl (.inl (s6 _ _ e))) (.cons (.int _) (.cons (.int _) .nil)), .lst (.inl (.inl g6)) .nil, rfl, rfl, ?_⟩
    have nb : PyData.eqv (.list [.int (xs.length : Nat), .int ((xs.length + 1 + ys.length : Nat) : Int)]) (.list []) = false := by simp [PyData.eqv, PyData.eqvAll]
    rw [nb]
    repeat' (walk_at "rd")
    refine Rd.gunl (.inl (.inl (s6 _ _ e))) rfl ?_
    repeat' (walk_at "rd")
    rename_i l7 n7 G7 s7 g7 l8 n8 G8 s8 g8 l9 n9 G9 s9 g9 l10 n10 G10 s10 g10
    have c1 := cutV_length vs none (some (xs.length : Int))
    have c2 := cutV_length vs (some (((xs.length + 1 + ys.length : Nat) : Int) + 1)) none
    refine cat (s10 _ _ (s9 _ _ g8)) g10 (sz5 (by omega)) ?_
    repeat' (walk_at "rd")
    rename_i l11 n11 G11 s11 g11 l12 n12 G12 s12 g12 l13 n13 G13 s13 g13 l14 n14 G14 s14 g14
    have a1 : Same H G10 := (((((s1.trans s).trans s6).trans s7).trans s8).trans s9).trans s10
    have a2 : Same H G13 := ((a1.trans s11).trans s12).trans s13
    have a3 : Same H G14 := a2.trans s14
    have kk := kvs.same a3
    have k1 := kvs_to kk
    have k2 : KVs G14 (cutV vs (some (((xs.length + 1 + ys.length : Nat) : Int) + 1)) none) zs := by
      have e0 : xs ++ .a l x y :: (ys ++ .a l u w' :: zs) = (xs ++ .a l x y :: (ys ++ [.a l u w'])) ++ zs := by simp
      rw [e0] at kk
      have := kvs_from kk
      rw [show ((xs ++ Ky.a l x y :: (ys ++ [Ky.a l u w'])).length : Int) = ((xs.length + 1 + ys.length : Nat) : Int) + 1 by
        simp only [List.length_append, List.length_cons, List.length_nil]
        omega] at this
      exact this
    have k3 : KVs G14 (cutV vs (some ((xs.length : Int) + 1)) (some ((xs.length + 1 + ys.length : Nat) : Int))) ys := by
      rw [show (xs.length : Int) + 1 = ((xs.length + 1 : Nat) : Int) by omega, cut_mid (by omega) (by omega)]
      have e0 : (xs ++ .a l x y :: (ys ++ .a l u w' :: zs)).drop (xs.length + 1) = ys ++ .a l u w' :: zs := by
        rw [show xs ++ .a l x y :: (ys ++ .a l u w' :: zs) = (xs ++ [.a l x y]) ++ (ys ++ .a l u w' :: zs) by simp]
        exact List.drop_left' (by simp)
      have := ((kk.cut (xs.length + 1)).2.cut ys.length).1
      rw [e0, List.take_left] at this
      rw [show xs.length + 1 + ys.length - (xs.length + 1) = ys.length by omega]
      exact this
    have e11 := s14 _ _ (s13 _ _ (s12 _ _ g11))
    exact q l14 l11 l13 G14 (a2.free n14) (a1.free n11) ((((a1.trans s11).trans s12)).free n13) (ne_of_none (s12 _ _ g11) n13) a3 g14 ⟨_, e11, k1.app k2⟩ ⟨_, s14 _ _ g13, k3⟩
  · have none' : ∀ k ∈ ks, isL l k = false := fun k m => by
      cases c : isL l k with
      | false => rfl
      | true => exact absurd ⟨k, m, c⟩ there
    rw [pS_no none'] at e
    repeat' (walk_at "rd")
    rename_i l6 n6 G6 s6 g6
    refine ⟨.list [], .list [], .lst (.inl (.inl (s6 _ _ e))) .nil, .lst (.inl (.inl g6)) .nil, rfl, rfl, ?_⟩
    have nb : PyData.eqv (.list []) (.list []) = true := by simp [PyData.eqv, PyData.eqvAll]
    rw [nb]
    repeat' (walk_at "rd")
    rename_i dd n7 G7 s7 e7
    exact qn l rfl nl none' dd G7 (((s1.trans s).trans s6).free n7) (((s1.trans s).trans s6).trans s7) e7
end
end Kj
namespace Kj
open PySem PySem.Spec PyProof.Rows L2 Rd
/-! ### the stepper -/
local macro_rules | `(tactic| walk_at "hp") => `(tactic| first
  | assumption
  | exact upd_same
  | (refine Eq.trans (upd_ne (by first | assumption | (apply Ne.symm; assumption))) ?_; walk_at "hp"))
local macro_rules | `(tactic| walk_at "sq") => `(tactic| first
  | assumption
  | (refine Or.inl (Or.inl ?_); walk_at "hp"))
local macro_rules | `(tactic| walk_at "st") => `(tactic| first
  | assumption
  | (refine Or.inl (Or.inl ?_); walk_at "hp"))
local macro_rules | `(tactic| walk_at "ar") => `(tactic| first
  | assumption
  | omega
  | decide)
local macro_rules | `(tactic| walk_at "ci") => `(tactic| first
  | (refine (show CMul _ _ from Or.inr ⟨?_, ?_⟩) <;> omega)
  | (refine (show CMul _ _ from Or.inl ⟨?_, ?_⟩) <;> omega)
  | (show CPow _ _; exact ⟨by decide, by decide, by decide⟩)
  | (refine wide_div (b := 63) ?_ ?_ (by decide) (by decide) <;> omega)
  | (show (0 : Int) < _; omega))
local macro_rules | `(tactic| walk_at "ty") => `(tactic| first
  | exact dp_ty (by assumption)
  | exact TyX.base (TyOf.int _)
  | exact TyX.base (TyOf.str _)
  | exact TyX.base (TyOf.bl _)
  | exact TyX.base TyOf.non
  | exact tyL' (by walk_at "sq")
  | exact tyT' (by walk_at "st"))
local macro_rules | `(tactic| walk_at "isi") => `(tactic| first
  | ((with_reducible apply Rd.isiF); (walk_at "ty"); (decide))
  | ((with_reducible apply Rd.isiT); (walk_at "ty"); (decide)))
local macro_rules | `(tactic| walk_at "rd") => `(tactic| first
  | with_reducible apply Rd.seq
  | ((with_reducible apply Rd.var); rfl)
  | with_reducible apply Rd.con
  | with_reducible apply Rd.op
  | with_reducible apply Rd.asg
  | ((with_reducible apply Rd.gname); ((dsimp only [List.set, L2.wipe, Int.reduceToNat]) <;> rfl))
  | with_reducible apply Rd.nxt
  | with_reducible apply Rd.ifs
  | with_reducible apply Rd.test
  | with_reducible apply Rd.testB
  | with_reducible apply Rd.exbl
  | with_reducible apply Rd.ret
  | with_reducible apply Rd.drop
  | with_reducible apply Rd.retN
  | with_reducible apply Rd.nil
  | with_reducible apply Rd.cons
  | with_reducible apply Rd.call
  | with_reducible apply Rd.cb
  | with_reducible apply Rd.and
  | with_reducible apply Rd.or
  | with_reducible apply Rd.not
  | with_reducible apply Rd.andV
  | with_reducible apply Rd.orV
  | with_reducible apply Rd.notV
  | with_reducible apply Rd.ife
  | with_reducible apply Rd.tup
  | with_reducible apply Rd.lst
  | with_reducible apply Rd.un
  | with_reducible apply Rd.chain
  | with_reducible apply Rd.brk
  | with_reducible apply Rd.cnt
  | with_reducible apply Rd.I0
  | with_reducible apply Rd.U1
  | ((with_reducible apply Rd.eq); rfl)
  | ((with_reducible apply Rd.ne); rfl)
  | ((with_reducible apply Rd.I1); (walk_at "ci"))
  | with_reducible apply Rd.lc0
  | with_reducible apply Rd.ln0
  | with_reducible apply Rd.exN
  | ((with_reducible apply Rd.iteSf); (decide +kernel))
  | ((with_reducible apply Rd.iteSt); (decide +kernel))
  | ((with_reducible apply Rd.niQ); (exact Or.inl (by walk_at "sq")); (exact ⟨rfl, rfl⟩); (rfl))
  | ((with_reducible apply Rd.inQ); (exact Or.inl (by walk_at "sq")); (exact ⟨rfl, rfl⟩); (rfl))
  | with_reducible apply Rd.rn1
  | with_reducible apply Rd.in1
  | with_reducible apply Rd.sn1
  | with_reducible apply Rd.bn1
  | with_reducible apply Rd.nn1
  | with_reducible apply Rd.rn2
  | with_reducible apply Rd.in2
  | with_reducible apply Rd.sn2
  | with_reducible apply Rd.bn2
  | with_reducible apply Rd.nn2
  | with_reducible apply Rd.nt1
  | with_reducible apply Rd.nf1
  | (with_reducible refine Rd.iteI (fun _ => ?_) (fun _ => ?_))
  | (with_reducible refine Rd.iteNI (fun _ => ?_) (fun _ => ?_))
  | (with_reducible refine iteT ?_)
  | (with_reducible refine iteF ?_)
  | (with_reducible refine Rd.iteD (fun _ => ?_) (fun _ => ?_))
  | (with_reducible refine Rd.iteN (fun _ => ?_) (fun _ => ?_))
  | with_reducible apply Rd.intI
  | with_reducible apply Rd.intB
  | with_reducible apply Rd.maxQ
  | with_reducible apply Rd.minQ
  | with_reducible apply Rd.absQ
  | with_reducible apply Rd.isN
  | with_reducible apply Rd.noN
  | with_reducible apply Rd.ltZ
  | with_reducible apply Rd.bm
  | with_reducible apply Rd.bm0
  | with_reducible apply Rd.par
  | with_reducible apply Rd.expar
  | with_reducible apply Rd.exint
  | with_reducible apply Rd.ipi
  | with_reducible apply Rd.slice
  | with_reducible apply Rd.noPart
  | with_reducible apply Rd.part
  | with_reducible apply Rd.gcons
  | with_reducible apply Rd.gnil
  | with_reducible apply Rd.iseq
  | with_reducible apply Rd.irng1
  | walk_at "isi"
  | with_reducible apply Rd.forX
  | with_reducible apply Rd.lstRev
  | with_reducible apply Rd.lstRg
  | with_reducible apply Rd.rg1
  | with_reducible apply Rd.rg2
  | with_reducible apply Rd.exint2
  | ((with_reducible apply Rd.exrev); (walk_at "sq"))
  | with_reducible apply Rd.lcX
  | with_reducible apply Rd.yes
  | ((with_reducible apply Rd.exrng1); (constructor <;> omega))
  | ((with_reducible apply Rd.exrng2); (refine ⟨?_, ?_, ?_, ?_⟩ <;> omega))
  | with_reducible apply Rd.irng2
  | ((with_reducible apply Rd.aug); rfl)
  | ((with_reducible apply Rd.exlst); (walk_at "sq"))
  | ((with_reducible apply Rd.gtup); (walk_at "st"); (rfl))
  | ((with_reducible apply Rd.tyL); (walk_at "hp"))
  | ((with_reducible apply Rd.ixL); (walk_at "sq"); (rfl))
  | ((with_reducible apply Rd.ixI); (walk_at "sq"); (omega); (first | assumption | (simp only [List.length_map]; omega)); (intro _ _))
  | (with_reducible refine Rd.gsub ?_)
  | ((with_reducible apply Rd.setL); (walk_at "hp"); (rfl); ((dsimp only [List.set, L2.wipe, Int.reduceToNat]) <;> rfl))
  | ((with_reducible apply Rd.lenQ); (first | exact Or.inl (by walk_at "sq") | exact Or.inr (by walk_at "st")))
  | ((with_reducible apply Rd.listQ); (first | exact Or.inl (by walk_at "sq") | exact Or.inr (by walk_at "st")))
  | ((with_reducible apply Rd.tupQ); (walk_at "sq"))
  | ((with_reducible apply Rd.slL); (walk_at "sq"))
  | ((with_reducible apply Rd.ixT); (walk_at "st"); (rfl))
  | (with_reducible refine Rd.iteB (fun _ => ?_) (fun _ => ?_))
  | (with_reducible refine Rd.iteNB (fun _ => ?_) (fun _ => ?_))
  | (refine Rd.andI (Nat.le_of_ble_eq_true rfl) ?_)
  | dsimp only [List.set])
local macro_rules | `(tactic| walk_at "hp") => `(tactic| first
  | assumption
  | exact upd_same
  | (refine Eq.trans (upd_ne (by first | assumption | (apply Ne.symm; assumption))) ?_; walk_at "hp")
  | (refine hpS (by assumption) ?_; walk_at "hp"))
local macro_rules | `(tactic| walk_at "al") => `(tactic| (with_reducible intro l hl; generalize hG : upd _ l _ = G; have hs := newOne hl hG; clear hG; obtain ⟨hs, he⟩ := hs))
local macro_rules | `(tactic| walk_at "rd") => `(tactic| first
  | walk_at "al"
  | ((with_reducible apply Rd.cat); (walk_at "hp"); (walk_at "hp"); (exact Nat.le_of_ble_eq_true rfl)))
local macro_rules | `(tactic| walk_at "sm") => `(tactic| first
  | assumption
  | exact Same.refl _
  | (refine Same.trans ?_ (by assumption); walk_at "sm"))
local macro_rules | `(tactic| walk_at "fr") => `(tactic| first
  | assumption
  | (refine Same.free (by assumption) ?_; walk_at "fr"))
local macro_rules | `(tactic| walk_at "ty") => `(tactic| first
  | exact dv_ty (by assumption)
  | exact tyD' (by walk_at "hp"))
local macro_rules | `(tactic| walk_at "sz") => `(tactic| first
  | exact sz5 (by omega)
  | (simp only [add_len, one_len]; exact sz5 (by omega)))
local macro_rules | `(tactic| walk_at "rd") => `(tactic| first
  | with_reducible apply Rd.istr
  | with_reducible apply Rd.exstr
  | with_reducible apply Rd.leA
  | with_reducible apply Rd.leZz
  | with_reducible apply Rd.le0
  | with_reducible apply Rd.le9
  | with_reducible apply Rd.niZ
  | ((with_reducible apply Rd.lenZ); (walk_at "sz"))
  | ((with_reducible apply Rd.slZ); (walk_at "sz"))
  | ((with_reducible apply Rd.addZ); (walk_at "sz"))
  | with_reducible apply Rd.raiseX
  | with_reducible apply Rd.exone
  | with_reducible apply Rd.callS
  | with_reducible apply Rd.callP
  | with_reducible apply Rd.xsX
  | with_reducible apply Rd.dnewX
  | with_reducible apply Rd.tyZ)
/-! ### a round walk -/
open Ty
section
variable {P : Program} {w : World} {K : PySem.W.Frag} {mg : Str → Option Value} {base : Heap} {D : Str → Addr}
/-- the place ahead of i, the last one ahead of the first -/
def prev (n i : Nat) : Nat := if i = 0 then n - 1 else i - 1
theorem prev_lt {n i : Nat} (h : i < n) : prev n i < n := by
  unfold prev
  split <;> omega
theorem ixPrev {H : Hp} {Q : VK} {p : Addr} {xs : List V} {x : V} {i : Nat} (h : SqL K H p xs) (l : i < xs.length) (e : xs[prev xs.length i]? = some x) (q : Q x H) : rIxL K (.ref p) (.int ((i : Int) - 1)) H Q := by
  have key : atI xs ((i : Int) - 1) = some x := by
    unfold prev at e
    by_cases z : i = 0
    · subst z
      rw [if_pos rfl] at e
      have ne : xs ≠ [] := fun z => by
        subst z
        cases l
      have := atI_last xs.dropLast (xs.getLast ne)
      rw [List.dropLast_concat_getLast ne] at this
      rw [show ((0 : Nat) : Int) - 1 = -1 by decide, this]
      rw [List.getElem?_eq_getElem (by omega)] at e
      rw [← e, List.getLast_eq_getElem]
    · rw [if_neg z] at e
      rw [show (i : Int) - 1 = ((i - 1 : Nat) : Int) by omega]
      exact atI_nat e
  exact ⟨p, xs, _, x, rfl, rfl, h, key, q⟩
theorem ch_prev {ks : List Ky} {s : Str} {i : Nat} {k k' : Ky} (h : Ch s ks s) (e : ks[i]? = some k) (e' : ks[prev ks.length i]? = some k') : k'.stop = k.start := by
  unfold prev at e'
  by_cases z : i = 0
  · subst z
    rw [if_pos rfl] at e'
    rw [ch_last h e', ch_first h e]
  · rw [if_neg z] at e'
    refine ch_at (i := i - 1) h e' ?_
    rw [show i - 1 + 1 = i by omega]
    exact e
theorem fm_true : ∀ n : Nat, (List.range n).filterMap (fun _ => some (V.bl true)) = (List.replicate n true).map V.bl
  | 0 => rfl
  | n + 1 => by
    rw [filterMap_succ, fm_true n, List.replicate_succ', List.map_append]
    rfl
theorem all_true (n : Nat) : (List.replicate n true).all id = true := List.all_eq_true.mpr fun b h => (List.mem_replicate.mp h).2
/-- is_round(keys), of a round walk -/
def spRound : Sp := fun vs H Q _ => ∃ (a : Addr) (ks : List Ky) (s : Str), vs = [.ref a] ∧ KL H a ks ∧ ks.length ≤ 1000 ∧ Ch s ks s ∧ ∀ H', Same H H' → Q (.bl true) H'
theorem ok_is_round (F : Def K mg "is_round" s_is_round P_is_round) (m_all : mg "all" = none) (m_enumerate : mg "enumerate" = none) (C_starts_at : Cal P w K mg base 1 "starts_at" P_starts_at spStarts) (C_stops_at : Cal P w K mg base 1 "stops_at" P_stops_at spStops) : Cal P w K mg base 3 "is_round" P_is_round spRound := by
  refine F.ok sc_is_round (fun vs H Q E h => ?_) (fun f cdv A outer s H vs Q E hr h => ?_)
  · obtain ⟨a, ks, z, rfl, _⟩ := h
    rfl
  obtain ⟨a, ks, z, rfl, hk, hl, hc, q⟩ := h
  refine ⟨_, (pss_one (ps_ret (pe_callB (cr_allK (K := K) rfl rfl) (by rfl) m_all bb_all (pa_cons (pe_lc (own := [("at", 1), ("key", 2)]) (by rfl) sc_is_round.nd (pi_enum (by rfl) m_enumerate (pa_cons (pv 0 (hd := nd_keys) (hcd := nc_keys)) pa_nil)) (blkOk_by (N := N_is_round) (sc := defScope s_is_round) (by decide +kernel)) (fun _ _ _ _ _ => (Rd.pg_tupK (K := K) (n := 2) rfl (by rfl) (pgs_cons (pg_name (i := 1) sc_is_round.nd rfl (Or.inl rfl)) (pgs_cons (pg_name (i := 2) sc_is_round.nd rfl (Or.inl rfl)) pgs_nil)))) (fun _ _ _ _ _ => pts_nil) (fun _ _ _ _ _ => (pe_cmpR op_eq (pe_cal C_stops_at hr (pa_cons (pe_ix (ix_listK (K := K) rfl) (pv 0 (hd := nd_keys) (hcd := nc_keys)) (pe_op op_sub (pv 1 (hd := nd_at) (hcd := nc_at)) pe_int) (fun _ _ => rfl)) pa_nil) (hdb := nd_stops_at)) (pe_cal C_starts_at hr (pa_cons (pv 2 (hd := nd_key) (hcd := nc_key)) pa_nil) (hdb := nd_starts_at)) (nomark _)))) pa_nil) (hn := nn_all) (hdb := nd_all)))), ?_⟩
  refine Rd.at0 (σ := [some (.ref a), none, none]) rfl ?_
  obtain ⟨vs, ea, kvs, lv⟩ := kl_len hk
  repeat' (walk_at "rd")
  refine Rd.ienum ?_
  repeat' (walk_at "rd")
  refine ⟨a, vs, rfl, .inl (.inl ea), ?_⟩
  refine lcE vs (fun _ => some (.bl true)) (.inl (.inl ea)) (by omega) (fun i v h T hv s fT => ?_) fun L G n s e => ?_
  · intro L Nx yes no
    obtain ⟨k, hk', kv'⟩ := kvs.at hv
    have sT := same_upd (o := .tup [V.int (i : Nat), v]) fT
    have kv' := (kv'.same s).same sT
    have eT : upd h T (.tup [.int (i : Nat), v]) T = some _ := upd_same
    have ea' := sT _ _ (s _ _ ea)
    have il : i < vs.length := (List.getElem?_eq_some_iff.mp hv).1
    obtain ⟨v', hv'⟩ : ∃ u, vs[prev vs.length i]? = some u := ⟨_, List.getElem?_eq_getElem (prev_lt il)⟩
    obtain ⟨k', hk2, kv2⟩ := kvs.at hv'
    have kv2 := (kv2.same s).same sT
    rw [lv] at hk2
    have st := ch_prev hc hk' hk2
    generalize upd h T _ = G at *
    refine turn1 ?_
    repeat' (walk_at "rd")
    refine ⟨rfl, ?_⟩
    repeat' (walk_at "rd")
    refine ixPrev (.inl (.inl ea')) il hv' ?_
    repeat' (walk_at "rd")
    refine ⟨v', k', rfl, kv2, ?_⟩
    repeat' (walk_at "rd")
    refine ⟨v, k, rfl, kv', ?_⟩
    repeat' (walk_at "rd")
    rw [st, decide_eq_true rfl]
    exact yes _ _ rfl sT
  · rw [fm_true] at e
    refine allB (.inl (.inl e)) ?_
    rw [all_true]
    repeat' (walk_at "rd")
    exact q G s
end
end Kj
namespace Kj
open PySem PySem.Spec PyProof.Rows L2 Rd
/-! ### the stepper -/
local macro_rules | `(tactic| walk_at "hp") => `(tactic| first
  | assumption
  | exact upd_same
  | (refine Eq.trans (upd_ne (by first | assumption | (apply Ne.symm; assumption))) ?_; walk_at "hp"))
local macro_rules | `(tactic| walk_at "sq") => `(tactic| first
  | assumption
  | (refine Or.inl (Or.inl ?_); walk_at "hp"))
local macro_rules | `(tactic| walk_at "st") => `(tactic| first
  | assumption
  | (refine Or.inl (Or.inl ?_); walk_at "hp"))
local macro_rules | `(tactic| walk_at "ar") => `(tactic| first
  | assumption
  | omega
  | decide)
local macro_rules | `(tactic| walk_at "ci") => `(tactic| first
  | (refine (show CMul _ _ from Or.inr ⟨?_, ?_⟩) <;> omega)
  | (refine (show CMul _ _ from Or.inl ⟨?_, ?_⟩) <;> omega)
  | (show CPow _ _; exact ⟨by decide, by decide, by decide⟩)
  | (refine wide_div (b := 63) ?_ ?_ (by decide) (by decide) <;> omega)
  | (show (0 : Int) < _; omega))
local macro_rules | `(tactic| walk_at "ty") => `(tactic| first
  | exact dp_ty (by assumption)
  | exact TyX.base (TyOf.int _)
  | exact TyX.base (TyOf.str _)
  | exact TyX.base (TyOf.bl _)
  | exact TyX.base TyOf.non
  | exact tyL' (by walk_at "sq")
  | exact tyT' (by walk_at "st"))
local macro_rules | `(tactic| walk_at "isi") => `(tactic| first
  | ((with_reducible apply Rd.isiF); (walk_at "ty"); (decide))
  | ((with_reducible apply Rd.isiT); (walk_at "ty"); (decide)))
local macro_rules | `(tactic| walk_at "rd") => `(tactic| first
  | with_reducible apply Rd.seq
  | ((with_reducible apply Rd.var); rfl)
  | with_reducible apply Rd.con
  | with_reducible apply Rd.op
  | with_reducible apply Rd.asg
  | ((with_reducible apply Rd.gname); ((dsimp only [List.set, L2.wipe, Int.reduceToNat]) <;> rfl))
  | with_reducible apply Rd.nxt
  | with_reducible apply Rd.ifs
  | with_reducible apply Rd.test
  | with_reducible apply Rd.testB
  | with_reducible apply Rd.exbl
  | with_reducible apply Rd.ret
  | with_reducible apply Rd.drop
  | with_reducible apply Rd.retN
  | with_reducible apply Rd.nil
  | with_reducible apply Rd.cons
  | with_reducible apply Rd.call
  | with_reducible apply Rd.cb
  | with_reducible apply Rd.and
  | with_reducible apply Rd.or
  | with_reducible apply Rd.not
  | with_reducible apply Rd.andV
  | with_reducible apply Rd.orV
  | with_reducible apply Rd.notV
  | with_reducible apply Rd.ife
  | with_reducible apply Rd.tup
  | with_reducible apply Rd.lst
  | with_reducible apply Rd.un
  | with_reducible apply Rd.chain
  | with_reducible apply Rd.brk
  | with_reducible apply Rd.cnt
  | with_reducible apply Rd.I0
  | with_reducible apply Rd.U1
  | ((with_reducible apply Rd.eq); rfl)
  | ((with_reducible apply Rd.ne); rfl)
  | ((with_reducible apply Rd.I1); (walk_at "ci"))
  | with_reducible apply Rd.lc0
  | with_reducible apply Rd.ln0
  | with_reducible apply Rd.exN
  | ((with_reducible apply Rd.iteSf); (decide +kernel))
  | ((with_reducible apply Rd.iteSt); (decide +kernel))
  | ((with_reducible apply Rd.niQ); (exact Or.inl (by walk_at "sq")); (exact ⟨rfl, rfl⟩); (rfl))
  | ((with_reducible apply Rd.inQ); (exact Or.inl (by walk_at "sq")); (exact ⟨rfl, rfl⟩); (rfl))
  | with_reducible apply Rd.rn1
  | with_reducible apply Rd.in1
  | with_reducible apply Rd.sn1
  | with_reducible apply Rd.bn1
  | with_reducible apply Rd.nn1
  | with_reducible apply Rd.rn2
  | with_reducible apply Rd.in2
  | with_reducible apply Rd.sn2
  | with_reducible apply Rd.bn2
  | with_reducible apply Rd.nn2
  | with_reducible apply Rd.nt1
  | with_reducible apply Rd.nf1
  | (with_reducible refine Rd.iteI (fun _ => ?_) (fun _ => ?_))
  | (with_reducible refine Rd.iteNI (fun _ => ?_) (fun _ => ?_))
  | (with_reducible refine iteT ?_)
  | (with_reducible refine iteF ?_)
  | (with_reducible refine Rd.iteD (fun _ => ?_) (fun _ => ?_))
  | (with_reducible refine Rd.iteN (fun _ => ?_) (fun _ => ?_))
  | with_reducible apply Rd.intI
  | with_reducible apply Rd.intB
  | with_reducible apply Rd.maxQ
  | with_reducible apply Rd.minQ
  | with_reducible apply Rd.absQ
  | with_reducible apply Rd.isN
  | with_reducible apply Rd.noN
  | with_reducible apply Rd.ltZ
  | with_reducible apply Rd.bm
  | with_reducible apply Rd.bm0
  | with_reducible apply Rd.par
  | with_reducible apply Rd.expar
  | with_reducible apply Rd.exint
  | with_reducible apply Rd.ipi
  | with_reducible apply Rd.slice
  | with_reducible apply Rd.noPart
  | with_reducible apply Rd.part
  | with_reducible apply Rd.gcons
  | with_reducible apply Rd.gnil
  | with_reducible apply Rd.iseq
  | with_reducible apply Rd.irng1
  | walk_at "isi"
  | with_reducible apply Rd.forX
  | with_reducible apply Rd.lstRev
  | with_reducible apply Rd.lstRg
  | with_reducible apply Rd.rg1
  | with_reducible apply Rd.rg2
  | with_reducible apply Rd.exint2
  | ((with_reducible apply Rd.exrev); (walk_at "sq"))
  | with_reducible apply Rd.lcX
  | with_reducible apply Rd.yes
  | ((with_reducible apply Rd.exrng1); (constructor <;> omega))
  | ((with_reducible apply Rd.exrng2); (refine ⟨?_, ?_, ?_, ?_⟩ <;> omega))
  | with_reducible apply Rd.irng2
  | ((with_reducible apply Rd.aug); rfl)
  | ((with_reducible apply Rd.exlst); (walk_at "sq"))
  | ((with_reducible apply Rd.gtup); (walk_at "st"); (rfl))
  | ((with_reducible apply Rd.tyL); (walk_at "hp"))
  | ((with_reducible apply Rd.ixL); (walk_at "sq"); (rfl))
  | ((with_reducible apply Rd.ixI); (walk_at "sq"); (omega); (first | assumption | (simp only [List.length_map]; omega)); (intro _ _))
  | (with_reducible refine Rd.gsub ?_)
  | ((with_reducible apply Rd.setL); (walk_at "hp"); (rfl); ((dsimp only [List.set, L2.wipe, Int.reduceToNat]) <;> rfl))
  | ((with_reducible apply Rd.lenQ); (first | exact Or.inl (by walk_at "sq") | exact Or.inr (by walk_at "st")))
  | ((with_reducible apply Rd.listQ); (first | exact Or.inl (by walk_at "sq") | exact Or.inr (by walk_at "st")))
  | ((with_reducible apply Rd.tupQ); (walk_at "sq"))
  | ((with_reducible apply Rd.slL); (walk_at "sq"))
  | ((with_reducible apply Rd.ixT); (walk_at "st"); (rfl))
  | (with_reducible refine Rd.iteB (fun _ => ?_) (fun _ => ?_))
  | (with_reducible refine Rd.iteNB (fun _ => ?_) (fun _ => ?_))
  | (refine Rd.andI (Nat.le_of_ble_eq_true rfl) ?_)
  | dsimp only [List.set])
local macro_rules | `(tactic| walk_at "hp") => `(tactic| first
  | assumption
  | exact upd_same
  | (refine Eq.trans (upd_ne (by first | assumption | (apply Ne.symm; assumption))) ?_; walk_at "hp")
  | (refine hpS (by assumption) ?_; walk_at "hp"))
local macro_rules | `(tactic| walk_at "al") => `(tactic| (with_reducible intro l hl; generalize hG : upd _ l _ = G; have hs := newOne hl hG; clear hG; obtain ⟨hs, he⟩ := hs))
local macro_rules | `(tactic| walk_at "rd") => `(tactic| first
  | walk_at "al"
  | ((with_reducible apply Rd.cat); (walk_at "hp"); (walk_at "hp"); (exact Nat.le_of_ble_eq_true rfl)))
local macro_rules | `(tactic| walk_at "sm") => `(tactic| first
  | assumption
  | exact Same.refl _
  | (refine Same.trans ?_ (by assumption); walk_at "sm"))
local macro_rules | `(tactic| walk_at "fr") => `(tactic| first
  | assumption
  | (refine Same.free (by assumption) ?_; walk_at "fr"))
local macro_rules | `(tactic| walk_at "ty") => `(tactic| first
  | exact dv_ty (by assumption)
  | exact tyD' (by walk_at "hp"))
local macro_rules | `(tactic| walk_at "sz") => `(tactic| first
  | exact sz5 (by omega)
  | (simp only [add_len, one_len]; exact sz5 (by omega)))
local macro_rules | `(tactic| walk_at "rd") => `(tactic| first
  | with_reducible apply Rd.istr
  | with_reducible apply Rd.exstr
  | with_reducible apply Rd.leA
  | with_reducible apply Rd.leZz
  | with_reducible apply Rd.le0
  | with_reducible apply Rd.le9
  | with_reducible apply Rd.niZ
  | ((with_reducible apply Rd.lenZ); (walk_at "sz"))
  | ((with_reducible apply Rd.slZ); (walk_at "sz"))
  | ((with_reducible apply Rd.addZ); (walk_at "sz"))
  | with_reducible apply Rd.raiseX
  | with_reducible apply Rd.exone
  | with_reducible apply Rd.callS
  | with_reducible apply Rd.callP
  | with_reducible apply Rd.xsX
  | with_reducible apply Rd.dnewX
  | with_reducible apply Rd.tyZ)
/-! ### names of lines -/
open Ty
section
variable {P : Program} {w : World} {K : PySem.W.Frag} {mg : Str → Option Value} {base : Heap} {D : Str → Addr}
theorem nodup_le : ∀ {xs ys : List Str}, xs.Nodup → (∀ x ∈ xs, x ∈ ys) → xs.length ≤ ys.length
  | [], _, _, _ => Nat.zero_le _
  | x :: xs, ys, nd, h => by
    have m := h x List.mem_cons_self
    obtain ⟨n, nd⟩ := List.nodup_cons.mp nd
    have := nodup_le (xs := xs) (ys := ys.erase x) nd fun z hz => (List.mem_erase_of_ne (fun e => n (by rw [← e]; exact hz))).mpr (h z (List.mem_cons_of_mem _ hz))
    rw [List.length_erase_of_mem m] at this
    have := List.length_pos_of_mem m
    rw [List.length_cons]
    omega
theorem flt_two (p : Str → Bool) : ∀ ns : List Str, ns.length = (ns.filter p).length + (ns.filter fun n => !p n).length
  | [] => rfl
  | n :: ns => by
    have := flt_two p ns
    rw [List.filter_cons, List.filter_cons]
    cases p n <;> simp <;> omega
theorem more_names {zs ns : List Str} (nd : ns.Nodup) : ns.length ≤ zs.length + (ns.filter fun n => !decide (n ∈ zs)).length := by
  have e := flt_two (fun n => decide (n ∈ zs)) ns
  have l : (ns.filter fun n => decide (n ∈ zs)).length ≤ zs.length := nodup_le (nd.sublist List.filter_sublist) fun x hx => of_decide_eq_true (List.mem_filter.mp hx).2
  omega
theorem fm_not {zs : List Str} : ∀ ns : List Str, ns.filterMap (fun n => ((if n ∈ zs then none else some n : Option Str)).map V.str) = (ns.filter fun n => !decide (n ∈ zs)).map V.str
  | [] => rfl
  | n :: ns => by
    rw [List.filterMap_cons, List.filter_cons, fm_not ns]
    by_cases m : n ∈ zs
    · rw [if_pos m, decide_eq_true m]
      rfl
    · rw [if_neg m, decide_eq_false m]
      rfl
theorem inV_strs {n : Str} : ∀ zs : List Str, inV (.str n) (zs.map V.str) = decide (n ∈ zs) := fun zs => by
  unfold inV
  by_cases m : n ∈ zs
  · rw [decide_eq_true m, List.any_eq_true]
    exact ⟨.str n, List.mem_map.mpr ⟨n, m, rfl⟩, by first | (show decide (n = n) = true; exact decide_eq_true rfl) | exact decide_eq_true rfl | simp [eqV]⟩
  · rw [decide_eq_false m, List.any_eq_false]
    intro v hv
    obtain ⟨z, hz, rfl⟩ := List.mem_map.mp hv
    intro e
    have e : z = n := by first | exact of_decide_eq_true e | simpa [eqV] using e
    exact m (e ▸ hz)
theorem flat_strs (zs : List Str) : (zs.map V.str).all flatV = true := List.all_eq_true.mpr fun v hv => by
  obtain ⟨z, _, rfl⟩ := List.mem_map.mp hv
  rfl
/-- _law_line_names(store, houses, many) -/
def spLineNames : Sp := fun vs H Q _ => ∃ (st c h : Addr) (zs : List Str) (m : Int), vs = [.ref st, .ref h, .int m] ∧ StoreAt H st c ∧ h ≠ st ∧ H h = some (.lst (zs.map V.str)) ∧ zs.length ≤ 1000 ∧ zs.Nodup ∧ (∀ z ∈ zs, NmS z) ∧ 0 ≤ m ∧ m ≤ 1000 ∧
  ∀ (L : Addr) (ns : List Str) (H' : Hp), (ns.length : Int) = m → (∀ z ∈ ns, NmS z) → ns.Nodup → H L = none → Go st c H H' → H' L = some (.lst (ns.map V.str)) → Q (.ref L) H'
theorem ok__law_line_names (F : Def K mg "_law_line_names" s__law_line_names P__law_line_names) (m_list : mg "list" = none) (C__law_take : Cal P w K mg base 1 "_law_take" P__law_take spTake) (C__law_names : Cal P w K mg base 3 "_law_names" P__law_names spNames) : Cal P w K mg base 4 "_law_line_names" P__law_line_names spLineNames := by
  refine F.ok sc__law_line_names (fun vs H Q E h => ?_) (fun f cdv A outer s H vs Q E hr h => ?_)
  · obtain ⟨st, c, h, zs, m, rfl, _⟩ := h
    rfl
  obtain ⟨st, c, h, zs, m, rfl, hs, hst, eh, lz, ndz, mz, m0, m1, q⟩ := h
  refine ⟨_, (pss_cons (ps_set (i := 3) sc__law_line_names.nd rfl (Or.inl rfl) (pe_cal C__law_names hr (pa_cons (pv 0 (hd := nd_store) (hcd := nc_store)) (pa_cons (pv 2 (hd := nd_many) (hcd := nc_many)) pa_nil)) (hdb := nd__law_names)))
  (pss_cons (ps_if (pt_cmpR op_eq (pe_cal C__law_take hr (pa_cons (pv 0 (hd := nd_store) (hcd := nc_store)) (pa_cons pe_int pa_nil)) (hdb := nd__law_take)) pe_int (nomark _)) (pss_one (ps_set (i := 3) sc__law_line_names.nd rfl (Or.inl rfl) (pe_op op_cat (pe_callTy q_list (by rfl) m_list bb_list (pa_cons (pv 1 (hd := nd_houses) (hcd := nc_houses)) pa_nil) (hn := nn_list) (hdb := nd_list)) (pe_lc (own := [("name", 4)]) (by rfl) sc__law_line_names.nd (pi_list (pv 3 (hd := nd_names) (hcd := nc_names))) (blkOk_by (N := N__law_line_names) (sc := defScope s__law_line_names) (by decide +kernel)) (fun _ _ _ _ _ => (pg_name (i := 4) sc__law_line_names.nd rfl (Or.inl rfl))) (fun _ _ _ _ _ => (pts_one (pt_cmpR (op_notIn_seqK (K := K) rfl) (pv 4 (hd := nd_name) (hcd := nc_name)) (pv 1 (hd := nd_houses) (hcd := nc_houses)) (by rfl)))) (fun _ _ _ _ _ => (pv 4 (hd := nd_name) (hcd := nc_name))))))) pss_nil)
  (pss_one (ps_ret (pe_slice sl_list (pv 3 (hd := nd_names) (hcd := nc_names)) po_none (po_some (pv 2 (hd := nd_many) (hcd := nc_many)))))))), ?_⟩
  refine Rd.at0 (σ := [some (.ref st), some (.ref h), some (.int m), none, none]) rfl ?_
  repeat' (walk_at "rd")
  refine ⟨st, c, m, rfl, hs, m0, m1, fun L ns H1 ln mn nd fL g1 eL => ?_⟩
  repeat' (walk_at "rd")
  refine ⟨st, c, 4, rfl, g1.ok, by decide, fun r H2 r0 r1 g2 => ?_⟩
  have g12 := g1.trans g2
  have eh2 := g12.keep h _ hst eh
  have eL2 := g2.keep L _ (hs.off fL).1 eL
  have ln' : (ns.map V.str).length = ns.length := List.length_map ..
  obtain ⟨k, rfl⟩ : ∃ k : Nat, m = k := ⟨m.toNat, by omega⟩
  repeat' (walk_at "rd")
  · rename_i l1 p1 G1 s1 e1
    have eh3 := s1 _ _ eh2
    have eL3 := s1 _ _ eL2
    refine lcF (ns.map V.str) (fun i => (ns[i]?.bind fun n => if n ∈ zs then none else some n).map V.str) (.inl (.inl eL3)) (by omega) (fun i v h' hv s => ?_) fun L4 G4 n4 s4 e4 => ?_
    · intro L5 Nx yes no
      rw [List.getElem?_map] at hv
      obtain ⟨n, hn, rfl⟩ := Option.map_eq_some_iff.mp hv
      have ei : ((ns[i]?.bind fun n => if n ∈ zs then none else some n).map V.str) = (if n ∈ zs then none else some n : Option Str).map V.str := by
        rw [hn]
        rfl
      have eh' := s _ _ eh3
      refine turn1 ?_
      repeat' (walk_at "rd")
      refine ⟨rfl, ?_⟩
      repeat' (walk_at "rd")
      refine ⟨h, _, rfl, .inl (.inl (.inl eh')), rfl, flat_strs zs, ?_⟩
      rw [if_pos rfl, inV_strs]
      by_cases mm : n ∈ zs
      · rw [if_pos mm] at ei
        rw [decide_eq_true mm]
        repeat' (walk_at "rd")
        exact no _ ei (.refl _)
      · rw [if_neg mm] at ei
        rw [decide_eq_false mm]
        repeat' (walk_at "rd")
        exact yes _ _ ei (.refl _)
    · have ef : (List.range (ns.map V.str).length).filterMap (fun i => (ns[i]?.bind fun n => if n ∈ zs then none else some n).map V.str) = (ns.filter fun n => !decide (n ∈ zs)).map V.str := by
        rw [ln', ← fm_not]
        exact fm_at fun i h => by rw [List.getElem?_eq_getElem h]; rfl
      rw [ef] at e4
      have lf := List.length_filter_le (fun n => !decide (n ∈ zs)) ns
      have mo := more_names (zs := zs) nd
      refine cat (s4 _ _ e1) e4 (sz5 (by rw [List.length_map, List.length_map]; omega)) ?_
      rw [← List.map_append]
      repeat' (walk_at "rd")
      rename_i l6 p6 G6 s6 e6 l7 p7 G7 s7 e7
      rw [cut_to, ← List.map_take] at e7
      have t : Same H2 G7 := ((s1.trans s4).trans s6).trans s7
      refine q l7 _ G7 ?_ (fun z hz => ?_) ?_ (g12.free (((s1.trans s4).trans s6).free p7)) (g12.same t) e7
      · rw [List.length_take, List.length_append]
        omega
      · rcases List.mem_append.mp (List.mem_of_mem_take hz) with hz | hz
        · exact mz z hz
        · exact mn z (List.mem_filter.mp hz).1
      · refine List.Nodup.sublist (List.take_sublist _ _) (List.nodup_append.mpr ⟨ndz, nd.sublist List.filter_sublist, fun a ha b hb e => ?_⟩)
        have := (List.mem_filter.mp hb).2
        rw [← e, decide_eq_true ha] at this
        cases this
  · rename_i l1 p1 G1 s1 e1
    rw [cut_to, List.take_of_length_le (by omega)] at e1
    exact q l1 ns G1 ln mn nd (g12.free p1) (g12.same s1) e1
end
end Kj
namespace Kj
open PySem PySem.Spec PyProof.Rows L2 Rd
/-! ### the stepper -/
local macro_rules | `(tactic| walk_at "hp") => `(tactic| first
  | assumption
  | exact upd_same
  | (refine Eq.trans (upd_ne (by first | assumption | (apply Ne.symm; assumption))) ?_; walk_at "hp"))
local macro_rules | `(tactic| walk_at "sq") => `(tactic| first
  | assumption
  | (refine Or.inl (Or.inl ?_); walk_at "hp"))
local macro_rules | `(tactic| walk_at "st") => `(tactic| first
  | assumption
  | (refine Or.inl (Or.inl ?_); walk_at "hp"))
local macro_rules | `(tactic| walk_at "ar") => `(tactic| first
  | assumption
  | omega
  | decide)
local macro_rules | `(tactic| walk_at "ci") => `(tactic| first
  | (refine (show CMul _ _ from Or.inr ⟨?_, ?_⟩) <;> omega)
  | (refine (show CMul _ _ from Or.inl ⟨?_, ?_⟩) <;> omega)
  | (show CPow _ _; exact ⟨by decide, by decide, by decide⟩)
  | (refine wide_div (b := 63) ?_ ?_ (by decide) (by decide) <;> omega)
  | (show (0 : Int) < _; omega))
local macro_rules | `(tactic| walk_at "ty") => `(tactic| first
  | exact dp_ty (by assumption)
  | exact TyX.base (TyOf.int _)
  | exact TyX.base (TyOf.str _)
  | exact TyX.base (TyOf.bl _)
  | exact TyX.base TyOf.non
  | exact tyL' (by walk_at "sq")
  | exact tyT' (by walk_at "st"))
local macro_rules | `(tactic| walk_at "isi") => `(tactic| first
  | ((with_reducible apply Rd.isiF); (walk_at "ty"); (decide))
  | ((with_reducible apply Rd.isiT); (walk_at "ty"); (decide)))
local macro_rules | `(tactic| walk_at "rd") => `(tactic| first
  | with_reducible apply Rd.seq
  | ((with_reducible apply Rd.var); rfl)
  | with_reducible apply Rd.con
  | with_reducible apply Rd.op
  | with_reducible apply Rd.asg
  | ((with_reducible apply Rd.gname); ((dsimp only [List.set, L2.wipe, Int.reduceToNat]) <;> rfl))
  | with_reducible apply Rd.nxt
  | with_reducible apply Rd.ifs
  | with_reducible apply Rd.test
  | with_reducible apply Rd.testB
  | with_reducible apply Rd.exbl
  | with_reducible apply Rd.ret
  | with_reducible apply Rd.drop
  | with_reducible apply Rd.retN
  | with_reducible apply Rd.nil
  | with_reducible apply Rd.cons
  | with_reducible apply Rd.call
  | with_reducible apply Rd.cb
  | with_reducible apply Rd.and
  | with_reducible apply Rd.or
  | with_reducible apply Rd.not
  | with_reducible apply Rd.andV
  | with_reducible apply Rd.orV
  | with_reducible apply Rd.notV
  | with_reducible apply Rd.ife
  | with_reducible apply Rd.tup
  | with_reducible apply Rd.lst
  | with_reducible apply Rd.un
  | with_reducible apply Rd.chain
  | with_reducible apply Rd.brk
  | with_reducible apply Rd.cnt
  | with_reducible apply Rd.I0
  | with_reducible apply Rd.U1
  | ((with_reducible apply Rd.eq); rfl)
  | ((with_reducible apply Rd.ne); rfl)
  | ((with_reducible apply Rd.I1); (walk_at "ci"))
  | with_reducible apply Rd.lc0
  | with_reducible apply Rd.ln0
  | with_reducible apply Rd.exN
  | ((with_reducible apply Rd.iteSf); (decide +kernel))
  | ((with_reducible apply Rd.iteSt); (decide +kernel))
  | ((with_reducible apply Rd.niQ); (exact Or.inl (by walk_at "sq")); (exact ⟨rfl, rfl⟩); (rfl))
  | ((with_reducible apply Rd.inQ); (exact Or.inl (by walk_at "sq")); (exact ⟨rfl, rfl⟩); (rfl))
  | with_reducible apply Rd.rn1
  | with_reducible apply Rd.in1
  | with_reducible apply Rd.sn1
  | with_reducible apply Rd.bn1
  | with_reducible apply Rd.nn1
  | with_reducible apply Rd.rn2
  | with_reducible apply Rd.in2
  | with_reducible apply Rd.sn2
  | with_reducible apply Rd.bn2
  | with_reducible apply Rd.nn2
  | with_reducible apply Rd.nt1
  | with_reducible apply Rd.nf1
  | (with_reducible refine Rd.iteI (fun _ => ?_) (fun _ => ?_))
  | (with_reducible refine Rd.iteNI (fun _ => ?_) (fun _ => ?_))
  | (with_reducible refine iteT ?_)
  | (with_reducible refine iteF ?_)
  | (with_reducible refine Rd.iteD (fun _ => ?_) (fun _ => ?_))
  | (with_reducible refine Rd.iteN (fun _ => ?_) (fun _ => ?_))
  | with_reducible apply Rd.intI
  | with_reducible apply Rd.intB
  | with_reducible apply Rd.maxQ
  | with_reducible apply Rd.minQ
  | with_reducible apply Rd.absQ
  | with_reducible apply Rd.isN
  | with_reducible apply Rd.noN
  | with_reducible apply Rd.ltZ
  | with_reducible apply Rd.bm
  | with_reducible apply Rd.bm0
  | with_reducible apply Rd.par
  | with_reducible apply Rd.expar
  | with_reducible apply Rd.exint
  | with_reducible apply Rd.ipi
  | with_reducible apply Rd.slice
  | with_reducible apply Rd.noPart
  | with_reducible apply Rd.part
  | with_reducible apply Rd.gcons
  | with_reducible apply Rd.gnil
  | with_reducible apply Rd.iseq
  | with_reducible apply Rd.irng1
  | walk_at "isi"
  | with_reducible apply Rd.forX
  | with_reducible apply Rd.lstRev
  | with_reducible apply Rd.lstRg
  | with_reducible apply Rd.rg1
  | with_reducible apply Rd.rg2
  | with_reducible apply Rd.exint2
  | ((with_reducible apply Rd.exrev); (walk_at "sq"))
  | with_reducible apply Rd.lcX
  | with_reducible apply Rd.yes
  | ((with_reducible apply Rd.exrng1); (constructor <;> omega))
  | ((with_reducible apply Rd.exrng2); (refine ⟨?_, ?_, ?_, ?_⟩ <;> omega))
  | with_reducible apply Rd.irng2
  | ((with_reducible apply Rd.aug); rfl)
  | ((with_reducible apply Rd.exlst); (walk_at "sq"))
  | ((with_reducible apply Rd.gtup); (walk_at "st"); (rfl))
  | ((with_reducible apply Rd.tyL); (walk_at "hp"))
  | ((with_reducible apply Rd.ixL); (walk_at "sq"); (rfl))
  | ((with_reducible apply Rd.ixI); (walk_at "sq"); (omega); (first | assumption | (simp only [List.length_map]; omega)); (intro _ _))
  | (with_reducible refine Rd.gsub ?_)
  | ((with_reducible apply Rd.setL); (walk_at "hp"); (rfl); ((dsimp only [List.set, L2.wipe, Int.reduceToNat]) <;> rfl))
  | ((with_reducible apply Rd.lenQ); (first | exact Or.inl (by walk_at "sq") | exact Or.inr (by walk_at "st")))
  | ((with_reducible apply Rd.listQ); (first | exact Or.inl (by walk_at "sq") | exact Or.inr (by walk_at "st")))
  | ((with_reducible apply Rd.tupQ); (walk_at "sq"))
  | ((with_reducible apply Rd.slL); (walk_at "sq"))
  | ((with_reducible apply Rd.ixT); (walk_at "st"); (rfl))
  | (with_reducible refine Rd.iteB (fun _ => ?_) (fun _ => ?_))
  | (with_reducible refine Rd.iteNB (fun _ => ?_) (fun _ => ?_))
  | (refine Rd.andI (Nat.le_of_ble_eq_true rfl) ?_)
  | dsimp only [List.set])
local macro_rules | `(tactic| walk_at "hp") => `(tactic| first
  | assumption
  | exact upd_same
  | (refine Eq.trans (upd_ne (by first | assumption | (apply Ne.symm; assumption))) ?_; walk_at "hp")
  | (refine hpS (by assumption) ?_; walk_at "hp"))
local macro_rules | `(tactic| walk_at "al") => `(tactic| (with_reducible intro l hl; generalize hG : upd _ l _ = G; have hs := newOne hl hG; clear hG; obtain ⟨hs, he⟩ := hs))
local macro_rules | `(tactic| walk_at "rd") => `(tactic| first
  | walk_at "al"
  | ((with_reducible apply Rd.cat); (walk_at "hp"); (walk_at "hp"); (exact Nat.le_of_ble_eq_true rfl)))
local macro_rules | `(tactic| walk_at "sm") => `(tactic| first
  | assumption
  | exact Same.refl _
  | (refine Same.trans ?_ (by assumption); walk_at "sm"))
local macro_rules | `(tactic| walk_at "fr") => `(tactic| first
  | assumption
  | (refine Same.free (by assumption) ?_; walk_at "fr"))
local macro_rules | `(tactic| walk_at "ty") => `(tactic| first
  | exact dv_ty (by assumption)
  | exact tyD' (by walk_at "hp"))
local macro_rules | `(tactic| walk_at "sz") => `(tactic| first
  | exact sz5 (by omega)
  | (simp only [add_len, one_len]; exact sz5 (by omega)))
local macro_rules | `(tactic| walk_at "rd") => `(tactic| first
  | with_reducible apply Rd.istr
  | with_reducible apply Rd.exstr
  | with_reducible apply Rd.leA
  | with_reducible apply Rd.leZz
  | with_reducible apply Rd.le0
  | with_reducible apply Rd.le9
  | with_reducible apply Rd.niZ
  | ((with_reducible apply Rd.lenZ); (walk_at "sz"))
  | ((with_reducible apply Rd.slZ); (walk_at "sz"))
  | ((with_reducible apply Rd.addZ); (walk_at "sz"))
  | with_reducible apply Rd.raiseX
  | with_reducible apply Rd.exone
  | with_reducible apply Rd.callS
  | with_reducible apply Rd.callP
  | with_reducible apply Rd.xsX
  | with_reducible apply Rd.dnewX
  | with_reducible apply Rd.tyZ)
/-! ### the tour from a house on, as the law tells it -/
open Ty
section
variable {P : Program} {w : World} {K : PySem.W.Frag} {mg : Str → Option Value} {base : Heap} {D : Str → Addr}
theorem rot_fm {vs : List V} {p : Nat} (h : p ≤ vs.length) : (List.range vs.length).filterMap (fun i => vs[(p + i) % vs.length]?) = vs.drop p ++ vs.take p := by
  have l : (vs.drop p ++ vs.take p).length = vs.length := by
    rw [List.length_append, List.length_drop, List.length_take]
    omega
  have e := fm_at (f := some) (xs := vs.drop p ++ vs.take p) (fs := fun i => vs[(p + i) % vs.length]?) fun i hi => by
    rw [← List.getElem?_eq_getElem hi]
    rw [l] at hi
    by_cases c : i < vs.length - p
    · rw [List.getElem?_append_left (by rw [List.length_drop]; exact c), List.getElem?_drop, Nat.mod_eq_of_lt (by omega)]
    · rw [List.getElem?_append_right (by rw [List.length_drop]; omega), List.length_drop, List.getElem?_take]
      rw [if_pos (by omega), show (p + i) % vs.length = i - (vs.length - p) by
        rw [Nat.mod_eq_sub_mod (by omega), Nat.mod_eq_of_lt (by omega)]
        omega]
  rw [l, List.filterMap_some] at e
  exact e
theorem key_at {xs ys : List Ky} {x : Str} {i : Nat} {k : Ky} (h1 : .h x ∉ xs) (h2 : .h x ∉ ys) (e : (xs ++ .h x :: ys)[i]? = some k) : k = .h x ↔ i = xs.length := by
  by_cases l : i < xs.length
  · rw [List.getElem?_append_left l] at e
    exact ⟨fun z => absurd (List.mem_of_getElem? e) (z ▸ h1), fun z => absurd l (by omega)⟩
  · obtain ⟨j, rfl⟩ : ∃ j, i = xs.length + j := ⟨i - xs.length, by omega⟩
    rw [List.getElem?_append_right (by omega), Nat.add_sub_cancel_left] at e
    cases j with
    | zero =>
      cases e
      exact ⟨fun _ => rfl, fun _ => rfl⟩
    | succ j =>
      rw [List.getElem?_cons_succ] at e
      exact ⟨fun z => absurd (List.mem_of_getElem? e) (z ▸ h2), fun z => absurd z (by omega)⟩
/-- _law_from(keys, house) -/
def spFrom : Sp := fun vs H Q _ => ∃ (a : Addr) (x : Str) (xs ys : List Ky), vs = [.ref a, .str x] ∧ NmS x ∧ KL H a (xs ++ .h x :: ys) ∧ .h x ∉ xs ∧ .h x ∉ ys ∧ (xs ++ .h x :: ys).length ≤ 1000 ∧ ∀ L H', H L = none → Same H H' → KL H' L (.h x :: ys ++ xs) → Q (.ref L) H'
/-- all but the object at L stands -/
def Kx (L : Addr) (H G : Hp) : Prop := ∀ b o, b ≠ L → H b = some o → G b = some o
theorem Kx.trans {L : Addr} {H G F : Hp} (a : Kx L H G) (b : Kx L G F) : Kx L H F := fun x o n e => b x o n (a x o n e)
theorem Kx.of {L : Addr} {H G : Hp} (s : Same H G) : Kx L H G := fun b o _ e => s b o e
theorem Kx.same {L : Addr} {H G F : Hp} (n : H L = none) (s : Same H G) (k : Kx L G F) : Same H F := fun b o e => k b o (fun z => by rw [z, n] at e; cases e) (s b o e)
theorem KVs.kx {L : Addr} {H G : Hp} {vs us : List V} {ks : List Ky} (h : KVs H vs ks) (l : H L = some (.lst us)) (k : Kx L H G) : KVs G vs ks := h.all fun v j _ kv => by
  obtain ⟨ok, t, e, ht⟩ := kv
  refine ⟨ok, t, e, k _ _ (fun z => ?_) ht⟩
  rw [z, l] at ht
  cases ht
theorem appK {H : Hp} {Q : VK} {p : Addr} {v : V} {ks : List Ky} {k : Ky} (h : KL H p ks) (hv : KV H v k) (l : ks.length < 100000) (q : ∀ G, Kx p H G → KL G p (ks ++ [k]) → Q .non G) : rAppend (.ref p) [v] H Q := by
  obtain ⟨vs, e, kv', lv⟩ := kl_len h
  have kx : ∀ o, Kx p H (upd H p o) := fun o b u n z => (upd_ne n).trans z
  have k1 : KVs H [v] [k] := ⟨hv, trivial⟩
  exact ⟨p, vs, v, rfl, rfl, e, by have := sz5 (Nat.le_refl 100000); omega, q _ (kx _) ⟨_, upd_same, KVs.kx (KVs.app kv' k1) e (kx _)⟩⟩
/-- _law_due(first, second, line, a, b) -/
def spDue : Sp := fun vs H Q _ => ∃ (p r : Addr) (l a b : Str) (xs ys us ws : List Ky), vs = [.ref p, .ref r, .str l, .str a, .str b] ∧ NmS l ∧ NmS a ∧ NmS b ∧ KL H p (xs ++ .h a :: ys) ∧ .h a ∉ xs ∧ .h a ∉ ys ∧ (xs ++ .h a :: ys).length ≤ 400 ∧
  KL H r (us ++ .h b :: ws) ∧ .h b ∉ us ∧ .h b ∉ ws ∧ (us ++ .h b :: ws).length ≤ 400 ∧ ∀ L H', H L = none → Same H H' → KL H' L ((.h a :: ys ++ xs) ++ [.a l a b] ++ (.h b :: ws ++ us) ++ [.a l b a]) → Q (.ref L) H'
end
end Kj
namespace Kj
open PySem PySem.Spec PyProof.Rows L2 Rd
/-! ### the stepper -/
local macro_rules | `(tactic| walk_at "hp") => `(tactic| first
  | assumption
  | exact upd_same
  | (refine Eq.trans (upd_ne (by first | assumption | (apply Ne.symm; assumption))) ?_; walk_at "hp"))
local macro_rules | `(tactic| walk_at "sq") => `(tactic| first
  | assumption
  | (refine Or.inl (Or.inl ?_); walk_at "hp"))
local macro_rules | `(tactic| walk_at "st") => `(tactic| first
  | assumption
  | (refine Or.inl (Or.inl ?_); walk_at "hp"))
local macro_rules | `(tactic| walk_at "ar") => `(tactic| first
  | assumption
  | omega
  | decide)
local macro_rules | `(tactic| walk_at "ci") => `(tactic| first
  | (refine (show CMul _ _ from Or.inr ⟨?_, ?_⟩) <;> omega)
  | (refine (show CMul _ _ from Or.inl ⟨?_, ?_⟩) <;> omega)
  | (show CPow _ _; exact ⟨by decide, by decide, by decide⟩)
  | (refine wide_div (b := 63) ?_ ?_ (by decide) (by decide) <;> omega)
  | (show (0 : Int) < _; omega))
local macro_rules | `(tactic| walk_at "ty") => `(tactic| first
  | exact dp_ty (by assumption)
  | exact TyX.base (TyOf.int _)
  | exact TyX.base (TyOf.str _)
  | exact TyX.base (TyOf.bl _)
  | exact TyX.base TyOf.non
  | exact tyL' (by walk_at "sq")
  | exact tyT' (by walk_at "st"))
local macro_rules | `(tactic| walk_at "isi") => `(tactic| first
  | ((with_reducible apply Rd.isiF); (walk_at "ty"); (decide))
  | ((with_reducible apply Rd.isiT); (walk_at "ty"); (decide)))
local macro_rules | `(tactic| walk_at "rd") => `(tactic| first
  | with_reducible apply Rd.seq
  | ((with_reducible apply Rd.var); rfl)
  | with_reducible apply Rd.con
  | with_reducible apply Rd.op
  | with_reducible apply Rd.asg
  | ((with_reducible apply Rd.gname); ((dsimp only [List.set, L2.wipe, Int.reduceToNat]) <;> rfl))
  | with_reducible apply Rd.nxt
  | with_reducible apply Rd.ifs
  | with_reducible apply Rd.test
  | with_reducible apply Rd.testB
  | with_reducible apply Rd.exbl
  | with_reducible apply Rd.ret
  | with_reducible apply Rd.drop
  | with_reducible apply Rd.retN
  | with_reducible apply Rd.nil
  | with_reducible apply Rd.cons
  | with_reducible apply Rd.call
  | with_reducible apply Rd.cb
  | with_reducible apply Rd.and
  | with_reducible apply Rd.or
  | with_reducible apply Rd.not
  | with_reducible apply Rd.andV
  | with_reducible apply Rd.orV
  | with_reducible apply Rd.notV
  | with_reducible apply Rd.ife
  | with_reducible apply Rd.tup
  | with_reducible apply Rd.lst
  | with_reducible apply Rd.un
  | with_reducible apply Rd.chain
  | with_reducible apply Rd.brk
  | with_reducible apply Rd.cnt
  | with_reducible apply Rd.I0
  | with_reducible apply Rd.U1
  | ((with_reducible apply Rd.eq); rfl)
  | ((with_reducible apply Rd.ne); rfl)
  | ((with_reducible apply Rd.I1); (walk_at "ci"))
  | with_reducible apply Rd.lc0
  | with_reducible apply Rd.ln0
  | with_reducible apply Rd.exN
  | ((with_reducible apply Rd.iteSf); (decide +kernel))
  | ((with_reducible apply Rd.iteSt); (decide +kernel))
  | ((with_reducible apply Rd.niQ); (exact Or.inl (by walk_at "sq")); (exact ⟨rfl, rfl⟩); (rfl))
  | ((with_reducible apply Rd.inQ); (exact Or.inl (by walk_at "sq")); (exact ⟨rfl, rfl⟩); (rfl))
  | with_reducible apply Rd.rn1
  | with_reducible apply Rd.in1
  | with_reducible apply Rd.sn1
  | with_reducible apply Rd.bn1
  | with_reducible apply Rd.nn1
  | with_reducible apply Rd.rn2
  | with_reducible apply Rd.in2
  | with_reducible apply Rd.sn2
  | with_reducible apply Rd.bn2
  | with_reducible apply Rd.nn2
  | with_reducible apply Rd.nt1
  | with_reducible apply Rd.nf1
  | (with_reducible refine Rd.iteI (fun _ => ?_) (fun _ => ?_))
  | (with_reducible refine Rd.iteNI (fun _ => ?_) (fun _ => ?_))
  | (with_reducible refine iteT ?_)
  | (with_reducible refine iteF ?_)
  | (with_reducible refine Rd.iteD (fun _ => ?_) (fun _ => ?_))
  | (with_reducible refine Rd.iteN (fun _ => ?_) (fun _ => ?_))
  | with_reducible apply Rd.intI
  | with_reducible apply Rd.intB
  | with_reducible apply Rd.maxQ
  | with_reducible apply Rd.minQ
  | with_reducible apply Rd.absQ
  | with_reducible apply Rd.isN
  | with_reducible apply Rd.noN
  | with_reducible apply Rd.ltZ
  | with_reducible apply Rd.bm
  | with_reducible apply Rd.bm0
  | with_reducible apply Rd.par
  | with_reducible apply Rd.expar
  | with_reducible apply Rd.exint
  | with_reducible apply Rd.ipi
  | with_reducible apply Rd.slice
  | with_reducible apply Rd.noPart
  | with_reducible apply Rd.part
  | with_reducible apply Rd.gcons
  | with_reducible apply Rd.gnil
  | with_reducible apply Rd.iseq
  | with_reducible apply Rd.irng1
  | walk_at "isi"
  | with_reducible apply Rd.forX
  | with_reducible apply Rd.lstRev
  | with_reducible apply Rd.lstRg
  | with_reducible apply Rd.rg1
  | with_reducible apply Rd.rg2
  | with_reducible apply Rd.exint2
  | ((with_reducible apply Rd.exrev); (walk_at "sq"))
  | with_reducible apply Rd.lcX
  | with_reducible apply Rd.yes
  | ((with_reducible apply Rd.exrng1); (constructor <;> omega))
  | ((with_reducible apply Rd.exrng2); (refine ⟨?_, ?_, ?_, ?_⟩ <;> omega))
  | with_reducible apply Rd.irng2
  | ((with_reducible apply Rd.aug); rfl)
  | ((with_reducible apply Rd.exlst); (walk_at "sq"))
  | ((with_reducible apply Rd.gtup); (walk_at "st"); (rfl))
  | ((with_reducible apply Rd.tyL); (walk_at "hp"))
  | ((with_reducible apply Rd.ixL); (walk_at "sq"); (rfl))
  | ((with_reducible apply Rd.ixI); (walk_at "sq"); (omega); (first | assumption | (simp only [List.length_map]; omega)); (intro _ _))
  | (with_reducible refine Rd.gsub ?_)
  | ((with_reducible apply Rd.setL); (walk_at "hp"); (rfl); ((dsimp only [List.set, L2.wipe, Int.reduceToNat]) <;> rfl))
  | ((with_reducible apply Rd.lenQ); (first | exact Or.inl (by walk_at "sq") | exact Or.inr (by walk_at "st")))
  | ((with_reducible apply Rd.listQ); (first | exact Or.inl (by walk_at "sq") | exact Or.inr (by walk_at "st")))
  | ((with_reducible apply Rd.tupQ); (walk_at "sq"))
  | ((with_reducible apply Rd.slL); (walk_at "sq"))
  | ((with_reducible apply Rd.ixT); (walk_at "st"); (rfl))
  | (with_reducible refine Rd.iteB (fun _ => ?_) (fun _ => ?_))
  | (with_reducible refine Rd.iteNB (fun _ => ?_) (fun _ => ?_))
  | (refine Rd.andI (Nat.le_of_ble_eq_true rfl) ?_)
  | dsimp only [List.set])
local macro_rules | `(tactic| walk_at "hp") => `(tactic| first
  | assumption
  | exact upd_same
  | (refine Eq.trans (upd_ne (by first | assumption | (apply Ne.symm; assumption))) ?_; walk_at "hp")
  | (refine hpS (by assumption) ?_; walk_at "hp"))
local macro_rules | `(tactic| walk_at "al") => `(tactic| (with_reducible intro l hl; generalize hG : upd _ l _ = G; have hs := newOne hl hG; clear hG; obtain ⟨hs, he⟩ := hs))
local macro_rules | `(tactic| walk_at "rd") => `(tactic| first
  | walk_at "al"
  | ((with_reducible apply Rd.cat); (walk_at "hp"); (walk_at "hp"); (exact Nat.le_of_ble_eq_true rfl)))
local macro_rules | `(tactic| walk_at "sm") => `(tactic| first
  | assumption
  | exact Same.refl _
  | (refine Same.trans ?_ (by assumption); walk_at "sm"))
local macro_rules | `(tactic| walk_at "fr") => `(tactic| first
  | assumption
  | (refine Same.free (by assumption) ?_; walk_at "fr"))
local macro_rules | `(tactic| walk_at "ty") => `(tactic| first
  | exact dv_ty (by assumption)
  | exact tyD' (by walk_at "hp"))
local macro_rules | `(tactic| walk_at "sz") => `(tactic| first
  | exact sz5 (by omega)
  | (simp only [add_len, one_len]; exact sz5 (by omega)))
local macro_rules | `(tactic| walk_at "rd") => `(tactic| first
  | with_reducible apply Rd.istr
  | with_reducible apply Rd.exstr
  | with_reducible apply Rd.leA
  | with_reducible apply Rd.leZz
  | with_reducible apply Rd.le0
  | with_reducible apply Rd.le9
  | with_reducible apply Rd.niZ
  | ((with_reducible apply Rd.lenZ); (walk_at "sz"))
  | ((with_reducible apply Rd.slZ); (walk_at "sz"))
  | ((with_reducible apply Rd.addZ); (walk_at "sz"))
  | with_reducible apply Rd.raiseX
  | with_reducible apply Rd.exone
  | with_reducible apply Rd.callS
  | with_reducible apply Rd.callP
  | with_reducible apply Rd.xsX
  | with_reducible apply Rd.dnewX
  | with_reducible apply Rd.tyZ)
/-! ### what is told of a tour -/
open Ty
section
variable {P : Program} {w : World} {K : PySem.W.Frag} {mg : Str → Option Value} {base : Heap} {D : Str → Addr}
theorem dv_strs {H : Hp} : ∀ xs : List Str, DvAll K H (xs.map V.str) (xs.map PyData.str)
  | [] => .nil
  | x :: xs => .cons (.str x) (dv_strs xs)
theorem kv_dv {H : Hp} {v : V} {k : Ky} (h : KV H v k) : Dv K H v (kdat k) := by
  obtain ⟨_, t, rfl, h⟩ := h
  exact .tup (.inl (.inl h)) (dv_strs _)
theorem kvs_dv {H : Hp} : ∀ {vs : List V} {ks : List Ky}, KVs H vs ks → DvAll K H vs (ks.map kdat)
  | [], [], _ => .nil
  | v :: vs, k :: ks, h => .cons (kv_dv h.1) (kvs_dv h.2)
  | [], _ :: _, h => h.elim
  | _ :: _, [], h => h.elim
theorem kl_dv {H : Hp} {a : Addr} {ks : List Ky} (h : KL H a ks) : Dv K H (.ref a) (.list (ks.map kdat)) := by
  obtain ⟨vs, e, k⟩ := h
  exact .lst (.inl (.inl e)) (kvs_dv k)
theorem sl_dv {H : Hp} {a : Addr} {xs : List Str} (h : H a = some (.lst (xs.map V.str))) : Dv K H (.ref a) (.list (xs.map PyData.str)) := .lst (.inl (.inl h)) (dv_strs xs)
theorem fd_strs {xs : List Str} (l : xs.length ≤ 100000) : Fd 1 (.list (xs.map PyData.str)) := .lst (by rw [List.length_map]; exact l) fun d hd => by
  obtain ⟨x, _, rfl⟩ := List.mem_map.mp hd
  exact .str x
theorem fd_key (k : Ky) : Fd 1 (kdat k) := .tup (by rw [List.length_map]; cases k <;> exact Nat.le_of_ble_eq_true rfl) fun d hd => by
  obtain ⟨x, _, rfl⟩ := List.mem_map.mp hd
  exact .str x
theorem fd_keys {ks : List Ky} (l : ks.length ≤ 100000) : Fd 2 (.list (ks.map kdat)) := .lst (by rw [List.length_map]; exact l) fun d hd => by
  obtain ⟨k, _, rfl⟩ := List.mem_map.mp hd
  exact fd_key k
/-- is_tour(keys) of a tour -/
def spIsTour : Sp := fun vs H Q _ => ∃ (a : Addr) (ks : List Ky), vs = [.ref a] ∧ KL H a ks ∧ T ks ∧ ks.length ≤ 1000 ∧ ∀ H', Same H H' → Q (.bl true) H'
/-- _law_is_tour(keys) of a tour -/
def spIsTourL : Sp := fun vs H Q _ => ∃ (a : Addr) (ks : List Ky), vs = [.ref a] ∧ KL H a ks ∧ T ks ∧ ks.length ≤ 1000 ∧ (hsOf ks).length < 64 ∧ ∀ H', Same H H' → Q (.bl true) H'
/-- _law_right(told, due, houses, names) -/
def spRight : Sp := fun vs H Q _ => ∃ (a b h n : Addr) (ks : List Ky) (zs ns : List Str), vs = [.ref a, .ref b, .ref h, .ref n] ∧ KL H a ks ∧ KL H b ks ∧ T ks ∧ ks.length ≤ 1000 ∧ H h = some (.lst (zs.map V.str)) ∧ H n = some (.lst (ns.map V.str)) ∧
  (ks.filterMap hS).Perm zs ∧ (ks.filterMap lS).Perm ns ∧ zs.length < 64 ∧ ns.length < 64 ∧ ∀ H', Same H H' → Q (.bl true) H'
end
end Kj
namespace Kj
open PySem PySem.Spec PyProof.Rows L2 Rd
/-! ### a tour's houses and lines, each once -/
open Ty
theorem fm_nodup {α β : Type} {f : α → Option β} {xs : List α} (nd : xs.Nodup) (h : ∀ a ∈ xs, ∀ b ∈ xs, ∀ c, f a = some c → f b = some c → a = b) : (xs.filterMap f).Nodup := by
  refine List.pairwise_filterMap.mpr (List.Pairwise.imp_of_mem (fun {a b} ha hb ne c hc d hd e => ?_) nd)
  subst e
  exact ne (h a ha b hb c hc hd)
theorem hS_perm {ks : List Ky} {zs : List Str} {R : Str → Prop} (h : TT ks (· ∈ zs) R) (nd : zs.Nodup) : (ks.filterMap hS).Perm zs := by
  refine (List.perm_ext_iff_of_nodup (fm_nodup h.1.nd fun a ha b hb c ea eb => ?_) nd).mpr fun x => ?_
  · cases a <;> cases b <;> simp [hS] at ea eb
    rw [ea, eb]
  · refine Iff.trans ?_ (h.2.1 x)
    rw [List.mem_filterMap]
    constructor
    · rintro ⟨k, hk, e⟩
      cases k with
      | h y =>
        have e : some y = some x := e
        cases e
        exact hk
      | a l u v =>
        have e : (none : Option Str) = some x := by
          unfold hS at e
          exact e
        cases e
    · exact fun m => ⟨_, m, rfl⟩
theorem lS_a {l x y : Str} : lS (.a l x y) = if x.cps.toList < y.cps.toList then some l else none := rfl
theorem lS_h {x : Str} : lS (.h x) = none := rfl
theorem lt_or {x y : Str} (h : x ≠ y) : x.cps.toList < y.cps.toList ∨ y.cps.toList < x.cps.toList := by
  rcases Classical.em (x.cps.toList < y.cps.toList) with a | a
  · exact .inl a
  rcases Classical.em (y.cps.toList < x.cps.toList) with b | b
  · exact .inr b
  exact absurd (cl_inj (List.le_antisymm (List.not_lt.mp b) (List.not_lt.mp a))) h
theorem lS_perm {ks : List Ky} {ns : List Str} {P : Str → Prop} (h : TT ks P (· ∈ ns)) (nd : ns.Nodup) : (ks.filterMap lS).Perm ns := by
  have get : ∀ {k : Ky} {c : Str}, lS k = some c → ∃ x y, k = .a c x y ∧ x.cps.toList < y.cps.toList := fun {k c} e => by
    cases k with
    | h x =>
      rw [lS_h] at e
      cases e
    | a l x y =>
      rw [lS_a] at e
      by_cases t : x.cps.toList < y.cps.toList
      · rw [if_pos t] at e
        cases e
        exact ⟨x, y, rfl, t⟩
      · rw [if_neg t] at e
        cases e
  refine (List.perm_ext_iff_of_nodup (fm_nodup h.1.nd fun a ha b hb c ea eb => ?_) nd).mpr fun l => ?_
  · obtain ⟨x, y, rfl, t⟩ := get ea
    obtain ⟨u, v, rfl, t'⟩ := get eb
    rcases h.1.one c x y u v ha hb with ⟨rfl, rfl⟩ | ⟨rfl, rfl⟩
    · rfl
    · exact absurd (List.lt_trans t t') (List.lt_irrefl _)
  · refine Iff.trans ?_ (h.2.2 l)
    rw [List.mem_filterMap]
    constructor
    · rintro ⟨k, hk, e⟩
      obtain ⟨x, y, rfl, _⟩ := get e
      exact ⟨x, y, hk⟩
    · rintro ⟨x, y, m⟩
      rcases lt_or (h.1.ne l x y m) with t | t
      · exact ⟨_, m, by rw [lS_a, if_pos t]⟩
      · exact ⟨_, h.1.rev l x y m, by rw [lS_a, if_pos t]⟩
/-- a line's keys in a tour tied by it -/
theorem link_no {l : Str} {ks : List Ky} {P R : Str → Prop} (h : TT ks P R) (n : ¬ R l) : ∀ k ∈ ks, isL l k = false := fun k hk => by
  cases k with
  | h x => rfl
  | a m x y => exact decide_eq_false fun e => n (e ▸ (h.2.2 m).mp ⟨x, y, hk⟩)
end Kj
namespace Kj
open PySem PySem.Spec PyProof.Rows L2 Rd
/-! ### a dict of lists of pairs -/
open Ty
def PV (H : Hp) (v : V) (p : Str × Str) : Prop := ∃ t, v = .ref t ∧ H t = some (.tup [.str p.1, .str p.2])
def PL (H : Hp) (a : Addr) (ps : List (Str × Str)) : Prop := ∃ vs, H a = some (.lst vs) ∧ vs.length = ps.length ∧ ∀ (i : Nat) (v : V) (p : Str × Str), vs[i]? = some v → ps[i]? = some p → PV H v p
theorem PV.keep {H G : Hp} {v : V} {p : Str × Str} (h : PV H v p) (k : ∀ t xs, H t = some (.tup xs) → G t = some (.tup xs)) : PV G v p := by
  obtain ⟨t, e, h⟩ := h
  exact ⟨t, e, k _ _ h⟩
theorem PL.keep {H G : Hp} {a : Addr} {ps : List (Str × Str)} (h : PL H a ps) (ha : ∀ o, H a = some o → G a = some o) (k : ∀ t xs, H t = some (.tup xs) → G t = some (.tup xs)) : PL G a ps := by
  obtain ⟨vs, e, l, g⟩ := h
  exact ⟨vs, ha _ e, l, fun i v p a b => (g i v p a b).keep k⟩
structure Ways (B H : Hp) (w : Addr) (ls : List Str) (ad : Str → Addr) (ps : Str → List (Str × Str)) : Prop where
  bw : B w = none
  sm : Same B H
  dc : H w = some (.dK (kd ls fun l => .ref (ad l)))
  nd : ls.Nodup
  nw : ∀ l ∈ ls, ad l ≠ w
  nb : ∀ l ∈ ls, B (ad l) = none
  inj : ∀ l ∈ ls, ∀ m ∈ ls, ad l = ad m → l = m
  pl : ∀ l ∈ ls, PL H (ad l) (ps l)
  no : ∀ l, l ∉ ls → ps l = []
theorem Ways.new {B H : Hp} {w : Addr} (b : B w = none) (s : Same B H) (e : H w = some (.dK [])) : Ways B H w [] (fun _ => w) fun _ => [] :=
  ⟨b, s, e, .nil, fun _ m => (nomatch m), fun _ m => (nomatch m), fun _ m => (nomatch m), fun _ m => (nomatch m), fun _ _ => rfl⟩
theorem Ways.same {B H G : Hp} {w : Addr} {ls : List Str} {ad : Str → Addr} {ps : Str → List (Str × Str)} (h : Ways B H w ls ad ps) (s : Same H G) : Ways B G w ls ad ps :=
  ⟨h.bw, h.sm.trans s, s _ _ h.dc, h.nd, h.nw, h.nb, h.inj, fun l m => (h.pl l m).keep (fun o e => s _ _ e) fun t xs e => s _ _ e, h.no⟩
/-- a new list for a new line -/
theorem Ways.put {B H : Hp} {w L : Addr} {ls : List Str} {ad : Str → Addr} {ps : Str → List (Str × Str)} {l : Str} (h : Ways B H w ls ad ps) (n : l ∉ ls) (b : B L = none) (e : H L = some (.lst [])) (nn : ∀ m ∈ ls, ad m ≠ L) :
    Ways B (upd H w (.dK (kd (ls ++ [l]) fun y => if y = l then .ref L else .ref (ad y)))) w (ls ++ [l]) (fun y => if y = l then L else ad y) ps := by
  have nw : L ≠ w := fun z => by
    rw [z, h.dc] at e
    cases e
  have tup : ∀ t xs, H t = some (.tup xs) → upd H w (.dK (kd (ls ++ [l]) fun y => if y = l then .ref L else .ref (ad y))) t = some (.tup xs) := fun t xs g => (upd_ne fun z => by
    rw [z, h.dc] at g
    cases g).trans g
  refine ⟨h.bw, fun c o g => (upd_ne fun z => by rw [z, h.bw] at g; cases g).trans (h.sm _ _ g), ?_, ?_, ?_, ?_, ?_, ?_, ?_⟩
  · rw [upd_same]
    congr 3
    funext y
    split <;> rfl
  · exact List.nodup_append.mpr ⟨h.nd, List.nodup_cons.mpr ⟨List.not_mem_nil, .nil⟩, fun a ha b hb => by rw [List.mem_singleton.mp hb]; exact fun z => n (z ▸ ha)⟩
  · intro m hm
    show (if m = l then L else ad m) ≠ w
    split
    · exact nw
    · rename_i c
      exact h.nw m ((List.mem_append.mp hm).resolve_right fun z => c (List.mem_singleton.mp z))
  · intro m hm
    show B (if m = l then L else ad m) = none
    split
    · exact b
    · rename_i c
      exact h.nb m ((List.mem_append.mp hm).resolve_right fun z => c (List.mem_singleton.mp z))
  · intro m hm k hk
    show (if m = l then L else ad m) = (if k = l then L else ad k) → m = k
    have mm : m ≠ l → m ∈ ls := fun c => (List.mem_append.mp hm).resolve_right fun z => c (List.mem_singleton.mp z)
    have mk : k ≠ l → k ∈ ls := fun c => (List.mem_append.mp hk).resolve_right fun z => c (List.mem_singleton.mp z)
    split
    · split
      · rename_i c d
        exact fun _ => c.trans d.symm
      · rename_i c d
        exact fun z => absurd z.symm (nn _ (mk d))
    · split
      · rename_i c d
        exact fun z => absurd z (nn _ (mm c))
      · rename_i c d
        exact h.inj m (mm c) k (mk d)
  · intro m hm
    show PL _ (if m = l then L else ad m) _
    split
    · rename_i c
      rw [c, h.no l n]
      exact ⟨[], (upd_ne nw).trans e, rfl, fun i v p a => by simp at a⟩
    · rename_i c
      have mm := (List.mem_append.mp hm).resolve_right fun z => c (List.mem_singleton.mp z)
      exact (h.pl m mm).keep (fun o g => (upd_ne (h.nw m mm)).trans g) tup
  · exact fun m hm => h.no m fun z => hm (List.mem_append.mpr (.inl z))
/-- a pair more for a line -/
theorem Ways.app {B H : Hp} {w : Addr} {ls : List Str} {ad : Str → Addr} {ps : Str → List (Str × Str)} {l : Str} {p : Str × Str} {v : V} (h : Ways B H w ls ad ps) (m : l ∈ ls) (hv : PV H v p) : ∃ vs, H (ad l) = some (.lst vs) ∧ vs.length = (ps l).length ∧
    Ways B (upd H (ad l) (.lst (vs ++ [v]))) w ls ad (fun y => if y = l then ps y ++ [p] else ps y) := by
  obtain ⟨vs, e, len, g⟩ := h.pl l m
  have tup : ∀ t xs, H t = some (.tup xs) → upd H (ad l) (.lst (vs ++ [v])) t = some (.tup xs) := fun t xs z => (upd_ne fun c => by
    rw [c, e] at z
    cases z).trans z
  refine ⟨vs, e, len, h.bw, fun c o z => (upd_ne fun y => by rw [y, h.nb l m] at z; cases z).trans (h.sm _ _ z), (upd_ne (Ne.symm (h.nw l m))).trans h.dc, h.nd, h.nw, h.nb, h.inj, fun k hk => ?_, fun k hk => ?_⟩
  · show PL _ _ (if k = l then ps k ++ [p] else ps k)
    split
    · rename_i c
      subst c
      refine ⟨_, upd_same, by rw [List.length_append, List.length_append, len]; rfl, fun i u q hu hq => ?_⟩
      by_cases c : i < vs.length
      · rw [List.getElem?_append_left c] at hu
        rw [List.getElem?_append_left (len ▸ c)] at hq
        exact (g i u q hu hq).keep tup
      · have : i = vs.length := by
          have := (List.getElem?_eq_some_iff.mp hu).1
          rw [List.length_append] at this
          have : i < vs.length + 1 := this
          omega
        subst this
        rw [List.getElem?_append_right (Nat.le_refl _), Nat.sub_self] at hu
        rw [len, List.getElem?_append_right (Nat.le_refl _), Nat.sub_self] at hq
        cases hu
        cases hq
        exact hv.keep tup
    · rename_i c
      exact (h.pl k hk).keep (fun o z => (upd_ne fun y => c (h.inj k hk l m y)).trans z) tup
  · show (if k = l then ps k ++ [p] else ps k) = []
    rw [if_neg (show ¬ k = l from fun z => hk (z ▸ m))]
    exact h.no k hk
/-- d.setdefault(l, []) -/
theorem setdX {td ty tx : TE} {σ : L2.St} {H : Hp} {Q : VK} (h : td σ H fun x H1 => ∃ a, x = .ref a ∧ IsD H1 a ∧ ty σ H1 fun y H2 => tx σ H2 fun z H3 => ∃ (kvs : List (Key × V)) (k : Key), H3 a = some (.dK kvs) ∧ y = kV k ∧ kvs.length < sizeLine ∧
  (∀ v, valV kvs k = some v → Q v H3) ∧ (valV kvs k = none → Q z (upd H3 a (.dK (putK kvs k z))))) : tDSetd td ty tx σ H Q := h
theorem Ways.setd {B H G : Hp} {w L : Addr} {ls : List Str} {ad : Str → Addr} {ps : Str → List (Str × Str)} {l : Str} {Q : VK} (h : Ways B H w ls ad ps) (hL : H L = none) (s : Same H G) (e : G L = some (.lst [])) (le : ls.length ≤ 100000)
    (q : ∀ G' ls' ad', Ways B G' w ls' ad' ps → l ∈ ls' → (∀ m, m ∈ ls' ↔ m ∈ ls ∨ m = l) → ls'.length ≤ ls.length + 1 → (∀ b o, b ≠ w → H b = some o → G' b = some o) → (∀ R : Addr → Prop, (∀ b, H b = none → R b) → (∀ m ∈ ls, R (ad m)) → ∀ m ∈ ls', R (ad' m)) → Q (.ref (ad' l)) G') :
    ∃ (kvs : List (Key × V)) (k : Key), G w = some (.dK kvs) ∧ V.str l = kV k ∧ kvs.length < sizeLine ∧ (∀ v, valV kvs k = some v → Q v G) ∧ (valV kvs k = none → Q (.ref L) (upd G w (.dK (putK kvs k (.ref L))))) := by
  have g := h.same s
  refine ⟨_, Sum.inr l, g.dc, rfl, by rw [kd_len]; exact sz5' le, fun v hv => ?_, fun hv => ?_⟩
  · by_cases m : l ∈ ls
    · rw [kd_get m] at hv
      cases hv
      exact q _ ls ad g m (fun m' => ⟨.inl, fun z => z.elim id fun e => e ▸ m⟩) (by omega) (fun b o _ e => s _ _ e) fun R _ r => r
    · rw [kd_none m] at hv
      cases hv
  · by_cases m : l ∈ ls
    · rw [kd_get m] at hv
      cases hv
    · have r := g.put (L := L) m (h.sm.free hL) e fun k hk z => by
        obtain ⟨vs, e, _⟩ := h.pl k hk
        rw [z, hL] at e
        cases e
      rw [kd_new m]
      have := q _ _ _ r (List.mem_append.mpr (.inr (List.mem_singleton.mpr rfl))) (fun m' => by rw [List.mem_append, List.mem_singleton]) (by rw [List.length_append]; exact Nat.le_refl _) (fun b o n e => (upd_ne n).trans (s _ _ e)) fun R r0 r1 k hk => by
        show R (if k = l then L else ad k)
        split
        · exact r0 L hL
        · rename_i c
          exact r1 k ((List.mem_append.mp hk).resolve_right fun z => c (List.mem_singleton.mp z))
      rw [if_pos rfl] at this
      exact this
theorem Ways.step {B H : Hp} {w : Addr} {i j : Nat} {σ : L2.St} {ls : List Str} {ad : Str → Addr} {ps : Str → List (Str × Str)} {l : Str} {Q : VK} (hi : σ[i]? = some (some (.ref w))) (hj : σ[j]? = some (some (.str l))) (h : Ways B H w ls ad ps) (le : ls.length ≤ 100000)
    (q : ∀ G' ls' ad', Ways B G' w ls' ad' ps → l ∈ ls' → (∀ m, m ∈ ls' ↔ m ∈ ls ∨ m = l) → ls'.length ≤ ls.length + 1 → (∀ b o, b ≠ w → H b = some o → G' b = some o) → (∀ R : Addr → Prop, (∀ b, H b = none → R b) → (∀ m ∈ ls, R (ad m)) → ∀ m ∈ ls', R (ad' m)) → Q (.ref (ad' l)) G') : tDSetd (tVar i) (tVar j) (tLst tNil) σ H Q :=
  setdX (Rd.var hi ⟨w, rfl, .inl ⟨_, .inl h.dc⟩, Rd.var hj (Rd.lst (Rd.nil ⟨Nat.zero_le _, fun L hL => h.setd hL (same_upd hL) upd_same le q⟩))⟩)
theorem pairs_snoc {ks : List Ky} {l x y m : Str} : Ty.pairsOf (ks ++ [.a l x y]) m = if m = l then Ty.pairsOf ks m ++ [(x, y)] else Ty.pairsOf ks m := by
  unfold Ty.pairsOf
  rw [as_app, List.filterMap_append]
  show _ ++ (if l = m then some (x, y) else none).toList = _
  by_cases c : m = l
  · subst c
    rw [if_pos rfl, if_pos rfl]
    rfl
  · rw [if_neg (Ne.symm c), if_neg c]
    exact List.append_nil _
end Kj
namespace Kj
open PySem PySem.Spec PyProof.Rows L2 Rd
/-! ### the stepper -/
local macro_rules | `(tactic| walk_at "hp") => `(tactic| first
  | assumption
  | exact upd_same
  | (refine Eq.trans (upd_ne (by first | assumption | (apply Ne.symm; assumption))) ?_; walk_at "hp"))
local macro_rules | `(tactic| walk_at "sq") => `(tactic| first
  | assumption
  | (refine Or.inl (Or.inl ?_); walk_at "hp"))
local macro_rules | `(tactic| walk_at "st") => `(tactic| first
  | assumption
  | (refine Or.inl (Or.inl ?_); walk_at "hp"))
local macro_rules | `(tactic| walk_at "ar") => `(tactic| first
  | assumption
  | omega
  | decide)
local macro_rules | `(tactic| walk_at "ci") => `(tactic| first
  | (refine (show CMul _ _ from Or.inr ⟨?_, ?_⟩) <;> omega)
  | (refine (show CMul _ _ from Or.inl ⟨?_, ?_⟩) <;> omega)
  | (show CPow _ _; exact ⟨by decide, by decide, by decide⟩)
  | (refine wide_div (b := 63) ?_ ?_ (by decide) (by decide) <;> omega)
  | (show (0 : Int) < _; omega))
local macro_rules | `(tactic| walk_at "ty") => `(tactic| first
  | exact dp_ty (by assumption)
  | exact TyX.base (TyOf.int _)
  | exact TyX.base (TyOf.str _)
  | exact TyX.base (TyOf.bl _)
  | exact TyX.base TyOf.non
  | exact tyL' (by walk_at "sq")
  | exact tyT' (by walk_at "st"))
local macro_rules | `(tactic| walk_at "isi") => `(tactic| first
  | ((with_reducible apply Rd.isiF); (walk_at "ty"); (decide))
  | ((with_reducible apply Rd.isiT); (walk_at "ty"); (decide)))
local macro_rules | `(tactic| walk_at "rd") => `(tactic| first
  | with_reducible apply Rd.seq
  | ((with_reducible apply Rd.var); rfl)
  | with_reducible apply Rd.con
  | with_reducible apply Rd.op
  | with_reducible apply Rd.asg
  | ((with_reducible apply Rd.gname); ((dsimp only [List.set, L2.wipe, Int.reduceToNat]) <;> rfl))
  | with_reducible apply Rd.nxt
  | with_reducible apply Rd.ifs
  | with_reducible apply Rd.test
  | with_reducible apply Rd.testB
  | with_reducible apply Rd.exbl
  | with_reducible apply Rd.ret
  | with_reducible apply Rd.drop
  | with_reducible apply Rd.retN
  | with_reducible apply Rd.nil
  | with_reducible apply Rd.cons
  | with_reducible apply Rd.call
  | with_reducible apply Rd.cb
  | with_reducible apply Rd.and
  | with_reducible apply Rd.or
  | with_reducible apply Rd.not
  | with_reducible apply Rd.andV
  | with_reducible apply Rd.orV
  | with_reducible apply Rd.notV
  | with_reducible apply Rd.ife
  | with_reducible apply Rd.tup
  | with_reducible apply Rd.lst
  | with_reducible apply Rd.un
  | with_reducible apply Rd.chain
  | with_reducible apply Rd.brk
  | with_reducible apply Rd.cnt
  | with_reducible apply Rd.I0
  | with_reducible apply Rd.U1
  | ((with_reducible apply Rd.eq); rfl)
  | ((with_reducible apply Rd.ne); rfl)
  | ((with_reducible apply Rd.I1); (walk_at "ci"))
  | with_reducible apply Rd.lc0
  | with_reducible apply Rd.ln0
  | with_reducible apply Rd.exN
  | ((with_reducible apply Rd.iteSf); (decide +kernel))
  | ((with_reducible apply Rd.iteSt); (decide +kernel))
  | ((with_reducible apply Rd.niQ); (exact Or.inl (by walk_at "sq")); (exact ⟨rfl, rfl⟩); (rfl))
  | ((with_reducible apply Rd.inQ); (exact Or.inl (by walk_at "sq")); (exact ⟨rfl, rfl⟩); (rfl))
  | with_reducible apply Rd.rn1
  | with_reducible apply Rd.in1
  | with_reducible apply Rd.sn1
  | with_reducible apply Rd.bn1
  | with_reducible apply Rd.nn1
  | with_reducible apply Rd.rn2
  | with_reducible apply Rd.in2
  | with_reducible apply Rd.sn2
  | with_reducible apply Rd.bn2
  | with_reducible apply Rd.nn2
  | with_reducible apply Rd.nt1
  | with_reducible apply Rd.nf1
  | (with_reducible refine Rd.iteI (fun _ => ?_) (fun _ => ?_))
  | (with_reducible refine Rd.iteNI (fun _ => ?_) (fun _ => ?_))
  | (with_reducible refine iteT ?_)
  | (with_reducible refine iteF ?_)
  | (with_reducible refine Rd.iteD (fun _ => ?_) (fun _ => ?_))
  | (with_reducible refine Rd.iteN (fun _ => ?_) (fun _ => ?_))
  | with_reducible apply Rd.intI
  | with_reducible apply Rd.intB
  | with_reducible apply Rd.maxQ
  | with_reducible apply Rd.minQ
  | with_reducible apply Rd.absQ
  | with_reducible apply Rd.isN
  | with_reducible apply Rd.noN
  | with_reducible apply Rd.ltZ
  | with_reducible apply Rd.bm
  | with_reducible apply Rd.bm0
  | with_reducible apply Rd.par
  | with_reducible apply Rd.expar
  | with_reducible apply Rd.exint
  | with_reducible apply Rd.ipi
  | with_reducible apply Rd.slice
  | with_reducible apply Rd.noPart
  | with_reducible apply Rd.part
  | with_reducible apply Rd.gcons
  | with_reducible apply Rd.gnil
  | with_reducible apply Rd.iseq
  | with_reducible apply Rd.irng1
  | walk_at "isi"
  | with_reducible apply Rd.forX
  | with_reducible apply Rd.lstRev
  | with_reducible apply Rd.lstRg
  | with_reducible apply Rd.rg1
  | with_reducible apply Rd.rg2
  | with_reducible apply Rd.exint2
  | ((with_reducible apply Rd.exrev); (walk_at "sq"))
  | with_reducible apply Rd.lcX
  | with_reducible apply Rd.yes
  | ((with_reducible apply Rd.exrng1); (constructor <;> omega))
  | ((with_reducible apply Rd.exrng2); (refine ⟨?_, ?_, ?_, ?_⟩ <;> omega))
  | with_reducible apply Rd.irng2
  | ((with_reducible apply Rd.aug); rfl)
  | ((with_reducible apply Rd.exlst); (walk_at "sq"))
  | ((with_reducible apply Rd.gtup); (walk_at "st"); (rfl))
  | ((with_reducible apply Rd.tyL); (walk_at "hp"))
  | ((with_reducible apply Rd.ixL); (walk_at "sq"); (rfl))
  | ((with_reducible apply Rd.ixI); (walk_at "sq"); (omega); (first | assumption | (simp only [List.length_map]; omega)); (intro _ _))
  | (with_reducible refine Rd.gsub ?_)
  | ((with_reducible apply Rd.setL); (walk_at "hp"); (rfl); ((dsimp only [List.set, L2.wipe, Int.reduceToNat]) <;> rfl))
  | ((with_reducible apply Rd.lenQ); (first | exact Or.inl (by walk_at "sq") | exact Or.inr (by walk_at "st")))
  | ((with_reducible apply Rd.listQ); (first | exact Or.inl (by walk_at "sq") | exact Or.inr (by walk_at "st")))
  | ((with_reducible apply Rd.tupQ); (walk_at "sq"))
  | ((with_reducible apply Rd.slL); (walk_at "sq"))
  | ((with_reducible apply Rd.ixT); (walk_at "st"); (rfl))
  | (with_reducible refine Rd.iteB (fun _ => ?_) (fun _ => ?_))
  | (with_reducible refine Rd.iteNB (fun _ => ?_) (fun _ => ?_))
  | (refine Rd.andI (Nat.le_of_ble_eq_true rfl) ?_)
  | dsimp only [List.set])
local macro_rules | `(tactic| walk_at "hp") => `(tactic| first
  | assumption
  | exact upd_same
  | (refine Eq.trans (upd_ne (by first | assumption | (apply Ne.symm; assumption))) ?_; walk_at "hp")
  | (refine hpS (by assumption) ?_; walk_at "hp"))
local macro_rules | `(tactic| walk_at "al") => `(tactic| (with_reducible intro l hl; generalize hG : upd _ l _ = G; have hs := newOne hl hG; clear hG; obtain ⟨hs, he⟩ := hs))
local macro_rules | `(tactic| walk_at "rd") => `(tactic| first
  | walk_at "al"
  | ((with_reducible apply Rd.cat); (walk_at "hp"); (walk_at "hp"); (exact Nat.le_of_ble_eq_true rfl)))
local macro_rules | `(tactic| walk_at "sm") => `(tactic| first
  | assumption
  | exact Same.refl _
  | (refine Same.trans ?_ (by assumption); walk_at "sm"))
local macro_rules | `(tactic| walk_at "fr") => `(tactic| first
  | assumption
  | (refine Same.free (by assumption) ?_; walk_at "fr"))
local macro_rules | `(tactic| walk_at "ty") => `(tactic| first
  | exact dv_ty (by assumption)
  | exact tyD' (by walk_at "hp"))
local macro_rules | `(tactic| walk_at "sz") => `(tactic| first
  | exact sz5 (by omega)
  | (simp only [add_len, one_len]; exact sz5 (by omega)))
local macro_rules | `(tactic| walk_at "rd") => `(tactic| first
  | with_reducible apply Rd.istr
  | with_reducible apply Rd.exstr
  | with_reducible apply Rd.leA
  | with_reducible apply Rd.leZz
  | with_reducible apply Rd.le0
  | with_reducible apply Rd.le9
  | with_reducible apply Rd.niZ
  | ((with_reducible apply Rd.lenZ); (walk_at "sz"))
  | ((with_reducible apply Rd.slZ); (walk_at "sz"))
  | ((with_reducible apply Rd.addZ); (walk_at "sz"))
  | with_reducible apply Rd.raiseX
  | with_reducible apply Rd.exone
  | with_reducible apply Rd.callS
  | with_reducible apply Rd.callP
  | with_reducible apply Rd.xsX
  | with_reducible apply Rd.dnewX
  | with_reducible apply Rd.tyZ)
/-! ### arcs by their lines -/
open Ty
section
variable {P : Program} {w : World} {K : PySem.W.Frag} {mg : Str → Option Value} {base : Heap} {D : Str → Addr}
def spPaired : Sp := fun vs H Q _ => ∃ (a : Addr) (ks : List Ky), vs = [.ref a] ∧ KL H a ks ∧ ks.length ≤ 1000 ∧ (∀ k ∈ ks, ∃ l x y, k = .a l x y) ∧ ∀ b H', (b = true ↔ ∀ l x y, .a l x y ∈ ks → ∃ u v, Ty.pairsOf ks l = [(u, v), (v, u)]) → Same H H' → Q (.bl b) H'
theorem arcs_at {ks : List Ky} (ha : ∀ k ∈ ks, ∃ l x y, k = Ky.a l x y) {i : Nat} (h : i < ks.length) : ∃ l x y, ks[i]? = some (.a l x y) ∧ ks.take (i + 1) = ks.take i ++ [.a l x y] := by
  have e := List.getElem?_eq_getElem h
  obtain ⟨l, x, y, e'⟩ := ha _ (List.mem_of_getElem? e)
  rw [e'] at e
  exact ⟨l, x, y, e, by rw [List.take_add_one, e]; rfl⟩
theorem shaped_strs {xs : List Str} (h : ∀ n ∈ xs, PyData.strOk n = true) : SeqAt.shaped (.tuple (xs.map PyData.str)) = true := by
  unfold SeqAt.shaped
  rw [PyData.canLay0, lay_strs xs h, PyData.depth, depth_strs]
  rfl
theorem eqTs {H : Hp} {Q : VK} {t t' : Addr} {xs ys : List Str} (h : H t = some (.tup (xs.map V.str))) (h' : H t' = some (.tup (ys.map V.str))) (o : ∀ n ∈ xs, PyData.strOk n = true) (o' : ∀ n ∈ ys, PyData.strOk n = true) (q : Q (.bl (decide (xs = ys))) H) : rEqD K (.ref t) (.ref t') H Q := by
  refine ⟨.tuple (xs.map PyData.str), .tuple (ys.map PyData.str), .tup (.inl (.inl h)) (dp_strs _), .tup (.inl (.inl h')) (dp_strs _), shaped_strs o, shaped_strs o', ?_⟩
  rw [PyData.eqv, eqv_strs]
  exact q
def okP (ps : List (Str × Str)) : Bool := match ps with
  | [p, q] => decide (p = (q.2, q.1))
  | _ => false
theorem okP_iff {ps : List (Str × Str)} : okP ps = true ↔ ∃ u v, ps = [(u, v), (v, u)] := by
  unfold okP
  split
  · rename_i p q
    rw [decide_eq_true_iff]
    constructor
    · intro e
      exact ⟨p.1, p.2, by rw [e]⟩
    · rintro ⟨u, v, e⟩
      cases e
      rfl
  · rename_i no
    refine ⟨fun h => (nomatch h), ?_⟩
    rintro ⟨u, v, e⟩
    exact absurd e (no _ _)
theorem ok_is_paired (F : Def K mg "is_paired" s_is_paired P_is_paired) (m_all : mg "all" = none) (m_len : mg "len" = none) : Cal P w K mg base 3 "is_paired" P_is_paired spPaired := by
  refine F.ok sc_is_paired (fun vs H Q E h => ?_) (fun f cdv A outer s H vs Q E hr h => ?_)
  · obtain ⟨a, ks, rfl, _⟩ := h
    rfl
  obtain ⟨a, ks, rfl, hk, hl, ha, q⟩ := h
  refine ⟨_, (pss_cons (ps_set (i := 1) sc_is_paired.nd rfl (Or.inl rfl) pe_dnewK)
  (pss_cons (ps_for PassesOwn.never rfl (pi_list (pv 0 (hd := nd_arcs) (hcd := nc_arcs))) (pg_tup (by rfl) (pgs_cons (pg_name (i := 2) sc_is_paired.nd rfl (Or.inl rfl)) (pgs_cons (pg_name (i := 3) sc_is_paired.nd rfl (Or.inl rfl)) (pgs_cons (pg_name (i := 4) sc_is_paired.nd rfl (Or.inl rfl)) (pgs_cons (pg_name (i := 5) sc_is_paired.nd rfl (Or.inl rfl)) pgs_nil))))) (pss_one (ps_expr (pe_bm PySem.F.plainAttrs_list PySem.F.slot_list_append PySem.F.type_list_append mt_append (pe_dsetd (pv 1 (hd := nd_ways) (hcd := nc_ways)) (pv 3 (hd := nd_line) (hcd := nc_line)) (pe_lst pa_nil) ⟨rfl, rfl, rfl, rfl⟩) (pa_cons (pe_tup (pa_cons (pv 4 (hd := nd_start) (hcd := nc_start)) (pa_cons (pv 5 (hd := nd_stop) (hcd := nc_stop)) pa_nil))) pa_nil)))))
  (pss_one (ps_ret (pe_callB (cr_allK (K := K) rfl rfl) (by rfl) m_all bb_all (pa_cons (pe_lock (pe_lc (own := [("pair", 6)]) (by rfl) sc_is_paired.nd (pi_values (pv 1 (hd := nd_ways) (hcd := nc_ways))) (blkOk_by (N := N_is_paired) (sc := defScope s_is_paired) (by decide +kernel)) (fun _ _ _ _ _ => (pg_name (i := 6) sc_is_paired.nd rfl (Or.inl rfl))) (fun _ _ _ _ _ => pts_nil) (fun _ _ _ _ _ => (pe_and (pe_cmpR op_eq (pe_callB (q_lenK (K := K) rfl) (by rfl) m_len PySem.boot_len (pa_cons (pv 6 (hd := nd_pair) (hcd := nc_pair)) pa_nil) (hn := nn_len) (hdb := nd_len)) pe_int (nomark _)) (pe_one (pe_cmpR (Ho.eqDK (K := K) rfl hr.units) (pe_ix (ix_listK (K := K) rfl) (pv 6 (hd := nd_pair) (hcd := nc_pair)) pe_int (fun _ _ => rfl)) (pe_tup (pa_cons (pe_ix (ix_tupK (K := K) rfl) (pe_ix (ix_listK (K := K) rfl) (pv 6 (hd := nd_pair) (hcd := nc_pair)) pe_int (fun _ _ => rfl)) pe_int (fun _ _ => rfl)) (pa_cons (pe_ix (ix_tupK (K := K) rfl) (pe_ix (ix_listK (K := K) rfl) (pv 6 (hd := nd_pair) (hcd := nc_pair)) pe_int (fun _ _ => rfl)) pe_int (fun _ _ => rfl)) pa_nil))) (nomark _))))))) pa_nil) (hn := nn_all) (hdb := nd_all)))))), ?_⟩
  refine Rd.at0 (σ := [some (.ref a), none, none, none, none, none, none]) rfl ?_
  obtain ⟨vs, ea, kvs, lv⟩ := kl_len hk
  repeat' (walk_at "rd")
  rename_i w0 nw0 G0 s0 e0
  have ea0 := s0 _ _ ea
  refine forL vs (fun i σ H' => ∃ (v2 v3 v4 v5 : Option V) (ls : List Str) (ad : Str → Addr), σ = [some (.ref a), some (.ref w0), v2, v3, v4, v5, none] ∧ Ways H H' w0 ls ad (fun l => Ty.pairsOf (ks.take i) l) ∧ ls.length ≤ i ∧ ∀ l, l ∈ ls ↔ ∃ x y, .a l x y ∈ ks.take i)
    ⟨none, none, none, none, [], fun _ => w0, rfl, ?_, Nat.le_refl _, fun l => by simp⟩ ?_ ?_ ?_
  · exact Ways.new nw0 s0 e0
  · rintro i σ H' _ ⟨_, _, _, _, ls, ad, rfl, W, _⟩
    exact .inl (.inl (W.sm _ _ ea))
  · rintro i v σ H' hv ⟨_, _, _, _, ls, ad, rfl, W, ll, lm⟩
    have il := (List.getElem?_eq_some_iff.mp hv).1
    obtain ⟨l, x, y, ek, et⟩ := arcs_at ha (i := i) (by omega)
    obtain ⟨k, hk', kv'⟩ := kvs.at hv
    rw [ek] at hk'
    cases hk'
    obtain ⟨_, t, rfl, ht⟩ := kv'.same W.sm
    have ht : H' t = some (.tup [.str "arc", .str l, .str x, .str y]) := ht
    have ed := W.dc
    repeat' (walk_at "rd")
    refine W.step rfl rfl (by omega) fun G2 ls' ad' W2 ml lm' ll' _ _ => ?_
    obtain ⟨us0, eu0, lu0, _⟩ := W2.pl l ml
    repeat' (walk_at "rd")
    rename_i T3 n3 G3 s3 e3
    obtain ⟨us, eu, lu, W4⟩ := (W2.same s3).app (p := (x, y)) (v := .ref T3) ml ⟨_, rfl, e3⟩
    refine ⟨ad' l, us, _, rfl, rfl, eu, ?_, ?_⟩
    · have := List.length_filterMap_le (fun (q : Str × Str × Str) => if q.1 = l then some q.2 else none) (asOf (ks.take i))
      have h2 := hs_as_len (ks.take i)
      rw [List.length_take] at h2
      have : us.length = (Ty.pairsOf (ks.take i) l).length := lu
      unfold Ty.pairsOf at this
      exact sz5' (by omega)
    · refine ⟨_, _, _, _, ls', ad', rfl, ?_, by omega, fun m => ?_⟩
      · rw [et]
        have e : (fun m => Ty.pairsOf (ks.take i ++ [.a l x y]) m) = fun m => if m = l then Ty.pairsOf (ks.take i) m ++ [(x, y)] else Ty.pairsOf (ks.take i) m := funext fun m => pairs_snoc
        rw [e]
        exact W4
      · rw [lm', lm, et]
        simp only [List.mem_append, List.mem_singleton]
        constructor
        · rintro (⟨u, v, h⟩ | rfl)
          · exact ⟨u, v, .inl h⟩
          · exact ⟨x, y, .inr rfl⟩
        · rintro ⟨u, v, h | h⟩
          · exact .inl ⟨u, v, h⟩
          · cases h
            exact .inr rfl
  · rintro σ H' ⟨_, _, _, _, ls, ad, rfl, W, ll, lm⟩
    rw [List.take_of_length_le (by omega)] at W lm
    repeat' (walk_at "rd")
    refine lockE W.dc fun od => ?_
    repeat' (walk_at "rd")
    refine valsX ?_
    repeat' (walk_at "rd")
    refine ⟨w0, od, _, rfl, upd_same, ?_⟩
    have big := sz5' (Nat.le_refl 100000)
    refine lcV _ fun L hL => ⟨fun i h => Same H h ∧ (∀ b o, b ≠ w0 → H' b = some o → h b = some o) ∧ h w0 = some (.frz od (.dK (kd ls fun l => .ref (ad l)))) ∧ h L = some (.lst (((ls.take i).map fun z => okP (Ty.pairsOf ks z)).map V.bl)), ?_, (fun i h _ e => e.2.2.1), ?_, ?_⟩
    · have nL : L ≠ w0 := fun z => by
        rw [z, upd_same] at hL
        cases hL
      rw [upd_ne nL] at hL
      refine ⟨fun b o e => ?_, fun b o n e => (upd_ne (ne_of_none e hL)).trans ((upd_ne n).trans e), (upd_ne (Ne.symm nL)).trans upd_same, upd_same⟩
      exact (upd_ne (ne_of_none (W.sm _ _ e) hL)).trans ((upd_ne (ne_of_none e nw0)).trans (W.sm _ _ e))
    · rintro i kk x h hx ⟨p1, p2, p3, p4⟩
      unfold kd at hx
      rw [List.getElem?_map] at hx
      obtain ⟨z, hz, e⟩ := Option.map_eq_some_iff.mp hx
      obtain ⟨rfl, rfl⟩ := Prod.mk.inj e
      have mz := List.mem_of_getElem? hz
      obtain ⟨us, eu, lu, hp⟩ := W.pl z mz
      have eu := p2 _ _ (W.nw z mz) eu
      have il := (List.getElem?_eq_some_iff.mp hz).1
      have hLH : H' L = none := by
        have nL : L ≠ w0 := fun z => by
          rw [z, upd_same] at hL
          cases hL
        rwa [upd_ne nL] at hL
      have step : ∀ G b, b = okP (Ty.pairsOf ks z) → Same h G → ∃ out, G L = some (.lst out) ∧ out.length < sizeLine ∧ Same H (upd G L (.lst (out ++ [.bl b]))) ∧ (∀ b' o, b' ≠ w0 → H' b' = some o → upd G L (.lst (out ++ [.bl b])) b' = some o) ∧
          upd G L (.lst (out ++ [.bl b])) w0 = some (.frz od (.dK (kd ls fun l => .ref (ad l)))) ∧ upd G L (.lst (out ++ [.bl b])) L = some (.lst (((ls.take (i + 1)).map fun z => okP (Ty.pairsOf ks z)).map V.bl)) := by
        rintro G b rfl s
        refine ⟨_, s _ _ p4, sz5' (by rw [List.length_map, List.length_map, List.length_take]; omega), fun b' o e => ?_, fun b' o n e => ?_, ?_, ?_⟩
        · exact (upd_ne (ne_of_none (W.sm _ _ e) hLH)).trans ((p1.trans s) _ _ e)
        · exact (upd_ne (ne_of_none e hLH)).trans (s _ _ (p2 _ _ n e))
        · exact (upd_ne fun z => by rw [← z, p3] at p4; cases p4).trans (s _ _ p3)
        · rw [upd_same, List.take_add_one, hz, List.map_append, List.map_append]
          rfl
      refine turn1 ?_
      repeat' (walk_at "rd")
      refine ⟨rfl, ?_⟩
      repeat' (walk_at "rd")
      · rename_i two
        have l2 : (Ty.pairsOf ks z).length = 2 := by omega
        obtain ⟨p, r, ep⟩ : ∃ p r, Ty.pairsOf ks z = [p, r] := by
          match hq : Ty.pairsOf ks z, l2 with
          | [p, r], _ => exact ⟨p, r, rfl⟩
        obtain ⟨v1, v2, rfl⟩ : ∃ v1 v2, us = [v1, v2] := by
          match us, two with
          | [p, r], _ => exact ⟨p, r, rfl⟩
        rw [ep] at hp
        obtain ⟨t1, rfl, h1⟩ := (hp 0 _ _ rfl rfl).keep fun t xs e => p2 t _ (fun c => by rw [c, W.dc] at e; cases e) e
        obtain ⟨t2, rfl, h2⟩ := (hp 1 _ _ rfl rfl).keep fun t xs e => p2 t _ (fun c => by rw [c, W.dc] at e; cases e) e
        repeat' (walk_at "rd")
        rename_i l3 n3 G3 s3 e3
        have mem : ∀ u v, (u, v) ∈ Ty.pairsOf ks z → PyData.strOk u = true ∧ PyData.strOk v = true := fun u v m => by
          have o := hk.ok _ (pairs_mem.mp m)
          exact ⟨o u (.tail _ (.head _)), o v (.tail _ (.tail _ (.head _)))⟩
        have o1 := mem p.1 p.2 (by rw [ep]; exact List.mem_cons_self)
        have o2 := mem r.1 r.2 (by rw [ep]; exact List.mem_cons_of_mem _ List.mem_cons_self)
        refine eqTs (xs := [p.1, p.2]) (ys := [r.2, r.1]) (s3 _ _ h1) e3 (fun n m => ?_) (fun n m => ?_) ?_
        · rcases List.mem_cons.mp m with rfl | m
          · exact o1.1
          · rw [List.mem_singleton.mp m]
            exact o1.2
        · rcases List.mem_cons.mp m with rfl | m
          · exact o2.2
          · rw [List.mem_singleton.mp m]
            exact o2.1
        · refine step _ _ ?_ s3
          rw [ep]
          show _ = decide (p = (r.2, r.1))
          refine decide_eq_decide.mpr ⟨fun e => ?_, fun e => by rw [e]⟩
          simp only [List.cons.injEq, and_true] at e
          exact Prod.ext e.1 e.2
      · rename_i two
        refine step _ _ ?_ (.refl h)
        have l2 : (Ty.pairsOf ks z).length ≠ 2 := by omega
        unfold okP
        split
        · rename_i e
          rw [e] at l2
          exact absurd rfl l2
        · rfl
    · rintro h ⟨p1, p2, p3, p4⟩
      rw [kd_len, List.take_length] at p4
      refine ⟨p3, ?_⟩
      have nL : L ≠ w0 := fun z => by
        rw [z, upd_same] at hL
        cases hL
      have e5 : upd h w0 (.dK (kd ls fun l => .ref (ad l))) L = some _ := (upd_ne nL).trans p4
      have s5 : Same H (upd h w0 (.dK (kd ls fun l => .ref (ad l)))) := fun b o e => (upd_ne (ne_of_none e nw0)).trans (p1 _ _ e)
      generalize upd h w0 _ = G5 at *
      repeat' (walk_at "rd")
      refine allB (.inl (.inl e5)) ?_
      refine q _ _ ?_ s5
      rw [List.all_eq_true]
      constructor
      · intro g l x y m
        exact okP_iff.mp (g _ (List.mem_map.mpr ⟨l, (lm l).mpr ⟨x, y, m⟩, rfl⟩))
      · intro g b hb
        obtain ⟨l, ml, rfl⟩ := List.mem_map.mp hb
        obtain ⟨x, y, m⟩ := (lm l).mp ml
        exact okP_iff.mpr (g l x y m)
end
end Kj
namespace Kj
open PySem PySem.Spec PyProof.Rows L2 Rd
/-! ### the stepper -/
local macro_rules | `(tactic| walk_at "hp") => `(tactic| first
  | assumption
  | exact upd_same
  | (refine Eq.trans (upd_ne (by first | assumption | (apply Ne.symm; assumption))) ?_; walk_at "hp"))
local macro_rules | `(tactic| walk_at "sq") => `(tactic| first
  | assumption
  | (refine Or.inl (Or.inl ?_); walk_at "hp"))
local macro_rules | `(tactic| walk_at "st") => `(tactic| first
  | assumption
  | (refine Or.inl (Or.inl ?_); walk_at "hp"))
local macro_rules | `(tactic| walk_at "ar") => `(tactic| first
  | assumption
  | omega
  | decide)
local macro_rules | `(tactic| walk_at "ci") => `(tactic| first
  | (refine (show CMul _ _ from Or.inr ⟨?_, ?_⟩) <;> omega)
  | (refine (show CMul _ _ from Or.inl ⟨?_, ?_⟩) <;> omega)
  | (show CPow _ _; exact ⟨by decide, by decide, by decide⟩)
  | (refine wide_div (b := 63) ?_ ?_ (by decide) (by decide) <;> omega)
  | (show (0 : Int) < _; omega))
local macro_rules | `(tactic| walk_at "ty") => `(tactic| first
  | exact dp_ty (by assumption)
  | exact TyX.base (TyOf.int _)
  | exact TyX.base (TyOf.str _)
  | exact TyX.base (TyOf.bl _)
  | exact TyX.base TyOf.non
  | exact tyL' (by walk_at "sq")
  | exact tyT' (by walk_at "st"))
local macro_rules | `(tactic| walk_at "isi") => `(tactic| first
  | ((with_reducible apply Rd.isiF); (walk_at "ty"); (decide))
  | ((with_reducible apply Rd.isiT); (walk_at "ty"); (decide)))
local macro_rules | `(tactic| walk_at "rd") => `(tactic| first
  | with_reducible apply Rd.seq
  | ((with_reducible apply Rd.var); rfl)
  | with_reducible apply Rd.con
  | with_reducible apply Rd.op
  | with_reducible apply Rd.asg
  | ((with_reducible apply Rd.gname); ((dsimp only [List.set, L2.wipe, Int.reduceToNat]) <;> rfl))
  | with_reducible apply Rd.nxt
  | with_reducible apply Rd.ifs
  | with_reducible apply Rd.test
  | with_reducible apply Rd.testB
  | with_reducible apply Rd.exbl
  | with_reducible apply Rd.ret
  | with_reducible apply Rd.drop
  | with_reducible apply Rd.retN
  | with_reducible apply Rd.nil
  | with_reducible apply Rd.cons
  | with_reducible apply Rd.call
  | with_reducible apply Rd.cb
  | with_reducible apply Rd.and
  | with_reducible apply Rd.or
  | with_reducible apply Rd.not
  | with_reducible apply Rd.andV
  | with_reducible apply Rd.orV
  | with_reducible apply Rd.notV
  | with_reducible apply Rd.ife
  | with_reducible apply Rd.tup
  | with_reducible apply Rd.lst
  | with_reducible apply Rd.un
  | with_reducible apply Rd.chain
  | with_reducible apply Rd.brk
  | with_reducible apply Rd.cnt
  | with_reducible apply Rd.I0
  | with_reducible apply Rd.U1
  | ((with_reducible apply Rd.eq); rfl)
  | ((with_reducible apply Rd.ne); rfl)
  | ((with_reducible apply Rd.I1); (walk_at "ci"))
  | with_reducible apply Rd.lc0
  | with_reducible apply Rd.ln0
  | with_reducible apply Rd.exN
  | ((with_reducible apply Rd.iteSf); (decide +kernel))
  | ((with_reducible apply Rd.iteSt); (decide +kernel))
  | ((with_reducible apply Rd.niQ); (exact Or.inl (by walk_at "sq")); (exact ⟨rfl, rfl⟩); (rfl))
  | ((with_reducible apply Rd.inQ); (exact Or.inl (by walk_at "sq")); (exact ⟨rfl, rfl⟩); (rfl))
  | with_reducible apply Rd.rn1
  | with_reducible apply Rd.in1
  | with_reducible apply Rd.sn1
  | with_reducible apply Rd.bn1
  | with_reducible apply Rd.nn1
  | with_reducible apply Rd.rn2
  | with_reducible apply Rd.in2
  | with_reducible apply Rd.sn2
  | with_reducible apply Rd.bn2
  | with_reducible apply Rd.nn2
  | with_reducible apply Rd.nt1
  | with_reducible apply Rd.nf1
  | (with_reducible refine Rd.iteI (fun _ => ?_) (fun _ => ?_))
  | (with_reducible refine Rd.iteNI (fun _ => ?_) (fun _ => ?_))
  | (with_reducible refine iteT ?_)
  | (with_reducible refine iteF ?_)
  | (with_reducible refine Rd.iteD (fun _ => ?_) (fun _ => ?_))
  | (with_reducible refine Rd.iteN (fun _ => ?_) (fun _ => ?_))
  | with_reducible apply Rd.intI
  | with_reducible apply Rd.intB
  | with_reducible apply Rd.maxQ
  | with_reducible apply Rd.minQ
  | with_reducible apply Rd.absQ
  | with_reducible apply Rd.isN
  | with_reducible apply Rd.noN
  | with_reducible apply Rd.ltZ
  | with_reducible apply Rd.bm
  | with_reducible apply Rd.bm0
  | with_reducible apply Rd.par
  | with_reducible apply Rd.expar
  | with_reducible apply Rd.exint
  | with_reducible apply Rd.ipi
  | with_reducible apply Rd.slice
  | with_reducible apply Rd.noPart
  | with_reducible apply Rd.part
  | with_reducible apply Rd.gcons
  | with_reducible apply Rd.gnil
  | with_reducible apply Rd.iseq
  | with_reducible apply Rd.irng1
  | walk_at "isi"
  | with_reducible apply Rd.forX
  | with_reducible apply Rd.lstRev
  | with_reducible apply Rd.lstRg
  | with_reducible apply Rd.rg1
  | with_reducible apply Rd.rg2
  | with_reducible apply Rd.exint2
  | ((with_reducible apply Rd.exrev); (walk_at "sq"))
  | with_reducible apply Rd.lcX
  | with_reducible apply Rd.yes
  | ((with_reducible apply Rd.exrng1); (constructor <;> omega))
  | ((with_reducible apply Rd.exrng2); (refine ⟨?_, ?_, ?_, ?_⟩ <;> omega))
  | with_reducible apply Rd.irng2
  | ((with_reducible apply Rd.aug); rfl)
  | ((with_reducible apply Rd.exlst); (walk_at "sq"))
  | ((with_reducible apply Rd.gtup); (walk_at "st"); (rfl))
  | ((with_reducible apply Rd.tyL); (walk_at "hp"))
  | ((with_reducible apply Rd.ixL); (walk_at "sq"); (rfl))
  | ((with_reducible apply Rd.ixI); (walk_at "sq"); (omega); (first | assumption | (simp only [List.length_map]; omega)); (intro _ _))
  | (with_reducible refine Rd.gsub ?_)
  | ((with_reducible apply Rd.setL); (walk_at "hp"); (rfl); ((dsimp only [List.set, L2.wipe, Int.reduceToNat]) <;> rfl))
  | ((with_reducible apply Rd.lenQ); (first | exact Or.inl (by walk_at "sq") | exact Or.inr (by walk_at "st")))
  | ((with_reducible apply Rd.listQ); (first | exact Or.inl (by walk_at "sq") | exact Or.inr (by walk_at "st")))
  | ((with_reducible apply Rd.tupQ); (walk_at "sq"))
  | ((with_reducible apply Rd.slL); (walk_at "sq"))
  | ((with_reducible apply Rd.ixT); (walk_at "st"); (rfl))
  | (with_reducible refine Rd.iteB (fun _ => ?_) (fun _ => ?_))
  | (with_reducible refine Rd.iteNB (fun _ => ?_) (fun _ => ?_))
  | (refine Rd.andI (Nat.le_of_ble_eq_true rfl) ?_)
  | dsimp only [List.set])
local macro_rules | `(tactic| walk_at "hp") => `(tactic| first
  | assumption
  | exact upd_same
  | (refine Eq.trans (upd_ne (by first | assumption | (apply Ne.symm; assumption))) ?_; walk_at "hp")
  | (refine hpS (by assumption) ?_; walk_at "hp"))
local macro_rules | `(tactic| walk_at "al") => `(tactic| (with_reducible intro l hl; generalize hG : upd _ l _ = G; have hs := newOne hl hG; clear hG; obtain ⟨hs, he⟩ := hs))
local macro_rules | `(tactic| walk_at "rd") => `(tactic| first
  | walk_at "al"
  | ((with_reducible apply Rd.cat); (walk_at "hp"); (walk_at "hp"); (exact Nat.le_of_ble_eq_true rfl)))
local macro_rules | `(tactic| walk_at "sm") => `(tactic| first
  | assumption
  | exact Same.refl _
  | (refine Same.trans ?_ (by assumption); walk_at "sm"))
local macro_rules | `(tactic| walk_at "fr") => `(tactic| first
  | assumption
  | (refine Same.free (by assumption) ?_; walk_at "fr"))
local macro_rules | `(tactic| walk_at "ty") => `(tactic| first
  | exact dv_ty (by assumption)
  | exact tyD' (by walk_at "hp"))
local macro_rules | `(tactic| walk_at "sz") => `(tactic| first
  | exact sz5 (by omega)
  | (simp only [add_len, one_len]; exact sz5 (by omega)))
local macro_rules | `(tactic| walk_at "rd") => `(tactic| first
  | with_reducible apply Rd.istr
  | with_reducible apply Rd.exstr
  | with_reducible apply Rd.leA
  | with_reducible apply Rd.leZz
  | with_reducible apply Rd.le0
  | with_reducible apply Rd.le9
  | with_reducible apply Rd.niZ
  | ((with_reducible apply Rd.lenZ); (walk_at "sz"))
  | ((with_reducible apply Rd.slZ); (walk_at "sz"))
  | ((with_reducible apply Rd.addZ); (walk_at "sz"))
  | with_reducible apply Rd.raiseX
  | with_reducible apply Rd.exone
  | with_reducible apply Rd.callS
  | with_reducible apply Rd.callP
  | with_reducible apply Rd.xsX
  | with_reducible apply Rd.dnewX
  | with_reducible apply Rd.tyZ)
/-! ### in, of dicts with text keys -/
section
variable {P : Program} {w : World} {K : PySem.W.Frag} {mg : Str → Option Value} {base : Heap} {D : Str → Addr}
theorem dinX {td : TE} {σ : L2.St} {ty : TE} {H : Hp} {Q : VK} (h : ty σ H fun y H1 => td σ H1 fun x H2 => ∃ a o, x = .ref a ∧ DGet H2 a y o ∧ Q (.bl o.isSome) H2) : tDIn ty td σ H Q := h
theorem dinK {H : Hp} {Q : VK} {a : Addr} {ks : List Str} {f : Str → V} {z : Str} (h : H a = some (.dK (kd ks f))) (q : Q (.bl (decide (z ∈ ks))) H) : ∃ a' o, V.ref a = .ref a' ∧ DGet H a' (.str z) o ∧ Q (.bl o.isSome) H := by
  by_cases m : z ∈ ks
  · exact ⟨a, _, rfl, .inl ⟨_, Sum.inr z, .inl h, rfl, (kd_get m).symm⟩, by rw [decide_eq_true m] at q; exact q⟩
  · exact ⟨a, _, rfl, .inl ⟨_, Sum.inr z, .inl h, rfl, (kd_none m).symm⟩, by rw [decide_eq_false m] at q; exact q⟩
theorem dinB {H : Hp} {P' : Bool → Prop} {a : Addr} {ks : List Str} {f : Str → V} {z : Str} (h : H a = some (.dK (kd ks f))) (q : P' (decide (z ∈ ks))) : ∃ a' o, V.ref a = .ref a' ∧ DGet H a' (.str z) o ∧ ∃ k, V.bl o.isSome = V.bl k ∧ P' k := by
  by_cases m : z ∈ ks
  · exact ⟨a, _, rfl, .inl ⟨_, Sum.inr z, .inl h, rfl, (kd_get m).symm⟩, _, rfl, by rw [decide_eq_true m] at q; exact q⟩
  · exact ⟨a, _, rfl, .inl ⟨_, Sum.inr z, .inl h, rfl, (kd_none m).symm⟩, _, rfl, by rw [decide_eq_false m] at q; exact q⟩
end
/-! ### is_tour of a tour -/
open Ty
section
variable {P : Program} {w : World} {K : PySem.W.Frag} {mg : Str → Option Value} {base : Heap} {D : Str → Addr}
theorem nm_of {k : Ky} {ks : List Ky} (h : T ks) (m : k ∈ ks) : (isH k || isA k) = true ∧ (isA k = true ↔ ∃ l x y, k = .a l x y) ∧ (isH k = true ↔ ∃ x, k = .h x) ∧ SzK k := by
  have n := h.nm k m
  refine ⟨?_, ?_, ?_, fun z hz => nm_sz (n z hz)⟩
  all_goals cases k with
    | h x =>
      have : nmB x = true := nm_b (n x List.mem_cons_self)
      simp [isH, isA, this]
    | a l x y =>
      have n1 : nmB l = true := nm_b (n l (.head _))
      have n2 : nmB x = true := nm_b (n x (.tail _ (.head _)))
      have n3 : nmB y = true := nm_b (n y (.tail _ (.tail _ (.head _))))
      have ne := h.ne l x y m
      simp [isH, isA, n1, n2, n3, ne]
theorem kvs_filter {H : Hp} (p : Ky → Bool) : ∀ {vs : List V} {ks : List Ky}, KVs H vs ks → KVs H ((List.range vs.length).filterMap fun i => ks[i]?.bind fun k => if p k = true then vs[i]? else none) (ks.filter p)
  | [], [], _ => trivial
  | v :: vs, k :: ks, h => by
    have ih := kvs_filter p h.2
    rw [List.length_cons, List.range_succ_eq_map, List.filterMap_cons, List.filterMap_map]
    have e : (fun i => ((k :: ks)[i]?.bind fun k => if p k = true then (v :: vs)[i]? else none)) ∘ Nat.succ = fun i => ks[i]?.bind fun k => if p k = true then vs[i]? else none := funext fun i => by simp
    rw [e]
    simp only [List.getElem?_cons_zero, Option.bind_some]
    by_cases c : p k = true
    · rw [if_pos c, List.filter_cons_of_pos c]
      exact ⟨h.1, ih⟩
    · rw [if_neg c, List.filter_cons_of_neg c]
      exact ih
  | [], _ :: _, h => h.elim
  | _ :: _, [], h => h.elim
theorem asOf_filter {p : Ky → Bool} : ∀ {ks : List Ky}, (∀ k ∈ ks, p k = true ↔ ∃ l x y, k = .a l x y) → asOf (ks.filter p) = asOf ks ∧ (ks.filter p).length = (asOf ks).length
  | [], _ => ⟨rfl, rfl⟩
  | k :: ks, h => by
    have ih := asOf_filter (ks := ks) fun k m => h k (List.mem_cons_of_mem _ m)
    have hk := h k List.mem_cons_self
    cases k with
    | h x =>
      rw [List.filter_cons_of_neg (by rw [hk]; rintro ⟨l, u, v, e⟩; cases e)]
      exact ih
    | a l x y =>
      rw [List.filter_cons_of_pos (hk.mpr ⟨l, x, y, rfl⟩)]
      exact ⟨congrArg ((l, x, y) :: ·) ih.1, congrArg (· + 1) ih.2⟩
theorem ok_is_tour (F : Def K mg "is_tour" s_is_tour P_is_tour) (m_len : mg "len" = none) (m_all : mg "all" = none) (C_is_house_key : Cal P w K mg base 2 "is_house_key" P_is_house_key spIsHK) (C_is_arc_key : Cal P w K mg base 2 "is_arc_key" P_is_arc_key spIsAK) (C_is_paired : Cal P w K mg base 3 "is_paired" P_is_paired spPaired) (C_is_round : Cal P w K mg base 3 "is_round" P_is_round spRound) : Cal P w K mg base 4 "is_tour" P_is_tour spIsTour := by
  refine F.ok sc_is_tour (fun vs H Q E h => ?_) (fun f cdv A outer s H vs Q E hr h => ?_)
  · obtain ⟨a, ks, rfl, _⟩ := h
    rfl
  obtain ⟨a, ks, rfl, hk, ht, hl, q⟩ := h
  refine ⟨_, (pss_cons (ps_if (PW.pt (pw_or (pt_cmpR op_eq (pe_callB q_len (by rfl) m_len PySem.boot_len (pa_cons (pv 0 (hd := nd_keys) (hcd := nc_keys)) pa_nil) (hn := nn_len) (hdb := nd_len)) pe_int (nomark _)) (pw_or1 (pt_not (pt_val (pe_callB (cr_allK (K := K) rfl rfl) (by rfl) m_all bb_all (pa_cons (pe_lc (own := [("key", 3)]) (by rfl) sc_is_tour.nd (pi_list (pv 0 (hd := nd_keys) (hcd := nc_keys))) (blkOk_by (N := N_is_tour) (sc := defScope s_is_tour) (by decide +kernel)) (fun _ _ _ _ _ => (pg_name (i := 3) sc_is_tour.nd rfl (Or.inl rfl))) (fun _ _ _ _ _ => pts_nil) (fun _ _ _ _ _ => (pe_or (pe_cal C_is_house_key hr (pa_cons (pv 3 (hd := nd_key) (hcd := nc_key)) pa_nil) (hdb := nd_is_house_key)) (pe_one (pe_cal C_is_arc_key hr (pa_cons (pv 3 (hd := nd_key) (hcd := nc_key)) pa_nil) (hdb := nd_is_arc_key)))))) pa_nil) (hn := nn_all) (hdb := nd_all))))))) (pss_one (ps_ret pe_bl)) pss_nil)
  (pss_cons (ps_setLc (i := 1) (own := [("key", 3)]) (by rfl) sc_is_tour.nd rfl rfl (sw_true rfl rfl rfl (by decide +kernel)) (pi_list (pv 0 (hd := nd_keys) (hcd := nc_keys))) (blkOk_by (N := N_is_tour) (sc := defScope s_is_tour) (by decide +kernel)) (fun _ _ _ _ _ => (pg_name (i := 3) sc_is_tour.nd rfl (Or.inl rfl))) (fun _ _ _ _ _ => (pts_one (pt_val (pe_cal C_is_arc_key hr (pa_cons (pv 3 (hd := nd_key) (hcd := nc_key)) pa_nil) (hdb := nd_is_arc_key))))) (fun _ _ _ _ _ => (pv 3 (hd := nd_key) (hcd := nc_key))))
  (pss_cons (ps_set (i := 2) sc_is_tour.nd rfl (Or.inr rfl) (pe_dc (own := [("key", 3)]) (by rfl) sc_is_tour.nd (pi_list (pv 0 (hd := nd_keys) (hcd := nc_keys))) (blkOk_by (N := N_is_tour) (sc := defScope s_is_tour) (by decide +kernel)) (fun _ _ _ _ _ => (pg_name (i := 3) sc_is_tour.nd rfl (Or.inl rfl))) (fun _ _ _ _ _ => (pts_one (pt_val (pe_cal C_is_house_key hr (pa_cons (pv 3 (hd := nd_key) (hcd := nc_key)) pa_nil) (hdb := nd_is_house_key))))) (fun _ _ _ _ _ => (pe_ix (ix_tupK (K := K) rfl) (pv 3 (hd := nd_key) (hcd := nc_key)) pe_int (fun _ _ => rfl))) (fun _ _ _ _ _ => pe_bl)))
  (pss_cons (ps_if (PW.pt (pw_or (pt_cmpR op_ne (pe_callB q_len (by rfl) m_len PySem.boot_len (pa_cons (pv 0 (hd := nd_keys) (hcd := nc_keys)) pa_nil) (hn := nn_len) (hdb := nd_len)) (pe_op op_add (pe_callB (q_lenAK (K := K) rfl) (by rfl) m_len PySem.boot_len (pa_cons (pv 2 (hd := nd_houses) (hcd := nc_houses)) pa_nil) (hn := nn_len) (hdb := nd_len)) (pe_callB q_len (by rfl) m_len PySem.boot_len (pa_cons (pv 1 (hd := nd_arcs) (hcd := nc_arcs)) pa_nil) (hn := nn_len) (hdb := nd_len))) (nomark _)) (pw_or1 (pt_not (pt_val (pe_callB (cr_allK (K := K) rfl rfl) (by rfl) m_all bb_all (pa_cons (pe_lc (own := [("key", 3)]) (by rfl) sc_is_tour.nd (pi_list (pv 1 (hd := nd_arcs) (hcd := nc_arcs))) (blkOk_by (N := N_is_tour) (sc := defScope s_is_tour) (by decide +kernel)) (fun _ _ _ _ _ => (pg_name (i := 3) sc_is_tour.nd rfl (Or.inl rfl))) (fun _ _ _ _ _ => pts_nil) (fun _ _ _ _ _ => (pe_cmp (pc_din (un1 hr) (pe_ix (ix_tupK (K := K) rfl) (pv 3 (hd := nd_key) (hcd := nc_key)) pe_int (fun _ _ => rfl)) (pv 2 (hd := nd_houses) (hcd := nc_houses)))))) pa_nil) (hn := nn_all) (hdb := nd_all))))))) (pss_one (ps_ret pe_bl)) pss_nil)
  (pss_one (ps_ret (pe_and (pe_cal C_is_paired hr (pa_cons (pv 1 (hd := nd_arcs) (hcd := nc_arcs)) pa_nil) (hdb := nd_is_paired)) (pe_and (pe_cmpR op_eq (pe_op op_mul pe_int (pe_callB (q_lenAK (K := K) rfl) (by rfl) m_len PySem.boot_len (pa_cons (pv 2 (hd := nd_houses) (hcd := nc_houses)) pa_nil) (hn := nn_len) (hdb := nd_len))) (pe_op op_add (pe_callB q_len (by rfl) m_len PySem.boot_len (pa_cons (pv 1 (hd := nd_arcs) (hcd := nc_arcs)) pa_nil) (hn := nn_len) (hdb := nd_len)) pe_int) (nomark _)) (pe_one (pe_cal C_is_round hr (pa_cons (pv 0 (hd := nd_keys) (hcd := nc_keys)) pa_nil) (hdb := nd_is_round))))))))))), ?_⟩
  refine Rd.at0 (σ := [some (.ref a), none, none, none]) rfl ?_
  obtain ⟨vs, ea, kvs, lv⟩ := kl_len hk
  have pos := ht.pos
  repeat' (walk_at "rd")
  · rename_i z
    exfalso
    omega
  have sz := hl
  have kat : ∀ {h : Hp} {i : Nat} {v : V}, vs[i]? = some v → Same H h → ∃ k, ks[i]? = some k ∧ KV h v k ∧ k ∈ ks := fun {h i v} e s => by
    obtain ⟨k, hk, kv'⟩ := kvs.at e
    exact ⟨k, hk, kv'.same s, List.mem_of_getElem? hk⟩
  refine lcF vs (fun _ => some (.bl true)) (.inl (.inl ea)) (by omega) (fun i v h hv s => ?_) fun L1 G1 n1 s1 e1 => ?_
  · intro L Nx yes no
    obtain ⟨k, ek, kv', mk⟩ := kat hv s
    obtain ⟨o1, o2, o3, z1⟩ := nm_of ht mk
    refine turn1 ?_
    repeat' (walk_at "rd")
    refine ⟨rfl, ?_⟩
    repeat' (walk_at "rd")
    refine ⟨v, k, rfl, kv', z1, fun H2 s2 => ?_⟩
    refine exbl ?_
    refine iteB (fun c => ?_) (fun c => ?_)
    · exact yes _ _ rfl s2
    · repeat' (walk_at "rd")
      refine ⟨v, k, rfl, kv'.same s2, z1, fun H3 s3 => ?_⟩
      rw [c, Bool.false_or] at o1
      rw [o1]
      exact yes _ _ rfl (s2.trans s3)
  rw [fm_true] at e1
  repeat' (walk_at "rd")
  refine allB (.inl (.inl e1)) ?_
  rw [all_true]
  refine exbl ?_
  repeat' (walk_at "rd")
  have ea1 := s1 _ _ ea
  refine lcF vs (fun i => ks[i]?.bind fun k => if isA k = true then vs[i]? else none) (.inl (.inl ea1)) (by omega) (fun i v h hv s => ?_) fun L2 G2 n2 s2 e2 => ?_
  · intro L Nx yes no
    obtain ⟨k, ek, kv', mk⟩ := kat hv (s1.trans s)
    obtain ⟨o1, o2, o3, z1⟩ := nm_of ht mk
    have ei : (ks[i]?.bind fun k => if isA k = true then vs[i]? else none) = if isA k = true then some v else none := by rw [ek, hv]; rfl
    refine turn1 ?_
    repeat' (walk_at "rd")
    refine ⟨rfl, ?_⟩
    repeat' (walk_at "rd")
    refine ⟨v, k, rfl, kv', z1, fun H2 s2 => ?_⟩
    refine exbl ?_
    refine iteB (fun c => ?_) (fun c => ?_)
    · repeat' (walk_at "rd")
      exact yes _ _ (by rw [ei, if_pos c]) s2
    · exact no _ (by rw [ei, if_neg (by rw [c]; exact Bool.false_ne_true)]) s2
  have a2 := s1.trans s2
  have k2 := kvs_filter isA (kvs.same a2)
  have ea2 := a2 _ _ ea
  obtain ⟨as1, as2⟩ := asOf_filter (p := isA) (ks := ks) fun k m => (nm_of ht m).2.1
  have hs : ks.filterMap hS = hsOf ks := rfl
  have nd := hs_nodup ht.nd
  repeat' (walk_at "rd")
  refine Rd.dcX ?_
  repeat' (walk_at "rd")
  refine dcF vs (fun i => ks[i]?.bind hS) (.bl true) (.inl (.inl ea2)) (by omega) ?_ (fun i v h hv s => ?_) fun L3 G3 n3 s3 e3 => ?_
  · rw [lv, fm_at (f := hS) (xs := ks) fun i h => by rw [List.getElem?_eq_getElem h]; rfl]
    exact nd
  · intro L Nx yes no
    obtain ⟨k, ek, kv', mk⟩ := kat hv (a2.trans s)
    obtain ⟨o1, o2, o3, z1⟩ := nm_of ht mk
    have ei : (ks[i]?.bind hS) = hS k := by rw [ek]; rfl
    repeat' (walk_at "rd")
    refine ⟨rfl, ?_⟩
    repeat' (walk_at "rd")
    refine ⟨v, k, rfl, kv', z1, fun H2 s2 => ?_⟩
    refine exbl ?_
    refine iteB (fun c => ?_) (fun c => ?_)
    · obtain ⟨x, rfl⟩ := o3.mp c
      obtain ⟨_, t, rfl, ht'⟩ := kv'.same s2
      have ht' : H2 t = some (.tup [.str "house", .str x]) := ht'
      repeat' (walk_at "rd")
      exact yes _ _ ei s2
    · refine no _ ?_ s2
      rw [ei]
      cases k with
      | h x => exact absurd (o3.mpr ⟨x, rfl⟩) (by rw [c]; exact Bool.false_ne_true)
      | a l x y => rfl
  rw [lv, fm_at (f := hS) (xs := ks) (fun i h => by rw [List.getElem?_eq_getElem h]; rfl), hs] at e3
  have a3 := a2.trans s3
  have ea3 := a3 _ _ ea
  have e23 := s3 _ _ e2
  have k3 := k2.same s3
  have len2 := KVs.len k2
  have cnt := hs_as_len ks
  have c2 := ht.cnt
  repeat' (walk_at "rd")
  refine lenAd e3 ?_
  rw [kd_len]
  repeat' (walk_at "rd")
  · exfalso
    omega
  refine lcF _ (fun _ => some (.bl true)) (.inl (.inl e23)) (by omega) (fun i v h hv s => ?_) fun L4 G4 n4 s4 e4 => ?_
  · intro L Nx yes no
    obtain ⟨k, ek, kv'⟩ := (k3.same s).at hv
    have mk := List.mem_filter.mp (List.mem_of_getElem? ek)
    obtain ⟨l, x, y, rfl⟩ := (nm_of ht mk.1).2.1.mp mk.2
    obtain ⟨_, t, rfl, ht'⟩ := kv'
    have ht' : h t = some (.tup [.str "arc", .str l, .str x, .str y]) := ht'
    have e3' := s _ _ e3
    have mx : x ∈ hsOf ks := hs_mem.mpr (ht.hs l x y mk.1)
    refine turn1 ?_
    repeat' (walk_at "rd")
    refine ⟨rfl, ?_⟩
    repeat' (walk_at "rd")
    refine dinX ?_
    repeat' (walk_at "rd")
    refine dinK (Q := fun v h => ∃ out, h L = some (.lst out) ∧ out.length < sizeLine ∧ Nx (upd h L (.lst (out ++ [v])))) e3' ?_
    rw [decide_eq_true mx]
    exact yes _ _ rfl (.refl h)
  rw [fm_true] at e4
  repeat' (walk_at "rd")
  refine allB (.inl (.inl e4)) ?_
  rw [all_true]
  refine exbl ?_
  have a4 := a3.trans s4
  have e34 := s4 _ _ e3
  have e24 := s4 _ _ e23
  repeat' (walk_at "rd")
  refine ⟨L2, ks.filter isA, rfl, ⟨_, e24, k3.same s4⟩, by omega, fun k m => ?_, fun b G5 hb s5 => ?_⟩
  · exact (nm_of ht (List.mem_filter.mp m).1).2.1.mp (List.mem_filter.mp m).2
  have hb := hb.mpr fun l x y m => by
    have m' := (List.mem_filter.mp m).1
    obtain ⟨u, v, e, _⟩ := ht.pairs m'
    refine ⟨u, v, ?_⟩
    have : Ty.pairsOf (ks.filter isA) l = Ty.pairsOf ks l := by
      unfold Ty.pairsOf
      rw [as1]
    rw [this, e]
  subst hb
  have e35 := s5 _ _ e34
  have e25 := s5 _ _ e24
  have a5 := a4.trans s5
  repeat' (walk_at "rd")
  refine lenAd e35 ?_
  rw [kd_len]
  repeat' (walk_at "rd")
  · obtain ⟨z, hz⟩ := ht.cyc
    exact ⟨a, ks, z, rfl, hk.same a5, hl, hz, fun H6 s6 => q H6 (a5.trans s6)⟩
  · rename_i c
    exfalso
    apply c
    omega
end
end Kj
namespace Kj
open PySem PySem.Spec PyProof.Rows L2 Rd
/-! ### the stepper -/
local macro_rules | `(tactic| walk_at "hp") => `(tactic| first
  | assumption
  | exact upd_same
  | (refine Eq.trans (upd_ne (by first | assumption | (apply Ne.symm; assumption))) ?_; walk_at "hp"))
local macro_rules | `(tactic| walk_at "sq") => `(tactic| first
  | assumption
  | (refine Or.inl (Or.inl ?_); walk_at "hp"))
local macro_rules | `(tactic| walk_at "st") => `(tactic| first
  | assumption
  | (refine Or.inl (Or.inl ?_); walk_at "hp"))
local macro_rules | `(tactic| walk_at "ar") => `(tactic| first
  | assumption
  | omega
  | decide)
local macro_rules | `(tactic| walk_at "ci") => `(tactic| first
  | (refine (show CMul _ _ from Or.inr ⟨?_, ?_⟩) <;> omega)
  | (refine (show CMul _ _ from Or.inl ⟨?_, ?_⟩) <;> omega)
  | (show CPow _ _; exact ⟨by decide, by decide, by decide⟩)
  | (refine wide_div (b := 63) ?_ ?_ (by decide) (by decide) <;> omega)
  | (show (0 : Int) < _; omega))
local macro_rules | `(tactic| walk_at "ty") => `(tactic| first
  | exact dp_ty (by assumption)
  | exact TyX.base (TyOf.int _)
  | exact TyX.base (TyOf.str _)
  | exact TyX.base (TyOf.bl _)
  | exact TyX.base TyOf.non
  | exact tyL' (by walk_at "sq")
  | exact tyT' (by walk_at "st"))
local macro_rules | `(tactic| walk_at "isi") => `(tactic| first
  | ((with_reducible apply Rd.isiF); (walk_at "ty"); (decide))
  | ((with_reducible apply Rd.isiT); (walk_at "ty"); (decide)))
local macro_rules | `(tactic| walk_at "rd") => `(tactic| first
  | with_reducible apply Rd.seq
  | ((with_reducible apply Rd.var); rfl)
  | with_reducible apply Rd.con
  | with_reducible apply Rd.op
  | with_reducible apply Rd.asg
  | ((with_reducible apply Rd.gname); ((dsimp only [List.set, L2.wipe, Int.reduceToNat]) <;> rfl))
  | with_reducible apply Rd.nxt
  | with_reducible apply Rd.ifs
  | with_reducible apply Rd.test
  | with_reducible apply Rd.testB
  | with_reducible apply Rd.exbl
  | with_reducible apply Rd.ret
  | with_reducible apply Rd.drop
  | with_reducible apply Rd.retN
  | with_reducible apply Rd.nil
  | with_reducible apply Rd.cons
  | with_reducible apply Rd.call
  | with_reducible apply Rd.cb
  | with_reducible apply Rd.and
  | with_reducible apply Rd.or
  | with_reducible apply Rd.not
  | with_reducible apply Rd.andV
  | with_reducible apply Rd.orV
  | with_reducible apply Rd.notV
  | with_reducible apply Rd.ife
  | with_reducible apply Rd.tup
  | with_reducible apply Rd.lst
  | with_reducible apply Rd.un
  | with_reducible apply Rd.chain
  | with_reducible apply Rd.brk
  | with_reducible apply Rd.cnt
  | with_reducible apply Rd.I0
  | with_reducible apply Rd.U1
  | ((with_reducible apply Rd.eq); rfl)
  | ((with_reducible apply Rd.ne); rfl)
  | ((with_reducible apply Rd.I1); (walk_at "ci"))
  | with_reducible apply Rd.lc0
  | with_reducible apply Rd.ln0
  | with_reducible apply Rd.exN
  | ((with_reducible apply Rd.iteSf); (decide +kernel))
  | ((with_reducible apply Rd.iteSt); (decide +kernel))
  | ((with_reducible apply Rd.niQ); (exact Or.inl (by walk_at "sq")); (exact ⟨rfl, rfl⟩); (rfl))
  | ((with_reducible apply Rd.inQ); (exact Or.inl (by walk_at "sq")); (exact ⟨rfl, rfl⟩); (rfl))
  | with_reducible apply Rd.rn1
  | with_reducible apply Rd.in1
  | with_reducible apply Rd.sn1
  | with_reducible apply Rd.bn1
  | with_reducible apply Rd.nn1
  | with_reducible apply Rd.rn2
  | with_reducible apply Rd.in2
  | with_reducible apply Rd.sn2
  | with_reducible apply Rd.bn2
  | with_reducible apply Rd.nn2
  | with_reducible apply Rd.nt1
  | with_reducible apply Rd.nf1
  | (with_reducible refine Rd.iteI (fun _ => ?_) (fun _ => ?_))
  | (with_reducible refine Rd.iteNI (fun _ => ?_) (fun _ => ?_))
  | (with_reducible refine iteT ?_)
  | (with_reducible refine iteF ?_)
  | (with_reducible refine Rd.iteD (fun _ => ?_) (fun _ => ?_))
  | (with_reducible refine Rd.iteN (fun _ => ?_) (fun _ => ?_))
  | with_reducible apply Rd.intI
  | with_reducible apply Rd.intB
  | with_reducible apply Rd.maxQ
  | with_reducible apply Rd.minQ
  | with_reducible apply Rd.absQ
  | with_reducible apply Rd.isN
  | with_reducible apply Rd.noN
  | with_reducible apply Rd.ltZ
  | with_reducible apply Rd.bm
  | with_reducible apply Rd.bm0
  | with_reducible apply Rd.par
  | with_reducible apply Rd.expar
  | with_reducible apply Rd.exint
  | with_reducible apply Rd.ipi
  | with_reducible apply Rd.slice
  | with_reducible apply Rd.noPart
  | with_reducible apply Rd.part
  | with_reducible apply Rd.gcons
  | with_reducible apply Rd.gnil
  | with_reducible apply Rd.iseq
  | with_reducible apply Rd.irng1
  | walk_at "isi"
  | with_reducible apply Rd.forX
  | with_reducible apply Rd.lstRev
  | with_reducible apply Rd.lstRg
  | with_reducible apply Rd.rg1
  | with_reducible apply Rd.rg2
  | with_reducible apply Rd.exint2
  | ((with_reducible apply Rd.exrev); (walk_at "sq"))
  | with_reducible apply Rd.lcX
  | with_reducible apply Rd.yes
  | ((with_reducible apply Rd.exrng1); (constructor <;> omega))
  | ((with_reducible apply Rd.exrng2); (refine ⟨?_, ?_, ?_, ?_⟩ <;> omega))
  | with_reducible apply Rd.irng2
  | ((with_reducible apply Rd.aug); rfl)
  | ((with_reducible apply Rd.exlst); (walk_at "sq"))
  | ((with_reducible apply Rd.gtup); (walk_at "st"); (rfl))
  | ((with_reducible apply Rd.tyL); (walk_at "hp"))
  | ((with_reducible apply Rd.ixL); (walk_at "sq"); (rfl))
  | ((with_reducible apply Rd.ixI); (walk_at "sq"); (omega); (first | assumption | (simp only [List.length_map]; omega)); (intro _ _))
  | (with_reducible refine Rd.gsub ?_)
  | ((with_reducible apply Rd.setL); (walk_at "hp"); (rfl); ((dsimp only [List.set, L2.wipe, Int.reduceToNat]) <;> rfl))
  | ((with_reducible apply Rd.lenQ); (first | exact Or.inl (by walk_at "sq") | exact Or.inr (by walk_at "st")))
  | ((with_reducible apply Rd.listQ); (first | exact Or.inl (by walk_at "sq") | exact Or.inr (by walk_at "st")))
  | ((with_reducible apply Rd.tupQ); (walk_at "sq"))
  | ((with_reducible apply Rd.slL); (walk_at "sq"))
  | ((with_reducible apply Rd.ixT); (walk_at "st"); (rfl))
  | (with_reducible refine Rd.iteB (fun _ => ?_) (fun _ => ?_))
  | (with_reducible refine Rd.iteNB (fun _ => ?_) (fun _ => ?_))
  | (refine Rd.andI (Nat.le_of_ble_eq_true rfl) ?_)
  | dsimp only [List.set])
local macro_rules | `(tactic| walk_at "hp") => `(tactic| first
  | assumption
  | exact upd_same
  | (refine Eq.trans (upd_ne (by first | assumption | (apply Ne.symm; assumption))) ?_; walk_at "hp")
  | (refine hpS (by assumption) ?_; walk_at "hp"))
local macro_rules | `(tactic| walk_at "al") => `(tactic| (with_reducible intro l hl; generalize hG : upd _ l _ = G; have hs := newOne hl hG; clear hG; obtain ⟨hs, he⟩ := hs))
local macro_rules | `(tactic| walk_at "rd") => `(tactic| first
  | walk_at "al"
  | ((with_reducible apply Rd.cat); (walk_at "hp"); (walk_at "hp"); (exact Nat.le_of_ble_eq_true rfl)))
local macro_rules | `(tactic| walk_at "sm") => `(tactic| first
  | assumption
  | exact Same.refl _
  | (refine Same.trans ?_ (by assumption); walk_at "sm"))
local macro_rules | `(tactic| walk_at "fr") => `(tactic| first
  | assumption
  | (refine Same.free (by assumption) ?_; walk_at "fr"))
local macro_rules | `(tactic| walk_at "ty") => `(tactic| first
  | exact dv_ty (by assumption)
  | exact tyD' (by walk_at "hp"))
local macro_rules | `(tactic| walk_at "sz") => `(tactic| first
  | exact sz5 (by omega)
  | (simp only [add_len, one_len]; exact sz5 (by omega)))
local macro_rules | `(tactic| walk_at "rd") => `(tactic| first
  | with_reducible apply Rd.istr
  | with_reducible apply Rd.exstr
  | with_reducible apply Rd.leA
  | with_reducible apply Rd.leZz
  | with_reducible apply Rd.le0
  | with_reducible apply Rd.le9
  | with_reducible apply Rd.niZ
  | ((with_reducible apply Rd.lenZ); (walk_at "sz"))
  | ((with_reducible apply Rd.slZ); (walk_at "sz"))
  | ((with_reducible apply Rd.addZ); (walk_at "sz"))
  | with_reducible apply Rd.raiseX
  | with_reducible apply Rd.exone
  | with_reducible apply Rd.callS
  | with_reducible apply Rd.callP
  | with_reducible apply Rd.xsX
  | with_reducible apply Rd.dnewX
  | with_reducible apply Rd.tyZ)
/-- over a tuple -/
theorem lcTw {K : PySem.W.Frag} {a : Addr} {g : TG} {tt : L2.TT} {te : TE} {vs : List Nat} {σ : L2.St} {H : Hp} {Q : VK} (xs : List V) (fs : Nat → Option V) (ha : SqT K H a xs) (hz : xs.length ≤ 100000)
    (hs : ∀ i x h, xs[i]? = some x → Same H h → TurnW g tt te vs σ (fs i) x h h)
    (hd : ∀ L G, H L = none → Same H G → G L = some (.lst ((List.range xs.length).filterMap fs)) → Q (.ref L) G) : LcB (Itt K a) g tt te vs σ H Q :=
  lcW walk_tup fs hz (fun h s => sqT_same s ha) (fun i x h h' _ s y => by
    obtain ⟨rfl, e⟩ := y
    exact hs i x h' e s) hd
/-! ### the law's own judge of a tour -/
open Ty
section
variable {P : Program} {w : World} {K : PySem.W.Frag} {mg : Str → Option Value} {base : Heap} {D : Str → Addr}
theorem slT {H : Hp} {Q : VK} {p : Addr} {xs : List V} {lo hi : Option Int} (h : SqT K H p xs) (n : ¬ (HT.sIx xs.length 0 lo = 0 ∧ HT.sIx xs.length xs.length hi = xs.length)) (q : ∀ p, H p = none → Q (.ref p) (upd H p (.tup (cutV xs lo hi)))) : rSlT K (.ref p) lo hi H Q := ⟨p, xs, rfl, h, n, q⟩
theorem inFalse {H : Hp} {Q : VK} {p : Addr} {n : Nat} (h : H p = some (.lst ((List.replicate n true).map V.bl))) (q : Q (.bl false) H) : rIn K false (.bl false) (.ref p) H Q := by
  refine ⟨p, _, rfl, .inl (.inl (.inl h)), rfl, ?_, ?_⟩
  · rw [List.all_eq_true]
    intro x hx
    obtain ⟨b, _, rfl⟩ := List.mem_map.mp hx
    rfl
  · have : inV (.bl false) ((List.replicate n true).map V.bl) = false := by
      unfold inV
      rw [List.any_eq_false]
      intro x hx
      obtain ⟨b, hb, rfl⟩ := List.mem_map.mp hx
      rw [(List.mem_replicate.mp hb).2]
      decide
    rw [if_neg Bool.false_ne_true, this]
    exact q
theorem inStr {H : Hp} {Q : VK} {z : Str} {p : Addr} {zs : List Str} (h : H p = some (.lst (zs.map V.str))) (m : z ∈ zs) (q : Q (.bl false) H) : rIn K true (.str z) (.ref p) H Q := by
  refine ⟨p, _, rfl, .inl (.inl (.inl h)), rfl, ?_, ?_⟩
  · rw [List.all_eq_true]
    intro x hx
    obtain ⟨b, _, rfl⟩ := List.mem_map.mp hx
    rfl
  · rw [if_pos rfl, inV_strs, decide_eq_true m]
    exact q
/-- another object is written -/
theorem Ways.kx {B H G : Hp} {w h0 : Addr} {ls : List Str} {ad : Str → Addr} {ps : Str → List (Str × Str)} {xs : List V} (h : Ways B H w ls ad ps) (b : B h0 = none) (n : h0 ≠ w) (n2 : ∀ l ∈ ls, ad l ≠ h0) (e : H h0 = some (.lst xs)) (k : ∀ b o, b ≠ h0 → H b = some o → G b = some o) : Ways B G w ls ad ps :=
  ⟨h.bw, fun c o z => k _ _ (fun y => by rw [y, b] at z; cases z) (h.sm _ _ z), k _ _ (Ne.symm n) h.dc, h.nd, h.nw, h.nb, h.inj, fun l m => (h.pl l m).keep (fun o z => k _ _ (n2 l m) z) fun t xs z => k _ _ (fun y => by rw [y, e] at z; cases z) z, h.no⟩
theorem fm_len {α β : Type} {c : α → Prop} [DecidablePred c] {g : α → β} : ∀ xs : List α, (xs.filterMap fun p => if c p then some (g p) else none).length = (xs.filter fun p => decide (c p)).length
  | [] => rfl
  | x :: xs => by
    rw [List.filterMap_cons, List.filter_cons]
    by_cases h : c x
    · rw [if_pos h, if_pos (decide_eq_true h), List.length_cons, List.length_cons, fm_len xs]
    · rw [if_neg h, if_neg (by rw [decide_eq_false h]; exact Bool.false_ne_true), fm_len xs]
theorem count_two : ∀ {ls : List Str} {as : List (Str × Str × Str)}, ls.Nodup → (∀ a ∈ as, a.1 ∈ ls) → (∀ l ∈ ls, (as.filter fun a => decide (a.1 = l)).length = 2) → as.length = 2 * ls.length
  | [], [], _, _, _ => rfl
  | [], a :: as, _, h, _ => nomatch h a List.mem_cons_self
  | l :: ls, as, nd, h, k => by
    obtain ⟨n, nd⟩ := List.nodup_cons.mp nd
    have e := flt_two' (fun a => decide (a.1 = l)) as
    have ih := count_two (ls := ls) (as := as.filter fun a => !decide (a.1 = l)) nd (fun a m => by
      obtain ⟨m, c⟩ := List.mem_filter.mp m
      refine (List.mem_cons.mp (h a m)).resolve_left fun z => ?_
      rw [decide_eq_true z] at c
      cases c) fun m hm => by
        rw [List.filter_filter]
        have : (fun a : Str × Str × Str => decide (a.1 = m) && !decide (a.1 = l)) = fun a => decide (a.1 = m) := funext fun a => by
          by_cases z : a.1 = m
          · rw [decide_eq_true z, decide_eq_false (fun w => n (by rw [← w, z]; exact hm))]
            rfl
          · rw [decide_eq_false z]
            rfl
        rw [this]
        exact k m (List.mem_cons_of_mem _ hm)
    have := k l List.mem_cons_self
    rw [List.length_cons]
    omega
where
  flt_two' (p : Str × Str × Str → Bool) : ∀ ns : List (Str × Str × Str), ns.length = (ns.filter p).length + (ns.filter fun n => !p n).length
    | [] => rfl
    | n :: ns => by
      have := flt_two' p ns
      rw [List.filter_cons, List.filter_cons]
      cases p n <;> simp <;> omega
theorem lines_count {ls : List Str} {ks : List Ky} (nd : ls.Nodup) (lm : ∀ l, l ∈ ls ↔ ∃ x y, Ky.a l x y ∈ ks) (h : T ks) : (asOf ks).length = 2 * ls.length := by
  refine count_two nd (fun a m => (lm _).mpr ⟨a.2.1, a.2.2, as_mem.mp m⟩) fun l hl => ?_
  obtain ⟨x, y, m⟩ := (lm l).mp hl
  obtain ⟨u, v, e, _⟩ := h.pairs m
  have := congrArg List.length e
  unfold Ty.pairsOf at this
  rw [fm_len] at this
  exact this
theorem dgetX {td ty : TE} {σ : L2.St} {H : Hp} {Q : VK} (h : td σ H fun x H1 => ty σ H1 fun y H2 => ∃ a v, x = .ref a ∧ DGet H2 a y (some v) ∧ Q v H2) : tDGet td ty σ H Q := h
theorem neTs {H : Hp} {Q : VK} {t t' : Addr} {xs ys : List Str} (h : H t = some (.tup (xs.map V.str))) (h' : H t' = some (.tup (ys.map V.str))) (o : ∀ n ∈ xs, PyData.strOk n = true) (o' : ∀ n ∈ ys, PyData.strOk n = true) (q : Q (.bl (!decide (xs = ys))) H) : rNeD K (.ref t) (.ref t') H Q := by
  refine ⟨.tuple (xs.map PyData.str), .tuple (ys.map PyData.str), .tup (.inl (.inl h)) (dp_strs _), .tup (.inl (.inl h')) (dp_strs _), shaped_strs o, shaped_strs o', ?_⟩
  rw [PyData.eqv, eqv_strs]
  exact q
/-- arcs.setdefault(key[1], []) -/
theorem step4 {B H : Hp} {w t : Addr} {i j : Nat} {σ : L2.St} {ls : List Str} {ad : Str → Addr} {ps : Str → List (Str × Str)} {z l x y : Str} {Q : VK} (h : Ways B H w ls ad ps) (hi : σ[i]? = some (some (.ref w)) ∧ σ[j]? = some (some (.ref t)) := by exact ⟨rfl, rfl⟩) (ht : H t = some (.tup [.str z, .str l, .str x, .str y])) (le : ls.length ≤ 100000)
    (q : ∀ G' ls' ad', Ways B G' w ls' ad' ps → l ∈ ls' → (∀ m, m ∈ ls' ↔ m ∈ ls ∨ m = l) → ls'.length ≤ ls.length + 1 → (∀ b o, b ≠ w → H b = some o → G' b = some o) → (∀ R : Addr → Prop, (∀ b, H b = none → R b) → (∀ m ∈ ls, R (ad m)) → ∀ m ∈ ls', R (ad' m)) → Q (.ref (ad' l)) G') :
    tDSetd (tVar i) (tOp (rIxT K) (tVar j) (tC (.int 1))) (tLst tNil) σ H Q :=
  setdX (Rd.var hi.1 ⟨w, rfl, .inl ⟨_, .inl h.dc⟩, Rd.op (Rd.var hi.2 (Rd.con (Rd.ixT (.inl (.inl ht)) rfl (Rd.lst (Rd.nil ⟨Nat.zero_le _, fun L hL => h.setd hL (same_upd hL) upd_same le q⟩)))))⟩)
local macro_rules | `(tactic| walk_at "dead") => `(tactic| first
  | (exfalso; rename_i c; first | exact absurd rfl c | (simp only [List.length_cons, List.length_nil] at c; omega))
  | (exfalso; rename_i c _; first | exact absurd rfl c | (simp only [List.length_cons, List.length_nil] at c; omega))
  | (exfalso; rename_i c _ _; first | exact absurd rfl c | (simp only [List.length_cons, List.length_nil] at c; omega)))
/-- the words of a key are names -/
theorem lawNames {σ : L2.St} {H : Hp} {Q : VK} {t : Addr} {u : V} {ws : List Str} (h4 : σ[4]? = some (some (.ref t))) (hw : ∀ x, wipe ((wipe σ [7]).set 7 (some x)) [7] = wipe σ [7]) (h7 : ∀ x, ((wipe σ [7]).set 7 (some x))[7]? = some (some x))
    (ht : H t = some (.tup (u :: ws.map V.str))) (wl : ws.length ≤ 1000) (nm : ∀ z ∈ ws, NmS z) (q : ∀ G, Same H G → Q (.bl false) G) :
    tOp (rIn K false) (tC (.bl false)) (tLc (iTup K (tSl (rSlT K) (tVar 4) (tPart (tC (.int 1))) tNoPart)) (gName 7) tYes (tCall (spNamed K) [] E0 (tCons (tVar 7) tNil)) [7]) σ H Q := by
  have cut : cutV (u :: ws.map V.str) (some 1) none = ws.map V.str := by
    rw [show (1 : Int) = ((1 : Nat) : Int) by rfl, cut_from]
    rfl
  refine Rd.op (Rd.con (Rd.lcX (Rd.itup (Rd.slice (Rd.var h4 (Rd.part (Rd.con (Rd.exint (Rd.noPart (slT (.inl (.inl ht)) ?_ fun tw nw => ?_))))))))))
  · rw [show (1 : Int) = ((1 : Nat) : Int) by rfl, HT.sIx_nat, HT.sIx_none]
    intro h
    have := h.1
    rw [List.length_cons] at this
    omega
  · rw [cut]
    have sw := same_upd (o := .tup (ws.map V.str)) nw
    have ew : upd H tw (.tup (ws.map V.str)) tw = some _ := upd_same
    generalize upd H tw (.tup (ws.map V.str)) = Gw at *
    refine Rd.extup (.inl (.inl ew)) ?_
    refine lcTw (ws.map V.str) (fun _ => some (.bl true)) (.inl (.inl ew)) (by rw [List.length_map]; omega) (fun j v h hv s => ?_) fun Lb Gb nb sb eb => ?_
    · intro L Nx yes no
      obtain ⟨z, mz, rfl⟩ := List.mem_map.mp (List.mem_of_getElem? hv)
      have nz := nm z mz
      refine turn1 ?_
      refine Rd.gname rfl ⟨hw _, Rd.yes (if_pos rfl ▸ ?_)⟩
      refine Rd.call (Rd.cons (Rd.var (h7 _) (Rd.nil ?_)))
      refine ⟨_, .str z, rfl, .str z, nm_sz nz, fun H2 s2 => ?_⟩
      rw [show nameD (.str z) = true from nm_b nz]
      exact yes _ _ rfl s2
    · rw [fm_true] at eb
      exact inFalse eb (q _ (sw.trans sb))
theorem ok__law_is_tour (F : Def K mg "_law_is_tour" s__law_is_tour P__law_is_tour) (m_range : mg "range" = none) (m_len : mg "len" = none) (m_sorted : mg "sorted" = none) (m_list : mg "list" = none) (m_int : mg "int" = none) (C__law_is_name : Cal P w K mg base 1 "_law_is_name" P__law_is_name (spNamed K)) : Cal P w K mg base 4 "_law_is_tour" P__law_is_tour spIsTourL := by
  refine F.ok sc__law_is_tour (fun vs H Q E h => ?_) (fun f cdv A outer s H vs Q E hr h => ?_)
  · obtain ⟨a, ks, rfl, _⟩ := h
    rfl
  obtain ⟨a, ks, rfl, hk, ht, hl, h64, q⟩ := h
  refine ⟨_, (pss_cons (ps_set (i := 1) sc__law_is_tour.nd rfl (Or.inl rfl) (pe_lst pa_nil))
  (pss_cons (ps_set (i := 2) sc__law_is_tour.nd rfl (Or.inl rfl) pe_dnewK)
  (pss_cons (ps_for PassesOwn.never rfl (pi_range1 (by rfl) m_range (pa_cons (pe_callB q_len (by rfl) m_len PySem.boot_len (pa_cons (pv 0 (hd := nd_keys) (hcd := nc_keys)) pa_nil) (hn := nn_len) (hdb := nd_len)) pa_nil)) (pg_name (i := 3) sc__law_is_tour.nd rfl (Or.inl rfl)) (pss_cons (ps_set (i := 4) sc__law_is_tour.nd rfl (Or.inl rfl) (pe_ix ix_list (pv 0 (hd := nd_keys) (hcd := nc_keys)) (pv 3 (hd := nd_k) (hcd := nc_k)) (fun _ _ => rfl)))
  (pss_cons (ps_if (PW.pt (pw_or (pt_cmpR (Ty.inDK (K := K) rfl (Ty.un65 hr)) (pv 4 (hd := nd_key) (hcd := nc_key)) (pe_slice sl_list (pv 0 (hd := nd_keys) (hcd := nc_keys)) po_none (po_some (pv 3 (hd := nd_k) (hcd := nc_k)))) (by rfl)) (pw_or1 (pt_cmpR op_in_seq pe_bl (pe_lc (own := [("word", 7)]) (by rfl) sc__law_is_tour.nd (pi_tup (pe_slice sl_tup (pv 4 (hd := nd_key) (hcd := nc_key)) (po_some pe_int) po_none)) (blkOk_by (N := N__law_is_tour) (sc := defScope s__law_is_tour) (by decide +kernel)) (fun _ _ _ _ _ => (pg_name (i := 7) sc__law_is_tour.nd rfl (Or.inl rfl))) (fun _ _ _ _ _ => pts_nil) (fun _ _ _ _ _ => (pe_cal C__law_is_name hr (pa_cons (pv 7 (hd := nd_word) (hcd := nc_word)) pa_nil) (hdb := nd__law_is_name)))) (by rfl))))) (pss_one (ps_ret pe_bl)) pss_nil)
  (pss_one (ps_if (PW.pt (pw_and (pt_cmpR op_eq (pe_callB q_len (by rfl) m_len PySem.boot_len (pa_cons (pv 4 (hd := nd_key) (hcd := nc_key)) pa_nil) (hn := nn_len) (hdb := nd_len)) pe_int (nomark _)) (pw_and1 (pt_cmpR op_eq (pe_ix ix_tup (pv 4 (hd := nd_key) (hcd := nc_key)) pe_int (fun _ _ => rfl)) pe_str (nomark _))))) (pss_one (ps_expr (pe_bm PySem.F.plainAttrs_list PySem.F.slot_list_append PySem.F.type_list_append mt_append (pv 1 (hd := nd_houses) (hcd := nc_houses)) (pa_cons (pe_ix ix_tup (pv 4 (hd := nd_key) (hcd := nc_key)) pe_int (fun _ _ => rfl)) pa_nil)))) (pss_one (ps_if (PW.pt (pw_and (pt_cmpR op_eq (pe_callB q_len (by rfl) m_len PySem.boot_len (pa_cons (pv 4 (hd := nd_key) (hcd := nc_key)) pa_nil) (hn := nn_len) (hdb := nd_len)) pe_int (nomark _)) (pw_and (pt_cmpR op_eq (pe_ix ix_tup (pv 4 (hd := nd_key) (hcd := nc_key)) pe_int (fun _ _ => rfl)) pe_str (nomark _)) (pw_and1 (pt_cmpR op_ne (pe_ix ix_tup (pv 4 (hd := nd_key) (hcd := nc_key)) pe_int (fun _ _ => rfl)) (pe_ix ix_tup (pv 4 (hd := nd_key) (hcd := nc_key)) pe_int (fun _ _ => rfl)) (nomark _)))))) (pss_cons (ps_set (i := 5) sc__law_is_tour.nd rfl (Or.inl rfl) (pe_dsetd (pv 2 (hd := nd_arcs) (hcd := nc_arcs)) (pe_ix ix_tup (pv 4 (hd := nd_key) (hcd := nc_key)) pe_int (fun _ _ => rfl)) (pe_lst pa_nil) ⟨rfl, rfl, rfl, rfl⟩))
  (pss_one (ps_expr (pe_bm PySem.F.plainAttrs_list PySem.F.slot_list_append PySem.F.type_list_append mt_append (pv 5 (hd := nd_row) (hcd := nc_row)) (pa_cons (pe_tup (pa_cons (pe_ix ix_tup (pv 4 (hd := nd_key) (hcd := nc_key)) pe_int (fun _ _ => rfl)) (pa_cons (pe_ix ix_tup (pv 4 (hd := nd_key) (hcd := nc_key)) pe_int (fun _ _ => rfl)) pa_nil))) pa_nil))))) (pss_one (ps_ret pe_bl)))))))))
  (pss_cons (ps_for PassesOwn.never rfl (pi_list (pe_callB (q_sortedSK (K := K) rfl) (by rfl) m_sorted bb_sorted (pa_cons (pe_callTy (q_listDk rfl) (by rfl) m_list bb_list (pa_cons (pv 2 (hd := nd_arcs) (hcd := nc_arcs)) pa_nil) (hn := nn_list) (hdb := nd_list)) pa_nil) (hn := nn_sorted) (hdb := nd_sorted))) (pg_name (i := 6) sc__law_is_tour.nd rfl (Or.inl rfl)) (pss_cons (ps_set (i := 5) sc__law_is_tour.nd rfl (Or.inl rfl) (pe_dget (un1 hr) (pv 2 (hd := nd_arcs) (hcd := nc_arcs)) (pv 6 (hd := nd_line) (hcd := nc_line)) (fun _ _ => rfl)))
  (pss_cons (ps_if (PW.pt (pw_or (pt_cmpR op_ne (pe_callB q_len (by rfl) m_len PySem.boot_len (pa_cons (pv 5 (hd := nd_row) (hcd := nc_row)) pa_nil) (hn := nn_len) (hdb := nd_len)) pe_int (nomark _)) (pw_or1 (pt_cmpR (Ho.neDK (K := K) rfl hr.units) (pe_ix ix_list (pv 5 (hd := nd_row) (hcd := nc_row)) pe_int (fun _ _ => rfl)) (pe_tup (pa_cons (pe_ix ix_tup (pe_ix ix_list (pv 5 (hd := nd_row) (hcd := nc_row)) pe_int (fun _ _ => rfl)) pe_int (fun _ _ => rfl)) (pa_cons (pe_ix ix_tup (pe_ix ix_list (pv 5 (hd := nd_row) (hcd := nc_row)) pe_int (fun _ _ => rfl)) pe_int (fun _ _ => rfl)) pa_nil))) (nomark _))))) (pss_one (ps_ret pe_bl)) pss_nil)
  (pss_one (ps_if (PW.pt (pw_or (pt_cmpR op_notIn_seq (pe_ix ix_tup (pe_ix ix_list (pv 5 (hd := nd_row) (hcd := nc_row)) pe_int (fun _ _ => rfl)) pe_int (fun _ _ => rfl)) (pv 1 (hd := nd_houses) (hcd := nc_houses)) (by rfl)) (pw_or1 (pt_cmpR op_notIn_seq (pe_ix ix_tup (pe_ix ix_list (pv 5 (hd := nd_row) (hcd := nc_row)) pe_int (fun _ _ => rfl)) pe_int (fun _ _ => rfl)) (pv 1 (hd := nd_houses) (hcd := nc_houses)) (by rfl))))) (pss_one (ps_ret pe_bl)) pss_nil)))))
  (pss_cons (ps_for PassesOwn.never rfl (pi_range1 (by rfl) m_range (pa_cons (pe_callB q_len (by rfl) m_len PySem.boot_len (pa_cons (pv 0 (hd := nd_keys) (hcd := nc_keys)) pa_nil) (hn := nn_len) (hdb := nd_len)) pa_nil)) (pg_name (i := 3) sc__law_is_tour.nd rfl (Or.inl rfl)) (pss_one (ps_if (pt_cmpR op_ne (pe_ix ix_tup (pe_ix ix_list (pv 0 (hd := nd_keys) (hcd := nc_keys)) (pe_op op_sub (pv 3 (hd := nd_k) (hcd := nc_k)) pe_int) (fun _ _ => rfl)) (pe_un un_neg pe_int) (fun _ _ => rfl)) (pe_ix ix_list (pe_lst (pa_cons (pe_ix ix_tup (pe_ix ix_list (pv 0 (hd := nd_keys) (hcd := nc_keys)) (pv 3 (hd := nd_k) (hcd := nc_k)) (fun _ _ => rfl)) pe_int (fun _ _ => rfl)) (pa_cons (pe_ix ix_tup (pe_ix ix_list (pv 0 (hd := nd_keys) (hcd := nc_keys)) (pv 3 (hd := nd_k) (hcd := nc_k)) (fun _ _ => rfl)) (pe_un un_neg pe_int) (fun _ _ => rfl)) pa_nil))) (pe_callTy q_intB (by rfl) m_int bb_int (pa_cons (pe_cmpR op_eq (pe_callB q_len (by rfl) m_len PySem.boot_len (pa_cons (pe_ix ix_list (pv 0 (hd := nd_keys) (hcd := nc_keys)) (pv 3 (hd := nd_k) (hcd := nc_k)) (fun _ _ => rfl)) pa_nil) (hn := nn_len) (hdb := nd_len)) pe_int (nomark _)) pa_nil) (hn := nn_int) (hdb := nd_int)) (fun _ _ => rfl)) (nomark _)) (pss_one (ps_ret pe_bl)) pss_nil)))
  (pss_one (ps_ret (pe_and (pe_cmpR op_gt (pe_callB q_len (by rfl) m_len PySem.boot_len (pa_cons (pv 0 (hd := nd_keys) (hcd := nc_keys)) pa_nil) (hn := nn_len) (hdb := nd_len)) pe_int (nomark _)) (pe_one (pe_cmpR op_eq (pe_callB q_len (by rfl) m_len PySem.boot_len (pa_cons (pv 1 (hd := nd_houses) (hcd := nc_houses)) pa_nil) (hn := nn_len) (hdb := nd_len)) (pe_op op_add (pe_callB (q_lenAK (K := K) rfl) (by rfl) m_len PySem.boot_len (pa_cons (pv 2 (hd := nd_arcs) (hcd := nc_arcs)) pa_nil) (hn := nn_len) (hdb := nd_len)) pe_int) (nomark _))))))))))), ?_⟩
  refine Rd.at0 (σ := [some (.ref a), none, none, none, none, none, none, none]) rfl ?_
  obtain ⟨vs, ea, kvs, lv⟩ := kl_len hk
  have pos := ht.pos
  repeat' (walk_at "rd")
  rename_i h0 nh G0 s0 e0 w0 nw G1 s1 e1
  have ea1 := s1 _ _ (s0 _ _ ea)
  refine forR (fun i σ H' => ∃ (v3 v4 v5 v6 : Option V) (ls : List Str) (ad : Str → Addr), σ = [some (.ref a), some (.ref h0), some (.ref w0), v3, v4, v5, v6, none] ∧ Ways H H' w0 ls ad (fun l => Ty.pairsOf (ks.take i) l) ∧ ls.length ≤ i ∧ (∀ l, l ∈ ls ↔ ∃ x y, .a l x y ∈ ks.take i) ∧
    H' h0 = some (.lst ((hsOf (ks.take i)).map V.str)) ∧ ∀ l ∈ ls, ad l ≠ h0) ⟨none, none, none, none, [], fun _ => w0, rfl, ?_, Nat.le_refl _, fun l => by simp, s1 _ _ e0, fun _ m => (nomatch m)⟩ ?_ ?_
  · exact Ways.new (s0.free nw) (s0.trans s1) e1
  · rintro i σ H' hi ⟨_, _, _, _, ls, ad, rfl, W, ll, lm, eh, nh0⟩
    rw [show (0 : Int) + (i : Int) = (i : Int) by omega]
    have il : i < vs.length := by omega
    obtain ⟨v, hv⟩ : ∃ u, vs[i]? = some u := ⟨_, List.getElem?_eq_getElem il⟩
    obtain ⟨k, hk', kv'⟩ := kvs.at hv
    have kv' := kv'.same W.sm
    have ea' := W.sm _ _ ea
    have mk := List.mem_of_getElem? hk'
    have et : ks.take (i + 1) = ks.take i ++ [k] := by rw [List.take_add_one, hk']; rfl
    have nd : k ∉ ks.take i := by
      intro m
      have nd := ht.nd.sublist (List.take_sublist (i + 1) ks)
      rw [et] at nd
      exact (List.nodup_append.mp nd).2.2 k m k (List.mem_singleton.mpr rfl) rfl
    have nms := ht.nm k mk
    have hsl : (hsOf ks).length ≤ ks.length := by
      have := hs_as_len ks
      omega
    have htk : (hsOf (ks.take i)).length ≤ 1000 := by
      have := hs_as_len (ks.take i)
      rw [List.length_take] at this
      omega
    have h0w : h0 ≠ w0 := fun z => by
      rw [z, W.dc] at eh
      cases eh
    repeat' (walk_at "rd")
    refine ixN' (.inl (.inl ea')) (Int.natCast_nonneg _) (by rw [Int.toNat_natCast]; exact hv) ?_
    repeat' (walk_at "rd")
    rename_i L2 n2 G2 s2 e2
    have k2 : KL G2 L2 (ks.take i) := ⟨_, e2, by rw [cut_to]; exact ((kvs.same (W.sm.trans s2)).cut i).1⟩
    refine inK k2 (kv'.same s2) ?_
    rw [decide_eq_false nd]
    refine exbl ?_
    have W2 := W.same s2
    have eh2 := s2 _ _ eh
    cases k with
    | h x =>
      obtain ⟨_, t, rfl, ht'⟩ := kv'.same s2
      have ht' : G2 t = some (.tup [.str "house", .str x]) := ht'
      repeat' (walk_at "rd")
      refine lawNames (ws := [x]) rfl (fun _ => rfl) (fun _ => rfl) ht' (Nat.le_of_ble_eq_true rfl) (fun z m => nms z m) fun G3 s3 => ?_
      have ht3 := s3 _ _ ht'
      have W3 := W2.same s3
      have eh3 := s3 _ _ eh2
      have et2 : (fun l => Ty.pairsOf (ks.take (i + 1)) l) = fun l => Ty.pairsOf (ks.take i) l := funext fun l => by
        rw [et]
        unfold Ty.pairsOf
        rw [as_app]
        exact congrArg _ (List.append_nil _)
      refine exbl ?_
      repeat' (walk_at "rd")
      · refine Rd.append eh3 (by rw [List.length_map]; exact sz5' (by omega)) ?_
        refine ⟨_, _, _, _, ls, ad, rfl, ?_, by omega, fun l => ?_, ?_, nh0⟩
        · rw [et2]
          exact W3.kx nh h0w nh0 eh3 fun b o n e => (upd_ne n).trans e
        · rw [lm, et]
          simp
        · rw [upd_same, et, hs_app, List.map_append]
          rfl
      all_goals walk_at "dead"
    | a l x y =>
      obtain ⟨_, t, rfl, ht'⟩ := kv'.same s2
      have ht' : G2 t = some (.tup [.str "arc", .str l, .str x, .str y]) := ht'
      repeat' (walk_at "rd")
      refine lawNames (ws := [l, x, y]) rfl (fun _ => rfl) (fun _ => rfl) ht' (Nat.le_of_ble_eq_true rfl) (fun z m => nms z m) fun G3 s3 => ?_
      have ht3 := s3 _ _ ht'
      have W3 := W2.same s3
      have eh3 := s3 _ _ eh2
      have ne := ht.ne l x y mk
      have W3 := W3
      refine exbl ?_
      repeat' (walk_at "rd")
      any_goals walk_at "dead"
      · rename_i c
        refine step4 W3 ⟨rfl, rfl⟩ ht3 (by omega) fun G4 ls' ad' W4 ml lm' ll' kw rr => ?_
        have htw : t ≠ w0 := fun z => by
          rw [z, W3.dc] at ht3
          cases ht3
        have ht4 := kw _ _ htw ht3
        have eh4 := kw _ _ h0w eh3
        have nh4 : ∀ m ∈ ls', ad' m ≠ h0 := rr (· ≠ h0) (fun b e z => by rw [z, eh3] at e; cases e) nh0
        obtain ⟨us0, eu0, lu0, _⟩ := W4.pl l ml
        repeat' (walk_at "rd")
        rename_i T5 n5 G5 s5 e5
        obtain ⟨us, eu, lu, W6⟩ := (W4.same s5).app (p := (x, y)) (v := .ref T5) ml ⟨_, rfl, e5⟩
        refine Rd.append eu ?_ ?_
        · have := List.length_filterMap_le (fun (q : Str × Str × Str) => if q.1 = l then some q.2 else none) (asOf (ks.take i))
          have h2 := hs_as_len (ks.take i)
          rw [List.length_take] at h2
          have : us.length = (Ty.pairsOf (ks.take i) l).length := lu
          unfold Ty.pairsOf at this
          exact sz5' (by omega)
        · refine ⟨_, _, _, _, ls', ad', rfl, ?_, by omega, fun m => ?_, ?_, nh4⟩
          · rw [et]
            have e : (fun m => Ty.pairsOf (ks.take i ++ [.a l x y]) m) = fun m => if m = l then Ty.pairsOf (ks.take i) m ++ [(x, y)] else Ty.pairsOf (ks.take i) m := funext fun m => pairs_snoc
            rw [e]
            exact W6
          · rw [lm', lm, et]
            simp only [List.mem_append, List.mem_singleton]
            constructor
            · rintro (⟨u, v, h⟩ | rfl)
              · exact ⟨u, v, .inl h⟩
              · exact ⟨x, y, .inr rfl⟩
            · rintro ⟨u, v, h | h⟩
              · exact .inl ⟨u, v, h⟩
              · cases h
                exact .inr rfl
          · refine (upd_ne (Ne.symm (nh4 l ml))).trans ?_
            rw [s5 _ _ eh4, et, hs_app]
            exact congrArg (fun z => some (HO.lst (List.map V.str z))) (List.append_nil _).symm
      all_goals exact absurd (V.str.inj (by assumption)) ne
  · rintro σ H' ⟨_, _, _, _, ls, ad, rfl, W, ll, lm, eh, nh0⟩
    rw [Int.toNat_natCast] at W ll lm eh
    rw [List.take_of_length_le (by omega)] at W lm eh
    repeat' (walk_at "rd")
    refine listDkd W.dc fun p7 n7 => ?_
    have s7 := same_upd (o := .lst (ls.map V.str)) n7
    have e7 : upd H' p7 (.lst (ls.map V.str)) p7 = some _ := upd_same
    generalize upd H' p7 (.lst (ls.map V.str)) = G7 at *
    repeat' (walk_at "rd")
    have l2 : (asOf ks).length = 2 * ls.length := lines_count W.nd (fun l => (lm l)) ht
    have c2 := ht.cnt
    have lsz : ls.length < 64 := by omega
    refine ⟨p7, ls, rfl, .inl (.inl e7), lsz, fun zs p8 pm8 sy8 n8 => ?_⟩
    have s8 := same_upd (o := .lst (zs.map V.str)) n8
    have e8 : upd G7 p8 (.lst (zs.map V.str)) p8 = some _ := upd_same
    generalize upd G7 p8 (.lst (zs.map V.str)) = G8 at *
    have W8 := W.same (s7.trans s8)
    have eh8 := s8 _ _ (s7 _ _ eh)
    refine ⟨p8, rfl, ⟨_, .inl (.inl e8)⟩, ?_⟩
    refine forL (zs.map V.str) (fun i σ H' => ∃ (v3 v4 v5 v6 : Option V), σ = [some (.ref a), some (.ref h0), some (.ref w0), v3, v4, v5, v6, none] ∧ Same G8 H') ⟨_, _, _, _, rfl, .refl _⟩ ?_ ?_ ?_
    · rintro i σ H' _ ⟨_, _, _, _, rfl, s9⟩
      exact .inl (.inl (s9 _ _ e8))
    · rintro i v σ H' hv ⟨_, _, _, _, rfl, s9⟩
      obtain ⟨l, ml, rfl⟩ := List.mem_map.mp (List.mem_of_getElem? hv)
      have ml := pm8.mem_iff.mp ml
      have W9 := W8.same s9
      have eh9 := s9 _ _ eh8
      obtain ⟨x0, y0, m0⟩ := (lm l).mp ml
      obtain ⟨u, v, ep, mu⟩ := ht.pairs m0
      obtain ⟨us, eu, lu, hp⟩ := W9.pl l ml
      have lu : us.length = (Ty.pairsOf ks l).length := lu
      have hp : ∀ (i : Nat) (v : V) (p : Str × Str), us[i]? = some v → (Ty.pairsOf ks l)[i]? = some p → PV H' v p := hp
      rw [ep] at lu hp
      obtain ⟨v1, v2, rfl⟩ : ∃ v1 v2, us = [v1, v2] := by
        match us, lu with
        | [p, r], _ => exact ⟨p, r, rfl⟩
      obtain ⟨t1, rfl, h1⟩ := hp 0 _ _ rfl rfl
      obtain ⟨t2, rfl, h2⟩ := hp 1 _ _ rfl rfl
      have h1 : H' t1 = some (.tup [.str u, .str v]) := h1
      have h2 : H' t2 = some (.tup [.str v, .str u]) := h2
      repeat' (walk_at "rd")
      refine dgetX ?_
      repeat' (walk_at "rd")
      refine ⟨w0, .ref (ad l), rfl, .inl ⟨_, Sum.inr l, .inl W9.dc, rfl, (kd_get (f := fun l => .ref (ad l)) ml).symm⟩, ?_⟩
      have mem : ∀ u v, (u, v) ∈ Ty.pairsOf ks l → PyData.strOk u = true ∧ PyData.strOk v = true := fun u v m => by
        have o := hk.ok _ (pairs_mem.mp m)
        exact ⟨o u (.tail _ (.head _)), o v (.tail _ (.tail _ (.head _)))⟩
      have o1 := mem u v (by rw [ep]; exact List.mem_cons_self)
      have mh := ht.hs l u v mu
      have mh2 := ht.hs l v u (ht.rev l u v mu)
      repeat' (walk_at "rd")
      any_goals walk_at "dead"
      rename_i T10 n10 G10 s10 e10
      have eh10 := s10 _ _ eh9
      refine neTs (xs := [u, v]) (ys := [u, v]) (s10 _ _ h1) e10 (fun n m => ?_) (fun n m => ?_) ?_
      iterate 2
        · rcases List.mem_cons.mp m with rfl | m
          · exact o1.1
          · rw [List.mem_singleton.mp m]
            exact o1.2
      rw [decide_eq_true rfl]
      repeat' (walk_at "rd")
      refine inStr eh10 (hs_mem.mpr mh) ?_
      repeat' (walk_at "rd")
      refine inStr eh10 (hs_mem.mpr mh2) ?_
      repeat' (walk_at "rd")
      exact ⟨_, _, _, _, rfl, s9.trans s10⟩
    · rintro σ H' ⟨_, _, _, _, rfl, s9⟩
      have s09 : Same H H' := W.sm.trans ((s7.trans s8).trans s9)
      have ea9 := s09 _ _ ea
      have l5 : vs.length ≤ 1000 := by omega
      repeat' (walk_at "rd")
      refine forR (fun i σ H' => ∃ (v3 v4 v5 v6 : Option V), σ = [some (.ref a), some (.ref h0), some (.ref w0), v3, v4, v5, v6, none] ∧ Same G8 H') ⟨_, _, _, _, rfl, s9⟩ ?_ ?_
      · rintro i σ H' hi ⟨_, _, _, _, rfl, s10⟩
        rw [show (0 : Int) + (i : Int) = (i : Int) by omega]
        have s11 : Same H H' := W.sm.trans ((s7.trans s8).trans s10)
        have ea11 := s11 _ _ ea
        have il : i < vs.length := by omega
        obtain ⟨v, hv⟩ : ∃ u, vs[i]? = some u := ⟨_, List.getElem?_eq_getElem il⟩
        obtain ⟨k, hk', kv'⟩ := kvs.at hv
        obtain ⟨_, t, rfl, et⟩ := kv'.same s11
        obtain ⟨v', hv'⟩ : ∃ u, vs[prev vs.length i]? = some u := ⟨_, List.getElem?_eq_getElem (prev_lt il)⟩
        obtain ⟨k', hk2, kv2⟩ := kvs.at hv'
        obtain ⟨_, t', rfl, et'⟩ := kv2.same s11
        rw [lv] at hk2
        obtain ⟨z, hz⟩ := ht.cyc
        have st := ch_prev hz hk' hk2
        have hvn : vs[(i : Int).toNat]? = some (.ref t) := by rw [Int.toNat_natCast]; exact hv
        repeat' (walk_at "rd")
        refine ixPrev (.inl (.inl ea11)) il hv' ?_
        repeat' (walk_at "rd")
        refine Rd.ixT (v := .str k'.stop) (.inl (.inl et')) (by cases k' <;> rfl) ?_
        repeat' (walk_at "rd")
        refine ixN' (.inl (.inl ea11)) (Int.natCast_nonneg _) hvn ?_
        have fin : ∀ G', Same H' G' → Same G8 G' := fun G' s => s10.trans s
        cases k with
        | h x =>
          have et : H' t = some (.tup [.str "house", .str x]) := et
          have st : k'.stop = x := st
          repeat' (walk_at "rd")
          refine ixN' (.inl (.inl ea11)) (Int.natCast_nonneg _) hvn ?_
          repeat' (walk_at "rd")
          rename_i L12 n12 G12 s12 e12
          have ea12 := s12 _ _ ea11
          have et12 := s12 _ _ et
          refine ixN' (.inl (.inl ea12)) (Int.natCast_nonneg _) hvn ?_
          repeat' (walk_at "rd")
          · rename_i c
            exact absurd (congrArg V.str st) c
          · exact ⟨_, _, _, _, rfl, fin _ s12⟩
        | a l x y =>
          have et : H' t = some (.tup [.str "arc", .str l, .str x, .str y]) := et
          have st : k'.stop = x := st
          repeat' (walk_at "rd")
          refine ixN' (.inl (.inl ea11)) (Int.natCast_nonneg _) hvn ?_
          repeat' (walk_at "rd")
          rename_i L12 n12 G12 s12 e12
          have ea12 := s12 _ _ ea11
          have et12 := s12 _ _ et
          refine ixN' (.inl (.inl ea12)) (Int.natCast_nonneg _) hvn ?_
          repeat' (walk_at "rd")
          · rename_i c
            exact absurd (congrArg V.str st) c
          · exact ⟨_, _, _, _, rfl, fin _ s12⟩
      · rintro σ H' ⟨_, _, _, _, rfl, s10⟩
        have s11 : Same H H' := W.sm.trans ((s7.trans s8).trans s10)
        have ea11 := s11 _ _ ea
        have eh11 := s10 _ _ eh8
        have W11 := W8.same s10
        have ew11 := W11.dc
        repeat' (walk_at "rd")
        · refine lenAd ew11 ?_
          rw [kd_len, List.length_map]
          repeat' (walk_at "rd")
          have : ((hsOf ks).length : Int) = (ls.length : Int) + 1 := by omega
          rw [decide_eq_true (congrArg V.int this)]
          exact q _ s11
        · exfalso
          rename_i c
          exact c (by omega)
end
end Kj
namespace Kj
open PySem PySem.Spec PyProof.Rows L2 Rd
/-! ### the stepper -/
local macro_rules | `(tactic| walk_at "hp") => `(tactic| first
  | assumption
  | exact upd_same
  | (refine Eq.trans (upd_ne (by first | assumption | (apply Ne.symm; assumption))) ?_; walk_at "hp"))
local macro_rules | `(tactic| walk_at "sq") => `(tactic| first
  | assumption
  | (refine Or.inl (Or.inl ?_); walk_at "hp"))
local macro_rules | `(tactic| walk_at "st") => `(tactic| first
  | assumption
  | (refine Or.inl (Or.inl ?_); walk_at "hp"))
local macro_rules | `(tactic| walk_at "ar") => `(tactic| first
  | assumption
  | omega
  | decide)
local macro_rules | `(tactic| walk_at "ci") => `(tactic| first
  | (refine (show CMul _ _ from Or.inr ⟨?_, ?_⟩) <;> omega)
  | (refine (show CMul _ _ from Or.inl ⟨?_, ?_⟩) <;> omega)
  | (show CPow _ _; exact ⟨by decide, by decide, by decide⟩)
  | (refine wide_div (b := 63) ?_ ?_ (by decide) (by decide) <;> omega)
  | (show (0 : Int) < _; omega))
local macro_rules | `(tactic| walk_at "ty") => `(tactic| first
  | exact dp_ty (by assumption)
  | exact TyX.base (TyOf.int _)
  | exact TyX.base (TyOf.str _)
  | exact TyX.base (TyOf.bl _)
  | exact TyX.base TyOf.non
  | exact tyL' (by walk_at "sq")
  | exact tyT' (by walk_at "st"))
local macro_rules | `(tactic| walk_at "isi") => `(tactic| first
  | ((with_reducible apply Rd.isiF); (walk_at "ty"); (decide))
  | ((with_reducible apply Rd.isiT); (walk_at "ty"); (decide)))
local macro_rules | `(tactic| walk_at "rd") => `(tactic| first
  | with_reducible apply Rd.seq
  | ((with_reducible apply Rd.var); rfl)
  | with_reducible apply Rd.con
  | with_reducible apply Rd.op
  | with_reducible apply Rd.asg
  | ((with_reducible apply Rd.gname); ((dsimp only [List.set, L2.wipe, Int.reduceToNat]) <;> rfl))
  | with_reducible apply Rd.nxt
  | with_reducible apply Rd.ifs
  | with_reducible apply Rd.test
  | with_reducible apply Rd.testB
  | with_reducible apply Rd.exbl
  | with_reducible apply Rd.ret
  | with_reducible apply Rd.drop
  | with_reducible apply Rd.retN
  | with_reducible apply Rd.nil
  | with_reducible apply Rd.cons
  | with_reducible apply Rd.call
  | with_reducible apply Rd.cb
  | with_reducible apply Rd.and
  | with_reducible apply Rd.or
  | with_reducible apply Rd.not
  | with_reducible apply Rd.andV
  | with_reducible apply Rd.orV
  | with_reducible apply Rd.notV
  | with_reducible apply Rd.ife
  | with_reducible apply Rd.tup
  | with_reducible apply Rd.lst
  | with_reducible apply Rd.un
  | with_reducible apply Rd.chain
  | with_reducible apply Rd.brk
  | with_reducible apply Rd.cnt
  | with_reducible apply Rd.I0
  | with_reducible apply Rd.U1
  | ((with_reducible apply Rd.eq); rfl)
  | ((with_reducible apply Rd.ne); rfl)
  | ((with_reducible apply Rd.I1); (walk_at "ci"))
  | with_reducible apply Rd.lc0
  | with_reducible apply Rd.ln0
  | with_reducible apply Rd.exN
  | ((with_reducible apply Rd.iteSf); (decide +kernel))
  | ((with_reducible apply Rd.iteSt); (decide +kernel))
  | ((with_reducible apply Rd.niQ); (exact Or.inl (by walk_at "sq")); (exact ⟨rfl, rfl⟩); (rfl))
  | ((with_reducible apply Rd.inQ); (exact Or.inl (by walk_at "sq")); (exact ⟨rfl, rfl⟩); (rfl))
  | with_reducible apply Rd.rn1
  | with_reducible apply Rd.in1
  | with_reducible apply Rd.sn1
  | with_reducible apply Rd.bn1
  | with_reducible apply Rd.nn1
  | with_reducible apply Rd.rn2
  | with_reducible apply Rd.in2
  | with_reducible apply Rd.sn2
  | with_reducible apply Rd.bn2
  | with_reducible apply Rd.nn2
  | with_reducible apply Rd.nt1
  | with_reducible apply Rd.nf1
  | (with_reducible refine Rd.iteI (fun _ => ?_) (fun _ => ?_))
  | (with_reducible refine Rd.iteNI (fun _ => ?_) (fun _ => ?_))
  | (with_reducible refine iteT ?_)
  | (with_reducible refine iteF ?_)
  | (with_reducible refine Rd.iteD (fun _ => ?_) (fun _ => ?_))
  | (with_reducible refine Rd.iteN (fun _ => ?_) (fun _ => ?_))
  | with_reducible apply Rd.intI
  | with_reducible apply Rd.intB
  | with_reducible apply Rd.maxQ
  | with_reducible apply Rd.minQ
  | with_reducible apply Rd.absQ
  | with_reducible apply Rd.isN
  | with_reducible apply Rd.noN
  | with_reducible apply Rd.ltZ
  | with_reducible apply Rd.bm
  | with_reducible apply Rd.bm0
  | with_reducible apply Rd.par
  | with_reducible apply Rd.expar
  | with_reducible apply Rd.exint
  | with_reducible apply Rd.ipi
  | with_reducible apply Rd.slice
  | with_reducible apply Rd.noPart
  | with_reducible apply Rd.part
  | with_reducible apply Rd.gcons
  | with_reducible apply Rd.gnil
  | with_reducible apply Rd.iseq
  | with_reducible apply Rd.irng1
  | walk_at "isi"
  | with_reducible apply Rd.forX
  | with_reducible apply Rd.lstRev
  | with_reducible apply Rd.lstRg
  | with_reducible apply Rd.rg1
  | with_reducible apply Rd.rg2
  | with_reducible apply Rd.exint2
  | ((with_reducible apply Rd.exrev); (walk_at "sq"))
  | with_reducible apply Rd.lcX
  | with_reducible apply Rd.yes
  | ((with_reducible apply Rd.exrng1); (constructor <;> omega))
  | ((with_reducible apply Rd.exrng2); (refine ⟨?_, ?_, ?_, ?_⟩ <;> omega))
  | with_reducible apply Rd.irng2
  | ((with_reducible apply Rd.aug); rfl)
  | ((with_reducible apply Rd.exlst); (walk_at "sq"))
  | ((with_reducible apply Rd.gtup); (walk_at "st"); (rfl))
  | ((with_reducible apply Rd.tyL); (walk_at "hp"))
  | ((with_reducible apply Rd.ixL); (walk_at "sq"); (rfl))
  | ((with_reducible apply Rd.ixI); (walk_at "sq"); (omega); (first | assumption | (simp only [List.length_map]; omega)); (intro _ _))
  | (with_reducible refine Rd.gsub ?_)
  | ((with_reducible apply Rd.setL); (walk_at "hp"); (rfl); ((dsimp only [List.set, L2.wipe, Int.reduceToNat]) <;> rfl))
  | ((with_reducible apply Rd.lenQ); (first | exact Or.inl (by walk_at "sq") | exact Or.inr (by walk_at "st")))
  | ((with_reducible apply Rd.listQ); (first | exact Or.inl (by walk_at "sq") | exact Or.inr (by walk_at "st")))
  | ((with_reducible apply Rd.tupQ); (walk_at "sq"))
  | ((with_reducible apply Rd.slL); (walk_at "sq"))
  | ((with_reducible apply Rd.ixT); (walk_at "st"); (rfl))
  | (with_reducible refine Rd.iteB (fun _ => ?_) (fun _ => ?_))
  | (with_reducible refine Rd.iteNB (fun _ => ?_) (fun _ => ?_))
  | (refine Rd.andI (Nat.le_of_ble_eq_true rfl) ?_)
  | dsimp only [List.set])
local macro_rules | `(tactic| walk_at "hp") => `(tactic| first
  | assumption
  | exact upd_same
  | (refine Eq.trans (upd_ne (by first | assumption | (apply Ne.symm; assumption))) ?_; walk_at "hp")
  | (refine hpS (by assumption) ?_; walk_at "hp"))
local macro_rules | `(tactic| walk_at "al") => `(tactic| (with_reducible intro l hl; generalize hG : upd _ l _ = G; have hs := newOne hl hG; clear hG; obtain ⟨hs, he⟩ := hs))
local macro_rules | `(tactic| walk_at "rd") => `(tactic| first
  | walk_at "al"
  | ((with_reducible apply Rd.cat); (walk_at "hp"); (walk_at "hp"); (exact Nat.le_of_ble_eq_true rfl)))
local macro_rules | `(tactic| walk_at "sm") => `(tactic| first
  | assumption
  | exact Same.refl _
  | (refine Same.trans ?_ (by assumption); walk_at "sm"))
local macro_rules | `(tactic| walk_at "fr") => `(tactic| first
  | assumption
  | (refine Same.free (by assumption) ?_; walk_at "fr"))
local macro_rules | `(tactic| walk_at "ty") => `(tactic| first
  | exact dv_ty (by assumption)
  | exact tyD' (by walk_at "hp"))
/-! ### texts that are no names -/
section
variable {P : Program} {w : World} {K : PySem.W.Frag} {mg : Str → Option Value} {base : Heap} {D : Str → Addr}
/-- a text of at most n signs -/
def spText (n : Nat) : Sp := fun vs H Q _ => ∃ (st c : Addr), vs = [.ref st] ∧ StoreAt H st c ∧ ∀ (z : Str) (H' : Hp), z.length ≤ n → Go st c H H' → Q (.str z) H'
abbrev Odd33 : Str := " !\"#$&'()*+,-./:;<=>?@ABCDEFGHIJKLMNOPQRSTUVWXYZ[\\]^_`{|}~\n"
theorem odd33 : Odd33.length = 59 ∧ True := by decide +kernel
local macro_rules | `(tactic| walk_at "rd") => `(tactic| first
  | with_reducible apply Rd.istr
  | with_reducible apply Rd.exstr
  | with_reducible apply Rd.leZ)
local macro_rules | `(tactic| walk_at "sz") => `(tactic| first
  | exact sz5 (by omega)
  | (simp only [add_len, one_len]; exact sz5 (by omega)))
local macro_rules | `(tactic| walk_at "rd") => `(tactic| first
  | ((with_reducible apply Rd.lenZ); (walk_at "sz"))
  | ((with_reducible apply Rd.slZ); (walk_at "sz"))
  | ((with_reducible apply Rd.addZ); (walk_at "sz")))
theorem ok__law_bad_word (F : Def K mg "_law_bad_word" s__law_bad_word P__law_bad_word) (m_len : mg "len" = none) (C__law_take : Cal P w K mg base 1 "_law_take" P__law_take spTake) (C__law_between : Cal P w K mg base 2 "_law_between" P__law_between spBetween) (C__law_pick : Cal P w K mg base 2 "_law_pick" P__law_pick (spPick K)) (C__law_name : Cal P w K mg base 3 "_law_name" P__law_name spName) : Cal P w K mg base 4 "_law_bad_word" P__law_bad_word (spText 200) := by
  refine F.ok sc__law_bad_word (fun vs H Q E h => ?_) (fun f cdv A outer s H vs Q E hr h => ?_)
  · obtain ⟨st, c, rfl, _⟩ := h
    rfl
  obtain ⟨st, c, rfl, hs, q⟩ := h
  refine ⟨_, (pss_cons (ps_set (i := 1) sc__law_bad_word.nd rfl (Or.inl rfl) (pe_cal C__law_name hr (pa_cons (pv 0 (hd := nd_store) (hcd := nc_store)) pa_nil) (hdb := nd__law_name)))
  (pss_cons (ps_set (i := 2) sc__law_bad_word.nd rfl (Or.inl rfl) pe_str)
  (pss_cons (ps_set (i := 3) sc__law_bad_word.nd rfl (Or.inl rfl) (pe_cal C__law_take hr (pa_cons (pv 0 (hd := nd_store) (hcd := nc_store)) (pa_cons pe_int pa_nil)) (hdb := nd__law_take)))
  (pss_cons (ps_if (pt_cmpR op_eq (pv 3 (hd := nd_style) (hcd := nc_style)) pe_int (nomark _)) (pss_one (ps_ret pe_str)) pss_nil)
  (pss_cons (ps_if (pt_cmpR op_eq (pv 3 (hd := nd_style) (hcd := nc_style)) pe_int (nomark _)) (pss_one (ps_ret (pe_slice sl_str (pe_op op_rep_str (pv 1 (hd := nd_word) (hcd := nc_word)) pe_int) po_none (po_some pe_int)))) pss_nil)
  (pss_cons (ps_if (pt_cmpR op_eq (pv 3 (hd := nd_style) (hcd := nc_style)) pe_int (nomark _)) (pss_one (ps_ret (pe_op op_rep_str (pe_ix ix_str (pv 1 (hd := nd_word) (hcd := nc_word)) pe_int (fun _ _ => rfl)) (pe_cal C__law_between hr (pa_cons (pv 0 (hd := nd_store) (hcd := nc_store)) (pa_cons pe_int (pa_cons pe_int pa_nil))) (hdb := nd__law_between))))) pss_nil)
  (pss_cons (ps_if (pt_cmpR op_eq (pv 3 (hd := nd_style) (hcd := nc_style)) pe_int (nomark _)) (pss_one (ps_ret (pe_op o_addZ (pe_ix ix_str pe_str (pe_cal C__law_take hr (pa_cons (pv 0 (hd := nd_store) (hcd := nc_store)) (pa_cons pe_int pa_nil)) (hdb := nd__law_take)) (fun _ _ => rfl)) (pe_slice sl_str (pv 1 (hd := nd_word) (hcd := nc_word)) (po_some pe_int) po_none)))) pss_nil)
  (pss_cons (ps_if (pt_cmpR op_eq (pv 3 (hd := nd_style) (hcd := nc_style)) pe_int (nomark _)) (pss_one (ps_ret (pe_op o_addZ (pv 1 (hd := nd_word) (hcd := nc_word)) pe_str))) pss_nil)
  (pss_cons (ps_if (pt_cmpR op_eq (pv 3 (hd := nd_style) (hcd := nc_style)) pe_int (nomark _)) (pss_one (ps_ret (pe_bm0 PySem.F.plainAttrs_str PySem.F.slot_str_upper PySem.F.type_str_upper mt_upper (pv 1 (hd := nd_word) (hcd := nc_word))))) pss_nil)
  (pss_cons (ps_set (i := 4) sc__law_bad_word.nd rfl (Or.inl rfl) (pe_cal C__law_take hr (pa_cons (pv 0 (hd := nd_store) (hcd := nc_store)) (pa_cons (pe_op op_add (pe_callB q_lenZ (by rfl) m_len PySem.boot_len (pa_cons (pv 1 (hd := nd_word) (hcd := nc_word)) pa_nil) (hn := nn_len) (hdb := nd_len)) pe_int) pa_nil)) (hdb := nd__law_take)))
  (pss_cons (ps_if (pt_cmpR op_eq (pv 3 (hd := nd_style) (hcd := nc_style)) pe_int (nomark _)) (pss_one (ps_ret (pe_op o_addZ (pe_op o_addZ (pe_slice sl_str (pv 1 (hd := nd_word) (hcd := nc_word)) po_none (po_some (pv 4 (hd := nd_at) (hcd := nc_at)))) (pe_cal C__law_pick hr (pa_cons (pv 0 (hd := nd_store) (hcd := nc_store)) (pa_cons (pv 2 (hd := nd_odd) (hcd := nc_odd)) pa_nil)) (hdb := nd__law_pick))) (pe_slice sl_str (pv 1 (hd := nd_word) (hcd := nc_word)) (po_some (pv 4 (hd := nd_at) (hcd := nc_at))) po_none)))) pss_nil)
  (pss_one (ps_ret (pe_op o_addZ (pe_op o_addZ (pe_slice sl_str (pv 1 (hd := nd_word) (hcd := nc_word)) po_none (po_some (pv 4 (hd := nd_at) (hcd := nc_at)))) (pe_cal C__law_pick hr (pa_cons (pv 0 (hd := nd_store) (hcd := nc_store)) (pa_cons (pv 2 (hd := nd_odd) (hcd := nc_odd)) pa_nil)) (hdb := nd__law_pick))) (pe_slice sl_str (pv 1 (hd := nd_word) (hcd := nc_word)) (po_some (pe_op op_add (pv 4 (hd := nd_at) (hcd := nc_at)) pe_int)) po_none))))))))))))))), ?_⟩
  refine Rd.at0 (σ := [some (.ref st), none, none, none, none]) rfl ?_
  repeat' (walk_at "rd")
  refine ⟨st, c, rfl, hs, fun z H1 nz lz g1 => ?_⟩
  have l0 : 1 ≤ z.length := by
    obtain ⟨x, r, e, _⟩ := nz
    rw [← cl_len, e]
    exact Nat.le_add_left _ _
  have e1 : ("\n" : Str).length = 1 := by decide +kernel
  have e10 : ("0123456789" : Str).length = 10 := by decide +kernel
  have eo := odd33.1
  have c2 := fun a b => cutL z a b lz
  repeat' (walk_at "rd")
  refine ⟨st, c, 8, rfl, g1.ok, by decide, fun r H2 r0 r1 g2 => ?_⟩
  have g12 := g1.trans g2
  repeat' (walk_at "rd")
  · exact q _ _ (by decide) g12
  · refine repZ (by omega) ?_
    have m := mulL (k := 12) (m := 13) lz (show (13 : Int) ≤ ((13 : Nat) : Int) by decide)
    repeat' (walk_at "rd")
    exact q _ _ (cutL _ _ _ (by omega)) g12
  · refine sign (by omega) (by decide) (by omega) fun x _ _ => ?_
    repeat' (walk_at "rd")
    refine ⟨st, c, 13, 40, rfl, g2.ok, by decide, fun k H3 k0 k1 g3 => ?_⟩
    refine repZ (by rw [one_len]; omega) ?_
    exact q _ _ (Nat.le_trans (mulL (k := 1) (m := 40) (by rw [one_len]; decide) (show k ≤ ((40 : Nat) : Int) by omega)) (by decide)) (g12.trans g3)
  · refine ⟨st, c, 10, rfl, g2.ok, by decide, fun k H3 k0 k1 g3 => ?_⟩
    refine sign (z := "0123456789") (by omega) k0 (by omega) fun x _ _ => ?_
    have := c2 (some 1) none
    repeat' (walk_at "rd")
    exact q _ _ (by rw [add_len, one_len]; omega) (g12.trans g3)
  · exact q _ _ (by rw [add_len, e1]; omega) g12
  · refine ⟨rfl, z, rfl, rfl, by omega, ?_⟩
    exact q _ _ (by rw [upL (nm_128 nz)]; omega) g12
  all_goals
    refine ⟨st, c, _, rfl, g2.ok, by omega, fun a H3 a0 a1 g3 => ?_⟩
    have := c2 none (some a)
    have := c2 (some a) none
    have := c2 (some (a + 1)) none
    repeat' (walk_at "rd")
    all_goals
      refine .inl ⟨st, c, Odd33, rfl, g3.ok, by omega, by omega, fun x H4 _ g4 => ?_⟩
      repeat' (walk_at "rd")
      exact q _ _ (by rw [add_len, add_len, one_len]; omega) ((g12.trans g3).trans g4)
/-- a value of new objects -/
def spVal (K : PySem.W.Frag) : Sp := fun vs H Q _ => ∃ (st c : Addr), vs = [.ref st] ∧ StoreAt H st c ∧ ∀ (v : V) (d : PyData) (H' : Hp), Dv K (nw H H') v d → Fd 1 d → Sz d → Go st c H H' → Q v H'
theorem disp {trs : List (TE × TE)} {σ : L2.St} {H : Hp} {Q : VK} (h : ∀ p, H p = none → tPairs trs σ (upd H p (.dK [])) fun ps H2 => H2 p = some (.dK []) ∧ ∃ kvs : List (Key × V), ps = kvs.map (fun kv => (kV kv.1, kv.2)) ∧ kvs.length ≤ 15 ∧ Q (.ref p) (upd H2 p (.dK (mergeK [] kvs)))) : tDisp trs σ H Q := h
theorem dnewX0 {σ : L2.St} {H : Hp} {Q : VK} (h : ∀ p, H p = none → Q (.ref p) (upd H p (.dK []))) : tDNewK σ H Q := h
local macro_rules | `(tactic| walk_at "rd") => `(tactic| with_reducible apply Kj.dnewX0)
theorem ok__law_not_name (F : Def K mg "_law_not_name" s__law_not_name P__law_not_name) (C__law_take : Cal P w K mg base 1 "_law_take" P__law_take spTake) (C__law_name : Cal P w K mg base 3 "_law_name" P__law_name spName) (C__law_bad_word : Cal P w K mg base 4 "_law_bad_word" P__law_bad_word (spText 200)) : Cal P w K mg base 5 "_law_not_name" P__law_not_name (spVal K) := by
  refine F.ok sc__law_not_name (fun vs H Q E h => ?_) (fun f cdv A outer s H vs Q E hr h => ?_)
  · obtain ⟨st, c, rfl, _⟩ := h
    rfl
  obtain ⟨st, c, rfl, hs, q⟩ := h
  refine ⟨_, (pss_cons (ps_if (pt_cmpR op_eq (pe_cal C__law_take hr (pa_cons (pv 0 (hd := nd_store) (hcd := nc_store)) (pa_cons pe_int pa_nil)) (hdb := nd__law_take)) pe_int (nomark _)) (pss_one (ps_ret (pe_cal C__law_bad_word hr (pa_cons (pv 0 (hd := nd_store) (hcd := nc_store)) pa_nil) (hdb := nd__law_bad_word)))) pss_nil)
  (pss_cons (ps_set (i := 1) sc__law_not_name.nd rfl (Or.inl rfl) (pe_cal C__law_name hr (pa_cons (pv 0 (hd := nd_store) (hcd := nc_store)) pa_nil) (hdb := nd__law_name)))
  (pss_cons (ps_set (i := 2) sc__law_not_name.nd rfl (Or.inl rfl) (pe_lst (pa_cons pe_non (pa_cons pe_bl (pa_cons pe_bl (pa_cons pe_int (pa_cons pe_int (pa_cons (pe_un un_neg pe_int) (pa_cons (pe_lst pa_nil) (pa_cons (pe_lst (pa_cons (pv 1 (hd := nd_word) (hcd := nc_word)) pa_nil)) (pa_cons (pe_tup pa_nil) (pa_cons (pe_tup (pa_cons (pv 1 (hd := nd_word) (hcd := nc_word)) pa_nil)) (pa_cons pe_dnewK (pa_cons (pe_lst (pa_cons pe_int (pa_cons pe_str pa_nil))) (pa_cons (pe_tup (pa_cons (pv 1 (hd := nd_word) (hcd := nc_word)) (pa_cons (pv 1 (hd := nd_word) (hcd := nc_word)) pa_nil))) pa_nil)))))))))))))))
  (pss_cons (ps_set (i := 3) sc__law_not_name.nd rfl (Or.inl rfl) (pe_cal C__law_take hr (pa_cons (pv 0 (hd := nd_store) (hcd := nc_store)) (pa_cons pe_int pa_nil)) (hdb := nd__law_take)))
  (pss_cons (ps_if (pt_cmpR op_eq (pv 3 (hd := nd_at) (hcd := nc_at)) pe_int (nomark _)) (pss_one (ps_ret (pe_disp (pps_cons (pv 1 (hd := nd_word) (hcd := nc_word)) (pv 1 (hd := nd_word) (hcd := nc_word)) pps_nil) (by rfl) (by rfl) (by intro z; cases z) (by decide)))) pss_nil)
  (pss_one (ps_ret (pe_ix ix_list (pv 2 (hd := nd_odd) (hcd := nc_odd)) (pv 3 (hd := nd_at) (hcd := nc_at)) (fun _ _ => rfl))))))))), ?_⟩
  refine Rd.at0 (σ := [some (.ref st), none, none, none]) rfl ?_
  repeat' (walk_at "rd")
  refine ⟨st, c, 2, rfl, hs, by decide, fun r H1 r0 r1 g1 => ?_⟩
  repeat' (walk_at "rd")
  · exact ⟨st, c, rfl, g1.ok, fun z H2 lz g2 => q _ _ _ (.str z) (.str z) (.str (by omega)) (g1.trans g2)⟩
  refine ⟨st, c, rfl, g1.ok, fun z H2 nz lz g2 => ?_⟩
  have g12 := g1.trans g2
  repeat' (walk_at "rd")
  rename_i l1 n1 G1 s1 e1 l2 n2 G2 s2 e2 l3 n3 G3 s3 e3 l4 n4 G4 s4 e4 l5 n5 G5 s5 e5 l6 n6 G6 s6 e6 l7 n7 G7 s7 e7 l8 n8 G8 s8 e8
  have f2 := fun {b} (n : H2 b = none) => g12.free n
  have f3 := fun {b} (n : G1 b = none) => f2 (Same.free s1 n)
  have f4 := fun {b} (n : G2 b = none) => f3 (Same.free s2 n)
  have f5 := fun {b} (n : G3 b = none) => f4 (Same.free s3 n)
  have f6 := fun {b} (n : G4 b = none) => f5 (Same.free s4 n)
  have f7 := fun {b} (n : G5 b = none) => f6 (Same.free s5 n)
  have f8 := fun {b} (n : G6 b = none) => f7 (Same.free s6 n)
  have f9 := fun {b} (n : G7 b = none) => f8 (Same.free s7 n)
  have t7 := s7.trans s8
  have t6 := s6.trans t7
  have t5 := s5.trans t6
  have t4 := s4.trans t5
  have t3 := s3.trans t4
  have t2 := s2.trans t3
  have t1 := s1.trans t2
  have gH := g12.same t1
  refine ⟨st, c, 14, rfl, gH.ok, by decide, fun r H3 r0 r1 g => ?_⟩
  have kp : ∀ {b : Addr} {o : HO}, H b = none → G8 b = some o → H3 b = some o := fun {b o} n e => g.keep b o (fun z => by
    obtain ⟨⟨u, hu⟩, _⟩ := hs.has
    rw [z, hu] at n
    cases n) e
  have m1 := nw_mk (f2 n1) (kp (f2 n1) (t2 _ _ e1))
  have m2 := nw_mk (f3 n2) (kp (f3 n2) (t3 _ _ e2))
  have m3 := nw_mk (f4 n3) (kp (f4 n3) (t4 _ _ e3))
  have m4 := nw_mk (f5 n4) (kp (f5 n4) (t5 _ _ e4))
  have m5 := nw_mk (f6 n5) (kp (f6 n5) (t6 _ _ e5))
  have m6 := nw_mk (f7 n6) (kp (f7 n6) (t7 _ _ e6))
  have m7 := nw_mk (f8 n7) (kp (f8 n7) (s8 _ _ e7))
  have m8 := kp (f9 n8) e8
  have gg : Go st c H H3 := gH.trans g
  have one : ∀ {d : PyData}, Fd 0 d → ∀ x ∈ [d], Fd 0 x := fun hd x hx => by
    rw [List.mem_singleton.mp hx]
    exact hd
  have two : ∀ {d e : PyData}, Fd 0 d → Fd 0 e → ∀ x ∈ [d, e], Fd 0 x := fun hd he x hx => by
    rcases List.mem_cons.mp hx with h | h
    · rw [h]
      exact hd
    · rw [List.mem_singleton.mp h]
      exact he
  repeat' (walk_at "rd")
  · refine disp fun p np => ⟨.str z, rfl, .str z, rfl, upd_same, [(.inr z, .str z)], rfl, (by show 1 ≤ 15; decide), ?_⟩
    rw [upd_upd]
    have np' : H p = none := gg.free np
    have g' := gg.new np (.dK (mergeK [] [(.inr z, .str z)]))
    have e : mergeK [] [((.inr z : Key), V.str z)] = [(.inr z, .str z)] := rfl
    rw [e] at g' ⊢
    exact q _ _ _ (.dc1 (nw_mk np' upd_same) (.str z)) (.dc1 (.str z)) (fun _ e => nomatch e) g'
  · rename_i z13
    obtain rfl | rfl | rfl | rfl | rfl | rfl | rfl | rfl | rfl | rfl | rfl | rfl | rfl : r = 0 ∨ r = 1 ∨ r = 2 ∨ r = 3 ∨ r = 4 ∨ r = 5 ∨ r = 6 ∨ r = 7 ∨ r = 8 ∨ r = 9 ∨ r = 10 ∨ r = 11 ∨ r = 12 := by omega
    all_goals refine ixL (.inl (.inl m8)) rfl ?_
    · exact q _ _ _ .non .non (fun _ e => nomatch e) gg
    · exact q _ _ _ (.bl _) (.bl _) (fun _ e => nomatch e) gg
    · exact q _ _ _ (.bl _) (.bl _) (fun _ e => nomatch e) gg
    · exact q _ _ _ (.int _) (.int _) (fun _ e => nomatch e) gg
    · exact q _ _ _ (.int _) (.int _) (fun _ e => nomatch e) gg
    · exact q _ _ _ (.int _) (.int _) (fun _ e => nomatch e) gg
    · exact q _ _ _ (.lst (.inl (.inl m1)) .nil) (.lst (Nat.zero_le _) fun _ h => nomatch h) (fun _ e => nomatch e) gg
    · exact q _ _ _ (.lst (.inl (.inl m2)) (.cons (.str _) .nil)) (.lst (show 1 ≤ 100000 by decide) (one (.str z))) (fun _ e => nomatch e) gg
    · exact q _ _ _ (.tup (.inl (.inl m3)) .nil) (.tup (Nat.zero_le _) fun _ h => nomatch h) (fun _ e => nomatch e) gg
    · exact q _ _ _ (.tup (.inl (.inl m4)) (.cons (.str _) .nil)) (.tup (show 1 ≤ 100000 by decide) (one (.str z))) (fun _ e => nomatch e) gg
    · exact q _ _ _ (.dc0 m5) .dc0 (fun _ e => nomatch e) gg
    · exact q _ _ _ (.lst (.inl (.inl m6)) (.cons (.int _) (.cons (.str _) .nil))) (.lst (show 2 ≤ 100000 by decide) (two (.int 1) (.str _))) (fun _ e => nomatch e) gg
    · exact q _ _ _ (.tup (.inl (.inl m7)) (.cons (.str _) (.cons (.str _) .nil))) (.tup (show 2 ≤ 100000 by decide) (two (.str _) (.str _))) (fun _ e => nomatch e) gg
end
end Kj
namespace Kj
open PySem PySem.Spec PyProof.Rows L2 Rd
/-! ### the stepper -/
local macro_rules | `(tactic| walk_at "hp") => `(tactic| first
  | assumption
  | exact upd_same
  | (refine Eq.trans (upd_ne (by first | assumption | (apply Ne.symm; assumption))) ?_; walk_at "hp"))
local macro_rules | `(tactic| walk_at "sq") => `(tactic| first
  | assumption
  | (refine Or.inl (Or.inl ?_); walk_at "hp"))
local macro_rules | `(tactic| walk_at "st") => `(tactic| first
  | assumption
  | (refine Or.inl (Or.inl ?_); walk_at "hp"))
local macro_rules | `(tactic| walk_at "ar") => `(tactic| first
  | assumption
  | omega
  | decide)
local macro_rules | `(tactic| walk_at "ci") => `(tactic| first
  | (refine (show CMul _ _ from Or.inr ⟨?_, ?_⟩) <;> omega)
  | (refine (show CMul _ _ from Or.inl ⟨?_, ?_⟩) <;> omega)
  | (show CPow _ _; exact ⟨by decide, by decide, by decide⟩)
  | (refine wide_div (b := 63) ?_ ?_ (by decide) (by decide) <;> omega)
  | (show (0 : Int) < _; omega))
local macro_rules | `(tactic| walk_at "ty") => `(tactic| first
  | exact dp_ty (by assumption)
  | exact TyX.base (TyOf.int _)
  | exact TyX.base (TyOf.str _)
  | exact TyX.base (TyOf.bl _)
  | exact TyX.base TyOf.non
  | exact tyL' (by walk_at "sq")
  | exact tyT' (by walk_at "st"))
local macro_rules | `(tactic| walk_at "isi") => `(tactic| first
  | ((with_reducible apply Rd.isiF); (walk_at "ty"); (decide))
  | ((with_reducible apply Rd.isiT); (walk_at "ty"); (decide)))
local macro_rules | `(tactic| walk_at "rd") => `(tactic| first
  | with_reducible apply Rd.seq
  | ((with_reducible apply Rd.var); rfl)
  | with_reducible apply Rd.con
  | with_reducible apply Rd.op
  | with_reducible apply Rd.asg
  | ((with_reducible apply Rd.gname); ((dsimp only [List.set, L2.wipe, Int.reduceToNat]) <;> rfl))
  | with_reducible apply Rd.nxt
  | with_reducible apply Rd.ifs
  | with_reducible apply Rd.test
  | with_reducible apply Rd.testB
  | with_reducible apply Rd.exbl
  | with_reducible apply Rd.ret
  | with_reducible apply Rd.drop
  | with_reducible apply Rd.retN
  | with_reducible apply Rd.nil
  | with_reducible apply Rd.cons
  | with_reducible apply Rd.call
  | with_reducible apply Rd.cb
  | with_reducible apply Rd.and
  | with_reducible apply Rd.or
  | with_reducible apply Rd.not
  | with_reducible apply Rd.andV
  | with_reducible apply Rd.orV
  | with_reducible apply Rd.notV
  | with_reducible apply Rd.ife
  | with_reducible apply Rd.tup
  | with_reducible apply Rd.lst
  | with_reducible apply Rd.un
  | with_reducible apply Rd.chain
  | with_reducible apply Rd.brk
  | with_reducible apply Rd.cnt
  | with_reducible apply Rd.I0
  | with_reducible apply Rd.U1
  | ((with_reducible apply Rd.eq); rfl)
  | ((with_reducible apply Rd.ne); rfl)
  | ((with_reducible apply Rd.I1); (walk_at "ci"))
  | with_reducible apply Rd.lc0
  | with_reducible apply Rd.ln0
  | with_reducible apply Rd.exN
  | ((with_reducible apply Rd.iteSf); (decide +kernel))
  | ((with_reducible apply Rd.iteSt); (decide +kernel))
  | ((with_reducible apply Rd.niQ); (exact Or.inl (by walk_at "sq")); (exact ⟨rfl, rfl⟩); (rfl))
  | ((with_reducible apply Rd.inQ); (exact Or.inl (by walk_at "sq")); (exact ⟨rfl, rfl⟩); (rfl))
  | with_reducible apply Rd.rn1
  | with_reducible apply Rd.in1
  | with_reducible apply Rd.sn1
  | with_reducible apply Rd.bn1
  | with_reducible apply Rd.nn1
  | with_reducible apply Rd.rn2
  | with_reducible apply Rd.in2
  | with_reducible apply Rd.sn2
  | with_reducible apply Rd.bn2
  | with_reducible apply Rd.nn2
  | with_reducible apply Rd.nt1
  | with_reducible apply Rd.nf1
  | (with_reducible refine Rd.iteI (fun _ => ?_) (fun _ => ?_))
  | (with_reducible refine Rd.iteNI (fun _ => ?_) (fun _ => ?_))
  | (with_reducible refine iteT ?_)
  | (with_reducible refine iteF ?_)
  | (with_reducible refine Rd.iteD (fun _ => ?_) (fun _ => ?_))
  | (with_reducible refine Rd.iteN (fun _ => ?_) (fun _ => ?_))
  | with_reducible apply Rd.intI
  | with_reducible apply Rd.intB
  | with_reducible apply Rd.maxQ
  | with_reducible apply Rd.minQ
  | with_reducible apply Rd.absQ
  | with_reducible apply Rd.isN
  | with_reducible apply Rd.noN
  | with_reducible apply Rd.ltZ
  | with_reducible apply Rd.bm
  | with_reducible apply Rd.bm0
  | with_reducible apply Rd.par
  | with_reducible apply Rd.expar
  | with_reducible apply Rd.exint
  | with_reducible apply Rd.ipi
  | with_reducible apply Rd.slice
  | with_reducible apply Rd.noPart
  | with_reducible apply Rd.part
  | with_reducible apply Rd.gcons
  | with_reducible apply Rd.gnil
  | with_reducible apply Rd.iseq
  | with_reducible apply Rd.irng1
  | walk_at "isi"
  | with_reducible apply Rd.forX
  | with_reducible apply Rd.lstRev
  | with_reducible apply Rd.lstRg
  | with_reducible apply Rd.rg1
  | with_reducible apply Rd.rg2
  | with_reducible apply Rd.exint2
  | ((with_reducible apply Rd.exrev); (walk_at "sq"))
  | with_reducible apply Rd.lcX
  | with_reducible apply Rd.yes
  | ((with_reducible apply Rd.exrng1); (constructor <;> omega))
  | ((with_reducible apply Rd.exrng2); (refine ⟨?_, ?_, ?_, ?_⟩ <;> omega))
  | with_reducible apply Rd.irng2
  | ((with_reducible apply Rd.aug); rfl)
  | ((with_reducible apply Rd.exlst); (walk_at "sq"))
  | ((with_reducible apply Rd.gtup); (walk_at "st"); (rfl))
  | ((with_reducible apply Rd.tyL); (walk_at "hp"))
  | ((with_reducible apply Rd.ixL); (walk_at "sq"); (rfl))
  | ((with_reducible apply Rd.ixI); (walk_at "sq"); (omega); (first | assumption | (simp only [List.length_map]; omega)); (intro _ _))
  | (with_reducible refine Rd.gsub ?_)
  | ((with_reducible apply Rd.setL); (walk_at "hp"); (rfl); ((dsimp only [List.set, L2.wipe, Int.reduceToNat]) <;> rfl))
  | ((with_reducible apply Rd.lenQ); (first | exact Or.inl (by walk_at "sq") | exact Or.inr (by walk_at "st")))
  | ((with_reducible apply Rd.listQ); (first | exact Or.inl (by walk_at "sq") | exact Or.inr (by walk_at "st")))
  | ((with_reducible apply Rd.tupQ); (walk_at "sq"))
  | ((with_reducible apply Rd.slL); (walk_at "sq"))
  | ((with_reducible apply Rd.ixT); (walk_at "st"); (rfl))
  | (with_reducible refine Rd.iteB (fun _ => ?_) (fun _ => ?_))
  | (with_reducible refine Rd.iteNB (fun _ => ?_) (fun _ => ?_))
  | (refine Rd.andI (Nat.le_of_ble_eq_true rfl) ?_)
  | dsimp only [List.set])
local macro_rules | `(tactic| walk_at "hp") => `(tactic| first
  | assumption
  | exact upd_same
  | (refine Eq.trans (upd_ne (by first | assumption | (apply Ne.symm; assumption))) ?_; walk_at "hp")
  | (refine hpS (by assumption) ?_; walk_at "hp"))
local macro_rules | `(tactic| walk_at "al") => `(tactic| (with_reducible intro l hl; generalize hG : upd _ l _ = G; have hs := newOne hl hG; clear hG; obtain ⟨hs, he⟩ := hs))
local macro_rules | `(tactic| walk_at "rd") => `(tactic| first
  | walk_at "al"
  | ((with_reducible apply Rd.cat); (walk_at "hp"); (walk_at "hp"); (exact Nat.le_of_ble_eq_true rfl)))
local macro_rules | `(tactic| walk_at "sm") => `(tactic| first
  | assumption
  | exact Same.refl _
  | (refine Same.trans ?_ (by assumption); walk_at "sm"))
local macro_rules | `(tactic| walk_at "fr") => `(tactic| first
  | assumption
  | (refine Same.free (by assumption) ?_; walk_at "fr"))
local macro_rules | `(tactic| walk_at "ty") => `(tactic| first
  | exact dv_ty (by assumption)
  | exact tyD' (by walk_at "hp"))
local macro_rules | `(tactic| walk_at "sz") => `(tactic| first
  | exact sz5 (by omega)
  | (simp only [add_len, one_len]; exact sz5 (by omega)))
local macro_rules | `(tactic| walk_at "rd") => `(tactic| first
  | with_reducible apply Rd.istr
  | with_reducible apply Rd.exstr
  | with_reducible apply Rd.leA
  | with_reducible apply Rd.leZz
  | with_reducible apply Rd.le0
  | with_reducible apply Rd.le9
  | with_reducible apply Rd.niZ
  | ((with_reducible apply Rd.lenZ); (walk_at "sz"))
  | ((with_reducible apply Rd.slZ); (walk_at "sz"))
  | ((with_reducible apply Rd.addZ); (walk_at "sz"))
  | with_reducible apply Rd.raiseX
  | with_reducible apply Rd.exone
  | with_reducible apply Rd.callS
  | with_reducible apply Rd.callP
  | with_reducible apply Rd.xsX
  | with_reducible apply Rd.dnewX
  | with_reducible apply Rd.tyZ)
/-! ### the law's houses and lines of a tour -/
open Ty
section
variable {P : Program} {w : World} {K : PySem.W.Frag} {mg : Str → Option Value} {base : Heap} {D : Str → Addr}
theorem ok__law_tour_houses (F : Def K mg "_law_tour_houses" s__law_tour_houses P__law_tour_houses) (m_sorted : mg "sorted" = none) : Cal P w K mg base 2 "_law_tour_houses" P__law_tour_houses spTourHouses := by
  refine F.ok sc__law_tour_houses (fun vs H Q E h => ?_) (fun f cdv A outer s H vs Q E hr h => ?_)
  · obtain ⟨a, ks, rfl, _⟩ := h
    rfl
  obtain ⟨a, ks, rfl, hk, hl, h64, q⟩ := h
  refine ⟨_, (pss_one (ps_ret (pe_callB (q_sortedSK (K := K) rfl) (by rfl) m_sorted bb_sorted (pa_cons (pe_lc (own := [("key", 1)]) (by rfl) sc__law_tour_houses.nd (pi_list (pv 0 (hd := nd_keys) (hcd := nc_keys))) (blkOk_by (N := N__law_tour_houses) (sc := defScope s__law_tour_houses) (by decide +kernel)) (fun _ _ _ _ _ => (pg_name (i := 1) sc__law_tour_houses.nd rfl (Or.inl rfl))) (fun _ _ _ _ _ => (pts_one (pt_cmpR op_eq (pe_ix (ix_tupK (K := K) rfl) (pv 1 (hd := nd_key) (hcd := nc_key)) pe_int (fun _ _ => rfl)) pe_str (nomark _)))) (fun _ _ _ _ _ => (pe_ix (ix_tupK (K := K) rfl) (pv 1 (hd := nd_key) (hcd := nc_key)) pe_int (fun _ _ => rfl)))) pa_nil) (hn := nn_sorted) (hdb := nd_sorted)))), ?_⟩
  refine Rd.at0 (σ := [some (.ref a), none]) rfl ?_
  obtain ⟨vs, ea, kvs, lv⟩ := kl_len hk
  repeat' (walk_at "rd")
  refine lcF vs (fun i => (ks[i]?.bind hS).map V.str) (.inl (.inl ea)) (by omega) (fun i v h hv s => ?_) fun L G n s e => ?_
  · intro L Nx yes no
    obtain ⟨k, hk, ok, t, rfl, ht⟩ := kvs.at hv
    have ht' := s _ _ ht
    refine turn1 ?_
    cases k with
    | h x =>
      have ht' : h t = some (.tup [.str "house", .str x]) := ht'
      have ei : (ks[i]?.bind hS).map V.str = some (.str x) := by rw [hk]; rfl
      repeat' (walk_at "rd")
      refine ⟨rfl, ?_⟩
      repeat' (walk_at "rd")
      exact yes _ _ ei (.refl _)
    | a l x y =>
      have ht' : h t = some (.tup [.str "arc", .str l, .str x, .str y]) := ht'
      have ei : (ks[i]?.bind hS).map V.str = none := by rw [hk]; rfl
      repeat' (walk_at "rd")
      refine ⟨rfl, ?_⟩
      repeat' (walk_at "rd")
      exact no _ ei (.refl _)
  · rw [fm_keys lv] at e
    repeat' (walk_at "rd")
    exact ⟨L, _, rfl, .inl (.inl e), h64, fun ys p pm sy np => q p ys _ pm sy (s.free np) (s.trans (same_upd np)) upd_same⟩
/-- _law_tour_lines(keys) -/
def spTourLinesL : Sp := fun vs H Q _ => ∃ (a : Addr) (ks : List Ky), vs = [.ref a] ∧ KL H a ks ∧ ks.length ≤ 1000 ∧ (∀ ns : List Str, ns.Nodup → (∀ l ∈ ns, ∃ x y, Ky.a l x y ∈ ks) → ns.length < 64) ∧
  ∀ (L : Addr) (ys : List Str) (H' : Hp), ys.Nodup → (∀ l, l ∈ ys ↔ ∃ x y, Ky.a l x y ∈ ks) → sortedS ys = true → H L = none → Same H H' → H' L = some (.lst (ys.map V.str)) → Q (.ref L) H'
theorem niStr {H : Hp} {Q : VK} {z : Str} {p : Addr} {zs : List Str} (h : H p = some (.lst (zs.map V.str))) (q : Q (.bl (!decide (z ∈ zs))) H) : rIn K true (.str z) (.ref p) H Q := by
  refine ⟨p, _, rfl, .inl (.inl (.inl h)), rfl, ?_, ?_⟩
  · rw [List.all_eq_true]
    intro x hx
    obtain ⟨b, _, rfl⟩ := List.mem_map.mp hx
    rfl
  · rw [if_pos rfl, inV_strs]
    exact q
theorem ok__law_tour_lines (F : Def K mg "_law_tour_lines" s__law_tour_lines P__law_tour_lines) (m_sorted : mg "sorted" = none) : Cal P w K mg base 2 "_law_tour_lines" P__law_tour_lines spTourLinesL := by
  refine F.ok sc__law_tour_lines (fun vs H Q E h => ?_) (fun f cdv A outer s H vs Q E hr h => ?_)
  · obtain ⟨a, ks, rfl, _⟩ := h
    rfl
  obtain ⟨a, ks, rfl, hk, hl, h64, q⟩ := h
  refine ⟨_, (pss_cons (ps_set (i := 1) sc__law_tour_lines.nd rfl (Or.inl rfl) (pe_lst pa_nil))
  (pss_cons (ps_for PassesOwn.never rfl (pi_list (pv 0 (hd := nd_keys) (hcd := nc_keys))) (pg_name (i := 2) sc__law_tour_lines.nd rfl (Or.inl rfl)) (pss_one (ps_if (PW.pt (pw_and (pt_cmpR op_eq (pe_ix ix_tup (pv 2 (hd := nd_key) (hcd := nc_key)) pe_int (fun _ _ => rfl)) pe_str (nomark _)) (pw_and1 (pt_cmpR op_notIn_seq (pe_ix ix_tup (pv 2 (hd := nd_key) (hcd := nc_key)) pe_int (fun _ _ => rfl)) (pv 1 (hd := nd_names) (hcd := nc_names)) (by rfl))))) (pss_one (ps_expr (pe_bm PySem.F.plainAttrs_list PySem.F.slot_list_append PySem.F.type_list_append mt_append (pv 1 (hd := nd_names) (hcd := nc_names)) (pa_cons (pe_ix ix_tup (pv 2 (hd := nd_key) (hcd := nc_key)) pe_int (fun _ _ => rfl)) pa_nil)))) pss_nil)))
  (pss_one (ps_ret (pe_callB (q_sortedSK (K := K) rfl) (by rfl) m_sorted bb_sorted (pa_cons (pv 1 (hd := nd_names) (hcd := nc_names)) pa_nil) (hn := nn_sorted) (hdb := nd_sorted)))))), ?_⟩
  refine Rd.at0 (σ := [some (.ref a), none, none]) rfl ?_
  obtain ⟨vs, ea, kvs, lv⟩ := kl_len hk
  repeat' (walk_at "rd")
  rename_i n0 nn0 G0 s0 e0
  refine forL vs (fun i σ H' => ∃ (v2 : Option V) (ns : List Str), σ = [some (.ref a), some (.ref n0), v2] ∧ Same H H' ∧ H' n0 = some (.lst (ns.map V.str)) ∧ ns.Nodup ∧ ns.length ≤ i ∧ ∀ l, l ∈ ns ↔ ∃ x y, Ky.a l x y ∈ ks.take i) ⟨none, [], rfl, s0, e0, .nil, Nat.le_refl _, fun l => by simp⟩ ?_ ?_ ?_
  · rintro i σ H' _ ⟨_, _, rfl, s1, _⟩
    exact .inl (.inl (s1 _ _ ea))
  · rintro i v σ H' hv ⟨_, ns, rfl, s1, e1, nd, ll, lm⟩
    obtain ⟨k, hk', ok, t, rfl, ht⟩ := kvs.at hv
    have ht := s1 _ _ ht
    have il := (List.getElem?_eq_some_iff.mp hv).1
    have et : ks.take (i + 1) = ks.take i ++ [k] := by rw [List.take_add_one, hk']; rfl
    cases k with
    | h x =>
      have ht : H' t = some (.tup [.str "house", .str x]) := ht
      repeat' (walk_at "rd")
      exact ⟨_, ns, rfl, s1, e1, nd, by omega, fun l => by rw [lm, et]; simp⟩
    | a l x y =>
      have ht : H' t = some (.tup [.str "arc", .str l, .str x, .str y]) := ht
      repeat' (walk_at "rd")
      refine niStr e1 ?_
      refine exbl ?_
      by_cases m : l ∈ ns
      · rw [decide_eq_true m]
        repeat' (walk_at "rd")
        refine ⟨_, ns, rfl, s1, e1, nd, by omega, fun j => ?_⟩
        rw [lm, et]
        simp only [List.mem_append, List.mem_singleton]
        constructor
        · rintro ⟨u, v, h⟩
          exact ⟨u, v, .inl h⟩
        · rintro ⟨u, v, h | h⟩
          · exact ⟨u, v, h⟩
          · cases h
            exact (lm l).mp m
      · rw [decide_eq_false m]
        repeat' (walk_at "rd")
        refine Rd.append e1 (by rw [List.length_map]; exact sz5' (by omega)) ?_
        refine ⟨_, ns ++ [l], rfl, fun b o e => (upd_ne (ne_of_none e nn0)).trans (s1 _ _ e), by rw [upd_same, List.map_append]; rfl, ?_, by rw [List.length_append]; exact Nat.succ_le_succ ll, fun j => ?_⟩
        · exact List.nodup_append.mpr ⟨nd, List.nodup_cons.mpr ⟨List.not_mem_nil, .nil⟩, fun a ha b hb => by rw [List.mem_singleton.mp hb]; exact fun z => m (z ▸ ha)⟩
        · rw [et]
          simp only [List.mem_append, List.mem_singleton]
          constructor
          · rintro (h | rfl)
            · obtain ⟨u, v, h⟩ := (lm j).mp h
              exact ⟨u, v, .inl h⟩
            · exact ⟨x, y, .inr rfl⟩
          · rintro ⟨u, v, h | h⟩
            · exact .inl ((lm j).mpr ⟨u, v, h⟩)
            · cases h
              exact .inr rfl
  · rintro σ H' ⟨_, ns, rfl, s1, e1, nd, ll, lm⟩
    rw [List.take_of_length_le (by omega)] at lm
    repeat' (walk_at "rd")
    exact ⟨n0, ns, rfl, .inl (.inl e1), h64 ns nd fun l m => (lm l).mp m, fun ys p pm sy np => q p ys _ (pm.nodup_iff.mpr nd) (fun l => (pm.mem_iff).trans (lm l)) sy (s1.free np) (s1.trans (same_upd np)) upd_same⟩
end
/-! ### lists of keys, sorted -/
open Ty
theorem cr_sortedTSK {X : Cx} {K : PySem.W.Frag} (h : X.K = K) : CallR X (.builtin "sorted") (rSortedTS K) := h ▸ cr_sortedTS
theorem KVs.perm {H : Hp} : ∀ {ys vs : List V}, ys.Perm vs → ∀ {ks : List Ky}, KVs H vs ks → ∃ js : List Ky, KVs H ys js ∧ js.Perm ks := by
  intro ys vs p
  induction p with
  | nil => exact fun {ks} h => ⟨ks, h, .refl _⟩
  | cons x _ ih =>
    intro ks h
    match ks, h with
    | k :: ks, h =>
      obtain ⟨js, a, b⟩ := ih h.2
      exact ⟨k :: js, ⟨h.1, a⟩, b.cons k⟩
  | swap x y l =>
    intro ks h
    match ks, h with
    | k :: j :: ks, h => exact ⟨j :: k :: ks, ⟨h.2.1, h.1, h.2.2⟩, .swap ..⟩
  | trans _ _ ih1 ih2 =>
    intro ks h
    obtain ⟨js, a, b⟩ := ih2 h
    obtain ⟨is, a', b'⟩ := ih1 a
    exact ⟨is, a', b'.trans b⟩
def stO : V → Str
  | .str s => s
  | _ => ""
def kOf (H : Hp) : V → List Str
  | .ref t => match H t with
    | some (.tup ws) => ws.map stO
    | _ => []
  | _ => []
theorem kOf_kv {H : Hp} {v : V} {k : Ky} (h : KV H v k) : kOf H v = kv k := by
  obtain ⟨_, t, rfl, e⟩ := h
  show (match H t with
    | some (.tup ws) => ws.map stO
    | _ => []) = kv k
  rw [e]
  show ((kv k).map V.str).map stO = kv k
  rw [List.map_map]
  exact List.map_id _
theorem kv_ne (k : Ky) : kv k ≠ [] := by cases k <;> exact List.cons_ne_nil _ _
def SrtK (ks : List Ky) : Prop := ks.Pairwise fun x y => lexS (kv y) (kv x) = false
theorem kvs_pw {H : Hp} : ∀ {vs : List V} {ks : List Ky}, KVs H vs ks → vs.Pairwise (fun x y => lexS (kOf H y) (kOf H x) = false) → SrtK ks
  | [], [], _, _ => .nil
  | v :: vs, k :: ks, h, p => by
    obtain ⟨a, b⟩ := List.pairwise_cons.mp p
    refine List.pairwise_cons.mpr ⟨fun j hj => ?_, kvs_pw h.2 b⟩
    obtain ⟨i, hi⟩ := List.mem_iff_getElem?.mp hj
    have l : i < vs.length := by
      rw [h.2.len]
      exact (List.getElem?_eq_some_iff.mp hi).1
    obtain ⟨j', e, kj⟩ := h.2.at (List.getElem?_eq_getElem l)
    rw [hi] at e
    cases e
    have := a _ (List.getElem_mem l)
    rwa [kOf_kv kj, kOf_kv h.1] at this
  | [], _ :: _, h, _ => h.elim
  | _ :: _, [], h, _ => h.elim
theorem sortK {K : PySem.W.Frag} {H : Hp} {Q : VK} {a : Addr} {ks : List Ky} (h : KL H a ks) (q : ∀ js p G, js.Perm ks → SrtK js → H p = none → Same H G → KL G p js → Q (.ref p) G) : rSortedTS K [.ref a] H Q := by
  obtain ⟨vs, e, k⟩ := h
  refine ⟨a, vs, kOf H, rfl, .inl (.inl e), fun x m => ?_, fun ys p pw pm n => ?_⟩
  · obtain ⟨k', _, hk⟩ := k.mem m
    obtain ⟨_, t, rfl, ht⟩ := id hk
    exact ⟨t, rfl, by rw [kOf_kv hk]; exact kv_ne _, by rw [kOf_kv hk]; exact ht⟩
  · obtain ⟨js, hj, pj⟩ := KVs.perm pm k
    exact q js p _ pj (kvs_pw hj pw) n (same_upd n) ⟨ys, upd_same, hj.same (same_upd n)⟩
theorem srt_one {xs ys : List Ky} (p : xs.Perm ys) (h : SrtK xs) (k : SrtK ys) : xs = ys := List.Perm.eq_of_pairwise (le := fun x y => lexS (kv y) (kv x) = false) (fun a b _ _ h1 h2 => kv_inj (lexS_antisymm h2 h1)) h k p
/-! ### a tour parted: two tours -/
open Ty
def At1 (k : Ky) (m x y : Str) : Prop := k = .a m x y
/-- a walk: the houses that it meets are no more than its lines and one -/
theorem walk_count (One : Str → Str → Str → Prop) (one : ∀ m x y u v, One m x y → One m u v → (u = x ∧ v = y) ∨ (u = y ∧ v = x)) :
    ∀ (W : List Ky) (p t : Str) (vs ns : List Str), Ch p W t → (∀ m x y, .a m x y ∈ W → One m x y) → p ∈ vs → ns.Nodup → (∀ m ∈ ns, ∃ x y, One m x y ∧ x ∈ vs ∧ y ∈ vs) → vs.length ≤ ns.length + 1 →
      ∃ vs' ns' : List Str, ns'.Nodup ∧ vs'.length ≤ ns'.length + 1 ∧ (∀ x ∈ vs, x ∈ vs') ∧ (∀ k ∈ W, k.start ∈ vs') ∧ ∀ m ∈ ns', m ∈ ns ∨ ∃ x y, .a m x y ∈ W
  | [], p, t, vs, ns, _, _, _, nd, _, l => ⟨vs, ns, nd, l, fun _ h => h, fun _ h => (nomatch h), fun _ h => .inl h⟩
  | .h x :: W, p, t, vs, ns, hc, h1, hp, nd, hn, l => by
    obtain ⟨e, hc⟩ := hc
    obtain ⟨vs', ns', a, b, c, d, f⟩ := walk_count One one W x t vs ns hc (fun m y z k => h1 m y z (List.mem_cons_of_mem _ k)) (by have e : x = p := e; rw [e]; exact hp) nd hn l
    refine ⟨vs', ns', a, b, c, fun k hk => ?_, fun m hm => (f m hm).imp id fun ⟨y, z, k⟩ => ⟨y, z, List.mem_cons_of_mem _ k⟩⟩
    rcases List.mem_cons.mp hk with rfl | hk
    · have e : x = p := e
      exact c _ (by show x ∈ vs; rw [e]; exact hp)
    · exact d k hk
  | .a m x y :: W, p, t, vs, ns, hc, h1, hp, nd, hn, l => by
    obtain ⟨e, hc⟩ := hc
    have e : x = p := e
    subst e
    have om := h1 m x y List.mem_cons_self
    have rest : ∀ m' y' z', .a m' y' z' ∈ W → One m' y' z' := fun m y z k => h1 m y z (List.mem_cons_of_mem _ k)
    have fin : ∀ {vs' ns' : List Str}, (∀ z ∈ vs, z ∈ vs') → (∀ k ∈ W, k.start ∈ vs') → ∀ k ∈ Ky.a m x y :: W, k.start ∈ vs' := fun c d k hk => by
      rcases List.mem_cons.mp hk with rfl | hk
      · exact c _ hp
      · exact d k hk
    by_cases mm : m ∈ ns
    · obtain ⟨u, v, o, hu, hv⟩ := hn m mm
      have hy : y ∈ vs := by
        rcases one m u v x y o om with ⟨rfl, rfl⟩ | ⟨rfl, rfl⟩
        · exact hv
        · exact hu
      obtain ⟨vs', ns', a, b, c, d, f⟩ := walk_count One one W y t vs ns hc rest hy nd hn l
      exact ⟨vs', ns', a, b, c, fin (ns' := ns') c d, fun m hm => (f m hm).imp id fun ⟨y, z, k⟩ => ⟨y, z, List.mem_cons_of_mem _ k⟩⟩
    · obtain ⟨vs', ns', a, b, c, d, f⟩ := walk_count One one W y t (y :: vs) (m :: ns) hc rest List.mem_cons_self (List.nodup_cons.mpr ⟨mm, nd⟩) (fun j hj => by
        rcases List.mem_cons.mp hj with rfl | hj
        · exact ⟨x, y, om, List.mem_cons_of_mem _ hp, List.mem_cons_self⟩
        · obtain ⟨u, v, o, hu, hv⟩ := hn j hj
          exact ⟨u, v, o, List.mem_cons_of_mem _ hu, List.mem_cons_of_mem _ hv⟩) (by simp only [List.length_cons]; omega)
      have c' : ∀ z ∈ vs, z ∈ vs' := fun z hz => c z (List.mem_cons_of_mem _ hz)
      refine ⟨vs', ns', a, b, c', fin (ns' := ns') c' d, fun j hj => ?_⟩
      rcases f j hj with h | ⟨y', z', k⟩
      · rcases List.mem_cons.mp h with rfl | h
        · exact .inr ⟨x, y, List.mem_cons_self⟩
        · exact .inl h
      · exact .inr ⟨y', z', List.mem_cons_of_mem _ k⟩
/-- two arcs of each line at least -/
theorem count_ge : ∀ {ns : List Str} {as : List (Str × Str × Str)}, ns.Nodup → (∀ l ∈ ns, 2 ≤ (as.filter fun a => decide (a.1 = l)).length) → 2 * ns.length ≤ as.length
  | [], as, _, _ => Nat.zero_le _
  | l :: ls, as, nd, k => by
    obtain ⟨n, nd⟩ := List.nodup_cons.mp nd
    have e := count_two.flt_two' (fun a => decide (a.1 = l)) as
    have ih := count_ge (ns := ls) (as := as.filter fun a => !decide (a.1 = l)) nd fun m hm => by
      rw [List.filter_filter]
      have : (fun a : Str × Str × Str => decide (a.1 = m) && !decide (a.1 = l)) = fun a => decide (a.1 = m) := funext fun a => by
        by_cases z : a.1 = m
        · rw [decide_eq_true z, decide_eq_false (fun w => n (by rw [← w, z]; exact hm))]
          rfl
        · rw [decide_eq_false z]
          rfl
      rw [this]
      exact k m (List.mem_cons_of_mem _ hm)
    have := k l List.mem_cons_self
    rw [List.length_cons]
    omega
theorem nodup_leG {α : Type} [DecidableEq α] : ∀ {xs ys : List α}, xs.Nodup → (∀ x ∈ xs, x ∈ ys) → xs.length ≤ ys.length
  | [], _, _, _ => Nat.zero_le _
  | x :: xs, ys, nd, h => by
    have m := h x List.mem_cons_self
    obtain ⟨n, nd⟩ := List.nodup_cons.mp nd
    have := nodup_leG (xs := xs) (ys := ys.erase x) nd fun z hz => (List.mem_erase_of_ne (fun e => n (by rw [← e]; exact hz))).mpr (h z (List.mem_cons_of_mem _ hz))
    rw [List.length_erase_of_mem m] at this
    have := List.length_pos_of_mem m
    rw [List.length_cons]
    omega
theorem two_arcs {ks : List Ky} {m x y : Str} (nd : ks.Nodup) (ne : x ≠ y) (h : .a m x y ∈ ks) (h' : .a m y x ∈ ks) : 2 ≤ ((asOf ks).filter fun a => decide (a.1 = m)).length := by
  have n2 := (as_nodup nd).sublist (List.filter_sublist (p := fun a : Str × Str × Str => decide (a.1 = m)))
  refine nodup_leG (xs := [(m, x, y), (m, y, x)]) (List.nodup_cons.mpr ⟨fun z => ne ?_, List.nodup_cons.mpr ⟨List.not_mem_nil, .nil⟩⟩) fun a ha => ?_
  · have z := List.mem_singleton.mp z
    simp only [Prod.mk.injEq, true_and] at z
    exact z.1
  · rcases List.mem_cons.mp ha with rfl | ha
    · exact List.mem_filter.mpr ⟨as_mem.mpr h, decide_eq_true rfl⟩
    · rw [List.mem_singleton.mp ha]
      exact List.mem_filter.mpr ⟨as_mem.mpr h', decide_eq_true rfl⟩
theorem ch_visit : ∀ {ks : List Ky} {s t : Str} {k : Ky}, Ch s ks t → k ∈ ks → ∃ A B, ks = A ++ k :: B ∧ Ch s A k.start ∧ Ch k.start (k :: B) t
  | k' :: ks, s, t, k, hc, m => by
    rcases List.mem_cons.mp m with rfl | m
    · obtain ⟨e, hc⟩ := hc
      exact ⟨[], ks, rfl, e.symm, rfl, hc⟩
    · obtain ⟨e, hc⟩ := hc
      obtain ⟨A, B, rfl, a, b⟩ := ch_visit hc m
      exact ⟨k' :: A, B, rfl, ⟨e, a⟩, b⟩
theorem ch_next {ks : List Ky} {s : Str} {k : Ky} (hc : Ch s ks s) (m : k ∈ ks) : ∃ j ∈ ks, j.start = k.stop := by
  obtain ⟨A, B, rfl, a, b⟩ := ch_visit hc m
  obtain ⟨_, b⟩ := b
  cases B with
  | nil =>
    have b : k.stop = s := b
    cases A with
    | nil => exact ⟨k, List.mem_cons_self, by have a : s = k.start := a; rw [b, a]⟩
    | cons c A => exact ⟨c, List.mem_cons_self, by rw [b]; exact a.1⟩
  | cons c B => exact ⟨c, by simp, b.1⟩
theorem T.part {xs ys zs : List Ky} {l u v p q : Str} (h : T (xs ++ .a l u v :: (ys ++ .a l p q :: zs))) :
    p = v ∧ q = u ∧ T (xs ++ zs) ∧ T ys ∧ (∀ x y, Ky.a l x y ∉ xs ++ zs) ∧ (∀ x y, Ky.a l x y ∉ ys) ∧ Ky.h u ∈ xs ++ zs ∧ Ky.h v ∈ ys ∧ (∀ k j : Ky, k ∈ xs ++ zs → j ∈ ys → k.start ≠ j.start) ∧ (∀ m x y a b, Ky.a m x y ∈ xs ++ zs → Ky.a m a b ∈ ys → False) := by
  have mem : ∀ k, k ∈ xs ++ .a l u v :: (ys ++ .a l p q :: zs) ↔ k ∈ xs ++ zs ∨ k ∈ ys ∨ k = .a l u v ∨ k = .a l p q := fun k => by
    simp only [List.mem_append, List.mem_cons]
    constructor
    · rintro (h | h | h | h | h)
      · exact .inl (.inl h)
      · exact .inr (.inr (.inl h))
      · exact .inr (.inl h)
      · exact .inr (.inr (.inr h))
      · exact .inl (.inr h)
    · rintro ((h | h) | h | h | h)
      · exact .inl h
      · exact .inr (.inr (.inr (.inr h)))
      · exact .inr (.inr (.inl h))
      · exact .inr (.inl h)
      · exact .inr (.inr (.inr (.inl h)))
  have m1 := (mem (.a l u v)).mpr (.inr (.inr (.inl rfl)))
  have m2 := (mem (.a l p q)).mpr (.inr (.inr (.inr rfl)))
  have nd := h.nd
  have nd1 := (List.nodup_append.mp nd).2.1
  have ne12 : Ky.a l u v ≠ .a l p q := fun e => (List.nodup_cons.mp nd1).1 (by rw [e]; simp)
  obtain ⟨rfl, rfl⟩ : p = v ∧ q = u := by
    rcases h.one l u v p q m1 m2 with ⟨rfl, rfl⟩ | ⟨rfl, rfl⟩
    · exact absurd rfl ne12
    · exact ⟨rfl, rfl⟩
  have k1O : Ky.a l q p ∉ xs ++ zs := fun m => by
    rcases List.mem_append.mp m with m | m
    · exact (List.nodup_append.mp nd).2.2 _ m _ List.mem_cons_self rfl
    · exact (List.nodup_cons.mp nd1).1 (by simp [m])
  have k1Y : Ky.a l q p ∉ ys := fun m => (List.nodup_cons.mp nd1).1 (by simp [m])
  have nd2 := (List.nodup_cons.mp nd1).2
  have k2Y : Ky.a l p q ∉ ys := fun m => (List.nodup_append.mp nd2).2.2 _ m _ List.mem_cons_self rfl
  have k2O : Ky.a l p q ∉ xs ++ zs := fun m => by
    rcases List.mem_append.mp m with m | m
    · exact (List.nodup_append.mp nd).2.2 _ m (.a l p q) (by simp) rfl
    · exact (List.nodup_cons.mp (List.nodup_append.mp nd2).2.1).1 m
  have noL : ∀ x y, Ky.a l x y ∈ xs ++ zs ∨ Ky.a l x y ∈ ys → False := fun x y m => by
    have mk := (mem (.a l x y)).mpr (m.imp id .inl)
    rcases h.one l q p x y m1 mk with ⟨rfl, rfl⟩ | ⟨rfl, rfl⟩
    · exact m.elim k1O k1Y
    · exact m.elim k2O k2Y
  obtain ⟨s, hc⟩ := h.cyc
  obtain ⟨a1, c1, e1, hc⟩ := ch_app.mp hc
  have e1 : q = a1 := e1
  subst e1
  obtain ⟨a2, c2, e2, c3⟩ := ch_app.mp hc
  have e2 : p = a2 := e2
  subst e2
  have c2 : Ch p ys p := c2
  have c3 : Ch q zs s := c3
  have cO : Ch s (xs ++ zs) s := ch_app.mpr ⟨q, c1, c3⟩
  have over : ∀ k j : Ky, k ∈ xs ++ zs → j ∈ ys → k.start = j.start → False := fun k j hk hj e => by
    obtain ⟨O1, O2, eO, d1, d2⟩ := ch_visit cO hk
    obtain ⟨Y1, Y2, eY, d3, d4⟩ := ch_visit c2 hj
    rw [← e] at d3 d4
    have hW : Ch s (O1 ++ (((j :: Y2) ++ Y1) ++ (k :: O2))) s := ch_app.mpr ⟨k.start, d1, ch_app.mpr ⟨k.start, ch_app.mpr ⟨p, d4, d3⟩, d2⟩⟩
    have mW : ∀ i, i ∈ O1 ++ (((j :: Y2) ++ Y1) ++ (k :: O2)) ↔ i ∈ xs ++ zs ∨ i ∈ ys := fun i => by
      rw [eO, eY]
      simp only [List.mem_append, List.mem_cons]
      constructor
      · rintro (h | ((h | h) | h) | h | h) <;> simp [h]
      · rintro ((h | h | h) | h | h | h) <;> simp [h]
    obtain ⟨vs, ns, nn, ln, _, hv, hn⟩ := walk_count (fun m x y => Ky.a m x y ∈ xs ++ .a l q p :: (ys ++ .a l p q :: zs)) (fun m x y u v a b => h.one m x y u v a b) _ s s [s] [] hW
      (fun m x y i => (mem _).mpr (((mW _).mp i).imp id .inl)) List.mem_cons_self .nil (fun _ m => (nomatch m)) (Nat.le_refl _)
    have hh : (hsOf (xs ++ .a l q p :: (ys ++ .a l p q :: zs))).length ≤ vs.length := nodup_le (hs_nodup nd) fun x m => by
      have m := hs_mem.mp m
      have m' : Ky.h x ∈ xs ++ zs ∨ Ky.h x ∈ ys := by
        rcases (mem _).mp m with m | m | m | m
        · exact .inl m
        · exact .inr m
        · cases m
        · cases m
      exact hv _ ((mW _).mpr m')
    have hl : 2 * (l :: ns).length ≤ (asOf (xs ++ .a l q p :: (ys ++ .a l p q :: zs))).length := by
      have sub : ∀ m ∈ ns, ∃ x y, (Ky.a m x y ∈ xs ++ zs ∨ Ky.a m x y ∈ ys) := fun m hm => by
        rcases hn m hm with z | ⟨x, y, z⟩
        · cases z
        · exact ⟨x, y, (mW _).mp z⟩
      refine count_ge (List.nodup_cons.mpr ⟨fun hm => ?_, nn⟩) fun m hm => ?_
      · obtain ⟨x, y, z⟩ := sub l hm
        exact noL x y z
      · rcases List.mem_cons.mp hm with rfl | hm
        · exact two_arcs nd (h.ne _ _ _ m1) m1 m2
        · obtain ⟨x, y, z⟩ := sub m hm
          have z := (mem _).mpr (z.imp id .inl)
          exact two_arcs nd (h.ne _ _ _ z) z (h.rev _ _ _ z)
    have := h.cnt
    rw [List.length_cons] at hl
    omega
  have revN : ∀ m x y, Ky.a m x y ∈ ys → Ky.a m y x ∈ xs ++ zs → False := fun m x y a b => by
    obtain ⟨k, hk, e⟩ := ch_next cO b
    exact over k _ hk a e
  have revY : ∀ m x y, Ky.a m x y ∈ ys → Ky.a m y x ∈ ys := fun m x y a => by
    rcases (mem _).mp (h.rev m x y ((mem _).mpr (.inr (.inl a)))) with b | b | b | b
    · exact (revN m x y a b).elim
    · exact b
    · cases b
      exact (noL _ _ (.inr a)).elim
    · cases b
      exact (noL _ _ (.inr a)).elim
  have revO : ∀ m x y, Ky.a m x y ∈ xs ++ zs → Ky.a m y x ∈ xs ++ zs := fun m x y a => by
    rcases (mem _).mp (h.rev m x y ((mem _).mpr (.inl a))) with b | b | b | b
    · exact b
    · exact (revN m y x b a).elim
    · cases b
      exact (noL _ _ (.inl a)).elim
    · cases b
      exact (noL _ _ (.inl a)).elim
  have ndO : (xs ++ zs).Nodup := by
    refine nd.sublist ?_
    refine List.Sublist.append (.refl _) (List.Sublist.cons _ ?_)
    exact List.Sublist.trans (List.sublist_cons_self _ _) (List.sublist_append_right _ _)
  have ndY : ys.Nodup := (List.nodup_append.mp nd2).1
  have inO : ∀ {k : Ky}, k ∈ xs ++ zs → k ∈ xs ++ .a l q p :: (ys ++ .a l p q :: zs) := fun m => (mem _).mpr (.inl m)
  have inY : ∀ {k : Ky}, k ∈ ys → k ∈ xs ++ .a l q p :: (ys ++ .a l p q :: zs) := fun m => (mem _).mpr (.inr (.inl m))
  have hsO : ∀ m x y, Ky.a m x y ∈ xs ++ zs → Ky.h x ∈ xs ++ zs := fun m x y a => by
    rcases (mem _).mp (h.hs m x y (inO a)) with b | b | b | b
    · exact b
    · exact (over _ _ a b rfl).elim
    · cases b
    · cases b
  have hsY : ∀ m x y, Ky.a m x y ∈ ys → Ky.h x ∈ ys := fun m x y a => by
    rcases (mem _).mp (h.hs m x y (inY a)) with b | b | b | b
    · exact (over _ _ b a rfl).elim
    · exact b
    · cases b
    · cases b
  have half : ∀ {L : List Ky} {t : Str}, Ch t L t → L.Nodup → (∀ {k : Ky}, k ∈ L → k ∈ xs ++ .a l q p :: (ys ++ .a l p q :: zs)) → (∀ m x y, Ky.a m x y ∈ L → Ky.a m y x ∈ L) → (hsOf L).length * 2 ≤ (asOf L).length + 2 := fun {L t} hc nL iL rL => by
    obtain ⟨vs, ns, nn, ln, _, hv, hn⟩ := walk_count (fun m x y => Ky.a m x y ∈ xs ++ .a l q p :: (ys ++ .a l p q :: zs)) (fun m x y u v a b => h.one m x y u v a b) L t t [t] [] hc
      (fun m x y i => iL i) List.mem_cons_self .nil (fun _ m => (nomatch m)) (Nat.le_refl _)
    have hh : (hsOf L).length ≤ vs.length := nodup_le (hs_nodup nL) fun x m => hv _ (hs_mem.mp m)
    have hl : 2 * ns.length ≤ (asOf L).length := count_ge nn fun m hm => by
      rcases hn m hm with z | ⟨x, y, z⟩
      · cases z
      · exact two_arcs nL (h.ne _ _ _ (iL z)) z (rL _ _ _ z)
    omega
  have hO := half cO ndO inO revO
  have hY := half c2 ndY inY revY
  have cn := h.cnt
  have l1 : (hsOf (xs ++ .a l q p :: (ys ++ .a l p q :: zs))).length = (hsOf (xs ++ zs)).length + (hsOf ys).length := by
    simp only [hs_app, List.length_append]
    show (hsOf xs).length + (hsOf (ys ++ Ky.a l p q :: zs)).length = _
    rw [hs_app, List.length_append]
    show (hsOf xs).length + ((hsOf ys).length + (hsOf zs).length) = _
    omega
  have l2 : (asOf (xs ++ .a l q p :: (ys ++ .a l p q :: zs))).length = (asOf (xs ++ zs)).length + (asOf ys).length + 2 := by
    simp only [as_app, List.length_append]
    show (asOf xs).length + ((asOf (ys ++ Ky.a l p q :: zs)).length + 1) = _
    rw [as_app, List.length_append]
    show (asOf xs).length + ((asOf ys).length + ((asOf zs).length + 1) + 1) = _
    omega
  have tO : T (xs ++ zs) := ⟨fun k m => h.nm k (inO m), ndO, fun m x y a => h.ne m x y (inO a), revO, fun m x y u v a b => h.one m x y u v (inO a) (inO b), hsO, ⟨s, cO⟩, by omega⟩
  have tY : T ys := ⟨fun k m => h.nm k (inY m), ndY, fun m x y a => h.ne m x y (inY a), revY, fun m x y u v a b => h.one m x y u v (inY a) (inY b), hsY, ⟨p, c2⟩, by omega⟩
  refine ⟨rfl, rfl, tO, tY, fun x y m => noL x y (.inl m), fun x y m => noL x y (.inr m), ?_, ?_, over, fun m x y a b k j => ?_⟩
  · rcases (mem _).mp (h.hs l q p m1) with b | b | b | b
    · exact b
    · exfalso
      obtain ⟨k, hk⟩ : ∃ k, k ∈ xs ++ zs := List.exists_mem_of_length_pos tO.pos
      have : ∃ k ∈ xs ++ zs, k.start = q := by
        by_cases z : zs = []
        · subst z
          have c3 : q = s := c3
          subst c3
          cases ex : xs ++ [] with
          | nil =>
            rw [ex] at hk
            cases hk
          | cons c r =>
            rw [ex] at cO
            exact ⟨c, List.mem_cons_self, cO.1⟩
        · obtain ⟨c, r, rfl⟩ := List.exists_cons_of_ne_nil z
          exact ⟨c, by simp, c3.1⟩
      obtain ⟨k, hk, e⟩ := this
      exact over k _ hk b e
    · cases b
    · cases b
  · rcases (mem _).mp (h.hs l p q m2) with b | b | b | b
    · exfalso
      obtain ⟨k, hk⟩ : ∃ k, k ∈ ys := List.exists_mem_of_length_pos tY.pos
      cases ys with
      | nil => cases hk
      | cons c r => exact over _ c b List.mem_cons_self c2.1.symm
    · exact b
    · cases b
    · cases b
  · rcases h.one m x y a b (inO k) (inY j) with ⟨e, _⟩ | ⟨e1, e2⟩
    · exact over _ _ k j (by show x = a; exact e.symm)
    · rw [e1, e2] at j
      exact revN m y x j k
theorem first_isL {l : Str} : ∀ {ks : List Ky}, (∃ k ∈ ks, isL l k = true) → ∃ xs k ys, ks = xs ++ k :: ys ∧ isL l k = true ∧ ∀ j ∈ xs, isL l j = false
  | [], h => by
    obtain ⟨k, m, _⟩ := h
    cases m
  | k :: ks, h => by
    cases c : isL l k with
    | true => exact ⟨[], k, ks, rfl, c, fun _ m => (nomatch m)⟩
    | false =>
      obtain ⟨xs, j, ys, e, cj, no⟩ := first_isL (ks := ks) (by
        obtain ⟨j, m, cj⟩ := h
        rcases List.mem_cons.mp m with rfl | m
        · rw [c] at cj
          cases cj
        · exact ⟨j, m, cj⟩)
      refine ⟨k :: xs, j, ys, by rw [e]; rfl, cj, fun i m => ?_⟩
      rcases List.mem_cons.mp m with rfl | m
      · exact c
      · exact no i m
theorem isL_is {l : Str} {k : Ky} (h : isL l k = true) : ∃ x y, k = .a l x y := by
  cases k with
  | h x => cases h
  | a m x y =>
    have : m = l := of_decide_eq_true h
    subst this
    exact ⟨x, y, rfl⟩
theorem T.split {ks : List Ky} {l x y : Str} (h : T ks) (m : .a l x y ∈ ks) : ∃ u v xs ys zs, ks = xs ++ .a l u v :: (ys ++ .a l v u :: zs) ∧ (∀ k ∈ xs, isL l k = false) ∧ (∀ k ∈ ys, isL l k = false) ∧ (∀ k ∈ zs, isL l k = false) := by
  obtain ⟨xs, k, r, rfl, ck, nx⟩ := first_isL (l := l) ⟨_, m, decide_eq_true rfl⟩
  obtain ⟨u, v, rfl⟩ := isL_is ck
  have mk : Ky.a l u v ∈ xs ++ .a l u v :: r := by simp
  have rv := h.rev l u v mk
  have ne := h.ne l u v mk
  have inr : Ky.a l v u ∈ r := by
    rcases List.mem_append.mp rv with z | z
    · have := nx _ z
      rw [show isL l (.a l v u) = true from decide_eq_true rfl] at this
      cases this
    · rcases List.mem_cons.mp z with z | z
      · injection z with _ z1 _
        exact absurd z1.symm ne
      · exact z
  obtain ⟨ys, k2, zs, rfl, c2, ny⟩ := first_isL (l := l) ⟨_, inr, decide_eq_true rfl⟩
  obtain ⟨p, q, rfl⟩ := isL_is c2
  obtain ⟨rfl, rfl, _, _, n1, n2, _⟩ := Kj.T.part h
  refine ⟨q, p, xs, ys, zs, rfl, nx, ny, fun k m => ?_⟩
  cases c : isL l k with
  | false => rfl
  | true =>
    obtain ⟨a, b, rfl⟩ := isL_is c
    exact absurd (List.mem_append.mpr (.inr m)) (n1 a b)
end Kj
namespace Kj
open PySem PySem.Spec PyProof.Rows L2 Rd
/-! ### the stepper -/
local macro_rules | `(tactic| walk_at "hp") => `(tactic| first
  | assumption
  | exact upd_same
  | (refine Eq.trans (upd_ne (by first | assumption | (apply Ne.symm; assumption))) ?_; walk_at "hp"))
local macro_rules | `(tactic| walk_at "sq") => `(tactic| first
  | assumption
  | (refine Or.inl (Or.inl ?_); walk_at "hp"))
local macro_rules | `(tactic| walk_at "st") => `(tactic| first
  | assumption
  | (refine Or.inl (Or.inl ?_); walk_at "hp"))
local macro_rules | `(tactic| walk_at "ar") => `(tactic| first
  | assumption
  | omega
  | decide)
local macro_rules | `(tactic| walk_at "ci") => `(tactic| first
  | (refine (show CMul _ _ from Or.inr ⟨?_, ?_⟩) <;> omega)
  | (refine (show CMul _ _ from Or.inl ⟨?_, ?_⟩) <;> omega)
  | (show CPow _ _; exact ⟨by decide, by decide, by decide⟩)
  | (refine wide_div (b := 63) ?_ ?_ (by decide) (by decide) <;> omega)
  | (show (0 : Int) < _; omega))
local macro_rules | `(tactic| walk_at "ty") => `(tactic| first
  | exact dp_ty (by assumption)
  | exact TyX.base (TyOf.int _)
  | exact TyX.base (TyOf.str _)
  | exact TyX.base (TyOf.bl _)
  | exact TyX.base TyOf.non
  | exact tyL' (by walk_at "sq")
  | exact tyT' (by walk_at "st"))
local macro_rules | `(tactic| walk_at "isi") => `(tactic| first
  | ((with_reducible apply Rd.isiF); (walk_at "ty"); (decide))
  | ((with_reducible apply Rd.isiT); (walk_at "ty"); (decide)))
local macro_rules | `(tactic| walk_at "rd") => `(tactic| first
  | with_reducible apply Rd.seq
  | ((with_reducible apply Rd.var); rfl)
  | with_reducible apply Rd.con
  | with_reducible apply Rd.op
  | with_reducible apply Rd.asg
  | ((with_reducible apply Rd.gname); ((dsimp only [List.set, L2.wipe, Int.reduceToNat]) <;> rfl))
  | with_reducible apply Rd.nxt
  | with_reducible apply Rd.ifs
  | with_reducible apply Rd.test
  | with_reducible apply Rd.testB
  | with_reducible apply Rd.exbl
  | with_reducible apply Rd.ret
  | with_reducible apply Rd.drop
  | with_reducible apply Rd.retN
  | with_reducible apply Rd.nil
  | with_reducible apply Rd.cons
  | with_reducible apply Rd.call
  | with_reducible apply Rd.cb
  | with_reducible apply Rd.and
  | with_reducible apply Rd.or
  | with_reducible apply Rd.not
  | with_reducible apply Rd.andV
  | with_reducible apply Rd.orV
  | with_reducible apply Rd.notV
  | with_reducible apply Rd.ife
  | with_reducible apply Rd.tup
  | with_reducible apply Rd.lst
  | with_reducible apply Rd.un
  | with_reducible apply Rd.chain
  | with_reducible apply Rd.brk
  | with_reducible apply Rd.cnt
  | with_reducible apply Rd.I0
  | with_reducible apply Rd.U1
  | ((with_reducible apply Rd.eq); rfl)
  | ((with_reducible apply Rd.ne); rfl)
  | ((with_reducible apply Rd.I1); (walk_at "ci"))
  | with_reducible apply Rd.lc0
  | with_reducible apply Rd.ln0
  | with_reducible apply Rd.exN
  | ((with_reducible apply Rd.iteSf); (decide +kernel))
  | ((with_reducible apply Rd.iteSt); (decide +kernel))
  | ((with_reducible apply Rd.niQ); (exact Or.inl (by walk_at "sq")); (exact ⟨rfl, rfl⟩); (rfl))
  | ((with_reducible apply Rd.inQ); (exact Or.inl (by walk_at "sq")); (exact ⟨rfl, rfl⟩); (rfl))
  | with_reducible apply Rd.rn1
  | with_reducible apply Rd.in1
  | with_reducible apply Rd.sn1
  | with_reducible apply Rd.bn1
  | with_reducible apply Rd.nn1
  | with_reducible apply Rd.rn2
  | with_reducible apply Rd.in2
  | with_reducible apply Rd.sn2
  | with_reducible apply Rd.bn2
  | with_reducible apply Rd.nn2
  | with_reducible apply Rd.nt1
  | with_reducible apply Rd.nf1
  | (with_reducible refine Rd.iteI (fun _ => ?_) (fun _ => ?_))
  | (with_reducible refine Rd.iteNI (fun _ => ?_) (fun _ => ?_))
  | (with_reducible refine iteT ?_)
  | (with_reducible refine iteF ?_)
  | (with_reducible refine Rd.iteD (fun _ => ?_) (fun _ => ?_))
  | (with_reducible refine Rd.iteN (fun _ => ?_) (fun _ => ?_))
  | with_reducible apply Rd.intI
  | with_reducible apply Rd.intB
  | with_reducible apply Rd.maxQ
  | with_reducible apply Rd.minQ
  | with_reducible apply Rd.absQ
  | with_reducible apply Rd.isN
  | with_reducible apply Rd.noN
  | with_reducible apply Rd.ltZ
  | with_reducible apply Rd.bm
  | with_reducible apply Rd.bm0
  | with_reducible apply Rd.par
  | with_reducible apply Rd.expar
  | with_reducible apply Rd.exint
  | with_reducible apply Rd.ipi
  | with_reducible apply Rd.slice
  | with_reducible apply Rd.noPart
  | with_reducible apply Rd.part
  | with_reducible apply Rd.gcons
  | with_reducible apply Rd.gnil
  | with_reducible apply Rd.iseq
  | with_reducible apply Rd.irng1
  | walk_at "isi"
  | with_reducible apply Rd.forX
  | with_reducible apply Rd.lstRev
  | with_reducible apply Rd.lstRg
  | with_reducible apply Rd.rg1
  | with_reducible apply Rd.rg2
  | with_reducible apply Rd.exint2
  | ((with_reducible apply Rd.exrev); (walk_at "sq"))
  | with_reducible apply Rd.lcX
  | with_reducible apply Rd.yes
  | ((with_reducible apply Rd.exrng1); (constructor <;> omega))
  | ((with_reducible apply Rd.exrng2); (refine ⟨?_, ?_, ?_, ?_⟩ <;> omega))
  | with_reducible apply Rd.irng2
  | ((with_reducible apply Rd.aug); rfl)
  | ((with_reducible apply Rd.exlst); (walk_at "sq"))
  | ((with_reducible apply Rd.gtup); (walk_at "st"); (rfl))
  | ((with_reducible apply Rd.tyL); (walk_at "hp"))
  | ((with_reducible apply Rd.ixL); (walk_at "sq"); (rfl))
  | ((with_reducible apply Rd.ixI); (walk_at "sq"); (omega); (first | assumption | (simp only [List.length_map]; omega)); (intro _ _))
  | (with_reducible refine Rd.gsub ?_)
  | ((with_reducible apply Rd.setL); (walk_at "hp"); (rfl); ((dsimp only [List.set, L2.wipe, Int.reduceToNat]) <;> rfl))
  | ((with_reducible apply Rd.lenQ); (first | exact Or.inl (by walk_at "sq") | exact Or.inr (by walk_at "st")))
  | ((with_reducible apply Rd.listQ); (first | exact Or.inl (by walk_at "sq") | exact Or.inr (by walk_at "st")))
  | ((with_reducible apply Rd.tupQ); (walk_at "sq"))
  | ((with_reducible apply Rd.slL); (walk_at "sq"))
  | ((with_reducible apply Rd.ixT); (walk_at "st"); (rfl))
  | (with_reducible refine Rd.iteB (fun _ => ?_) (fun _ => ?_))
  | (with_reducible refine Rd.iteNB (fun _ => ?_) (fun _ => ?_))
  | (refine Rd.andI (Nat.le_of_ble_eq_true rfl) ?_)
  | dsimp only [List.set])
local macro_rules | `(tactic| walk_at "hp") => `(tactic| first
  | assumption
  | exact upd_same
  | (refine Eq.trans (upd_ne (by first | assumption | (apply Ne.symm; assumption))) ?_; walk_at "hp")
  | (refine hpS (by assumption) ?_; walk_at "hp"))
local macro_rules | `(tactic| walk_at "al") => `(tactic| (with_reducible intro l hl; generalize hG : upd _ l _ = G; have hs := newOne hl hG; clear hG; obtain ⟨hs, he⟩ := hs))
local macro_rules | `(tactic| walk_at "rd") => `(tactic| first
  | walk_at "al"
  | ((with_reducible apply Rd.cat); (walk_at "hp"); (walk_at "hp"); (exact Nat.le_of_ble_eq_true rfl)))
local macro_rules | `(tactic| walk_at "sm") => `(tactic| first
  | assumption
  | exact Same.refl _
  | (refine Same.trans ?_ (by assumption); walk_at "sm"))
local macro_rules | `(tactic| walk_at "fr") => `(tactic| first
  | assumption
  | (refine Same.free (by assumption) ?_; walk_at "fr"))
local macro_rules | `(tactic| walk_at "ty") => `(tactic| first
  | exact dv_ty (by assumption)
  | exact tyD' (by walk_at "hp"))
/-! ### what the law tells of an error -/
abbrev Kinds : List Str := ["BadName", "NoHouse", "NoLine", "SelfLine", "Taken", "SamePart", "NoVersion", "BadNumber", "NoSeat"]
abbrev Classes : List Str := "KeptError" :: Kinds
abbrev LN : List Str := ["BadName", "NoLine", "NoHouse", "SelfLine", "Taken", "SamePart", "NoVersion", "BadNumber", "NoSeat"]
/-- the errors that the law meets, each with its field -/
abbrev RefL : List (Str × Str) := [("BadName", "word"), ("NoLine", "word")]
def spRefs (K : PySem.W.Frag) (D : Str → Addr) : Addr → Value → Option Addr → Sp := fun a cls d vs H Q E => ∃ p ∈ RefL, Ho.spRef K D Kinds p.1 p.2 a cls d vs H Q E
section
variable {P : Program} {w : World} {K : PySem.W.Frag} {mg : Str → Option Value} {base : Heap} {D : Str → Addr}
local macro_rules | `(tactic| walk_at "rd") => `(tactic| first
  | with_reducible apply Ho.xe
  | ((with_reducible apply Ho.isEf); (assumption); (assumption); (assumption); (assumption); (walk_at "hp"); (decide +kernel))
  | ((with_reducible apply Ho.isEt); (assumption); (assumption); (assumption); (assumption); (walk_at "hp"); (decide +kernel))
  | ((with_reducible apply Ho.isVE); (assumption); (assumption); (assumption); (assumption); (walk_at "hp")))
set_option maxHeartbeats 4000000 in
theorem ok__law_refused_as (F : Def K mg "_law_refused_as" s__law_refused_as P__law_refused_as) (m_isinstance : mg "isinstance" = none) (m_ValueError : mg "ValueError" = none) (c_cls : ∀ x ∈ Classes, mg x = some (.ref (D x))) : Ho.CalP P w K mg base 1 "_law_refused_as" P__law_refused_as (spRefs K D) := by
  refine Ho.defP F sc__law_refused_as (fun a c d vs H Q E h => ?_) (fun f cdv A outer s H vs Q E p hot hr h => ?_)
  · obtain ⟨_, _, _, _, _, _, _, rfl, _⟩ := h
    rfl
  obtain ⟨cf, hcf, C, dd, y, hc, hd, rfl, kn, hx, q⟩ := h
  have hv : ∃ vs, p.2.data = .fields vs := ⟨_, hot.2.choose_spec.1⟩
  refine ⟨_, (pss_cons (ps_set (i := 2) sc__law_refused_as.nd rfl (Or.inl rfl) (pe_lst (pa_cons (pe_callB (Ho.q_isEK (K := K) (pn := [p]) rfl rfl) (by rfl) m_isinstance bb_isinstance (pa_cons (pv 0 (hd := nd_error) (hcd := nc_error)) (pa_cons (pe_glob (v := .ref (D "BadName")) (by rfl) (c_cls "BadName" (by decide)) rfl) pa_nil)) (hn := nn_isinstance) (hdb := nd_isinstance)) (pa_cons (pe_callB (Ho.q_isEK (K := K) (pn := [p]) rfl rfl) (by rfl) m_isinstance bb_isinstance (pa_cons (pv 0 (hd := nd_error) (hcd := nc_error)) (pa_cons (pe_glob (v := .ref (D "NoLine")) (by rfl) (c_cls "NoLine" (by decide)) rfl) pa_nil)) (hn := nn_isinstance) (hdb := nd_isinstance)) (pa_cons (pe_callB (Ho.q_isEK (K := K) (pn := [p]) rfl rfl) (by rfl) m_isinstance bb_isinstance (pa_cons (pv 0 (hd := nd_error) (hcd := nc_error)) (pa_cons (pe_glob (v := .ref (D "NoHouse")) (by rfl) (c_cls "NoHouse" (by decide)) rfl) pa_nil)) (hn := nn_isinstance) (hdb := nd_isinstance)) pa_nil)))))
  (pss_cons (ps_set (i := 2) sc__law_refused_as.nd rfl (Or.inl rfl) (pe_op op_cat (pv 2 (hd := nd_kinds) (hcd := nc_kinds)) (pe_lst (pa_cons (pe_callB (Ho.q_isEK (K := K) (pn := [p]) rfl rfl) (by rfl) m_isinstance bb_isinstance (pa_cons (pv 0 (hd := nd_error) (hcd := nc_error)) (pa_cons (pe_glob (v := .ref (D "SelfLine")) (by rfl) (c_cls "SelfLine" (by decide)) rfl) pa_nil)) (hn := nn_isinstance) (hdb := nd_isinstance)) (pa_cons (pe_callB (Ho.q_isEK (K := K) (pn := [p]) rfl rfl) (by rfl) m_isinstance bb_isinstance (pa_cons (pv 0 (hd := nd_error) (hcd := nc_error)) (pa_cons (pe_glob (v := .ref (D "Taken")) (by rfl) (c_cls "Taken" (by decide)) rfl) pa_nil)) (hn := nn_isinstance) (hdb := nd_isinstance)) (pa_cons (pe_callB (Ho.q_isEK (K := K) (pn := [p]) rfl rfl) (by rfl) m_isinstance bb_isinstance (pa_cons (pv 0 (hd := nd_error) (hcd := nc_error)) (pa_cons (pe_glob (v := .ref (D "SamePart")) (by rfl) (c_cls "SamePart" (by decide)) rfl) pa_nil)) (hn := nn_isinstance) (hdb := nd_isinstance)) pa_nil))))))
  (pss_cons (ps_set (i := 2) sc__law_refused_as.nd rfl (Or.inl rfl) (pe_op op_cat (pv 2 (hd := nd_kinds) (hcd := nc_kinds)) (pe_lst (pa_cons (pe_callB (Ho.q_isEK (K := K) (pn := [p]) rfl rfl) (by rfl) m_isinstance bb_isinstance (pa_cons (pv 0 (hd := nd_error) (hcd := nc_error)) (pa_cons (pe_glob (v := .ref (D "NoVersion")) (by rfl) (c_cls "NoVersion" (by decide)) rfl) pa_nil)) (hn := nn_isinstance) (hdb := nd_isinstance)) (pa_cons (pe_callB (Ho.q_isEK (K := K) (pn := [p]) rfl rfl) (by rfl) m_isinstance bb_isinstance (pa_cons (pv 0 (hd := nd_error) (hcd := nc_error)) (pa_cons (pe_glob (v := .ref (D "BadNumber")) (by rfl) (c_cls "BadNumber" (by decide)) rfl) pa_nil)) (hn := nn_isinstance) (hdb := nd_isinstance)) (pa_cons (pe_callB (Ho.q_isEK (K := K) (pn := [p]) rfl rfl) (by rfl) m_isinstance bb_isinstance (pa_cons (pv 0 (hd := nd_error) (hcd := nc_error)) (pa_cons (pe_glob (v := .ref (D "NoSeat")) (by rfl) (c_cls "NoSeat" (by decide)) rfl) pa_nil)) (hn := nn_isinstance) (hdb := nd_isinstance)) pa_nil))))))
  (pss_cons (ps_set (i := 3) sc__law_refused_as.nd rfl (Or.inl rfl) (pe_lst (pa_cons pe_str (pa_cons pe_str (pa_cons pe_str (pa_cons pe_str (pa_cons pe_str (pa_cons pe_str (pa_cons pe_str (pa_cons pe_str (pa_cons pe_str pa_nil)))))))))))
  (pss_cons (ps_if (PW.pt (pw_or (pt_not (pt_val (pe_callB (Ho.q_isEK (K := K) (pn := [p]) rfl rfl) (by rfl) m_isinstance bb_isinstance (pa_cons (pv 0 (hd := nd_error) (hcd := nc_error)) (pa_cons (pe_bltn (v := .ty "ValueError") (u := .type "ValueError") (by rfl) m_ValueError bb_ValueError rfl (hn := nn_ValueError) (hd := nd_ValueError)) pa_nil)) (hn := nn_isinstance) (hdb := nd_isinstance)))) (pw_or (pt_cmpR (Ho.neDK (K := K) rfl (Ho.unitsH hr)) (pv 2 (hd := nd_kinds) (hcd := nc_kinds)) (Ho.pe_lcHK (K := K) (own := [("name", 4)]) rfl ⟨p, hot, List.mem_cons_self⟩ sc__law_refused_as.nd (pv 3 (hd := nd_names) (hcd := nc_names)) (blkOk_by (N := N__law_refused_as) (sc := defScope s__law_refused_as) (by decide +kernel)) (fun _ _ _ _ _ => (pg_name (i := 4) sc__law_refused_as.nd rfl (Or.inl rfl))) (fun _ _ _ _ _ => pts_nil) (fun _ _ _ _ _ => (pe_cmpR op_eq (pv 4 (hd := nd_name) (hcd := nc_name)) (pv 1 (hd := nd_code) (hcd := nc_code)) (nomark _)))) (nomark _)) (pw_or1 (pt_cmpR op_notIn_seq (pv 1 (hd := nd_code) (hcd := nc_code)) (pe_slice sl_list (pv 3 (hd := nd_names) (hcd := nc_names)) po_none (po_some pe_int)) (by rfl)))))) (pss_one (ps_ret (pe_tup (pa_cons pe_str (pa_cons pe_str (pa_cons pe_non pa_nil)))))) pss_nil)
  (pss_one (ps_ret (pe_tup (pa_cons pe_str (pa_cons (pv 1 (hd := nd_code) (hcd := nc_code)) (pa_cons (Ho.pe_xeK (K := K) (pn := [p]) rfl rfl (pv 0 (hd := nd_error) (hcd := nc_error))) pa_nil))))))))))), ?_⟩
  refine Rd.at0 (σ := [some (.ref p.1), some (.str cf.1), none, none, none]) rfl ?_
  simp only [RefL, List.mem_cons, List.not_mem_nil, or_false] at hcf
  rcases hcf with rfl | rfl
  · have _bs := trivial
    -- BadName the class, 0 the place
    dsimp only at kn hx q
    repeat' (walk_at "rd")
    refine lcMap _ (fun x => .bl (decide (x = .str "BadName"))) (.inl (.inl (by walk_at "hp"))) (by decide) (fun i x L G out Nx hx sG eL lo nx => ?_) (fun L G nL sG eL => ?_)
    · have hm := List.mem_of_getElem? hx
      obtain ⟨n, rfl⟩ : ∃ n, x = .str n := by
        have h := List.all_eq_true.mp (show (LN.map V.str).all (fun v => match v with | .str _ => true | _ => false) = true from rfl) x hm
        cases x <;> first | exact ⟨_, rfl⟩ | cases h
      refine turn1 ?_
      repeat' (walk_at "rd")
      refine ⟨rfl, ?_⟩
      repeat' (walk_at "rd")
      exact ⟨out, eL, lo, nx⟩
    refine neBl (LN.map fun (n : Str) => decide (n = "BadName")) (by walk_at "hp") eL (by decide +kernel) ?_
    repeat' (walk_at "rd")
    refine ⟨p.1, C, [("word", y), ("code", .str "BadName")], y, rfl, ⟨p, dd, List.mem_cons_self, rfl, hc, hd, hv, ?_⟩, kn.xf, kn.nf, rfl, ?_⟩
    · walk_at "hp"
    repeat' (walk_at "rd")
    exact q _ _ (by walk_at "fr") (by walk_at "sm") (by walk_at "hp")
  · have _bs := trivial
    -- NoLine the class, 1 the place
    dsimp only at kn hx q
    repeat' (walk_at "rd")
    refine lcMap _ (fun x => .bl (decide (x = .str "NoLine"))) (.inl (.inl (by walk_at "hp"))) (by decide) (fun i x L G out Nx hx sG eL lo nx => ?_) (fun L G nL sG eL => ?_)
    · have hm := List.mem_of_getElem? hx
      obtain ⟨n, rfl⟩ : ∃ n, x = .str n := by
        have h := List.all_eq_true.mp (show (LN.map V.str).all (fun v => match v with | .str _ => true | _ => false) = true from rfl) x hm
        cases x <;> first | exact ⟨_, rfl⟩ | cases h
      refine turn1 ?_
      repeat' (walk_at "rd")
      refine ⟨rfl, ?_⟩
      repeat' (walk_at "rd")
      exact ⟨out, eL, lo, nx⟩
    refine neBl (LN.map fun (n : Str) => decide (n = "NoLine")) (by walk_at "hp") eL (by decide +kernel) ?_
    repeat' (walk_at "rd")
    refine ⟨p.1, C, [("word", y), ("code", .str "NoLine")], y, rfl, ⟨p, dd, List.mem_cons_self, rfl, hc, hd, hv, ?_⟩, kn.xf, kn.nf, rfl, ?_⟩
    · walk_at "hp"
    repeat' (walk_at "rd")
    exact q _ _ (by walk_at "fr") (by walk_at "sm") (by walk_at "hp")
end
end Kj
namespace Kj
open PySem PySem.Spec PyProof.Rows L2 Rd
/-! ### the stepper -/
local macro_rules | `(tactic| walk_at "hp") => `(tactic| first
  | assumption
  | exact upd_same
  | (refine Eq.trans (upd_ne (by first | assumption | (apply Ne.symm; assumption))) ?_; walk_at "hp"))
local macro_rules | `(tactic| walk_at "sq") => `(tactic| first
  | assumption
  | (refine Or.inl (Or.inl ?_); walk_at "hp"))
local macro_rules | `(tactic| walk_at "st") => `(tactic| first
  | assumption
  | (refine Or.inl (Or.inl ?_); walk_at "hp"))
local macro_rules | `(tactic| walk_at "ar") => `(tactic| first
  | assumption
  | omega
  | decide)
local macro_rules | `(tactic| walk_at "ci") => `(tactic| first
  | (refine (show CMul _ _ from Or.inr ⟨?_, ?_⟩) <;> omega)
  | (refine (show CMul _ _ from Or.inl ⟨?_, ?_⟩) <;> omega)
  | (show CPow _ _; exact ⟨by decide, by decide, by decide⟩)
  | (refine wide_div (b := 63) ?_ ?_ (by decide) (by decide) <;> omega)
  | (show (0 : Int) < _; omega))
local macro_rules | `(tactic| walk_at "ty") => `(tactic| first
  | exact dp_ty (by assumption)
  | exact TyX.base (TyOf.int _)
  | exact TyX.base (TyOf.str _)
  | exact TyX.base (TyOf.bl _)
  | exact TyX.base TyOf.non
  | exact tyL' (by walk_at "sq")
  | exact tyT' (by walk_at "st"))
local macro_rules | `(tactic| walk_at "isi") => `(tactic| first
  | ((with_reducible apply Rd.isiF); (walk_at "ty"); (decide))
  | ((with_reducible apply Rd.isiT); (walk_at "ty"); (decide)))
local macro_rules | `(tactic| walk_at "rd") => `(tactic| first
  | with_reducible apply Rd.seq
  | ((with_reducible apply Rd.var); rfl)
  | with_reducible apply Rd.con
  | with_reducible apply Rd.op
  | with_reducible apply Rd.asg
  | ((with_reducible apply Rd.gname); ((dsimp only [List.set, L2.wipe, Int.reduceToNat]) <;> rfl))
  | with_reducible apply Rd.nxt
  | with_reducible apply Rd.ifs
  | with_reducible apply Rd.test
  | with_reducible apply Rd.testB
  | with_reducible apply Rd.exbl
  | with_reducible apply Rd.ret
  | with_reducible apply Rd.drop
  | with_reducible apply Rd.retN
  | with_reducible apply Rd.nil
  | with_reducible apply Rd.cons
  | with_reducible apply Rd.call
  | with_reducible apply Rd.cb
  | with_reducible apply Rd.and
  | with_reducible apply Rd.or
  | with_reducible apply Rd.not
  | with_reducible apply Rd.andV
  | with_reducible apply Rd.orV
  | with_reducible apply Rd.notV
  | with_reducible apply Rd.ife
  | with_reducible apply Rd.tup
  | with_reducible apply Rd.lst
  | with_reducible apply Rd.un
  | with_reducible apply Rd.chain
  | with_reducible apply Rd.brk
  | with_reducible apply Rd.cnt
  | with_reducible apply Rd.I0
  | with_reducible apply Rd.U1
  | ((with_reducible apply Rd.eq); rfl)
  | ((with_reducible apply Rd.ne); rfl)
  | ((with_reducible apply Rd.I1); (walk_at "ci"))
  | with_reducible apply Rd.lc0
  | with_reducible apply Rd.ln0
  | with_reducible apply Rd.exN
  | ((with_reducible apply Rd.iteSf); (decide +kernel))
  | ((with_reducible apply Rd.iteSt); (decide +kernel))
  | ((with_reducible apply Rd.niQ); (exact Or.inl (by walk_at "sq")); (exact ⟨rfl, rfl⟩); (rfl))
  | ((with_reducible apply Rd.inQ); (exact Or.inl (by walk_at "sq")); (exact ⟨rfl, rfl⟩); (rfl))
  | with_reducible apply Rd.rn1
  | with_reducible apply Rd.in1
  | with_reducible apply Rd.sn1
  | with_reducible apply Rd.bn1
  | with_reducible apply Rd.nn1
  | with_reducible apply Rd.rn2
  | with_reducible apply Rd.in2
  | with_reducible apply Rd.sn2
  | with_reducible apply Rd.bn2
  | with_reducible apply Rd.nn2
  | with_reducible apply Rd.nt1
  | with_reducible apply Rd.nf1
  | (with_reducible refine Rd.iteI (fun _ => ?_) (fun _ => ?_))
  | (with_reducible refine Rd.iteNI (fun _ => ?_) (fun _ => ?_))
  | (with_reducible refine iteT ?_)
  | (with_reducible refine iteF ?_)
  | (with_reducible refine Rd.iteD (fun _ => ?_) (fun _ => ?_))
  | (with_reducible refine Rd.iteN (fun _ => ?_) (fun _ => ?_))
  | with_reducible apply Rd.intI
  | with_reducible apply Rd.intB
  | with_reducible apply Rd.maxQ
  | with_reducible apply Rd.minQ
  | with_reducible apply Rd.absQ
  | with_reducible apply Rd.isN
  | with_reducible apply Rd.noN
  | with_reducible apply Rd.ltZ
  | with_reducible apply Rd.bm
  | with_reducible apply Rd.bm0
  | with_reducible apply Rd.par
  | with_reducible apply Rd.expar
  | with_reducible apply Rd.exint
  | with_reducible apply Rd.ipi
  | with_reducible apply Rd.slice
  | with_reducible apply Rd.noPart
  | with_reducible apply Rd.part
  | with_reducible apply Rd.gcons
  | with_reducible apply Rd.gnil
  | with_reducible apply Rd.iseq
  | with_reducible apply Rd.irng1
  | walk_at "isi"
  | with_reducible apply Rd.forX
  | with_reducible apply Rd.lstRev
  | with_reducible apply Rd.lstRg
  | with_reducible apply Rd.rg1
  | with_reducible apply Rd.rg2
  | with_reducible apply Rd.exint2
  | ((with_reducible apply Rd.exrev); (walk_at "sq"))
  | with_reducible apply Rd.lcX
  | with_reducible apply Rd.yes
  | ((with_reducible apply Rd.exrng1); (constructor <;> omega))
  | ((with_reducible apply Rd.exrng2); (refine ⟨?_, ?_, ?_, ?_⟩ <;> omega))
  | with_reducible apply Rd.irng2
  | ((with_reducible apply Rd.aug); rfl)
  | ((with_reducible apply Rd.exlst); (walk_at "sq"))
  | ((with_reducible apply Rd.gtup); (walk_at "st"); (rfl))
  | ((with_reducible apply Rd.tyL); (walk_at "hp"))
  | ((with_reducible apply Rd.ixL); (walk_at "sq"); (rfl))
  | ((with_reducible apply Rd.ixI); (walk_at "sq"); (omega); (first | assumption | (simp only [List.length_map]; omega)); (intro _ _))
  | (with_reducible refine Rd.gsub ?_)
  | ((with_reducible apply Rd.setL); (walk_at "hp"); (rfl); ((dsimp only [List.set, L2.wipe, Int.reduceToNat]) <;> rfl))
  | ((with_reducible apply Rd.lenQ); (first | exact Or.inl (by walk_at "sq") | exact Or.inr (by walk_at "st")))
  | ((with_reducible apply Rd.listQ); (first | exact Or.inl (by walk_at "sq") | exact Or.inr (by walk_at "st")))
  | ((with_reducible apply Rd.tupQ); (walk_at "sq"))
  | ((with_reducible apply Rd.slL); (walk_at "sq"))
  | ((with_reducible apply Rd.ixT); (walk_at "st"); (rfl))
  | (with_reducible refine Rd.iteB (fun _ => ?_) (fun _ => ?_))
  | (with_reducible refine Rd.iteNB (fun _ => ?_) (fun _ => ?_))
  | (refine Rd.andI (Nat.le_of_ble_eq_true rfl) ?_)
  | dsimp only [List.set])
local macro_rules | `(tactic| walk_at "hp") => `(tactic| first
  | assumption
  | exact upd_same
  | (refine Eq.trans (upd_ne (by first | assumption | (apply Ne.symm; assumption))) ?_; walk_at "hp")
  | (refine hpS (by assumption) ?_; walk_at "hp"))
local macro_rules | `(tactic| walk_at "al") => `(tactic| (with_reducible intro l hl; generalize hG : upd _ l _ = G; have hs := newOne hl hG; clear hG; obtain ⟨hs, he⟩ := hs))
local macro_rules | `(tactic| walk_at "rd") => `(tactic| first
  | walk_at "al"
  | ((with_reducible apply Rd.cat); (walk_at "hp"); (walk_at "hp"); (exact Nat.le_of_ble_eq_true rfl)))
local macro_rules | `(tactic| walk_at "sm") => `(tactic| first
  | assumption
  | exact Same.refl _
  | (refine Same.trans ?_ (by assumption); walk_at "sm"))
local macro_rules | `(tactic| walk_at "fr") => `(tactic| first
  | assumption
  | (refine Same.free (by assumption) ?_; walk_at "fr"))
local macro_rules | `(tactic| walk_at "ty") => `(tactic| first
  | exact dv_ty (by assumption)
  | exact tyD' (by walk_at "hp"))
local macro_rules | `(tactic| walk_at "sz") => `(tactic| first
  | exact sz5 (by omega)
  | (simp only [add_len, one_len]; exact sz5 (by omega)))
local macro_rules | `(tactic| walk_at "rd") => `(tactic| first
  | with_reducible apply Rd.istr
  | with_reducible apply Rd.exstr
  | with_reducible apply Rd.leA
  | with_reducible apply Rd.leZz
  | with_reducible apply Rd.le0
  | with_reducible apply Rd.le9
  | with_reducible apply Rd.niZ
  | ((with_reducible apply Rd.lenZ); (walk_at "sz"))
  | ((with_reducible apply Rd.slZ); (walk_at "sz"))
  | ((with_reducible apply Rd.addZ); (walk_at "sz"))
  | with_reducible apply Rd.raiseX
  | with_reducible apply Rd.exone
  | with_reducible apply Rd.callS
  | with_reducible apply Rd.callP
  | with_reducible apply Rd.xsX
  | with_reducible apply Rd.dnewX
  | with_reducible apply Rd.tyZ)
/-! ### parted by the law's own steps; refusals of parted -/
open Ty
def bStep (l : Str) (s : List Ky × List Ky × Nat) (k : Ky) : List Ky × List Ky × Nat :=
  if isL l k = true then (s.1, s.2.1, s.2.2 + 1) else if s.2.2 = 1 then (s.1, s.2.1 ++ [k], s.2.2) else (s.1 ++ [k], s.2.1, s.2.2)
theorem bStep_no {l : Str} : ∀ {L : List Ky} {o i : List Ky} {m : Nat}, (∀ k ∈ L, isL l k = false) → L.foldl (bStep l) (o, i, m) = if m = 1 then (o, i ++ L, m) else (o ++ L, i, m)
  | [], o, i, m, _ => by
    rw [List.append_nil, List.append_nil]
    split <;> rfl
  | k :: L, o, i, m, h => by
    rw [List.foldl_cons]
    have hk : bStep l (o, i, m) k = if m = 1 then (o, i ++ [k], m) else (o ++ [k], i, m) := by
      unfold bStep
      rw [if_neg (by rw [h k List.mem_cons_self]; exact Bool.false_ne_true)]
    rw [hk]
    have hL := fun j hj => h j (List.mem_cons_of_mem k hj)
    by_cases e : m = 1
    · rw [if_pos e, if_pos e, bStep_no hL, if_pos e, List.append_assoc]
      rfl
    · rw [if_neg e, if_neg e, bStep_no hL, if_neg e, List.append_assoc]
      rfl
theorem bStep_yes {l : Str} {o i : List Ky} {m : Nat} {k : Ky} (h : isL l k = true) : bStep l (o, i, m) k = (o, i, m + 1) := by
  unfold bStep
  rw [if_pos h]
theorem isL_a {l x y : Str} : isL l (.a l x y) = true := decide_eq_true rfl
theorem both_is {l x y u w : Str} {xs ys zs : List Ky} (nx : ∀ k ∈ xs, isL l k = false) (ny : ∀ k ∈ ys, isL l k = false) (nz : ∀ k ∈ zs, isL l k = false) :
    (xs ++ .a l x y :: (ys ++ .a l u w :: zs)).foldl (bStep l) ([], [], 0) = (xs ++ zs, ys, 2) := by
  rw [List.foldl_append, bStep_no nx, if_neg (by decide), List.foldl_cons, bStep_yes isL_a, List.foldl_append, bStep_no ny, if_pos rfl, List.foldl_cons, bStep_yes isL_a, bStep_no nz, if_neg (by decide)]
  rfl
section
variable {P : Program} {w : World} {K : PySem.W.Frag} {mg : Str → Option Value} {base : Heap} {D : Str → Addr}
/-- _law_both(keys, line) -/
def spBoth : Sp := fun vs H Q _ => ∃ (a : Addr) (l : Str) (ks O I : List Ky) (n : Nat), vs = [.ref a, .str l] ∧ KL H a ks ∧ ks.length ≤ 1000 ∧ ks.foldl (bStep l) ([], [], 0) = (O, I, n) ∧
  ∀ t p r H', H t = none → H p = none → H r = none → p ≠ r → Same H H' → H' t = some (.tup [.ref p, .ref r]) → KL H' p O → KL H' r I → Q (.ref t) H'
theorem bLen {l : Str} : ∀ (L : List Ky) (s : List Ky × List Ky × Nat), (L.foldl (bStep l) s).1.length + (L.foldl (bStep l) s).2.1.length + (L.foldl (bStep l) s).2.2 = s.1.length + s.2.1.length + s.2.2 + L.length
  | [], s => rfl
  | k :: L, s => by
    rw [List.foldl_cons, bLen L, List.length_cons]
    unfold bStep
    split
    · show s.1.length + s.2.1.length + (s.2.2 + 1) + L.length = _
      omega
    · split
      · show s.1.length + (s.2.1 ++ [k]).length + s.2.2 + L.length = _
        rw [List.length_append, List.length_singleton]
        omega
      · show (s.1 ++ [k]).length + s.2.1.length + s.2.2 + L.length = _
        rw [List.length_append, List.length_singleton]
        omega
theorem KL.kx {H G : Hp} {L a : Addr} {ks : List Ky} {us : List V} (h : KL H a ks) (ne : a ≠ L) (e : H L = some (.lst us)) (k : Kx L H G) : KL G a ks := by
  obtain ⟨vs, ea, kv⟩ := h
  exact ⟨vs, k _ _ ne ea, Kj.KVs.kx kv e k⟩
theorem appK2 {H : Hp} {Q : VK} {p : Addr} {v : V} {ks : List Ky} {k : Ky} (h : KL H p ks) (hv : KV H v k) (l : ks.length < 100000) (q : ∀ G, Kx p H G → KL G p (ks ++ [k]) → Q .non G) : rAppend (.ref p) [v] H Q := appK h hv l q
theorem ok__law_both (F : Def K mg "_law_both" s__law_both P__law_both) : Cal P w K mg base 2 "_law_both" P__law_both spBoth := by
  refine F.ok sc__law_both (fun vs H Q E h => ?_) (fun f cdv A outer s H vs Q E hr h => ?_)
  · obtain ⟨a, l, ks, O, I, n, rfl, _⟩ := h
    rfl
  obtain ⟨a, l, ks, O, I, n, rfl, hk, hl, ef, q⟩ := h
  refine ⟨_, (pss_cons (ps_set (i := 2) sc__law_both.nd rfl (Or.inl rfl) (pe_lst pa_nil))
  (pss_cons (ps_set (i := 3) sc__law_both.nd rfl (Or.inl rfl) (pe_lst pa_nil))
  (pss_cons (ps_set (i := 4) sc__law_both.nd rfl (Or.inl rfl) pe_int)
  (pss_cons (ps_for PassesOwn.never rfl (pi_list (pv 0 (hd := nd_keys) (hcd := nc_keys))) (pg_name (i := 5) sc__law_both.nd rfl (Or.inl rfl)) (pss_one (ps_if (PW.pt (pw_and (pt_cmpR op_eq (pe_ix ix_tup (pv 5 (hd := nd_key) (hcd := nc_key)) pe_int (fun _ _ => rfl)) pe_str (nomark _)) (pw_and1 (pt_cmpR op_eq (pe_ix ix_tup (pv 5 (hd := nd_key) (hcd := nc_key)) pe_int (fun _ _ => rfl)) (pv 1 (hd := nd_line) (hcd := nc_line)) (nomark _))))) (pss_one (ps_set (i := 4) sc__law_both.nd rfl (Or.inl rfl) (pe_op op_add (pv 4 (hd := nd_met) (hcd := nc_met)) pe_int))) (pss_one (ps_if (pt_cmpR op_eq (pv 4 (hd := nd_met) (hcd := nc_met)) pe_int (nomark _)) (pss_one (ps_expr (pe_bm PySem.F.plainAttrs_list PySem.F.slot_list_append PySem.F.type_list_append mt_append (pv 3 (hd := nd_inner) (hcd := nc_inner)) (pa_cons (pv 5 (hd := nd_key) (hcd := nc_key)) pa_nil)))) (pss_one (ps_expr (pe_bm PySem.F.plainAttrs_list PySem.F.slot_list_append PySem.F.type_list_append mt_append (pv 2 (hd := nd_outer) (hcd := nc_outer)) (pa_cons (pv 5 (hd := nd_key) (hcd := nc_key)) pa_nil)))))))))
  (pss_one (ps_ret (pe_tup (pa_cons (pv 2 (hd := nd_outer) (hcd := nc_outer)) (pa_cons (pv 3 (hd := nd_inner) (hcd := nc_inner)) pa_nil))))))))), ?_⟩
  refine Rd.at0 (σ := [some (.ref a), some (.str l), none, none, none, none]) rfl ?_
  obtain ⟨vs, ea, kvs, lv⟩ := kl_len hk
  repeat' (walk_at "rd")
  rename_i p np G0 s0 e0 r nr G1 s1 e1
  have npr : p ≠ r := ne_of_none e0 nr
  have nr0 := s0.free nr
  refine forL vs (fun i σ H' => ∃ (v5 : Option V), σ = [some (.ref a), some (.str l), some (.ref p), some (.ref r), some (.int (((ks.take i).foldl (bStep l) ([], [], 0)).2.2 : Nat)), v5] ∧ Same H H' ∧ KL H' p ((ks.take i).foldl (bStep l) ([], [], 0)).1 ∧ KL H' r ((ks.take i).foldl (bStep l) ([], [], 0)).2.1) ⟨none, rfl, s0.trans s1, ⟨[], s1 _ _ e0, trivial⟩, ⟨[], e1, trivial⟩⟩ ?_ ?_ ?_
  · rintro i σ H' _ ⟨_, rfl, s2, _⟩
    exact .inl (.inl (s2 _ _ ea))
  · rintro i v σ H' hv ⟨_, rfl, s2, kp, kr⟩
    obtain ⟨k, hk', kv0⟩ := kvs.at hv
    have il := (List.getElem?_eq_some_iff.mp hv).1
    have kv2 := kv0.same s2
    obtain ⟨ok, t, rfl, ht⟩ := id kv2
    have et : ks.take (i + 1) = ks.take i ++ [k] := by rw [List.take_add_one, hk']; rfl
    have lb := bLen (l := l) (ks.take i) ([], [], 0)
    rw [List.length_take] at lb
    have lb : ((ks.take i).foldl (bStep l) ([], [], 0)).1.length + ((ks.take i).foldl (bStep l) ([], [], 0)).2.1.length + ((ks.take i).foldl (bStep l) ([], [], 0)).2.2 = 0 + min i ks.length := lb
    rw [et, List.foldl_append, List.foldl_cons, List.foldl_nil]
    generalize hS : (ks.take i).foldl (bStep l) ([], [], 0) = S at *
    obtain ⟨o, ii, m⟩ := S
    have lb : o.length + ii.length + m = 0 + min i ks.length := lb
    have kp : KL H' p o := kp
    have kr : KL H' r ii := kr
    obtain ⟨po, epo, kpo⟩ := id kp
    obtain ⟨ro, ero, kro⟩ := id kr
    have toIn : isL l k = false → m = 1 → ∀ G, Kx r H' G → KL G r (ii ++ [k]) → Same H G ∧ KL G p (bStep l (o, ii, m) k).1 ∧ KL G r (bStep l (o, ii, m) k).2.1 ∧ (bStep l (o, ii, m) k).2.2 = m := fun c e G kx kG => by
      have hb : bStep l (o, ii, m) k = (o, ii ++ [k], m) := by
        unfold bStep
        rw [if_neg (by rw [c]; exact Bool.false_ne_true), if_pos e]
      rw [hb]
      exact ⟨Kx.same nr0 s2 kx, KL.kx kp npr ero kx, kG, rfl⟩
    have toOut : isL l k = false → m ≠ 1 → ∀ G, Kx p H' G → KL G p (o ++ [k]) → Same H G ∧ KL G p (bStep l (o, ii, m) k).1 ∧ KL G r (bStep l (o, ii, m) k).2.1 ∧ (bStep l (o, ii, m) k).2.2 = m := fun c e G kx kG => by
      have hb : bStep l (o, ii, m) k = (o ++ [k], ii, m) := by
        unfold bStep
        rw [if_neg (by rw [c]; exact Bool.false_ne_true), if_neg e]
      rw [hb]
      exact ⟨Kx.same np s2 kx, kG, KL.kx kr (Ne.symm npr) epo kx, rfl⟩
    cases k with
    | h x =>
      have ht : H' t = some (.tup [.str "house", .str x]) := ht
      have c : isL l (.h x) = false := rfl
      repeat' (walk_at "rd")
      · rename_i e
        refine appK2 kr kv2 (by omega) fun G kx kG => ?_
        obtain ⟨g1, g2, g3, g4⟩ := toIn c (by omega) G kx kG
        exact ⟨_, by rw [g4], g1, g2, g3⟩
      · rename_i e
        refine appK2 kp kv2 (by omega) fun G kx kG => ?_
        obtain ⟨g1, g2, g3, g4⟩ := toOut c (by omega) G kx kG
        exact ⟨_, by rw [g4], g1, g2, g3⟩
    | a j x y =>
      have ht : H' t = some (.tup [.str "arc", .str j, .str x, .str y]) := ht
      repeat' (walk_at "rd")
      · rename_i e
        have e : j = l := V.str.inj e
        subst e
        refine ⟨some (.ref t), ?_, s2, ?_⟩
        · rw [bStep_yes isL_a]
          rfl
        · rw [bStep_yes isL_a]
          exact ⟨kp, kr⟩
      all_goals
        rename_i e0 e
        have c : isL l (.a j x y) = false := decide_eq_false fun z => e0 (congrArg V.str z)
      · refine appK2 kr kv2 (by omega) fun G kx kG => ?_
        obtain ⟨g1, g2, g3, g4⟩ := toIn c (by omega) G kx kG
        exact ⟨_, by rw [g4], g1, g2, g3⟩
      · refine appK2 kp kv2 (by omega) fun G kx kG => ?_
        obtain ⟨g1, g2, g3, g4⟩ := toOut c (by omega) G kx kG
        exact ⟨_, by rw [g4], g1, g2, g3⟩
  · rintro σ H' ⟨_, rfl, s2, kp, kr⟩
    rw [List.take_of_length_le (by omega), ef] at kp kr
    repeat' (walk_at "rd")
    rename_i t3 n3 G3 s3 e3
    exact q t3 p r G3 (s2.free n3) np nr0 npr (s2.trans s3) e3 (KL.same kp s3) (KL.same kr s3)
end
/-! ### what parted refuses -/
open Ty
section
variable {P : Program} {w : World} {K : PySem.W.Frag} {mg : Str → Option Value} {base : Heap} {D : Str → Addr}
/-- _law_part_told(keys, line) -/
def spPTold (K : PySem.W.Frag) : Sp := fun vs H Q _ => ∃ (a : Addr) (v : V) (d : PyData) (ks : List Ky), vs = [.ref a, v] ∧ Dv K H v d ∧ Sz d ∧ KL H a ks ∧ ks.length ≤ 1000 ∧
  (nameD d = false → ∀ t H', Same H H' → H' t = some (.tup [.str "refused", .str "BadName", v]) → Q (.ref t) H') ∧
  (∀ l, v = .str l → NmS l → (∀ k ∈ ks, isL l k = false) → ∀ t H', Same H H' → H' t = some (.tup [.str "refused", .str "NoLine", .str l]) → Q (.ref t) H') ∧
  (∀ l, v = .str l → NmS l → (∃ k ∈ ks, isL l k = true) → ∃ x y u w xs ys zs, ks = xs ++ .a l x y :: (ys ++ .a l u w :: zs) ∧ (∀ k ∈ xs, isL l k = false) ∧ (∀ k ∈ ys, isL l k = false) ∧ (∀ k ∈ zs, isL l k = false) ∧
    ∀ t p r H', H t = none → H p = none → H r = none → p ≠ r → Same H H' → H' t = some (.tup [.ref p, .ref r]) → KL H' p (xs ++ zs) → KL H' r ys → Q (.ref t) H')
theorem ok__law_part_told (F : Def K mg "_law_part_told" s__law_part_told P__law_part_told) (c_cls : ∀ x ∈ Classes, mg x = some (.ref (D x))) (C_parted : Ho.CalN P w K mg base 4 "parted" P_parted (spPartedD K D)) (C__law_refused_as : Ho.CalP P w K mg base 1 "_law_refused_as" P__law_refused_as (spRefs K D)) (kn : ∀ p ∈ RefL, Ho.Knd K D Kinds (D p.1) p.1 p.2) (xm : ∀ p ∈ RefL, PySem.W.exmOne K (.ref (D p.1)) (.ref (D "KeptError")) = some true) : Cal P w K mg base 6 "_law_part_told" P__law_part_told (spPTold K) := by
  have m1 : (("BadName" : Str), ("word" : Str)) ∈ RefL := List.mem_cons_self
  have m2 : (("NoLine" : Str), ("word" : Str)) ∈ RefL := List.mem_cons_of_mem _ List.mem_cons_self
  refine F.ok sc__law_part_told (fun vs H Q E h => ?_) (fun f cdv A outer s H vs Q E hr h => ?_)
  · obtain ⟨a, v, d, ks, rfl, _⟩ := h
    rfl
  obtain ⟨a, v, d, ks, rfl, hv, sz, hk, hl, qb, qn, qs⟩ := h
  refine ⟨_, (pss_one (L2N.ps_try_as (i := 2) (Wout := fun _ _ _ _ => False) rfl rfl sc__law_part_told.nd rfl rfl ⟨rfl, by decide, .inl (c_cls "KeptError" (by decide))⟩ Ho.takes0 (fun W pn xe tk _ => by exact (pss_one (ps_ret (Ho.pe_calN C_parted tk hr (pa_cons (pv 0 (hd := nd_keys) (hcd := nc_keys)) (pa_cons (pv 1 (hd := nd_line) (hcd := nc_line)) pa_nil)))))) (fun a oe cls d pn hz hf => by exact (pss_one (ps_ret (Ho.pe_calP C__law_refused_as hz hf hr (pa_cons (pv 2 (hd := nd_e) (hcd := nc_e)) (pa_cons (Ho.pe_xs (K := K) rfl hz hf (pv 2 (hd := nd_e) (hcd := nc_e))) pa_nil)))))))), ?_⟩
  refine Rd.at0 (σ := [some (.ref a), some v, none]) rfl ?_
  repeat' (walk_at "rd")
  refine ⟨a, v, d, ks, rfl, hv, sz, hk, hl, fun hn dd H3 n3 s3 e3 => ⟨true, xm _ m1, fun _ a na => ?_, fun z => Bool.noConfusion z⟩, fun x ex nx mx dd H3 n3 s3 e3 => ⟨true, xm _ m2, fun _ a na => ?_, fun z => Bool.noConfusion z⟩, fun l ex nx tm => ?_⟩
  · have kk := kn _ m1
    repeat' (walk_at "rd")
    refine ⟨rfl, D _, dd, _, .str _, rfl, kk.xf, kk.nc, rfl, e3, rfl, ?_⟩
    repeat' (walk_at "rd")
    refine ⟨(_, _), m1, D _, dd, v, rfl, rfl, rfl, kk, e3, fun t H4 n4 s4 e4 => ?_⟩
    repeat' (walk_at "rd")
    exact qb hn t H4 (s3.trans s4) e4
  · have kk := kn _ m2
    repeat' (walk_at "rd")
    refine ⟨rfl, D _, dd, _, .str _, rfl, kk.xf, kk.nc, rfl, e3, rfl, ?_⟩
    repeat' (walk_at "rd")
    refine ⟨(_, _), m2, D _, dd, .str x, rfl, rfl, rfl, kk, e3, fun t H4 n4 s4 e4 => ?_⟩
    repeat' (walk_at "rd")
    exact qn x ex nx mx t H4 (s3.trans s4) e4
  · obtain ⟨x, y, u, w', xs, ys, zs, ek, nx', ny, nz, q⟩ := qs l ex nx tm
    refine ⟨x, y, u, w', xs, ys, zs, ek, nx', ny, nz, fun t p r H3 n1 n2 n3 ne s3 e3 k1 k2 => ?_⟩
    repeat' (walk_at "rd")
    exact q t p r H3 n1 n2 n3 ne s3 e3 k1 k2
/-- _law_wrong_line(store, keys) -/
def spWrong (K : PySem.W.Frag) : Sp := fun vs H Q _ => ∃ (st c a : Addr) (ks : List Ky), vs = [.ref st, .ref a] ∧ StoreAt H st c ∧ a ≠ st ∧ KL H a ks ∧ T ks ∧ ks.length ≤ 1000 ∧ (hsOf ks).length < 64 ∧ (∀ ns : List Str, ns.Nodup → (∀ l ∈ ns, ∃ x y, Ky.a l x y ∈ ks) → ns.length < 64) ∧
  ∀ (v : V) (d : PyData) (H' : Hp), Dv K H' v d → Fd 3 d → Sz d → (∀ l, v = .str l → ∀ k ∈ ks, isL l k = false) → Go st c H H' → Q v H'
theorem no_isL {l : Str} {ks : List Ky} (h : ¬ ∃ x y, Ky.a l x y ∈ ks) : ∀ k ∈ ks, isL l k = false := fun k m => by
  cases k with
  | h x => rfl
  | a j x y => exact decide_eq_false fun e => h ⟨x, y, e ▸ m⟩
theorem ok__law_wrong_line (F : Def K mg "_law_wrong_line" s__law_wrong_line P__law_wrong_line) (m_len : mg "len" = none) (m_max : mg "max" = none) (C__law_take : Cal P w K mg base 1 "_law_take" P__law_take spTake) (C__law_pick : Cal P w K mg base 2 "_law_pick" P__law_pick (spPick K)) (C__law_not_name : Cal P w K mg base 5 "_law_not_name" P__law_not_name (spVal K)) (C__law_tour_houses : Cal P w K mg base 2 "_law_tour_houses" P__law_tour_houses spTourHouses) (C__law_tour_lines : Cal P w K mg base 2 "_law_tour_lines" P__law_tour_lines spTourLinesL) : Cal P w K mg base 6 "_law_wrong_line" P__law_wrong_line (spWrong K) := by
  refine F.ok sc__law_wrong_line (fun vs H Q E h => ?_) (fun f cdv A outer s H vs Q E hr h => ?_)
  · obtain ⟨st, c, a, ks, rfl, _⟩ := h
    rfl
  obtain ⟨st, c, a, ks, rfl, hs, na, hk, ht, hl, h64, l64, q⟩ := h
  refine ⟨_, (pss_cons (ps_set (i := 2) sc__law_wrong_line.nd rfl (Or.inl rfl) (pe_cal C__law_tour_lines hr (pa_cons (pv 1 (hd := nd_keys) (hcd := nc_keys)) pa_nil) (hdb := nd__law_tour_lines)))
  (pss_cons (ps_set (i := 3) sc__law_wrong_line.nd rfl (Or.inl rfl) (pe_cal C__law_not_name hr (pa_cons (pv 0 (hd := nd_store) (hcd := nc_store)) pa_nil) (hdb := nd__law_not_name)))
  (pss_cons (ps_set (i := 4) sc__law_wrong_line.nd rfl (Or.inl rfl) (pe_cal C__law_take hr (pa_cons (pv 0 (hd := nd_store) (hcd := nc_store)) (pa_cons pe_int pa_nil)) (hdb := nd__law_take)))
  (C8.pss_cut (ps_if (pt_cmpR op_eq (pv 4 (hd := nd_style) (hcd := nc_style)) pe_int (nomark _)) (pss_one (ps_set (i := 3) sc__law_wrong_line.nd rfl (Or.inl rfl) (pe_slice sl_str (pe_op o_addZ (pe_cal C__law_pick hr (pa_cons (pv 0 (hd := nd_store) (hcd := nc_store)) (pa_cons (pe_cal C__law_tour_houses hr (pa_cons (pv 1 (hd := nd_keys) (hcd := nc_keys)) pa_nil) (hdb := nd__law_tour_houses)) pa_nil)) (hdb := nd__law_pick)) pe_str) po_none (po_some pe_int)))) pss_nil)
  (C8.pss_cut (ps_if (pt_cmpR op_eq (pv 4 (hd := nd_style) (hcd := nc_style)) pe_int (nomark _)) (pss_one (ps_set (i := 3) sc__law_wrong_line.nd rfl (Or.inl rfl) (pe_cal C__law_pick hr (pa_cons (pv 0 (hd := nd_store) (hcd := nc_store)) (pa_cons (pe_cal C__law_tour_houses hr (pa_cons (pv 1 (hd := nd_keys) (hcd := nc_keys)) pa_nil) (hdb := nd__law_tour_houses)) pa_nil)) (hdb := nd__law_pick)))) pss_nil)
  (C8.pss_cut (ps_if (PW.pt (pw_and (pt_cmpR op_eq (pv 4 (hd := nd_style) (hcd := nc_style)) pe_int (nomark _)) (pw_and1 (pt_cmpR op_gt (pe_callB q_len (by rfl) m_len PySem.boot_len (pa_cons (pv 2 (hd := nd_names) (hcd := nc_names)) pa_nil) (hn := nn_len) (hdb := nd_len)) pe_int (nomark _))))) (pss_one (ps_set (i := 3) sc__law_wrong_line.nd rfl (Or.inl rfl) (pe_slice sl_str (pe_ix ix_list (pv 2 (hd := nd_names) (hcd := nc_names)) pe_int (fun _ _ => rfl)) po_none (po_some (pe_callB (q_max rfl) (by rfl) m_max bb_max (pa_cons pe_int (pa_cons (pe_op op_sub (pe_callB q_lenZ (by rfl) m_len PySem.boot_len (pa_cons (pe_ix ix_list (pv 2 (hd := nd_names) (hcd := nc_names)) pe_int (fun _ _ => rfl)) pa_nil) (hn := nn_len) (hdb := nd_len)) pe_int) pa_nil)) (hn := nn_max) (hdb := nd_max)))))) pss_nil)
  (pss_cons (ps_if (pt_cmpR (op_inDS (K := K) hr rfl) (pv 3 (hd := nd_word) (hcd := nc_word)) (pv 2 (hd := nd_names) (hcd := nc_names)) (by rfl)) (pss_one (ps_ret pe_non)) pss_nil)
  (pss_one (ps_ret (pv 3 (hd := nd_word) (hcd := nc_word))))))))))), ?_⟩
  refine Rd.at0 (σ := [some (.ref st), some (.ref a), none, none, none]) rfl ?_
  have hne : ks.filterMap hS ≠ [] := fun z => by
    have c1 := ht.cnt
    rw [show hsOf ks = ks.filterMap hS from rfl, z] at c1
    simp at c1
  have e0 : ("0" : Str).length = 1 := by decide +kernel
  repeat' (walk_at "rd")
  refine ⟨a, ks, rfl, hk, hl, l64, fun Ln ns H1 nd1 lm1 so1 nn s1 en => ?_⟩
  have o1 := hs.same s1
  have nns := (hs.off nn).1
  repeat' (walk_at "rd")
  refine ⟨st, c, rfl, o1, fun v0 d0 H2 dv0 fd0 sz0 g2 => ?_⟩
  repeat' (walk_at "rd")
  refine ⟨st, c, 5, rfl, g2.ok, by decide, fun r H3 r0 r1 g3 => ?_⟩
  have g13 := g2.trans g3
  have gH : Go st c H H3 := ((Go.refl hs).same s1).trans g13
  have dv3 : Dv K H3 v0 d0 := dv_same (nw_sub fun b o n e => g3.keep b o (fun z => by
    obtain ⟨⟨u, hu⟩, _⟩ := o1.has
    rw [z, hu] at n
    cases n) e) dv0
  have en3 := g13.keep _ _ nns en
  repeat' (walk_at "rd")
  have hou : ∀ {H' : Hp}, Go st c H H' → KL H' a ks := fun g => kl_go hk hs g na
  refine Rd.cut (fun σ' H' => ∃ v d, σ' = [some (.ref st), some (.ref a), some (.ref Ln), some v, some (.int r)] ∧ Dv K H' v d ∧ Fd 3 d ∧ Sz d ∧ Go st c H H' ∧ H' Ln = some (.lst (ns.map V.str))) ?_ ?_
  · repeat' (walk_at "rd")
    · refine ⟨a, ks, rfl, hou gH, hl, h64, fun Lh ys H4 pm so n4 s4 e4 => ?_⟩
      repeat' (walk_at "rd")
      refine .inr ⟨st, c, Lh, ys.map V.str, rfl, g3.ok.same s4, (gH.ok.off n4).1, .inl (.inl e4), by rw [List.length_map, pm.length_eq]; exact Nat.le_trans (Nat.le_of_lt h64) (by decide), fun e => absurd (by rw [List.map_eq_nil_iff] at e; rw [e] at pm; exact pm.symm.eq_nil) hne, fun x H5 hx g5 => ?_⟩
      obtain ⟨z, mz, rfl⟩ := List.mem_map.mp hx
      have nz : NmS z := by
        have := hs_mem.mp (show z ∈ hsOf ks from pm.mem_iff.mp mz)
        exact ht.nm _ this z List.mem_cons_self
      have l12 := nz.2
      have gg : Go st c H H5 := (gH.same s4).trans g5
      have en5 := g5.keep _ _ nns (s4 _ _ en3)
      have a1 := add_len z "0"
      repeat' (walk_at "rd")
      have c1 := cutL (z ++ "0") none (some 12) (n := 13) (by omega)
      exact ⟨_, _, rfl, .str _, .str _, fun w' e => by cases e; omega, gg, en5⟩
    · exact ⟨v0, d0, rfl, dv3, fd0.mono (by decide), sz0, gH, en3⟩
  rintro σ' H4 ⟨v4, d4, rfl, dv4, fd4, sz4, g4, en4⟩
  repeat' (walk_at "rd")
  refine Rd.cut (fun σ' H' => ∃ v d, σ' = [some (.ref st), some (.ref a), some (.ref Ln), some v, some (.int r)] ∧ Dv K H' v d ∧ Fd 3 d ∧ Sz d ∧ Go st c H H' ∧ H' Ln = some (.lst (ns.map V.str))) ?_ ?_
  · repeat' (walk_at "rd")
    · refine ⟨a, ks, rfl, hou g4, hl, h64, fun Lh ys H5 pm so n5 s5 e5 => ?_⟩
      repeat' (walk_at "rd")
      refine .inr ⟨st, c, Lh, ys.map V.str, rfl, g4.ok.same s5, (g4.ok.off n5).1, .inl (.inl e5), by rw [List.length_map, pm.length_eq]; exact Nat.le_trans (Nat.le_of_lt h64) (by decide), fun e => absurd (by rw [List.map_eq_nil_iff] at e; rw [e] at pm; exact pm.symm.eq_nil) hne, fun x H6 hx g6 => ?_⟩
      obtain ⟨z, mz, rfl⟩ := List.mem_map.mp hx
      have nz : NmS z := by
        have := hs_mem.mp (show z ∈ hsOf ks from pm.mem_iff.mp mz)
        exact ht.nm _ this z List.mem_cons_self
      have l12 := nz.2
      have gg : Go st c H H6 := (g4.same s5).trans g6
      have en6 := g6.keep _ _ nns (s5 _ _ en4)
      repeat' (walk_at "rd")
      exact ⟨_, _, rfl, .str _, .str _, nm_sz nz, gg, en6⟩
    · exact ⟨v4, d4, rfl, dv4, fd4, sz4, g4, en4⟩
  rintro σ' H5 ⟨v5, d5, rfl, dv5, fd5, sz5', g5, en5⟩
  repeat' (walk_at "rd")
  refine Rd.cut (fun σ' H' => ∃ v d, σ' = [some (.ref st), some (.ref a), some (.ref Ln), some v, some (.int r)] ∧ Dv K H' v d ∧ Fd 3 d ∧ Sz d ∧ Go st c H H' ∧ H' Ln = some (.lst (ns.map V.str))) ?_ ?_
  · repeat' (walk_at "rd")
    all_goals first | exact ⟨v5, d5, rfl, dv5, fd5, sz5', g5, en5⟩ | skip
    cases ns with
    | nil =>
      exfalso
      rename_i c1 c2
      simp at c2
    | cons z zs =>
      have mz : ∃ x y, Ky.a z x y ∈ ks := (lm1 z).mp List.mem_cons_self
      obtain ⟨x, y, mz⟩ := mz
      have nz : NmS z := ht.nm _ mz z (.head _)
      have l12 := nz.2
      refine Rd.ixN' (i := 0) (x := .str z) (.inl (.inl en5)) (by decide) rfl ?_
      repeat' (walk_at "rd")
      refine Rd.ixN' (i := 0) (x := .str z) (.inl (.inl en5)) (by decide) rfl ?_
      repeat' (walk_at "rd")
      have c1 := cutL z none (some (if ((z.length : Int) - 1) > 1 then (z.length : Int) - 1 else 1)) (n := 12) l12
      exact ⟨_, _, rfl, .str _, .str _, fun w' e => by cases e; omega, g5, en5⟩
  rintro σ' H6 ⟨v6, d6, rfl, dv6, fd6, sz6, g6, en6⟩
  repeat' (walk_at "rd")
  refine ⟨d6, Ln, ns, dv6, rfl, .inl (.inl en6), ?_⟩
  rw [if_neg Bool.false_ne_true]
  refine exbl ?_
  refine iteB (fun c => ?_) (fun c => ?_)
  · repeat' (walk_at "rd")
    exact q .non .none H6 .non .non (fun _ e => nomatch e) (fun _ e => nomatch e) g6
  · repeat' (walk_at "rd")
    refine q v6 d6 H6 dv6 fd6 sz6 (fun l e => ?_) g6
    subst e
    cases dv6
    refine no_isL fun ex => ?_
    have := List.any_eq_false.mp c l ((lm1 l).mpr ex)
    exact this (by show (l == l) = true; exact beq_self_eq_true l)
/-- _law_refused(keys, word) -/
def spRefused (K : PySem.W.Frag) : Sp := fun vs H Q _ => ∃ (a : Addr) (v : V) (d : PyData) (ks : List Ky), vs = [.ref a, v] ∧ Dv K H v d ∧ Sz d ∧ Fd 3 d ∧ KL H a ks ∧ ks.length ≤ 1000 ∧ (∀ l, v = .str l → ∀ k ∈ ks, isL l k = false) ∧ ∀ H', Same H H' → Q (.bl true) H'
theorem fd_ref {c : Str} {d : PyData} (h : Fd 3 d) : Fd 7 (.tuple [.str "refused", .str c, d]) := (Fd.tup (n := 3) (Nat.le_of_ble_eq_true rfl) fun x hx => by
  rcases List.mem_cons.mp hx with rfl | hx
  · exact .str _
  rcases List.mem_cons.mp hx with rfl | hx
  · exact .str _
  · rw [List.mem_singleton.mp hx]
    exact h).mono (by decide)
theorem ok__law_refused (F : Def K mg "_law_refused" s__law_refused P__law_refused) (m_list : mg "list" = none) (C__law_same : Cal P w K mg base 9 "_law_same" P__law_same (spSame K 8)) (C__law_is_name : Cal P w K mg base 1 "_law_is_name" P__law_is_name (spNamed K)) (C__law_part_told : Cal P w K mg base 6 "_law_part_told" P__law_part_told (spPTold K)) : Cal P w K mg base 11 "_law_refused" P__law_refused (spRefused K) := by
  refine F.ok sc__law_refused (fun vs H Q E h => ?_) (fun f cdv A outer s H vs Q E hr h => ?_)
  · obtain ⟨a, v, d, ks, rfl, _⟩ := h
    rfl
  obtain ⟨a, v, d, ks, rfl, hv, sz, fd, hk, hl, hno, q⟩ := h
  refine ⟨_, (pss_cons (ps_set (i := 2) sc__law_refused.nd rfl (Or.inl rfl) pe_str)
  (pss_cons (ps_if (pt_val (pe_cal C__law_is_name hr (pa_cons (pv 1 (hd := nd_word) (hcd := nc_word)) pa_nil) (hdb := nd__law_is_name))) (pss_one (ps_set (i := 2) sc__law_refused.nd rfl (Or.inl rfl) pe_str)) pss_nil)
  (pss_cons (ps_set (i := 3) sc__law_refused.nd rfl (Or.inl rfl) (pe_callTy q_list (by rfl) m_list bb_list (pa_cons (pv 0 (hd := nd_keys) (hcd := nc_keys)) pa_nil) (hn := nn_list) (hdb := nd_list)))
  (pss_cons (ps_set (i := 4) sc__law_refused.nd rfl (Or.inl rfl) (pe_cal C__law_part_told hr (pa_cons (pv 3 (hd := nd_handed) (hcd := nc_handed)) (pa_cons (pv 1 (hd := nd_word) (hcd := nc_word)) pa_nil)) (hdb := nd__law_part_told)))
  (pss_one (ps_ret (pe_and (pe_cal C__law_same hr (pa_cons (pv 4 (hd := nd_told) (hcd := nc_told)) (pa_cons (pe_tup (pa_cons pe_str (pa_cons (pv 2 (hd := nd_code) (hcd := nc_code)) (pa_cons (pv 1 (hd := nd_word) (hcd := nc_word)) pa_nil)))) pa_nil)) (hdb := nd__law_same)) (pe_one (pe_cal C__law_same hr (pa_cons (pv 3 (hd := nd_handed) (hcd := nc_handed)) (pa_cons (pv 0 (hd := nd_keys) (hcd := nc_keys)) pa_nil)) (hdb := nd__law_same)))))))))), ?_⟩
  refine Rd.at0 (σ := [some (.ref a), some v, none, none, none]) rfl ?_
  obtain ⟨vs, ea, kvs, lv⟩ := kl_len hk
  have fk : Fd 7 (.list (ks.map kdat)) := (fd_keys (by omega)).mono (by decide)
  repeat' (walk_at "rd")
  refine ⟨v, d, rfl, hv, sz, fun H1 s1 => ?_⟩
  refine exbl ?_
  have ea1 := s1 _ _ ea
  cases hn : nameD d with
  | true =>
    obtain ⟨l, rfl⟩ : ∃ x, d = .str x := by
      rcases str_cases d with h | ⟨h, _⟩
      · exact h
      · rw [hn] at h
        cases h
    cases hv
    have nl : NmS l := nm_iff hn
    repeat' (walk_at "rd")
    rename_i L0 n0 G0 s0 e0
    have s00 := s1.trans s0
    have k0 : KL G0 L0 ks := ⟨vs, e0, kvs.same s00⟩
    refine ⟨L0, .str l, .str l, ks, rfl, .str l, sz, k0, hl, fun h => absurd (hn.symm.trans h) (by decide), fun y ey ny my t H4 s4 e4 => ?_, fun y ey ny ⟨k, mk, ck⟩ => absurd (hno y ey k mk) (by rw [ck]; decide)⟩
    cases ey
    repeat' (walk_at "rd")
    rename_i t5 n5 G5 s5 e5
    refine ⟨_, _, .tuple [.str "refused", .str "NoLine", .str l], 7, rfl, rfl, .tup (.inl (.inl (s5 _ _ e4))) (.cons (.str _) (.cons (.str _) (.cons (.str _) .nil))), .tup (.inl (.inl e5)) (.cons (.str _) (.cons (.str _) (.cons (.str _) .nil))), fd_ref fd, fun H6 s6 => ?_⟩
    have s46 := (s4.trans s5).trans s6
    repeat' (walk_at "rd")
    refine ⟨_, _, .list (ks.map kdat), 7, rfl, rfl, kl_dv (k0.same s46), kl_dv (hk.same (s00.trans s46)), fk, fun H7 s7 => ?_⟩
    exact q H7 ((s00.trans s46).trans s7)
  | false =>
    repeat' (walk_at "rd")
    rename_i L0 n0 G0 s0 e0
    have s00 := s1.trans s0
    have k0 : KL G0 L0 ks := ⟨vs, e0, kvs.same s00⟩
    have nstr : ∀ {l : Str}, v = .str l → ¬ NmS l := fun {l} e nl => by
      subst e
      cases hv
      have := (show nameD (.str l) = true from nm_b nl).symm.trans hn
      cases this
    refine ⟨L0, v, d, ks, rfl, dv_same s00 hv, sz, k0, hl, fun _ t H4 s4 e4 => ?_, fun y ey ny => absurd ny (nstr ey), fun y ey ny => absurd ny (nstr ey)⟩
    repeat' (walk_at "rd")
    rename_i t5 n5 G5 s5 e5
    have dv5 := dv_same ((s00.trans s4).trans s5) hv
    refine ⟨_, _, .tuple [.str "refused", .str "BadName", d], 7, rfl, rfl, .tup (.inl (.inl (s5 _ _ e4))) (.cons (.str _) (.cons (.str _) (.cons dv5 .nil))), .tup (.inl (.inl e5)) (.cons (.str _) (.cons (.str _) (.cons dv5 .nil))), fd_ref fd, fun H6 s6 => ?_⟩
    have s46 := (s4.trans s5).trans s6
    repeat' (walk_at "rd")
    refine ⟨_, _, .list (ks.map kdat), 7, rfl, rfl, kl_dv (k0.same s46), kl_dv (hk.same (s00.trans s46)), fk, fun H7 s7 => ?_⟩
    exact q H7 ((s00.trans s46).trans s7)
end
end Kj
namespace Kj
open PySem PySem.Spec PyProof.Rows L2 Rd
/-! ### the stepper -/
local macro_rules | `(tactic| walk_at "hp") => `(tactic| first
  | assumption
  | exact upd_same
  | (refine Eq.trans (upd_ne (by first | assumption | (apply Ne.symm; assumption))) ?_; walk_at "hp"))
local macro_rules | `(tactic| walk_at "sq") => `(tactic| first
  | assumption
  | (refine Or.inl (Or.inl ?_); walk_at "hp"))
local macro_rules | `(tactic| walk_at "st") => `(tactic| first
  | assumption
  | (refine Or.inl (Or.inl ?_); walk_at "hp"))
local macro_rules | `(tactic| walk_at "ar") => `(tactic| first
  | assumption
  | omega
  | decide)
local macro_rules | `(tactic| walk_at "ci") => `(tactic| first
  | (refine (show CMul _ _ from Or.inr ⟨?_, ?_⟩) <;> omega)
  | (refine (show CMul _ _ from Or.inl ⟨?_, ?_⟩) <;> omega)
  | (show CPow _ _; exact ⟨by decide, by decide, by decide⟩)
  | (refine wide_div (b := 63) ?_ ?_ (by decide) (by decide) <;> omega)
  | (show (0 : Int) < _; omega))
local macro_rules | `(tactic| walk_at "ty") => `(tactic| first
  | exact dp_ty (by assumption)
  | exact TyX.base (TyOf.int _)
  | exact TyX.base (TyOf.str _)
  | exact TyX.base (TyOf.bl _)
  | exact TyX.base TyOf.non
  | exact tyL' (by walk_at "sq")
  | exact tyT' (by walk_at "st"))
local macro_rules | `(tactic| walk_at "isi") => `(tactic| first
  | ((with_reducible apply Rd.isiF); (walk_at "ty"); (decide))
  | ((with_reducible apply Rd.isiT); (walk_at "ty"); (decide)))
local macro_rules | `(tactic| walk_at "rd") => `(tactic| first
  | with_reducible apply Rd.seq
  | ((with_reducible apply Rd.var); rfl)
  | with_reducible apply Rd.con
  | with_reducible apply Rd.op
  | with_reducible apply Rd.asg
  | ((with_reducible apply Rd.gname); ((dsimp only [List.set, L2.wipe, Int.reduceToNat]) <;> rfl))
  | with_reducible apply Rd.nxt
  | with_reducible apply Rd.ifs
  | with_reducible apply Rd.test
  | with_reducible apply Rd.testB
  | with_reducible apply Rd.exbl
  | with_reducible apply Rd.ret
  | with_reducible apply Rd.drop
  | with_reducible apply Rd.retN
  | with_reducible apply Rd.nil
  | with_reducible apply Rd.cons
  | with_reducible apply Rd.call
  | with_reducible apply Rd.cb
  | with_reducible apply Rd.and
  | with_reducible apply Rd.or
  | with_reducible apply Rd.not
  | with_reducible apply Rd.andV
  | with_reducible apply Rd.orV
  | with_reducible apply Rd.notV
  | with_reducible apply Rd.ife
  | with_reducible apply Rd.tup
  | with_reducible apply Rd.lst
  | with_reducible apply Rd.un
  | with_reducible apply Rd.chain
  | with_reducible apply Rd.brk
  | with_reducible apply Rd.cnt
  | with_reducible apply Rd.I0
  | with_reducible apply Rd.U1
  | ((with_reducible apply Rd.eq); rfl)
  | ((with_reducible apply Rd.ne); rfl)
  | ((with_reducible apply Rd.I1); (walk_at "ci"))
  | with_reducible apply Rd.lc0
  | with_reducible apply Rd.ln0
  | with_reducible apply Rd.exN
  | ((with_reducible apply Rd.iteSf); (decide +kernel))
  | ((with_reducible apply Rd.iteSt); (decide +kernel))
  | ((with_reducible apply Rd.niQ); (exact Or.inl (by walk_at "sq")); (exact ⟨rfl, rfl⟩); (rfl))
  | ((with_reducible apply Rd.inQ); (exact Or.inl (by walk_at "sq")); (exact ⟨rfl, rfl⟩); (rfl))
  | with_reducible apply Rd.rn1
  | with_reducible apply Rd.in1
  | with_reducible apply Rd.sn1
  | with_reducible apply Rd.bn1
  | with_reducible apply Rd.nn1
  | with_reducible apply Rd.rn2
  | with_reducible apply Rd.in2
  | with_reducible apply Rd.sn2
  | with_reducible apply Rd.bn2
  | with_reducible apply Rd.nn2
  | with_reducible apply Rd.nt1
  | with_reducible apply Rd.nf1
  | (with_reducible refine Rd.iteI (fun _ => ?_) (fun _ => ?_))
  | (with_reducible refine Rd.iteNI (fun _ => ?_) (fun _ => ?_))
  | (with_reducible refine iteT ?_)
  | (with_reducible refine iteF ?_)
  | (with_reducible refine Rd.iteD (fun _ => ?_) (fun _ => ?_))
  | (with_reducible refine Rd.iteN (fun _ => ?_) (fun _ => ?_))
  | with_reducible apply Rd.intI
  | with_reducible apply Rd.intB
  | with_reducible apply Rd.maxQ
  | with_reducible apply Rd.minQ
  | with_reducible apply Rd.absQ
  | with_reducible apply Rd.isN
  | with_reducible apply Rd.noN
  | with_reducible apply Rd.ltZ
  | with_reducible apply Rd.bm
  | with_reducible apply Rd.bm0
  | with_reducible apply Rd.par
  | with_reducible apply Rd.expar
  | with_reducible apply Rd.exint
  | with_reducible apply Rd.ipi
  | with_reducible apply Rd.slice
  | with_reducible apply Rd.noPart
  | with_reducible apply Rd.part
  | with_reducible apply Rd.gcons
  | with_reducible apply Rd.gnil
  | with_reducible apply Rd.iseq
  | with_reducible apply Rd.irng1
  | walk_at "isi"
  | with_reducible apply Rd.forX
  | with_reducible apply Rd.lstRev
  | with_reducible apply Rd.lstRg
  | with_reducible apply Rd.rg1
  | with_reducible apply Rd.rg2
  | with_reducible apply Rd.exint2
  | ((with_reducible apply Rd.exrev); (walk_at "sq"))
  | with_reducible apply Rd.lcX
  | with_reducible apply Rd.yes
  | ((with_reducible apply Rd.exrng1); (constructor <;> omega))
  | ((with_reducible apply Rd.exrng2); (refine ⟨?_, ?_, ?_, ?_⟩ <;> omega))
  | with_reducible apply Rd.irng2
  | ((with_reducible apply Rd.aug); rfl)
  | ((with_reducible apply Rd.exlst); (walk_at "sq"))
  | ((with_reducible apply Rd.gtup); (walk_at "st"); (rfl))
  | ((with_reducible apply Rd.tyL); (walk_at "hp"))
  | ((with_reducible apply Rd.ixL); (walk_at "sq"); (rfl))
  | ((with_reducible apply Rd.ixI); (walk_at "sq"); (omega); (first | assumption | (simp only [List.length_map]; omega)); (intro _ _))
  | (with_reducible refine Rd.gsub ?_)
  | ((with_reducible apply Rd.setL); (walk_at "hp"); (rfl); ((dsimp only [List.set, L2.wipe, Int.reduceToNat]) <;> rfl))
  | ((with_reducible apply Rd.lenQ); (first | exact Or.inl (by walk_at "sq") | exact Or.inr (by walk_at "st")))
  | ((with_reducible apply Rd.listQ); (first | exact Or.inl (by walk_at "sq") | exact Or.inr (by walk_at "st")))
  | ((with_reducible apply Rd.tupQ); (walk_at "sq"))
  | ((with_reducible apply Rd.slL); (walk_at "sq"))
  | ((with_reducible apply Rd.ixT); (walk_at "st"); (rfl))
  | (with_reducible refine Rd.iteB (fun _ => ?_) (fun _ => ?_))
  | (with_reducible refine Rd.iteNB (fun _ => ?_) (fun _ => ?_))
  | (refine Rd.andI (Nat.le_of_ble_eq_true rfl) ?_)
  | dsimp only [List.set])
local macro_rules | `(tactic| walk_at "hp") => `(tactic| first
  | assumption
  | exact upd_same
  | (refine Eq.trans (upd_ne (by first | assumption | (apply Ne.symm; assumption))) ?_; walk_at "hp")
  | (refine hpS (by assumption) ?_; walk_at "hp"))
local macro_rules | `(tactic| walk_at "al") => `(tactic| (with_reducible intro l hl; generalize hG : upd _ l _ = G; have hs := newOne hl hG; clear hG; obtain ⟨hs, he⟩ := hs))
local macro_rules | `(tactic| walk_at "rd") => `(tactic| first
  | walk_at "al"
  | ((with_reducible apply Rd.cat); (walk_at "hp"); (walk_at "hp"); (exact Nat.le_of_ble_eq_true rfl)))
local macro_rules | `(tactic| walk_at "sm") => `(tactic| first
  | assumption
  | exact Same.refl _
  | (refine Same.trans ?_ (by assumption); walk_at "sm"))
local macro_rules | `(tactic| walk_at "fr") => `(tactic| first
  | assumption
  | (refine Same.free (by assumption) ?_; walk_at "fr"))
local macro_rules | `(tactic| walk_at "ty") => `(tactic| first
  | exact dv_ty (by assumption)
  | exact tyD' (by walk_at "hp"))
local macro_rules | `(tactic| walk_at "sz") => `(tactic| first
  | exact sz5 (by omega)
  | (simp only [add_len, one_len]; exact sz5 (by omega)))
local macro_rules | `(tactic| walk_at "rd") => `(tactic| first
  | with_reducible apply Rd.istr
  | with_reducible apply Rd.exstr
  | with_reducible apply Rd.leA
  | with_reducible apply Rd.leZz
  | with_reducible apply Rd.le0
  | with_reducible apply Rd.le9
  | with_reducible apply Rd.niZ
  | ((with_reducible apply Rd.lenZ); (walk_at "sz"))
  | ((with_reducible apply Rd.slZ); (walk_at "sz"))
  | ((with_reducible apply Rd.addZ); (walk_at "sz"))
  | with_reducible apply Rd.raiseX
  | with_reducible apply Rd.exone
  | with_reducible apply Rd.callS
  | with_reducible apply Rd.callP
  | with_reducible apply Rd.xsX
  | with_reducible apply Rd.dnewX
  | with_reducible apply Rd.tyZ)
/-! ### the two tours judged -/
open Ty
section
variable {P : Program} {w : World} {K : PySem.W.Frag} {mg : Str → Option Value} {base : Heap} {D : Str → Addr}
/-- a comprehension whose items are new objects -/
theorem lcWO {J : It} {n : Nat} {Gd : Hp → Prop} {Y : Nat → Hp → V → Hp → Prop} (w : L2.Walk J n Gd Y) {g : TG} {tt : L2.TT} {te : TE} {vs : List Nat} {σ : L2.St} {H : Hp} {Q : VK} (R : Addr → Nat → V → Hp → Prop)
    (mono : ∀ L i v G G', R L i v G → Kx L G G' → R L i v G') (hz : n ≤ 100000) (hG : ∀ h, Same H h → Gd h)
    (hs : ∀ L i x h h', H L = none → i < n → Same H h → (∃ o, h L = some o) → Y i h x h' → ∀ Nx : Hp → Prop, (∀ G y, R L i y G → Same h G → ∃ out, G L = some (.lst out) ∧ out.length < sizeLine ∧ Nx (upd G L (.lst (out ++ [y])))) → Turn1 g tt te vs σ L x h' Nx)
    (hd : ∀ L G us, H L = none → Same H G → G L = some (.lst us) → us.length = n → (∀ i u, us[i]? = some u → R L i u G) → Q (.ref L) G) : LcB J g tt te vs σ H Q := fun L hL => by
  have st : ∀ {G : Hp} {o : HO}, Same H G → Same H (upd G L o) := fun s b o e => (upd_ne (ne_of_none e hL)).trans (s b o e)
  refine L2.lc_it (Qd := Q (.ref L)) w (fun i h => Same H h ∧ ∃ us, h L = some (.lst us) ∧ us.length = i ∧ ∀ j u, us[j]? = some u → R L j u h) ⟨st (.refl H), [], upd_same, rfl, fun j u e => by simp at e⟩ (fun i h _ p => hG h p.1) (fun i x h h' hi p y => ?_) fun h ⟨s, us, e, l, r⟩ => hd L h us hL s e l r
  obtain ⟨s, us, e, l, r⟩ := p
  refine hs L i x h h' hL hi s ⟨_, e⟩ y _ fun G z hz' sG => ⟨us, sG _ _ e, by have := sz5 (Nat.le_refl 100000); omega, st (s.trans sG), us ++ [z], upd_same, by rw [List.length_append, l]; rfl, fun j u hu => ?_⟩
  have kx : Kx L G (upd G L (.lst (us ++ [z]))) := fun b o n e => (upd_ne n).trans e
  by_cases c : j < us.length
  · rw [List.getElem?_append_left c] at hu
    exact mono _ _ _ _ _ (r j u hu) ((Kx.of sG).trans kx)
  · have : j = us.length := by
      have := (List.getElem?_eq_some_iff.mp hu).1
      rw [List.length_append] at this
      have : j < us.length + 1 := this
      omega
    subst this
    rw [List.getElem?_append_right (Nat.le_refl _), Nat.sub_self] at hu
    cases hu
    rw [l]
    exact mono _ _ _ _ _ hz' kx
theorem shaped_l {xs : List Str} (h : ∀ n ∈ xs, PyData.strOk n = true) : SeqAt.shaped (.list (xs.map PyData.str)) = true := by
  unfold SeqAt.shaped
  rw [PyData.canLay0, lay_strs xs h, PyData.depth, depth_strs]
  rfl
theorem neSs {H : Hp} {Q : VK} {p r : Addr} {xs : List Str} (h : H p = some (.lst (xs.map V.str))) (h' : H r = some (.lst (xs.map V.str))) (o : ∀ n ∈ xs, PyData.strOk n = true) (q : Q (.bl false) H) : rNeD K (.ref p) (.ref r) H Q := by
  refine ⟨.list (xs.map PyData.str), .list (xs.map PyData.str), .lst (.inl (.inl h)) (dp_strs _), .lst (.inl (.inl h')) (dp_strs _), shaped_l o, shaped_l o, ?_⟩
  rw [PyData.eqv, eqv_strs, decide_eq_true rfl]
  exact q
theorem neBB {H : Hp} {Q : VK} {p r b0 b1 c0 c1 : Addr} {a b c d a' b' c' d' k : Bool} (h : H p = some (.lst [.ref b0, .ref b1])) (h0 : H b0 = some (.lst [.bl a, .bl b])) (h1 : H b1 = some (.lst [.bl c, .bl d])) (g : H r = some (.lst [.ref c0, .ref c1])) (g0 : H c0 = some (.lst [.bl a', .bl b'])) (g1 : H c1 = some (.lst [.bl c', .bl d']))
    (e : PyData.eqv (.list [.list [.bool a, .bool b], .list [.bool c, .bool d]]) (.list [.list [.bool a', .bool b'], .list [.bool c', .bool d']]) = k) (q : Q (.bl (!k)) H) : rNeD K (.ref p) (.ref r) H Q := by
  subst e
  refine ⟨.list [.list [.bool a, .bool b], .list [.bool c, .bool d]], .list [.list [.bool a', .bool b'], .list [.bool c', .bool d']], .lst (.inl (.inl h)) (.cons (.lst (.inl (.inl h0)) (.cons (.bl _) (.cons (.bl _) .nil))) (.cons (.lst (.inl (.inl h1)) (.cons (.bl _) (.cons (.bl _) .nil))) .nil)),
    .lst (.inl (.inl g)) (.cons (.lst (.inl (.inl g0)) (.cons (.bl _) (.cons (.bl _) .nil))) (.cons (.lst (.inl (.inl g1)) (.cons (.bl _) (.cons (.bl _) .nil))) .nil)), rfl, rfl, q⟩
theorem catS {H : Hp} {Q : VK} {p r : Addr} {xs ys : List Str} (h : H p = some (.lst (xs.map V.str))) (h' : H r = some (.lst (ys.map V.str))) (l : xs.length + ys.length ≤ 100000) (q : ∀ L G, H L = none → Same H G → G L = some (.lst ((xs ++ ys).map V.str)) → Q (.ref L) G) : rCat (.ref p) (.ref r) H Q :=
  cat h h' (sz5 (by rw [List.length_map, List.length_map]; exact l)) fun L n => q L _ n (same_upd n) (by rw [List.map_append]; exact upd_same)
theorem forT {g : TG} {tb : TS} {σ : L2.St} {H : Hp} {n b c : L2.St → Hp → Prop} {rr : VK} {a : Addr} (xs : List V) (Pv : Nat → L2.St → Hp → Prop) (h0 : Pv 0 σ H) (hl : ∀ i σ H, i ≤ xs.length → Pv i σ H → SqT K H a xs)
    (hs : ∀ i x σ H, xs[i]? = some x → Pv i σ H → g x σ H fun σ2 H2 => tb ⟨Pv (i + 1), rr, n, Pv (i + 1)⟩ σ2 H2) (hd : ∀ σ H, Pv xs.length σ H → n σ H) : ForB (Itt K a) g tb ⟨n, rr, b, c⟩ σ H :=
  for_tup (D := ⟨n, rr, b, c⟩) Pv h0 hl hs hd
/-- the ends of the line's last arc -/
def lastE (l : Str) (e : List Str) : Ky → List Str
  | .a m x y => if m = l then [x, y] else e
  | _ => e
theorem lastE_no {l : Str} : ∀ {L : List Ky} {e : List Str}, (∀ k ∈ L, isL l k = false) → L.foldl (lastE l) e = e
  | [], _, _ => rfl
  | k :: L, e, h => by
    rw [List.foldl_cons]
    have hk : lastE l e k = e := by
      cases k with
      | h x => rfl
      | a m x y => exact if_neg fun z => by have := h _ List.mem_cons_self; rw [show isL l (.a m x y) = true from decide_eq_true z] at this; cases this
    rw [hk, lastE_no fun j m => h j (List.mem_cons_of_mem _ m)]
theorem lastE_is {l u v p q : Str} {xs ys zs : List Ky} (ny : ∀ k ∈ ys, isL l k = false) (nz : ∀ k ∈ zs, isL l k = false) : (xs ++ .a l u v :: (ys ++ .a l p q :: zs)).foldl (lastE l) [] = [p, q] := by
  rw [List.foldl_append, List.foldl_cons, List.foldl_append, List.foldl_cons, lastE_no nz]
  exact if_pos rfl
/-- _law_walked(told, keys, line) -/
def spWalked : Sp := fun vs H Q _ => ∃ (t p r a : Addr) (l u v : Str) (xs ys zs : List Ky), vs = [.ref t, .ref a, .str l] ∧ H t = some (.tup [.ref p, .ref r]) ∧ KL H p (xs ++ zs) ∧ KL H r ys ∧ KL H a (xs ++ .a l u v :: (ys ++ .a l v u :: zs)) ∧ T (xs ++ .a l u v :: (ys ++ .a l v u :: zs)) ∧
  (xs ++ .a l u v :: (ys ++ .a l v u :: zs)).length ≤ 1000 ∧ (hsOf (xs ++ .a l u v :: (ys ++ .a l v u :: zs))).length < 64 ∧ (∀ k ∈ ys, isL l k = false) ∧ (∀ k ∈ zs, isL l k = false) ∧ ∀ H', Same H H' → Q (.bl true) H'
theorem T.l64 {ks : List Ky} (h : T ks) (h64 : (hsOf ks).length < 64) (ns : List Str) (nd : ns.Nodup) (m : ∀ l ∈ ns, ∃ x y, Ky.a l x y ∈ ks) : ns.length < 64 := by
  have := count_ge (as := asOf ks) nd fun l hl => by
    obtain ⟨x, y, k⟩ := m l hl
    exact two_arcs h.nd (h.ne _ _ _ k) k (h.rev _ _ _ k)
  have := h.cnt
  omega
theorem ok__law_walked (F : Def K mg "_law_walked" s__law_walked P__law_walked) (m_sorted : mg "sorted" = none) (m_list : mg "list" = none) (C_is_tour : Cal P w K mg base 4 "is_tour" P_is_tour spIsTour) (C_tour_houses : Cal P w K mg base 2 "tour_houses" P_tour_houses spTourHouses) (C_tour_lines : Cal P w K mg base 2 "tour_lines" P_tour_lines spTourLines) (C__law_same : Cal P w K mg base 9 "_law_same" P__law_same (spSame K 8)) (C__law_tour_houses : Cal P w K mg base 2 "_law_tour_houses" P__law_tour_houses spTourHouses) (C__law_tour_lines : Cal P w K mg base 2 "_law_tour_lines" P__law_tour_lines spTourLinesL) (C__law_is_tour : Cal P w K mg base 4 "_law_is_tour" P__law_is_tour spIsTourL) : Cal P w K mg base 11 "_law_walked" P__law_walked spWalked := by
  refine F.ok sc__law_walked (fun vs H Q E h => ?_) (fun f cdv A outer s H vs Q E hr h => ?_)
  · obtain ⟨t, p, r, a, l, u, v, xs, ys, zs, rfl, _⟩ := h
    rfl
  obtain ⟨t, p, r, a, l, u, v, xs, ys, zs, rfl, et, kp, kr, hk, ht, hl, h64, ny, nz, q⟩ := h
  refine ⟨_, (pss_cons (ps_if (PW.pt (pw_or (pt_not (pt_val (pe_cal C__law_is_tour hr (pa_cons (pe_ix ix_tup (pv 0 (hd := nd_told) (hcd := nc_told)) pe_int (fun _ _ => rfl)) pa_nil) (hdb := nd__law_is_tour)))) (pw_or1 (pt_not (pt_val (pe_cal C__law_is_tour hr (pa_cons (pe_ix ix_tup (pv 0 (hd := nd_told) (hcd := nc_told)) pe_int (fun _ _ => rfl)) pa_nil) (hdb := nd__law_is_tour))))))) (pss_one (ps_ret pe_bl)) pss_nil)
  (pss_cons (ps_set (i := 3) sc__law_walked.nd rfl (Or.inr rfl) (pe_lst pa_nil))
  (pss_cons (ps_for PassesOwn.never rfl (pi_list (pv 1 (hd := nd_keys) (hcd := nc_keys))) (pg_name (i := 4) sc__law_walked.nd rfl (Or.inl rfl)) (pss_one (ps_if (PW.pt (pw_and (pt_cmpR op_eq (pe_ix ix_tup (pv 4 (hd := nd_key) (hcd := nc_key)) pe_int (fun _ _ => rfl)) pe_str (nomark _)) (pw_and1 (pt_cmpR op_eq (pe_ix ix_tup (pv 4 (hd := nd_key) (hcd := nc_key)) pe_int (fun _ _ => rfl)) (pv 2 (hd := nd_line) (hcd := nc_line)) (nomark _))))) (pss_one (ps_set (i := 3) sc__law_walked.nd rfl (Or.inr rfl) (pe_lst (pa_cons (pe_ix ix_tup (pv 4 (hd := nd_key) (hcd := nc_key)) pe_int (fun _ _ => rfl)) (pa_cons (pe_ix ix_tup (pv 4 (hd := nd_key) (hcd := nc_key)) pe_int (fun _ _ => rfl)) pa_nil))))) pss_nil)))
  (pss_cons (ps_setLc (i := 6) (own := [("row", 5)]) (by rfl) sc__law_walked.nd rfl rfl (sw_true rfl rfl rfl (by decide +kernel)) (pi_tup (pv 0 (hd := nd_told) (hcd := nc_told))) (blkOk_by (N := N__law_walked) (sc := defScope s__law_walked) (by decide +kernel)) (fun _ _ _ _ _ => (pg_name (i := 5) sc__law_walked.nd rfl (Or.inr rfl))) (fun _ _ _ _ _ => pts_nil) (fun _ _ _ _ _ => (by (refine' pe_lc (own := [("end", 7)]) ?_ ?_ ?_ ?_ ?_ ?_ ?_; (rfl); (exact sc__law_walked.nd); (exact ((pi_listK (K := K) rfl) (pv 3 (hd := nd_ends) (hcd := nc_ends)))); (exact (blkOk_by (N := N__law_walked) (sc := _) (by exact rfl))); (exact (fun _ _ _ _ _ => (pg_name (i := 7) sc__law_walked.nd rfl (Or.inl rfl)))); (exact (fun _ _ _ _ _ => pts_nil)); (exact (fun _ _ _ _ _ => (pe_cmpR (Ty.inDK (K := K) rfl (Ty.un65 hr)) (pe_tup (pa_cons pe_str (pa_cons (pv 7 (hd := nd_end) (hcd := nc_end)) pa_nil))) (pv 5 (hd := nd_row) (hcd := nc_row)) (by rfl))))))))
  (pss_cons (ps_if (PW.pt (pw_and (pt_cmpR (Ho.neDK (K := K) rfl hr.units) (pv 6 (hd := nd_sides) (hcd := nc_sides)) (pe_lst (pa_cons (pe_lst (pa_cons pe_bl (pa_cons pe_bl pa_nil))) (pa_cons (pe_lst (pa_cons pe_bl (pa_cons pe_bl pa_nil))) pa_nil))) (nomark _)) (pw_and1 (pt_cmpR (Ho.neDK (K := K) rfl hr.units) (pv 6 (hd := nd_sides) (hcd := nc_sides)) (pe_lst (pa_cons (pe_lst (pa_cons pe_bl (pa_cons pe_bl pa_nil))) (pa_cons (pe_lst (pa_cons pe_bl (pa_cons pe_bl pa_nil))) pa_nil))) (nomark _))))) (pss_one (ps_ret pe_bl)) pss_nil)
  (pss_cons (ps_if (pt_cmpR (Ho.neDK (K := K) rfl hr.units) (pe_callB (q_sortedSK (K := K) rfl) (by rfl) m_sorted bb_sorted (pa_cons (pe_op op_cat (pe_cal C__law_tour_houses hr (pa_cons (pe_ix ix_tup (pv 0 (hd := nd_told) (hcd := nc_told)) pe_int (fun _ _ => rfl)) pa_nil) (hdb := nd__law_tour_houses)) (pe_cal C__law_tour_houses hr (pa_cons (pe_ix ix_tup (pv 0 (hd := nd_told) (hcd := nc_told)) pe_int (fun _ _ => rfl)) pa_nil) (hdb := nd__law_tour_houses))) pa_nil) (hn := nn_sorted) (hdb := nd_sorted)) (pe_cal C__law_tour_houses hr (pa_cons (pv 1 (hd := nd_keys) (hcd := nc_keys)) pa_nil) (hdb := nd__law_tour_houses)) (nomark _)) (pss_one (ps_ret pe_bl)) pss_nil)
  (pss_cons (ps_if (pt_cmpR (Ho.neDK (K := K) rfl hr.units) (pe_callB (q_sortedSK (K := K) rfl) (by rfl) m_sorted bb_sorted (pa_cons (pe_op op_cat (pe_op op_cat (pe_cal C__law_tour_lines hr (pa_cons (pe_ix ix_tup (pv 0 (hd := nd_told) (hcd := nc_told)) pe_int (fun _ _ => rfl)) pa_nil) (hdb := nd__law_tour_lines)) (pe_cal C__law_tour_lines hr (pa_cons (pe_ix ix_tup (pv 0 (hd := nd_told) (hcd := nc_told)) pe_int (fun _ _ => rfl)) pa_nil) (hdb := nd__law_tour_lines))) (pe_lst (pa_cons (pv 2 (hd := nd_line) (hcd := nc_line)) pa_nil))) pa_nil) (hn := nn_sorted) (hdb := nd_sorted)) (pe_cal C__law_tour_lines hr (pa_cons (pv 1 (hd := nd_keys) (hcd := nc_keys)) pa_nil) (hdb := nd__law_tour_lines)) (nomark _)) (pss_one (ps_ret pe_bl)) pss_nil)
  (pss_cons (ps_for PassesOwn.never rfl (pi_tup (pv 0 (hd := nd_told) (hcd := nc_told))) (pg_name (i := 5) sc__law_walked.nd rfl (Or.inl rfl)) (pss_cons (ps_if (pt_not (pt_val (pe_cal C__law_same hr (pa_cons (pe_lst (pa_cons (pe_cal C_is_tour hr (pa_cons (pe_callTy q_list (by rfl) m_list bb_list (pa_cons (pv 5 (hd := nd_row) (hcd := nc_row)) pa_nil) (hn := nn_list) (hdb := nd_list)) pa_nil) (hdb := nd_is_tour)) (pa_cons (pe_cal C_tour_houses hr (pa_cons (pe_callTy q_list (by rfl) m_list bb_list (pa_cons (pv 5 (hd := nd_row) (hcd := nc_row)) pa_nil) (hn := nn_list) (hdb := nd_list)) pa_nil) (hdb := nd_tour_houses)) pa_nil))) (pa_cons (pe_lst (pa_cons pe_bl (pa_cons (pe_cal C__law_tour_houses hr (pa_cons (pv 5 (hd := nd_row) (hcd := nc_row)) pa_nil) (hdb := nd__law_tour_houses)) pa_nil))) pa_nil)) (hdb := nd__law_same)))) (pss_one (ps_ret pe_bl)) pss_nil)
  (pss_one (ps_if (pt_not (pt_val (pe_cal C__law_same hr (pa_cons (pe_cal C_tour_lines hr (pa_cons (pe_callTy q_list (by rfl) m_list bb_list (pa_cons (pv 5 (hd := nd_row) (hcd := nc_row)) pa_nil) (hn := nn_list) (hdb := nd_list)) pa_nil) (hdb := nd_tour_lines)) (pa_cons (pe_cal C__law_tour_lines hr (pa_cons (pv 5 (hd := nd_row) (hcd := nc_row)) pa_nil) (hdb := nd__law_tour_lines)) pa_nil)) (hdb := nd__law_same)))) (pss_one (ps_ret pe_bl)) pss_nil))))
  (pss_one (ps_ret pe_bl)))))))))), ?_⟩
  refine Rd.at0 (σ := [some (.ref t), some (.ref a), some (.str l), none, none, none, none, none]) rfl ?_
  obtain ⟨_, _, tO, tY, noO, noY, mu, mv, over, lover⟩ := T.part ht
  have em := lastE_is (l := l) (u := u) (v := v) (p := v) (q := u) (xs := xs) ny nz
  have l1 : (hsOf (xs ++ .a l u v :: (ys ++ .a l v u :: zs))).length = (hsOf (xs ++ zs)).length + (hsOf ys).length := by
    simp only [hs_app, List.length_append]
    show (hsOf xs).length + (hsOf (ys ++ Ky.a l v u :: zs)).length = _
    rw [hs_app, List.length_append]
    show (hsOf xs).length + ((hsOf ys).length + (hsOf zs).length) = _
    omega
  have ll : (xs ++ zs).length + ys.length + 2 = (xs ++ .a l u v :: (ys ++ .a l v u :: zs)).length := by
    simp only [List.length_append, List.length_cons]
    omega
  obtain ⟨vs, ea, kvs, lv⟩ := kl_len hk
  repeat' (walk_at "rd")
  refine ⟨p, _, rfl, kp, tO, by omega, by omega, fun H1 s1 => ?_⟩
  have et1 := s1 _ _ et
  repeat' (walk_at "rd")
  refine ⟨r, _, rfl, kr.same s1, tY, by omega, by omega, fun H2 s2 => ?_⟩
  have a2 := s1.trans s2
  repeat' (walk_at "rd")
  rename_i L3 n3 G3 s3 e3
  have a3 := a2.trans s3
  generalize hks : xs ++ .a l u v :: (ys ++ .a l v u :: zs) = ks at *
  refine forL vs (fun i σ H' => ∃ (Le : Addr) (v4 : Option V), σ = [some (.ref t), some (.ref a), some (.str l), some (.ref Le), v4, none, none, none] ∧ Same H H' ∧ H' Le = some (.lst (((ks.take i).foldl (lastE l) []).map V.str))) ⟨L3, none, rfl, a3, e3⟩ ?_ ?_ ?_
  · rintro i σ H' _ ⟨_, _, rfl, s, _⟩
    exact .inl (.inl (s _ _ ea))
  · rintro i x σ H' hx ⟨Le, _, rfl, s, eL⟩
    obtain ⟨k, hk', kv0⟩ := kvs.at hx
    obtain ⟨ok, tk, rfl, htk⟩ := kv0.same s
    have e1 : ks.take (i + 1) = ks.take i ++ [k] := by rw [List.take_add_one, hk']; rfl
    rw [e1, List.foldl_append, List.foldl_cons, List.foldl_nil]
    cases k with
    | h x =>
      have htk : H' tk = some (.tup [.str "house", .str x]) := htk
      repeat' (walk_at "rd")
      exact ⟨Le, _, rfl, s, eL⟩
    | a m x y =>
      have htk : H' tk = some (.tup [.str "arc", .str m, .str x, .str y]) := htk
      repeat' (walk_at "rd")
      · rename_i c _ _ _ s5 e5
        refine ⟨_, _, rfl, s.trans s5, ?_⟩
        rw [show lastE l ((ks.take i).foldl (lastE l) []) (.a m x y) = [x, y] from if_pos (V.str.inj c)]
        exact e5
      · rename_i c
        refine ⟨Le, _, rfl, s, ?_⟩
        rw [show lastE l ((ks.take i).foldl (lastE l) []) (.a m x y) = (ks.take i).foldl (lastE l) [] from if_neg fun z => c (congrArg V.str z)]
        exact eL
  rintro σ H4 ⟨Le, v4, rfl, a4, eL⟩
  rw [List.take_of_length_le (by omega), em] at eL
  have et4 := a4 _ _ et
  repeat' (walk_at "rd")
  refine Rd.itup ?_
  repeat' (walk_at "rd")
  refine Rd.extup (.inl (.inl et4)) ?_
  have duO : Ky.h v ∉ xs ++ zs := fun m => over _ _ m mv rfl
  have duY : Ky.h u ∉ ys := fun m => over _ _ mu m rfl
  have nmv := ht.nm (.h v) (by rw [← hks]; simp [mv]) v List.mem_cons_self
  have nmu := ht.nm (.h u) (by
    rw [← hks]
    rcases List.mem_append.mp mu with m | m <;> simp [m]) u List.mem_cons_self
  have kp4 := kp.same a4
  have kr4 := kr.same a4
  refine lcWO (L2.walk_tup (xs := [.ref p, .ref r])) (fun L i y G => ∃ b, y = .ref b ∧ b ≠ L ∧ G b = some (.lst [.bl (decide (Ky.h v ∈ if i = 0 then xs ++ zs else ys)), .bl (decide (Ky.h u ∈ if i = 0 then xs ++ zs else ys))])) ?_ (Nat.le_of_ble_eq_true rfl) (fun h s => .inl (.inl (s _ _ et4))) ?_ ?_
  · rintro L i y G G' ⟨b, rfl, n, e⟩ k
    exact ⟨b, rfl, n, k _ _ n e⟩
  · rintro L i x h h' nL hi s ⟨oL, eoL⟩ ⟨rfl, hx⟩ Nx yes
    obtain ⟨row, R0, rfl, kR, eR⟩ : ∃ row R0, x = .ref row ∧ KL h' row R0 ∧ R0 = if i = 0 then xs ++ zs else ys := by
      match i, hx with
      | 0, hx =>
        cases hx
        exact ⟨p, _, rfl, kp4.same s, rfl⟩
      | 1, hx =>
        cases hx
        exact ⟨r, _, rfl, kr4.same s, rfl⟩
    rw [← eR] at yes
    have eL' := s _ _ eL
    refine turn1 ?_
    repeat' (walk_at "rd")
    refine ⟨rfl, ?_⟩
    repeat' (walk_at "rd")
    refine lcF ([v, u].map V.str) (fun j => ([v, u][j]?).map fun z => V.bl (decide (Ky.h z ∈ R0))) (.inl (.inl eL')) (Nat.le_of_ble_eq_true rfl) (fun j x h2 hx s2 => ?_) fun b G nb sb eb => ?_
    · intro L2 Nx2 yes2 no2
      obtain ⟨z, hz, rfl⟩ : ∃ z, [v, u][j]? = some z ∧ x = .str z := by
        rw [List.getElem?_map] at hx
        obtain ⟨z, a, b⟩ := Option.map_eq_some_iff.mp hx
        exact ⟨z, a, b.symm⟩
      have nz' : NmS z := by
        have m := List.mem_of_getElem? hz
        simp only [List.mem_cons, List.not_mem_nil, or_false] at m
        rcases m with rfl | rfl
        · exact nmv
        · exact nmu
      refine turn1 ?_
      repeat' (walk_at "rd")
      refine ⟨rfl, ?_⟩
      repeat' (walk_at "rd")
      rename_i t5 n5 G5 s5 e5
      refine inK (kR.same (s2.trans s5)) (kvH nz' e5) ?_
      exact yes2 _ _ (by rw [hz]; rfl) s5
    · refine yes G _ ⟨b, rfl, fun z => ?_, ?_⟩ sb
      · rw [z, eoL] at nb
        cases nb
      · exact eb
  intro L G us nL s5 eus lus hus
  obtain ⟨u0, u1, rfl⟩ : ∃ u0 u1, us = [u0, u1] := by
    match us, lus with
    | [u0, u1], _ => exact ⟨u0, u1, rfl⟩
  obtain ⟨b0, rfl, _, eb0⟩ := hus 0 _ rfl
  obtain ⟨b1, rfl, _, eb1⟩ := hus 1 _ rfl
  rw [if_pos rfl, decide_eq_false duO, decide_eq_true mu] at eb0
  rw [if_neg (by decide), decide_eq_true mv, decide_eq_false duY] at eb1
  have a5 := a4.trans s5
  repeat' (walk_at "rd")
  rename_i l6 n6 G6 s6 e6 l7 n7 G7 s7 e7 l8 n8 G8 s8 e8
  have s68 := (s6.trans s7).trans s8
  refine neBB (s68 _ _ eus) (s68 _ _ eb0) (s68 _ _ eb1) e8 (s8 _ _ (s7 _ _ e6)) (s8 _ _ e7) (k := false) (by decide +kernel) ?_
  repeat' (walk_at "rd")
  rename_i l9 n9 G9 s9 e9 l10 n10 G10 s10 e10 l11 n11 G11 s11 e11
  have s911 := (s9.trans s10).trans s11
  refine neBB (s911 _ _ (s68 _ _ eus)) (s911 _ _ (s68 _ _ eb0)) (s911 _ _ (s68 _ _ eb1)) e11 (s11 _ _ (s10 _ _ e9)) (s11 _ _ e10) (k := true) (by decide +kernel) ?_
  have a11 := (a5.trans s68).trans s911
  clear eus eb0 eb1 hus e6 e7 e8 e9 e10 e11
  have et11 := a11 _ _ et
  repeat' (walk_at "rd")
  have kp11 := kp.same a11
  have kr11 := kr.same a11
  have hpm : (ks.filterMap hS).Perm ((xs ++ zs).filterMap hS ++ ys.filterMap hS) := by
    rw [← hks]
    simp only [List.filterMap_append, List.filterMap_cons]
    show (xs.filterMap hS ++ (ys.filterMap hS ++ zs.filterMap hS)).Perm _
    rw [List.append_assoc]
    exact List.perm_append_comm.append_left _
  have hlen : (ks.filterMap hS).length = ((xs ++ zs).filterMap hS).length + (ys.filterMap hS).length := by rw [hpm.length_eq, List.length_append]
  have h64 : (ks.filterMap hS).length < 64 := h64
  have okh : ∀ z ∈ ks.filterMap hS, PyData.strOk z = true := fun z m => nm_ok (ht.nm _ (hs_mem.mp (show z ∈ hsOf ks from m)) z List.mem_cons_self)
  refine ⟨p, _, rfl, kp11, by omega, by omega, fun Lh0 y0 H12 pm0 so0 n12 s12 e12 => ?_⟩
  have a12 := a11.trans s12
  have et12 := s12 _ _ et11
  repeat' (walk_at "rd")
  refine ⟨r, _, rfl, kr11.same s12, by omega, by omega, fun Lh1 y1 H13 pm1 so1 n13 s13 e13 => ?_⟩
  have l01 : y0.length + y1.length < 64 := by rw [pm0.length_eq, pm1.length_eq]; omega
  repeat' (walk_at "rd")
  refine catS (s13 _ _ e12) e13 (by omega) fun Lh2 H14 n14 s14 e14 => ?_
  repeat' (walk_at "rd")
  refine ⟨Lh2, y0 ++ y1, rfl, .inl (.inl e14), by rw [List.length_append]; exact l01, fun wh p15 pm15 so15 n15 => ?_⟩
  have s15 := same_upd (o := .lst (wh.map V.str)) n15
  have e15 : upd H14 p15 (.lst (wh.map V.str)) p15 = some _ := upd_same
  generalize upd H14 p15 (.lst (wh.map V.str)) = G15 at *
  have a15 := ((a12.trans s13).trans s14).trans s15
  repeat' (walk_at "rd")
  refine ⟨a, ks, rfl, hk.same a15, hl, h64, fun Lh3 yk H16 pmk sok n16 s16 e16 => ?_⟩
  have a16 := a15.trans s16
  obtain rfl : wh = yk := sorted_one (((pm15.trans (pm0.append pm1)).trans hpm.symm).trans pmk.symm) so15 sok
  refine neSs (s16 _ _ e15) e16 (fun z m => okh z (pmk.mem_iff.mp m)) ?_
  have et16 := a16 _ _ et
  repeat' (walk_at "rd")
  -- lines
  refine ⟨p, _, rfl, kp.same a16, by omega, T.l64 tO (by omega), fun Ll0 z0 H17 nd0 mm0 ss0 n17 s17 e17 => ?_⟩
  have a17 := a16.trans s17
  have et17 := s17 _ _ et16
  repeat' (walk_at "rd")
  refine ⟨r, _, rfl, kr.same a17, by omega, T.l64 tY (by omega), fun Ll1 z1 H18 nd1 mm1 ss1 n18 s18 e18 => ?_⟩
  have lz0 := T.l64 tO (by omega) z0 nd0 fun j m => (mm0 j).mp m
  have lz1 := T.l64 tY (by omega) z1 nd1 fun j m => (mm1 j).mp m
  repeat' (walk_at "rd")
  refine catS (s18 _ _ e17) e18 (by omega) fun Ll2 H19 n19 s19 e19 => ?_
  repeat' (walk_at "rd")
  rename_i l20 n20 G20 s20 e20
  refine catS (ys := [l]) (s20 _ _ e19) e20 (by rw [List.length_append]; show z0.length + z1.length + 1 ≤ 100000; omega) fun Ll3 H21 n21 s21 e21 => ?_
  have inks : ∀ {k : Ky}, k ∈ xs ++ zs ∨ k ∈ ys → k ∈ ks := fun m => by
    rw [← hks]
    simp only [List.mem_append, List.mem_cons] at m ⊢
    rcases m with (m | m) | m <;> simp [m]
  have kl1 : Ky.a l u v ∈ ks := by rw [← hks]; simp
  have ndz : (z0 ++ z1 ++ [l]).Nodup := by
    refine List.nodup_append.mpr ⟨List.nodup_append.mpr ⟨nd0, nd1, fun x mx y my e => ?_⟩, List.nodup_cons.mpr ⟨List.not_mem_nil, .nil⟩, fun x mx y my e => ?_⟩
    · subst e
      obtain ⟨b1, c1, k1⟩ := (mm0 x).mp mx
      obtain ⟨b2, c2, k2⟩ := (mm1 x).mp my
      exact lover x _ _ _ _ k1 k2
    · rw [List.mem_singleton.mp my] at e
      subst e
      rcases List.mem_append.mp mx with mx | mx
      · obtain ⟨b1, c1, k1⟩ := (mm0 _).mp mx
        exact noO _ _ k1
      · obtain ⟨b1, c1, k1⟩ := (mm1 _).mp mx
        exact noY _ _ k1
  have memz : ∀ j, j ∈ z0 ++ z1 ++ [l] ↔ ∃ x y, Ky.a j x y ∈ ks := fun j => by
    simp only [List.mem_append, List.mem_singleton]
    constructor
    · rintro ((m | m) | rfl)
      · obtain ⟨b1, c1, k1⟩ := (mm0 _).mp m
        exact ⟨b1, c1, inks (.inl k1)⟩
      · obtain ⟨b1, c1, k1⟩ := (mm1 _).mp m
        exact ⟨b1, c1, inks (.inr k1)⟩
      · exact ⟨u, v, kl1⟩
    · rintro ⟨b1, c1, k1⟩
      rw [← hks] at k1
      simp only [List.mem_append, List.mem_cons] at k1
      rcases k1 with k | k | k | k | k
      · exact .inl (.inl ((mm0 j).mpr ⟨_, _, List.mem_append.mpr (.inl k)⟩))
      · cases k
        exact .inr rfl
      · exact .inl (.inr ((mm1 j).mpr ⟨_, _, k⟩))
      · cases k
        exact .inr rfl
      · exact .inl (.inl ((mm0 j).mpr ⟨_, _, List.mem_append.mpr (.inr k)⟩))
  have lz : (z0 ++ z1 ++ [l]).length < 64 := T.l64 ht h64 _ ndz fun j m => (memz j).mp m
  repeat' (walk_at "rd")
  refine ⟨Ll3, z0 ++ z1 ++ [l], rfl, .inl (.inl e21), lz, fun wl p22 pm22 so22 n22 => ?_⟩
  have s22 := same_upd (o := .lst (wl.map V.str)) n22
  have e22 : upd H21 p22 (.lst (wl.map V.str)) p22 = some _ := upd_same
  generalize upd H21 p22 (.lst (wl.map V.str)) = G22 at *
  have a22 := ((((a17.trans s18).trans s19).trans s20).trans s21).trans s22
  repeat' (walk_at "rd")
  refine ⟨a, ks, rfl, hk.same a22, hl, T.l64 ht h64, fun Ll4 zk H23 ndk mmk ssk n23 s23 e23 => ?_⟩
  have a23 := a22.trans s23
  obtain rfl : wl = zk := sorted_one (pm22.trans ((List.perm_ext_iff_of_nodup ndz ndk).mpr fun j => (memz j).trans (mmk j).symm)) so22 ssk
  refine neSs (s23 _ _ e22) e23 (fun z m => by
    obtain ⟨b1, c1, k1⟩ := (mmk z).mp m
    exact nm_ok (ht.nm _ k1 z (.head _))) ?_
  have et23 := a23 _ _ et
  repeat' (walk_at "rd")
  refine Rd.itup ?_
  repeat' (walk_at "rd")
  refine Rd.extup (.inl (.inl et23)) ?_
  refine forT [.ref p, .ref r] (fun i σ H' => ∃ v5 : Option V, σ = [some (.ref t), some (.ref a), some (.str l), some (.ref Le), v4, v5, some (.ref L), none] ∧ Same H H') ⟨_, rfl, a23⟩ ?_ ?_ ?_
  · rintro i σ H' _ ⟨_, rfl, s⟩
    exact .inl (.inl (s _ _ et))
  · rintro i x σ H' hx ⟨_, rfl, s⟩
    obtain ⟨row, R0, rfl, kR, tR, lR, l64R⟩ : ∃ row R0, x = .ref row ∧ KL H' row R0 ∧ T R0 ∧ R0.length ≤ 1000 ∧ (hsOf R0).length < 64 := by
      have m := List.mem_of_getElem? hx
      simp only [List.mem_cons, List.not_mem_nil, or_false] at m
      rcases m with rfl | rfl
      · exact ⟨p, _, rfl, kp.same s, tO, by omega, by omega⟩
      · exact ⟨r, _, rfl, kr.same s, tY, by omega, by omega⟩
    obtain ⟨wv, ew, kw, lw⟩ := kl_len kR
    have h64R : (R0.filterMap hS).length < 64 := l64R
    repeat' (walk_at "rd")
    rename_i M1 m1 G1 s1' e1'
    refine ⟨M1, R0, rfl, ⟨_, e1', kw.same s1'⟩, tR, lR, fun H2' s2' => ?_⟩
    have b2 := s1'.trans s2'
    have ew2 := b2 _ _ ew
    repeat' (walk_at "rd")
    rename_i M3 m3 G3' s3' e3'
    have b3 := b2.trans s3'
    refine ⟨M3, R0, rfl, ⟨_, e3', kw.same b3⟩, lR, h64R, fun M4 q4 H4' pm4 so4 m4 s4' e4' => ?_⟩
    have b4 := b3.trans s4'
    repeat' (walk_at "rd")
    rename_i M5 m5 G5' s5' e5'
    have b5 := b4.trans s5'
    refine ⟨row, R0, rfl, kR.same b5, lR, h64R, fun M6 q6 H6' pm6 so6 m6 s6' e6' => ?_⟩
    have b6 := b5.trans s6'
    obtain rfl : q4 = q6 := sorted_one (pm4.trans pm6.symm) so4 so6
    repeat' (walk_at "rd")
    rename_i M7 m7 G7' s7' e7'
    have b7 := b6.trans s7'
    have fq : Fd 7 (.list [.bool true, .list (q4.map PyData.str)]) := (Fd.lst (n := 1) (Nat.le_of_ble_eq_true rfl) fun d hd => by
      rcases List.mem_cons.mp hd with rfl | hd
      · exact .bl _
      · rw [List.mem_singleton.mp hd]
        exact fd_strs (by rw [pm4.length_eq]; omega)).mono (by decide)
    refine ⟨_, _, .list [.bool true, .list (q4.map PyData.str)], 7, rfl, rfl, .lst (.inl (.inl (s7' _ _ (s6' _ _ e5')))) (.cons (.bl _) (.cons (sl_dv (s7' _ _ (s6' _ _ (s5' _ _ e4')))) .nil)), .lst (.inl (.inl e7')) (.cons (.bl _) (.cons (sl_dv (s7' _ _ e6')) .nil)), fq, fun H8' s8' => ?_⟩
    have b8 := b7.trans s8'
    have ew8 := b8 _ _ ew
    repeat' (walk_at "rd")
    rename_i M9 m9 G9' s9' e9'
    have b9 := b8.trans s9'
    have lsz : (R0.filterMap lS).length < 64 := by
      have c := tR.cnt
      have : (R0.filterMap lS).Nodup := fm_nodup tR.nd fun x mx y my c ex ey => by
        cases x with
        | h x => cases ex
        | a m1 x1 y1 =>
          cases y with
          | h y => cases ey
          | a m2 x2 y2 =>
            rw [lS_a] at ex ey
            by_cases c1 : x1.cps.toList < y1.cps.toList
            · rw [if_pos c1] at ex
              by_cases c2 : x2.cps.toList < y2.cps.toList
              · rw [if_pos c2] at ey
                cases ex
                cases ey
                rcases tR.one _ _ _ _ _ mx my with ⟨rfl, rfl⟩ | ⟨rfl, rfl⟩
                · rfl
                · exact absurd (List.lt_trans c1 c2) (List.lt_irrefl _)
              · rw [if_neg c2] at ey
                cases ey
            · rw [if_neg c1] at ex
              cases ex
      refine T.l64 tR l64R _ this fun j m => ?_
      obtain ⟨k, mk, e⟩ := List.mem_filterMap.mp m
      cases k with
      | h x => cases e
      | a m1 x1 y1 =>
        rw [lS_a] at e
        by_cases c1 : x1.cps.toList < y1.cps.toList
        · rw [if_pos c1] at e
          cases e
          exact ⟨_, _, mk⟩
        · rw [if_neg c1] at e
          cases e
    refine ⟨M9, R0, rfl, ⟨_, e9', kw.same b9⟩, lR, lsz, fun M10 q10 H10' pm10 so10 m10 s10' e10' => ?_⟩
    have b10 := b9.trans s10'
    repeat' (walk_at "rd")
    refine ⟨row, R0, rfl, kR.same b10, lR, T.l64 tR l64R, fun M11 q11 H11' nd11 mm11 so11 m11 s11' e11' => ?_⟩
    have b11 := b10.trans s11'
    have tt11 : TT R0 (fun x => Ky.h x ∈ R0) (· ∈ q11) := ⟨tR, fun x => .rfl, fun j => (mm11 j).symm⟩
    obtain rfl : q10 = q11 := sorted_one (pm10.trans (lS_perm tt11 nd11)) so10 so11
    refine ⟨_, _, .list (q10.map PyData.str), 7, rfl, rfl, sl_dv (s11' _ _ e10'), sl_dv e11', (fd_strs (by have := T.l64 tR l64R q10 nd11 fun j m => (mm11 j).mp m; omega)).mono (by decide), fun H12' s12' => ?_⟩
    repeat' (walk_at "rd")
    exact ⟨_, rfl, s.trans (b11.trans s12')⟩
  · rintro σ H' ⟨_, rfl, s⟩
    repeat' (walk_at "rd")
    exact q H' s
end
end Kj
namespace Kj
open PySem PySem.Spec PyProof.Rows L2 Rd
/-! ### the stepper -/
local macro_rules | `(tactic| walk_at "hp") => `(tactic| first
  | assumption
  | exact upd_same
  | (refine Eq.trans (upd_ne (by first | assumption | (apply Ne.symm; assumption))) ?_; walk_at "hp"))
local macro_rules | `(tactic| walk_at "sq") => `(tactic| first
  | assumption
  | (refine Or.inl (Or.inl ?_); walk_at "hp"))
local macro_rules | `(tactic| walk_at "st") => `(tactic| first
  | assumption
  | (refine Or.inl (Or.inl ?_); walk_at "hp"))
local macro_rules | `(tactic| walk_at "ar") => `(tactic| first
  | assumption
  | omega
  | decide)
local macro_rules | `(tactic| walk_at "ci") => `(tactic| first
  | (refine (show CMul _ _ from Or.inr ⟨?_, ?_⟩) <;> omega)
  | (refine (show CMul _ _ from Or.inl ⟨?_, ?_⟩) <;> omega)
  | (show CPow _ _; exact ⟨by decide, by decide, by decide⟩)
  | (refine wide_div (b := 63) ?_ ?_ (by decide) (by decide) <;> omega)
  | (show (0 : Int) < _; omega))
local macro_rules | `(tactic| walk_at "ty") => `(tactic| first
  | exact dp_ty (by assumption)
  | exact TyX.base (TyOf.int _)
  | exact TyX.base (TyOf.str _)
  | exact TyX.base (TyOf.bl _)
  | exact TyX.base TyOf.non
  | exact tyL' (by walk_at "sq")
  | exact tyT' (by walk_at "st"))
local macro_rules | `(tactic| walk_at "isi") => `(tactic| first
  | ((with_reducible apply Rd.isiF); (walk_at "ty"); (decide))
  | ((with_reducible apply Rd.isiT); (walk_at "ty"); (decide)))
local macro_rules | `(tactic| walk_at "rd") => `(tactic| first
  | with_reducible apply Rd.seq
  | ((with_reducible apply Rd.var); rfl)
  | with_reducible apply Rd.con
  | with_reducible apply Rd.op
  | with_reducible apply Rd.asg
  | ((with_reducible apply Rd.gname); ((dsimp only [List.set, L2.wipe, Int.reduceToNat]) <;> rfl))
  | with_reducible apply Rd.nxt
  | with_reducible apply Rd.ifs
  | with_reducible apply Rd.test
  | with_reducible apply Rd.testB
  | with_reducible apply Rd.exbl
  | with_reducible apply Rd.ret
  | with_reducible apply Rd.drop
  | with_reducible apply Rd.retN
  | with_reducible apply Rd.nil
  | with_reducible apply Rd.cons
  | with_reducible apply Rd.call
  | with_reducible apply Rd.cb
  | with_reducible apply Rd.and
  | with_reducible apply Rd.or
  | with_reducible apply Rd.not
  | with_reducible apply Rd.andV
  | with_reducible apply Rd.orV
  | with_reducible apply Rd.notV
  | with_reducible apply Rd.ife
  | with_reducible apply Rd.tup
  | with_reducible apply Rd.lst
  | with_reducible apply Rd.un
  | with_reducible apply Rd.chain
  | with_reducible apply Rd.brk
  | with_reducible apply Rd.cnt
  | with_reducible apply Rd.I0
  | with_reducible apply Rd.U1
  | ((with_reducible apply Rd.eq); rfl)
  | ((with_reducible apply Rd.ne); rfl)
  | ((with_reducible apply Rd.I1); (walk_at "ci"))
  | with_reducible apply Rd.lc0
  | with_reducible apply Rd.ln0
  | with_reducible apply Rd.exN
  | ((with_reducible apply Rd.iteSf); (decide +kernel))
  | ((with_reducible apply Rd.iteSt); (decide +kernel))
  | ((with_reducible apply Rd.niQ); (exact Or.inl (by walk_at "sq")); (exact ⟨rfl, rfl⟩); (rfl))
  | ((with_reducible apply Rd.inQ); (exact Or.inl (by walk_at "sq")); (exact ⟨rfl, rfl⟩); (rfl))
  | with_reducible apply Rd.rn1
  | with_reducible apply Rd.in1
  | with_reducible apply Rd.sn1
  | with_reducible apply Rd.bn1
  | with_reducible apply Rd.nn1
  | with_reducible apply Rd.rn2
  | with_reducible apply Rd.in2
  | with_reducible apply Rd.sn2
  | with_reducible apply Rd.bn2
  | with_reducible apply Rd.nn2
  | with_reducible apply Rd.nt1
  | with_reducible apply Rd.nf1
  | (with_reducible refine Rd.iteI (fun _ => ?_) (fun _ => ?_))
  | (with_reducible refine Rd.iteNI (fun _ => ?_) (fun _ => ?_))
  | (with_reducible refine iteT ?_)
  | (with_reducible refine iteF ?_)
  | (with_reducible refine Rd.iteD (fun _ => ?_) (fun _ => ?_))
  | (with_reducible refine Rd.iteN (fun _ => ?_) (fun _ => ?_))
  | with_reducible apply Rd.intI
  | with_reducible apply Rd.intB
  | with_reducible apply Rd.maxQ
  | with_reducible apply Rd.minQ
  | with_reducible apply Rd.absQ
  | with_reducible apply Rd.isN
  | with_reducible apply Rd.noN
  | with_reducible apply Rd.ltZ
  | with_reducible apply Rd.bm
  | with_reducible apply Rd.bm0
  | with_reducible apply Rd.par
  | with_reducible apply Rd.expar
  | with_reducible apply Rd.exint
  | with_reducible apply Rd.ipi
  | with_reducible apply Rd.slice
  | with_reducible apply Rd.noPart
  | with_reducible apply Rd.part
  | with_reducible apply Rd.gcons
  | with_reducible apply Rd.gnil
  | with_reducible apply Rd.iseq
  | with_reducible apply Rd.irng1
  | walk_at "isi"
  | with_reducible apply Rd.forX
  | with_reducible apply Rd.lstRev
  | with_reducible apply Rd.lstRg
  | with_reducible apply Rd.rg1
  | with_reducible apply Rd.rg2
  | with_reducible apply Rd.exint2
  | ((with_reducible apply Rd.exrev); (walk_at "sq"))
  | with_reducible apply Rd.lcX
  | with_reducible apply Rd.yes
  | ((with_reducible apply Rd.exrng1); (constructor <;> omega))
  | ((with_reducible apply Rd.exrng2); (refine ⟨?_, ?_, ?_, ?_⟩ <;> omega))
  | with_reducible apply Rd.irng2
  | ((with_reducible apply Rd.aug); rfl)
  | ((with_reducible apply Rd.exlst); (walk_at "sq"))
  | ((with_reducible apply Rd.gtup); (walk_at "st"); (rfl))
  | ((with_reducible apply Rd.tyL); (walk_at "hp"))
  | ((with_reducible apply Rd.ixL); (walk_at "sq"); (rfl))
  | ((with_reducible apply Rd.ixI); (walk_at "sq"); (omega); (first | assumption | (simp only [List.length_map]; omega)); (intro _ _))
  | (with_reducible refine Rd.gsub ?_)
  | ((with_reducible apply Rd.setL); (walk_at "hp"); (rfl); ((dsimp only [List.set, L2.wipe, Int.reduceToNat]) <;> rfl))
  | ((with_reducible apply Rd.lenQ); (first | exact Or.inl (by walk_at "sq") | exact Or.inr (by walk_at "st")))
  | ((with_reducible apply Rd.listQ); (first | exact Or.inl (by walk_at "sq") | exact Or.inr (by walk_at "st")))
  | ((with_reducible apply Rd.tupQ); (walk_at "sq"))
  | ((with_reducible apply Rd.slL); (walk_at "sq"))
  | ((with_reducible apply Rd.ixT); (walk_at "st"); (rfl))
  | (with_reducible refine Rd.iteB (fun _ => ?_) (fun _ => ?_))
  | (with_reducible refine Rd.iteNB (fun _ => ?_) (fun _ => ?_))
  | (refine Rd.andI (Nat.le_of_ble_eq_true rfl) ?_)
  | dsimp only [List.set])
local macro_rules | `(tactic| walk_at "hp") => `(tactic| first
  | assumption
  | exact upd_same
  | (refine Eq.trans (upd_ne (by first | assumption | (apply Ne.symm; assumption))) ?_; walk_at "hp")
  | (refine hpS (by assumption) ?_; walk_at "hp"))
local macro_rules | `(tactic| walk_at "al") => `(tactic| (with_reducible intro l hl; generalize hG : upd _ l _ = G; have hs := newOne hl hG; clear hG; obtain ⟨hs, he⟩ := hs))
local macro_rules | `(tactic| walk_at "rd") => `(tactic| first
  | walk_at "al"
  | ((with_reducible apply Rd.cat); (walk_at "hp"); (walk_at "hp"); (exact Nat.le_of_ble_eq_true rfl)))
local macro_rules | `(tactic| walk_at "sm") => `(tactic| first
  | assumption
  | exact Same.refl _
  | (refine Same.trans ?_ (by assumption); walk_at "sm"))
local macro_rules | `(tactic| walk_at "fr") => `(tactic| first
  | assumption
  | (refine Same.free (by assumption) ?_; walk_at "fr"))
local macro_rules | `(tactic| walk_at "ty") => `(tactic| first
  | exact dv_ty (by assumption)
  | exact tyD' (by walk_at "hp"))
local macro_rules | `(tactic| walk_at "sz") => `(tactic| first
  | exact sz5 (by omega)
  | (simp only [add_len, one_len]; exact sz5 (by omega)))
local macro_rules | `(tactic| walk_at "rd") => `(tactic| first
  | with_reducible apply Rd.istr
  | with_reducible apply Rd.exstr
  | with_reducible apply Rd.leA
  | with_reducible apply Rd.leZz
  | with_reducible apply Rd.le0
  | with_reducible apply Rd.le9
  | with_reducible apply Rd.niZ
  | ((with_reducible apply Rd.lenZ); (walk_at "sz"))
  | ((with_reducible apply Rd.slZ); (walk_at "sz"))
  | ((with_reducible apply Rd.addZ); (walk_at "sz"))
  | with_reducible apply Rd.raiseX
  | with_reducible apply Rd.exone
  | with_reducible apply Rd.callS
  | with_reducible apply Rd.callP
  | with_reducible apply Rd.xsX
  | with_reducible apply Rd.dnewX
  | with_reducible apply Rd.tyZ)
/-! ### a tour parted in two -/
open Ty
section
variable {P : Program} {w : World} {K : PySem.W.Frag} {mg : Str → Option Value} {base : Heap} {D : Str → Addr}
theorem fd_two {d e : PyData} (h : Fd 2 d) (g : Fd 2 e) : ∀ x ∈ [d, e], Fd 2 x := fun x hx => by
  rcases List.mem_cons.mp hx with rfl | hx
  · exact h
  · rw [List.mem_singleton.mp hx]
    exact g
theorem fd_tup {d e : PyData} (h : Fd 2 d) (g : Fd 2 e) : Fd 7 (.tuple [d, e]) := (Fd.tup (n := 2) (Nat.le_of_ble_eq_true rfl) (fd_two h g)).mono (by decide)
theorem dv_tup {H : Hp} {t p r : Addr} {O I : List Ky} (e : H t = some (.tup [.ref p, .ref r])) (kp : KL H p O) (kr : KL H r I) : Dv K H (.ref t) (.tuple [.list (O.map kdat), .list (I.map kdat)]) := .tup (.inl (.inl e)) (.cons (kl_dv kp) (.cons (kl_dv kr) .nil))
/-- parted(keys, line) of a tour's line -/
theorem partedOk {H : Hp} {Q : VK} {E : XK} {a : Addr} {l : Str} {xs ys zs : List Ky} {x y u w' : Str} (nl : NmS l) (hk : KL H a (xs ++ .a l x y :: (ys ++ .a l u w' :: zs))) (hl : (xs ++ .a l x y :: (ys ++ .a l u w' :: zs)).length ≤ 1000)
    (nx : ∀ k ∈ xs, isL l k = false) (ny : ∀ k ∈ ys, isL l k = false) (nz : ∀ k ∈ zs, isL l k = false)
    (q : ∀ t p r H', H t = none → H p = none → H r = none → p ≠ r → Same H H' → H' t = some (.tup [.ref p, .ref r]) → KL H' p (xs ++ zs) → KL H' r ys → Q (.ref t) H') : spPartedD K D [.ref a, .str l] H Q E := by
  refine ⟨a, .str l, .str l, _, rfl, .str l, nm_sz nl, hk, hl, fun h => ?_, fun y e _ m => ?_, fun l' e _ _ => ?_⟩
  · rw [show nameD (.str l) = true from nm_b nl] at h
    cases h
  · cases e
    have := m (.a l x y) (by simp)
    rw [isL_a] at this
    cases this
  · cases e
    exact ⟨x, y, u, w', xs, ys, zs, rfl, nx, ny, nz, q⟩
theorem ptoldOk {H : Hp} {Q : VK} {E : XK} {a : Addr} {l : Str} {xs ys zs : List Ky} {x y u w' : Str} (nl : NmS l) (hk : KL H a (xs ++ .a l x y :: (ys ++ .a l u w' :: zs))) (hl : (xs ++ .a l x y :: (ys ++ .a l u w' :: zs)).length ≤ 1000)
    (nx : ∀ k ∈ xs, isL l k = false) (ny : ∀ k ∈ ys, isL l k = false) (nz : ∀ k ∈ zs, isL l k = false)
    (q : ∀ t p r H', H t = none → H p = none → H r = none → p ≠ r → Same H H' → H' t = some (.tup [.ref p, .ref r]) → KL H' p (xs ++ zs) → KL H' r ys → Q (.ref t) H') : spPTold K [.ref a, .str l] H Q E := by
  refine ⟨a, .str l, .str l, _, rfl, .str l, nm_sz nl, hk, hl, fun h => ?_, fun y e _ m => ?_, fun l' e _ _ => ?_⟩
  · rw [show nameD (.str l) = true from nm_b nl] at h
    cases h
  · cases e
    have := m (.a l x y) (by simp)
    rw [isL_a] at this
    cases this
  · cases e
    exact ⟨x, y, u, w', xs, ys, zs, rfl, nx, ny, nz, q⟩
/-- _law_parts_in_two(keys, line) -/
def spPIT (K : PySem.W.Frag) : Sp := fun vs H Q _ => ∃ (a : Addr) (l x y : Str) (ks : List Ky), vs = [.ref a, .str l] ∧ NmS l ∧ KL H a ks ∧ T ks ∧ ks.length ≤ 900 ∧ (hsOf ks).length < 64 ∧ Ky.a l x y ∈ ks ∧ ∀ H', Same H H' → Q (.bl true) H'
theorem ok__law_parts_in_two (F : Def K mg "_law_parts_in_two" s__law_parts_in_two P__law_parts_in_two) (m_list : mg "list" = none) (C_parted : Ho.CalN P w K mg base 4 "parted" P_parted (spPartedD K D)) (C__law_same : Cal P w K mg base 9 "_law_same" P__law_same (spSame K 8)) (C__law_both : Cal P w K mg base 2 "_law_both" P__law_both spBoth) (C__law_part_told : Cal P w K mg base 6 "_law_part_told" P__law_part_told (spPTold K)) (C__law_walked : Cal P w K mg base 11 "_law_walked" P__law_walked spWalked) : Ho.CalN P w K mg base 12 "_law_parts_in_two" P__law_parts_in_two (spPIT K) := by
  refine Ho.defN F sc__law_parts_in_two (fun vs H Q E h => ?_) (fun f cdv A outer s H vs Q E hr h => ?_)
  · obtain ⟨a, l, x, y, ks, rfl, _⟩ := h
    rfl
  obtain ⟨a, l, x, y, ks, rfl, nl, hk, ht, hl, h64, ml, q⟩ := h
  refine ⟨_, (pss_cons (ps_set (i := 2) sc__law_parts_in_two.nd rfl (Or.inl rfl) (pe_cal C__law_both hr (pa_cons (pv 0 (hd := nd_keys) (hcd := nc_keys)) (pa_cons (pv 1 (hd := nd_line) (hcd := nc_line)) pa_nil)) (hdb := nd__law_both)))
  (pss_cons (ps_set (i := 3) sc__law_parts_in_two.nd rfl (Or.inl rfl) (pe_callTy q_list (by rfl) m_list bb_list (pa_cons (pv 0 (hd := nd_keys) (hcd := nc_keys)) pa_nil) (hn := nn_list) (hdb := nd_list)))
  (pss_cons (ps_set (i := 4) sc__law_parts_in_two.nd rfl (Or.inl rfl) (pe_cal C__law_part_told hr (pa_cons (pv 3 (hd := nd_handed) (hcd := nc_handed)) (pa_cons (pv 1 (hd := nd_line) (hcd := nc_line)) pa_nil)) (hdb := nd__law_part_told)))
  (pss_cons (ps_if (PW.pt (pw_or (pt_not (pt_val (pe_cal C__law_same hr (pa_cons (pv 4 (hd := nd_told) (hcd := nc_told)) (pa_cons (pv 2 (hd := nd_due) (hcd := nc_due)) pa_nil)) (hdb := nd__law_same)))) (pw_or (pt_not (pt_val (pe_cal C__law_walked hr (pa_cons (pv 4 (hd := nd_told) (hcd := nc_told)) (pa_cons (pv 0 (hd := nd_keys) (hcd := nc_keys)) (pa_cons (pv 1 (hd := nd_line) (hcd := nc_line)) pa_nil))) (hdb := nd__law_walked)))) (pw_or1 (pt_not (pt_val (pe_cal C__law_same hr (pa_cons (pv 3 (hd := nd_handed) (hcd := nc_handed)) (pa_cons (pv 0 (hd := nd_keys) (hcd := nc_keys)) pa_nil)) (hdb := nd__law_same)))))))) (pss_one (ps_ret pe_bl)) pss_nil)
  (pss_cons (ps_expr (pe_bm0 PySem.F.plainAttrs_list PySem.F.slot_list_reverse PySem.F.type_list_reverse mt_reverse (pe_ix ix_tup (pv 4 (hd := nd_told) (hcd := nc_told)) pe_int (fun _ _ => rfl))))
  (pss_cons (ps_expr (pe_bm0 PySem.F.plainAttrs_list PySem.F.slot_list_clear PySem.F.type_list_clear mt_clear (pe_ix ix_tup (pv 4 (hd := nd_told) (hcd := nc_told)) pe_int (fun _ _ => rfl))))
  (pss_cons (ps_if (PW.pt (pw_or (pt_not (pt_val (pe_cal C__law_same hr (pa_cons (pv 3 (hd := nd_handed) (hcd := nc_handed)) (pa_cons (pv 0 (hd := nd_keys) (hcd := nc_keys)) pa_nil)) (hdb := nd__law_same)))) (pw_or1 (pt_not (pt_val (pe_cal C__law_same hr (pa_cons (Ho.pe_calN C_parted (L2N.takes_of rfl rfl rfl rfl) hr (pa_cons (pv 3 (hd := nd_handed) (hcd := nc_handed)) (pa_cons (pv 1 (hd := nd_line) (hcd := nc_line)) pa_nil))) (pa_cons (pv 2 (hd := nd_due) (hcd := nc_due)) pa_nil)) (hdb := nd__law_same))))))) (pss_one (ps_ret pe_bl)) pss_nil)
  (pss_cons (ps_expr (pe_bm PySem.F.plainAttrs_list PySem.F.slot_list_append PySem.F.type_list_append mt_append (pv 3 (hd := nd_handed) (hcd := nc_handed)) (pa_cons (pe_bm PySem.F.plainAttrs_list PySem.F.slot_list_pop PySem.F.type_list_pop mt_popAt (pv 3 (hd := nd_handed) (hcd := nc_handed)) (pa_cons pe_int pa_nil)) pa_nil)))
  (pss_cons (ps_set (i := 2) sc__law_parts_in_two.nd rfl (Or.inl rfl) (pe_cal C__law_both hr (pa_cons (pv 3 (hd := nd_handed) (hcd := nc_handed)) (pa_cons (pv 1 (hd := nd_line) (hcd := nc_line)) pa_nil)) (hdb := nd__law_both)))
  (pss_one (ps_ret (pe_and (pe_cal C__law_same hr (pa_cons (Ho.pe_calN C_parted (L2N.takes_of rfl rfl rfl rfl) hr (pa_cons (pv 3 (hd := nd_handed) (hcd := nc_handed)) (pa_cons (pv 1 (hd := nd_line) (hcd := nc_line)) pa_nil))) (pa_cons (pv 2 (hd := nd_due) (hcd := nc_due)) pa_nil)) (hdb := nd__law_same)) (pe_one (pe_cal C__law_same hr (pa_cons (pv 3 (hd := nd_handed) (hcd := nc_handed)) (pa_cons (pe_op op_cat (pe_slice sl_list (pv 0 (hd := nd_keys) (hcd := nc_keys)) (po_some pe_int) po_none) (pe_slice sl_list (pv 0 (hd := nd_keys) (hcd := nc_keys)) po_none (po_some pe_int))) pa_nil)) (hdb := nd__law_same))))))))))))))), ?_⟩
  refine Rd.at0 (σ := [some (.ref a), some (.str l), none, none, none]) rfl ?_
  obtain ⟨u, v, xs, ys, zs, eks, nx, ny, nz⟩ := Kj.T.split ht ml
  obtain ⟨vs, ea, kvs, lv⟩ := kl_len hk
  have fk : Fd 7 (.list (ks.map kdat)) := (fd_keys (by omega)).mono (by decide)
  have lO : (xs ++ zs).length ≤ 900 := by
    rw [eks] at hl
    simp only [List.length_append, List.length_cons] at hl ⊢
    omega
  have lY : ys.length ≤ 900 := by
    rw [eks] at hl
    simp only [List.length_append, List.length_cons] at hl
    omega
  have ft : Fd 7 (.tuple [.list ((xs ++ zs).map kdat), .list (ys.map kdat)]) := fd_tup (fd_keys (by omega)) (fd_keys (by omega))
  repeat' (walk_at "rd")
  refine ⟨a, l, ks, xs ++ zs, ys, 2, rfl, hk, by omega, by rw [eks]; exact both_is nx ny nz, fun t0 p0 r0 H1 nt0 np0 nr0 _ s1 et0 kp0 kr0 => ?_⟩
  have ea1 := s1 _ _ ea
  repeat' (walk_at "rd")
  rename_i L2 n2 G2 s2 e2
  have a2 := s1.trans s2
  have kh : KL G2 L2 ks := ⟨vs, e2, kvs.same a2⟩
  refine ptoldOk nl (eks ▸ kh) (by rw [← eks]; omega) nx ny nz fun t1 p1 r1 H3 nt1 np1 nr1 npr s3 et1 kp1 kr1 => ?_
  have a3 := a2.trans s3
  have b03 := s2.trans s3
  repeat' (walk_at "rd")
  refine ⟨_, _, .tuple [.list ((xs ++ zs).map kdat), .list (ys.map kdat)], 7, rfl, rfl, dv_tup et1 kp1 kr1, dv_tup (b03 _ _ et0) (kp0.same b03) (kr0.same b03), ft, fun H4 s4 => ?_⟩
  have a4 := a3.trans s4
  repeat' (walk_at "rd")
  refine ⟨t1, p1, r1, a, l, u, v, xs, ys, zs, rfl, s4 _ _ et1, kp1.same s4, kr1.same s4, eks ▸ hk.same a4, eks ▸ ht, by rw [← eks]; omega, by rw [← eks]; exact h64, ny, nz, fun H5 s5 => ?_⟩
  have a5 := a4.trans s5
  have b25 := (s3.trans s4).trans s5
  repeat' (walk_at "rd")
  refine ⟨_, _, .list (ks.map kdat), 7, rfl, rfl, kl_dv (kh.same b25), kl_dv (hk.same a5), fk, fun H6 s6 => ?_⟩
  have b26 := b25.trans s6
  have et6 := ((s4.trans s5).trans s6) _ _ et1
  obtain ⟨pv, epv, kpv, lpv⟩ := kl_len (kp1.same ((s4.trans s5).trans s6))
  obtain ⟨rv, erv, krv, lrv⟩ := kl_len (kr1.same ((s4.trans s5).trans s6))
  repeat' (walk_at "rd")
  refine ⟨p1, pv, rfl, rfl, epv, ?_⟩
  have x7 : Kx p1 H6 (upd H6 p1 (.lst pv.reverse)) := fun b o n e => (upd_ne n).trans e
  generalize upd H6 p1 (.lst pv.reverse) = G7 at *
  have et7 := x7 _ _ (fun z => by rw [z, epv] at et6; cases et6) et6
  have er7 := x7 _ _ (Ne.symm npr) erv
  repeat' (walk_at "rd")
  refine ⟨r1, rv, rfl, rfl, er7, ?_⟩
  have x8 : Kx r1 G7 (upd G7 r1 (.lst [])) := fun b o n e => (upd_ne n).trans e
  generalize upd G7 r1 (.lst []) = G8 at *
  have b28 : Same G2 G8 := fun b o e => x8 b o (fun z => by rw [z, nr1] at e; cases e) (x7 b o (fun z => by rw [z, np1] at e; cases e) (b26 _ _ e))
  have a8 := a2.trans b28
  repeat' (walk_at "rd")
  refine ⟨_, _, .list (ks.map kdat), 7, rfl, rfl, kl_dv (kh.same b28), kl_dv (hk.same a8), fk, fun H9 s9 => ?_⟩
  have b29 := b28.trans s9
  repeat' (walk_at "rd")
  refine partedOk nl (eks ▸ kh.same b29) (by rw [← eks]; omega) nx ny nz fun t10 p10 r10 H10 _ _ _ _ s10 et10 kp10 kr10 => ?_
  have b210 := b29.trans s10
  have b010 := s2.trans b210
  repeat' (walk_at "rd")
  refine ⟨_, _, .tuple [.list ((xs ++ zs).map kdat), .list (ys.map kdat)], 7, rfl, rfl, dv_tup et10 kp10 kr10, dv_tup (b010 _ _ et0) (kp0.same b010) (kr0.same b010), ft, fun H11 s11 => ?_⟩
  have b211 := b210.trans s11
  have e2' := b211 _ _ e2
  repeat' (walk_at "rd")
  obtain ⟨k0, rest, rfl⟩ : ∃ k0 rest, ks = k0 :: rest := by
    cases ks with
    | nil => cases ml
    | cons k r => exact ⟨k, r, rfl⟩
  obtain ⟨v0, vr, rfl⟩ : ∃ v0 vr, vs = v0 :: vr := by
    cases vs with
    | nil => simp at lv
    | cons k r => exact ⟨k, r, rfl⟩
  refine ⟨L2, v0 :: vr, 0, 0, v0, rfl, rfl, e2', by decide, by decide, by simp [seqIndex?], rfl, ?_⟩
  have x12 : Kx L2 H11 (upd H11 L2 (.lst vr)) := fun b o n e => (upd_ne n).trans e
  have e12 : upd H11 L2 (.lst vr) L2 = some _ := upd_same
  rw [show (v0 :: vr).eraseIdx 0 = vr from rfl]
  generalize upd H11 L2 (.lst vr) = G12 at *
  repeat' (walk_at "rd")
  have lvr : vr.length = rest.length := Nat.succ.inj lv
  have lrest : rest.length ≤ 900 := by
    rw [List.length_cons] at hl
    omega
  refine ⟨L2, vr, v0, rfl, rfl, e12, sz5' (by omega), ?_⟩
  have x13 : Kx L2 G12 (upd G12 L2 (.lst (vr ++ [v0]))) := fun b o n e => (upd_ne n).trans e
  have e13 : upd G12 L2 (.lst (vr ++ [v0])) L2 = some _ := upd_same
  generalize upd G12 L2 (.lst (vr ++ [v0])) = G13 at *
  have b113 : Same H1 G13 := fun b o e => (x12.trans x13) b o (fun z => by rw [z, n2] at e; cases e) (b211 _ _ (s2 _ _ e))
  have a13 := s1.trans b113
  have kk13 := kvs.same a13
  have kv13 : KVs G13 (vr ++ [v0]) (rest ++ [k0]) := KVs.app kk13.2 ⟨kk13.1, trivial⟩
  have kh13 : KL G13 L2 (rest ++ [k0]) := ⟨_, e13, kv13⟩
  have ht' : T (rest ++ [k0]) := Ty.T.rot (xs := [k0]) ht
  have ml' : Ky.a l x y ∈ rest ++ [k0] := by
    rcases List.mem_cons.mp ml with e | m
    · rw [e]
      simp
    · simp [m]
  obtain ⟨u2, v2, xs2, ys2, zs2, eks2, nx2, ny2, nz2⟩ := Kj.T.split ht' ml'
  have l2 : (rest ++ [k0]).length ≤ 901 := by
    rw [List.length_append]
    exact Nat.succ_le_succ lrest
  have lO2 : (xs2 ++ zs2).length ≤ 901 := by
    rw [eks2] at l2
    simp only [List.length_append, List.length_cons] at l2 ⊢
    omega
  have lY2 : ys2.length ≤ 901 := by
    rw [eks2] at l2
    simp only [List.length_append, List.length_cons] at l2
    omega
  repeat' (walk_at "rd")
  refine ⟨L2, l, rest ++ [k0], xs2 ++ zs2, ys2, 2, rfl, kh13, by omega, by rw [eks2]; exact both_is nx2 ny2 nz2, fun t14 p14 r14 H14 _ _ _ _ s14 et14 kp14 kr14 => ?_⟩
  repeat' (walk_at "rd")
  refine partedOk nl (eks2 ▸ kh13.same s14) (by rw [← eks2]; omega) nx2 ny2 nz2 fun t15 p15 r15 H15 _ _ _ _ s15 et15 kp15 kr15 => ?_
  repeat' (walk_at "rd")
  refine ⟨_, _, .tuple [.list ((xs2 ++ zs2).map kdat), .list (ys2.map kdat)], 7, rfl, rfl, dv_tup et15 kp15 kr15, dv_tup (s15 _ _ et14) (kp14.same s15) (kr14.same s15), fd_tup (fd_keys (by omega)) (fd_keys (by omega)), fun H16 s16 => ?_⟩
  have a16 := ((a13.trans s14).trans s15).trans s16
  have ea16 := a16 _ _ ea
  repeat' (walk_at "rd")
  rename_i l17 n17 G17 s17 e17 l18 n18 G18 s18 e18
  have kk18 := kvs.same ((a16.trans s17).trans s18)
  have kk18 : KVs G18 (v0 :: vr) ([k0] ++ rest) := kk18
  have k3 := kvs_from kk18
  have k4 := kvs_to kk18
  have c1 : (cutV (v0 :: vr) (some 1) none).length = _ := k3.len
  have c2 : (cutV (v0 :: vr) none (some 1)).length = _ := k4.len
  refine cat (s18 _ _ e17) e18 (sz5 (by rw [c1, c2]; show rest.length + 1 ≤ 100000; omega)) ?_
  repeat' (walk_at "rd")
  rename_i l19 n19 G19 s19 e19
  have kl19 : KL G19 l19 (rest ++ [k0]) := ⟨_, e19, (k3.app k4).same s19⟩
  have c16 := ((s14.trans s15).trans s16).trans ((s17.trans s18).trans s19)
  refine ⟨_, _, .list ((rest ++ [k0]).map kdat), 7, rfl, rfl, kl_dv (kh13.same c16), kl_dv kl19, (fd_keys (by omega)).mono (by decide), fun H20 s20 => ?_⟩
  exact q H20 (a16.trans (((s17.trans s18).trans s19).trans s20))
end
end Kj
namespace Kj
open PySem PySem.Spec PyProof.Rows L2 Rd
/-! ### the stepper -/
local macro_rules | `(tactic| walk_at "hp") => `(tactic| first
  | assumption
  | exact upd_same
  | (refine Eq.trans (upd_ne (by first | assumption | (apply Ne.symm; assumption))) ?_; walk_at "hp"))
local macro_rules | `(tactic| walk_at "sq") => `(tactic| first
  | assumption
  | (refine Or.inl (Or.inl ?_); walk_at "hp"))
local macro_rules | `(tactic| walk_at "st") => `(tactic| first
  | assumption
  | (refine Or.inl (Or.inl ?_); walk_at "hp"))
local macro_rules | `(tactic| walk_at "ar") => `(tactic| first
  | assumption
  | omega
  | decide)
local macro_rules | `(tactic| walk_at "ci") => `(tactic| first
  | (refine (show CMul _ _ from Or.inr ⟨?_, ?_⟩) <;> omega)
  | (refine (show CMul _ _ from Or.inl ⟨?_, ?_⟩) <;> omega)
  | (show CPow _ _; exact ⟨by decide, by decide, by decide⟩)
  | (refine wide_div (b := 63) ?_ ?_ (by decide) (by decide) <;> omega)
  | (show (0 : Int) < _; omega))
local macro_rules | `(tactic| walk_at "ty") => `(tactic| first
  | exact dp_ty (by assumption)
  | exact TyX.base (TyOf.int _)
  | exact TyX.base (TyOf.str _)
  | exact TyX.base (TyOf.bl _)
  | exact TyX.base TyOf.non
  | exact tyL' (by walk_at "sq")
  | exact tyT' (by walk_at "st"))
local macro_rules | `(tactic| walk_at "isi") => `(tactic| first
  | ((with_reducible apply Rd.isiF); (walk_at "ty"); (decide))
  | ((with_reducible apply Rd.isiT); (walk_at "ty"); (decide)))
local macro_rules | `(tactic| walk_at "rd") => `(tactic| first
  | with_reducible apply Rd.seq
  | ((with_reducible apply Rd.var); rfl)
  | with_reducible apply Rd.con
  | with_reducible apply Rd.op
  | with_reducible apply Rd.asg
  | ((with_reducible apply Rd.gname); ((dsimp only [List.set, L2.wipe, Int.reduceToNat]) <;> rfl))
  | with_reducible apply Rd.nxt
  | with_reducible apply Rd.ifs
  | with_reducible apply Rd.test
  | with_reducible apply Rd.testB
  | with_reducible apply Rd.exbl
  | with_reducible apply Rd.ret
  | with_reducible apply Rd.drop
  | with_reducible apply Rd.retN
  | with_reducible apply Rd.nil
  | with_reducible apply Rd.cons
  | with_reducible apply Rd.call
  | with_reducible apply Rd.cb
  | with_reducible apply Rd.and
  | with_reducible apply Rd.or
  | with_reducible apply Rd.not
  | with_reducible apply Rd.andV
  | with_reducible apply Rd.orV
  | with_reducible apply Rd.notV
  | with_reducible apply Rd.ife
  | with_reducible apply Rd.tup
  | with_reducible apply Rd.lst
  | with_reducible apply Rd.un
  | with_reducible apply Rd.chain
  | with_reducible apply Rd.brk
  | with_reducible apply Rd.cnt
  | with_reducible apply Rd.I0
  | with_reducible apply Rd.U1
  | ((with_reducible apply Rd.eq); rfl)
  | ((with_reducible apply Rd.ne); rfl)
  | ((with_reducible apply Rd.I1); (walk_at "ci"))
  | with_reducible apply Rd.lc0
  | with_reducible apply Rd.ln0
  | with_reducible apply Rd.exN
  | ((with_reducible apply Rd.iteSf); (decide +kernel))
  | ((with_reducible apply Rd.iteSt); (decide +kernel))
  | ((with_reducible apply Rd.niQ); (exact Or.inl (by walk_at "sq")); (exact ⟨rfl, rfl⟩); (rfl))
  | ((with_reducible apply Rd.inQ); (exact Or.inl (by walk_at "sq")); (exact ⟨rfl, rfl⟩); (rfl))
  | with_reducible apply Rd.rn1
  | with_reducible apply Rd.in1
  | with_reducible apply Rd.sn1
  | with_reducible apply Rd.bn1
  | with_reducible apply Rd.nn1
  | with_reducible apply Rd.rn2
  | with_reducible apply Rd.in2
  | with_reducible apply Rd.sn2
  | with_reducible apply Rd.bn2
  | with_reducible apply Rd.nn2
  | with_reducible apply Rd.nt1
  | with_reducible apply Rd.nf1
  | (with_reducible refine Rd.iteI (fun _ => ?_) (fun _ => ?_))
  | (with_reducible refine Rd.iteNI (fun _ => ?_) (fun _ => ?_))
  | (with_reducible refine iteT ?_)
  | (with_reducible refine iteF ?_)
  | (with_reducible refine Rd.iteD (fun _ => ?_) (fun _ => ?_))
  | (with_reducible refine Rd.iteN (fun _ => ?_) (fun _ => ?_))
  | with_reducible apply Rd.intI
  | with_reducible apply Rd.intB
  | with_reducible apply Rd.maxQ
  | with_reducible apply Rd.minQ
  | with_reducible apply Rd.absQ
  | with_reducible apply Rd.isN
  | with_reducible apply Rd.noN
  | with_reducible apply Rd.ltZ
  | with_reducible apply Rd.bm
  | with_reducible apply Rd.bm0
  | with_reducible apply Rd.par
  | with_reducible apply Rd.expar
  | with_reducible apply Rd.exint
  | with_reducible apply Rd.ipi
  | with_reducible apply Rd.slice
  | with_reducible apply Rd.noPart
  | with_reducible apply Rd.part
  | with_reducible apply Rd.gcons
  | with_reducible apply Rd.gnil
  | with_reducible apply Rd.iseq
  | with_reducible apply Rd.irng1
  | walk_at "isi"
  | with_reducible apply Rd.forX
  | with_reducible apply Rd.lstRev
  | with_reducible apply Rd.lstRg
  | with_reducible apply Rd.rg1
  | with_reducible apply Rd.rg2
  | with_reducible apply Rd.exint2
  | ((with_reducible apply Rd.exrev); (walk_at "sq"))
  | with_reducible apply Rd.lcX
  | with_reducible apply Rd.yes
  | ((with_reducible apply Rd.exrng1); (constructor <;> omega))
  | ((with_reducible apply Rd.exrng2); (refine ⟨?_, ?_, ?_, ?_⟩ <;> omega))
  | with_reducible apply Rd.irng2
  | ((with_reducible apply Rd.aug); rfl)
  | ((with_reducible apply Rd.exlst); (walk_at "sq"))
  | ((with_reducible apply Rd.gtup); (walk_at "st"); (rfl))
  | ((with_reducible apply Rd.tyL); (walk_at "hp"))
  | ((with_reducible apply Rd.ixL); (walk_at "sq"); (rfl))
  | ((with_reducible apply Rd.ixI); (walk_at "sq"); (omega); (first | assumption | (simp only [List.length_map]; omega)); (intro _ _))
  | (with_reducible refine Rd.gsub ?_)
  | ((with_reducible apply Rd.setL); (walk_at "hp"); (rfl); ((dsimp only [List.set, L2.wipe, Int.reduceToNat]) <;> rfl))
  | ((with_reducible apply Rd.lenQ); (first | exact Or.inl (by walk_at "sq") | exact Or.inr (by walk_at "st")))
  | ((with_reducible apply Rd.listQ); (first | exact Or.inl (by walk_at "sq") | exact Or.inr (by walk_at "st")))
  | ((with_reducible apply Rd.tupQ); (walk_at "sq"))
  | ((with_reducible apply Rd.slL); (walk_at "sq"))
  | ((with_reducible apply Rd.ixT); (walk_at "st"); (rfl))
  | (with_reducible refine Rd.iteB (fun _ => ?_) (fun _ => ?_))
  | (with_reducible refine Rd.iteNB (fun _ => ?_) (fun _ => ?_))
  | (refine Rd.andI (Nat.le_of_ble_eq_true rfl) ?_)
  | dsimp only [List.set])
local macro_rules | `(tactic| walk_at "hp") => `(tactic| first
  | assumption
  | exact upd_same
  | (refine Eq.trans (upd_ne (by first | assumption | (apply Ne.symm; assumption))) ?_; walk_at "hp")
  | (refine hpS (by assumption) ?_; walk_at "hp"))
local macro_rules | `(tactic| walk_at "al") => `(tactic| (with_reducible intro l hl; generalize hG : upd _ l _ = G; have hs := newOne hl hG; clear hG; obtain ⟨hs, he⟩ := hs))
local macro_rules | `(tactic| walk_at "rd") => `(tactic| first
  | walk_at "al"
  | ((with_reducible apply Rd.cat); (walk_at "hp"); (walk_at "hp"); (exact Nat.le_of_ble_eq_true rfl)))
local macro_rules | `(tactic| walk_at "sm") => `(tactic| first
  | assumption
  | exact Same.refl _
  | (refine Same.trans ?_ (by assumption); walk_at "sm"))
local macro_rules | `(tactic| walk_at "fr") => `(tactic| first
  | assumption
  | (refine Same.free (by assumption) ?_; walk_at "fr"))
local macro_rules | `(tactic| walk_at "ty") => `(tactic| first
  | exact dv_ty (by assumption)
  | exact tyD' (by walk_at "hp"))
local macro_rules | `(tactic| walk_at "sz") => `(tactic| first
  | exact sz5 (by omega)
  | (simp only [add_len, one_len]; exact sz5 (by omega)))
local macro_rules | `(tactic| walk_at "rd") => `(tactic| first
  | with_reducible apply Rd.istr
  | with_reducible apply Rd.exstr
  | with_reducible apply Rd.leA
  | with_reducible apply Rd.leZz
  | with_reducible apply Rd.le0
  | with_reducible apply Rd.le9
  | with_reducible apply Rd.niZ
  | ((with_reducible apply Rd.lenZ); (walk_at "sz"))
  | ((with_reducible apply Rd.slZ); (walk_at "sz"))
  | ((with_reducible apply Rd.addZ); (walk_at "sz"))
  | with_reducible apply Rd.raiseX
  | with_reducible apply Rd.exone
  | with_reducible apply Rd.callS
  | with_reducible apply Rd.callP
  | with_reducible apply Rd.xsX
  | with_reducible apply Rd.dnewX
  | with_reducible apply Rd.tyZ)
/-! ### the law -/
open Ty
/-- rows of keys -/
def Rows (st : Addr) (H : Hp) : List V → List (List Ky) → Prop
  | [], [] => True
  | v :: vs, R :: rows => (∃ a, v = .ref a ∧ a ≠ st ∧ KL H a R) ∧ Rows st H vs rows
  | _, _ => False
theorem Rows.map {st : Addr} {H G : Hp} (k : ∀ a R, a ≠ st → KL H a R → KL G a R) : ∀ {vs : List V} {rows : List (List Ky)}, Rows st H vs rows → Rows st G vs rows
  | [], [], _ => trivial
  | v :: vs, R :: rows, h => by
    obtain ⟨⟨a, e, n, kl⟩, r⟩ := h
    exact ⟨⟨a, e, n, k a R n kl⟩, Rows.map k r⟩
  | [], _ :: _, h => h.elim
  | _ :: _, [], h => h.elim
theorem Rows.same {st : Addr} {H G : Hp} {vs : List V} {rows : List (List Ky)} (h : Rows st H vs rows) (s : Same H G) : Rows st G vs rows := h.map fun _ _ _ kl => kl.same s
theorem Rows.go {st c : Addr} {H G : Hp} {vs : List V} {rows : List (List Ky)} (h : Rows st H vs rows) (o : StoreAt H st c) (g : Go st c H G) : Rows st G vs rows := h.map fun _ _ n kl => kl_go kl o g n
theorem Rows.len {st : Addr} {H : Hp} : ∀ {vs : List V} {rows : List (List Ky)}, Rows st H vs rows → vs.length = rows.length
  | [], [], _ => rfl
  | v :: vs, R :: rows, h => congrArg (· + 1) (Rows.len h.2)
  | [], _ :: _, h => h.elim
  | _ :: _, [], h => h.elim
theorem Rows.app {st : Addr} {H : Hp} : ∀ {vs ws : List V} {rows rs : List (List Ky)}, Rows st H vs rows → Rows st H ws rs → Rows st H (vs ++ ws) (rows ++ rs)
  | [], _, [], _, _, g => g
  | v :: vs, _, R :: rows, _, h, g => ⟨h.1, Rows.app h.2 g⟩
  | [], _, _ :: _, _, h, _ => h.elim
  | _ :: _, _, [], _, h, _ => h.elim
theorem Rows.cut {st : Addr} {H : Hp} : ∀ {vs : List V} {A B : List (List Ky)}, Rows st H vs (A ++ B) → ∃ va vb, vs = va ++ vb ∧ Rows st H va A ∧ Rows st H vb B
  | vs, [], B, h => ⟨[], vs, rfl, trivial, h⟩
  | v :: vs, R :: A, B, h => by
    obtain ⟨va, vb, e, a, b⟩ := Rows.cut h.2
    exact ⟨v :: va, vb, by rw [e]; rfl, ⟨h.1, a⟩, b⟩
  | [], _ :: _, _, h => h.elim
theorem Rows.at {st : Addr} {H : Hp} : ∀ {vs : List V} {rows : List (List Ky)} {i : Nat} {v : V}, Rows st H vs rows → vs[i]? = some v → ∃ a R, v = .ref a ∧ a ≠ st ∧ rows[i]? = some R ∧ KL H a R
  | v :: vs, R :: rows, 0, _, h, e => by
    cases e
    obtain ⟨⟨a, e, n, kl⟩, _⟩ := h
    exact ⟨a, R, e, n, rfl, kl⟩
  | v :: vs, R :: rows, i + 1, _, h, e => Rows.at (i := i) h.2 e
  | [], [], _, _, _, e => nomatch e
  | [], _ :: _, _, _, h, _ => h.elim
  | _ :: _, [], _, _, h, _ => h.elim
/-- a line of a tour -/
def Ln (l : Str) (R : List Ky) : Prop := ∃ x y, Ky.a l x y ∈ R
structure Inv (N dn : List Str) (rows : List (List Ky)) : Prop where
  t : ∀ R ∈ rows, T R
  sz : ∀ R ∈ rows, R.length ≤ 70
  dj : rows.Pairwise fun R S => ∀ l, Ln l R → ¬ Ln l S
  ln : ∀ l, (∃ R ∈ rows, Ln l R) ↔ l ∈ N ∧ l ∉ dn
theorem t_hs {R : List Ky} (h : T R) (l : R.length ≤ 70) : (hsOf R).length < 64 := by
  have := h.cnt
  have := hs_as_len R
  omega
theorem Inv.split {N dn : List Str} {rows : List (List Ky)} (h : Inv N dn rows) {l : Str} (m : l ∈ N) (n : l ∉ dn) : ∃ A R B, rows = A ++ R :: B ∧ Ln l R ∧ (∀ S ∈ A, ¬ Ln l S) ∧ ∀ S ∈ B, ¬ Ln l S := by
  obtain ⟨R, mR, lR⟩ := (h.ln l).mpr ⟨m, n⟩
  obtain ⟨A, B, rfl⟩ := List.append_of_mem mR
  have dj := h.dj
  refine ⟨A, R, B, rfl, lR, fun S mS lS => ?_, fun S mS lS => ?_⟩
  · exact (List.pairwise_append.mp dj).2.2 S mS R List.mem_cons_self l lS lR
  · exact (List.pairwise_cons.mp (List.pairwise_append.mp dj).2.1).1 S mS l lR lS
theorem Inv.step {N dn : List Str} {A B : List (List Ky)} {l u v : Str} {xs ys zs : List Ky} (h : Inv N dn (A ++ (xs ++ .a l u v :: (ys ++ .a l v u :: zs)) :: B)) (hA : ∀ S ∈ A, ¬ Ln l S) (hB : ∀ S ∈ B, ¬ Ln l S) : Inv N (dn ++ [l]) (A ++ B ++ [xs ++ zs, ys]) := by
  have tR := h.t _ (List.mem_append.mpr (.inr List.mem_cons_self))
  have sR := h.sz _ (List.mem_append.mpr (.inr List.mem_cons_self))
  obtain ⟨_, _, tO, tY, nO, nY, _, _, _, lover⟩ := Kj.T.part tR
  have inR : ∀ {m : Str}, Ln m (xs ++ zs) ∨ Ln m ys → Ln m (xs ++ .a l u v :: (ys ++ .a l v u :: zs)) := fun h => by
    rcases h with ⟨x, y, k⟩ | ⟨x, y, k⟩
    · refine ⟨x, y, ?_⟩
      rcases List.mem_append.mp k with k | k <;> simp [k]
    · exact ⟨x, y, by simp [k]⟩
  have ofR : ∀ {m : Str}, Ln m (xs ++ .a l u v :: (ys ++ .a l v u :: zs)) → m = l ∨ Ln m (xs ++ zs) ∨ Ln m ys := fun ⟨x, y, k⟩ => by
    simp only [List.mem_append, List.mem_cons] at k
    rcases k with k | k | k | k | k
    · exact .inr (.inl ⟨x, y, List.mem_append.mpr (.inl k)⟩)
    · cases k
      exact .inl rfl
    · exact .inr (.inr ⟨x, y, k⟩)
    · cases k
      exact .inl rfl
    · exact .inr (.inl ⟨x, y, List.mem_append.mpr (.inr k)⟩)
  have mem : ∀ {S : List Ky}, S ∈ A ++ B ++ [xs ++ zs, ys] ↔ S ∈ A ∨ S ∈ B ∨ S = xs ++ zs ∨ S = ys := fun {S} => by simp [or_assoc]
  have inA : ∀ {S : List Ky}, S ∈ A ∨ S ∈ B → S ∈ A ++ (xs ++ .a l u v :: (ys ++ .a l v u :: zs)) :: B := fun m => by rcases m with m | m <;> simp [m]
  have dj := List.pairwise_append.mp h.dj
  have djB := List.pairwise_cons.mp dj.2.1
  have lL : (xs ++ zs).length ≤ 70 ∧ ys.length ≤ 70 := by
    simp only [List.length_append, List.length_cons] at sR ⊢
    omega
  refine ⟨fun S m => ?_, fun S m => ?_, ?_, fun m => ?_⟩
  · rcases mem.mp m with m | m | rfl | rfl
    · exact h.t S (inA (.inl m))
    · exact h.t S (inA (.inr m))
    · exact tO
    · exact tY
  · rcases mem.mp m with m | m | rfl | rfl
    · exact h.sz S (inA (.inl m))
    · exact h.sz S (inA (.inr m))
    · exact lL.1
    · exact lL.2
  · refine List.pairwise_append.mpr ⟨List.pairwise_append.mpr ⟨dj.1, djB.2, fun S mS S' mS' => dj.2.2 S mS S' (List.mem_cons_of_mem _ mS')⟩, List.pairwise_cons.mpr ⟨fun S mS => ?_, List.pairwise_cons.mpr ⟨fun _ m => (nomatch m), .nil⟩⟩, fun S mS S' mS' m k k' => ?_⟩
    · rw [List.mem_singleton.mp mS]
      exact fun m ⟨x, y, k⟩ ⟨x', y', k'⟩ => lover m x y x' y' k k'
    · have kR : Ln m (xs ++ .a l u v :: (ys ++ .a l v u :: zs)) := by
        rcases List.mem_cons.mp mS' with rfl | mS'
        · exact inR (.inl k')
        · rw [List.mem_singleton.mp mS'] at k'
          exact inR (.inr k')
      rcases List.mem_append.mp mS with mS | mS
      · exact dj.2.2 S mS _ List.mem_cons_self m k kR
      · exact djB.1 S mS m kR k
  · rw [List.mem_append, List.mem_singleton]
    constructor
    · rintro ⟨S, mS, k⟩
      have ne : m ≠ l := by
        rintro rfl
        rcases mem.mp mS with z | z | rfl | rfl
        · exact hA S z k
        · exact hB S z k
        · obtain ⟨x, y, k⟩ := k
          exact nO x y k
        · obtain ⟨x, y, k⟩ := k
          exact nY x y k
      have : ∃ S ∈ A ++ (xs ++ .a l u v :: (ys ++ .a l v u :: zs)) :: B, Ln m S := by
        rcases mem.mp mS with z | z | rfl | rfl
        · exact ⟨S, inA (.inl z), k⟩
        · exact ⟨S, inA (.inr z), k⟩
        · exact ⟨_, List.mem_append.mpr (.inr List.mem_cons_self), inR (.inl k)⟩
        · exact ⟨_, List.mem_append.mpr (.inr List.mem_cons_self), inR (.inr k)⟩
      obtain ⟨a, b⟩ := (h.ln m).mp this
      exact ⟨a, fun z => z.elim b ne⟩
    · rintro ⟨a, b⟩
      obtain ⟨S, mS, k⟩ := (h.ln m).mpr ⟨a, fun z => b (.inl z)⟩
      rcases List.mem_append.mp mS with z | z
      · exact ⟨S, mem.mpr (.inl z), k⟩
      · rcases List.mem_cons.mp z with rfl | z
        · rcases ofR k with e | k | k
          · exact absurd (.inr e) b
          · exact ⟨_, mem.mpr (.inr (.inr (.inl rfl))), k⟩
          · exact ⟨_, mem.mpr (.inr (.inr (.inr rfl))), k⟩
        · exact ⟨S, mem.mpr (.inr (.inl z)), k⟩
section
variable {P : Program} {w : World} {K : PySem.W.Frag} {mg : Str → Option Value} {base : Heap} {D : Str → Addr}
theorem inStrB {H : Hp} {Q : VK} {z : Str} {p : Addr} {zs : List Str} (h : H p = some (.lst (zs.map V.str))) (q : Q (.bl (decide (z ∈ zs))) H) : rIn K false (.str z) (.ref p) H Q := by
  refine ⟨p, _, rfl, .inl (.inl (.inl h)), rfl, ?_, ?_⟩
  · rw [List.all_eq_true]
    intro x hx
    obtain ⟨b, _, rfl⟩ := List.mem_map.mp hx
    rfl
  · rw [if_neg Bool.false_ne_true, inV_strs]
    exact q
theorem cutTo {xs ys : List V} {i : Int} (h : i = xs.length) : cutV (xs ++ ys) none (some i) = xs := by
  rw [h, cut_to, List.take_left]
theorem perm_strs {ys : List V} {N : List Str} (p : ys.Perm (N.map V.str)) : ∃ zs : List Str, ys = zs.map V.str ∧ zs.Perm N := by
  refine ⟨ys.map stO, ?_, ?_⟩
  · rw [List.map_map]
    refine (List.map_id _).symm.trans (List.map_congr_left fun v m => ?_)
    obtain ⟨z, _, rfl⟩ := List.mem_map.mp (p.mem_iff.mp m)
    rfl
  · have := p.map stO
    rwa [List.map_map, show stO ∘ V.str = id from rfl, List.map_id] at this
theorem snoc_of {zs : List Str} {n : Nat} (h : zs.length = n + 1) : ∃ A l, zs = A ++ [l] ∧ A.length = n := by
  have ne : zs ≠ [] := fun z => by
    rw [z] at h
    cases h
  exact ⟨zs.dropLast, zs.getLast ne, (List.dropLast_concat_getLast ne).symm, by rw [List.length_dropLast]; omega⟩
def spLaw (K : PySem.W.Frag) : Sp := fun vs H Q _ => ∃ (a : Addr) (ns : List Int), vs = [.ref a] ∧ SqL K H a (ns.map V.int) ∧ ns.length ≤ 63 ∧ ∀ H', Q (.bl true) H'
theorem ok_law {f0 : Addr} {fd0 : FuncData} (F : Fun K "law" "law" s_law f0 fd0) (m_len : mg "len" = none)  (C__law_store : Cal P w K mg base 1 "_law_store" P__law_store (spStore K)) (C__law_take : Cal P w K mg base 1 "_law_take" P__law_take spTake) (C__law_between : Cal P w K mg base 2 "_law_between" P__law_between spBetween) (C__law_shuffled : Cal P w K mg base 2 "_law_shuffled" P__law_shuffled (spShuffled K)) (C__law_names : Cal P w K mg base 3 "_law_names" P__law_names spNames) (C__law_line_names : Cal P w K mg base 4 "_law_line_names" P__law_line_names spLineNames) (C__law_tour : Cal P w K mg base 4 "_law_tour" P__law_tour spTour) (C__law_tour_lines : Cal P w K mg base 2 "_law_tour_lines" P__law_tour_lines spTourLinesL) (C__law_both : Cal P w K mg base 2 "_law_both" P__law_both spBoth) (C__law_wrong_line : Cal P w K mg base 6 "_law_wrong_line" P__law_wrong_line (spWrong K)) (C__law_refused : Cal P w K mg base 11 "_law_refused" P__law_refused (spRefused K)) (C__law_parts_in_two : Ho.CalN P w K mg base 12 "_law_parts_in_two" P__law_parts_in_two (spPIT K)) : FnOk P w K mg base (L2N.CX P w) 14 f0 fd0 ["script"] (spLaw K) := by
  refine Ho.okN F sc_law (fun vs H Q E h => ?_) (fun cdv A outer s H vs Q E hr h => ?_)
  · obtain ⟨a, ns, rfl, _⟩ := h
    rfl
  obtain ⟨a, ns, rfl, hS', hlen, q⟩ := h
  refine ⟨_, (pss_cons (ps_set (i := 1) sc_law.nd rfl (Or.inl rfl) (pe_cal C__law_store hr (pa_cons (pv 0 (hd := nd_script) (hcd := nc_script)) pa_nil) (hdb := nd__law_store)))
  (pss_cons (ps_set (i := 2) sc_law.nd rfl (Or.inl rfl) (pe_op op_add pe_int (pe_cal C__law_take hr (pa_cons (pv 1 (hd := nd_store) (hcd := nc_store)) (pa_cons pe_int pa_nil)) (hdb := nd__law_take))))
  (C8.pss_cut (ps_if (pt_cmpR op_eq (pe_cal C__law_take hr (pa_cons (pv 1 (hd := nd_store) (hcd := nc_store)) (pa_cons pe_int pa_nil)) (hdb := nd__law_take)) pe_int (nomark _)) (pss_one (ps_set (i := 2) sc_law.nd rfl (Or.inl rfl) (pe_cal C__law_between hr (pa_cons (pv 1 (hd := nd_store) (hcd := nc_store)) (pa_cons pe_int (pa_cons pe_int pa_nil))) (hdb := nd__law_between)))) pss_nil)
  (pss_cons (ps_set (i := 3) sc_law.nd rfl (Or.inl rfl) (pe_cal C__law_names hr (pa_cons (pv 1 (hd := nd_store) (hcd := nc_store)) (pa_cons (pv 2 (hd := nd_many) (hcd := nc_many)) pa_nil)) (hdb := nd__law_names)))
  (pss_cons (ps_set (i := 4) sc_law.nd rfl (Or.inl rfl) (pe_cal C__law_line_names hr (pa_cons (pv 1 (hd := nd_store) (hcd := nc_store)) (pa_cons (pv 3 (hd := nd_houses) (hcd := nc_houses)) (pa_cons (pv 2 (hd := nd_many) (hcd := nc_many)) pa_nil))) (hdb := nd__law_line_names)))
  (pss_cons (ps_set (i := 5) sc_law.nd rfl (Or.inl rfl) (pe_cal C__law_tour hr (pa_cons (pv 1 (hd := nd_store) (hcd := nc_store)) (pa_cons (pv 3 (hd := nd_houses) (hcd := nc_houses)) (pa_cons (pe_slice sl_list (pv 4 (hd := nd_names) (hcd := nc_names)) po_none (po_some (pe_op op_sub (pv 2 (hd := nd_many) (hcd := nc_many)) pe_int))) pa_nil))) (hdb := nd__law_tour)))
  (pss_cons (ps_set (i := 6) sc_law.nd rfl (Or.inl rfl) (pe_lst (pa_cons (pv 5 (hd := nd_keys) (hcd := nc_keys)) pa_nil)))
  (pss_cons (ps_for (passes_of rfl) rfl (pi_list (pe_slice sl_list (pe_cal C__law_shuffled hr (pa_cons (pv 1 (hd := nd_store) (hcd := nc_store)) (pa_cons (pe_slice sl_list (pv 4 (hd := nd_names) (hcd := nc_names)) po_none (po_some (pe_op op_sub (pv 2 (hd := nd_many) (hcd := nc_many)) pe_int))) pa_nil)) (hdb := nd__law_shuffled)) po_none (po_some pe_int))) (pg_name (i := 7) sc_law.nd rfl (Or.inl rfl)) (pss_cons (ps_set (i := 8) sc_law.nd rfl (Or.inl rfl) (pe_lst pa_nil))
  (pss_cons (ps_for (passes_of rfl) rfl (pi_list (pv 6 (hd := nd_tours) (hcd := nc_tours))) (pg_name (i := 9) sc_law.nd rfl (Or.inl rfl)) (pss_one (ps_if (pt_cmpR op_in_seq (pv 7 (hd := nd_line) (hcd := nc_line)) (pe_cal C__law_tour_lines hr (pa_cons (pv 9 (hd := nd_row) (hcd := nc_row)) pa_nil) (hdb := nd__law_tour_lines)) (by rfl)) (pss_one (ps_set (i := 5) sc_law.nd rfl (Or.inl rfl) (pv 9 (hd := nd_row) (hcd := nc_row)))) (pss_one (ps_expr (pe_bm PySem.F.plainAttrs_list PySem.F.slot_list_append PySem.F.type_list_append mt_append (pv 8 (hd := nd_others) (hcd := nc_others)) (pa_cons (pv 9 (hd := nd_row) (hcd := nc_row)) pa_nil)))))))
  (pss_cons (ps_set (i := 10) sc_law.nd rfl (Or.inl rfl) (pe_cal C__law_wrong_line hr (pa_cons (pv 1 (hd := nd_store) (hcd := nc_store)) (pa_cons (pv 5 (hd := nd_keys) (hcd := nc_keys)) pa_nil)) (hdb := nd__law_wrong_line)))
  (C8.pss_cut (ps_if (PW.pt (pw_and (pt_cmpR o_noN (pv 10 (hd := nd_word) (hcd := nc_word)) pe_non (nomark _)) (pw_and1 (pt_not (pt_val (pe_cal C__law_refused hr (pa_cons (pv 5 (hd := nd_keys) (hcd := nc_keys)) (pa_cons (pv 10 (hd := nd_word) (hcd := nc_word)) pa_nil)) (hdb := nd__law_refused))))))) (pss_one (ps_ret pe_bl)) pss_nil)
  (pss_cons (ps_if (pt_not (pt_val (Ho.pe_calN C__law_parts_in_two (L2N.takes_of rfl rfl rfl rfl) hr (pa_cons (pv 5 (hd := nd_keys) (hcd := nc_keys)) (pa_cons (pv 7 (hd := nd_line) (hcd := nc_line)) pa_nil))))) (pss_one (ps_ret pe_bl)) pss_nil)
  (pss_cons (ps_set (i := 11) sc_law.nd rfl (Or.inl rfl) (pe_cal C__law_both hr (pa_cons (pv 5 (hd := nd_keys) (hcd := nc_keys)) (pa_cons (pv 7 (hd := nd_line) (hcd := nc_line)) pa_nil)) (hdb := nd__law_both)))
  (pss_cons (ps_if (PW.pt (pw_or (pt_not (pt_val (pe_cal C__law_refused hr (pa_cons (pe_ix ix_tup (pv 11 (hd := nd_told) (hcd := nc_told)) pe_int (fun _ _ => rfl)) (pa_cons (pv 7 (hd := nd_line) (hcd := nc_line)) pa_nil)) (hdb := nd__law_refused)))) (pw_or1 (pt_not (pt_val (pe_cal C__law_refused hr (pa_cons (pe_ix ix_tup (pv 11 (hd := nd_told) (hcd := nc_told)) pe_int (fun _ _ => rfl)) (pa_cons (pv 7 (hd := nd_line) (hcd := nc_line)) pa_nil)) (hdb := nd__law_refused))))))) (pss_one (ps_ret pe_bl)) pss_nil)
  (pss_one (ps_set (i := 6) sc_law.nd rfl (Or.inl rfl) (pe_op op_cat (pv 8 (hd := nd_others) (hcd := nc_others)) (pe_lst (pa_cons (pe_ix ix_tup (pv 11 (hd := nd_told) (hcd := nc_told)) pe_int (fun _ _ => rfl)) (pa_cons (pe_ix ix_tup (pv 11 (hd := nd_told) (hcd := nc_told)) pe_int (fun _ _ => rfl)) pa_nil))))))))))))))
  (pss_cons (ps_for (passes_of rfl) rfl (pi_list (pv 6 (hd := nd_tours) (hcd := nc_tours))) (pg_name (i := 9) sc_law.nd rfl (Or.inl rfl)) (pss_one (ps_if (PW.pt (pw_or (PW.pt (pw_and (pt_cmpR op_lt (pv 2 (hd := nd_many) (hcd := nc_many)) pe_int (nomark _)) (pw_and1 (pt_cmpR op_ne (pe_callB q_len (by rfl) m_len PySem.boot_len (pa_cons (pv 9 (hd := nd_row) (hcd := nc_row)) pa_nil) (hn := nn_len) (hdb := nd_len)) pe_int (nomark _))))) (pw_or1 (pt_not (pt_val (pe_cal C__law_refused hr (pa_cons (pv 9 (hd := nd_row) (hcd := nc_row)) (pa_cons (pe_ix ix_list (pv 4 (hd := nd_names) (hcd := nc_names)) (pe_op op_sub (pv 2 (hd := nd_many) (hcd := nc_many)) pe_int) (fun _ _ => rfl)) pa_nil)) (hdb := nd__law_refused))))))) (pss_one (ps_ret pe_bl)) pss_nil)))
  (pss_one (ps_ret pe_bl))))))))))), ?_⟩
  refine Rd.at0 (σ := [some (.ref a), none, none, none, none, none, none, none, none, none, none, none]) rfl ?_
  repeat' (walk_at "rd")
  refine ⟨a, ns, rfl, hS', by omega, fun st c H1 s1 f1 o1 => ?_⟩
  repeat' (walk_at "rd")
  refine ⟨st, c, 9, rfl, o1, by decide, fun m1 H2 a1 b1 g2 => ?_⟩
  repeat' (walk_at "rd")
  refine Rd.cut (fun σ' H' => ∃ m : Nat, σ' = [some (.ref a), some (.ref st), some (.int m), none, none, none, none, none, none, none, none, none] ∧ 1 ≤ m ∧ m ≤ 24 ∧ StoreAt H' st c) ?_ ?_
  · repeat' (walk_at "rd")
    refine ⟨st, c, 10, rfl, g2.ok, by decide, fun r H4 a3 b3 g4 => ?_⟩
    repeat' (walk_at "rd")
    · refine ⟨st, c, 1, 24, rfl, g4.ok, by decide, fun r H5 a5 b5 g5 => ?_⟩
      repeat' (walk_at "rd")
      refine ⟨r.toNat, ?_, by omega, by omega, g5.ok⟩
      rw [Int.toNat_of_nonneg (by omega)]
    · refine ⟨(1 + m1).toNat, ?_, by omega, by omega, g4.ok⟩
      rw [Int.toNat_of_nonneg (by omega)]
  clear g2 o1 s1 f1 hS' b1 a1
  rintro σ' H1 ⟨m, rfl, m0, m9, o1⟩
  repeat' (walk_at "rd")
  refine ⟨st, c, _, rfl, o1, by omega, by omega, fun Lz zs H2 lz nmz ndz fz g2 ez => ?_⟩
  have nz := (o1.off fz).1
  repeat' (walk_at "rd")
  refine ⟨st, c, Lz, zs, _, rfl, g2.ok, nz, ez, by omega, ndz, nmz, by omega, by omega, fun LN ns2 H3 ln nmn ndn fn g3 en => ?_⟩
  have nn := (g2.ok.off fn).1
  have ez3 := g3.keep _ _ nz ez
  have o3 := g3.ok
  obtain ⟨N, last, rfl, lN⟩ := snoc_of (zs := ns2) (n := m - 1) (by omega)
  have mN : ∀ z ∈ N, NmS z := fun z h => nmn z (List.mem_append.mpr (.inl h))
  have mlast : NmS last := nmn last (by simp)
  have ndN := (List.nodup_append.mp ndn).1
  have lastN : last ∉ N := fun h => (List.nodup_append.mp ndn).2.2 last h last (List.mem_singleton.mpr rfl) rfl
  repeat' (walk_at "rd")
  rename_i l4 n4 G4 s4 e4
  rw [List.map_append, cutTo (by rw [List.length_map]; omega)] at e4
  refine ⟨st, c, Lz, l4, zs, N, rfl, o3.same s4, nz, (o3.off n4).1, s4 _ _ ez3, e4, by omega, by omega, by omega, ndz, ndN, nmz, mN, fun F ks H5 tt lk f5 g5 k5 => ?_⟩
  rw [List.take_of_length_le (by omega)] at tt
  have nF := ((o3.same s4).off f5).1
  have g35 : Go st c H3 H5 := ((Go.refl o3).same s4).trans g5
  have en5 := g35.keep _ _ nn en
  have o5 := g5.ok
  repeat' (walk_at "rd")
  rename_i Lt n6 G6 s6 e6 l7 n7 G7 s7 e7
  rw [List.map_append, cutTo (by rw [List.length_map]; omega)] at e7
  have s67 := s6.trans s7
  have o7 := o5.same s67
  refine ⟨st, c, l7, N.map V.str, rfl, o7, .inl (.inl e7), by rw [List.length_map]; omega, fun Ls ys H8 py n8 g8 e8 => ?_⟩
  have nLt := (o5.off n6).1
  have et8 := g8.keep _ _ nLt (s7 _ _ e6)
  have en8 := g8.keep _ _ nn (s67 _ _ en5)
  have kF8 : KL H8 F ks := kl_go (k5.same s67) o7 g8 nF
  repeat' (walk_at "rd")
  rename_i Lq n9 G9 s9 e9
  have o9 := g8.ok.same s9
  have nLq := (g8.ok.off n9).1
  obtain ⟨qs, eqs, qn, qm⟩ : ∃ qs : List Str, cutV ys none (some 8) = qs.map V.str ∧ qs.Nodup ∧ (∀ z ∈ qs, z ∈ N) ∧ (N.length ≤ 8 → ∀ z ∈ N, z ∈ qs) := by
    obtain ⟨zs', e, pz⟩ : ∃ zs' : List Str, ys = zs'.map V.str ∧ zs'.Perm N := perm_strs py
    subst e
    refine ⟨zs'.take 8, ?_, (pz.nodup_iff.mpr ndN).sublist (List.take_sublist _ _), fun z h => pz.mem_iff.mp (List.mem_of_mem_take h), fun l8 z h => ?_⟩
    · rw [show (8 : Int) = ((8 : Nat) : Int) from rfl, cut_to, List.map_take]
    · rw [List.take_of_length_le (by rw [pz.length_eq]; exact l8)]
      exact pz.mem_iff.mpr h
  obtain ⟨qm, qall⟩ := qm
  rw [eqs] at e9
  have lq : qs.length ≤ 24 := by
    have := nodup_le qn qm
    omega
  have i0 : Inv N (qs.take 0) [ks] := by
    refine ⟨fun R h => by rw [List.mem_singleton.mp h]; exact tt.1, fun R h => by rw [List.mem_singleton.mp h]; omega, List.pairwise_cons.mpr ⟨fun _ h => (nomatch h), .nil⟩, fun l => ?_⟩
    constructor
    · rintro ⟨R, h, k⟩
      rw [List.mem_singleton.mp h] at k
      exact ⟨(tt.2.2 l).mp k, fun z => (nomatch z)⟩
    · rintro ⟨h, _⟩
      exact ⟨ks, List.mem_singleton.mpr rfl, (tt.2.2 l).mpr h⟩
  repeat' (walk_at "rd")
  refine forL (qs.map V.str) (fun i σ H' => ∃ (v5 v7 v8 v9 v10 v11 : Option V) (Lt : Addr) (vs : List V) (rows : List (List Ky)), σ = [some (.ref a), some (.ref st), some (.int m), some (.ref Lz), some (.ref LN), v5, some (.ref Lt), v7, v8, v9, v10, v11] ∧ StoreAt H' st c ∧ H' Lq = some (.lst (qs.map V.str)) ∧
      H' LN = some (.lst ((N ++ [last]).map V.str)) ∧ Lt ≠ st ∧ H' Lt = some (.lst vs) ∧ Rows st H' vs rows ∧ Inv N (qs.take i) rows ∧ rows.length ≤ i + 1)
    ⟨_, _, _, _, _, _, Lt, [.ref F], [ks], rfl, o9, e9, s9 _ _ en8, nLt, s9 _ _ et8, ⟨⟨F, rfl, nF, kF8.same s9⟩, trivial⟩, i0, Nat.le_refl _⟩ ?_ ?_ ?_
  · rintro i σ H' _ ⟨_, _, _, _, _, _, _, _, _, rfl, _, e, _⟩
    exact .inl (.inl e)
  · clear i0 e9 o9 et8 en8 kF8 e8 g8 s9 n9 en5 o5 g35 k5 f5 g5 e4 s4 n4 o3 ez3 g3 en fn e6 n6 s6 e7 n7 s7 s67 o7
    rintro i x σ H1' hx ⟨_, _, _, _, _, _, Lt, vs, rows, rfl, o, eq, eN, nLt, eT, rw', iv, lr⟩
    obtain ⟨l, el, rfl⟩ : ∃ l, qs[i]? = some l ∧ x = .str l := by
      rw [List.getElem?_map] at hx
      obtain ⟨z, a, b⟩ := Option.map_eq_some_iff.mp hx
      exact ⟨z, a, b.symm⟩
    have il := (List.getElem?_eq_some_iff.mp el).1
    have mq := List.mem_of_getElem? el
    have mlN := qm l mq
    have nl := mN l mlN
    have et1 : qs.take (i + 1) = qs.take i ++ [l] := by rw [List.take_add_one, el]; rfl
    have ndn' : l ∉ qs.take i := fun k => by
      have nd := qn.sublist (List.take_sublist (i + 1) qs)
      rw [et1] at nd
      exact (List.nodup_append.mp nd).2.2 l k l (List.mem_singleton.mpr rfl) rfl
    obtain ⟨RA, R0, RB, rfl, lR, nA, nB⟩ := iv.split mlN ndn'
    obtain ⟨va, vb', rfl, ra, rb⟩ := Rows.cut rw'
    obtain ⟨v0, vb, rfl, ⟨a0, rfl, na0, k0⟩, rbb⟩ : ∃ v0 vb, vb' = v0 :: vb ∧ (∃ a, v0 = .ref a ∧ a ≠ st ∧ KL H1' a R0) ∧ Rows st H1' vb RB := by
      match vb', rb with
      | v0 :: vb, rb => exact ⟨v0, vb, rfl, rb.1, rb.2⟩
    have lva := ra.len
    have lvb := rbb.len
    have tR := iv.t R0 (by simp)
    have sR := iv.sz R0 (by simp)
    have lrw : (RA ++ R0 :: RB).length = RA.length + 1 + RB.length := by
      rw [List.length_append, List.length_cons]
      omega
    have lAB : RA.length + 1 + RB.length ≤ 25 := by
      rw [← lrw]
      omega
    repeat' (walk_at "rd")
    rename_i Lo no G2 s2 e2
    have rw2 := rw'.same s2
    have eT2 := s2 _ _ eT
    repeat' (walk_at "rd")
    refine forL (va ++ .ref a0 :: vb) (fun j σ H' => ∃ (v5 v9 v10 v11 : Option V), σ = [some (.ref a), some (.ref st), some (.int m), some (.ref Lz), some (.ref LN), v5, some (.ref Lt), some (.str l), some (.ref Lo), v9, v10, v11] ∧ Same H1' H' ∧
        (va.length < j → v5 = some (.ref a0)) ∧ H' Lo = some (.lst (if va.length < j then va ++ vb.take (j - va.length - 1) else va.take j))) ⟨_, _, _, _, rfl, s2, fun h => absurd h (Nat.not_lt_zero _), by rw [if_neg (Nat.not_lt_zero _)]; exact e2⟩ ?_ ?_ ?_
    · rintro j σ H' _ ⟨_, _, _, _, rfl, s, _⟩
      exact .inl (.inl (s _ _ eT))
    · rintro j x σ H' hx ⟨v5, _, _, _, rfl, s, h5, eL⟩
      have jl := (List.getElem?_eq_some_iff.mp hx).1
      rw [List.length_append, List.length_cons] at jl
      obtain ⟨ra0, R, rfl, nr0, eR, kR⟩ := (rw'.same s).at hx
      have tRR := iv.t R (List.mem_of_getElem? eR)
      have sRR := iv.sz R (List.mem_of_getElem? eR)
      repeat' (walk_at "rd")
      refine ⟨ra0, R, rfl, kR, by omega, T.l64 tRR (t_hs tRR sRR), fun L3 yl H3 nd3 mm3 so3 n3 s3 e3 => ?_⟩
      have s03 := s.trans s3
      have eL3 := s3 _ _ eL
      refine inStrB e3 ?_
      refine exbl ?_
      by_cases c : j = va.length
      · have eR0 : R = R0 := by
          rw [c, lva, List.getElem?_append_right (Nat.le_refl _), Nat.sub_self] at eR
          cases eR
          rfl
        subst eR0
        have ex : ra0 = a0 := by
          rw [c, List.getElem?_append_right (Nat.le_refl _), Nat.sub_self] at hx
          cases hx
          rfl
        subst ex
        rw [decide_eq_true ((mm3 l).mpr lR)]
        repeat' (walk_at "rd")
        refine ⟨_, _, _, _, rfl, s03, fun _ => rfl, ?_⟩
        rw [eL3, if_neg (by omega), if_pos (by omega), c, List.take_of_length_le (Nat.le_refl _), show va.length + 1 - va.length - 1 = 0 by omega, List.take_zero, List.append_nil]
      · have nR : ¬ Ln l R := by
          by_cases d : j < va.length
          · rw [List.getElem?_append_left (lva ▸ d)] at eR
            exact nA R (List.mem_of_getElem? eR)
          · obtain ⟨k, hk⟩ : ∃ k, j = va.length + 1 + k := ⟨j - va.length - 1, by omega⟩
            rw [hk, lva, List.getElem?_append_right (by omega), show RA.length + 1 + k - RA.length = k + 1 by omega, List.getElem?_cons_succ] at eR
            exact nB R (List.mem_of_getElem? eR)
        rw [decide_eq_false fun h => nR ((mm3 l).mp h)]
        repeat' (walk_at "rd")
        have lo : (if va.length < j then va ++ vb.take (j - va.length - 1) else va.take j).length ≤ 200 := by
          split
          · rw [List.length_append, List.length_take]
            omega
          · rw [List.length_take]
            omega
        refine Rd.append eL3 (sz5' (by omega)) ?_
        refine ⟨_, _, _, _, rfl, fun b o e => (upd_ne (ne_of_none e no)).trans (s03 _ _ e), fun h => h5 (by omega), ?_⟩
        rw [upd_same]
        by_cases d : j < va.length
        · rw [if_neg (by omega), if_neg (by omega), List.take_add_one]
          rw [List.getElem?_append_left d] at hx
          rw [hx]
          rfl
        · obtain ⟨k, hk⟩ : ∃ k, j = va.length + 1 + k := ⟨j - va.length - 1, by omega⟩
          subst hk
          rw [List.getElem?_append_right (by omega), show va.length + 1 + k - va.length = k + 1 by omega, List.getElem?_cons_succ] at hx
          rw [if_pos (by omega), if_pos (by omega), show va.length + 1 + k - va.length - 1 = k by omega, show va.length + 1 + k + 1 - va.length - 1 = k + 1 by omega, List.take_add_one, hx, List.append_assoc]
          rfl
    rintro σ H4 ⟨v5, v9, v10, v11, rfl, s4, h5, e4⟩
    rw [List.length_append, List.length_cons] at h5 e4
    rw [if_pos (by omega), List.take_of_length_le (by omega)] at e4
    obtain rfl := h5 (by omega)
    have o4 := o.same s4
    have k04 := k0.same s4
    repeat' (walk_at "rd")
    refine ⟨st, c, a0, R0, rfl, o4, na0, k04, tR, by omega, t_hs tR sR, T.l64 tR (t_hs tR sR), fun v d H5 dv fd sz hno g5 => ?_⟩
    have g15 : Go st c H1' H5 := ((Go.refl o).same s4).trans g5
    have k05 := kl_go k0 o g15 na0
    have nLo : Lo ≠ st := (o.off no).1
    have e5 := g5.keep _ _ nLo e4
    repeat' (walk_at "rd")
    refine Rd.cut (fun σ' H' => σ' = [some (.ref a), some (.ref st), some (.int m), some (.ref Lz), some (.ref LN), some (.ref a0), some (.ref Lt), some (.str l), some (.ref Lo), v9, some v, v11] ∧ Same H5 H') ?_ ?_
    · repeat' (walk_at "rd")
      · refine ⟨a0, v, d, R0, rfl, dv, sz, fd, k05, by omega, hno, fun H6 s6 => ?_⟩
        repeat' (walk_at "rd")
        exact ⟨rfl, s6⟩
      · exact ⟨rfl, .refl _⟩
    rintro σ' H6 ⟨rfl, s6⟩
    obtain ⟨lx, ly, ml⟩ := id lR
    have k06 := k05.same s6
    repeat' (walk_at "rd")
    refine ⟨a0, l, lx, ly, R0, rfl, nl, k06, tR, by omega, t_hs tR sR, ml, fun H7 s7 => ?_⟩
    obtain ⟨u, v', xs, ys', zs', eR0, nxx, nyy, nzz⟩ := Kj.T.split tR ml
    have k07 := k06.same s7
    repeat' (walk_at "rd")
    refine ⟨a0, l, R0, xs ++ zs', ys', 2, rfl, k07, by omega, by rw [eR0]; exact both_is nxx nyy nzz, fun t p r H8 nt np nr npr s8 et kp kr => ?_⟩
    have s58 := (s6.trans s7).trans s8
    have g18 := g15.same s58
    have o8 := g18.ok
    have nps : p ≠ st := ((g15.same (s6.trans s7)).ok.off np).1
    have nrs : r ≠ st := ((g15.same (s6.trans s7)).ok.off nr).1
    have lO : (xs ++ zs').length ≤ 70 ∧ ys'.length ≤ 70 := by
      rw [eR0] at sR
      simp only [List.length_append, List.length_cons] at sR ⊢
      omega
    have nO : ∀ k ∈ xs ++ zs', isL l k = false := fun k h => (List.mem_append.mp h).elim (nxx k) (nzz k)
    repeat' (walk_at "rd")
    refine ⟨p, .str l, .str l, xs ++ zs', rfl, .str l, nm_sz nl, .str l, kp, by omega, fun l' e k h => by cases e; exact nO k h, fun H9 s9 => ?_⟩
    have et9 := s9 _ _ et
    repeat' (walk_at "rd")
    refine ⟨r, .str l, .str l, ys', rfl, .str l, nm_sz nl, .str l, kr.same s9, by omega, fun l' e k h => by cases e; exact nyy k h, fun H10 s10 => ?_⟩
    have et10 := s10 _ _ et9
    have e510 := ((s58.trans s9).trans s10) _ _ e5
    repeat' (walk_at "rd")
    rename_i l11 n11 G11 s11 e11
    refine cat (s11 _ _ e510) e11 (sz5 (by simp only [List.length_append, List.length_cons, List.length_nil]; omega)) ?_
    repeat' (walk_at "rd")
    rename_i l12 n12 G12 s12 e12
    have g112 : Go st c H1' G12 := g18.same (((s9.trans s10).trans s11).trans s12)
    have s812 := ((s9.trans s10).trans s11).trans s12
    refine ⟨_, _, _, _, _, _, l12, _, RA ++ RB ++ [xs ++ zs', ys'], rfl, g112.ok, g112.keep _ _ nLq eq, g112.keep _ _ nn eN, ((g18.ok.same ((s9.trans s10).trans s11)).off n12).1, e12, ((ra.go o g112).app (rbb.go o g112)).app (show Rows st G12 [.ref p, .ref r] [xs ++ zs', ys'] from ⟨⟨p, rfl, nps, kp.same s812⟩, ⟨r, rfl, nrs, kr.same s812⟩, trivial⟩), ?_, ?_⟩
    · rw [et1]
      have := eR0 ▸ iv
      exact this.step (fun S h => nA S h) fun S h => nB S h
    · simp only [List.length_append, List.length_cons, List.length_nil] at lr ⊢
      omega
  rintro σ H' ⟨v5, v7, v8, v9, v10, v11, Lt, vs, rows, rfl, o, eq, eN, nLt, eT, rw', iv, lr⟩
  rw [List.length_map] at iv lr
  rw [List.take_length] at iv
  repeat' (walk_at "rd")
  refine forL vs (fun i σ H' => ∃ v9 : Option V, σ = [some (.ref a), some (.ref st), some (.int m), some (.ref Lz), some (.ref LN), v5, some (.ref Lt), v7, v8, v9, v10, v11] ∧ H' Lt = some (.lst vs) ∧ Rows st H' vs rows ∧ H' LN = some (.lst ((N ++ [last]).map V.str))) ⟨_, rfl, eT, rw', eN⟩ ?_ ?_ ?_
  · rintro i σ H' _ ⟨_, rfl, e, _⟩
    exact .inl (.inl e)
  · clear o eq eN eT rw'
    rintro i x σ H' hx ⟨_, rfl, eT, rw', eN⟩
    obtain ⟨r0, R, rfl, nr0, eR, kR⟩ := rw'.at hx
    have mR := List.mem_of_getElem? eR
    have tRR := iv.t R mR
    have sRR := iv.sz R mR
    obtain ⟨wv, ew, kw, lw⟩ := kl_len kR
    have one : N.length ≤ 8 → R.length = 1 := fun h8 => by
      have no : asOf R = [] := by
        cases e : asOf R with
        | nil => rfl
        | cons z zs =>
          obtain ⟨l, x, y⟩ := z
          have k : Ky.a l x y ∈ R := as_mem.mp (by rw [e]; exact List.mem_cons_self)
          obtain ⟨a1, b1⟩ := (iv.ln l).mp ⟨R, mR, x, y, k⟩
          exact absurd (qall h8 l a1) b1
      have c1 := tRR.cnt
      have c2 := hs_as_len R
      rw [no] at c1 c2
      simp only [List.length_nil] at c1 c2
      omega
    have nlast : ∀ k ∈ R, isL last k = false := no_isL fun ⟨x, y, k⟩ => lastN ((iv.ln last).mp ⟨R, mR, x, y, k⟩).1
    have elast : ((N ++ [last]).map V.str)[((m : Int) - 1).toNat]? = some (.str last) := by
      rw [show ((m : Int) - 1).toNat = N.length by omega, List.map_append, List.getElem?_append_right (by rw [List.length_map]; exact Nat.le_refl _), List.length_map, Nat.sub_self]
      rfl
    have fin : ∀ σ0 : L2.St, True := fun _ => trivial
    repeat' (walk_at "rd")
    · rename_i h10 hne
      exfalso
      have := one (by omega)
      exact hne (by omega)
    all_goals
      refine ixN' (.inl (.inl eN)) (by omega) elast ?_
      repeat' (walk_at "rd")
      refine ⟨r0, .str last, .str last, R, rfl, .str last, nm_sz mlast, .str last, kR, by omega, fun l' e k h => by cases e; exact nlast k h, fun H2 s2 => ?_⟩
      repeat' (walk_at "rd")
      exact ⟨_, rfl, s2 _ _ eT, rw'.same s2, s2 _ _ eN⟩
  · rintro σ H' ⟨_, rfl, _⟩
    repeat' (walk_at "rd")
    exact q H'
end
end Kj
namespace Kj
open PySem PySem.Spec PyProof.Rows L2 Rd
/-! ### the classes of errors -/
def dOf (names : List Str) (as : List Addr) (x : Str) : Addr := as.getD (names.idxOf x) 0
theorem dOf_mem : ∀ {names : List Str} {as : List Addr} {x : Str}, x ∈ names → names.length = as.length → (x, dOf names as x) ∈ names.zip as
  | [], _, _, h, _ => nomatch h
  | _ :: _, [], _, _, l => nomatch l
  | n :: ns, a :: as, x, h, l => by
    by_cases e : n = x
    · subst e
      have : dOf (n :: ns) (a :: as) n = a := by
        unfold dOf
        rw [List.idxOf_cons, beq_self_eq_true]
        rfl
      rw [this]
      exact List.mem_cons_self
    · have h' : x ∈ ns := (List.mem_cons.mp h).resolve_left fun z => e z.symm
      have : dOf (n :: ns) (a :: as) x = dOf ns as x := by
        unfold dOf
        rw [List.idxOf_cons, beq_eq_false_iff_ne.mpr e]
        rfl
      rw [this]
      exact List.mem_cons_of_mem _ (dOf_mem h' (Nat.succ.inj l))
theorem dOf_at {names : List Str} {as : List Addr} {x : Str} {a : Addr} (j : Nat) (h : names.idxOf x = j) (e : as[j]? = some a) : dOf names as x = a := by
  unfold dOf
  rw [h, List.getD_eq_getElem?_getD, e]
  rfl
theorem all_nil {α : Type} {Φ : α → Prop} : ∀ q ∈ ([] : List α), Φ q := fun _ h => nomatch h
theorem all_cons {α : Type} {Φ : α → Prop} {p : α} {l : List α} (h : Φ p) (t : ∀ q ∈ l, Φ q) : ∀ q ∈ p :: l, Φ q := fun q hq => (List.mem_cons.mp hq).elim (fun e => e ▸ h) (t q)
theorem isB {K : PySem.W.Frag} {C a : Addr} {x code : Str} {b : Bool} (h : PySem.W.kitOne K (.ref C) (.ref a) = some b) (e : decide (x = code) = b) : PySem.W.kitOne K (.ref C) (.ref a) = some (decide (x = code)) := by rw [e]; exact h
def clsInit (s : Stmt) : Stmt := match s with
  | .ClassDef _ _ _ body _ _ _ _ _ _ _ => body.getD 0 (.Pass ⟨0, 0, 0, 0⟩)
  | _ => .Pass ⟨0, 0, 0, 0⟩
section
variable {P : Program} {w : World} {K : PySem.W.Frag} {mg : Str → Option Value} {base : Heap}
theorem ost {K : PySem.W.Frag} {f : Str} {to te : TE} {D : Ends} {σ : L2.St} {H : Hp} (h : te σ H fun y H1 => to σ H1 fun x H2 => ∃ a C : Addr, x = .ref a ∧ OexC K C ∧ PySem.W.findIn K (.ref C) f = some none ∧
    ((H2 a = some (exo a C none) ∧ ∀ dx, H2 dx = none → dx ≠ a → D.nx σ (upd (upd H2 dx (exd dx [(f, y)])) a (exo a C (some dx)))) ∨
      ∃ (dx : Addr) (fs : List (Str × V)), H2 a = some (exo a C (some dx)) ∧ H2 dx = some (exd dx fs) ∧ fs.length ≤ 900 ∧ D.nx σ (upd H2 dx (exd dx ((f, y) :: fs))))) : tOst K f to te D σ H := h
/-- what the written part says of the class at C -/
structure ClsK (K : PySem.W.Frag) (C : Addr) (f : Str) : Prop where
  ox : OexC K C
  xf : XfC K C
  xk : Ho.XkC K C
  no1 : PySem.W.findIn K (.ref C) "code" = some none
  no2 : PySem.W.findIn K (.ref C) f = some none
theorem clsK {C : Addr} {f : Str} {nm q : Str} {N B : Addr} {bs : List Value} {sn : List Str} {sub : List Value} {ab : Bool} {col : Option Bool} {dd : Option Addr} {m0 m1 m2 m3 m5 : Option Value}
    (xL : K.lookup C = some (excClassObj nm q C N bs [.ref B, .type "ValueError", .type "Exception", .type "BaseException", .type "object"] true sn sub ab col dd m0 m1 m2 m3 m5 "ValueError.__new__"))
    (sa : PySem.W.findIn K (.ref C) "__setattr__" = some (some (.builtin "object.__setattr__"))) (ga : PySem.W.findIn K (.ref C) "__getattribute__" = some (some (.builtin "BaseException.__getattribute__"))) (gg : PySem.W.findIn K (.ref C) "__getattr__" = some none)
    (n1 : PySem.W.findIn K (.ref C) "code" = some none) (n2 : PySem.W.findIn K (.ref C) f = some none) (kC : PySem.W.keepIn K (.ref C) = true) (eC : PySem.W.subIn K (.ref C) (.type "BaseException") = some true) (tC : PySem.W.typeIn K (.ref C) = some (.type "type")) (hC : PySem.W.hasDictIn K C = true)
    (cl : PySem.W.isClsIn K C = true) (ca : PySem.W.findIn K (.ref C) "__class__" = some (some (.builtin "object.__class__"))) (ob : PySem.W.mroIn K C (.type "object") = some true) : ClsK K C f :=
  ⟨⟨⟨nm, q, N, bs, _, sn, sub, ab, col, dd, m0, m1, m2, m3, m5, xL, rfl⟩, sa, eC, tC, kC⟩, ⟨ga, gg, eC, hC⟩, ⟨cl, ca, ob⟩, n1, n2⟩
abbrev i_BadName : Stmt := clsInit (topS 2)
theorem sci_BadName : FnScope ["self", "word"] ["self", "word"] (defScope i_BadName) := ⟨rfl, rfl, rfl, by decide +kernel, rfl, by decide +kernel, by decide +kernel⟩
theorem bdi_BadName : ∀ (kV doc pm : Value) (an : Option Addr) (cdv ct : Value) (us : List Value), us.length = (["self", "word"] : List Str).length → bindArgs (PySem.W.fnOf "__init__" "BadName.__init__" (defArgs i_BadName) (defBody i_BadName) (defScope i_BadName) .none kV doc pm an cdv ct) ⟨us, []⟩ = pure ((["self", "word"] : List Str).zip us) := fun _ _ _ _ _ _ us hl => match us, hl with | [_, _], _ => rfl
theorem ok_init_BadName {C fI : Addr} {fd : FuncData} (F : Fun K "__init__" "BadName.__init__" i_BadName fI fd) : FnOk P w K mg base CX0 1 fI fd ["self", "word"] (Ho.spInit K C "BadName" "word") := by
  refine F.ok sci_BadName (fun vs H Q E h => ?_) (fun cdv A outer s H vs Q E hr h => ?_)
  · obtain ⟨a, y, rfl, _⟩ := h
    rfl
  obtain ⟨a, y, rfl, hH, ox, n1, n2, q⟩ := h
  refine ⟨_, pss_cons (ps_ost (pv 0) pe_str) (pss_one (ps_ost (pv 0) (pv 1))), ?_⟩
  refine Rd.at0 (σ := [some (.ref a), some y]) rfl ?_
  refine Rd.seq (ost ?_)
  refine ⟨_, rfl, a, C, rfl, ox, n1, .inl ⟨hH, fun dx nd ne => ?_⟩⟩
  dsimp only
  refine ost ?_
  refine ⟨_, rfl, _, rfl, a, C, rfl, ox, n2, .inr ⟨dx, _, upd_same, (upd_ne ne).trans upd_same, by decide, q dx nd ne⟩⟩
theorem err_BadName {C fI : Addr} {oc : Value} {od an : Option Addr} {osl : Array (Option Value)} {kV doc pm cdv ct : Value} (gC : mg "BadName" = some (.ref C)) (k : ClsK K C "word") (iC : PySem.W.findIn K (.ref C) "__init__" = some (some (.ref fI))) (tI : PySem.W.typeIn K (.ref fI) = some (.type "function"))
    (l : K.lookup fI = some ⟨oc, od, .func (PySem.W.fnOf "__init__" "BadName.__init__" (defArgs i_BadName) (defBody i_BadName) (defScope i_BadName) .none kV doc pm an cdv ct), osl⟩) (c : PySem.W.codeIn K cdv "BadName.__init__" = true) (kI : PySem.W.keepIn K (.ref fI) = true) : ∀ base : Heap, Ho.ErrC P w K mg base "BadName" C "word" := fun base =>
  ⟨gC, k.ox, k.xf, k.no1, k.no2, fI, _, iC, tI, ok_init_BadName (fun_mk l c kI), (fun_mk l c kI).binds bdi_BadName⟩
abbrev i_NoLine : Stmt := clsInit (topS 4)
theorem sci_NoLine : FnScope ["self", "word"] ["self", "word"] (defScope i_NoLine) := ⟨rfl, rfl, rfl, by decide +kernel, rfl, by decide +kernel, by decide +kernel⟩
theorem bdi_NoLine : ∀ (kV doc pm : Value) (an : Option Addr) (cdv ct : Value) (us : List Value), us.length = (["self", "word"] : List Str).length → bindArgs (PySem.W.fnOf "__init__" "NoLine.__init__" (defArgs i_NoLine) (defBody i_NoLine) (defScope i_NoLine) .none kV doc pm an cdv ct) ⟨us, []⟩ = pure ((["self", "word"] : List Str).zip us) := fun _ _ _ _ _ _ us hl => match us, hl with | [_, _], _ => rfl
theorem ok_init_NoLine {C fI : Addr} {fd : FuncData} (F : Fun K "__init__" "NoLine.__init__" i_NoLine fI fd) : FnOk P w K mg base CX0 1 fI fd ["self", "word"] (Ho.spInit K C "NoLine" "word") := by
  refine F.ok sci_NoLine (fun vs H Q E h => ?_) (fun cdv A outer s H vs Q E hr h => ?_)
  · obtain ⟨a, y, rfl, _⟩ := h
    rfl
  obtain ⟨a, y, rfl, hH, ox, n1, n2, q⟩ := h
  refine ⟨_, pss_cons (ps_ost (pv 0) pe_str) (pss_one (ps_ost (pv 0) (pv 1))), ?_⟩
  refine Rd.at0 (σ := [some (.ref a), some y]) rfl ?_
  refine Rd.seq (ost ?_)
  refine ⟨_, rfl, a, C, rfl, ox, n1, .inl ⟨hH, fun dx nd ne => ?_⟩⟩
  dsimp only
  refine ost ?_
  refine ⟨_, rfl, _, rfl, a, C, rfl, ox, n2, .inr ⟨dx, _, upd_same, (upd_ne ne).trans upd_same, by decide, q dx nd ne⟩⟩
theorem err_NoLine {C fI : Addr} {oc : Value} {od an : Option Addr} {osl : Array (Option Value)} {kV doc pm cdv ct : Value} (gC : mg "NoLine" = some (.ref C)) (k : ClsK K C "word") (iC : PySem.W.findIn K (.ref C) "__init__" = some (some (.ref fI))) (tI : PySem.W.typeIn K (.ref fI) = some (.type "function"))
    (l : K.lookup fI = some ⟨oc, od, .func (PySem.W.fnOf "__init__" "NoLine.__init__" (defArgs i_NoLine) (defBody i_NoLine) (defScope i_NoLine) .none kV doc pm an cdv ct), osl⟩) (c : PySem.W.codeIn K cdv "NoLine.__init__" = true) (kI : PySem.W.keepIn K (.ref fI) = true) : ∀ base : Heap, Ho.ErrC P w K mg base "NoLine" C "word" := fun base =>
  ⟨gC, k.ox, k.xf, k.no1, k.no2, fI, _, iC, tI, ok_init_NoLine (fun_mk l c kI), (fun_mk l c kI).binds bdi_NoLine⟩
end
/-! ### the top -/
theorem bd_is_name : ∀ (kV doc pm : Value) (an : Option Addr) (cdv ct : Value) (us : List Value), us.length = P_is_name.length → bindArgs (PySem.W.fnOf "is_name" "is_name" (defArgs s_is_name) (defBody s_is_name) (defScope s_is_name) .none kV doc pm an cdv ct) ⟨us, []⟩ = pure (P_is_name.zip us) := fun _ _ _ _ _ _ us hl => match us, hl with | [_], _ => rfl
theorem bd_check_name : ∀ (kV doc pm : Value) (an : Option Addr) (cdv ct : Value) (us : List Value), us.length = P_check_name.length → bindArgs (PySem.W.fnOf "check_name" "check_name" (defArgs s_check_name) (defBody s_check_name) (defScope s_check_name) .none kV doc pm an cdv ct) ⟨us, []⟩ = pure (P_check_name.zip us) := fun _ _ _ _ _ _ us hl => match us, hl with | [_], _ => rfl
theorem bd_starts_at : ∀ (kV doc pm : Value) (an : Option Addr) (cdv ct : Value) (us : List Value), us.length = P_starts_at.length → bindArgs (PySem.W.fnOf "starts_at" "starts_at" (defArgs s_starts_at) (defBody s_starts_at) (defScope s_starts_at) .none kV doc pm an cdv ct) ⟨us, []⟩ = pure (P_starts_at.zip us) := fun _ _ _ _ _ _ us hl => match us, hl with | [_], _ => rfl
theorem bd_stops_at : ∀ (kV doc pm : Value) (an : Option Addr) (cdv ct : Value) (us : List Value), us.length = P_stops_at.length → bindArgs (PySem.W.fnOf "stops_at" "stops_at" (defArgs s_stops_at) (defBody s_stops_at) (defScope s_stops_at) .none kV doc pm an cdv ct) ⟨us, []⟩ = pure (P_stops_at.zip us) := fun _ _ _ _ _ _ us hl => match us, hl with | [_], _ => rfl
theorem bd_is_tour : ∀ (kV doc pm : Value) (an : Option Addr) (cdv ct : Value) (us : List Value), us.length = P_is_tour.length → bindArgs (PySem.W.fnOf "is_tour" "is_tour" (defArgs s_is_tour) (defBody s_is_tour) (defScope s_is_tour) .none kV doc pm an cdv ct) ⟨us, []⟩ = pure (P_is_tour.zip us) := fun _ _ _ _ _ _ us hl => match us, hl with | [_], _ => rfl
theorem bd_is_house_key : ∀ (kV doc pm : Value) (an : Option Addr) (cdv ct : Value) (us : List Value), us.length = P_is_house_key.length → bindArgs (PySem.W.fnOf "is_house_key" "is_house_key" (defArgs s_is_house_key) (defBody s_is_house_key) (defScope s_is_house_key) .none kV doc pm an cdv ct) ⟨us, []⟩ = pure (P_is_house_key.zip us) := fun _ _ _ _ _ _ us hl => match us, hl with | [_], _ => rfl
theorem bd_is_arc_key : ∀ (kV doc pm : Value) (an : Option Addr) (cdv ct : Value) (us : List Value), us.length = P_is_arc_key.length → bindArgs (PySem.W.fnOf "is_arc_key" "is_arc_key" (defArgs s_is_arc_key) (defBody s_is_arc_key) (defScope s_is_arc_key) .none kV doc pm an cdv ct) ⟨us, []⟩ = pure (P_is_arc_key.zip us) := fun _ _ _ _ _ _ us hl => match us, hl with | [_], _ => rfl
theorem bd_is_paired : ∀ (kV doc pm : Value) (an : Option Addr) (cdv ct : Value) (us : List Value), us.length = P_is_paired.length → bindArgs (PySem.W.fnOf "is_paired" "is_paired" (defArgs s_is_paired) (defBody s_is_paired) (defScope s_is_paired) .none kV doc pm an cdv ct) ⟨us, []⟩ = pure (P_is_paired.zip us) := fun _ _ _ _ _ _ us hl => match us, hl with | [_], _ => rfl
theorem bd_is_round : ∀ (kV doc pm : Value) (an : Option Addr) (cdv ct : Value) (us : List Value), us.length = P_is_round.length → bindArgs (PySem.W.fnOf "is_round" "is_round" (defArgs s_is_round) (defBody s_is_round) (defScope s_is_round) .none kV doc pm an cdv ct) ⟨us, []⟩ = pure (P_is_round.zip us) := fun _ _ _ _ _ _ us hl => match us, hl with | [_], _ => rfl
theorem bd_parted : ∀ (kV doc pm : Value) (an : Option Addr) (cdv ct : Value) (us : List Value), us.length = P_parted.length → bindArgs (PySem.W.fnOf "parted" "parted" (defArgs s_parted) (defBody s_parted) (defScope s_parted) .none kV doc pm an cdv ct) ⟨us, []⟩ = pure (P_parted.zip us) := fun _ _ _ _ _ _ us hl => match us, hl with | [_, _], _ => rfl
theorem bd_tour_houses : ∀ (kV doc pm : Value) (an : Option Addr) (cdv ct : Value) (us : List Value), us.length = P_tour_houses.length → bindArgs (PySem.W.fnOf "tour_houses" "tour_houses" (defArgs s_tour_houses) (defBody s_tour_houses) (defScope s_tour_houses) .none kV doc pm an cdv ct) ⟨us, []⟩ = pure (P_tour_houses.zip us) := fun _ _ _ _ _ _ us hl => match us, hl with | [_], _ => rfl
theorem bd_tour_lines : ∀ (kV doc pm : Value) (an : Option Addr) (cdv ct : Value) (us : List Value), us.length = P_tour_lines.length → bindArgs (PySem.W.fnOf "tour_lines" "tour_lines" (defArgs s_tour_lines) (defBody s_tour_lines) (defScope s_tour_lines) .none kV doc pm an cdv ct) ⟨us, []⟩ = pure (P_tour_lines.zip us) := fun _ _ _ _ _ _ us hl => match us, hl with | [_], _ => rfl
theorem bd__law_store : ∀ (kV doc pm : Value) (an : Option Addr) (cdv ct : Value) (us : List Value), us.length = P__law_store.length → bindArgs (PySem.W.fnOf "_law_store" "_law_store" (defArgs s__law_store) (defBody s__law_store) (defScope s__law_store) .none kV doc pm an cdv ct) ⟨us, []⟩ = pure (P__law_store.zip us) := fun _ _ _ _ _ _ us hl => match us, hl with | [_], _ => rfl
theorem bd__law_take : ∀ (kV doc pm : Value) (an : Option Addr) (cdv ct : Value) (us : List Value), us.length = P__law_take.length → bindArgs (PySem.W.fnOf "_law_take" "_law_take" (defArgs s__law_take) (defBody s__law_take) (defScope s__law_take) .none kV doc pm an cdv ct) ⟨us, []⟩ = pure (P__law_take.zip us) := fun _ _ _ _ _ _ us hl => match us, hl with | [_, _], _ => rfl
theorem bd__law_between : ∀ (kV doc pm : Value) (an : Option Addr) (cdv ct : Value) (us : List Value), us.length = P__law_between.length → bindArgs (PySem.W.fnOf "_law_between" "_law_between" (defArgs s__law_between) (defBody s__law_between) (defScope s__law_between) .none kV doc pm an cdv ct) ⟨us, []⟩ = pure (P__law_between.zip us) := fun _ _ _ _ _ _ us hl => match us, hl with | [_, _, _], _ => rfl
theorem bd__law_pick : ∀ (kV doc pm : Value) (an : Option Addr) (cdv ct : Value) (us : List Value), us.length = P__law_pick.length → bindArgs (PySem.W.fnOf "_law_pick" "_law_pick" (defArgs s__law_pick) (defBody s__law_pick) (defScope s__law_pick) .none kV doc pm an cdv ct) ⟨us, []⟩ = pure (P__law_pick.zip us) := fun _ _ _ _ _ _ us hl => match us, hl with | [_, _], _ => rfl
theorem bd__law_shuffled : ∀ (kV doc pm : Value) (an : Option Addr) (cdv ct : Value) (us : List Value), us.length = P__law_shuffled.length → bindArgs (PySem.W.fnOf "_law_shuffled" "_law_shuffled" (defArgs s__law_shuffled) (defBody s__law_shuffled) (defScope s__law_shuffled) .none kV doc pm an cdv ct) ⟨us, []⟩ = pure (P__law_shuffled.zip us) := fun _ _ _ _ _ _ us hl => match us, hl with | [_, _], _ => rfl
theorem bd__law_is_integer : ∀ (kV doc pm : Value) (an : Option Addr) (cdv ct : Value) (us : List Value), us.length = P__law_is_integer.length → bindArgs (PySem.W.fnOf "_law_is_integer" "_law_is_integer" (defArgs s__law_is_integer) (defBody s__law_is_integer) (defScope s__law_is_integer) .none kV doc pm an cdv ct) ⟨us, []⟩ = pure (P__law_is_integer.zip us) := fun _ _ _ _ _ _ us hl => match us, hl with | [_], _ => rfl
theorem bd__law_same : ∀ (kV doc pm : Value) (an : Option Addr) (cdv ct : Value) (us : List Value), us.length = P__law_same.length → bindArgs (PySem.W.fnOf "_law_same" "_law_same" (defArgs s__law_same) (defBody s__law_same) (defScope s__law_same) .none kV doc pm an cdv ct) ⟨us, []⟩ = pure (P__law_same.zip us) := fun _ _ _ _ _ _ us hl => match us, hl with | [_, _], _ => rfl
theorem bd__law_is_name : ∀ (kV doc pm : Value) (an : Option Addr) (cdv ct : Value) (us : List Value), us.length = P__law_is_name.length → bindArgs (PySem.W.fnOf "_law_is_name" "_law_is_name" (defArgs s__law_is_name) (defBody s__law_is_name) (defScope s__law_is_name) .none kV doc pm an cdv ct) ⟨us, []⟩ = pure (P__law_is_name.zip us) := fun _ _ _ _ _ _ us hl => match us, hl with | [_], _ => rfl
theorem bd__law_name : ∀ (kV doc pm : Value) (an : Option Addr) (cdv ct : Value) (us : List Value), us.length = P__law_name.length → bindArgs (PySem.W.fnOf "_law_name" "_law_name" (defArgs s__law_name) (defBody s__law_name) (defScope s__law_name) .none kV doc pm an cdv ct) ⟨us, []⟩ = pure (P__law_name.zip us) := fun _ _ _ _ _ _ us hl => match us, hl with | [_], _ => rfl
theorem bd__law_names : ∀ (kV doc pm : Value) (an : Option Addr) (cdv ct : Value) (us : List Value), us.length = P__law_names.length → bindArgs (PySem.W.fnOf "_law_names" "_law_names" (defArgs s__law_names) (defBody s__law_names) (defScope s__law_names) .none kV doc pm an cdv ct) ⟨us, []⟩ = pure (P__law_names.zip us) := fun _ _ _ _ _ _ us hl => match us, hl with | [_, _], _ => rfl
theorem bd__law_bad_word : ∀ (kV doc pm : Value) (an : Option Addr) (cdv ct : Value) (us : List Value), us.length = P__law_bad_word.length → bindArgs (PySem.W.fnOf "_law_bad_word" "_law_bad_word" (defArgs s__law_bad_word) (defBody s__law_bad_word) (defScope s__law_bad_word) .none kV doc pm an cdv ct) ⟨us, []⟩ = pure (P__law_bad_word.zip us) := fun _ _ _ _ _ _ us hl => match us, hl with | [_], _ => rfl
theorem bd__law_not_name : ∀ (kV doc pm : Value) (an : Option Addr) (cdv ct : Value) (us : List Value), us.length = P__law_not_name.length → bindArgs (PySem.W.fnOf "_law_not_name" "_law_not_name" (defArgs s__law_not_name) (defBody s__law_not_name) (defScope s__law_not_name) .none kV doc pm an cdv ct) ⟨us, []⟩ = pure (P__law_not_name.zip us) := fun _ _ _ _ _ _ us hl => match us, hl with | [_], _ => rfl
theorem bd__law_line_names : ∀ (kV doc pm : Value) (an : Option Addr) (cdv ct : Value) (us : List Value), us.length = P__law_line_names.length → bindArgs (PySem.W.fnOf "_law_line_names" "_law_line_names" (defArgs s__law_line_names) (defBody s__law_line_names) (defScope s__law_line_names) .none kV doc pm an cdv ct) ⟨us, []⟩ = pure (P__law_line_names.zip us) := fun _ _ _ _ _ _ us hl => match us, hl with | [_, _, _], _ => rfl
theorem bd__law_turned : ∀ (kV doc pm : Value) (an : Option Addr) (cdv ct : Value) (us : List Value), us.length = P__law_turned.length → bindArgs (PySem.W.fnOf "_law_turned" "_law_turned" (defArgs s__law_turned) (defBody s__law_turned) (defScope s__law_turned) .none kV doc pm an cdv ct) ⟨us, []⟩ = pure (P__law_turned.zip us) := fun _ _ _ _ _ _ us hl => match us, hl with | [_, _], _ => rfl
theorem bd__law_linked : ∀ (kV doc pm : Value) (an : Option Addr) (cdv ct : Value) (us : List Value), us.length = P__law_linked.length → bindArgs (PySem.W.fnOf "_law_linked" "_law_linked" (defArgs s__law_linked) (defBody s__law_linked) (defScope s__law_linked) .none kV doc pm an cdv ct) ⟨us, []⟩ = pure (P__law_linked.zip us) := fun _ _ _ _ _ _ us hl => match us, hl with | [_, _, _, _, _], _ => rfl
theorem bd__law_tour : ∀ (kV doc pm : Value) (an : Option Addr) (cdv ct : Value) (us : List Value), us.length = P__law_tour.length → bindArgs (PySem.W.fnOf "_law_tour" "_law_tour" (defArgs s__law_tour) (defBody s__law_tour) (defScope s__law_tour) .none kV doc pm an cdv ct) ⟨us, []⟩ = pure (P__law_tour.zip us) := fun _ _ _ _ _ _ us hl => match us, hl with | [_, _, _], _ => rfl
theorem bd__law_tour_houses : ∀ (kV doc pm : Value) (an : Option Addr) (cdv ct : Value) (us : List Value), us.length = P__law_tour_houses.length → bindArgs (PySem.W.fnOf "_law_tour_houses" "_law_tour_houses" (defArgs s__law_tour_houses) (defBody s__law_tour_houses) (defScope s__law_tour_houses) .none kV doc pm an cdv ct) ⟨us, []⟩ = pure (P__law_tour_houses.zip us) := fun _ _ _ _ _ _ us hl => match us, hl with | [_], _ => rfl
theorem bd__law_tour_lines : ∀ (kV doc pm : Value) (an : Option Addr) (cdv ct : Value) (us : List Value), us.length = P__law_tour_lines.length → bindArgs (PySem.W.fnOf "_law_tour_lines" "_law_tour_lines" (defArgs s__law_tour_lines) (defBody s__law_tour_lines) (defScope s__law_tour_lines) .none kV doc pm an cdv ct) ⟨us, []⟩ = pure (P__law_tour_lines.zip us) := fun _ _ _ _ _ _ us hl => match us, hl with | [_], _ => rfl
theorem bd__law_is_tour : ∀ (kV doc pm : Value) (an : Option Addr) (cdv ct : Value) (us : List Value), us.length = P__law_is_tour.length → bindArgs (PySem.W.fnOf "_law_is_tour" "_law_is_tour" (defArgs s__law_is_tour) (defBody s__law_is_tour) (defScope s__law_is_tour) .none kV doc pm an cdv ct) ⟨us, []⟩ = pure (P__law_is_tour.zip us) := fun _ _ _ _ _ _ us hl => match us, hl with | [_], _ => rfl
theorem bd__law_refused_as : ∀ (kV doc pm : Value) (an : Option Addr) (cdv ct : Value) (us : List Value), us.length = P__law_refused_as.length → bindArgs (PySem.W.fnOf "_law_refused_as" "_law_refused_as" (defArgs s__law_refused_as) (defBody s__law_refused_as) (defScope s__law_refused_as) .none kV doc pm an cdv ct) ⟨us, []⟩ = pure (P__law_refused_as.zip us) := fun _ _ _ _ _ _ us hl => match us, hl with | [_, _], _ => rfl
theorem bd__law_both : ∀ (kV doc pm : Value) (an : Option Addr) (cdv ct : Value) (us : List Value), us.length = P__law_both.length → bindArgs (PySem.W.fnOf "_law_both" "_law_both" (defArgs s__law_both) (defBody s__law_both) (defScope s__law_both) .none kV doc pm an cdv ct) ⟨us, []⟩ = pure (P__law_both.zip us) := fun _ _ _ _ _ _ us hl => match us, hl with | [_, _], _ => rfl
theorem bd__law_part_told : ∀ (kV doc pm : Value) (an : Option Addr) (cdv ct : Value) (us : List Value), us.length = P__law_part_told.length → bindArgs (PySem.W.fnOf "_law_part_told" "_law_part_told" (defArgs s__law_part_told) (defBody s__law_part_told) (defScope s__law_part_told) .none kV doc pm an cdv ct) ⟨us, []⟩ = pure (P__law_part_told.zip us) := fun _ _ _ _ _ _ us hl => match us, hl with | [_, _], _ => rfl
theorem bd__law_wrong_line : ∀ (kV doc pm : Value) (an : Option Addr) (cdv ct : Value) (us : List Value), us.length = P__law_wrong_line.length → bindArgs (PySem.W.fnOf "_law_wrong_line" "_law_wrong_line" (defArgs s__law_wrong_line) (defBody s__law_wrong_line) (defScope s__law_wrong_line) .none kV doc pm an cdv ct) ⟨us, []⟩ = pure (P__law_wrong_line.zip us) := fun _ _ _ _ _ _ us hl => match us, hl with | [_, _], _ => rfl
theorem bd__law_refused : ∀ (kV doc pm : Value) (an : Option Addr) (cdv ct : Value) (us : List Value), us.length = P__law_refused.length → bindArgs (PySem.W.fnOf "_law_refused" "_law_refused" (defArgs s__law_refused) (defBody s__law_refused) (defScope s__law_refused) .none kV doc pm an cdv ct) ⟨us, []⟩ = pure (P__law_refused.zip us) := fun _ _ _ _ _ _ us hl => match us, hl with | [_, _], _ => rfl
theorem bd__law_walked : ∀ (kV doc pm : Value) (an : Option Addr) (cdv ct : Value) (us : List Value), us.length = P__law_walked.length → bindArgs (PySem.W.fnOf "_law_walked" "_law_walked" (defArgs s__law_walked) (defBody s__law_walked) (defScope s__law_walked) .none kV doc pm an cdv ct) ⟨us, []⟩ = pure (P__law_walked.zip us) := fun _ _ _ _ _ _ us hl => match us, hl with | [_, _, _], _ => rfl
theorem bd__law_parts_in_two : ∀ (kV doc pm : Value) (an : Option Addr) (cdv ct : Value) (us : List Value), us.length = P__law_parts_in_two.length → bindArgs (PySem.W.fnOf "_law_parts_in_two" "_law_parts_in_two" (defArgs s__law_parts_in_two) (defBody s__law_parts_in_two) (defScope s__law_parts_in_two) .none kV doc pm an cdv ct) ⟨us, []⟩ = pure (P__law_parts_in_two.zip us) := fun _ _ _ _ _ _ us hl => match us, hl with | [_, _], _ => rfl
theorem bd_law : ∀ (kV doc pm : Value) (an : Option Addr) (cdv ct : Value) (us : List Value), us.length = P_law.length → bindArgs (PySem.W.fnOf "law" "law" (defArgs s_law) (defBody s_law) (defScope s_law) .none kV doc pm an cdv ct) ⟨us, []⟩ = pure (P_law.zip us) := fun _ _ _ _ _ _ us hl => match us, hl with | [_], _ => rfl
theorem cx_no {P : Program} {w : World} {H : Hp} {s : Shared} {e : Value} {s' : Shared} (h : L2N.CX P w [] H s (fun _ _ _ => False) e s') : False := by
  obtain ⟨_, _, _, _, _, _, _, _, _, _, _, _, h⟩ := h
  exact h
theorem all_mk {l : PySem.W.OpenLaw} {w : World} {K : PySem.W.Frag} {h : Heap} {mg : Str → Option Value} {fa f0 : Addr} (X : K.In h) (G : h.Ns mainGlobals mg) (hfa : mg "law" = some (.ref fa))
    (D_is_name : Def K mg "is_name" s_is_name P_is_name) (D_check_name : Def K mg "check_name" s_check_name P_check_name) (D_starts_at : Def K mg "starts_at" s_starts_at P_starts_at) (D_stops_at : Def K mg "stops_at" s_stops_at P_stops_at) (D_is_tour : Def K mg "is_tour" s_is_tour P_is_tour) (D_is_house_key : Def K mg "is_house_key" s_is_house_key P_is_house_key) (D_is_arc_key : Def K mg "is_arc_key" s_is_arc_key P_is_arc_key) (D_is_paired : Def K mg "is_paired" s_is_paired P_is_paired) (D_is_round : Def K mg "is_round" s_is_round P_is_round) (D_parted : Def K mg "parted" s_parted P_parted) (D_tour_houses : Def K mg "tour_houses" s_tour_houses P_tour_houses) (D_tour_lines : Def K mg "tour_lines" s_tour_lines P_tour_lines) (D__law_store : Def K mg "_law_store" s__law_store P__law_store) (D__law_take : Def K mg "_law_take" s__law_take P__law_take) (D__law_between : Def K mg "_law_between" s__law_between P__law_between) (D__law_pick : Def K mg "_law_pick" s__law_pick P__law_pick) (D__law_shuffled : Def K mg "_law_shuffled" s__law_shuffled P__law_shuffled) (D__law_is_integer : Def K mg "_law_is_integer" s__law_is_integer P__law_is_integer) (D__law_same : Def K mg "_law_same" s__law_same P__law_same) (D__law_is_name : Def K mg "_law_is_name" s__law_is_name P__law_is_name) (D__law_name : Def K mg "_law_name" s__law_name P__law_name) (D__law_names : Def K mg "_law_names" s__law_names P__law_names) (D__law_bad_word : Def K mg "_law_bad_word" s__law_bad_word P__law_bad_word) (D__law_not_name : Def K mg "_law_not_name" s__law_not_name P__law_not_name) (D__law_line_names : Def K mg "_law_line_names" s__law_line_names P__law_line_names) (D__law_turned : Def K mg "_law_turned" s__law_turned P__law_turned) (D__law_linked : Def K mg "_law_linked" s__law_linked P__law_linked) (D__law_tour : Def K mg "_law_tour" s__law_tour P__law_tour) (D__law_tour_houses : Def K mg "_law_tour_houses" s__law_tour_houses P__law_tour_houses) (D__law_tour_lines : Def K mg "_law_tour_lines" s__law_tour_lines P__law_tour_lines) (D__law_is_tour : Def K mg "_law_is_tour" s__law_is_tour P__law_is_tour) (D__law_refused_as : Def K mg "_law_refused_as" s__law_refused_as P__law_refused_as) (D__law_both : Def K mg "_law_both" s__law_both P__law_both) (D__law_part_told : Def K mg "_law_part_told" s__law_part_told P__law_part_told) (D__law_wrong_line : Def K mg "_law_wrong_line" s__law_wrong_line P__law_wrong_line) (D__law_refused : Def K mg "_law_refused" s__law_refused P__law_refused) (D__law_walked : Def K mg "_law_walked" s__law_walked P__law_walked) (D__law_parts_in_two : Def K mg "_law_parts_in_two" s__law_parts_in_two P__law_parts_in_two)
    {od an : Option Addr} {sl : Array (Option Value)} {oc kV dc pm cd ct : Value} (aL : PySem.W.nsIn K mainGlobals "law" = some (some (.ref f0)))
    (lL : K.lookup f0 = some ⟨oc, od, .func (PySem.W.fnOf "law" "law" (defArgs s_law) (defBody s_law) (defScope s_law) .none kV dc pm an cd ct), sl⟩) (cL : PySem.W.codeIn K cd "law" = true) (kL : PySem.W.keepIn K (.ref f0) = true)
    (m_isinstance : mg "isinstance" = none) (m_str : mg "str" = none) (m_len : mg "len" = none) (m_all : mg "all" = none) (m_enumerate : mg "enumerate" = none) (m_list : mg "list" = none) (m_sorted : mg "sorted" = none) (m_int : mg "int" = none) (m_reversed : mg "reversed" = none) (m_range : mg "range" = none) (m_bool : mg "bool" = none) (m_dict : mg "dict" = none) (m_tuple : mg "tuple" = none) (m_ValueError : mg "ValueError" = none) (m_max : mg "max" = none) (c_LONGEST_NAME : ∃ t, mg "LONGEST_NAME" = some (.int 12 t)) {k0 k1 k2 k3 k4 k5 k6 k7 k8 k9 : Addr} (z : ∀ q ∈ Classes.zip [k0, k1, k2, k3, k4, k5, k6, k7, k8, k9], mg q.1 = some (.ref q.2)) (xo : Ho.XkO K)
    (e_BadName : ∀ base, Ho.ErrC l.prog w K mg base "BadName" k1 "word") (t_BadName : ClsK K k1 "word") (i_BadName : ∀ q ∈ Classes.zip [k0, k1, k2, k3, k4, k5, k6, k7, k8, k9], q.1 = "KeptError" ∨ PySem.W.kitOne K (.ref k1) (.ref q.2) = some (decide (q.1 = "BadName"))) (v_BadName : PySem.W.kitOne K (.ref k1) (.type "ValueError") = some true) (xm_BadName : PySem.W.exmOne K (.ref k1) (.ref k0) = some true) (xs_BadName : PySem.W.exmOne K (.ref k1) (.ref k1) = some true)
    (e_NoLine : ∀ base, Ho.ErrC l.prog w K mg base "NoLine" k3 "word") (t_NoLine : ClsK K k3 "word") (i_NoLine : ∀ q ∈ Classes.zip [k0, k1, k2, k3, k4, k5, k6, k7, k8, k9], q.1 = "KeptError" ∨ PySem.W.kitOne K (.ref k3) (.ref q.2) = some (decide (q.1 = "NoLine"))) (v_NoLine : PySem.W.kitOne K (.ref k3) (.type "ValueError") = some true) (xm_NoLine : PySem.W.exmOne K (.ref k3) (.ref k0) = some true) (xs_NoLine : PySem.W.exmOne K (.ref k3) (.ref k3) = some true) :
    ∃ fd : FuncData, (∀ (s : Shared) (v : Value), BindsTo s fd ⟨[v], []⟩ [("script", v)]) ∧ ∀ base : Heap, K.In base → base.Ns mainGlobals mg → FnOk l.prog w K mg base (L2N.CX l.prog w) 14 fa fd ["script"] (spLaw K) := by
  have e := hfa.symm.trans (PySem.W.mg_of X G aL)
  cases e
  have FL := fun_mk (st := s_law) lL cL kL
  refine ⟨PySem.W.fnOf "law" "law" (defArgs s_law) (defBody s_law) (defScope s_law) .none kV dc pm an cd ct, fun s v => .of_eq rfl, fun base _ _ => ?_⟩
  obtain ⟨D, hD⟩ : ∃ D, D = dOf Classes [k0, k1, k2, k3, k4, k5, k6, k7, k8, k9] := ⟨_, rfl⟩
  have c_cls : ∀ x ∈ Classes, mg x = some (.ref (D x)) := fun x hx => by rw [hD]; exact z _ (dOf_mem hx rfl)
  have d_K : D "KeptError" = k0 := by rw [hD]; exact dOf_at 0 (by decide +kernel) rfl
  have d_BadName : D "BadName" = k1 := by rw [hD]; exact dOf_at 1 (by decide +kernel) rfl
  have T_BadName : Ho.ErrC l.prog w K mg base "BadName" (D "BadName") "word" := by rw [d_BadName]; exact e_BadName base
  have xm_BadName : PySem.W.exmOne K (.ref (D "BadName")) (.ref (D "KeptError")) = some true := by rw [d_BadName, d_K]; exact xm_BadName
  have xs_BadName : PySem.W.exmOne K (.ref (D "BadName")) (.ref (D "BadName")) = some true := by rw [d_BadName]; exact xs_BadName
  have kn_BadName : Ho.Knd K D Kinds (D "BadName") "BadName" "word" := by
    rw [d_BadName]
    refine ⟨t_BadName.xf, t_BadName.xk, xo, t_BadName.no2, t_BadName.no1, fun y hy => ?_, v_BadName⟩
    rw [hD]
    rcases i_BadName _ (dOf_mem (List.mem_cons_of_mem _ hy) rfl) with e | e
    · exact absurd e ((by decide +kernel : ∀ y ∈ Kinds, y ≠ "KeptError") y hy)
    · exact e
  have d_NoLine : D "NoLine" = k3 := by rw [hD]; exact dOf_at 3 (by decide +kernel) rfl
  have T_NoLine : Ho.ErrC l.prog w K mg base "NoLine" (D "NoLine") "word" := by rw [d_NoLine]; exact e_NoLine base
  have xm_NoLine : PySem.W.exmOne K (.ref (D "NoLine")) (.ref (D "KeptError")) = some true := by rw [d_NoLine, d_K]; exact xm_NoLine
  have xs_NoLine : PySem.W.exmOne K (.ref (D "NoLine")) (.ref (D "NoLine")) = some true := by rw [d_NoLine]; exact xs_NoLine
  have kn_NoLine : Ho.Knd K D Kinds (D "NoLine") "NoLine" "word" := by
    rw [d_NoLine]
    refine ⟨t_NoLine.xf, t_NoLine.xk, xo, t_NoLine.no2, t_NoLine.no1, fun y hy => ?_, v_NoLine⟩
    rw [hD]
    rcases i_NoLine _ (dOf_mem (List.mem_cons_of_mem _ hy) rfl) with e | e
    · exact absurd e ((by decide +kernel : ∀ y ∈ Kinds, y ≠ "KeptError") y hy)
    · exact e
  have kn : ∀ p ∈ RefL, Ho.Knd K D Kinds (D p.1) p.1 p.2 := all_cons kn_BadName (all_cons kn_NoLine all_nil)
  have xm : ∀ p ∈ RefL, PySem.W.exmOne K (.ref (D p.1)) (.ref (D "KeptError")) = some true := all_cons xm_BadName (all_cons xm_NoLine all_nil)
  have C__law_take := ok__law_take (P := l.prog) (w := w) (base := base) D__law_take m_int m_len
  have C__law_between := ok__law_between (P := l.prog) (w := w) (base := base) D__law_between C__law_take
  have C__law_store := ok__law_store (P := l.prog) (w := w) (base := base) D__law_store m_list m_len m_int
  have C__law_shuffled := ok__law_shuffled (P := l.prog) (w := w) (base := base) D__law_shuffled m_list m_reversed m_range m_len C__law_take
  have C__law_name := ok__law_name (P := l.prog) (w := w) (base := base) D__law_name m_range C__law_take C__law_between
  have C__law_pick := ok__law_pick (P := l.prog) (w := w) (base := base) D__law_pick m_len C__law_take
  have C__law_names := ok__law_names (P := l.prog) (w := w) (base := base) D__law_names m_range m_int C__law_take C__law_pick C__law_shuffled
  have C__law_is_integer := ok__law_is_integer (P := l.prog) (w := w) (base := base) D__law_is_integer m_isinstance m_int m_bool
  have C__law_same := ok__law_same (P := l.prog) (w := w) (base := base) D__law_same m_isinstance m_bool m_int m_str m_dict m_len m_list m_tuple m_range C__law_is_integer 8
  have C__law_refused_as := ok__law_refused_as (P := l.prog) (w := w) (base := base) D__law_refused_as m_isinstance m_ValueError c_cls
  have C__law_bad_word := ok__law_bad_word (P := l.prog) (w := w) (base := base) D__law_bad_word m_len C__law_take C__law_between C__law_pick C__law_name
  have C__law_not_name := ok__law_not_name (P := l.prog) (w := w) (base := base) D__law_not_name C__law_take C__law_name C__law_bad_word
  have C__law_is_name := ok__law_is_name (P := l.prog) (w := w) (base := base) D__law_is_name m_isinstance m_str m_len
  have C_is_name := ok_is_name (P := l.prog) (w := w) (base := base) D_is_name m_isinstance m_str m_len m_all c_LONGEST_NAME
  have C_check_name := ok_check_name (P := l.prog) (w := w) (base := base) D_check_name T_BadName C_is_name
  have C_starts_at := ok_starts_at (P := l.prog) (w := w) (base := base) D_starts_at m_len
  have C_stops_at := ok_stops_at (P := l.prog) (w := w) (base := base) D_stops_at m_len
  have C_is_house_key := ok_is_house_key (P := l.prog) (w := w) (base := base) D_is_house_key m_len C_is_name
  have C_is_arc_key := ok_is_arc_key (P := l.prog) (w := w) (base := base) D_is_arc_key m_len C_is_name
  have C_is_paired := ok_is_paired (P := l.prog) (w := w) (base := base) D_is_paired m_all m_len
  have C_is_round := ok_is_round (P := l.prog) (w := w) (base := base) D_is_round m_all m_enumerate C_starts_at C_stops_at
  have C_is_tour := ok_is_tour (P := l.prog) (w := w) (base := base) D_is_tour m_len m_all C_is_house_key C_is_arc_key C_is_paired C_is_round
  have C_parted := ok_parted (P := l.prog) (w := w) (base := base) D_parted m_enumerate m_list m_len T_NoLine C_check_name
  have C_tour_houses := ok_tour_houses (P := l.prog) (w := w) (base := base) D_tour_houses m_sorted m_len
  have C_tour_lines := ok_tour_lines (P := l.prog) (w := w) (base := base) D_tour_lines m_sorted m_len
  have C__law_line_names := ok__law_line_names (P := l.prog) (w := w) (base := base) D__law_line_names m_list C__law_take C__law_names
  have C__law_turned := ok__law_turned (P := l.prog) (w := w) (base := base) D__law_turned
  have C__law_linked := ok__law_linked (P := l.prog) (w := w) (base := base) D__law_linked C__law_turned
  have C__law_tour := ok__law_tour (P := l.prog) (w := w) (base := base) D__law_tour m_range m_len C__law_take C__law_linked
  have C__law_tour_houses := ok__law_tour_houses (P := l.prog) (w := w) (base := base) D__law_tour_houses m_sorted
  have C__law_tour_lines := ok__law_tour_lines (P := l.prog) (w := w) (base := base) D__law_tour_lines m_sorted
  have C__law_is_tour := ok__law_is_tour (P := l.prog) (w := w) (base := base) D__law_is_tour m_range m_len m_sorted m_list m_int C__law_is_name
  have C__law_both := ok__law_both (P := l.prog) (w := w) (base := base) D__law_both
  have C__law_part_told := ok__law_part_told (P := l.prog) (w := w) (base := base) D__law_part_told c_cls C_parted C__law_refused_as kn xm
  have C__law_wrong_line := ok__law_wrong_line (P := l.prog) (w := w) (base := base) D__law_wrong_line m_len m_max C__law_take C__law_pick C__law_not_name C__law_tour_houses C__law_tour_lines
  have C__law_refused := ok__law_refused (P := l.prog) (w := w) (base := base) D__law_refused m_list C__law_same C__law_is_name C__law_part_told
  have C__law_walked := ok__law_walked (P := l.prog) (w := w) (base := base) D__law_walked m_sorted m_list C_is_tour C_tour_houses C_tour_lines C__law_same C__law_tour_houses C__law_tour_lines C__law_is_tour
  have C__law_parts_in_two := ok__law_parts_in_two (P := l.prog) (w := w) (base := base) D__law_parts_in_two m_list C_parted C__law_same C__law_both C__law_part_told C__law_walked
  exact ok_law FL m_len C__law_store C__law_take C__law_between C__law_shuffled C__law_names C__law_line_names C__law_tour C__law_tour_lines C__law_both C__law_wrong_line C__law_refused C__law_parts_in_two
end Kj
open PySem PySem.W PyProof.Rows
set_option maxHeartbeats 0 in
theorem PySem.Challenge.cw_keptjoined_k26_parted_tours_holds : PySem.Challenge.rw_keptjoined_k26_parted_tours.Holds := by
  w_on; o_law; k_head; (case hw => w_witness2)
  k_fill
  refine L2.walk_of (l := PySem.Challenge.rw_keptjoined_k26_parted_tours) (n := 63) (k := 14) (x := "script") (CX := fun w => L2N.CX PySem.Challenge.rw_keptjoined_k26_parted_tours.prog w) (sp := fun w => Kj.spLaw _) rfl (by decide) rfl ⟨rfl, by decide, by decide⟩ (fun w h Y => PySem.W.kIn_of Y) ?F (fun _ _ a ns hl _ hS => ⟨a, ns, rfl, hS, hl, fun _ => rfl⟩) (fun _ _ _ _ _ h => Kj.cx_no h)
  case F =>
    intro w mg fa h KX G hmg
    refine' Kj.all_mk KX G hmg (Rd.def_mk KX G ?a0 ?l0 ?c0 ?k0 Kj.bd_is_name) (Rd.def_mk KX G ?a1 ?l1 ?c1 ?k1 Kj.bd_check_name) (Rd.def_mk KX G ?a2 ?l2 ?c2 ?k2 Kj.bd_starts_at) (Rd.def_mk KX G ?a3 ?l3 ?c3 ?k3 Kj.bd_stops_at) (Rd.def_mk KX G ?a4 ?l4 ?c4 ?k4 Kj.bd_is_tour) (Rd.def_mk KX G ?a5 ?l5 ?c5 ?k5 Kj.bd_is_house_key) (Rd.def_mk KX G ?a6 ?l6 ?c6 ?k6 Kj.bd_is_arc_key) (Rd.def_mk KX G ?a7 ?l7 ?c7 ?k7 Kj.bd_is_paired) (Rd.def_mk KX G ?a8 ?l8 ?c8 ?k8 Kj.bd_is_round) (Rd.def_mk KX G ?a9 ?l9 ?c9 ?k9 Kj.bd_parted) (Rd.def_mk KX G ?a10 ?l10 ?c10 ?k10 Kj.bd_tour_houses) (Rd.def_mk KX G ?a11 ?l11 ?c11 ?k11 Kj.bd_tour_lines) (Rd.def_mk KX G ?a12 ?l12 ?c12 ?k12 Kj.bd__law_store) (Rd.def_mk KX G ?a13 ?l13 ?c13 ?k13 Kj.bd__law_take) (Rd.def_mk KX G ?a14 ?l14 ?c14 ?k14 Kj.bd__law_between) (Rd.def_mk KX G ?a15 ?l15 ?c15 ?k15 Kj.bd__law_pick) (Rd.def_mk KX G ?a16 ?l16 ?c16 ?k16 Kj.bd__law_shuffled) (Rd.def_mk KX G ?a17 ?l17 ?c17 ?k17 Kj.bd__law_is_integer) (Rd.def_mk KX G ?a18 ?l18 ?c18 ?k18 Kj.bd__law_same) (Rd.def_mk KX G ?a19 ?l19 ?c19 ?k19 Kj.bd__law_is_name) (Rd.def_mk KX G ?a20 ?l20 ?c20 ?k20 Kj.bd__law_name) (Rd.def_mk KX G ?a21 ?l21 ?c21 ?k21 Kj.bd__law_names) (Rd.def_mk KX G ?a22 ?l22 ?c22 ?k22 Kj.bd__law_bad_word) (Rd.def_mk KX G ?a23 ?l23 ?c23 ?k23 Kj.bd__law_not_name) (Rd.def_mk KX G ?a24 ?l24 ?c24 ?k24 Kj.bd__law_line_names) (Rd.def_mk KX G ?a25 ?l25 ?c25 ?k25 Kj.bd__law_turned) (Rd.def_mk KX G ?a26 ?l26 ?c26 ?k26 Kj.bd__law_linked) (Rd.def_mk KX G ?a27 ?l27 ?c27 ?k27 Kj.bd__law_tour) (Rd.def_mk KX G ?a28 ?l28 ?c28 ?k28 Kj.bd__law_tour_houses) (Rd.def_mk KX G ?a29 ?l29 ?c29 ?k29 Kj.bd__law_tour_lines) (Rd.def_mk KX G ?a30 ?l30 ?c30 ?k30 Kj.bd__law_is_tour) (Rd.def_mk KX G ?a31 ?l31 ?c31 ?k31 Kj.bd__law_refused_as) (Rd.def_mk KX G ?a32 ?l32 ?c32 ?k32 Kj.bd__law_both) (Rd.def_mk KX G ?a33 ?l33 ?c33 ?k33 Kj.bd__law_part_told) (Rd.def_mk KX G ?a34 ?l34 ?c34 ?k34 Kj.bd__law_wrong_line) (Rd.def_mk KX G ?a35 ?l35 ?c35 ?k35 Kj.bd__law_refused) (Rd.def_mk KX G ?a36 ?l36 ?c36 ?k36 Kj.bd__law_walked) (Rd.def_mk KX G ?a37 ?l37 ?c37 ?k37 Kj.bd__law_parts_in_two) ?aL ?lL ?cL ?kL (PySem.W.mg_none_of KX G ?z0) (PySem.W.mg_none_of KX G ?z1) (PySem.W.mg_none_of KX G ?z2) (PySem.W.mg_none_of KX G ?z3) (PySem.W.mg_none_of KX G ?z4) (PySem.W.mg_none_of KX G ?z5) (PySem.W.mg_none_of KX G ?z6) (PySem.W.mg_none_of KX G ?z7) (PySem.W.mg_none_of KX G ?z8) (PySem.W.mg_none_of KX G ?z9) (PySem.W.mg_none_of KX G ?z10) (PySem.W.mg_none_of KX G ?z11) (PySem.W.mg_none_of KX G ?z12) (PySem.W.mg_none_of KX G ?z13) (PySem.W.mg_none_of KX G ?z14) ⟨_, PySem.W.mg_of KX G ?y0⟩ (Kj.all_cons (PySem.W.mg_of KX G ?w0) (Kj.all_cons (PySem.W.mg_of KX G ?w1) (Kj.all_cons (PySem.W.mg_of KX G ?w2) (Kj.all_cons (PySem.W.mg_of KX G ?w3) (Kj.all_cons (PySem.W.mg_of KX G ?w4) (Kj.all_cons (PySem.W.mg_of KX G ?w5) (Kj.all_cons (PySem.W.mg_of KX G ?w6) (Kj.all_cons (PySem.W.mg_of KX G ?w7) (Kj.all_cons (PySem.W.mg_of KX G ?w8) (Kj.all_cons (PySem.W.mg_of KX G ?w9) Kj.all_nil)))))))))) ⟨?x1, ?x2⟩ (Kj.err_BadName (PySem.W.mg_of KX G ?w1) (Kj.clsK ?e0_xL ?e0_sa ?e0_ga ?e0_gg ?e0_n1 ?e0_n2 ?e0_kC ?e0_eC ?e0_tC ?e0_hC ?e0_cl ?e0_ca ?e0_ob) ?e0_iC ?e0_tI ?e0_l ?e0_c ?e0_kI) (Kj.clsK ?e0_xL ?e0_sa ?e0_ga ?e0_gg ?e0_n1 ?e0_n2 ?e0_kC ?e0_eC ?e0_tC ?e0_hC ?e0_cl ?e0_ca ?e0_ob) (Kj.all_cons (.inl rfl) (Kj.all_cons (.inr (Kj.isB (x := "BadName") (code := "BadName") (b := true) ?e0_i1 (by decide +kernel))) (Kj.all_cons (.inr (Kj.isB (x := "NoHouse") (code := "BadName") (b := false) ?e0_i2 (by decide +kernel))) (Kj.all_cons (.inr (Kj.isB (x := "NoLine") (code := "BadName") (b := false) ?e0_i3 (by decide +kernel))) (Kj.all_cons (.inr (Kj.isB (x := "SelfLine") (code := "BadName") (b := false) ?e0_i4 (by decide +kernel))) (Kj.all_cons (.inr (Kj.isB (x := "Taken") (code := "BadName") (b := false) ?e0_i5 (by decide +kernel))) (Kj.all_cons (.inr (Kj.isB (x := "SamePart") (code := "BadName") (b := false) ?e0_i6 (by decide +kernel))) (Kj.all_cons (.inr (Kj.isB (x := "NoVersion") (code := "BadName") (b := false) ?e0_i7 (by decide +kernel))) (Kj.all_cons (.inr (Kj.isB (x := "BadNumber") (code := "BadName") (b := false) ?e0_i8 (by decide +kernel))) (Kj.all_cons (.inr (Kj.isB (x := "NoSeat") (code := "BadName") (b := false) ?e0_i9 (by decide +kernel))) Kj.all_nil)))))))))) ?e0_v ?e0_xm ?e0_xs (Kj.err_NoLine (PySem.W.mg_of KX G ?w3) (Kj.clsK ?e1_xL ?e1_sa ?e1_ga ?e1_gg ?e1_n1 ?e1_n2 ?e1_kC ?e1_eC ?e1_tC ?e1_hC ?e1_cl ?e1_ca ?e1_ob) ?e1_iC ?e1_tI ?e1_l ?e1_c ?e1_kI) (Kj.clsK ?e1_xL ?e1_sa ?e1_ga ?e1_gg ?e1_n1 ?e1_n2 ?e1_kC ?e1_eC ?e1_tC ?e1_hC ?e1_cl ?e1_ca ?e1_ob) (Kj.all_cons (.inl rfl) (Kj.all_cons (.inr (Kj.isB (x := "BadName") (code := "NoLine") (b := false) ?e1_i1 (by decide +kernel))) (Kj.all_cons (.inr (Kj.isB (x := "NoHouse") (code := "NoLine") (b := false) ?e1_i2 (by decide +kernel))) (Kj.all_cons (.inr (Kj.isB (x := "NoLine") (code := "NoLine") (b := true) ?e1_i3 (by decide +kernel))) (Kj.all_cons (.inr (Kj.isB (x := "SelfLine") (code := "NoLine") (b := false) ?e1_i4 (by decide +kernel))) (Kj.all_cons (.inr (Kj.isB (x := "Taken") (code := "NoLine") (b := false) ?e1_i5 (by decide +kernel))) (Kj.all_cons (.inr (Kj.isB (x := "SamePart") (code := "NoLine") (b := false) ?e1_i6 (by decide +kernel))) (Kj.all_cons (.inr (Kj.isB (x := "NoVersion") (code := "NoLine") (b := false) ?e1_i7 (by decide +kernel))) (Kj.all_cons (.inr (Kj.isB (x := "BadNumber") (code := "NoLine") (b := false) ?e1_i8 (by decide +kernel))) (Kj.all_cons (.inr (Kj.isB (x := "NoSeat") (code := "NoLine") (b := false) ?e1_i9 (by decide +kernel))) Kj.all_nil)))))))))) ?e1_v ?e1_xm ?e1_xs
    (case a0 => k_is); (case l0 => k_is); (case c0 => k_is); (case k0 => k_is); (case a1 => k_is); (case l1 => k_is); (case c1 => k_is); (case k1 => k_is); (case a2 => k_is); (case l2 => k_is); (case c2 => k_is); (case k2 => k_is); (case a3 => k_is); (case l3 => k_is); (case c3 => k_is); (case k3 => k_is); (case a4 => k_is); (case l4 => k_is); (case c4 => k_is); (case k4 => k_is); (case a5 => k_is); (case l5 => k_is); (case c5 => k_is); (case k5 => k_is); (case a6 => k_is); (case l6 => k_is); (case c6 => k_is); (case k6 => k_is); (case a7 => k_is); (case l7 => k_is); (case c7 => k_is); (case k7 => k_is); (case a8 => k_is); (case l8 => k_is); (case c8 => k_is); (case k8 => k_is); (case a9 => k_is); (case l9 => k_is); (case c9 => k_is); (case k9 => k_is); (case a10 => k_is); (case l10 => k_is); (case c10 => k_is); (case k10 => k_is); (case a11 => k_is); (case l11 => k_is); (case c11 => k_is); (case k11 => k_is); (case a12 => k_is); (case l12 => k_is); (case c12 => k_is); (case k12 => k_is); (case a13 => k_is); (case l13 => k_is); (case c13 => k_is); (case k13 => k_is); (case a14 => k_is); (case l14 => k_is); (case c14 => k_is); (case k14 => k_is); (case a15 => k_is); (case l15 => k_is); (case c15 => k_is); (case k15 => k_is); (case a16 => k_is); (case l16 => k_is); (case c16 => k_is); (case k16 => k_is); (case a17 => k_is); (case l17 => k_is); (case c17 => k_is); (case k17 => k_is); (case a18 => k_is); (case l18 => k_is); (case c18 => k_is); (case k18 => k_is); (case a19 => k_is); (case l19 => k_is); (case c19 => k_is); (case k19 => k_is); (case a20 => k_is); (case l20 => k_is); (case c20 => k_is); (case k20 => k_is); (case a21 => k_is); (case l21 => k_is); (case c21 => k_is); (case k21 => k_is); (case a22 => k_is); (case l22 => k_is); (case c22 => k_is); (case k22 => k_is); (case a23 => k_is); (case l23 => k_is); (case c23 => k_is); (case k23 => k_is); (case a24 => k_is); (case l24 => k_is); (case c24 => k_is); (case k24 => k_is); (case a25 => k_is); (case l25 => k_is); (case c25 => k_is); (case k25 => k_is); (case a26 => k_is); (case l26 => k_is); (case c26 => k_is); (case k26 => k_is); (case a27 => k_is); (case l27 => k_is); (case c27 => k_is); (case k27 => k_is); (case a28 => k_is); (case l28 => k_is); (case c28 => k_is); (case k28 => k_is); (case a29 => k_is); (case l29 => k_is); (case c29 => k_is); (case k29 => k_is); (case a30 => k_is); (case l30 => k_is); (case c30 => k_is); (case k30 => k_is); (case a31 => k_is); (case l31 => k_is); (case c31 => k_is); (case k31 => k_is); (case a32 => k_is); (case l32 => k_is); (case c32 => k_is); (case k32 => k_is); (case a33 => k_is); (case l33 => k_is); (case c33 => k_is); (case k33 => k_is); (case a34 => k_is); (case l34 => k_is); (case c34 => k_is); (case k34 => k_is); (case a35 => k_is); (case l35 => k_is); (case c35 => k_is); (case k35 => k_is); (case a36 => k_is); (case l36 => k_is); (case c36 => k_is); (case k36 => k_is); (case a37 => k_is); (case l37 => k_is); (case c37 => k_is); (case k37 => k_is); (case aL => k_is); (case lL => k_is); (case cL => k_is); (case kL => k_is); (case z0 => k_is); (case z1 => k_is); (case z2 => k_is); (case z3 => k_is); (case z4 => k_is); (case z5 => k_is); (case z6 => k_is); (case z7 => k_is); (case z8 => k_is); (case z9 => k_is); (case z10 => k_is); (case z11 => k_is); (case z12 => k_is); (case z13 => k_is); (case z14 => k_is); (case y0 => first | k_is | rfl | kernel_rfl | (trace_state; k_is)); (case w0 => k_is); (case w1 => k_is); (case w2 => k_is); (case w3 => k_is); (case w4 => k_is); (case w5 => k_is); (case w6 => k_is); (case w7 => k_is); (case w8 => k_is); (case w9 => k_is); (case x1 => k_is); (case x2 => k_is); (case e0_xL => k_is); (case e0_sa => k_is); (case e0_ga => k_is); (case e0_gg => k_is); (case e0_n1 => k_is); (case e0_n2 => k_is); (case e0_kC => k_is); (case e0_eC => k_is); (case e0_tC => k_is); (case e0_hC => k_is); (case e0_ca => k_is); (case e0_ob => k_is); (case e0_iC => k_is); (case e0_tI => k_is); (case e0_l => k_is); (case e0_c => k_is); (case e0_kI => k_is); (case e0_cl => k_is); (case e0_i1 => kit_is); (case e0_i2 => kit_is); (case e0_i3 => kit_is); (case e0_i4 => kit_is); (case e0_i5 => kit_is); (case e0_i6 => kit_is); (case e0_i7 => kit_is); (case e0_i8 => kit_is); (case e0_i9 => kit_is); (case e0_v => kit_is); (case e0_xm => kts_exm); (case e0_xs => kts_exm); (case e1_xL => k_is); (case e1_sa => k_is); (case e1_ga => k_is); (case e1_gg => k_is); (case e1_n1 => k_is); (case e1_n2 => k_is); (case e1_kC => k_is); (case e1_eC => k_is); (case e1_tC => k_is); (case e1_hC => k_is); (case e1_ca => k_is); (case e1_ob => k_is); (case e1_iC => k_is); (case e1_tI => k_is); (case e1_l => k_is); (case e1_c => k_is); (case e1_kI => k_is); (case e1_cl => k_is); (case e1_i1 => kit_is); (case e1_i2 => kit_is); (case e1_i3 => kit_is); (case e1_i4 => kit_is); (case e1_i5 => kit_is); (case e1_i6 => kit_is); (case e1_i7 => kit_is); (case e1_i8 => kit_is); (case e1_i9 => kit_is); (case e1_v => kit_is); (case e1_xm => kts_exm); (case e1_xs => kts_exm)
